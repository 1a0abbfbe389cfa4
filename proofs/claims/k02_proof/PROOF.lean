import PyProof.Rows.All
import Wide.All
import OpenK.AllK
import Wide.FinOn
import Lean
import PyProof.EqAt
import PyProof.EqKinds
import PyProof.TupleCall
import PySem.Challenge.RW_twinshelves_k02_marks_within
set_option Elab.async false
set_option linter.all false
set_option maxRecDepth 100000
/-! THE HAND LAYER, for ints, bools, texts, own classes, LISTS and tuples (index, slices, in, append, pop ..), calls, loops. Paste it whole ahead of your own text; what your proof does not reach may be deleted. -/
namespace L2
open PySem PySem.Spec PyProof.Rows

/-- a key: an int or a str -/
abbrev Key := Sum Int Str
def keyIs : Key → Value → Bool
  | .inl k, v => Value.isInt k v
  | .inr x, v => Value.isStrOf x v
def keyH (w : World) : Key → Int
  | .inl k => hashInt k
  | .inr x => hashStr w x
theorem keyIs_shape : ∀ {k : Key} {v : Value}, keyIs k v = true → (∃ i t, k = Sum.inl i ∧ v = Value.int i t) ∨ (∃ x t, k = Sum.inr x ∧ v = Value.str x t)
  | .inl i, v, h => by
    obtain ⟨t, e⟩ := Value.isInt_shape (k := i) (v := v) h
    exact .inl ⟨i, t, rfl, e⟩
  | .inr x, v, h => by
    obtain ⟨t, e⟩ := Value.isStrOf_shape (x := x) (v := v) h
    exact .inr ⟨x, t, rfl, e⟩
theorem keyIs_int (i : Int) (t : Tok) : keyIs (.inl i) (.int i t) = true := by simp [keyIs, Value.isInt]
theorem keyIs_str (x : Str) (t : Tok) : keyIs (.inr x) (.str x t) = true := by simp [keyIs, Value.isStrOf]
theorem key_ll (a b : Int) : decide ((Sum.inl a : Key) = Sum.inl b) = (a == b) := by
  by_cases e : a = b
  · subst e; simp
  · have h : ¬ (Sum.inl a : Key) = Sum.inl b := fun q => e (Sum.inl.inj q)
    rw [decide_eq_false h]
    exact (beq_eq_false_iff_ne.mpr e).symm
theorem key_rr (a b : Str) : decide ((Sum.inr a : Key) = Sum.inr b) = decide (a = b) := by
  by_cases e : a = b
  · subst e; simp
  · have h : ¬ (Sum.inr a : Key) = Sum.inr b := fun q => e (Sum.inr.inj q)
    rw [decide_eq_false h, decide_eq_false e]
theorem key_lr (a : Int) (b : Str) : decide ((Sum.inl a : Key) = Sum.inr b) = false := decide_eq_false (fun q => nomatch q)
theorem key_rl (a : Str) (b : Int) : decide ((Sum.inr a : Key) = Sum.inl b) = false := decide_eq_false (fun q => nomatch q)

def mixKind (prog : Program) (w : World) : PySem.KeyKind prog w Key where
  is := keyIs
  hash := keyH w
  inj := fun v a b ha hb => by
    rcases keyIs_shape ha with ⟨i, t, rfl, rfl⟩ | ⟨x, t, rfl, rfl⟩
    · rcases keyIs_shape hb with ⟨j, u, rfl, e⟩ | ⟨y, u, rfl, e⟩
      · injection e with e1 _; rw [e1]
      · exact nomatch e
    · rcases keyIs_shape hb with ⟨j, u, rfl, e⟩ | ⟨y, u, rfl, e⟩
      · exact nomatch e
      · injection e with e1 _; rw [e1]
  byValue := fun k v h => by
    rcases keyIs_shape h with ⟨i, t, rfl, rfl⟩ | ⟨x, t, rfl, rfl⟩ <;> rfl
  pyHash := fun hv h => by
    rcases keyIs_shape hv with ⟨i, t, rfl, rfl⟩ | ⟨x, t, rfl, rfl⟩
    · exact wpAny_pyHash_int h
    · exact wpAny_pyHash_str h
  eqBool := fun hu hv h => by
    rcases keyIs_shape hu with ⟨i, t, rfl, rfl⟩ | ⟨x, t, rfl, rfl⟩
    · rcases keyIs_shape hv with ⟨j, u, rfl, rfl⟩ | ⟨y, u, rfl, rfl⟩
      · rw [key_ll] at h; exact wpAny_eqBool_int h
      · rw [key_lr] at h; exact SeqAt.EqAt.int_str i t y u _ _ _ _ h
    · rcases keyIs_shape hv with ⟨j, u, rfl, rfl⟩ | ⟨y, u, rfl, rfl⟩
      · rw [key_rl] at h; exact SeqAt.EqAt.str_int x t j u _ _ _ _ h
      · rw [key_rr] at h; exact wpAny_eqBool_str h
  «strs» := fun k x t v h => by
    rcases keyIs_shape h with ⟨i, u, rfl, e⟩ | ⟨y, u, rfl, e⟩
    · exact nomatch e
    · injection e with e1 _
      subst e1
      cases v <;> rfl

theorem mixKind_is (prog : Program) (w : World) (k : Key) (v : Value) : (mixKind prog w).is k v = keyIs k v := rfl
theorem mixKind_int (prog : Program) (w : World) (i : Int) (t : Tok) : (mixKind prog w).is (.inl i) (.int i t) = true := keyIs_int i t
theorem mixKind_str (prog : Program) (w : World) (x : Str) (t : Tok) : (mixKind prog w).is (.inr x) (.str x t) = true := keyIs_str x t
end L2

namespace L2
open PySem PySem.Spec PyProof.Rows

/-- a value, without the heap -/
inductive V where
  | non | bl (b : Bool) | int (i : Int) | str (x : Str) | byt (b : Array UInt8) | flt (b : UInt64) | ref (a : Addr) | ty (n : String)
  deriving DecidableEq

def RelV : V → Value → Prop
  | .non, u => u = Value.none
  | .bl b, u => u = Value.bool b
  | .int i, u => ∃ t, u = Value.int i t
  | .str x, u => ∃ t, u = Value.str x t
  | .byt b, u => ∃ t, u = Value.bytes b t
  | .flt b, u => ∃ t, u = Value.float b t
  | .ref a, u => u = Value.ref a
  | .ty n, u => u = Value.type n

abbrev Vals : List V → List Value → Prop := Paired RelV
theorem Vals.length {xs : List V} {us : List Value} (r : Vals xs us) : xs.length = us.length := Paired.length r
theorem Vals.get : ∀ {xs : List V} {us : List Value} {i : Nat} {x : V}, Vals xs us → xs[i]? = some x → ∃ u, us[i]? = some u ∧ RelV x u
  | _, _, _, _, .nil, e => by simp at e
  | _, _, 0, _, .cons r _, e => by simp at e; subst e; exact ⟨_, rfl, r⟩
  | _, _, i + 1, x, .cons _ t, e => by
    obtain ⟨u, h1, h2⟩ := Vals.get (i := i) (x := x) t (by simpa using e)
    exact ⟨u, by simpa using h1, h2⟩
theorem Vals.set {x : V} {u : Value} (r : RelV x u) : ∀ {xs : List V} {us : List Value} (i : Nat), Vals xs us → Vals (xs.set i x) (us.set i u)
  | _, _, _, .nil => .nil
  | _, _, 0, .cons _ t => .cons r t
  | _, _, i + 1, .cons q t => .cons q (Vals.set r i t)
theorem Vals.append : ∀ {xs ys : List V} {us ws : List Value}, Vals xs us → Vals ys ws → Vals (xs ++ ys) (us ++ ws)
  | _, _, _, _, .nil, s => s
  | _, _, _, _, .cons r t, s => .cons r (Vals.append t s)
theorem Vals.take : ∀ {xs : List V} {us : List Value} (n : Nat), Vals xs us → Vals (xs.take n) (us.take n)
  | _, _, 0, _ => .nil
  | _, _, _ + 1, .nil => .nil
  | _, _, n + 1, .cons r t => .cons r (Vals.take n t)
theorem Vals.drop : ∀ {xs : List V} {us : List Value} (n : Nat), Vals xs us → Vals (xs.drop n) (us.drop n)
  | _, _, 0, r => r
  | _, _, _ + 1, .nil => .nil
  | _, _, n + 1, .cons _ t => Vals.drop n t
theorem Vals.none_of : ∀ {xs : List V} {us : List Value} {i : Nat}, Vals xs us → xs[i]? = none → us[i]? = none := fun {xs us i} r e => by
  have h1 := r.length
  have h2 : xs.length ≤ i := List.getElem?_eq_none_iff.mp e
  exact List.getElem?_eq_none_iff.mpr (by omega)

def RelO : Option V → Option Value → Prop
  | some v, some u => RelV v u
  | none, none => True
  | _, _ => False
def KV {κ : Type} : List (κ × V) → List (κ × Value) → Prop := Paired fun (p : κ × V) (q : κ × Value) => p.1 = q.1 ∧ RelV p.2 q.2

/-- a key of a dict (00_mix): an int or a text -/
def kV : Key → V
  | .inl i => .int i
  | .inr x => .str x

/-- what stands at a tracked address -/
inductive HO where
  /-- a list -/
  | lst (xs : List V)
  /-- a tuple (never changes) -/
  | tup (xs : List V)
  /-- a dict whose keys are ints and texts; one whose keys are tuples of ints and texts (the empty one is both) -/
  | dK (kvs : List (Key × V)) | dT (kvs : List (List Key × V))
  /-- a set of ints: its members, its size -/
  | set (S : Int → Bool) (n : Nat)
  /-- an instance of the class at C, its dict at dx, its attributes -/
  | ins (C dx : Addr) (fs : List (Str × V))
  /-- the dict of the instance at x -/
  | own (x : Addr)
  /-- the dict of an exception -/
  | xd (fs : List (Str × V))
  /-- a bound method, f of x -/
  | met (f x : Addr)
  /-- a range object lo, lo + 1, .. below hi -/
  | rng (lo hi : Int)
  /-- a thing that is known to the object (the script; a dict while a loop walks it): read, never written while it is so -/
  | frz (o : Obj) (u : HO)
  /-- a code object's table -/
  | tbl (ps : Array Value)
  /-- any other thing, by what is true of its one object (a def of one's own: SetO a S n := HO.ext fun h => ..) -/
  | ext (φ : Heap → Prop)

abbrev Hp := Addr → Option HO
def upd (H : Hp) (a : Addr) (o : HO) : Hp := fun b => if b = a then some o else H b
theorem upd_same {H : Hp} {a : Addr} {o : HO} : upd H a o a = some o := by unfold upd; rw [if_pos rfl]
theorem upd_ne {H : Hp} {a b : Addr} {o : HO} (h : b ≠ a) : upd H a o b = H b := by unfold upd; rw [if_neg h]
theorem upd_upd {H : Hp} {a : Addr} {o u : HO} : upd (upd H a o) a u = upd H a u := by
  funext b; unfold upd; split <;> rfl
/-- two objects of different content stand apart -/
theorem ne_of {H : Hp} {a b : Addr} {o u : HO} (h : H a = some o) (h' : H b = some u) (d : o ≠ u) : a ≠ b := by
  intro e; subst e; rw [h] at h'; exact d (Option.some.inj h')
theorem ne_of_none {H : Hp} {a b : Addr} {o : HO} (h : H a = some o) (h' : H b = none) : a ≠ b := by
  intro e; subst e; rw [h] at h'; cases h'

/-- a tuple without a dict of its own (own text) -/
def TupO (h : Heap) (a : Addr) (items : Array Value) : Prop := IsTup h a items ∧ ∃ o, h.get? a = some o ∧ o.dict = none
theorem TupO.new (h : Heap) (items : Array Value) : TupO (h.push { cls := .type "tuple", data := .seq items }) h.objs.size items := ⟨IsTup.new h items, _, Heap.get?_push_size _ rfl, rfl⟩
section
variable (P : Program) (w : World)
def ObjOk (H : Hp) (h : Heap) (a : Addr) : HO → Prop
  | .lst xs => xs.length ≤ sizeLine ∧ ∃ (its : List Value) (n : Nat), Vals xs its ∧ h.get? a = some { cls := .type "list", data := .seq its.toArray n }
  | .tup xs => xs.length ≤ sizeLine ∧ ∃ its : List Value, Vals xs its ∧ TupO h a its.toArray
  | .dK kvs => kvs.length ≤ sizeLine ∧ (a == sysModules) = false ∧ ∃ vs, KV kvs vs ∧ h.DictOf (mixKind P w) a vs
  | .dT kvs => kvs.length ≤ sizeLine ∧ (a == sysModules) = false ∧ ∃ xs : List (List Key × Addr × Value),
      Paired (fun (p : List Key × V) (q : List Key × Addr × Value) => p.1 = q.1 ∧ H q.2.1 = some (.tup (p.1.map kV)) ∧ RelV p.2 q.2.2) kvs xs ∧
      ∃ o es ep, h.get? a = some o ∧ o.ExactDict ∧ o.data = .dict es ep ∧ es.toList = xs.map (entryOfKey (tupleKind (mixKind P w))) ∧ (xs.map (·.1)).Nodup
  | .set S n => h.SetOf (intKind P w) a S n
  | .ins C dx fs => H dx = some (.own a) ∧ fs.length ≤ 1000 ∧ dx ≠ a ∧ h.get? a = some (PySem.W.instObj C dx) ∧
      ∃ mA, h.Ns1 dx mA ∧ (∀ f, RelO (fs.lookup f) (mA f)) ∧ PySem.Within mA (fs.map (·.1))
  | .own _ => ∃ o, h.get? a = some o
  | .xd fs => ∃ mA, h.Ns1 a mA ∧ ∀ f, RelO (fs.lookup f) (mA f)
  | .rng lo hi => ∃ t u v, h.get? a = some { cls := .type "range", data := .fields #[.int lo t, .int hi u, .int 1 v] }
  | .frz o u => h.get? a = some o ∧ ObjOk H h a u
  | .tbl ps => h.get? a = some { cls := .none, data := .fields ps }
  | .met f x => h.get? a = some (PySem.W.methodObj (.ref f) (.ref x))
  | .ext φ => φ h ∧ (∃ o, h.get? a = some o) ∧ ∀ h1 h2 : Heap, φ h1 → (∀ o, h1.get? a = some o → h2.get? a = some o) → φ h2
/-- the abstract heap is held -/
def HOk (H : Hp) (h : Heap) : Prop := ∀ a o, H a = some o → ObjOk P w H h a o
end

section
variable {P : Program} {w : World} {H H' : Hp} {h h' : Heap} {a : Addr} {o : HO}
theorem ObjOk.lt (x : ObjOk P w H h a o) : a < h.objs.size := by
  cases o with
  | lst xs => obtain ⟨_, _, _, _, e⟩ := x; exact Heap.lt_size e
  | tup xs => obtain ⟨_, _, _, p⟩ := x; exact p.1.lt
  | dK kvs => obtain ⟨_, _, _, _, o, _, _, e, _⟩ := x; exact Heap.lt_size e
  | dT kvs => obtain ⟨_, _, _, _, o, _, _, e, _⟩ := x; exact Heap.lt_size e
  | set S n => obtain ⟨o, _, _, _, e, _⟩ := x; exact Heap.lt_size e
  | ins C dx fs => obtain ⟨_, _, _, e, _⟩ := x; exact Heap.lt_size e
  | own y => obtain ⟨_, e⟩ := x; exact Heap.lt_size e
  | xd fs => obtain ⟨_, ⟨_, _, _, e, _⟩, _⟩ := x; exact Heap.lt_size e
  | rng lo hi => obtain ⟨_, _, _, e⟩ := x; exact Heap.lt_size e
  | frz ob u => obtain ⟨e, _⟩ := x; exact Heap.lt_size e
  | tbl ps => exact Heap.lt_size (show h.get? a = some _ from x)
  | met f y => exact Heap.lt_size (show h.get? a = some _ from x)
  | ext φ => obtain ⟨_, ⟨_, e⟩, _⟩ := x; exact Heap.lt_size e
theorem Paired.mapP {α β : Type} {F G : α → β → Prop} : ∀ {l₁ : List α} {l₂ : List β}, Paired F l₁ l₂ → (∀ a b, F a b → G a b) → Paired G l₁ l₂
  | _, _, .nil, _ => .nil
  | _, _, .cons r t, f => .cons (f _ _ r) (Paired.mapP t f)
theorem Paired.imp' {α β : Type} {F G : α → β → Prop} (f : ∀ a b, F a b → G a b) {l₁ : List α} {l₂ : List β} (r : Paired F l₁ l₂) : Paired G l₁ l₂ := Paired.mapP r f
/-- what an object's description leans on: its own object, its own dict, the tuples -/
theorem ObjOk.stay (x : ObjOk P w H h a o) (k : ∀ b u, (b = a ∨ H b = some (.own a)) → h.get? b = some u → h'.get? b = some u)
    (ho : ∀ b, H b = some (.own a) → H' b = some (.own a)) (ht : ∀ b xs, H b = some (.tup xs) → H' b = some (.tup xs)) : ObjOk P w H' h' a o := by
  induction o with
  | lst xs => obtain ⟨z, its, n, r, e⟩ := x; exact ⟨z, its, n, r, k _ _ (.inl rfl) e⟩
  | tup xs => obtain ⟨z, its, r, ⟨ob, e, c⟩, ob2, e2, c2⟩ := x; exact ⟨z, its, r, ⟨ob, k _ _ (.inl rfl) e, c⟩, ob2, k _ _ (.inl rfl) e2, c2⟩
  | dK kvs => obtain ⟨z, y, vs, r, ob, es, ep, e, c⟩ := x; exact ⟨z, y, vs, r, ob, es, ep, k _ _ (.inl rfl) e, c⟩
  | dT kvs =>
    obtain ⟨z, y, xs, r, ob, es, ep, e, c⟩ := x
    exact ⟨z, y, xs, Paired.mapP r fun p q z => ⟨z.1, ht _ _ z.2.1, z.2.2⟩, ob, es, ep, k _ _ (.inl rfl) e, c⟩
  | set S n => obtain ⟨ob, es, ep, t, e, c⟩ := x; exact ⟨ob, es, ep, t, k _ _ (.inl rfl) e, c⟩
  | ins C dx fs =>
    obtain ⟨d, z, ne, e, mA, ⟨od, es, ep, e2, c⟩, r⟩ := x
    exact ⟨ho _ d, z, ne, k _ _ (.inl rfl) e, mA, ⟨od, es, ep, k _ _ (.inr d) e2, c⟩, r⟩
  | own y => obtain ⟨ob, e⟩ := x; exact ⟨ob, k _ _ (.inl rfl) e⟩
  | xd fs => obtain ⟨mA, ⟨od, es, ep, e, c⟩, r⟩ := x; exact ⟨mA, ⟨od, es, ep, k _ _ (.inl rfl) e, c⟩, r⟩
  | rng lo hi => obtain ⟨t, u, v, e⟩ := x; exact ⟨t, u, v, k _ _ (.inl rfl) e⟩
  | frz ob u ih => obtain ⟨e, q⟩ := x; exact ⟨k _ _ (.inl rfl) e, ih q⟩
  | tbl ps =>
    have e : h.get? a = some { cls := .none, data := .fields ps } := x
    show h'.get? a = some { cls := .none, data := .fields ps }
    exact k a _ (.inl rfl) e
  | met f y =>
    have e : h.get? a = some (PySem.W.methodObj (.ref f) (.ref y)) := x
    show h'.get? a = some (PySem.W.methodObj (.ref f) (.ref y))
    exact k a _ (.inl rfl) e
  | ext φ => obtain ⟨p, ⟨o, e⟩, st⟩ := x; exact ⟨st _ _ p fun o q => k _ _ (.inl rfl) q, ⟨o, k _ _ (.inl rfl) e⟩, st⟩
theorem HOk.lt (x : HOk P w H h) (e : H a = some o) : a < h.objs.size := (x a o e).lt
theorem HOk.fresh (x : HOk P w H h) (e : h.objs.size ≤ a) : H a = none := by
  cases q : H a with
  | none => rfl
  | some u => exact absurd (Nat.lt_of_lt_of_le (x.lt q) e) (Nat.lt_irrefl _)
/-- every object of the heap is kept -/
theorem HOk.kept (x : HOk P w H h) (k : ∀ b u, h.get? b = some u → h'.get? b = some u) : HOk P w H h' := fun a o e =>
  (x a o e).stay (fun b u _ q => k b u q) (fun _ q => q) fun _ _ q => q
/-- a new object is laid and tracked -/
theorem HOk.laid (x : HOk P w H h) (k : ∀ b u, h.get? b = some u → h'.get? b = some u) (hp : h.objs.size ≤ a) (new : ObjOk P w (upd H a o) h' a o) : HOk P w (upd H a o) h' := fun b u e => by
  have hn := x.fresh hp
  by_cases hb : b = a
  · subst hb; rw [upd_same] at e; cases e; exact new
  · rw [upd_ne hb] at e
    exact (x b u e).stay (fun c v _ q => k c v q) (fun c q => by rw [upd_ne (ne_of_none q hn)]; exact q) fun c xs q => by rw [upd_ne (ne_of_none q hn)]; exact q
end

/-- what may be read as u: it is u, or a known u -/
def Rd (H : Hp) (a : Addr) (u : HO) : Prop := H a = some u ∨ ∃ o, H a = some (.frz o u)
theorem Rd.of {H : Hp} {a : Addr} {u : HO} (h : H a = some u) : Rd H a u := .inl h
theorem Rd.ok {P : Program} {w : World} {H : Hp} {h : Heap} {a : Addr} {u : HO} (r : Rd H a u) (x : HOk P w H h) : ObjOk P w H h a u := by
  rcases r with r | ⟨o, r⟩
  · exact x a u r
  · obtain ⟨_, q⟩ := x a _ r
    exact q
/-- what may be written -/
def Mut : Option HO → Prop
  | some (.lst _) => True
  | some (.dK _) => True
  | some (.dT _) => True
  | some (.set _ _) => True
  | some (.ins _ _ _) => True
  | some (.ext _) => True
  | _ => False
section
variable {P : Program} {w : World} {H : Hp} {h h' : Heap} {x e : Addr} {o' : HO}
/-- the object at e is changed: x itself, or the dict of the instance x -/
theorem HOk.write (ok : HOk P w H h) (mu : Mut (H x)) (he : e = x ∨ H e = some (.own x)) (k : ∀ b u, b ≠ e → h.get? b = some u → h'.get? b = some u) (heo : ∃ u, h'.get? e = some u)
    (new : ObjOk P w (upd H x o') h' x o') : HOk P w (upd H x o') h' := fun b u q => by
  have nown : ∀ c y, H c = some (.own y) → c ≠ x := fun c y r z => by subst z; rw [r] at mu; exact mu
  have ntup : ∀ c xs, H c = some (.tup xs) → c ≠ x := fun c xs r z => by subst z; rw [r] at mu; exact mu
  by_cases hb : b = x
  · subst hb; rw [upd_same] at q; cases q; exact new
  · rw [upd_ne hb] at q
    by_cases hbe : b = e
    · have q' : H b = some (.own x) := by
        rcases he with z | z
        · exact absurd (hbe.trans z) hb
        · rw [hbe]; exact z
      rw [q] at q'; cases q'
      obtain ⟨v, hv⟩ := heo
      exact ⟨v, by rw [hbe]; exact hv⟩
    · refine (ok b u q).stay (fun c v hc r => k c v ?_ r) (fun c r => by rw [upd_ne (nown c b r)]; exact r) fun c xs r => by rw [upd_ne (ntup c xs r)]; exact r
      rcases hc with rfl | hc
      · exact hbe
      · rintro rfl
        rcases he with z | z
        · exact nown c b hc z
        · rw [hc] at z; cases z; exact hb rfl
end

/-! ### kept unless tracked; of the frames at fs (the callers') the slots may change (an exception that passes writes there); of the records at ex (iterators) nothing is said -/
structure Un (fs ex : List Addr) (H H' : Hp) (h h' : Heap) : Prop where
  keep : ∀ b o, h.get? b = some o → H b = none → b ∉ fs → b ∉ ex → h'.get? b = some o
  slot : ∀ b o, h.get? b = some o → H b = none → b ∈ fs → b ∉ ex → ∃ sl, h'.get? b = some { o with slots := sl }
  free : ∀ b o, h.get? b = some o → H b = none → b ∉ ex → H' b = none
  there : ∀ b o, h.get? b = some o → b ∉ ex → ∃ o', h'.get? b = some o'
  tups : ∀ b xs, H b = some (.tup xs) → H' b = some (.tup xs)
  frzs : ∀ b o u, H b = some (.frz o u) → H' b = some (.frz o u)
  tbls : ∀ b ps, H b = some (.tbl ps) → ∃ more, H' b = some (.tbl (ps ++ more))
section
variable {fs fs' ex ex' : List Addr} {H H1 H2 : Hp} {h h1 h2 h' : Heap} {a x e : Addr} {o : HO}
theorem Un.any (u : Un fs ex H H1 h h1) {b : Addr} {ob : Obj} (q : h.get? b = some ob) (n : H b = none) (hx : b ∉ ex) : ∃ sl, h1.get? b = some { ob with slots := sl } := by
  by_cases hb : b ∈ fs
  · exact u.slot b ob q n hb hx
  · exact ⟨ob.slots, u.keep b ob q n hb hx⟩
theorem Un.trans (a : Un fs ex H H1 h h1) (b : Un fs ex H1 H2 h1 h2) : Un fs ex H H2 h h2 where
  keep := fun c ob q n hc hx => b.keep c ob (a.keep c ob q n hc hx) (a.free c ob q n hx) hc hx
  slot := fun c ob q n hc hx => by
    obtain ⟨sl, e1⟩ := a.slot c ob q n hc hx
    obtain ⟨sl', e2⟩ := b.slot c _ e1 (a.free c ob q n hx) hc hx
    exact ⟨sl', e2⟩
  free := fun c ob q n hx => by
    obtain ⟨o', e1⟩ := a.there c ob q hx
    exact b.free c o' e1 (a.free c ob q n hx) hx
  there := fun c ob q hx => by
    obtain ⟨o', e1⟩ := a.there c ob q hx
    exact b.there c o' e1 hx
  tups := fun c xs q => b.tups c xs (a.tups c xs q)
  frzs := fun c ob xs q => b.frzs c ob xs (a.frzs c ob xs q)
  tbls := fun c ps q => by
    obtain ⟨m1, e1⟩ := a.tbls c ps q
    obtain ⟨m2, e2⟩ := b.tbls c _ e1
    exact ⟨m1 ++ m2, by rw [e2, Array.append_assoc]⟩
theorem Un.kept (k : ∀ b u, h.get? b = some u → h'.get? b = some u) : Un fs ex H H h h' :=
  ⟨fun b ob q _ _ _ => k b ob q, fun b ob q _ _ _ => ⟨ob.slots, k b ob q⟩, fun _ _ _ n _ => n, fun b ob q _ => ⟨ob, k b ob q⟩, fun _ _ q => q, fun _ _ _ q => q, fun _ ps q => ⟨#[], by rw [q]; simp⟩⟩
theorem Un.refl : Un fs ex H H h h := Un.kept fun _ _ q => q
theorem Un.laid (k : ∀ b u, h.get? b = some u → h'.get? b = some u) (hp : h.objs.size ≤ a) (hn : H a = none) : Un fs ex H (upd H a o) h h' where
  keep := fun b u q _ _ _ => k b u q
  slot := fun b u q _ _ _ => ⟨u.slots, k b u q⟩
  free := fun b u q n _ => by rw [upd_ne (Nat.ne_of_lt (Nat.lt_of_lt_of_le (Heap.lt_size q) hp))]; exact n
  there := fun b u q _ => ⟨u, k b u q⟩
  tups := fun b xs q => by rw [upd_ne (ne_of_none q hn)]; exact q
  frzs := fun b u xs q => by rw [upd_ne (ne_of_none q hn)]; exact q
  tbls := fun b ps q => ⟨#[], by rw [upd_ne (ne_of_none q hn), q]; simp⟩
theorem Un.write (mu : Mut (H x)) (he : e = x ∨ H e = some (.own x)) (k : ∀ b u, b ≠ e → h.get? b = some u → h'.get? b = some u) (heo : ∃ u, h'.get? e = some u) : Un fs ex H (upd H x o) h h' := by
  have hx : ∀ b, H b = none → b ≠ x := fun b n z => by subst z; rw [n] at mu; exact mu
  have hb : ∀ b, H b = none → b ≠ e := fun b n z => by
    subst z
    rcases he with r | r
    · exact hx b n r
    · rw [n] at r; cases r
  have hm : ∀ b u, H b = some u → ¬ Mut (some u) → b ≠ x := fun b u q nm z => by subst z; rw [q] at mu; exact nm mu
  refine ⟨fun b u q n _ _ => k b u (hb b n) q, fun b u q n _ _ => ⟨u.slots, k b u (hb b n) q⟩, fun b u q n _ => by rw [upd_ne (hx b n)]; exact n, fun b u q _ => ?_,
    fun b xs q => by rw [upd_ne (hm b _ q fun z => z)]; exact q, fun b u xs q => by rw [upd_ne (hm b _ q fun z => z)]; exact q, fun b ps q => ⟨#[], by rw [upd_ne (hm b _ q fun z => z), q]; simp⟩⟩
  by_cases hbe : b = e
  · subst hbe; exact heo
  · exact ⟨u, k b u hbe q⟩
theorem Un.mono (u : Un fs ex H H1 h h1) (hs : ∀ b ∈ fs, b ∈ fs') (hx : ∀ b ∈ ex, b ∈ ex') : Un fs' ex' H H1 h h1 :=
  ⟨fun b ob q n hb he => u.keep b ob q n (fun z => hb (hs b z)) fun z => he (hx b z), fun _ _ q n _ he => u.any q n fun z => he (hx _ z), fun b ob q n he => u.free b ob q n fun z => he (hx b z), fun b ob q he => u.there b ob q fun z => he (hx b z), u.tups, u.frzs, u.tbls⟩
end

/-! ### the heap without what is tracked -/
def trk (h : Heap) (H : Hp) : List Addr := (List.range h.objs.size).filter fun a => (H a).isSome
def hidT (h : Heap) (H : Hp) : Heap := PySem.W.hideAll h (trk h H)
theorem hidT_size (h : Heap) (H : Hp) : (hidT h H).objs.size = h.objs.size := PySem.W.hideAll_size _ _
theorem hidT_get {h : Heap} {H : Hp} {b : Addr} {o : Obj} (e : h.get? b = some o) (n : H b = none) : (hidT h H).get? b = some o :=
  PySem.W.hideAll_get _ e fun hm => by
    have q : (H b).isSome = true := (List.mem_filter.mp hm).2
    rw [n] at q; simp at q
theorem of_hidT {h : Heap} {H : Hp} {b : Addr} {o : Obj} (e : (hidT h H).get? b = some o) : h.get? b = some o ∧ H b = none := by
  have e' : h.get? b = some o := PySem.W.of_hideAll (trk h H) e
  refine ⟨e', ?_⟩
  cases q : H b with
  | none => rfl
  | some x =>
    have hm : b ∈ trk h H := List.mem_filter.mpr ⟨List.mem_range.mpr (Heap.lt_size e'), by simp [q]⟩
    have z : (hidT h H).get? b = none := PySem.W.hideAll_none (trk h H) hm
    rw [z] at e; cases e

/-! ### OpenK's ledger, filled with every new object but one -/
def allNews (g h : Heap) (L : Addr) : List (Addr × Obj) := (List.range h.objs.size).filterMap fun a => if a = L ∨ (g.get? a).isSome = true then none else (h.get? a).map fun o => (a, o)
theorem mem_allNews {g h : Heap} {L a : Addr} {o : Obj} (h1 : a ≠ L) (h2 : g.get? a = none) (h3 : h.get? a = some o) : (a, o) ∈ allNews g h L :=
  List.mem_filterMap.mpr ⟨a, List.mem_range.mpr (Heap.lt_size h3), by simp [h1, h2, h3]⟩
theorem of_mem_allNews {g h : Heap} {L : Addr} {p : Addr × Obj} (hp : p ∈ allNews g h L) : p.1 ≠ L ∧ g.get? p.1 = none ∧ h.get? p.1 = some p.2 := by
  obtain ⟨b, _, e⟩ := List.mem_filterMap.mp hp
  split at e
  · cases e
  · rename_i hn
    cases q : h.get? b with
    | none => rw [q] at e; simp at e
    | some u =>
      rw [q] at e
      simp only [Option.map_some, Option.some.injEq] at e
      subst e
      refine ⟨fun z => hn (.inl z), ?_, q⟩
      show g.get? b = none
      cases r : g.get? b with
      | none => rfl
      | some v => exact (hn (.inr (by simp [r]))).elim
def rest (g h : Heap) (L d : Addr) : List (Addr × Obj) := (allNews g h L).filter fun p => decide (p.1 ≠ d)
theorem rest_ne {g h : Heap} {L d : Addr} : ∀ p ∈ rest g h L d, p.1 ≠ d := fun p hp => of_decide_eq_true (List.mem_filter.mp hp).2
theorem mem_rest {g h : Heap} {L d a : Addr} {o : Obj} (h1 : a ≠ L) (h2 : g.get? a = none) (h3 : h.get? a = some o) (h4 : a ≠ d) : (a, o) ∈ rest g h L d :=
  List.mem_filter.mpr ⟨mem_allNews h1 h2 h3, decide_eq_true h4⟩
theorem news_all {g h : Heap} {L : Addr} : News g L h (allNews g h L) := fun p hp => let ⟨a, b, c⟩ := of_mem_allNews hp; ⟨c, a, b⟩
theorem news_at {g h : Heap} {L d : Addr} {o : Obj} (h1 : d ≠ L) (h2 : g.get? d = none) (h3 : h.get? d = some o) : News g L h ((d, o) :: rest g h L d) := fun p hp => by
  rcases List.mem_cons.mp hp with rfl | hp
  · exact ⟨h3, h1, h2⟩
  · exact news_all p (List.mem_filter.mp hp).1
/-- behind a rule that changed d alone: all else but the frame is kept -/
theorem kept_of_news {g h h' : Heap} {L d : Addr} {m : Str → Option Value} (k : ∀ b o, g.get? b = some o → h.get? b = some o) (F : Fr g L h' m) (N : News g L h' (rest g h L d)) :
    ∀ b o, b ≠ L → b ≠ d → h.get? b = some o → h'.get? b = some o := fun b o h1 h2 e => by
  cases q : g.get? b with
  | some u =>
    have := k b u q
    rw [e] at this; cases this
    exact F.keep b _ q
  | none => exact (N (b, o) (mem_rest h1 q e h2)).1
end L2

namespace L2
open PySem PySem.Spec PyProof.Rows

/-- the module's facts, over the base: the heap at the law's entry without what is tracked there -/
structure Mod (K : PySem.W.Frag) (mg : Str → Option Value) (base : Heap) : Prop where
  kin : K.In base
  glob : base.Ns mainGlobals mg
  blt : ∃ mb, base.Ns builtinsNs mb ∧ ∀ x : Str, x ≠ "__name__" → mb x = bootBuiltins x
  nolimit : base.NoLimit

/-- the context: a def's body (or a comprehension's block) running. base: fixed through the whole law; s₀, H₀: the entry; outer: the frames whose slots others may change (a def's callers); stack: all frames that run;
   ex: iterators that were made ahead of the entry and are walked here (a comprehension's); fn: the names whose cells were made at the entry (a def: all; a comprehension's block: its own); calm: not within an except suite; pn: pins that every state bears; xe: what is wanted of an exception that leaves the code -/
structure Cx where
  prog : Program
  w : World
  K : PySem.W.Frag
  mg : Str → Option Value
  base : Heap
  A : Around
  N : List Str
  s₀ : Shared
  H₀ : Hp
  env : Env
  outer : List Env
  stack : List Env
  ex : List Addr
  fn : Str → Bool
  calm : Bool
  pn : List (Addr × Obj)
  xe : Value → Shared → Prop
/-- the callers' frames -/
def frs (l : List Env) : List Addr := l.filterMap (·.frame)
abbrev Cx.fs (X : Cx) : List Addr := frs X.outer

def Vis (sc : Scope) (x : Str) : Prop := sc.names.lookup x = some .local ∨ sc.names.lookup x = some .cell ∨ sc.names.lookup x = some .free
def Loc (sc : Scope) (x : Str) : Prop := sc.names.lookup x = some .local ∨ sc.names.lookup x = some .cell
def Look (env : Env) (h : Heap) (m : Str → Option Value) (x : Str) (u : Value) : Prop :=
  (env.kindOf x = some .local ∧ m x = some u) ∨ ((env.kindOf x = some .cell ∨ env.kindOf x = some .free) ∧ ∃ c, env.cells.lookup x = some c ∧ h.IsCell c (some u))

structure Cx.Ok (X : Cx) : Prop where
  mod : Mod X.K X.mg X.base
  kind : X.env.scope.kind = .function
  glob : X.env.globals = mainGlobals
  blt : X.env.builtins = builtinsNs
  above : X.s₀.heap.objs.size ≤ X.env.locals
  inj : ∀ x y c, X.env.cells.lookup x = some c → X.env.cells.lookup y = some c → x = y
  has : ∀ x, (X.env.kindOf x = some .cell ∨ X.env.kindOf x = some .free) → ∃ c, X.env.cells.lookup x = some c
  cab : ∀ x c, X.fn x = true → X.env.cells.lookup x = some c → X.s₀.heap.objs.size ≤ c
  hd : X.calm = true → X.A.handled = none
  frames : X.A.frames = some X.stack
  stk : X.stack = X.outer ∨ (X.stack = X.env :: X.outer ∧ X.env.frame = some X.env.locals)
  exf : ∀ b ∈ X.ex, b ≠ X.env.locals ∧ ∀ x c, X.env.cells.lookup x = some c → c ≠ b
  bs : ∀ b o, X.base.get? b = some o → X.s₀.heap.get? b = some o ∧ X.H₀ b = none
  bsz : X.base.objs.size ≤ X.s₀.heap.objs.size
  noex : ∀ b o, X.base.get? b = some o → b ∉ X.ex
  exfs : ∀ b ∈ X.ex, b ∉ X.fs
  funs : X.s₀.heap.FunFrames X.base X.outer
  frf : ∀ b ∈ X.fs, X.H₀ b = none

structure Inv (X : Cx) (pins : List (Addr × Obj)) (σ : List (Option V)) (H : Hp) (s : Shared) : Prop where
  ok : X.Ok
  os : s.os = X.s₀.os
  bare : AllBare s.gens
  base : Un X.fs X.ex X.H₀ H X.s₀.heap s.heap
  loc : ∃ m, s.heap.Ns X.env.locals m ∧ ∀ (i : Nat) (x : Str) (v : V), X.N[i]? = some x → σ[i]? = some (some v) → Vis X.env.scope x → ∃ u, RelV v u ∧ Look X.env s.heap m x u
  cell : ∀ x c, X.env.cells.lookup x = some c → ∃ v, s.heap.IsCell c v
  free : H X.env.locals = none
  freeC : ∀ x c, X.env.cells.lookup x = some c → H c = none
  pin : ∀ p ∈ X.pn ++ pins, s.heap.get? p.1 = some p.2 ∧ H p.1 = none ∧ p.1 ≠ X.env.locals ∧ p.1 ∉ X.fs ∧ ∀ v, p.2.data ≠ .cell v
  hok : HOk X.prog X.w H s.heap
  len : σ.length = X.N.length

section
variable {X : Cx} {pins : List (Addr × Obj)} {σ : List (Option V)} {H H' : Hp} {s : Shared} {h' : Heap}

theorem Cx.Ok.nofr (ok : X.Ok) {b : Addr} {o : Obj} (e : X.base.get? b = some o) : b ∉ X.fs := fun hb => by
  have := (ok.funs.mem hb).1
  rw [e] at this; cases this
theorem Inv.bs (I : Inv X pins σ H s) : ∀ b o, X.base.get? b = some o → s.heap.get? b = some o ∧ H b = none := fun b o e =>
  ⟨I.base.keep b o (I.ok.bs b o e).1 (I.ok.bs b o e).2 (I.ok.nofr e) (I.ok.noex b o e), I.base.free b o (I.ok.bs b o e).1 (I.ok.bs b o e).2 (I.ok.noex b o e)⟩
theorem Inv.bk (I : Inv X pins σ H s) : ∀ b o, X.base.get? b = some o → s.heap.get? b = some o := fun b o e => (I.bs b o e).1
theorem Inv.mod (I : Inv X pins σ H s) : Mod X.K X.mg X.base := I.ok.mod
theorem Inv.kIn (I : Inv X pins σ H s) : X.K.In s.heap := I.ok.mod.kin.keeps I.bk
theorem Inv.nolimit (I : Inv X pins σ H s) : s.heap.NoLimit := I.ok.mod.nolimit.keeps I.bk
/-- the frame over the base: for OpenK's rules (K.In X.base is I.mod.kin) -/
theorem Inv.fr (I : Inv X pins σ H s) : ∃ m, Fr X.base X.env.locals s.heap m :=
  let ⟨m, hn, _⟩ := I.loc
  ⟨m, hn, I.bk, Nat.le_trans I.ok.bsz I.ok.above⟩
theorem Inv.lt (I : Inv X pins σ H s) : X.env.locals < s.heap.objs.size := let ⟨_, hn, _⟩ := I.loc; hn.lt
theorem Inv.sz (I : Inv X pins σ H s) : X.s₀.heap.objs.size ≤ s.heap.objs.size := Nat.le_trans I.ok.above (Nat.le_of_lt I.lt)
theorem Inv.nofs (I : Inv X pins σ H s) {a : Addr} (h : s.heap.objs.size ≤ a) : a ∉ X.fs := fun hb => by
  obtain ⟨_, o, ho, _⟩ := I.ok.funs.mem hb
  exact absurd (Nat.lt_of_lt_of_le (Heap.lt_size ho) (Nat.le_trans I.sz h)) (Nat.lt_irrefl _)
theorem Inv.cne (I : Inv X pins σ H s) : ∀ x c, X.env.cells.lookup x = some c → c ≠ X.env.locals := fun x c e z => by
  obtain ⟨v, o, ho, hd⟩ := I.cell x c e
  obtain ⟨m, ⟨o', es, ep, ho', hd', _⟩, _⟩ := I.loc
  rw [z, ho'] at ho; cases ho; rw [hd'] at hd; cases hd
theorem Inv.funs (I : Inv X pins σ H s) : s.heap.FunFrames X.base X.outer := by
  have all : ∀ (l : List Env), (∀ b ∈ frs l, b ∈ X.fs) → X.s₀.heap.FunFrames X.base l → s.heap.FunFrames X.base l := by
    intro l
    induction l with
    | nil => intro _ _; trivial
    | cons env r ih =>
      intro hs hl
      obtain ⟨hk, ⟨L, o, hf, hn, ho, hd⟩, hr⟩ := hl
      have hL : L ∈ X.fs := hs L (by unfold frs; rw [List.filterMap_cons, hf]; exact List.mem_cons_self)
      obtain ⟨sl, e⟩ := I.base.slot L o ho (I.ok.frf L hL) hL fun z => I.ok.exfs L z hL
      exact ⟨hk, ⟨L, _, hf, hn, e, hd⟩, ih (fun b hb => hs b (by unfold frs; rw [List.filterMap_cons, hf]; exact List.mem_cons_of_mem _ hb)) hr⟩
  exact all X.outer (fun _ hb => hb) I.ok.funs

/-- the frames that run, for a call -/
theorem Inv.stack (I : Inv X pins σ H s) : s.heap.FunFrames X.base X.stack := by
  rcases I.ok.stk with e | ⟨e, hf⟩
  · rw [e]; exact I.funs
  · rw [e]
    obtain ⟨m, hn, _⟩ := I.loc
    refine .cons (by rw [I.ok.kind]; decide) hf hn ?_ I.funs
    exact Heap.get?_none_of_le (Nat.le_trans I.ok.bsz I.ok.above)
theorem Inv.stkSub (I : Inv X pins σ H s) : ∀ b ∈ frs X.stack, b ∈ X.env.locals :: X.fs := fun b hb => by
  rcases I.ok.stk with e | ⟨e, hf⟩
  · rw [e] at hb; exact List.mem_cons_of_mem _ hb
  · rw [e] at hb
    unfold frs at hb
    rw [List.filterMap_cons, hf] at hb
    exact hb
theorem Inv.stkFree (I : Inv X pins σ H s) : ∀ b ∈ frs X.stack, H b = none := fun b hb => by
  rcases List.mem_cons.mp (I.stkSub b hb) with e | hb
  · rw [e]; exact I.free
  · obtain ⟨_, o, ho, _⟩ := I.ok.funs.mem hb
    exact I.base.free b o ho (I.ok.frf b hb) fun z => I.ok.exfs b z hb

/-- THE STEP: the untracked objects but the frame and the records at ch are kept (the callers' frames up to slots), the frame's map is kept, the new abstract heap is held -/
theorem Inv.step {g' : Array GenState} {t' : Nat} {d' : Drawn} {ch : List Addr} (I : Inv X pins σ H s)
    (hch : ∀ b ∈ ch, (b ∈ X.ex ∨ X.s₀.heap.objs.size ≤ b) ∧ b ≠ X.env.locals ∧ (∀ x c, X.env.cells.lookup x = some c → c ≠ b) ∧ ∀ p ∈ X.pn ++ pins, p.1 ≠ b)
    (keep : ∀ b o, b ≠ X.env.locals → b ∉ X.fs → b ∉ ch → s.heap.get? b = some o → H b = none → h'.get? b = some o)
    (slot : ∀ b o, b ≠ X.env.locals → b ∈ X.fs → b ∉ ch → s.heap.get? b = some o → H b = none → ∃ sl, h'.get? b = some { o with slots := sl }) (free : ∀ b o, b ∉ ch → s.heap.get? b = some o → H b = none → H' b = none)
    (there : ∀ b o, b ∉ ch → s.heap.get? b = some o → ∃ o', h'.get? b = some o')
    (tups : ∀ b xs, H b = some (.tup xs) → H' b = some (.tup xs)) (frzs : ∀ b o u, H b = some (.frz o u) → H' b = some (.frz o u)) (tbls : ∀ b ps, H b = some (.tbl ps) → ∃ more, H' b = some (.tbl (ps ++ more)))
    (ns : ∀ m, s.heap.Ns X.env.locals m → h'.Ns X.env.locals m) (hok : HOk X.prog X.w H' h') (hg : AllBare g') :
    Inv X pins σ H' { s with heap := h', gens := g', drawn := d', toks := t' } := by
  have neL : ∀ b o, X.s₀.heap.get? b = some o → b ≠ X.env.locals := fun b o e => Nat.ne_of_lt (Nat.lt_of_lt_of_le (Heap.lt_size e) I.ok.above)
  have neC : ∀ b o, X.s₀.heap.get? b = some o → b ∉ X.ex → b ∉ ch := fun b o e hx hb => by
    rcases (hch b hb).1 with z | z
    · exact hx z
    · exact absurd (Nat.lt_of_lt_of_le (Heap.lt_size e) z) (Nat.lt_irrefl _)
  have cellK : ∀ x c, X.env.cells.lookup x = some c → ∀ v, s.heap.IsCell c v → h'.IsCell c v := fun x c e v ⟨o, ho, hd⟩ => by
    have nch : c ∉ ch := fun z => (hch c z).2.2.1 x c e rfl
    by_cases hc : c ∈ X.fs
    · obtain ⟨sl, q⟩ := slot c o (I.cne x c e) hc nch ho (I.freeC x c e)
      exact ⟨_, q, hd⟩
    · exact ⟨o, keep c o (I.cne x c e) hc nch ho (I.freeC x c e), hd⟩
  refine ⟨I.ok, I.os, hg, ⟨fun b o e n hb hx => ?_, fun b o e n hb hx => ?_, fun b o e n hx => ?_, fun b o e hx => ?_, fun b xs e => tups b xs (I.base.tups b xs e), fun b o xs e => frzs b o xs (I.base.frzs b o xs e), fun b ps e => ?_⟩, ?_, fun x c e => ?_, ?_, fun x c e => ?_, fun p hp => ?_, hok, I.len⟩
  · exact keep b o (neL b o e) hb (neC b o e hx) (I.base.keep b o e n hb hx) (I.base.free b o e n hx)
  · obtain ⟨sl, e1⟩ := I.base.slot b o e n hb hx
    obtain ⟨sl', e2⟩ := slot b _ (neL b o e) hb (neC b o e hx) e1 (I.base.free b o e n hx)
    exact ⟨sl', e2⟩
  · obtain ⟨o', e1⟩ := I.base.there b o e hx
    exact free b o' (neC b o e hx) e1 (I.base.free b o e n hx)
  · obtain ⟨o', e1⟩ := I.base.there b o e hx
    exact there b o' (neC b o e hx) e1
  · obtain ⟨m1, e1⟩ := I.base.tbls b ps e
    obtain ⟨m2, e2⟩ := tbls b _ e1
    exact ⟨m1 ++ m2, by rw [e2, Array.append_assoc]⟩
  · obtain ⟨m, hn, hl⟩ := I.loc
    refine ⟨m, ns m hn, fun i x v e1 e2 e3 => ?_⟩
    obtain ⟨u, r, l⟩ := hl i x v e1 e2 e3
    refine ⟨u, r, ?_⟩
    rcases l with l | ⟨k, c, e, z⟩
    · exact .inl l
    · exact .inr ⟨k, c, e, cellK x c e _ z⟩
  · obtain ⟨v, z⟩ := I.cell x c e
    exact ⟨v, cellK x c e v z⟩
  · obtain ⟨m, ⟨o, _, _, ho, _⟩, _⟩ := I.loc
    exact free _ o (fun z => (hch _ z).2.1 rfl) ho I.free
  · obtain ⟨v, o, ho, hd⟩ := I.cell x c e
    exact free c o (fun z => (hch c z).2.2.1 x c e rfl) ho (I.freeC x c e)
  · obtain ⟨e, n, ne, nf, d⟩ := I.pin p hp
    have nch : p.1 ∉ ch := fun z => (hch p.1 z).2.2.2 p hp rfl
    exact ⟨keep p.1 p.2 ne nf nch e n, free p.1 p.2 nch e n, ne, nf, d⟩
/-- .. where the frame's own object is kept too -/
theorem Inv.un {t' : Nat} (I : Inv X pins σ H s) (u : Un X.fs [] H H' s.heap h') (hok : HOk X.prog X.w H' h') : Inv X pins σ H' { s with heap := h', toks := t' } := by
  obtain ⟨m, ⟨o, es, ep, ho, r⟩, _⟩ := id I.loc
  obtain ⟨sl, hL⟩ := u.any ho I.free (by simp)
  exact I.step (g' := s.gens) (d' := s.drawn) (ch := []) (fun _ z => nomatch z) (fun b o _ hb _ e n => u.keep b o e n hb (by simp)) (fun b o _ hb _ e n => u.slot b o e n hb (by simp)) (fun b o _ e n => u.free b o e n (by simp)) (fun b o _ e => u.there b o e (by simp)) u.tups u.frzs u.tbls (fun m' hm => by
    obtain ⟨o', es', ep', ho', r'⟩ := hm
    rw [ho] at ho'; cases ho'
    exact ⟨_, es', ep', hL, r'⟩) hok I.bare
/-- behind a call (or a comprehension's block): the slots of this frame may have changed too, the records at ch may have turned -/
theorem Inv.call {g' : Array GenState} {t' : Nat} {d' : Drawn} {ch : List Addr} (I : Inv X pins σ H s) (u : Un (frs X.stack) ch H H' s.heap h') (hok : HOk X.prog X.w H' h') (hg : AllBare g')
    (hch : ∀ b ∈ ch, (b ∈ X.ex ∨ X.s₀.heap.objs.size ≤ b) ∧ b ≠ X.env.locals ∧ (∀ x c, X.env.cells.lookup x = some c → c ≠ b) ∧ ∀ p ∈ X.pn ++ pins, p.1 ≠ b) :
    Inv X pins σ H' { s with heap := h', gens := g', drawn := d', toks := t' } := by
  obtain ⟨m, ⟨o, es, ep, ho, r⟩, _⟩ := id I.loc
  obtain ⟨sl, hL⟩ := u.any ho I.free fun z => (hch _ z).2.1 rfl
  exact I.step (ch := ch) hch (fun b o hL hb hc e n => u.keep b o e n (fun z => (List.mem_cons.mp (I.stkSub b z)).elim hL hb) hc) (fun b o _ _ hc e n => u.any e n hc) (fun b o hc e n => u.free b o e n hc) (fun b o hc e => u.there b o e hc) u.tups u.frzs u.tbls (fun m' hm => by
    obtain ⟨o', es', ep', ho', r'⟩ := hm
    rw [ho] at ho'; cases ho'
    exact ⟨_, es', ep', hL, r'⟩) hok hg
/-- an untracked record of ours (an iterator) has turned -/
theorem Inv.turned {t' : Nat} {it : Addr} (I : Inv X pins σ H s) (k : ∀ b o, b ≠ it → s.heap.get? b = some o → h'.get? b = some o) (hn : H it = none) (hL : it ≠ X.env.locals)
    (h1 : it ∈ X.ex ∨ X.s₀.heap.objs.size ≤ it) (h2 : ∀ x c, X.env.cells.lookup x = some c → c ≠ it) (h3 : ∀ p ∈ X.pn ++ pins, p.1 ≠ it) : Inv X pins σ H { s with heap := h', toks := t' } := by
  have nit : ∀ b u, H b = some u → b ≠ it := fun b u e z => by rw [z, hn] at e; cases e
  refine I.step (g' := s.gens) (d' := s.drawn) (ch := [it]) (fun b hb => ?_) (fun b o _ _ hc e _ => k b o (fun z => hc (by simp [z])) e) (fun b o _ _ hc e _ => ⟨o.slots, k b o (fun z => hc (by simp [z])) e⟩) (fun _ _ _ _ n => n)
    (fun b o hc e => ⟨o, k b o (fun z => hc (by simp [z])) e⟩) (fun _ _ e => e) (fun _ _ _ e => e) (fun b ps e => ⟨#[], by rw [e]; simp⟩) (fun m hm => ?_) (fun b u e => ?_) I.bare
  · have e : b = it := by simpa using hb
    subst e
    exact ⟨h1, hL, h2, h3⟩
  · obtain ⟨o, es, ep, ho, r⟩ := hm
    exact ⟨o, es, ep, k _ o (Ne.symm hL) ho, r⟩
  · refine (I.hok b u e).stay (fun c v hc q => k c v ?_ q) (fun _ q => q) fun _ _ q => q
    rcases hc with z | z
    · rw [z]; exact nit b u e
    · exact nit c _ z
theorem Inv.tok (I : Inv X pins σ H s) (t : Nat) : Inv X pins σ H { s with toks := t } := I.un (h' := s.heap) (t' := t) Un.refl I.hok
/-- all objects kept -/
theorem Inv.kept {t' : Nat} (I : Inv X pins σ H s) (k : ∀ b u, s.heap.get? b = some u → h'.get? b = some u) : Inv X pins σ H { s with heap := h', toks := t' } := I.un (Un.kept k) (I.hok.kept k)
/-- a new object laid and tracked -/
theorem Inv.laid {a : Addr} {o : HO} {t' : Nat} (I : Inv X pins σ H s) (k : ∀ b u, s.heap.get? b = some u → h'.get? b = some u) (hp : s.heap.objs.size ≤ a) (new : ObjOk X.prog X.w (upd H a o) h' a o) :
    Inv X pins σ (upd H a o) { s with heap := h', toks := t' } := I.un (Un.laid k hp (I.hok.fresh hp)) (I.hok.laid k hp new)
/-- an object written -/
theorem Inv.write {x e : Addr} {o : HO} {t' : Nat} (I : Inv X pins σ H s) (mu : Mut (H x)) (he : e = x ∨ H e = some (.own x)) (k : ∀ b u, b ≠ e → s.heap.get? b = some u → h'.get? b = some u) (heo : ∃ u, h'.get? e = some u)
    (new : ObjOk X.prog X.w (upd H x o) h' x o) : Inv X pins σ (upd H x o) { s with heap := h', toks := t' } := I.un (Un.write mu he k heo) (I.hok.write mu he k heo new)
/-- forgetting slots, pins -/
theorem Inv.weak {σ' : List (Option V)} (I : Inv X pins σ H s) (hl : σ'.length = σ.length) (w : ∀ (i : Nat) v, σ'[i]? = some (some v) → σ[i]? = some (some v)) : Inv X pins σ' H s :=
  ⟨I.ok, I.os, I.bare, I.base, let ⟨m, hn, hl'⟩ := I.loc; ⟨m, hn, fun i x v e1 e2 e3 => hl' i x v e1 (w i v e2) e3⟩, I.cell, I.free, I.freeC, I.pin, I.hok, hl.trans I.len⟩
theorem Inv.pins_of {pins' : List (Addr × Obj)} (I : Inv X pins σ H s) (h : ∀ p ∈ pins', s.heap.get? p.1 = some p.2 ∧ H p.1 = none ∧ p.1 ≠ X.env.locals ∧ p.1 ∉ X.fs ∧ ∀ v, p.2.data ≠ .cell v) : Inv X pins' σ H s :=
  ⟨I.ok, I.os, I.bare, I.base, I.loc, I.cell, I.free, I.freeC, fun p hp => (List.mem_append.mp hp).elim (fun z => I.pin p (List.mem_append_left _ z)) (h p), I.hok, I.len⟩

theorem nodup_ix {N : List Str} (hN : N.Nodup) {i j : Nat} {x : Str} (a : N[i]? = some x) (b : N[j]? = some x) : i = j := by
  obtain ⟨h1, e1⟩ := List.getElem?_eq_some_iff.mp a
  obtain ⟨h2, e2⟩ := List.getElem?_eq_some_iff.mp b
  exact (List.getElem_inj hN).mp (e1.trans e2.symm)

/-- a name is stored; what changed -/
theorem store_ok2 {M : Model} {A : Around} {E : Value → Shared → Prop} {i : Nat} {x : Str} {v : V} {u : Value} {Q : Unit → Shared → Prop} (I : Inv X pins σ H s) (hN : X.N.Nodup) (hi : X.N[i]? = some x) (hx : Loc X.env.scope x) (r : RelV v u)
    (h : ∀ s', Inv X pins (σ.set i (some v)) H s' → (∃ a, Heap.SameBut a s.heap s'.heap ∧ (a = X.env.locals ∨ X.env.cells.lookup x = some a)) → Q () s') (hf : X.fn x = true ∨ X.env.scope.names.lookup x = some .local := by first | exact .inl rfl | exact .inr rfl | assumption) : wpAny M A (storeName X.env x u) Q E s := by
  obtain ⟨m, hn, hl⟩ := id I.loc
  have hcls : (X.env.scope.kind == .class || (X.env.scope.kind == .module && X.env.locals != X.env.globals)) = false := by rw [I.ok.kind]; rfl
  have hiσ : i < σ.length := by rw [I.len]; exact (List.getElem?_eq_some_iff.mp hi).1
  have cne := I.cne
  have tracked : ∀ {a : Addr} {h' : Heap}, (∃ o, s.heap.get? a = some o ∧ H a = none) → Heap.SameBut a s.heap h' → HOk X.prog X.w H h' := fun {a h'} ha hs b ob e => by
    obtain ⟨_, _, hfree⟩ := ha
    refine (I.hok b ob e).stay (fun c w' hc q => (hs.2 c ?_).trans q) (fun _ q => q) fun _ _ q => q
    rintro rfl
    rcases hc with rfl | hc
    · rw [hfree] at e; cases e
    · rw [hfree] at hc; cases hc
  rcases hx with hk | hk
  · refine wpAny_storeName_local hk hn (fun h' hn' hs => ?_) hcls
    obtain ⟨oL, _, _, hoL, _⟩ := id hn
    refine h _ ⟨I.ok, I.os, I.bare, ⟨fun b o e n hb hx => ?_, fun b o e n hb hx => ?_, I.base.free, fun b o e hx => ?_, I.base.tups, I.base.frzs, I.base.tbls⟩, ⟨_, hn', fun j y v' e1 e2 e3 => ?_⟩, fun y c e => ?_, I.free, I.freeC, fun p hp => ?_, tracked ⟨oL, hoL, I.free⟩ hs, by simpa using I.len⟩ ⟨_, hs, .inl rfl⟩
    · exact (hs.2 b (Nat.ne_of_lt (Nat.lt_of_lt_of_le (Heap.lt_size e) I.ok.above))).trans (I.base.keep b o e n hb hx)
    · obtain ⟨sl, e1⟩ := I.base.slot b o e n hb hx
      exact ⟨sl, (hs.2 b (Nat.ne_of_lt (Nat.lt_of_lt_of_le (Heap.lt_size e) I.ok.above))).trans e1⟩
    · obtain ⟨o', e1⟩ := I.base.there b o e hx
      exact ⟨o', (hs.2 b (Nat.ne_of_lt (Nat.lt_of_lt_of_le (Heap.lt_size e) I.ok.above))).trans e1⟩
    · by_cases hj : j = i
      · subst hj
        rw [hi] at e1; cases e1
        rw [List.getElem?_set_self hiσ] at e2
        cases e2
        exact ⟨u, r, .inl ⟨hk, by simp⟩⟩
      · rw [List.getElem?_set_ne (Ne.symm hj)] at e2
        obtain ⟨u', r', q⟩ := hl j y v' e1 e2 e3
        refine ⟨u', r', ?_⟩
        rcases q with ⟨k, e⟩ | ⟨k, c, e, z⟩
        · refine .inl ⟨k, ?_⟩
          have : y ≠ x := fun e => hj (nodup_ix hN e1 (e ▸ hi))
          simp [this, e]
        · exact .inr ⟨k, c, e, z.sameBut hs (cne y c e)⟩
    · obtain ⟨w', z⟩ := I.cell y c e
      exact ⟨w', z.sameBut hs (cne y c e)⟩
    · obtain ⟨e, n, ne, nf, d⟩ := I.pin p hp
      exact ⟨(hs.2 p.1 ne).trans e, n, ne, nf, d⟩
  · have hfn : X.fn x = true := by
      rcases hf with z | z
      · exact z
      · rw [z] at hk; cases hk
    obtain ⟨c, hc⟩ := I.ok.has x (.inl hk)
    obtain ⟨w', z⟩ := I.cell x c hc
    refine wpAny_storeName_cell I.ok.kind hk hc z (fun h' hc' hs => ?_)
    obtain ⟨oc, hoc, hocd⟩ := id z
    refine h { s with heap := h' } ⟨I.ok, I.os, I.bare, ⟨fun b o e n hb hx => ?_, fun b o e n hb hx => ?_, I.base.free, fun b o e hx => ?_, I.base.tups, I.base.frzs, I.base.tbls⟩, ⟨m, hn.sameBut hs (Ne.symm (cne x c hc)), fun j y v' e1 e2 e3 => ?_⟩, fun y c' e => ?_, I.free, I.freeC, fun p hp => ?_, tracked ⟨oc, hoc, I.freeC x c hc⟩ hs, by simpa using I.len⟩ ⟨c, hs, .inr hc⟩
    · exact (hs.2 b (Nat.ne_of_lt (Nat.lt_of_lt_of_le (Heap.lt_size e) (I.ok.cab x c hfn hc)))).trans (I.base.keep b o e n hb hx)
    · obtain ⟨sl, e1⟩ := I.base.slot b o e n hb hx
      exact ⟨sl, (hs.2 b (Nat.ne_of_lt (Nat.lt_of_lt_of_le (Heap.lt_size e) (I.ok.cab x c hfn hc)))).trans e1⟩
    · obtain ⟨o', e1⟩ := I.base.there b o e hx
      exact ⟨o', (hs.2 b (Nat.ne_of_lt (Nat.lt_of_lt_of_le (Heap.lt_size e) (I.ok.cab x c hfn hc)))).trans e1⟩
    · by_cases hj : j = i
      · subst hj
        rw [hi] at e1; cases e1
        rw [List.getElem?_set_self hiσ] at e2
        cases e2
        exact ⟨u, r, .inr ⟨.inl hk, c, hc, hc'⟩⟩
      · rw [List.getElem?_set_ne (Ne.symm hj)] at e2
        obtain ⟨u', r', q⟩ := hl j y v' e1 e2 e3
        refine ⟨u', r', ?_⟩
        rcases q with q | ⟨k, c', e, z'⟩
        · exact .inl q
        · refine .inr ⟨k, c', e, z'.sameBut hs ?_⟩
          rintro rfl
          exact hj (nodup_ix hN e1 (I.ok.inj _ _ _ e hc ▸ hi))
    · by_cases hcc : c' = c
      · subst hcc; exact ⟨_, hc'⟩
      · obtain ⟨w2, z2⟩ := I.cell y c' e
        exact ⟨w2, z2.sameBut hs hcc⟩
    · obtain ⟨e, n, ne, nf, d⟩ := I.pin p hp
      refine ⟨(hs.2 p.1 ?_).trans e, n, ne, nf, d⟩
      intro q
      rw [q, hoc] at e
      have q' : oc = p.2 := Option.some.inj e
      exact d w' (by rw [← q']; exact hocd)
theorem store_ok {M : Model} {A : Around} {E : Value → Shared → Prop} {i : Nat} {x : Str} {v : V} {u : Value} {Q : Unit → Shared → Prop} (I : Inv X pins σ H s) (hN : X.N.Nodup) (hi : X.N[i]? = some x) (hx : Loc X.env.scope x) (r : RelV v u)
    (h : ∀ s', Inv X pins (σ.set i (some v)) H s' → Q () s') (hf : X.fn x = true ∨ X.env.scope.names.lookup x = some .local := by first | exact .inl rfl | exact .inr rfl | assumption) : wpAny M A (storeName X.env x u) Q E s :=
  store_ok2 I hN hi hx r (fun s' I' _ => h s' I') hf
/-- behind a call or a block, the state as it is -/
theorem Inv.call' {s' : Shared} {ch : List Addr} (I : Inv X pins σ H s) (ho : s'.os = s.os) (u : Un (frs X.stack) ch H H' s.heap s'.heap) (hok : HOk X.prog X.w H' s'.heap) (hg : AllBare s'.gens)
    (hch : ∀ b ∈ ch, (b ∈ X.ex ∨ X.s₀.heap.objs.size ≤ b) ∧ b ≠ X.env.locals ∧ (∀ x c, X.env.cells.lookup x = some c → c ≠ b) ∧ ∀ p ∈ X.pn ++ pins, p.1 ≠ b) : Inv X pins σ H' s' := by
  obtain ⟨h', g', d', t', o'⟩ := s'
  have e : o' = s.os := ho
  subst e
  exact I.call (g' := g') (t' := t') (d' := d') u hok hg hch
end

/-! ### the judgements -/
/-- an exception: its class, its own dict's address (where it has one), the abstract heap behind it -/
abbrev XK := Value → Option Addr → Hp → Prop
abbrev St := List (Option V)
abbrev VK := V → Hp → Prop
/-- an expression's reading; a test's; an argument list's -/
abbrev TE := St → Hp → VK → Prop
abbrev TT := St → Hp → (Bool → Hp → Prop) → Prop
abbrev TA := St → Hp → (List V → Hp → Prop) → Prop
/-- what is wanted behind a statement -/
structure Ends where
  nx : St → Hp → Prop
  rt : VK
  bk : St → Hp → Prop := fun _ _ => False
  ct : St → Hp → Prop := fun _ _ => False
abbrev TS := Ends → St → Hp → Prop

def EP (X : Cx) (pins : List (Addr × Obj)) (σ : St) (Q : VK) (u : Value) (s' : Shared) : Prop := ∃ v H', Inv X pins σ H' s' ∧ RelV v u ∧ Q v H'
def TP (X : Cx) (pins : List (Addr × Obj)) (σ : St) (Q : Bool → Hp → Prop) (b : Bool) (s' : Shared) : Prop := ∃ H', Inv X pins σ H' s' ∧ Q b H'
def AP (X : Cx) (pins : List (Addr × Obj)) (σ : St) (Q : List V → Hp → Prop) (us : List Value) (s' : Shared) : Prop := ∃ vs H', Inv X pins σ H' s' ∧ Vals vs us ∧ Q vs H'
def SP (X : Cx) (pins : List (Addr × Obj)) (D : Ends) (f : Flow) (s' : Shared) : Prop :=
  match f with
  | .next => ∃ σ' H', Inv X pins σ' H' s' ∧ D.nx σ' H'
  | .brk => ∃ σ' H', Inv X pins σ' H' s' ∧ D.bk σ' H'
  | .cont => ∃ σ' H', Inv X pins σ' H' s' ∧ D.ct σ' H'
  | .ret u => ∃ v σ' H', Inv X pins σ' H' s' ∧ RelV v u ∧ D.rt v H'

def PE (X : Cx) (e : Expr) (t : TE) : Prop :=
  ∀ (pins : List (Addr × Obj)) (s : Shared) (σ : St) (H : Hp) (Q : VK), Inv X pins σ H s → t σ H Q → wpAny (model X.prog X.w) X.A (eval e X.env) (EP X pins σ Q) X.xe s
def PT (X : Cx) (e : Expr) (t : TT) : Prop :=
  ∀ (pins : List (Addr × Obj)) (s : Shared) (σ : St) (H : Hp) (Q : Bool → Hp → Prop), Inv X pins σ H s → t σ H Q → wpAny (model X.prog X.w) X.A (isTrue e X.env (eval e X.env)) (TP X pins σ Q) X.xe s
/-- a test whatever its 'whole' is (and, or) -/
def PW (X : Cx) (e : Expr) (t : TT) : Prop :=
  ∀ (whole : Sem Value) (pins : List (Addr × Obj)) (s : Shared) (σ : St) (H : Hp) (Q : Bool → Hp → Prop), Inv X pins σ H s → t σ H Q → wpAny (model X.prog X.w) X.A (isTrue e X.env whole) (TP X pins σ Q) X.xe s
theorem PW.pt {X : Cx} {e : Expr} {t : TT} (h : PW X e t) : PT X e t := h _
/-- an argument list (no star), from the left -/
def PA (X : Cx) (es : List Expr) (t : TA) : Prop :=
  ∀ (pos : Pos) (pins : List (Addr × Obj)) (s : Shared) (σ : St) (H : Hp) (Q : List V → Hp → Prop), Inv X pins σ H s → t σ H Q → wpAny (model X.prog X.w) X.A (spliced (backTo pos (starEach es X.env))) (AP X pins σ Q) X.xe s
def PS (X : Cx) (st : Stmt) (t : TS) : Prop :=
  ∀ (pins : List (Addr × Obj)) (s : Shared) (σ : St) (H : Hp) (D : Ends), Inv X pins σ H s → t D σ H → wpAny (model X.prog X.w) X.A (exec st X.env) (SP X pins D) X.xe s
def PSs (X : Cx) (st : List Stmt) (t : TS) : Prop :=
  ∀ (pins : List (Addr × Obj)) (s : Shared) (σ : St) (H : Hp) (D : Ends), Inv X pins σ H s → t D σ H → wpAny (model X.prog X.w) X.A (execs st X.env) (SP X pins D) X.xe s
/-- weaken the end -/
theorem thn {α : Type} {t : Sem α} {Q Q' : α → Shared → Prop} {M : Model} {A : Around} {E : Value → Shared → Prop} {s : Shared} (h : wpAny M A t Q E s) (hQ : ∀ a s, Q a s → Q' a s) : wpAny M A t Q' E s := wpAny_mono h hQ fun _ _ x => x
end L2

namespace L2
open PySem PySem.Spec PyProof.Rows
section
variable {X : Cx}

/-- two expressions in a row -/
theorem bin {a b : Expr} {ta tb : TE} (ha : PE X a ta) (hb : PE X b tb) {pins : List (Addr × Obj)} {s : Shared} {σ : St} {H : Hp} {R : V → V → Hp → Prop} (I : Inv X pins σ H s) (h : ta σ H fun x H1 => tb σ H1 fun y H2 => R x y H2)
    {α : Type} {Q : α → Shared → Prop} {f : Value → Value → Sem α}
    (hf : ∀ v u s2 x y H2, Inv X pins σ H2 s2 → RelV x v → RelV y u → R x y H2 → wpAny (model X.prog X.w) X.A (f v u) Q X.xe s2) :
    wpAny (model X.prog X.w) X.A (eval a X.env) (fun v s₁ => wpAny (model X.prog X.w) X.A (eval b X.env) (fun u s₂ => wpAny (model X.prog X.w) X.A (f v u) Q X.xe s₂) X.xe s₁) X.xe s := by
  refine thn (ha pins s σ H _ I h) fun v s1 ⟨x, H1, I1, r1, q1⟩ => ?_
  refine thn (hb pins s1 σ H1 _ I1 q1) fun u s2 ⟨y, H2, I2, r2, q2⟩ => ?_
  exact hf v u s2 x y H2 I2 r1 r2 q2

/-! ### names and constants -/
def tVar (i : Nat) : TE := fun σ H Q => ∃ v, σ[i]? = some (some v) ∧ Q v H
def tC (v : V) : TE := fun _ H Q => Q v H
theorem pe_var {i : Nat} {x : Str} {pos : Pos} (hN : X.N[i]? = some x) (hv : Vis X.env.scope x) (hd : (x == ("__debug__" : Str)) = false := by decide) (hcd : (x == ("__classdict__" : Str)) = false := by decide) : PE X (.Name x pos) (tVar i) := by
  intro pins s σ H Q I h
  obtain ⟨v, e, h⟩ := h
  obtain ⟨m, hn, hl⟩ := I.loc
  obtain ⟨u, r, l⟩ := hl i x v hN e hv
  have fin : EP X pins σ Q u s := ⟨v, H, I, r, h⟩
  rcases l with ⟨hk, hm⟩ | ⟨hk, c, hc, hcell⟩
  · exact wpAny_Name (wpAny_loadName_local I.ok.kind hk hn hm fin) hd
  · rcases hk with hk | hk
    · exact wpAny_Name (wpAny_loadName_cell I.ok.kind hk hc hcell fin) hd
    · exact wpAny_Name (wpAny_loadName_free I.ok.kind hk hc hcell fin hcd) hd
theorem pe_int {i j pos} : PE X (.Constant (.int i) j pos) (tC (.int i)) := fun _ _ _ H _ I h => wpAny_Constant_int ⟨.int i, H, I.tok _, ⟨_, rfl⟩, h⟩
theorem pe_bl {b j pos} : PE X (.Constant (.bool b) j pos) (tC (.bl b)) := fun _ _ _ H _ I h => Constant_bool ⟨.bl b, H, I, rfl, h⟩
theorem pe_non {j pos} : PE X (.Constant .none j pos) (tC .non) := fun _ _ _ H _ I h => Constant_none ⟨.non, H, I, rfl, h⟩
theorem pe_str {x j pos} : PE X (.Constant (.str x) j pos) (tC (.str x)) := fun _ _ _ H _ I h => Calls.Constant_str ⟨.str x, H, I.tok _, ⟨_, rfl⟩, h⟩

/-- a global name of the def -/
def Gl (X : Cx) (x : Str) : Prop := X.env.kindOf x = some .globalImplicit
theorem ld_glob {E : Value → Shared → Prop} {pins : List (Addr × Obj)} {s : Shared} {σ : St} {H : Hp} {x : Str} {u : Value} {pos : Pos} {Q : Value → Shared → Prop} (I : Inv X pins σ H s) (hg : Gl X x) (hm : X.mg x = some u) (h : Q u s)
    (hd : (x == ("__debug__" : Str)) = false := by decide) : wpAny (model X.prog X.w) X.A (eval (.Name x pos) X.env) Q E s :=
  Calls.Name_function_global I.ok.kind hg (Calls.loadGlobal_global (by rw [I.ok.glob]; exact I.mod.glob.keeps I.bk) hm h) hd
theorem ld_blt {E : Value → Shared → Prop} {pins : List (Addr × Obj)} {s : Shared} {σ : St} {H : Hp} {x : Str} {u : Value} {pos : Pos} {Q : Value → Shared → Prop} (I : Inv X pins σ H s) (hg : Gl X x) (hm : X.mg x = none) (hv : bootBuiltins x = some u) (h : Q u s)
    (hn : x ≠ "__name__" := by decide) (hd : (x == ("__debug__" : Str)) = false := by decide) : wpAny (model X.prog X.w) X.A (eval (.Name x pos) X.env) Q E s := by
  obtain ⟨mb, h1, h2⟩ := I.mod.blt
  exact Calls.Name_function_global I.ok.kind hg (Calls.loadGlobal_builtin (by rw [I.ok.glob]; exact I.mod.glob.keeps I.bk) hm (by rw [I.ok.blt]; exact h1.keeps I.bk) ((h2 x hn).trans hv) h) hd
/-- a module's constant, a class, a function, as a value -/
theorem pe_glob {x : Str} {v : V} {u : Value} {pos : Pos} (hg : Gl X x) (hm : X.mg x = some u) (r : RelV v u) (hd : (x == ("__debug__" : Str)) = false := by decide) : PE X (.Name x pos) (tC v) :=
  fun _ _ _ H _ I h => ld_glob I hg hm ⟨v, H, I, r, h⟩ hd
theorem pe_bltn {x : Str} {v : V} {u : Value} {pos : Pos} (hg : Gl X x) (hm : X.mg x = none) (hv : bootBuiltins x = some u) (r : RelV v u) (hn : x ≠ "__name__" := by decide) (hd : (x == ("__debug__" : Str)) = false := by decide) : PE X (.Name x pos) (tC v) :=
  fun _ _ _ H _ I h => ld_blt I hg hm hv ⟨v, H, I, r, h⟩ hn hd

/-! ### arithmetic -/
/-- two ints -/
def t2I (ta tb : TE) (k : Int → Int → Hp → Prop) : St → Hp → Prop := fun σ H => ta σ H fun x H1 => tb σ H1 fun y H2 => ∃ i j, x = .int i ∧ y = .int j ∧ k i j H2
def tAdd (ta tb : TE) : TE := fun σ H Q => t2I ta tb (fun i j H2 => Q (.int (i + j)) H2) σ H
def tSub (ta tb : TE) : TE := fun σ H Q => t2I ta tb (fun i j H2 => Q (.int (i - j)) H2) σ H
/-- the left factor below 2^64 -/
def tMul (ta tb : TE) : TE := fun σ H Q => t2I ta tb (fun i j H2 => (-(2 ^ 64) < i ∧ i < 2 ^ 64) ∧ Q (.int (i * j)) H2) σ H
variable {a b : Expr} {ta tb : TE} {pos : Pos}
theorem pe_add (ha : PE X a ta) (hb : PE X b tb) : PE X (.BinOp a .Add b pos) (tAdd ta tb) := by
  intro pins s σ H Q I h
  refine wpAny_BinOp (bin ha hb I h fun v u s2 x y H2 I2 rx ry q => ?_)
  obtain ⟨i, j, rfl, rfl, q⟩ := q
  obtain ⟨t, rfl⟩ := rx
  obtain ⟨t', rfl⟩ := ry
  exact add_int ⟨.int _, H2, I2.tok _, ⟨_, rfl⟩, q⟩
theorem pe_sub (ha : PE X a ta) (hb : PE X b tb) : PE X (.BinOp a .Sub b pos) (tSub ta tb) := by
  intro pins s σ H Q I h
  refine wpAny_BinOp (bin ha hb I h fun v u s2 x y H2 I2 rx ry q => ?_)
  obtain ⟨i, j, rfl, rfl, q⟩ := q
  obtain ⟨t, rfl⟩ := rx
  obtain ⟨t', rfl⟩ := ry
  exact sub_int ⟨.int _, H2, I2.tok _, ⟨_, rfl⟩, q⟩
theorem pe_mul (ha : PE X a ta) (hb : PE X b tb) : PE X (.BinOp a .Mult b pos) (tMul ta tb) := by
  intro pins s σ H Q I h
  refine wpAny_BinOp (bin ha hb I h fun v u s2 x y H2 I2 rx ry q => ?_)
  obtain ⟨i, j, rfl, rfl, ⟨q1, q2⟩, q⟩ := q
  obtain ⟨t, rfl⟩ := rx
  obtain ⟨t', rfl⟩ := ry
  exact mul_int ⟨.int _, H2, I2.tok _, ⟨_, rfl⟩, q⟩ (.of_left (intBits_le_64 q1 q2))

/-! ### comparisons -/
def PC (X : Cx) (op : CmpOp) (a b : Expr) (t : TE) : Prop :=
  ∀ (pins : List (Addr × Obj)) (s : Shared) (σ : St) (H : Hp) (Q : VK), Inv X pins σ H s → t σ H Q →
    wpAny (model X.prog X.w) X.A (eval a X.env) (fun v s₁ => wpAny (model X.prog X.w) X.A (eval b X.env) (fun u s₂ => wpAny (model X.prog X.w) X.A (compareOp op v u) (EP X pins σ Q) X.xe s₂) X.xe s₁) X.xe s
theorem nobehind (b : Expr) {op : CmpOp} (h : op ≠ .In) (h2 : op ≠ .NotIn) : behindInMarks op b = false := by
  have e1 : (op == CmpOp.In) = false := by cases op <;> first | rfl | exact absurd rfl h
  have e2 : (op == CmpOp.NotIn) = false := by cases op <;> first | rfl | exact absurd rfl h2
  cases b <;> simp [behindInMarks, e1, e2]
def tCmp (p : Int → Int → Bool) (ta tb : TE) : TE := fun σ H Q => t2I ta tb (fun i j H2 => Q (.bl (p i j)) H2) σ H
abbrev tLt : TE → TE → TE := tCmp fun i j => decide (i < j)
abbrev tLe : TE → TE → TE := tCmp fun i j => decide (i ≤ j)
abbrev tGt : TE → TE → TE := tCmp fun i j => decide (j < i)
abbrev tGe : TE → TE → TE := tCmp fun i j => decide (j ≤ i)
abbrev tEqI : TE → TE → TE := tCmp fun i j => decide (i = j)
abbrev tNeI : TE → TE → TE := tCmp fun i j => !decide (i = j)
/-- a comparison of two ints, by its rule -/
theorem pc_int {op : CmpOp} {p : Int → Int → Bool} (ha : PE X a ta) (hb : PE X b tb)
    (rule : ∀ (i j : Int) (t u : Tok) (Q : Value → Shared → Prop) (s : Shared), Q (.bool (p i j)) s → wpAny (model X.prog X.w) X.A (compareOp op (.int i t) (.int j u)) Q X.xe s) : PC X op a b (tCmp p ta tb) := by
  intro pins s σ H Q I h
  refine bin ha hb I h fun v u s2 x y H2 I2 rx ry q => ?_
  obtain ⟨i, j, rfl, rfl, q⟩ := q
  obtain ⟨t, rfl⟩ := rx
  obtain ⟨t', rfl⟩ := ry
  exact rule i j t t' _ s2 ⟨.bl _, H2, I2, rfl, q⟩
theorem pc_lt (ha : PE X a ta) (hb : PE X b tb) : PC X .Lt a b (tLt ta tb) := pc_int ha hb fun _ _ _ _ _ _ h => lt_int h
theorem pc_le (ha : PE X a ta) (hb : PE X b tb) : PC X .LtE a b (tLe ta tb) := pc_int ha hb fun _ _ _ _ _ _ h => le_int h
theorem pc_gt (ha : PE X a ta) (hb : PE X b tb) : PC X .Gt a b (tGt ta tb) := pc_int ha hb fun _ _ _ _ _ _ h => gt_int h
theorem pc_ge (ha : PE X a ta) (hb : PE X b tb) : PC X .GtE a b (tGe ta tb) := pc_int ha hb fun _ _ _ _ _ _ h => ge_int h
theorem pc_eqI (ha : PE X a ta) (hb : PE X b tb) : PC X .Eq a b (tEqI ta tb) := pc_int ha hb fun _ _ _ _ _ _ h => eq_int (by rw [Bool.beq_eq_decide_eq]; exact h)
theorem pc_neI (ha : PE X a ta) (hb : PE X b tb) : PC X .NotEq a b (tNeI ta tb) := pc_int ha hb fun _ _ _ _ _ _ h => ne_int (by rw [bne, Bool.beq_eq_decide_eq]; exact h)
/-- is None -/
def tIsN (ta : TE) : TE := fun σ H Q => ta σ H fun x H1 => Q (.bl (decide (x = .non))) H1
def tNotN (ta : TE) : TE := fun σ H Q => ta σ H fun x H1 => Q (.bl (!decide (x = .non))) H1
theorem RelV.none_iff {x : V} {v : Value} (r : RelV x v) : (v == Value.none) = decide (x = .non) := by
  cases x with
  | non => cases r; rfl
  | bl _ => cases r; rfl
  | int _ => obtain ⟨t, rfl⟩ := r; rfl
  | str _ => obtain ⟨t, rfl⟩ := r; rfl
  | byt _ => obtain ⟨t, rfl⟩ := r; rfl
  | flt _ => obtain ⟨t, rfl⟩ := r; rfl
  | ref _ => cases r; rfl
  | ty _ => cases r; rfl
theorem pc_isN {j pos'} (ha : PE X a ta) : PC X .Is a (.Constant .none j pos') (tIsN ta) := by
  intro pins s σ H Q I h
  refine thn (ha pins s σ H _ I h) fun v s1 ⟨x, H1, I1, r1, q1⟩ => ?_
  exact Constant_none (is_none_gen ⟨.bl _, H1, I1, by rw [r1.none_iff]; rfl, q1⟩)
theorem pc_notN {j pos'} (ha : PE X a ta) : PC X .IsNot a (.Constant .none j pos') (tNotN ta) := by
  intro pins s σ H Q I h
  refine thn (ha pins s σ H _ I h) fun v s1 ⟨x, H1, I1, r1, q1⟩ => ?_
  exact Constant_none (isnot_none_gen ⟨.bl _, H1, I1, by rw [r1.none_iff]; rfl, q1⟩)
/-- a comparison as a value, as a test -/
def tB (t : TE) : TT := fun σ H Q => t σ H fun x H1 => ∃ c, x = .bl c ∧ Q c H1
theorem pe_cmp {op : CmpOp} {t : TE} (h : PC X op a b t) (h1 : behindInMarks op b = false := by first | exact nobehind _ (by decide) (by decide) | rfl) : PE X (.Compare a [op] [b] pos) t := fun pins s σ H Q I hw => wpAny_Compare1 (h pins s σ H Q I hw) h1
theorem pt_cmp {op : CmpOp} {t : TE} (h : PC X op a b t) (h1 : behindInMarks op b = false := by first | exact nobehind _ (by decide) (by decide) | rfl) : PT X (.Compare a [op] [b] pos) (tB t) := by
  intro pins s σ H Q I hw
  refine wpAny_isTrue_Compare1 (thn (h pins s σ H _ I hw) fun v s1 h1 => thn h1 fun u s2 h2 => thn h2 fun c s3 ⟨x, H1, I1, r1, q1⟩ => ?_) h1
  obtain ⟨d, rfl, q⟩ := q1
  cases r1
  exact wpAny_truthy_bool ⟨H1, I1, q⟩
/-- an expression whose value is a bool, as a test -/
theorem pt_val {e : Expr} {t : TE} (h : PE X e t) (he : ∀ whole, isTrue e X.env whole = (do let v ← whole; standAt e.pos; holding [v] (truthy v)) := by intro _; rfl) : PT X e (tB t) := by
  intro pins s σ H Q I hw
  refine isTrue_plain (thn (h pins s σ H _ I hw) fun v s1 ⟨x, H1, I1, r1, q1⟩ => ?_) (he _)
  obtain ⟨d, rfl, q⟩ := q1
  cases r1
  exact wpAny_truthy_bool ⟨H1, I1, q⟩

/-! ### and, or, not -/
variable {tA tB' : TT} {rest : List Expr}
def tAnd (t u : TT) : TT := fun σ H Q => t σ H fun c H1 => if c = true then u σ H1 Q else Q false H1
def tOr (t u : TT) : TT := fun σ H Q => t σ H fun c H1 => if c = true then Q true H1 else u σ H1 Q
def tNot (t : TT) : TT := fun σ H Q => t σ H fun c H1 => Q (!c) H1
theorem pw_and1 (ha : PT X a tA) : PW X (.BoolOp .And [a] pos) tA := by
  intro wh pins s σ H Q I h
  refine isTrue_and (thn (ha pins s σ H Q I h) fun c s1 e => ?_)
  cases c with
  | true => exact isTrue_and_nil e
  | false => exact e
theorem pw_or1 (ha : PT X a tA) : PW X (.BoolOp .Or [a] pos) tA := by
  intro wh pins s σ H Q I h
  refine isTrue_or (thn (ha pins s σ H Q I h) fun c s1 e => ?_)
  cases c with
  | false => exact isTrue_or_nil e
  | true => exact e
theorem pw_and (ha : PT X a tA) (hb : PW X (.BoolOp .And (b :: rest) pos) tB') : PW X (.BoolOp .And (a :: b :: rest) pos) (tAnd tA tB') := by
  intro wh pins s σ H Q I h
  refine isTrue_and (thn (ha pins s σ H _ I h) fun c s1 ⟨H1, I1, q1⟩ => ?_)
  cases c with
  | true => exact hb wh pins s1 σ H1 Q I1 q1
  | false => exact ⟨H1, I1, q1⟩
theorem pw_or (ha : PT X a tA) (hb : PW X (.BoolOp .Or (b :: rest) pos) tB') : PW X (.BoolOp .Or (a :: b :: rest) pos) (tOr tA tB') := by
  intro wh pins s σ H Q I h
  refine isTrue_or (thn (ha pins s σ H _ I h) fun c s1 ⟨H1, I1, q1⟩ => ?_)
  cases c with
  | true => exact ⟨H1, I1, q1⟩
  | false => exact hb wh pins s1 σ H1 Q I1 q1
theorem pt_not (ha : PT X a tA) : PT X (.UnaryOp .Not a pos) (tNot tA) := by
  intro pins s σ H Q I h
  exact isTrue_not (ha pins s σ H (fun c H1 => Q (!c) H1) I h)
/-- .. as values (bools) -/
def tAndV (ta tb : TE) : TE := fun σ H Q => ta σ H fun x H1 => ∃ c, x = .bl c ∧ if c = true then tb σ H1 Q else Q (.bl false) H1
def tOrV (ta tb : TE) : TE := fun σ H Q => ta σ H fun x H1 => ∃ c, x = .bl c ∧ if c = true then Q (.bl true) H1 else tb σ H1 Q
def tNotV (ta : TE) : TE := fun σ H Q => ta σ H fun x H1 => ∃ c, x = .bl c ∧ Q (.bl (!c)) H1
theorem pe_one {op} {t : TE} (h : PE X a t) : PE X (.BoolOp op [a] pos) t := fun pins s σ H Q I hw => BoolOp_one (h pins s σ H Q I hw)
theorem pe_and (ha : PE X a ta) (hb : PE X (.BoolOp .And (b :: rest) pos) tb) : PE X (.BoolOp .And (a :: b :: rest) pos) (tAndV ta tb) := by
  intro pins s σ H Q I h
  refine BoolOp_and (thn (ha pins s σ H _ I h) fun v s1 ⟨x, H1, I1, r1, q1⟩ => ?_)
  obtain ⟨c, rfl, q1⟩ := q1
  cases r1
  refine wpAny_truthy_bool ?_
  cases c with
  | true => exact hb pins s1 σ H1 Q I1 q1
  | false => exact ⟨.bl false, H1, I1, rfl, q1⟩
theorem pe_or (ha : PE X a ta) (hb : PE X (.BoolOp .Or (b :: rest) pos) tb) : PE X (.BoolOp .Or (a :: b :: rest) pos) (tOrV ta tb) := by
  intro pins s σ H Q I h
  refine BoolOp_or (thn (ha pins s σ H _ I h) fun v s1 ⟨x, H1, I1, r1, q1⟩ => ?_)
  obtain ⟨c, rfl, q1⟩ := q1
  cases r1
  refine wpAny_truthy_bool ?_
  cases c with
  | false => exact hb pins s1 σ H1 Q I1 q1
  | true => exact ⟨.bl true, H1, I1, rfl, q1⟩
theorem pe_not (ha : PE X a ta) : PE X (.UnaryOp .Not a pos) (tNotV ta) := by
  intro pins s σ H Q I h
  refine UnaryOp_ (thn (ha pins s σ H _ I h) fun v s1 ⟨x, H1, I1, r1, q1⟩ => ?_)
  obtain ⟨c, rfl, q1⟩ := q1
  cases r1
  exact not_of (wpAny_truthy_bool ⟨.bl (!c), H1, I1, rfl, q1⟩)
/-- a if t else b -/
def tIf (t : TT) (ta tb : TE) : TE := fun σ H Q => t σ H fun c H1 => if c = true then ta σ H1 Q else tb σ H1 Q
theorem pe_ifExp {c : Expr} (hc : PT X c tA) (ha : PE X a ta) (hb : PE X b tb) : PE X (.IfExp c a b pos) (tIf tA ta tb) := by
  intro pins s σ H Q I h
  refine wpAny_IfExp (thn (hc pins s σ H _ I h) fun d s1 ⟨H1, I1, q1⟩ => ?_)
  cases d with
  | true => exact ha pins s1 σ H1 Q I1 q1
  | false => exact hb pins s1 σ H1 Q I1 q1
end
end L2

namespace L2
open PySem PySem.Spec PyProof.Rows

/-! ### a list, a tuple that is read: tracked, frozen, or an object of the module -/
def SqL (K : PySem.W.Frag) (H : Hp) (a : Addr) (xs : List V) : Prop :=
  Rd H a (.lst xs) ∨
    ∃ (o : Obj) (its : Array Value) (n : Nat), K.lookup a = some o ∧ o.cls = .type "list" ∧ o.dict = none ∧ o.data = .seq its n ∧ its.size ≤ sizeLine ∧ Vals xs its.toList
def SqT (K : PySem.W.Frag) (H : Hp) (a : Addr) (xs : List V) : Prop :=
  Rd H a (.tup xs) ∨
    ∃ (o : Obj) (its : Array Value) (n : Nat), K.lookup a = some o ∧ o.cls = .type "tuple" ∧ o.data = .seq its n ∧ its.size ≤ sizeLine ∧ Vals xs its.toList
def absV : Value → Option V
  | .none => some .non
  | .bool b => some (.bl b)
  | .int i _ => some (.int i)
  | .str x _ => some (.str x)
  | .bytes b _ => some (.byt b)
  | .float b _ => some (.flt b)
  | .ref a => some (.ref a)
  | .type n => some (.ty n)
  | _ => none
theorem RelV.abs {x : V} {u : Value} (r : RelV x u) : absV u = some x := by
  cases x with
  | non => cases r; rfl
  | bl _ => cases r; rfl
  | int _ => obtain ⟨t, rfl⟩ := r; rfl
  | str _ => obtain ⟨t, rfl⟩ := r; rfl
  | byt _ => obtain ⟨t, rfl⟩ := r; rfl
  | flt _ => obtain ⟨t, rfl⟩ := r; rfl
  | ref _ => cases r; rfl
  | ty _ => cases r; rfl
theorem RelV.inj {x y : V} {u : Value} (r : RelV x u) (q : RelV y u) : x = y := Option.some.inj (r.abs.symm.trans q.abs)
theorem Vals.inj : ∀ {xs ys : List V} {us : List Value}, Vals xs us → Vals ys us → xs = ys
  | _, _, _, .nil, .nil => rfl
  | _, _, _, .cons r t, .cons r' t' => by rw [r.inj r', Vals.inj t t']
section
variable {X : Cx} {pins : List (Addr × Obj)} {σ : St} {H : Hp} {s : Shared} {a : Addr} {xs ys : List V}
theorem SqL.of {K : PySem.W.Frag} (h : H a = some (.lst xs)) : SqL K H a xs := .inl (.inl h)
theorem SqT.of {K : PySem.W.Frag} (h : H a = some (.tup xs)) : SqT K H a xs := .inl (.inl h)
theorem Inv.list (I : Inv X pins σ H s) (h : SqL X.K H a xs) : ∃ its : List Value, Vals xs its ∧ PlainL s.heap a its.toArray ∧ xs.length ≤ sizeLine := by
  rcases h with h | ⟨o, its, n, hk, hc, hd, hs, hz, r⟩
  · obtain ⟨z, its, n, r, e⟩ := h.ok I.hok
    exact ⟨its, r, ⟨_, n, e, rfl, rfl, rfl⟩, z⟩
  · refine ⟨its.toList, r, ⟨o, n, I.kIn a o hk, hc, hd, by simpa using hs⟩, ?_⟩
    have e := r.length
    simp only [Array.length_toList] at e
    omega
theorem Inv.tuple (I : Inv X pins σ H s) (h : SqT X.K H a xs) : ∃ its : List Value, Vals xs its ∧ IsTup s.heap a its.toArray ∧ xs.length ≤ sizeLine := by
  rcases h with h | ⟨o, its, n, hk, hc, hs, hz, r⟩
  · obtain ⟨z, its, r, p⟩ := h.ok I.hok
    exact ⟨its, r, p.1, z⟩
  · refine ⟨its.toList, r, ⟨o, I.kIn a o hk, hc, n, by simpa using hs⟩, ?_⟩
    have e := r.length
    simp only [Array.length_toList] at e
    omega
theorem Inv.list_inj (I : Inv X pins σ H s) (h : SqL X.K H a xs) (h' : SqL X.K H a ys) : xs = ys := by
  obtain ⟨its, r, ⟨o, n, e, _, _, d⟩, _⟩ := I.list h
  obtain ⟨its', r', ⟨o', n', e', _, _, d'⟩, _⟩ := I.list h'
  rw [e] at e'; cases e'
  rw [d] at d'
  injection d' with d1 _
  have : its = its' := by simpa using congrArg Array.toList d1
  subst this
  exact r.inj r'
theorem Inv.tuple_inj (I : Inv X pins σ H s) (h : SqT X.K H a xs) (h' : SqT X.K H a ys) : xs = ys := by
  obtain ⟨its, r, ⟨o, e, _, n, d⟩, _⟩ := I.tuple h
  obtain ⟨its', r', ⟨o', e', _, n', d'⟩, _⟩ := I.tuple h'
  rw [e] at e'; cases e'
  rw [d] at d'
  injection d' with d1 _
  have : its = its' := by simpa using congrArg Array.toList d1
  subst this
  exact r.inj r'
end

/-! ### another wish about exceptions -/
abbrev Cx.wish (X : Cx) (E : Value → Shared → Prop) : Cx := { X with xe := E }
/-- no exception leaves -/
abbrev Cx.nox (X : Cx) : Cx := X.wish fun _ _ => False
theorem Cx.Ok.wish {X : Cx} (ok : X.Ok) (E : Value → Shared → Prop) : (X.wish E).Ok :=
  ⟨ok.mod, ok.kind, ok.glob, ok.blt, ok.above, ok.inj, ok.has, ok.cab, ok.hd, ok.frames, ok.stk, ok.exf, ok.bs, ok.bsz, ok.noex, ok.exfs, ok.funs, ok.frf⟩
theorem Cx.Ok.unwish {X : Cx} {E : Value → Shared → Prop} (ok : (X.wish E).Ok) : X.Ok :=
  ⟨ok.mod, ok.kind, ok.glob, ok.blt, ok.above, ok.inj, ok.has, ok.cab, ok.hd, ok.frames, ok.stk, ok.exf, ok.bs, ok.bsz, ok.noex, ok.exfs, ok.funs, ok.frf⟩
section
variable {X : Cx} {pins : List (Addr × Obj)} {σ : St} {H : Hp} {s : Shared} {E : Value → Shared → Prop}
theorem Inv.wish (I : Inv X pins σ H s) (E : Value → Shared → Prop) : Inv (X.wish E) pins σ H s := ⟨I.ok.wish E, I.os, I.bare, I.base, I.loc, I.cell, I.free, I.freeC, I.pin, I.hok, I.len⟩
theorem Inv.unwish (I : Inv (X.wish E) pins σ H s) : Inv X pins σ H s := ⟨I.ok.unwish, I.os, I.bare, I.base, I.loc, I.cell, I.free, I.freeC, I.pin, I.hok, I.len⟩
theorem SP.unwish {D : Ends} {f : Flow} {s' : Shared} (h : SP (X.wish E) pins D f s') : SP X pins D f s' := by
  cases f with
  | next => obtain ⟨σ', H', I, q⟩ := h; exact ⟨σ', H', I.unwish, q⟩
  | brk => obtain ⟨σ', H', I, q⟩ := h; exact ⟨σ', H', I.unwish, q⟩
  | cont => obtain ⟨σ', H', I, q⟩ := h; exact ⟨σ', H', I.unwish, q⟩
  | ret u => obtain ⟨v, σ', H', I, r, q⟩ := h; exact ⟨v, σ', H', I.unwish, r, q⟩
theorem PE.nox {e : Expr} {t : TE} (h : PE X.nox e t) : PE X e t := fun pins s σ H Q I hw =>
  wpAny_mono (h pins s σ H Q (I.wish _) hw) (fun _ _ ⟨v, H', I', r, q⟩ => ⟨v, H', I'.unwish, r, q⟩) fun _ _ z => False.elim z
theorem PT.nox {e : Expr} {t : TT} (h : PT X.nox e t) : PT X e t := fun pins s σ H Q I hw =>
  wpAny_mono (h pins s σ H Q (I.wish _) hw) (fun _ _ ⟨H', I', q⟩ => ⟨H', I'.unwish, q⟩) fun _ _ z => False.elim z
theorem PSs.nox {st : List Stmt} {t : TS} (h : PSs X.nox st t) : PSs X st t := fun pins s σ H D I hw =>
  wpAny_mono (h pins s σ H D (I.wish _) hw) (fun _ _ q => q.unwish) fun _ _ z => False.elim z
end

/-! ### blocks and small statements -/
section
variable {X : Cx} {st : Stmt} {rest : List Stmt} {t u : TS} {e : Expr} {te : TE} {pos : Pos}
def tNext : TS := fun D σ H => D.nx σ H
def tSeq (t u : TS) : TS := fun D σ H => t { D with nx := u D } σ H
theorem pss_nil : PSs X [] tNext := fun _ _ σ H _ I h => wpAny_execs_nil ⟨σ, H, I, h⟩
theorem pss_cons (h1 : PS X st t) (h2 : PSs X rest u) : PSs X (st :: rest) (tSeq t u) := by
  intro pins s σ H D I h
  refine wpAny_execs_cons (thn (h1 pins s σ H { D with nx := u D } I h) fun f s1 q => ?_)
  cases f with
  | next =>
    obtain ⟨σ', H', I', q⟩ := q
    exact h2 pins s1 σ' H' D I' q
  | ret v => exact q
  | brk => exact q
  | cont => exact q
theorem pss_one (h1 : PS X st t) : PSs X [st] t := by
  intro pins s σ H D I h
  refine wpAny_execs_cons (thn (h1 pins s σ H D I h) fun f s1 q => ?_)
  cases f with
  | next => exact wpAny_execs_nil q
  | ret v => exact q
  | brk => exact q
  | cont => exact q
def tBreak : TS := fun D σ H => D.bk σ H
def tCont : TS := fun D σ H => D.ct σ H
theorem ps_pass : PS X (.Pass pos) tNext := fun _ _ σ H _ I h => wpAny_Pass ⟨σ, H, I, h⟩
theorem ps_break : PS X (.Break pos) tBreak := fun _ _ σ H _ I h => wpAny_Break ⟨σ, H, I, h⟩
theorem ps_continue : PS X (.Continue pos) tCont := fun _ _ σ H _ I h => wpAny_Continue ⟨σ, H, I, h⟩
/-- in a def's body nothing is shown -/
theorem Inv.quiet {pins : List (Addr × Obj)} {σ : St} {H : Hp} {s : Shared} (I : Inv X pins σ H s) : interactive X.env = false := by simp [interactive, I.ok.kind]
/-- a docstring -/
theorem ps_doc {x j pos pos'} : PS X (.Expr (.Constant (.str x) j pos) pos') tNext := fun _ s σ H _ I h => wpAny_Expr (Calls.Constant_str (show SP X _ _ .next { s with toks := s.toks + 1 } from ⟨σ, H, I.tok _, h⟩)) I.quiet
/-- an expression whose value is dropped -/
def tDrop (te : TE) : TS := fun D σ H => te σ H fun _ H1 => D.nx σ H1
theorem ps_expr (he : PE X e te) (hs : swapsWith e none pos.line X.env = pure false := by rfl) : PS X (.Expr e pos) (tDrop te) := by
  intro pins s σ H D I h
  exact wpAny_Expr_any (thn (he pins s σ H _ I h) fun v s1 ⟨x, H1, I1, r1, q1⟩ => ⟨σ, H1, I1, q1⟩) I.quiet hs
def tRet (te : TE) : TS := fun D σ H => te σ H D.rt
theorem ps_ret (he : PE X e te) : PS X (.Return (some e) pos) (tRet te) := by
  intro pins s σ H D I h
  exact wpAny_Return_some (thn (he pins s σ H _ I h) fun v s1 ⟨x, H1, I1, r1, q1⟩ => ⟨x, σ, H1, I1, r1, q1⟩)
def tRetN : TS := fun D _ H => D.rt .non H
theorem ps_retN : PS X (.Return none pos) tRetN := fun _ _ σ H _ I h => wpAny_Return_none ⟨.non, σ, H, I, rfl, h⟩
def tIfS (c : TT) (t u : TS) : TS := fun D σ H => c σ H fun b H1 => if b = true then t D σ H1 else u D σ H1
theorem ps_if {c : Expr} {a b : List Stmt} {tc : TT} (hc : PT X c tc) (ha : PSs X a t) (hb : PSs X b u) : PS X (.If c a b pos) (tIfS tc t u) := by
  intro pins s σ H D I h
  refine wpAny_If (thn (hc pins s σ H _ I h) fun d s1 ⟨H1, I1, q1⟩ => ?_)
  cases d with
  | true => exact ha pins s1 σ H1 D I1 q1
  | false => exact hb pins s1 σ H1 D I1 q1
/-- code that the proof never comes to -/
def tNever : TS := fun _ _ _ => False
theorem ps_never : PS X st tNever := fun _ _ _ _ _ _ h => h.elim
theorem pss_never {sts : List Stmt} : PSs X sts tNever := fun _ _ _ _ _ _ h => h.elim
end

/-! ### targets -/
abbrev TG := V → St → Hp → (St → Hp → Prop) → Prop
abbrev TGs := List V → St → Hp → (St → Hp → Prop) → Prop
def PG (X : Cx) (target : Expr) (t : TG) : Prop :=
  ∀ (pins : List (Addr × Obj)) (s : Shared) (σ : St) (H : Hp) (v : V) (u : Value) (Q : St → Hp → Prop), Inv X pins σ H s → RelV v u → t v σ H Q →
    wpAny (model X.prog X.w) X.A (assign target X.env u) (fun _ s' => ∃ σ' H', Inv X pins σ' H' s' ∧ Q σ' H') X.xe s
/-- several targets, one after another -/
def PGs (X : Cx) (ts : List Expr) (t : TGs) : Prop :=
  ∀ (pins : List (Addr × Obj)) (s : Shared) (σ : St) (H : Hp) (vs : List V) (us : List Value) (Q : St → Hp → Prop), Inv X pins σ H s → Vals vs us → t vs σ H Q →
    wpAny (model X.prog X.w) X.A (assignInOrder ((assignEach ts X.env).map (·.2)) us) (fun _ s' => ∃ σ' H', Inv X pins σ' H' s' ∧ Q σ' H') X.xe s
/-- o[i] = v, by values -/
abbrev TSet := V → V → V → Hp → (Hp → Prop) → Prop
def PSet (X : Cx) (t : TSet) : Prop :=
  ∀ (pins : List (Addr × Obj)) (s : Shared) (σ : St) (H : Hp) (o i v : V) (ov iv u : Value) (Q : Hp → Prop), Inv X pins σ H s → RelV o ov → RelV i iv → RelV v u → t o i v H Q →
    wpAny (model X.prog X.w) X.A (setItem ov iv u) (fun _ s' => ∃ H', Inv X pins σ H' s' ∧ Q H') X.xe s
/-- a op= b, by values -/
abbrev TIp := V → V → Hp → VK → Prop
def PIp (X : Cx) (op : Operator) (t : TIp) : Prop :=
  ∀ (pins : List (Addr × Obj)) (s : Shared) (σ : St) (H : Hp) (x y : V) (v u : Value) (Q : VK), Inv X pins σ H s → RelV x v → RelV y u → t x y H Q →
    wpAny (model X.prog X.w) X.A (inplaceOp op v u) (EP X pins σ Q) X.xe s
section
variable {X : Cx} {pos : Pos}
def gName (i : Nat) : TG := fun v σ H Q => Q (σ.set i (some v)) H
theorem pg_name {i : Nat} {x : Str} (hN : X.N.Nodup) (hi : X.N[i]? = some x) (hx : Loc X.env.scope x) (hf : X.fn x = true ∨ X.env.scope.names.lookup x = some .local := by first | exact .inl rfl | exact .inr rfl | assumption) : PG X (.Name x pos) (gName i) := by
  intro pins s σ H v u Q I r h
  exact wpAny_assign_Name (store_ok I hN hi hx r (fun s' I' => ⟨_, H, I', h⟩) hf)
def gNil : TGs := fun vs σ H Q => vs = [] ∧ Q σ H
def gCons (t : TG) (u : TGs) : TGs := fun vs σ H Q => ∃ v r, vs = v :: r ∧ t v σ H fun σ' H' => u r σ' H' Q
theorem pgs_nil : PGs X [] gNil := by
  intro pins s σ H vs us Q I r h
  obtain ⟨e, h⟩ := h
  subst e
  cases r
  exact assignInOrder_nil ⟨σ, H, I, h⟩
theorem pgs_cons {e : Expr} {es : List Expr} {t : TG} {u : TGs} (h1 : PG X e t) (h2 : PGs X es u)
    (hs : (assignEach (e :: es) X.env).map (·.2) = assign e X.env :: (assignEach es X.env).map (·.2) := by rfl) : PGs X (e :: es) (gCons t u) := by
  intro pins s σ H vs us Q I r h
  obtain ⟨v, vr, e1, h⟩ := h
  subst e1
  cases r with
  | cons r rr =>
    rw [hs]
    refine assignInOrder_cons (thn (h1 pins s σ H _ _ _ I r h) fun _ s1 ⟨σ1, H1, I1, q1⟩ => ?_)
    exact h2 pins s1 σ1 H1 _ _ Q I1 rr q1
/-- (a, b, ..) = a tuple of that length -/
def gTup (K : PySem.W.Frag) (n : Nat) (t : TGs) : TG := fun v σ H Q => ∃ a xs, v = .ref a ∧ SqT K H a xs ∧ xs.length = n ∧ t xs σ H Q
theorem pg_tup {es : List Expr} {k : Nat} {t : TGs} {n : Nat} (hc : X.calm = true) (h : PGs X es t)
    (hn : (assignEach es X.env).length = n := by rfl) (hst : (assignEach es X.env).findIdx? (·.1) = none := by rfl) : PG X (.Tuple es k pos) (gTup X.K n t) := by
  intro pins s σ H v u Q I r hw
  obtain ⟨a, xs, e1, hq, hl, hw⟩ := hw
  subst e1
  cases r
  obtain ⟨its, rv, ht, hz⟩ := I.tuple hq
  refine assign_Tuple_tuple (I.ok.hd hc) ht (by simp [hn, ← hl, rv.length]) hst fun h' hx => ?_
  have I1 : Inv X pins σ H { s with heap := h' } := I.kept (t' := s.toks) fun b o e => hx b o (Nat.ne_of_lt (Heap.lt_size e)) e
  exact h pins _ σ H xs _ Q I1 (by simpa using rv) hw
/-- o[i] = .. -/
def gSub (to ti : TE) (t : TSet) : TG := fun v σ H Q => to σ H fun o H1 => ti σ H1 fun i H2 => t o i v H2 fun H3 => Q σ H3
theorem pg_sub {o i : Expr} {to ti : TE} {t : TSet} (ho : PE X o to) (hi : PE X i ti) (hs : PSet X t)
    (ha : ∀ v, assign (.Subscript o i pos) X.env v = (do
      let ov ← holding [v] (eval o X.env)
      let iv ← holding [v, ov] (eval i X.env)
      standAt pos
      holding [v, ov, iv] (setItem ov iv v)
      release [v, ov, iv] []) := by intro _; rfl) : PG X (.Subscript o i pos) (gSub to ti t) := by
  intro pins s σ H v u Q I r h
  rw [ha]
  refine wpAny_bind (wpAny_holding (thn (ho pins s σ H _ I h) fun ov s1 ⟨x, H1, I1, r1, q1⟩ => ?_))
  refine wpAny_bind (wpAny_holding (thn (hi pins s1 σ H1 _ I1 q1) fun iv s2 ⟨y, H2, I2, r2, q2⟩ => ?_))
  refine wpAny_bind (wpAny_standAt (wpAny_bind (wpAny_holding (thn (hs pins s2 σ H2 x y v ov iv u _ I2 r1 r2 r q2) fun _ s3 ⟨H3, I3, q3⟩ => ?_))))
  exact wpAny_release ⟨σ, H3, I3, q3⟩
/-- target = value -/
def tAsg (te : TE) (g : TG) : TS := fun D σ H => te σ H fun x H1 => g x σ H1 D.nx
theorem ps_asg {tg e : Expr} {te : TE} {g : TG} (he : PE X e te) (hg : PG X tg g) (hs : swapsWithSole [tg] e pos.line X.env = pure false := by rfl) (hw : swappedStores [tg] e X.env = pure none := by rfl)
    (h1 : (assignEach [tg] X.env).map (·.2) = [assign tg X.env] := by rfl) : PS X (.Assign [tg] e pos) (tAsg te g) := by
  intro pins s σ H D I h
  refine wpAny_Assign_stores (thn (he pins s σ H _ I h) fun v s1 ⟨x, H1, I1, r1, q1⟩ => ?_) hs hw
  rw [h1]
  exact thn (hg pins s1 σ H1 x v _ I1 r1 q1) fun _ s2 q => q
/-- name = value -/
theorem ps_set {i : Nat} {x : Str} {e : Expr} {te : TE} {pos' : Pos} (hN : X.N.Nodup) (hi : X.N[i]? = some x) (hx : Loc X.env.scope x) (he : PE X e te) (hs : swapsWith e (some (.Name x pos')) pos.line X.env = pure false := by rfl) (hf : X.fn x = true ∨ X.env.scope.names.lookup x = some .local := by first | exact .inl rfl | exact .inr rfl | assumption) :
    PS X (.Assign [.Name x pos'] e pos) (tAsg te (gName i)) := by
  intro pins s σ H D I h
  refine wpAny_Assign_Name (thn (he pins s σ H _ I h) fun v s1 ⟨y, H1, I1, r1, q1⟩ => ?_) hs
  exact store_ok I1 hN hi hx r1 (fun s2 I2 => ⟨_, H1, I2, q1⟩) hf
/-- a, b = x, y with plain local names: stored from the right; the pair itself is not tracked (the opening rows as in PyProof/Rows/TupAssign.lean:23) -/
def tPar (i j : Nat) (ta : TA) : TS := fun D σ H => ta σ H fun vs H1 => ∃ v w, vs = [v, w] ∧ D.nx ((σ.set i (some v)).set j (some w)) H1
theorem ps_par {i j : Nat} {x y : Str} {a b : Expr} {ta : TA} {px py pt : Pos} {kt k2 pt2} (hc : X.calm = true) (hN : X.N.Nodup) (hi : X.N[i]? = some x) (hj : X.N[j]? = some y) (hij : i ≠ j)
    (hx : X.env.scope.names.lookup x = some .local) (hy : X.env.scope.names.lookup y = some .local) (ha : PA X [a, b] ta)
    (hw : swappedStores [.Tuple [.Name x px, .Name y py] kt pt] (.Tuple [a, b] k2 pt2) X.env = pure (some [x, y]))
    (hs : swapsWithSole [.Tuple [.Name x px, .Name y py] kt pt] (.Tuple [a, b] k2 pt2) pos.line X.env = pure false := by rfl) :
    PS X (.Assign [.Tuple [.Name x px, .Name y py] kt pt] (.Tuple [a, b] k2 pt2) pos) (tPar i j ta) := by
  intro pins s σ H D I h
  rw [exec_Assign_arm]
  refine wpAny_bind (wpAny_standAt ?_)
  rw [hs]
  refine wpAny_bind (wpAny_pure ?_)
  rw [if_neg (by decide)]
  refine wpAny_bind (Tuple_ (thn (ha _ pins s σ H _ I h) fun us s1 ⟨vs, H1, I1, r1, q1⟩ => ?_))
  obtain ⟨v, w, e1, q1⟩ := q1
  subst e1
  obtain ⟨u1, u2, rfl, rv, rw'⟩ : ∃ u1 u2, us = [u1, u2] ∧ RelV v u1 ∧ RelV w u2 := by
    cases r1 with
    | cons p q =>
      cases q with
      | cons p' q' =>
        cases q'
        exact ⟨_, _, rfl, p, p'⟩
  refine wpAny_newObj_type ?_ (by show 2 ≤ sizeLine; decide)
  have I2 : Inv X pins σ H1 { s1 with heap := s1.heap.push { cls := .type "tuple", data := .seq [u1, u2].toArray } } := I1.kept (t' := s1.toks) fun b o e => Heap.get?_push_of_some _ e
  rw [hw]
  refine wpAny_bind (wpAny_pure ?_)
  show wpAny (model X.prog X.w) X.A (do rule "assign.swapped-stores"; let items ← unpackItems (.ref s1.heap.objs.size) 2 none; assignInOrder [fun v => bindName X.env y v, fun v => bindName X.env x v] items.reverse; pure Flow.next) _ _ _
  refine wpAny_bind (wpAny_rule (wpAny_bind (unpackItems_tuple (items := #[u1, u2]) (I.ok.hd hc) (IsTup.new s1.heap _) fun h' hx' => ?_)))
  have I3 := I2.kept (h' := h') (t' := s1.toks) fun b o e => hx' b o (Nat.ne_of_lt (Heap.lt_size e)) e
  show wpAny _ _ (assignInOrder [fun v => bindName X.env y v, fun v => bindName X.env x v] [u2, u1] >>= fun _ => pure Flow.next) _ _ _
  refine wpAny_bind (assignInOrder_cons (wpAny_bindName (store_ok I3 hN hj (.inl hy) rw' (fun s2 I4 => ?_) (.inr hy))))
  refine assignInOrder_cons (wpAny_bindName (store_ok I4 hN hi (.inl hx) rv (fun s3 I5 => assignInOrder_nil (wpAny_pure ?_)) (.inr hx)))
  rw [List.set_comm _ _ (Ne.symm hij)] at I5
  exact ⟨_, H1, I5, q1⟩
/-- name op= e -/
def tAug (i : Nat) (te : TE) (ti : TIp) : TS := fun D σ H => ∃ x, σ[i]? = some (some x) ∧ te σ H fun y H1 => ti x y H1 fun z H2 => D.nx (σ.set i (some z)) H2
theorem ps_aug {i : Nat} {x : Str} {e : Expr} {te : TE} {op : Operator} {ti : TIp} {pos' : Pos} (hN : X.N.Nodup) (hi : X.N[i]? = some x) (hx : Loc X.env.scope x) (he : PE X e te) (ho : PIp X op ti) (hf : X.fn x = true ∨ X.env.scope.names.lookup x = some .local := by first | exact .inl rfl | exact .inr rfl | assumption) :
    PS X (.AugAssign (.Name x pos') op e pos) (tAug i te ti) := by
  intro pins s σ H D I h
  obtain ⟨v, e1, h⟩ := h
  obtain ⟨m, hn, hl⟩ := I.loc
  have vis : Vis X.env.scope x := by rcases hx with k | k; exact .inl k; exact .inr (.inl k)
  obtain ⟨u, r, l⟩ := hl i x v hi e1 vis
  refine wpAny_AugAssign_Name ?_
  have go : wpAny (model X.prog X.w) X.A (eval e X.env) (fun w s₂ => wpAny (model X.prog X.w) X.A (inplaceOp op u w) (fun r s₃ => wpAny (model X.prog X.w) X.A (storeName X.env x r) (fun _ => SP X pins D .next) X.xe s₃) X.xe s₂) X.xe s := by
    refine thn (he pins s σ H _ I h) fun w s1 ⟨y, H1, I1, r1, q1⟩ => ?_
    refine thn (ho pins s1 σ H1 v y u w _ I1 r r1 q1) fun z s2 ⟨zv, H2, I2, r2, q2⟩ => ?_
    exact store_ok I2 hN hi hx r2 (fun s3 I3 => ⟨_, H2, I3, q2⟩) hf
  rcases l with ⟨hk, hm⟩ | ⟨hk, c, hc, hcell⟩
  · exact wpAny_loadName_local I.ok.kind hk hn hm go
  · rcases hk with hk | hk
    · exact wpAny_loadName_cell I.ok.kind hk hc hcell go
    · rcases hx with k | k
      · have : X.env.scope.names.lookup x = some .free := hk
        rw [k] at this; cases this
      · have : X.env.scope.names.lookup x = some .free := hk
        rw [k] at this; cases this
/-- o[i] op= e -/
def tAugS (to ti te : TE) (tget : V → V → Hp → VK → Prop) (tip : TIp) (tset : TSet) : TS := fun D σ H => to σ H fun o H1 => ti σ H1 fun i H2 => tget o i H2 fun x H3 => te σ H3 fun y H4 => tip x y H4 fun z H5 => tset o i z H5 fun H6 => D.nx σ H6
/-- o[i], by values -/
def PGet (X : Cx) (t : V → V → Hp → VK → Prop) : Prop :=
  ∀ (pins : List (Addr × Obj)) (s : Shared) (σ : St) (H : Hp) (o i : V) (ov iv : Value) (Q : VK), Inv X pins σ H s → RelV o ov → RelV i iv → t o i H Q →
    wpAny (model X.prog X.w) X.A (getItem ov iv) (EP X pins σ Q) X.xe s
theorem ps_augS {o i e : Expr} {to ti te : TE} {tget : V → V → Hp → VK → Prop} {tip : TIp} {tset : TSet} {op : Operator} {tpos : Pos} (ho : PE X o to) (hi : PE X i ti) (hg : PGet X tget) (he : PE X e te) (hp : PIp X op tip) (hs : PSet X tset)
    (ha : ∀ ov iv new, augStore i ov iv new = (do holding [new, ov, iv] (setItem ov iv new); release [new, ov, iv] []; pure .next) := by intros; rfl) : PS X (.AugAssign (.Subscript o i tpos) op e pos) (tAugS to ti te tget tip tset) := by
  intro pins s σ H D I h
  refine wpAny_AugAssign_SubscriptAny (thn (ho pins s σ H _ I h) fun ov s1 ⟨x1, H1, I1, r1, q1⟩ => ?_) ha
  refine thn (hi pins s1 σ H1 _ I1 q1) fun iv s2 ⟨x2, H2, I2, r2, q2⟩ => ?_
  refine thn (hg pins s2 σ H2 x1 x2 ov iv _ I2 r1 r2 q2) fun old s3 ⟨x3, H3, I3, r3, q3⟩ => ?_
  refine thn (he pins s3 σ H3 _ I3 q3) fun v s4 ⟨x4, H4, I4, r4, q4⟩ => ?_
  refine thn (hp pins s4 σ H4 x3 x4 old v _ I4 r3 r4 q4) fun new s5 ⟨x5, H5, I5, r5, q5⟩ => ?_
  exact thn (hs pins s5 σ H5 x1 x2 x5 ov iv new _ I5 r1 r2 r5 q5) fun _ s6 ⟨H6, I6, q6⟩ => ⟨σ, H6, I6, q6⟩
/-- ints -/
def ipI (f : Int → Int → Int) : TIp := fun x y H Q => ∃ i j, x = .int i ∧ y = .int j ∧ Q (.int (f i j)) H
theorem ip_add : PIp X .Add (ipI fun i j => i + j) := by
  intro pins s σ H x y v u Q I r1 r2 h
  obtain ⟨i, j, e1, e2, q⟩ := h
  subst e1; subst e2
  obtain ⟨t, rfl⟩ := r1
  obtain ⟨t', rfl⟩ := r2
  exact iadd_int ⟨.int _, H, I.tok _, ⟨_, rfl⟩, q⟩
theorem ip_sub : PIp X .Sub (ipI fun i j => i - j) := by
  intro pins s σ H x y v u Q I r1 r2 h
  obtain ⟨i, j, e1, e2, q⟩ := h
  subst e1; subst e2
  obtain ⟨t, rfl⟩ := r1
  obtain ⟨t', rfl⟩ := r2
  exact isub_int ⟨.int _, H, I.tok _, ⟨_, rfl⟩, q⟩
end

/-! ### while -/
section
variable {X : Cx} {pos : Pos}
/-- the invariant W with its measure -/
def tWhile (c : TT) (tb : TS) : TS := fun D σ H => ∃ W : Nat → St → Hp → Prop, (∃ m, W m σ H) ∧ ∀ m σ H, W m σ H →
  c σ H fun b H1 => if b = true then ∃ N : St → Hp → Prop, (∀ σ' H', N σ' H' → ∃ m', m' < m ∧ W m' σ' H') ∧ tb { D with nx := N, ct := N, bk := D.nx } σ H1 else D.nx σ H1
theorem ps_while {c : Expr} {body : List Stmt} {tc : TT} {tb : TS} (hp : PassesOwn (model X.prog X.w) X.A X.env X.xe) (hc : PT X c tc) (hb : PSs X body tb) : PS X (.While c body [] pos) (tWhile tc tb) := by
  intro pins s σ H D I h
  obtain ⟨W, ⟨m0, w0⟩, turn⟩ := h
  refine wpAny_While (codeAny_whileLoop (fun n s' => ∃ σ' H', Inv X pins σ' H' s' ∧ W n σ' H') ?_ m0 ⟨σ, H, I, w0⟩)
  rintro n s1 ⟨σ1, H1, I1, w1⟩
  refine wpAny_passesOwn hp (thn (hc pins s1 σ1 H1 _ I1 (turn n σ1 H1 w1)) fun b s2 ⟨H2, I2, q2⟩ => ?_)
  cases b with
  | true =>
    obtain ⟨N, hN, q2⟩ := q2
    rw [if_pos rfl]
    refine wpAny_passesOwn hp (thn (hb pins s2 σ1 H2 _ I2 q2) fun f s3 q3 => ?_)
    cases f with
    | next =>
      obtain ⟨σ3, H3, I3, n3⟩ := q3
      obtain ⟨m', hm, w3⟩ := hN σ3 H3 n3
      exact ⟨m', hm, σ3, H3, I3, w3⟩
    | cont =>
      obtain ⟨σ3, H3, I3, n3⟩ := q3
      obtain ⟨m', hm, w3⟩ := hN σ3 H3 n3
      exact ⟨m', hm, σ3, H3, I3, w3⟩
    | brk => exact q3
    | ret v => exact q3
  | false =>
    rw [if_neg Bool.false_ne_true]
    exact wpAny_execs_nil ⟨σ1, H2, I2, q2⟩
end

/-! ### what a loop or a comprehension walks -/
/-- at turn i: it yields x (the heap may grow), or it stops -/
structure It where
  go : Nat → Hp → Prop
  yld : Nat → Hp → V → Hp → Prop
  stop : Nat → Hp → Prop
/-- the iterator's own objects may turn: they are not the frame's, not pinned, younger than the entry (or a comprehension's own) -/
def FpOk (X : Cx) (pins : List (Addr × Obj)) (H : Hp) (b : Addr) : Prop :=
  H b = none ∧ b ≠ X.env.locals ∧ b ∉ X.fs ∧ (b ∈ X.ex ∨ X.s₀.heap.objs.size ≤ b) ∧ (∀ x c, X.env.cells.lookup x = some c → c ≠ b) ∧ ∀ p ∈ X.pn ++ pins, p.1 ≠ b
theorem Inv.fpOk {X : Cx} {pins : List (Addr × Obj)} {σ : St} {H H' : Hp} {s : Shared} {b : Addr} (I : Inv X pins σ H s) (hb : s.heap.objs.size ≤ b) (hn : H' b = none) : FpOk X pins H' b := by
  refine ⟨hn, Nat.ne_of_gt (Nat.lt_of_lt_of_le I.lt hb), I.nofs hb, .inr (Nat.le_trans I.sz hb), fun x c e z => ?_, fun p hp z => ?_⟩
  · obtain ⟨v, q⟩ := I.cell x c e
    exact absurd (Nat.lt_of_lt_of_le q.lt (by rw [z]; exact hb)) (Nat.lt_irrefl _)
  · exact absurd (Nat.lt_of_lt_of_le (Heap.lt_size (I.pin p hp).1) (by rw [z]; exact hb)) (Nat.lt_irrefl _)
structure Turn (P : Program) (w : World) (K : PySem.W.Frag) (tg : Expr) (J : It) (fp : List Addr) (it : Addr) (tn : Nat → Heap → Prop) : Prop where
  mem : it ∈ fp
  obj : ∀ i h, tn i h → ∀ b ∈ fp, ∃ o, h.get? b = some o ∧ ∀ v, o.data ≠ .cell v
  keep : ∀ i h h', tn i h → (∀ b ∈ fp, ∀ o, h.get? b = some o → h'.get? b = some o) → tn i h'
  item : ∀ (X : Cx), X.prog = P → X.w = w → X.K = K → X.calm = true → ∀ (i : Nat) (pins : List (Addr × Obj)) (s : Shared) (σ : St) (H : Hp) (E : Value → Shared → Prop), Inv X pins σ H s → (∀ b ∈ fp, FpOk X pins H b) → tn i s.heap → J.go i H →
    wpAny (model P w) X.A (pyNext (.ref it)) (fun r s1 => ∃ u, r = some u ∧
      wpAny (model P w) X.A (letOwnedTupleGo tg (.ref it) u) (fun _ s2 => ∃ x H', Inv X pins σ H' s2 ∧ RelV x u ∧ J.yld i H x H' ∧ tn (i + 1) s2.heap ∧ ∀ b ∈ fp, H' b = none) E s1) E s
  done : ∀ (X : Cx), X.prog = P → X.w = w → X.K = K → X.calm = true → ∀ (i : Nat) (pins : List (Addr × Obj)) (s : Shared) (σ : St) (H : Hp) (E : Value → Shared → Prop), Inv X pins σ H s → (∀ b ∈ fp, FpOk X pins H b) → tn i s.heap → J.stop i H →
    wpAny (model P w) X.A (pyNext (.ref it)) (fun r s1 => r = none ∧ Inv X pins σ H s1) E s
  self : ∀ (A : Around) (i : Nat) (s : Shared) (Q : Value → Shared → Prop) (E : Value → Shared → Prop), tn i s.heap → Q (.ref it) s → wpAny (model P w) A (pyIter (.ref it)) Q E s
abbrev TI := St → Hp → (It → Hp → Prop) → Prop
/-- an iterator has come -/
def PIE (X : Cx) (pins : List (Addr × Obj)) (σ : St) (tg : Expr) (R : It → Hp → Prop) (itv : Value) (s2 : Shared) : Prop :=
  ∃ (it : Addr) (fp : List Addr) (tn : Nat → Heap → Prop) (J : It) (H' : Hp), itv = .ref it ∧ Inv X pins σ H' s2 ∧ Turn X.prog X.w X.K tg J fp it tn ∧ tn 0 s2.heap ∧ (∀ b ∈ fp, FpOk X pins H' b) ∧ R J H'
def PI (X : Cx) (tg iter : Expr) (wi : TI) : Prop :=
  ∀ (pins : List (Addr × Obj)) (s : Shared) (σ : St) (H : Hp) (R : It → Hp → Prop), Inv X pins σ H s → wi σ H R →
    wpAny (model X.prog X.w) X.A (eval iter X.env) (fun v s1 => wpAny (model X.prog X.w) X.A (pyIter v) (PIE X pins σ tg R) X.xe s1) X.xe s

/-- the step ahead of the store is nothing for an iterator that keeps no tuple -/
theorem go_of {M : Model} {A : Around} {E : Value → Shared → Prop} {s : Shared} {tg : Expr} {it : Addr} {u : Value} {o : Obj} {n : String} {vs : Array Value} {Q : Unit → Shared → Prop} (ho : s.heap.get? it = some o) (hc : o.cls = .type n) (hd : o.data = .fields vs)
    (hn : ["enumerate", "zip", "dict_itemiterator", "dict_reverseitemiterator", "odict_iterator", "itertools.zip_longest", "itertools.pairwise"].contains n = false) (hQ : Q () s) : wpAny M A (letOwnedTupleGo tg (.ref it) u) Q E s := by
  unfold letOwnedTupleGo
  cases tg <;> first
    | exact wpAny_pure hQ
    | (cases u <;> first
        | exact wpAny_pure hQ
        | (refine wpAny_bind (wpAny_load ho ?_)
           rw [hc, hd]
           show wpAny M A (if (["enumerate", "zip", "dict_itemiterator", "dict_reverseitemiterator", "odict_iterator", "itertools.zip_longest", "itertools.pairwise"].contains n && vs[0]? == some (rawInt _)) = true then _ else _) Q E s
           rw [if_neg (by intro h; rw [hn, Bool.false_and] at h; cases h)]
           exact wpAny_pure hQ))

/-- the list at a, as it stands at each turn (a loop may append to it) -/
def Itl (K : PySem.W.Frag) (a : Addr) : It :=
  ⟨fun i H => ∃ xs x, SqL K H a xs ∧ xs[i]? = some x, fun i H x H' => H' = H ∧ ∀ xs, SqL K H a xs → xs[i]? = some x, fun i H => ∃ xs, SqL K H a xs ∧ xs.length ≤ i⟩
def Itt (K : PySem.W.Frag) (a : Addr) : It :=
  ⟨fun i H => ∃ xs x, SqT K H a xs ∧ xs[i]? = some x, fun i H x H' => H' = H ∧ ∀ xs, SqT K H a xs → xs[i]? = some x, fun i H => ∃ xs, SqT K H a xs ∧ xs.length ≤ i⟩
/-- lo, lo + 1, .. (n of them) -/
def Itr (lo : Int) (n : Nat) : It := ⟨fun i _ => i < n, fun i H x H' => H' = H ∧ x = .int (lo + i), fun i _ => n ≤ i⟩
theorem turn_list {P : Program} {w : World} {K : PySem.W.Frag} {tg : Expr} (a it : Addr) : Turn P w K tg (Itl K a) [it] it (fun i h => h.IsListIter it a i) where
  mem := by simp
  obj := fun i h st b hb => by
    have e : b = it := by simpa using hb
    subst e
    obtain ⟨o, e, c, d⟩ := st
    exact ⟨o, e, fun v z => by rw [d] at z; cases z⟩
  keep := fun i h h' st k => st.at fun o e => k it (by simp) o e
  item := by
    intro X hP hw hK hc i pins s σ H E I hf st hg
    subst hP hw hK
    obtain ⟨xs, x, hq, hx⟩ := hg
    obtain ⟨its, rv, p, hz⟩ := I.list hq
    obtain ⟨u, hu, ru⟩ := rv.get hx
    obtain ⟨f0, f1, f2, f3, f4, f5⟩ := hf it (by simp)
    refine wpAny_pyNext_list_item st p.isList (x := u) (by simpa using hu) fun h' st' sb => ?_
    have I1 : Inv X pins σ H { s with heap := h' } := I.turned (t' := s.toks) (fun b o hb e => (sb.2 b hb).trans e) f0 f1 f3 f4 f5
    obtain ⟨o, e, c, d⟩ := id st'
    exact ⟨u, rfl, go_of (s := { s with heap := h' }) e c d (by decide) ⟨x, H, I1, ru, ⟨rfl, fun ys hy => by rw [I.list_inj hy hq]; exact hx⟩, st', fun b hb => (hf b hb).1⟩⟩
  done := by
    intro X hP hw hK hc i pins s σ H E I hf st hg
    subst hP hw hK
    obtain ⟨xs, hq, hx⟩ := hg
    obtain ⟨its, rv, p, hz⟩ := I.list hq
    obtain ⟨f0, f1, f2, f3, f4, f5⟩ := hf it (by simp)
    have hl := rv.length
    exact wpAny_pyNext_list_end (I.ok.hd hc) st p.isList (by simp; omega) fun h' eb => ⟨rfl, I.turned (t' := s.toks) (fun b o hb e => eb b o hb e) f0 f1 f3 f4 f5⟩
  self := fun _ _ _ _ _ st h => wpAny_pyIter_listiter st h
theorem turn_tuple {P : Program} {w : World} {K : PySem.W.Frag} {tg : Expr} (a it : Addr) : Turn P w K tg (Itt K a) [it] it (fun i h => h.IsTupleIter it a i) where
  mem := by simp
  obj := fun i h st b hb => by
    have e : b = it := by simpa using hb
    subst e
    obtain ⟨o, e, c, d⟩ := st
    exact ⟨o, e, fun v z => by rw [d] at z; cases z⟩
  keep := fun i h h' st k => st.at fun o e => k it (by simp) o e
  item := by
    intro X hP hw hK hc i pins s σ H E I hf st hg
    subst hP hw hK
    obtain ⟨xs, x, hq, hx⟩ := hg
    obtain ⟨its, rv, p, hz⟩ := I.tuple hq
    obtain ⟨u, hu, ru⟩ := rv.get hx
    obtain ⟨f0, f1, f2, f3, f4, f5⟩ := hf it (by simp)
    refine wpAny_pyNext_tuple_item st (show s.heap.IsTuple a its.toArray from p) (x := u) (by simpa using hu) fun h' st' sb => ?_
    have I1 : Inv X pins σ H { s with heap := h' } := I.turned (t' := s.toks) (fun b o hb e => (sb.2 b hb).trans e) f0 f1 f3 f4 f5
    obtain ⟨o, e, c, d⟩ := id st'
    exact ⟨u, rfl, go_of (s := { s with heap := h' }) e c d (by decide) ⟨x, H, I1, ru, ⟨rfl, fun ys hy => by rw [I.tuple_inj hy hq]; exact hx⟩, st', fun b hb => (hf b hb).1⟩⟩
  done := by
    intro X hP hw hK hc i pins s σ H E I hf st hg
    subst hP hw hK
    obtain ⟨xs, hq, hx⟩ := hg
    obtain ⟨its, rv, p, hz⟩ := I.tuple hq
    obtain ⟨f0, f1, f2, f3, f4, f5⟩ := hf it (by simp)
    have hl := rv.length
    exact wpAny_pyNext_tuple_end (I.ok.hd hc) st (show s.heap.IsTuple a its.toArray from p) (by simp; omega) fun h' eb => ⟨rfl, I.turned (t' := s.toks) (fun b o hb e => eb b o hb e) f0 f1 f3 f4 f5⟩
  self := fun _ _ _ _ _ st h => wpAny_pyIter_tupleiter st h
theorem turn_range {P : Program} {w : World} {K : PySem.W.Frag} {tg : Expr} (it : Addr) (lo : Int) (n : Nat) : Turn P w K tg (Itr lo n) [it] it (fun i h => IsRangeIter h it (lo + (i : Nat) * 1) ((n : Int) - (i : Nat)) 1) where
  mem := by simp
  obj := fun i h st b hb => by
    have e : b = it := by simpa using hb
    subst e
    exact ⟨_, st, fun v z => by
      have z' : Data.fields _ = Data.cell v := z
      cases z'⟩
  keep := fun i h h' st k => k it (by simp) _ st
  item := by
    intro X hP hw hK hc i pins s σ H E I hf st hg
    subst hP hw hK
    obtain ⟨f0, f1, f2, f3, f4, f5⟩ := hf it (by simp)
    have W := Walks.range (prog := X.prog) (w := X.w) (I.ok.hd hc) it lo 1 n
    refine W.item i s _ _ hg st fun v h' tk hv st' kk => ?_
    obtain ⟨t, rfl⟩ := hv
    have I1 : Inv X pins σ H { s with heap := h', toks := tk } := I.turned (fun b o hb e => kk b o (by simpa using hb) e) f0 f1 f3 f4 f5
    refine ⟨_, rfl, go_of (s := { s with heap := h', toks := tk }) (n := "range_iterator") st' rfl rfl (by decide) ⟨.int (lo + i), H, I1, ⟨t, ?_⟩, ⟨rfl, rfl⟩, st', fun b hb => (hf b hb).1⟩⟩
    rw [Int.mul_one]
  done := by
    intro X hP hw hK hc i pins s σ H E I hf st hg
    subst hP hw hK
    obtain ⟨f0, f1, f2, f3, f4, f5⟩ := hf it (by simp)
    exact wpAny_pyNext_range_end (I.ok.hd hc) st (by have : n ≤ i := hg; omega) fun h' eb => ⟨rfl, I.turned (t' := s.toks) (fun b o hb e => eb b o hb e) f0 f1 f3 f4 f5⟩
  self := fun _ _ _ _ _ st h => wpAny_pyIter_rangeiter st h
end L2

namespace L2
open PySem PySem.Spec PyProof.Rows
section
variable {X : Cx} {tg : Expr}
def iList (K : PySem.W.Frag) (tl : TE) : TI := fun σ H R => tl σ H fun x H1 => ∃ a, x = .ref a ∧ (∃ xs, SqL K H1 a xs) ∧ R (Itl K a) H1
def iTup (K : PySem.W.Frag) (tl : TE) : TI := fun σ H R => tl σ H fun x H1 => ∃ a, x = .ref a ∧ (∃ xs, SqT K H1 a xs) ∧ R (Itt K a) H1
theorem pi_list {l : Expr} {tl : TE} (hl : PE X l tl) : PI X tg l (iList X.K tl) := by
  intro pins s σ H R I h
  refine thn (hl pins s σ H _ I h) fun v s1 ⟨x, H1, I1, r1, q1⟩ => ?_
  obtain ⟨a, e, ⟨xs, hq⟩, q⟩ := q1
  subst e
  cases r1
  obtain ⟨its, rv, p, hz⟩ := I1.list hq
  refine wpAny_pyIter_list p.isList ?_
  refine ⟨s1.heap.objs.size, [s1.heap.objs.size], _, _, H1, rfl, I1.kept (t' := s1.toks) fun b o e => Heap.get?_push_of_some _ e, turn_list a _, ⟨_, Heap.get?_push_size _ rfl, rfl, rfl⟩, fun b hb => ?_, q⟩
  have e : b = s1.heap.objs.size := by simpa using hb
  subst e
  exact I1.fpOk (Nat.le_refl _) (I1.hok.fresh (Nat.le_refl _))
theorem pi_tup {l : Expr} {tl : TE} (hl : PE X l tl) : PI X tg l (iTup X.K tl) := by
  intro pins s σ H R I h
  refine thn (hl pins s σ H _ I h) fun v s1 ⟨x, H1, I1, r1, q1⟩ => ?_
  obtain ⟨a, e, ⟨xs, hq⟩, q⟩ := q1
  subst e
  cases r1
  obtain ⟨its, rv, p, hz⟩ := I1.tuple hq
  refine wpAny_pyIter_tuple (show s1.heap.IsTuple a its.toArray from p) ?_
  refine ⟨s1.heap.objs.size, [s1.heap.objs.size], _, _, H1, rfl, I1.kept (t' := s1.toks) fun b o e => Heap.get?_push_of_some _ e, turn_tuple a _, ⟨_, Heap.get?_push_size _ rfl, rfl, rfl⟩, fun b hb => ?_, q⟩
  have e : b = s1.heap.objs.size := by simpa using hb
  subst e
  exact I1.fpOk (Nat.le_refl _) (I1.hok.fresh (Nat.le_refl _))
/-- a range object just made, walked -/
theorem range_it {pins : List (Addr × Obj)} {σ : St} {H : Hp} {s : Shared} {R : It → Hp → Prop} {E : Value → Shared → Prop} {lo hi : Int} {t u v : Tok} {tk : Nat} (I : Inv X pins σ H s) (h1 : -(2 ^ 62) ≤ lo) (h2 : lo < 2 ^ 62) (h3 : -(2 ^ 62) ≤ hi) (h4 : hi < 2 ^ 62)
    (q : R (Itr lo (hi - lo).toNat) H) : wpAny (model X.prog X.w) X.A (pyIter (.ref s.heap.objs.size)) (PIE X pins σ tg R) E { s with heap := s.heap.push { cls := .type "range", data := .fields #[.int lo t, .int hi u, .int 1 v] }, toks := tk } := by
  refine wpAny_pyIter_range (IsRange.new ..) (small_one h1 h2 h3 h4) ?_
  have I1 : Inv X pins σ H { s with heap := s.heap.push { cls := .type "range", data := .fields #[.int lo t, .int hi u, .int 1 v] }, toks := tk } := I.kept fun b o e => Heap.get?_push_of_some _ e
  refine ⟨(s.heap.push { cls := .type "range", data := .fields #[.int lo t, .int hi u, .int 1 v] }).objs.size, [(s.heap.push { cls := .type "range", data := .fields #[.int lo t, .int hi u, .int 1 v] }).objs.size], _, _, H, rfl,
    I1.kept (t' := tk) fun b o e => Heap.get?_push_of_some _ e, turn_range _ lo (hi - lo).toNat, ?_, fun b hb => ?_, q⟩
  · have e1 : lo + ((0 : Nat) : Int) * 1 = lo := by simp
    have e2 : (((hi - lo).toNat : Nat) : Int) - ((0 : Nat) : Int) = Builtin.Range.rangeSize lo hi 1 := by rw [rangeSize_one]; split <;> omega
    show IsRangeIter _ _ (lo + ((0 : Nat) : Int) * 1) ((((hi - lo).toNat : Nat) : Int) - ((0 : Nat) : Int)) 1
    rw [e1, e2]
    exact Heap.get?_push_size _ rfl
  · have e : b = (s.heap.push { cls := .type "range", data := .fields #[.int lo t, .int hi u, .int 1 v] }).objs.size := by simpa using hb
    subst e
    exact I1.fpOk (Nat.le_refl _) (I1.hok.fresh (Nat.le_refl _))
def iRng1 (ta : TA) : TI := fun σ H R => ta σ H fun vs H1 => ∃ j : Int, vs = [.int j] ∧ -(2 ^ 62) ≤ j ∧ j < 2 ^ 62 ∧ R (Itr 0 j.toNat) H1
def iRng2 (ta : TA) : TI := fun σ H R => ta σ H fun vs H1 => ∃ i j : Int, vs = [.int i, .int j] ∧ (-(2 ^ 62) ≤ i ∧ i < 2 ^ 62 ∧ -(2 ^ 62) ≤ j ∧ j < 2 ^ 62) ∧ R (Itr i (j - i).toNat) H1
theorem pi_range1 {a : Expr} {ta : TA} {p pos : Pos} (hg : Gl X "range") (hm : X.mg "range" = none) (ha : PA X [a] ta) (hs : starEach [a] X.env = [(false, eval a X.env)] := by rfl) : PI X tg (.Call (.Name "range" p) [a] [] pos) (iRng1 ta) := by
  intro pins s σ H R I h
  refine Call_ (ld_blt I hg hm boot_range (PyProof.Rows.callWith_type1 (thn (ha pos pins s σ H _ I h) fun us s1 ⟨vs, H1, I1, r1, q1⟩ => ?_) hs rfl))
  obtain ⟨j, e, q1, q2, q⟩ := q1
  subst e
  cases r1 with
  | cons r rr =>
    cases rr
    obtain ⟨t, rfl⟩ := r
    exact call_range_1 (range_it I1 (by omega) (by omega) q1 q2 (by simpa using q))
theorem pi_range2 {a b : Expr} {ta : TA} {p pos : Pos} (hg : Gl X "range") (hm : X.mg "range" = none) (ha : PA X [a, b] ta) (hs : starEach [a, b] X.env = [(false, eval a X.env), (false, eval b X.env)] := by rfl) (hs2 : starEach [b] X.env = [(false, eval b X.env)] := by rfl) :
    PI X tg (.Call (.Name "range" p) [a, b] [] pos) (iRng2 ta) := by
  intro pins s σ H R I h
  refine Call_ (ld_blt I hg hm boot_range (PyProof.Rows.callWith_type1 (thn (ha pos pins s σ H _ I h) fun us s1 ⟨vs, H1, I1, r1, q1⟩ => ?_) (by rw [hs, hs2]) (by rw [hs2]; rfl)))
  obtain ⟨i, j, e, ⟨q1, q2, q3, q4⟩, q⟩ := q1
  subst e
  cases r1 with
  | cons r rr =>
    cases rr with
    | cons r' rr =>
      cases rr
      obtain ⟨t, rfl⟩ := r
      obtain ⟨t', rfl⟩ := r'
      exact call_range_2 (range_it I1 q1 q2 q3 q4 q)

/-! ### for -/
/-- W: the invariant by the turn and a measure; N: what the body is to reach -/
def tFor (wi : TI) (g : TG) (tb : TS) : TS := fun D σ H => wi σ H fun J H1 => ∃ W : Nat → Nat → St → Hp → Prop, (∃ m, W 0 m σ H1) ∧ ∀ i m σ H, W i m σ H →
  (J.stop i H ∧ D.nx σ H) ∨ (J.go i H ∧ ∃ N : St → Hp → Prop, (∀ σ' H', N σ' H' → ∃ m', m' < m ∧ W (i + 1) m' σ' H') ∧ ∀ x H', J.yld i H x H' → g x σ H' fun σ2 H2 => tb { D with nx := N, ct := N, bk := D.nx } σ2 H2)
/-- the records at fp as they stand -/
def pinsAt (fp : List Addr) (h : Heap) : List (Addr × Obj) := fp.filterMap fun b => (h.get? b).map fun o => (b, o)
theorem mem_pinsAt {fp : List Addr} {h : Heap} {b : Addr} {o : Obj} (hb : b ∈ fp) (e : h.get? b = some o) : (b, o) ∈ pinsAt fp h := List.mem_filterMap.mpr ⟨b, hb, by rw [e]; rfl⟩
theorem of_pinsAt {fp : List Addr} {h : Heap} {p : Addr × Obj} (hp : p ∈ pinsAt fp h) : p.1 ∈ fp ∧ h.get? p.1 = some p.2 := by
  obtain ⟨b, hb, e⟩ := List.mem_filterMap.mp hp
  cases q : h.get? b with
  | none => rw [q] at e; cases e
  | some o =>
    rw [q] at e
    have e' : (b, o) = p := Option.some.inj e
    subst e'
    exact ⟨hb, q⟩
theorem Inv.pinned {pins : List (Addr × Obj)} {σ : St} {H : Hp} {s : Shared} {fp : List Addr} (I : Inv X pins σ H s) (hf : ∀ b ∈ fp, FpOk X pins H b) (ho : ∀ b ∈ fp, ∃ o, s.heap.get? b = some o ∧ ∀ v, o.data ≠ .cell v) : Inv X (pins ++ pinsAt fp s.heap) σ H s :=
  I.pins_of fun p hp => (List.mem_append.mp hp).elim (fun z => I.pin p (List.mem_append_right _ z)) fun z => by
    obtain ⟨hb, e⟩ := of_pinsAt z
    obtain ⟨f0, f1, f2, _⟩ := hf p.1 hb
    obtain ⟨o, e', d⟩ := ho p.1 hb
    rw [e] at e'; cases e'
    exact ⟨e, f0, f1, f2, d⟩
theorem Inv.unpinned {pins pl : List (Addr × Obj)} {σ : St} {H : Hp} {s : Shared} (I : Inv X (pins ++ pl) σ H s) : Inv X pins σ H s := I.pins_of fun p hp => I.pin p (List.mem_append_right _ (List.mem_append_left _ hp))
theorem ps_for {iter : Expr} {body : List Stmt} {wi : TI} {g : TG} {tb : TS} {pos : Pos} (hp : PassesOwn (model X.prog X.w) X.A X.env X.xe) (hc : X.calm = true) (hi : PI X tg iter wi) (hg : PG X tg g) (hb : PSs X body tb)
    (hs : ∀ x, foldedSetIterable iter X.env x = pure x := by intro _; rfl) : PS X (.For tg iter body [] pos) (tFor wi g tb) := by
  intro pins s σ H D I h
  refine wpAny_For (thn (hi pins s σ H _ I h) fun v s1 h1 => thn h1 fun itv s2 h2 => ?_) hs
  obtain ⟨it, fp, tn, J, H2, e, I2, T, st2, f2, W, ⟨m0, w0⟩, turn⟩ := h2
  subst e
  -- what stays true of the iterator's objects through the loop
  have stat : ∀ {H' : Hp}, (∀ b ∈ fp, H' b = none) → ∀ b ∈ fp, FpOk X pins H' b := fun hn b hb => ⟨hn b hb, (f2 b hb).2⟩
  refine codeAny_forLoop_any (fun n s' => ∃ i σ' H', Inv X pins σ' H' s' ∧ tn i s'.heap ∧ (∀ b ∈ fp, H' b = none) ∧ W i n σ' H') ?_ m0 ⟨0, σ, H2, I2, st2, fun b hb => (f2 b hb).1, w0⟩
  rintro n s3 ⟨i, σ3, H3, I3, st3, fr3, w3⟩
  rcases turn i n σ3 H3 w3 with ⟨stop, qn⟩ | ⟨go, N, hN, step⟩
  · refine wpAny_passesOwn hp (thn (T.done X rfl rfl rfl hc i pins s3 σ3 H3 X.xe I3 (stat fr3) st3 stop) fun r s4 ⟨hr, I4⟩ => ?_)
    subst hr
    exact wpAny_execs_nil ⟨σ3, H3, I4, qn⟩
  · refine wpAny_passesOwn hp (thn (T.item X rfl rfl rfl hc i pins s3 σ3 H3 X.xe I3 (stat fr3) st3 go) fun r s4 ⟨u, hr, h4⟩ => ?_)
    subst hr
    refine wpAny_passesOwn hp (thn h4 fun _ s5 ⟨x, H5, I5, r5, y5, st5, fr5⟩ => ?_)
    have I5' := I5.pinned (stat fr5) (T.obj _ _ st5)
    refine wpAny_passesOwn hp (thn (hg _ s5 σ3 H5 x u _ I5' r5 (step x H5 y5)) fun _ s6 ⟨σ6, H6, I6, q6⟩ => ?_)
    refine wpAny_passesOwn hp (thn (hb _ s6 σ6 H6 _ I6 q6) fun f s7 q7 => ?_)
    have again : ∀ {σ7 : St} {H7 : Hp}, Inv X (pins ++ pinsAt fp s5.heap) σ7 H7 s7 → N σ7 H7 → ∃ m, m < n ∧ ∃ i σ' H', Inv X pins σ' H' s7 ∧ tn i s7.heap ∧ (∀ b ∈ fp, H' b = none) ∧ W i m σ' H' := fun {σ7 H7} I7 n7 => by
      obtain ⟨m', hm, w7⟩ := hN σ7 H7 n7
      refine ⟨m', hm, i + 1, σ7, H7, I7.unpinned, T.keep _ _ _ st5 fun b hb o e => (I7.pin (b, o) (List.mem_append_right _ (List.mem_append_right _ (mem_pinsAt hb e)))).1, fun b hb => ?_, w7⟩
      obtain ⟨o, e, d⟩ := T.obj _ _ st5 b hb
      exact (I7.pin (b, o) (List.mem_append_right _ (List.mem_append_right _ (mem_pinsAt hb e)))).2.1
    cases f with
    | next => obtain ⟨σ7, H7, I7, n7⟩ := q7; exact again I7 n7
    | cont => obtain ⟨σ7, H7, I7, n7⟩ := q7; exact again I7 n7
    | brk => obtain ⟨σ7, H7, I7, q7⟩ := q7; exact ⟨σ7, H7, I7.unpinned, q7⟩
    | ret v => obtain ⟨x7, σ7, H7, I7, r7, q7⟩ := q7; exact ⟨x7, σ7, H7, I7.unpinned, r7, q7⟩
end

/-! ### the forms one uses -/
/-- over a list that the body leaves as it is -/
theorem for_list {K : PySem.W.Frag} {a : Addr} {xs : List V} {g : TG} {tb : TS} {D : Ends} {σ : St} {H : Hp} (Pv : Nat → St → Hp → Prop) (h0 : Pv 0 σ H) (hl : ∀ i σ H, i ≤ xs.length → Pv i σ H → SqL K H a xs)
    (hs : ∀ i x σ H, xs[i]? = some x → Pv i σ H → g x σ H fun σ2 H2 => tb { D with nx := Pv (i + 1), ct := Pv (i + 1), bk := D.nx } σ2 H2) (hd : ∀ σ H, Pv xs.length σ H → D.nx σ H) :
    ∃ W : Nat → Nat → St → Hp → Prop, (∃ m, W 0 m σ H) ∧ ∀ i m σ H, W i m σ H →
      ((Itl K a).stop i H ∧ D.nx σ H) ∨ ((Itl K a).go i H ∧ ∃ N : St → Hp → Prop, (∀ σ' H', N σ' H' → ∃ m', m' < m ∧ W (i + 1) m' σ' H') ∧ ∀ x H', (Itl K a).yld i H x H' → g x σ H' fun σ2 H2 => tb { D with nx := N, ct := N, bk := D.nx } σ2 H2) := by
  refine ⟨fun i m σ H => m = xs.length - i ∧ i ≤ xs.length ∧ Pv i σ H, ⟨xs.length, by simp, Nat.zero_le _, h0⟩, ?_⟩
  rintro i m σ H ⟨rfl, hi, p⟩
  have q := hl i σ H hi p
  by_cases hlt : i < xs.length
  · refine .inr ⟨⟨xs, xs[i], q, by simp [hlt]⟩, Pv (i + 1), fun σ' H' p' => ⟨xs.length - (i + 1), by omega, rfl, hlt, p'⟩, fun x H' y => ?_⟩
    obtain ⟨e, y⟩ := y
    subst e
    exact hs i x σ _ (y xs q) p
  · have e : i = xs.length := by omega
    subst e
    exact .inl ⟨⟨xs, q, Nat.le_refl _⟩, hd σ H p⟩
theorem for_tup {K : PySem.W.Frag} {a : Addr} {xs : List V} {g : TG} {tb : TS} {D : Ends} {σ : St} {H : Hp} (Pv : Nat → St → Hp → Prop) (h0 : Pv 0 σ H) (hl : ∀ i σ H, i ≤ xs.length → Pv i σ H → SqT K H a xs)
    (hs : ∀ i x σ H, xs[i]? = some x → Pv i σ H → g x σ H fun σ2 H2 => tb { D with nx := Pv (i + 1), ct := Pv (i + 1), bk := D.nx } σ2 H2) (hd : ∀ σ H, Pv xs.length σ H → D.nx σ H) :
    ∃ W : Nat → Nat → St → Hp → Prop, (∃ m, W 0 m σ H) ∧ ∀ i m σ H, W i m σ H →
      ((Itt K a).stop i H ∧ D.nx σ H) ∨ ((Itt K a).go i H ∧ ∃ N : St → Hp → Prop, (∀ σ' H', N σ' H' → ∃ m', m' < m ∧ W (i + 1) m' σ' H') ∧ ∀ x H', (Itt K a).yld i H x H' → g x σ H' fun σ2 H2 => tb { D with nx := N, ct := N, bk := D.nx } σ2 H2) := by
  refine ⟨fun i m σ H => m = xs.length - i ∧ i ≤ xs.length ∧ Pv i σ H, ⟨xs.length, by simp, Nat.zero_le _, h0⟩, ?_⟩
  rintro i m σ H ⟨rfl, hi, p⟩
  have q := hl i σ H hi p
  by_cases hlt : i < xs.length
  · refine .inr ⟨⟨xs, xs[i], q, by simp [hlt]⟩, Pv (i + 1), fun σ' H' p' => ⟨xs.length - (i + 1), by omega, rfl, hlt, p'⟩, fun x H' y => ?_⟩
    obtain ⟨e, y⟩ := y
    subst e
    exact hs i x σ _ (y xs q) p
  · have e : i = xs.length := by omega
    subst e
    exact .inl ⟨⟨xs, q, Nat.le_refl _⟩, hd σ H p⟩
theorem for_range {lo : Int} {n : Nat} {g : TG} {tb : TS} {D : Ends} {σ : St} {H : Hp} (Pv : Nat → St → Hp → Prop) (h0 : Pv 0 σ H)
    (hs : ∀ i σ H, i < n → Pv i σ H → g (.int (lo + i)) σ H fun σ2 H2 => tb { D with nx := Pv (i + 1), ct := Pv (i + 1), bk := D.nx } σ2 H2) (hd : ∀ σ H, Pv n σ H → D.nx σ H) :
    ∃ W : Nat → Nat → St → Hp → Prop, (∃ m, W 0 m σ H) ∧ ∀ i m σ H, W i m σ H →
      ((Itr lo n).stop i H ∧ D.nx σ H) ∨ ((Itr lo n).go i H ∧ ∃ N : St → Hp → Prop, (∀ σ' H', N σ' H' → ∃ m', m' < m ∧ W (i + 1) m' σ' H') ∧ ∀ x H', (Itr lo n).yld i H x H' → g x σ H' fun σ2 H2 => tb { D with nx := N, ct := N, bk := D.nx } σ2 H2) := by
  refine ⟨fun i m σ H => m = n - i ∧ i ≤ n ∧ Pv i σ H, ⟨n, by simp, Nat.zero_le _, h0⟩, ?_⟩
  rintro i m σ H ⟨rfl, hi, p⟩
  by_cases hlt : i < n
  · refine .inr ⟨hlt, Pv (i + 1), fun σ' H' p' => ⟨n - (i + 1), by omega, rfl, hlt, p'⟩, fun x H' y => ?_⟩
    obtain ⟨e, y⟩ := y
    subst e y
    exact hs i σ _ hlt p
  · have e : i = n := by omega
    subst e
    exact .inl ⟨Nat.le_refl _, hd σ H p⟩
/-- while, by a word and a measure of the state -/
theorem while_by {c : TT} {tb : TS} {D : Ends} {σ : St} {H : Hp} (Pv : St → Hp → Prop) (μ : St → Hp → Nat) (h0 : Pv σ H)
    (hs : ∀ σ H, Pv σ H → c σ H fun b H1 => if b = true then tb { D with nx := fun σ' H' => Pv σ' H' ∧ μ σ' H' < μ σ H, ct := fun σ' H' => Pv σ' H' ∧ μ σ' H' < μ σ H, bk := D.nx } σ H1 else D.nx σ H1)
    (mono : ∀ σ H Q Q', (∀ b H1, Q b H1 → Q' b H1) → c σ H Q → c σ H Q') : tWhile c tb D σ H := by
  refine ⟨fun m σ H => m = μ σ H ∧ Pv σ H, ⟨_, rfl, h0⟩, ?_⟩
  rintro m σ H ⟨rfl, p⟩
  refine mono σ H _ _ (fun b H1 q => ?_) (hs σ H p)
  cases b with
  | true => exact ⟨_, fun σ' H' ⟨p', l⟩ => ⟨_, l, rfl, p'⟩, q⟩
  | false => exact q
end L2

namespace L2
open PySem PySem.Spec PyProof.Rows

abbrev R2 := V → V → Hp → VK → Prop
/-- a two-place operation on values: f is binaryOp op, inplaceOp op or compareOp op -/
def OpR (X : Cx) (f : Value → Value → Sem Value) (r : R2) : Prop :=
  ∀ (pins : List (Addr × Obj)) (s : Shared) (σ : St) (H : Hp) (x y : V) (v u : Value) (Q : VK), Inv X pins σ H s → RelV x v → RelV y u → r x y H Q →
    wpAny (model X.prog X.w) X.A (f v u) (EP X pins σ Q) X.xe s
/-- a one-place operation -/
def UnR (X : Cx) (f : Value → Sem Value) (r : V → Hp → VK → Prop) : Prop :=
  ∀ (pins : List (Addr × Obj)) (s : Shared) (σ : St) (H : Hp) (x : V) (v : Value) (Q : VK), Inv X pins σ H s → RelV x v → r x H Q →
    wpAny (model X.prog X.w) X.A (f v) (EP X pins σ Q) X.xe s
/-- a call of a value that is known (a builtin, a type) with values -/
def CallR (X : Cx) (f : Value) (r : List V → Hp → VK → Prop) : Prop :=
  ∀ (pins : List (Addr × Obj)) (s : Shared) (σ : St) (H : Hp) (xs : List V) (us : List Value) (Q : VK), Inv X pins σ H s → Vals xs us → r xs H Q →
    wpAny (model X.prog X.w) X.A (call f us) (EP X pins σ Q) X.xe s
/-- a value's truth -/
def TruR (X : Cx) (r : V → Hp → (Bool → Hp → Prop) → Prop) : Prop :=
  ∀ (pins : List (Addr × Obj)) (s : Shared) (σ : St) (H : Hp) (x : V) (v : Value) (Q : Bool → Hp → Prop), Inv X pins σ H s → RelV x v → r x H Q →
    wpAny (model X.prog X.w) X.A (truthy v) (TP X pins σ Q) X.xe s

def tOp (r : R2) (ta tb : TE) : TE := fun σ H Q => ta σ H fun x H1 => tb σ H1 fun y H2 => r x y H2 Q
def tUn (r : V → Hp → VK → Prop) (ta : TE) : TE := fun σ H Q => ta σ H fun x H1 => r x H1 Q
/-- ints in, under C, and a value out -/
def rI (C : Int → Int → Prop) (g : Int → Int → V) : R2 := fun x y H Q => ∃ i j, x = .int i ∧ y = .int j ∧ C i j ∧ Q (g i j) H
def rI0 (g : Int → Int → V) : R2 := fun x y H Q => ∃ i j, x = .int i ∧ y = .int j ∧ Q (g i j) H
def rU (g : Int → V) : V → Hp → VK → Prop := fun x H Q => ∃ i, x = .int i ∧ Q (g i) H

section
variable {X : Cx} {a b c : Expr} {ta tb tc : TE} {pos : Pos}

theorem binT (ha : PE X a ta) (hb : PE X b tb) {pins : List (Addr × Obj)} {s : Shared} {σ : St} {H : Hp} {R : V → V → Hp → Prop} (I : Inv X pins σ H s)
    (h : ta σ H fun x H1 => tb σ H1 fun y H2 => R x y H2) {Q : Value → Shared → Prop} {f : Value → Value → Sem Value}
    (hf : ∀ v u s2 x y H2, Inv X pins σ H2 s2 → RelV x v → RelV y u → R x y H2 → wpAny (model X.prog X.w) X.A (f v u) Q X.xe s2) :
    wpAny (model X.prog X.w) X.A (eval a X.env) (fun v s₁ => wpAny (model X.prog X.w) X.A (eval b X.env) (fun u s₂ => wpAny (model X.prog X.w) X.A (f v u) Q X.xe s₂) X.xe s₁) X.xe s := by
  refine thn (ha pins s σ H _ I h) fun v s1 ⟨x, H1, I1, r1, q1⟩ => ?_
  refine thn (hb pins s1 σ H1 _ I1 q1) fun u s2 ⟨y, H2, I2, r2, q2⟩ => ?_
  exact hf v u s2 x y H2 I2 r1 r2 q2

theorem pe_op {op : Operator} {r : R2} (ho : OpR X (binaryOp op) r) (ha : PE X a ta) (hb : PE X b tb) : PE X (.BinOp a op b pos) (tOp r ta tb) := by
  intro pins s σ H Q I h
  exact wpAny_BinOp (binT ha hb I h fun v u s2 x y H2 I2 rx ry q => ho pins s2 σ H2 x y v u Q I2 rx ry q)
theorem pe_un {op : UnaryOp} {r : V → Hp → VK → Prop} (ho : UnR X (unaryOp op) r) (ha : PE X a ta) : PE X (.UnaryOp op a pos) (tUn r ta) := by
  intro pins s σ H Q I h
  exact UnaryOp_ (thn (ha pins s σ H _ I h) fun v s1 ⟨x, H1, I1, r1, q1⟩ => ho pins s1 σ H1 x v Q I1 r1 q1)
/-- a op= e at a name: the name's slot i -/
theorem augR {op : Operator} {r : R2} (ho : OpR X (inplaceOp op) r) {pins : List (Addr × Obj)} {s : Shared} {σ : St} {H : Hp} {x y : V} {v u : Value} {Q : VK} (I : Inv X pins σ H s)
    (rx : RelV x v) (ry : RelV y u) (q : r x y H Q) : wpAny (model X.prog X.w) X.A (inplaceOp op v u) (EP X pins σ Q) X.xe s := ho pins s σ H x y v u Q I rx ry q

/-! ### ints -/
theorem opI {f : Value → Value → Sem Value} {C : Int → Int → Prop} {g : Int → Int → Int}
    (rule : ∀ (i j : Int) (t u : Tok) (s : Shared) (Q : Value → Shared → Prop) (E : Value → Shared → Prop), C i j → Q (.int (g i j) s.toks) { s with toks := s.toks + 1 } → wpAny (model X.prog X.w) X.A (f (.int i t) (.int j u)) Q E s) :
    OpR X f (rI C fun i j => .int (g i j)) := by
  intro pins s σ H x y v u Q I rx ry h
  obtain ⟨i, j, rfl, rfl, hc, q⟩ := h
  obtain ⟨t, rfl⟩ := rx
  obtain ⟨t', rfl⟩ := ry
  exact rule i j t t' s _ _ hc ⟨.int (g i j), H, I.tok _, ⟨_, rfl⟩, q⟩
theorem opI0 {f : Value → Value → Sem Value} {g : Int → Int → Int}
    (rule : ∀ (i j : Int) (t u : Tok) (s : Shared) (Q : Value → Shared → Prop) (E : Value → Shared → Prop), Q (.int (g i j) s.toks) { s with toks := s.toks + 1 } → wpAny (model X.prog X.w) X.A (f (.int i t) (.int j u)) Q E s) :
    OpR X f (rI0 fun i j => .int (g i j)) := by
  intro pins s σ H x y v u Q I rx ry h
  obtain ⟨i, j, rfl, rfl, q⟩ := h
  obtain ⟨t, rfl⟩ := rx
  obtain ⟨t', rfl⟩ := ry
  exact rule i j t t' s _ _ ⟨.int (g i j), H, I.tok _, ⟨_, rfl⟩, q⟩
theorem opB0 {f : Value → Value → Sem Value} {g : Int → Int → Bool}
    (rule : ∀ (i j : Int) (t u : Tok) (s : Shared) (Q : Value → Shared → Prop) (E : Value → Shared → Prop), Q (.bool (g i j)) s → wpAny (model X.prog X.w) X.A (f (.int i t) (.int j u)) Q E s) :
    OpR X f (rI0 fun i j => .bl (g i j)) := by
  intro pins s σ H x y v u Q I rx ry h
  obtain ⟨i, j, rfl, rfl, q⟩ := h
  obtain ⟨t, rfl⟩ := rx
  obtain ⟨t', rfl⟩ := ry
  exact rule i j t t' s _ _ ⟨.bl (g i j), H, I, rfl, q⟩

def CDiv (i j : Int) : Prop := 0 < j ∧ j < 1073741824
def CDivN (i j : Int) : Prop := j ≠ 0 ∧ j.natAbs < 1073741824
def CPow (i j : Int) : Prop := 0 ≤ j ∧ j ≤ 1000000 ∧ i.natAbs < 2 ^ 64
def CMul (i j : Int) : Prop := (-(2 ^ 64) < i ∧ i < 2 ^ 64) ∨ (-(2 ^ 64) < j ∧ j < 2 ^ 64)
theorem CMul.ok {i j : Int} (h : CMul i j) : IntMulOk i j := by
  rcases h with ⟨h1, h2⟩ | ⟨h1, h2⟩
  · exact .of_left (intBits_le_64 h1 h2)
  · exact .of_right (intBits_le_64 h1 h2)
theorem two_pow_nn (k : Nat) : (0 : Int) ≤ 2 ^ k := by
  rw [two_pow_cast]
  exact Int.natCast_nonneg _

theorem op_add : OpR X (binaryOp .Add) (rI0 fun i j => .int (i + j)) := opI0 fun _ _ _ _ _ _ _ q => add_int q
theorem op_sub : OpR X (binaryOp .Sub) (rI0 fun i j => .int (i - j)) := opI0 fun _ _ _ _ _ _ _ q => sub_int q
theorem op_mul : OpR X (binaryOp .Mult) (rI CMul fun i j => .int (i * j)) := opI fun _ _ _ _ _ _ _ hc q => mul_int q hc.ok
/-- // by a positive divisor -/
theorem op_fdiv : OpR X (binaryOp .FloorDiv) (rI CDiv fun i j => .int (i / j)) := opI fun i j _ _ _ _ _ hc q => by
  have h1 : (0 : Int) < j := hc.1
  have h2 : j < 1073741824 := hc.2
  exact floordiv_int (by omega) (by rw [Int.fdiv_eq_ediv_of_nonneg i (by omega)]; exact q) (.inl (PyProof.noPylong_small (by omega)))
theorem op_fdivN : OpR X (binaryOp .FloorDiv) (rI CDivN fun i j => .int (i.fdiv j)) := opI fun _ _ _ _ _ _ _ hc q => floordiv_int hc.1 q (.inl (PyProof.noPylong_small hc.2))
/-- % by a positive divisor of any size -/
theorem op_mod : OpR X (binaryOp .Mod) (rI (fun _ j => 0 < j) fun i j => .int (i % j)) := opI fun i j _ _ _ _ _ hc q => by
  have h1 : (0 : Int) < j := hc
  exact mod_int' (by omega) (by rw [Int.fmod_eq_emod_of_nonneg i (by omega)]; exact q)
theorem op_modN : OpR X (binaryOp .Mod) (rI (fun _ j => j ≠ 0) fun i j => .int (i.fmod j)) := opI fun _ _ _ _ _ _ _ hc q => mod_int' hc q
theorem op_pow : OpR X (binaryOp .Pow) (rI CPow fun i j => .int (i ^ j.toNat)) := opI fun _ _ _ _ _ _ _ hc q => pow_int_small hc.1 hc.2.1 hc.2.2 q
theorem op_shl : OpR X (binaryOp .LShift) (rI CPow fun i j => .int (i * 2 ^ j.toNat)) := opI fun _ _ _ _ _ _ _ hc q => lshift_int_small hc.1 hc.2.1 hc.2.2 q
theorem op_shr : OpR X (binaryOp .RShift) (rI (fun _ j => 0 ≤ j) fun i j => .int (i / 2 ^ j.toNat)) := opI fun i j _ _ _ _ _ hc q =>
  rshift_int hc (by rw [Int.fdiv_eq_ediv_of_nonneg i (two_pow_nn _)]; exact q)
theorem op_and : OpR X (binaryOp .BitAnd) (rI0 fun i j => .int (Builtin.bitAnd i j)) := opI0 fun _ _ _ _ _ _ _ q => and_int q
theorem op_or : OpR X (binaryOp .BitOr) (rI0 fun i j => .int (Builtin.bitOr i j)) := opI0 fun _ _ _ _ _ _ _ q => or_int q
theorem op_xor : OpR X (binaryOp .BitXor) (rI0 fun i j => .int (Builtin.bitXor i j)) := opI0 fun _ _ _ _ _ _ _ q => xor_int q

theorem iop_add : OpR X (inplaceOp .Add) (rI0 fun i j => .int (i + j)) := opI0 fun _ _ _ _ _ _ _ q => iadd_int q
theorem iop_sub : OpR X (inplaceOp .Sub) (rI0 fun i j => .int (i - j)) := opI0 fun _ _ _ _ _ _ _ q => isub_int q
theorem iop_mul : OpR X (inplaceOp .Mult) (rI CMul fun i j => .int (i * j)) := opI fun _ _ _ _ _ _ _ hc q => imul_int q hc.ok
theorem iop_fdiv : OpR X (inplaceOp .FloorDiv) (rI CDiv fun i j => .int (i / j)) := opI fun i j _ _ _ _ _ hc q => by
  have h1 : (0 : Int) < j := hc.1
  have h2 : j < 1073741824 := hc.2
  exact ifloordiv_int (by omega) (by rw [Int.fdiv_eq_ediv_of_nonneg i (by omega)]; exact q) (.inl (PyProof.noPylong_small (by omega)))
theorem iop_mod : OpR X (inplaceOp .Mod) (rI (fun _ j => 0 < j) fun i j => .int (i % j)) := opI fun i j _ _ _ _ _ hc q => by
  have h1 : (0 : Int) < j := hc
  exact imod_int (by omega) (by rw [Int.fmod_eq_emod_of_nonneg i (by omega)]; exact q)
theorem iop_shl : OpR X (inplaceOp .LShift) (rI CPow fun i j => .int (i * 2 ^ j.toNat)) := opI fun _ _ _ _ _ _ _ hc q => ilshift_int_small hc.1 hc.2.1 hc.2.2 q
theorem iop_shr : OpR X (inplaceOp .RShift) (rI (fun _ j => 0 ≤ j) fun i j => .int (i / 2 ^ j.toNat)) := opI fun i j _ _ _ _ _ hc q =>
  irshift_int hc (by rw [Int.fdiv_eq_ediv_of_nonneg i (two_pow_nn _)]; exact q)
theorem iop_and : OpR X (inplaceOp .BitAnd) (rI0 fun i j => .int (Builtin.bitAnd i j)) := opI0 fun _ _ _ _ _ _ _ q => iand_int q
theorem iop_or : OpR X (inplaceOp .BitOr) (rI0 fun i j => .int (Builtin.bitOr i j)) := opI0 fun _ _ _ _ _ _ _ q => ior_int q
theorem iop_xor : OpR X (inplaceOp .BitXor) (rI0 fun i j => .int (Builtin.bitXor i j)) := opI0 fun _ _ _ _ _ _ _ q => ixor_int q

theorem unI {f : Value → Sem Value} {g : Int → Int}
    (rule : ∀ (i : Int) (t : Tok) (s : Shared) (Q : Value → Shared → Prop) (E : Value → Shared → Prop), Q (.int (g i) s.toks) { s with toks := s.toks + 1 } → wpAny (model X.prog X.w) X.A (f (.int i t)) Q E s) :
    UnR X f (rU fun i => .int (g i)) := by
  intro pins s σ H x v Q I rx h
  obtain ⟨i, rfl, q⟩ := h
  obtain ⟨t, rfl⟩ := rx
  exact rule i t s _ _ ⟨.int (g i), H, I.tok _, ⟨_, rfl⟩, q⟩
theorem un_neg : UnR X (unaryOp .USub) (rU fun i => .int (-i)) := unI fun _ _ _ _ _ q => neg_int q
theorem un_inv : UnR X (unaryOp .Invert) (rU fun i => .int (Builtin.bitNot i)) := unI fun _ _ _ _ _ q => invert_int q

/-! ### bools among ints: n += (a < b) -/
theorem op_add_ib : OpR X (binaryOp .Add) (fun x y H Q => ∃ i k, x = .int i ∧ y = .bl k ∧ Q (.int (i + b2i k)) H) := by
  intro pins s σ H x y v u Q I rx ry h
  obtain ⟨i, k, rfl, rfl, q⟩ := h
  obtain ⟨t, rfl⟩ := rx
  cases ry
  exact add_int_bool ⟨.int (i + b2i k), H, I.tok _, ⟨_, rfl⟩, q⟩
end

/-! ### comparisons -/
/-- the scalars that == tells apart as data does -/
def scal : V → V → Bool
  | .non, .non => true | .non, .int _ => true | .int _, .non => true | .non, .bl _ => true | .bl _, .non => true | .non, .str _ => true | .str _, .non => true
  | .int _, .int _ => true | .bl _, .bl _ => true | .str _, .str _ => true | .byt _, .byt _ => true
  | .int _, .str _ => true | .str _, .int _ => true | .bl _, .str _ => true | .str _, .bl _ => true
  | _, _ => false
def rEq : R2 := fun x y H Q => scal x y = true ∧ Q (.bl (decide (x = y))) H
def rNe : R2 := fun x y H Q => scal x y = true ∧ Q (.bl (!decide (x = y))) H

theorem dec_int {i j : Int} : decide (V.int i = V.int j) = (i == j) := by
  rw [Bool.eq_iff_iff]
  simp
theorem dec_bl {i j : Bool} : decide (V.bl i = V.bl j) = (i == j) := by
  rw [Bool.eq_iff_iff]
  simp
theorem dec_str {i j : Str} : decide (V.str i = V.str j) = (i == j) := by
  rw [Bool.eq_iff_iff]
  simp
theorem dec_byt {i j : Array UInt8} : decide (V.byt i = V.byt j) = (i.toList == j.toList) := by
  rw [Bool.eq_iff_iff]
  cases i
  cases j
  simp

section
variable {X : Cx} {a b c : Expr} {ta tb tc : TE} {pos : Pos}
theorem fin_bl {pins : List (Addr × Obj)} {σ : St} {H : Hp} {s : Shared} {Q : VK} {k k' : Bool} (I : Inv X pins σ H s) (q : Q (.bl k) H) (e : k = k') : EP X pins σ Q (.bool k') s := by
  subst e
  exact ⟨.bl k, H, I, rfl, q⟩
theorem op_eq : OpR X (compareOp .Eq) rEq := by
  intro pins s σ H x y v u Q I rx ry h
  obtain ⟨hs, q⟩ := h
  cases x with
  | non =>
    cases rx
    cases y with
    | non => cases ry; exact PySem.EqNone.eq_none_none (fin_bl I q (by simp))
    | bl j => cases ry; exact PySem.EqNone.eq_none_bool (fin_bl I q (by simp))
    | int j => obtain ⟨t', rfl⟩ := ry; exact PySem.EqNone.eq_none_int (fin_bl I q (by simp))
    | str j => obtain ⟨t', rfl⟩ := ry; exact PySem.EqNone.eq_none_str (fin_bl I q (by simp))
    | _ => exact absurd (show false = true from hs) Bool.false_ne_true
  | bl i =>
    cases rx
    cases y with
    | non => cases ry; exact PySem.EqNone.eq_bool_none (fin_bl I q (by simp))
    | bl j => cases ry; exact eq_bool (fin_bl I q dec_bl)
    | str j => obtain ⟨t', rfl⟩ := ry; exact PySem.EqMixed.eq_bool_str (fin_bl I q (by simp))
    | _ => exact absurd (show false = true from hs) Bool.false_ne_true
  | int i =>
    obtain ⟨t, rfl⟩ := rx
    cases y with
    | non => cases ry; exact PySem.EqNone.eq_int_none (fin_bl I q (by simp))
    | int j => obtain ⟨t', rfl⟩ := ry; exact eq_int (fin_bl I q dec_int)
    | str j => obtain ⟨t', rfl⟩ := ry; exact PySem.EqMixed.eq_int_str (fin_bl I q (by simp))
    | _ => exact absurd (show false = true from hs) Bool.false_ne_true
  | str i =>
    obtain ⟨t, rfl⟩ := rx
    cases y with
    | non => cases ry; exact PySem.EqNone.eq_str_none (fin_bl I q (by simp))
    | bl j => cases ry; exact PySem.EqMixed.eq_str_bool (fin_bl I q (by simp))
    | int j => obtain ⟨t', rfl⟩ := ry; exact PySem.EqMixed.eq_str_int (fin_bl I q (by simp))
    | str j => obtain ⟨t', rfl⟩ := ry; exact eq_str (fin_bl I q dec_str)
    | _ => exact absurd (show false = true from hs) Bool.false_ne_true
  | byt i =>
    obtain ⟨t, rfl⟩ := rx
    cases y with
    | byt j => obtain ⟨t', rfl⟩ := ry; exact PySem.W.eq_bytes (fin_bl I q dec_byt)
    | _ => exact absurd (show false = true from hs) Bool.false_ne_true
  | _ => cases y <;> exact absurd (show false = true from hs) Bool.false_ne_true
theorem op_ne : OpR X (compareOp .NotEq) rNe := by
  intro pins s σ H x y v u Q I rx ry h
  obtain ⟨hs, q⟩ := h
  cases x with
  | non =>
    cases rx
    cases y with
    | non => cases ry; exact PySem.EqNone.ne_none_none (fin_bl I q (by simp))
    | bl j => cases ry; exact PySem.EqNone.ne_none_bool (fin_bl I q (by simp))
    | int j => obtain ⟨t', rfl⟩ := ry; exact PySem.EqNone.ne_none_int (fin_bl I q (by simp))
    | str j => obtain ⟨t', rfl⟩ := ry; exact PySem.EqNone.ne_none_str (fin_bl I q (by simp))
    | _ => exact absurd (show false = true from hs) Bool.false_ne_true
  | bl i =>
    cases rx
    cases y with
    | non => cases ry; exact PySem.EqNone.ne_bool_none (fin_bl I q (by simp))
    | bl j => cases ry; exact ne_bool (fin_bl I q (congrArg not dec_bl))
    | str j => obtain ⟨t', rfl⟩ := ry; exact PySem.EqMixed.ne_bool_str (fin_bl I q (by simp))
    | _ => exact absurd (show false = true from hs) Bool.false_ne_true
  | int i =>
    obtain ⟨t, rfl⟩ := rx
    cases y with
    | non => cases ry; exact PySem.EqNone.ne_int_none (fin_bl I q (by simp))
    | int j => obtain ⟨t', rfl⟩ := ry; exact ne_int (fin_bl I q (congrArg not dec_int))
    | str j => obtain ⟨t', rfl⟩ := ry; exact PySem.EqMixed.ne_int_str (fin_bl I q (by simp))
    | _ => exact absurd (show false = true from hs) Bool.false_ne_true
  | str i =>
    obtain ⟨t, rfl⟩ := rx
    cases y with
    | non => cases ry; exact PySem.EqNone.ne_str_none (fin_bl I q (by simp))
    | bl j => cases ry; exact PySem.EqMixed.ne_str_bool (fin_bl I q (by simp))
    | int j => obtain ⟨t', rfl⟩ := ry; exact PySem.EqMixed.ne_str_int (fin_bl I q (by simp))
    | str j => obtain ⟨t', rfl⟩ := ry; exact ne_str (fin_bl I q (congrArg not dec_str))
    | _ => exact absurd (show false = true from hs) Bool.false_ne_true
  | byt i =>
    obtain ⟨t, rfl⟩ := rx
    cases y with
    | byt j => obtain ⟨t', rfl⟩ := ry; exact PySem.W.ne_bytes (fin_bl I q (congrArg not dec_byt))
    | _ => exact absurd (show false = true from hs) Bool.false_ne_true
  | _ => cases y <;> exact absurd (show false = true from hs) Bool.false_ne_true

theorem op_lt : OpR X (compareOp .Lt) (rI0 fun i j => .bl (decide (i < j))) := opB0 fun _ _ _ _ _ _ _ q => lt_int q
theorem op_le : OpR X (compareOp .LtE) (rI0 fun i j => .bl (decide (i ≤ j))) := opB0 fun _ _ _ _ _ _ _ q => le_int q
theorem op_gt : OpR X (compareOp .Gt) (rI0 fun i j => .bl (decide (j < i))) := opB0 fun _ _ _ _ _ _ _ q => gt_int q
theorem op_ge : OpR X (compareOp .GtE) (rI0 fun i j => .bl (decide (j ≤ i))) := opB0 fun _ _ _ _ _ _ _ q => ge_int q
theorem op_lt_str : OpR X (compareOp .Lt) (fun x y H Q => ∃ i j, x = .str i ∧ y = .str j ∧ Q (.bl (decide (i.cps.toList < j.cps.toList))) H) := by
  intro pins s σ H x y v u Q I rx ry h
  obtain ⟨i, j, rfl, rfl, q⟩ := h
  obtain ⟨t, rfl⟩ := rx
  obtain ⟨t', rfl⟩ := ry
  exact lt_str (fin_bl I q rfl)
/-- the one string within the other -/
theorem op_in_str : OpR X (compareOp .In) (fun x y H Q => ∃ i j, x = .str i ∧ y = .str j ∧ Q (.bl (!(Builtin.Str.occurrences j i 0 j.length 1).isEmpty)) H) := by
  intro pins s σ H x y v u Q I rx ry h
  obtain ⟨i, j, rfl, rfl, q⟩ := h
  obtain ⟨t, rfl⟩ := rx
  obtain ⟨t', rfl⟩ := ry
  exact in_str (fin_bl I q rfl)

/-- is None, is not None: the right side a value none -/
theorem op_isN : OpR X (compareOp .Is) (fun x y H Q => y = .non ∧ Q (.bl (decide (x = .non))) H) := by
  intro pins s σ H x y v u Q I rx ry h
  obtain ⟨rfl, q⟩ := h
  cases ry
  refine is_none_gen (fin_bl I q ?_)
  cases x <;> first
    | (cases rx; rfl)
    | (obtain ⟨t, rfl⟩ := rx; rfl)
theorem op_notN : OpR X (compareOp .IsNot) (fun x y H Q => y = .non ∧ Q (.bl (!decide (x = .non))) H) := by
  intro pins s σ H x y v u Q I rx ry h
  obtain ⟨rfl, q⟩ := h
  cases ry
  refine isnot_none_gen (fin_bl I q ?_)
  cases x <;> first
    | (cases rx; rfl)
    | (obtain ⟨t, rfl⟩ := rx; rfl)

theorem op_notin_str : OpR X (compareOp .NotIn) (fun x y H Q => ∃ i j, x = .str i ∧ y = .str j ∧ Q (.bl (!(!(Builtin.Str.occurrences j i 0 j.length 1).isEmpty))) H) := by
  intro pins s σ H x y v u Q I rx ry h
  obtain ⟨i, j, rfl, rfl, q⟩ := h
  obtain ⟨t, rfl⟩ := rx
  obtain ⟨t', rfl⟩ := ry
  exact notIn_str (fin_bl I q rfl)
/-- is, is not of two objects that are tracked lists or instances -/
def isObj : HO → Bool
  | .lst _ => true
  | .ins _ _ _ => true
  | _ => false
theorem obj_there {pins : List (Addr × Obj)} {s : Shared} {σ : St} {H : Hp} {a : Addr} {o : HO} (I : Inv X pins σ H s) (h : H a = some o) (p : isObj o = true) : ∃ ob, s.heap.get? a = some ob ∧ ob.cls ≠ .type "tuple" := by
  cases o with
  | lst xs =>
    obtain ⟨_, its, n, _, e⟩ : xs.length ≤ sizeLine ∧ ∃ (its : List Value) (n : Nat), Vals xs its ∧ s.heap.get? a = some { cls := .type "list", data := .seq its.toArray n } := I.hok a _ h
    exact ⟨_, e, (by show Value.type "list" ≠ .type "tuple"; decide +kernel)⟩
  | ins C dx fs =>
    have x := I.hok a _ h
    obtain ⟨_, _, _, e, _⟩ := x
    exact ⟨_, e, (by show Value.ref C ≠ .type "tuple"; exact fun z => by cases z)⟩
  | _ => exact absurd (show false = true from p) Bool.false_ne_true
theorem op_is_ref : OpR X (compareOp .Is) (fun x y H Q => ∃ a b oa ob, x = .ref a ∧ y = .ref b ∧ H a = some oa ∧ isObj oa = true ∧ H b = some ob ∧ isObj ob = true ∧ Q (.bl (decide (a = b))) H) := by
  intro pins s σ H x y v u Q I rx ry h
  obtain ⟨a, b, oa, ob, rfl, rfl, ha, pa, hb, pb, q⟩ := h
  cases rx
  cases ry
  obtain ⟨o1, e1, n1⟩ := obj_there I ha pa
  obtain ⟨o2, e2, _⟩ := obj_there I hb pb
  by_cases z : a = b
  · subst z
    exact wpAny_is_ref_self (fin_bl I q (by simp))
  · exact wpAny_is_ref_other z e1 e2 n1 (fin_bl I q (by simp [z]))
theorem op_isnot_ref : OpR X (compareOp .IsNot) (fun x y H Q => ∃ a b oa ob, x = .ref a ∧ y = .ref b ∧ H a = some oa ∧ isObj oa = true ∧ H b = some ob ∧ isObj ob = true ∧ Q (.bl (!decide (a = b))) H) := by
  intro pins s σ H x y v u Q I rx ry h
  obtain ⟨a, b, oa, ob, rfl, rfl, ha, pa, hb, pb, q⟩ := h
  cases rx
  cases ry
  obtain ⟨o1, e1, n1⟩ := obj_there I ha pa
  obtain ⟨o2, e2, _⟩ := obj_there I hb pb
  by_cases z : a = b
  · subst z
    exact wpAny_isNot_ref_self (fin_bl I q (by simp))
  · exact wpAny_isNot_ref_other z e1 e2 n1 (fin_bl I q (by simp [z]))

/-- two rules for one operation: by cases -/
theorem OpR.or {f : Value → Value → Sem Value} {r r' : R2} (h : OpR X f r) (h' : OpR X f r') : OpR X f (fun x y H Q => r x y H Q ∨ r' x y H Q) := by
  intro pins s σ H x y v u Q I rx ry q
  rcases q with q | q
  · exact h pins s σ H x y v u Q I rx ry q
  · exact h' pins s σ H x y v u Q I rx ry q

theorem nomark (b : Expr) {op : CmpOp} (h : op ≠ .In := by decide) (h2 : op ≠ .NotIn := by decide) : behindInMarks op b = false := by
  have e1 : (op == CmpOp.In) = false := by cases op <;> first | rfl | exact absurd rfl h
  have e2 : (op == CmpOp.NotIn) = false := by cases op <;> first | rfl | exact absurd rfl h2
  cases b <;> simp [behindInMarks, e1, e2]
/-- a comparison as a value; hm: nomark b, or (for in, not in) by with_unfolding_all rfl -/
theorem pe_cmpR {op : CmpOp} {r : R2} (ho : OpR X (compareOp op) r) (ha : PE X a ta) (hb : PE X b tb) (hm : behindInMarks op b = false) : PE X (.Compare a [op] [b] pos) (tOp r ta tb) := by
  intro pins s σ H Q I h
  exact wpAny_Compare1 (binT ha hb I h fun v u s2 x y H2 I2 rx ry q => ho pins s2 σ H2 x y v u Q I2 rx ry q) hm
/-- a reading of a value as a test -/
def tTest (t : TE) : TT := fun σ H Q => t σ H fun x H' => ∃ k, x = .bl k ∧ Q k H'
theorem pt_cmpR {op : CmpOp} {r : R2} (ho : OpR X (compareOp op) r) (ha : PE X a ta) (hb : PE X b tb) (hm : behindInMarks op b = false) : PT X (.Compare a [op] [b] pos) (tTest (tOp r ta tb)) := by
  intro pins s σ H Q I h
  refine wpAny_isTrue_Compare1 (thn (ha pins s σ H _ I h) fun v s1 ⟨x, H1, I1, r1, q1⟩ => thn (hb pins s1 σ H1 _ I1 q1) fun u s2 ⟨y, H2, I2, r2, q2⟩ =>
    thn (ho pins s2 σ H2 x y v u _ I2 r1 r2 q2) fun c s3 ⟨z, H3, I3, r3, k, e, q3⟩ => ?_) hm
  subst e
  cases r3
  exact wpAny_truthy_bool ⟨H3, I3, q3⟩
/-- a op1 b op2 c -/
def tChain (r r' : R2) (ta tb tc : TE) : TE := fun σ H Q => ta σ H fun x H1 => tb σ H1 fun y H2 => r x y H2 fun z H3 => ∃ k, z = .bl k ∧
  (if k = true then tc σ H3 fun w' H4 => r' y w' H4 Q else Q (.bl false) H3)
theorem pe_chain {op op' : CmpOp} {r r' : R2} (ho : OpR X (compareOp op) r) (ho' : OpR X (compareOp op') r') (ha : PE X a ta) (hb : PE X b tb) (hc : PE X c tc)
    (hm : lastMarks [op, op'] [b, c] = false := by with_unfolding_all rfl) : PE X (.Compare a [op, op'] [b, c] pos) (tChain r r' ta tb tc) := by
  intro pins s σ H Q I h
  refine Compare_chain (thn (ha pins s σ H _ I h) fun v s1 ⟨x, H1, I1, r1, q1⟩ => chain_link (thn (hb pins s1 σ H1 _ I1 q1) fun u s2 ⟨y, H2, I2, r2, q2⟩ =>
    thn (ho pins s2 σ H2 x y v u _ I2 r1 r2 q2) fun d s3 ⟨z, H3, I3, r3, k, e, q3⟩ => ?_)) hm
  subst e
  cases r3
  refine wpAny_truthy_bool ?_
  cases k with
  | false => exact ite_ff ⟨.bl false, H3, I3, rfl, q3⟩
  | true => exact ite_tt (chain_last (thn (hc pins s3 σ H3 _ I3 q3) fun w' s4 ⟨z', H4, I4, r4, q4⟩ => ho' pins s4 σ H4 y z' u w' Q I4 r2 r4 q4))
theorem pt_chain {op op' : CmpOp} {r r' : R2} (ho : OpR X (compareOp op) r) (ho' : OpR X (compareOp op') r') (ha : PE X a ta) (hb : PE X b tb) (hc : PE X c tc)
    (hm : lastMarks [op, op'] [b, c] = false := by with_unfolding_all rfl) : PT X (.Compare a [op, op'] [b, c] pos) (tTest (tChain r r' ta tb tc)) := by
  intro pins s σ H Q I h
  refine isTrue_chain (thn (ha pins s σ H _ I h) fun v s1 ⟨x, H1, I1, r1, q1⟩ => test_link (thn (hb pins s1 σ H1 _ I1 q1) fun u s2 ⟨y, H2, I2, r2, q2⟩ =>
    thn (ho pins s2 σ H2 x y v u _ I2 r1 r2 q2) fun d s3 ⟨z, H3, I3, r3, k, e, q3⟩ => ?_)) hm
  subst e
  cases r3
  refine wpAny_truthy_bool ?_
  cases k with
  | false =>
    obtain ⟨k', e', q'⟩ := q3
    cases e'
    exact ite_ff ⟨H3, I3, q'⟩
  | true =>
    refine ite_tt (test_last (thn (hc pins s3 σ H3 _ I3 q3) fun w' s4 ⟨z', H4, I4, r4, q4⟩ => thn (ho' pins s4 σ H4 y z' u w' _ I4 r2 r4 q4) fun d' s5 ⟨z2, H5, I5, r5, k2, e2, q5⟩ => ?_))
    subst e2
    cases r5
    exact wpAny_truthy_bool ⟨H5, I5, q5⟩

/-! ### truth -/
/-- a value's truth by the abstract heap -/
def TruV (K : PySem.W.Frag) (x : V) (H : Hp) (k : Bool) : Prop :=
  match x with
  | .non => k = false
  | .bl b => k = b
  | .int i => k = (i != 0)
  | .str y => y.length ≤ sizeLine ∧ k = ((y.length : Int) != 0)
  | .byt y => y.size ≤ sizeLine ∧ k = ((y.size : Int) != 0)
  | .ref p => (∃ xs, SqL K H p xs ∧ k = !xs.isEmpty) ∨ (∃ xs, SqT K H p xs ∧ k = !xs.isEmpty) ∨ ∃ kvs, H p = some (.dK kvs) ∧ k = !kvs.isEmpty
  | _ => False
theorem isEmpty_kv {κ : Type} {kvs : List (κ × V)} {vs : List (κ × Value)} (r : KV kvs vs) : (!vs.isEmpty) = !kvs.isEmpty := by
  cases r <;> rfl
theorem isEmpty_of {xs : List V} {its : List Value} (r : Vals xs its) : (!its.toArray.isEmpty) = !xs.isEmpty := by
  cases r <;> simp
theorem line63 : (sizeLine : Nat) < 2 ^ 63 := by rw [sizeLine_eq]; decide
theorem tru_ok : TruR X (fun x H Q => ∃ k, TruV X.K x H k ∧ Q k H) := by
  intro pins s σ H x v Q I rx h
  obtain ⟨k, e, q⟩ := h
  have hl := line63
  have hs : sizeLine = 16777216 := sizeLine_eq
  cases x with
  | non =>
    cases rx
    have e' : k = false := e
    subst e'
    exact truthy_none ⟨H, I, q⟩
  | bl b =>
    cases rx
    have e' : k = b := e
    subst e'
    exact wpAny_truthy_bool ⟨H, I, q⟩
  | int i =>
    obtain ⟨t, rfl⟩ := rx
    have e' : k = (i != 0) := e
    subst e'
    exact PySem.P.truthy_int ⟨H, I, q⟩
  | str y =>
    obtain ⟨t, rfl⟩ := rx
    obtain ⟨hy, e'⟩ : y.length ≤ sizeLine ∧ k = ((y.length : Int) != 0) := e
    subst e'
    exact PySem.P.truthy_str (by omega) ⟨H, I.tok _, q⟩
  | byt y =>
    obtain ⟨t, rfl⟩ := rx
    obtain ⟨hy, e'⟩ : y.size ≤ sizeLine ∧ k = ((y.size : Int) != 0) := e
    subst e'
    exact PySem.W.truthy_bytes (by omega) ⟨H, I.tok _, q⟩
  | ref p =>
    cases rx
    have e' : (∃ xs, SqL X.K H p xs ∧ k = !xs.isEmpty) ∨ (∃ xs, SqT X.K H p xs ∧ k = !xs.isEmpty) ∨ ∃ kvs, H p = some (.dK kvs) ∧ k = !kvs.isEmpty := e
    rcases e' with ⟨xs, hx, e'⟩ | ⟨xs, hx, e'⟩ | ⟨kvs, hx, e'⟩
    · subst e'
      obtain ⟨its, r, pl, hz⟩ := I.list hx
      have hlen := r.length
      exact wpAny_truthy_list pl.isList (by simp only [List.size_toArray]; omega) ⟨H, I.tok _, by rw [isEmpty_of r]; exact q⟩
    · subst e'
      obtain ⟨its, r, pl, hz⟩ := I.tuple hx
      have hlen := r.length
      exact truthy_tuple pl (by simp only [List.size_toArray]; omega) ⟨H, I.tok _, by rw [isEmpty_of r]; exact q⟩
    · subst e'
      obtain ⟨hz, hS, vs, r, m⟩ : kvs.length ≤ sizeLine ∧ (p == sysModules) = false ∧ ∃ vs, KV kvs vs ∧ s.heap.DictOf (mixKind X.prog X.w) p vs := I.hok p _ hx
      have hlen : kvs.length = vs.length := Paired.length r
      exact wpAny_truthy_dict hS m (by omega) ⟨H, I.tok _, by rw [isEmpty_kv r]; exact q⟩
  | _ => exact (show False from e).elim
/-- any expression whose test is its value's truth (a name, a call, a subscript, a field ..: he by fun _ => rfl) -/
theorem pt_truth (ha : PE X a ta) (he : ∀ whole, isTrue a X.env whole = (do let v ← whole; standAt a.pos; holding [v] (truthy v))) :
    PT X a (fun σ H Q => ta σ H fun x H' => ∃ k, TruV X.K x H' k ∧ Q k H') := by
  intro pins s σ H Q I h
  exact isTrue_plain (thn (ha pins s σ H _ I h) fun v s1 ⟨x, H1, I1, r1, q1⟩ => tru_ok pins s1 σ H1 x v Q I1 r1 q1) (he _)

/-! ### strs and bytes -/
theorem pe_byt {x : List UInt8} {k : Nat} : PE X (.Constant (.bytes x) k pos) (fun _ H Q => Q (.byt x.toArray) H) := fun _ _ _ H _ I h => PySem.W.Constant_bytes ⟨.byt x.toArray, H, I.tok _, ⟨_, rfl⟩, h⟩
theorem op_add_str : OpR X (binaryOp .Add) (fun x y H Q => ∃ i j, x = .str i ∧ y = .str j ∧ i.length + j.length ≤ sizeLine ∧ Q (.str (i ++ j)) H) := by
  intro pins s σ H x y v u Q I rx ry h
  obtain ⟨i, j, rfl, rfl, hz, q⟩ := h
  obtain ⟨t, rfl⟩ := rx
  obtain ⟨t', rfl⟩ := ry
  exact add_str (fun t' tk => ⟨.str (i ++ j), H, I.tok _, ⟨_, rfl⟩, q⟩) hz
theorem iop_add_str : OpR X (inplaceOp .Add) (fun x y H Q => ∃ i j, x = .str i ∧ y = .str j ∧ i.length + j.length ≤ sizeLine ∧ Q (.str (i ++ j)) H) := by
  intro pins s σ H x y v u Q I rx ry h
  obtain ⟨i, j, rfl, rfl, hz, q⟩ := h
  obtain ⟨t, rfl⟩ := rx
  obtain ⟨t', rfl⟩ := ry
  exact iadd_str (fun t' tk => ⟨.str (i ++ j), H, I.tok _, ⟨_, rfl⟩, q⟩) hz
theorem op_add_byt : OpR X (binaryOp .Add) (fun x y H Q => ∃ i j, x = .byt i ∧ y = .byt j ∧ i.size + j.size ≤ 16777216 ∧ Q (.byt (i ++ j)) H) := by
  intro pins s σ H x y v u Q I rx ry h
  obtain ⟨i, j, rfl, rfl, hz, q⟩ := h
  obtain ⟨t, rfl⟩ := rx
  obtain ⟨t', rfl⟩ := ry
  exact PySem.W.KBy.add_bytes hz (fun t' tk => ⟨.byt (i ++ j), H, I.tok _, ⟨_, rfl⟩, q⟩)

def PlainIxT (b : Expr) : Prop := ∀ o i, subscripted b false o i = operate [o, i] (getItem o i)
/-- s[i], 0 ≤ i < len -/
theorem pe_item_str (ha : PE X a ta) (hb : PE X b tb) (hs : PlainIxT b) :
    PE X (.Subscript a b pos) (tOp (fun x y H Q => ∃ z i c, x = .str z ∧ y = .int i ∧ 0 ≤ i ∧ i < 2 ^ 63 ∧ i < z.length ∧ z.cps[i.toNat]? = some c ∧ Q (.str ⟨#[c]⟩) H) ta tb) := by
  intro pins s σ H Q I h
  refine Subscript_ (binT ha hb I h fun v u s2 x y H2 I2 rx ry q => ?_)
  obtain ⟨z, i, c, rfl, rfl, h0, h63, h1, hc, q⟩ := q
  obtain ⟨t, rfl⟩ := rx
  obtain ⟨t', rfl⟩ := ry
  have e : seqIndex? i z.length = some i.toNat := PySem.StrLaws.seqIndex_nonneg h0 h1
  exact tail_any (typeIs_str s2 z t) slot_str_getitem.lookup (getItem_str (c := c) (by
    have e1 : decide (i < -(2 ^ 63 : Int)) = false := decide_eq_false (by omega)
    have e2 : decide (i ≥ 2 ^ 63) = false := decide_eq_false (by omega)
    rw [e1, e2] <;> rfl) (by rw [e]; exact hc) ⟨.str ⟨#[c]⟩, H2, I2.tok _, ⟨_, rfl⟩, q⟩) (hs _ _)
/-- b[i], 0 ≤ i < len -/
theorem pe_item_byt (ha : PE X a ta) (hb : PE X b tb) (hs : PlainIxT b) :
    PE X (.Subscript a b pos) (tOp (fun x y H Q => ∃ (z : List UInt8) (i : Int), x = .byt z.toArray ∧ y = .int i ∧ z.length ≤ sizeLine ∧ 0 ≤ i ∧ i < z.length ∧ Q (.int ((z.getD i.toNat 0).toNat : Nat)) H) ta tb) := by
  intro pins s σ H Q I h
  refine Subscript_ (binT ha hb I h fun v u s2 x y H2 I2 rx ry q => ?_)
  obtain ⟨z, i, rfl, rfl, hz, h0, h1, q⟩ := q
  obtain ⟨t, rfl⟩ := rx
  obtain ⟨t', rfl⟩ := ry
  have hl : sizeLine = 16777216 := sizeLine_eq
  exact tail_any (PySem.W.typeIs_bytes s2 z.toArray t) PySem.W.FB.slot_bytes_getitem.lookup (PySem.W.getItem_bytes (by omega) h0 h1 ⟨.int ((z.getD i.toNat 0).toNat : Nat), H2, I2.tok _, ⟨_, rfl⟩, q⟩) (hs _ _)

/-! ### scalar builtins, by CallR -/
theorem vals1 {x : V} {us : List Value} (r : Vals [x] us) : ∃ u, us = [u] ∧ RelV x u := by
  cases r with
  | cons r1 r2 => cases r2; exact ⟨_, rfl, r1⟩
theorem vals2 {x y : V} {us : List Value} (r : Vals [x, y] us) : ∃ u w', us = [u, w'] ∧ RelV x u ∧ RelV y w' := by
  cases r with
  | cons r1 r2 =>
    cases r2 with
    | cons r3 r4 => cases r4; exact ⟨_, _, rfl, r1, r3⟩
theorem call_abs : CallR X (.builtin "abs") (fun xs H Q => ∃ i, xs = [.int i] ∧ Q (.int (if i < 0 then -i else i)) H) := by
  intro pins s σ H xs us Q I r h
  obtain ⟨i, rfl, q⟩ := h
  obtain ⟨u, rfl, t, rfl⟩ := vals1 r
  exact call_abs_int fun u tk => ⟨.int (if i < 0 then -i else i), H, I.tok _, ⟨_, rfl⟩, q⟩
theorem call_max2 (hc : X.calm = true) : CallR X (.builtin "max") (fun xs H Q => ∃ i j, xs = [.int i, .int j] ∧ Q (.int (if j > i then j else i)) H) := by
  intro pins s σ H xs us Q I r h
  obtain ⟨i, j, rfl, q⟩ := h
  obtain ⟨u, w', rfl, ⟨t, rfl⟩, ⟨t', rfl⟩⟩ := vals2 r
  refine max_two_ints (I.ok.hd hc) fun h' tk k => ⟨_, H, I.kept k, ?_, q⟩
  by_cases hj : j > i
  · rw [if_pos hj, if_pos hj]; exact ⟨_, rfl⟩
  · rw [if_neg hj, if_neg hj]; exact ⟨_, rfl⟩
theorem call_min2 (hc : X.calm = true) : CallR X (.builtin "min") (fun xs H Q => ∃ i j, xs = [.int i, .int j] ∧ Q (.int (if j < i then j else i)) H) := by
  intro pins s σ H xs us Q I r h
  obtain ⟨i, j, rfl, q⟩ := h
  obtain ⟨u, w', rfl, ⟨t, rfl⟩, ⟨t', rfl⟩⟩ := vals2 r
  refine min_two_ints (I.ok.hd hc) fun h' tk k => ⟨_, H, I.kept k, ?_, q⟩
  by_cases hj : j < i
  · rw [if_pos hj, if_pos hj]; exact ⟨_, rfl⟩
  · rw [if_neg hj, if_neg hj]; exact ⟨_, rfl⟩
theorem call_int1 : CallR X (.type "int") (fun xs H Q => (∃ i, xs = [.int i] ∧ Q (.int i) H) ∨ ∃ k, xs = [.bl k] ∧ Q (.int (if k then 1 else 0)) H) := by
  intro pins s σ H xs us Q I r h
  rcases h with ⟨i, rfl, q⟩ | ⟨k, rfl, q⟩
  · obtain ⟨u, rfl, t, rfl⟩ := vals1 r
    exact call_int_int ⟨.int i, H, I, ⟨_, rfl⟩, q⟩
  · obtain ⟨u, rfl, r1⟩ := vals1 r
    cases r1
    exact call_int_bool ⟨.int (if k then 1 else 0), H, I.tok _, ⟨_, rfl⟩, q⟩
theorem call_bool1 : CallR X (.type "bool") (fun xs H Q => (∃ i, xs = [.int i] ∧ Q (.bl (i != 0)) H) ∨ ∃ k, xs = [.bl k] ∧ Q (.bl k) H) := by
  intro pins s σ H xs us Q I r h
  rcases h with ⟨i, rfl, q⟩ | ⟨k, rfl, q⟩
  · obtain ⟨u, rfl, t, rfl⟩ := vals1 r
    exact call_bool_int ⟨.bl (i != 0), H, I, rfl, q⟩
  · obtain ⟨u, rfl, r1⟩ := vals1 r
    cases r1
    exact call_bool_bool ⟨.bl k, H, I, rfl, q⟩
theorem call_str_int : CallR X (.type "str") (fun xs H Q => ∃ i, xs = [.int i] ∧ i.natAbs.log2 < 1920 ∧ Q (.str (toString i)) H) := by
  intro pins s σ H xs us Q I r h
  obtain ⟨i, rfl, hz, q⟩ := h
  obtain ⟨u, rfl, t, rfl⟩ := vals1 r
  exact PySem.P.str_of_int hz ⟨.str _, H, I.tok _, ⟨_, rfl⟩, q⟩
theorem call_ord : CallR X (.builtin "ord") (fun xs H Q => ∃ x, xs = [.str x] ∧ x.length = 1 ∧ Q (.int (x.cps.getD 0 0 : Nat)) H) := by
  intro pins s σ H xs us Q I r h
  obtain ⟨x, rfl, hz, q⟩ := h
  obtain ⟨u, rfl, t, rfl⟩ := vals1 r
  exact ord_of_one hz ⟨.int _, H, I.tok _, ⟨_, rfl⟩, q⟩
theorem call_chr : CallR X (.builtin "chr") (fun xs H Q => ∃ i, xs = [.int i] ∧ 0 ≤ i ∧ i ≤ 1114111 ∧ Q (.str ⟨#[i.toNat]⟩) H) := by
  intro pins s σ H xs us Q I r h
  obtain ⟨i, rfl, h0, h1, q⟩ := h
  obtain ⟨u, rfl, t, rfl⟩ := vals1 r
  exact chr_of_range h0 h1 ⟨.str _, H, I.tok _, ⟨_, rfl⟩, q⟩
/-- len of a str, a bytes, a list, a tuple -/
def LenV (K : PySem.W.Frag) (x : V) (H : Hp) (n : Nat) : Prop :=
  match x with
  | .str y => y.length ≤ sizeLine ∧ n = y.length
  | .byt y => y.size ≤ sizeLine ∧ n = y.size
  | .ref p => (∃ xs, SqL K H p xs ∧ n = xs.length) ∨ ∃ xs, SqT K H p xs ∧ n = xs.length
  | _ => False
theorem call_len : CallR X (.builtin "len") (fun xs H Q => ∃ x n, xs = [x] ∧ LenV X.K x H n ∧ Q (.int n) H) := by
  intro pins s σ H xs us Q I r h
  obtain ⟨x, n, rfl, e, q⟩ := h
  obtain ⟨u, rfl, rx⟩ := vals1 r
  have hl := line63
  have hs : sizeLine = 16777216 := sizeLine_eq
  cases x with
  | str y =>
    obtain ⟨t, rfl⟩ := rx
    obtain ⟨hy, e'⟩ : y.length ≤ sizeLine ∧ n = y.length := e
    subst e'
    exact len_str (by omega) ⟨.int _, H, I.tok _, ⟨_, rfl⟩, q⟩
  | byt y =>
    obtain ⟨t, rfl⟩ := rx
    obtain ⟨hy, e'⟩ : y.size ≤ sizeLine ∧ n = y.size := e
    subst e'
    exact PySem.W.len_bytes (by omega) ⟨.int _, H, I.tok _, ⟨_, rfl⟩, q⟩
  | ref p =>
    cases rx
    have e' : (∃ xs, SqL X.K H p xs ∧ n = xs.length) ∨ ∃ xs, SqT X.K H p xs ∧ n = xs.length := e
    rcases e' with ⟨xs, hx, e'⟩ | ⟨xs, hx, e'⟩
    · subst e'
      obtain ⟨its, r', pl, hz⟩ := I.list hx
      have hlen := r'.length
      exact Calls.call_len_list pl.isList (by simp only [List.size_toArray]; omega) ⟨.int xs.length, H, I.tok _, ⟨_, by simp only [List.size_toArray]; rw [hlen]⟩, q⟩
    · subst e'
      obtain ⟨its, r', pl, hz⟩ := I.tuple hx
      have hlen := r'.length
      exact len_tuple pl (by simp only [List.size_toArray]; omega) ⟨.int xs.length, H, I.tok _, ⟨_, by simp only [List.size_toArray]; rw [hlen]⟩, q⟩
  | _ => exact (show False from e).elim
/-- divmod: a new tuple -/
theorem call_divmod : CallR X (.builtin "divmod") (fun xs H Q => ∃ i j, xs = [.int i, .int j] ∧ CDiv i j ∧ ∀ p, H p = none → Q (.ref p) (upd H p (.tup [.int (i / j), .int (i % j)]))) := by
  intro pins s σ H xs us Q I r h
  obtain ⟨i, j, rfl, ⟨h1, h2⟩, q⟩ := h
  obtain ⟨u, w', rfl, ⟨t, rfl⟩, ⟨t', rfl⟩⟩ := vals2 r
  refine divmod_int (by omega) ?_ (.inl (PyProof.noPylong_small (by omega)))
  rw [Int.fdiv_eq_ediv_of_nonneg i (by omega), Int.fmod_eq_emod_of_nonneg i (by omega)]
  have hn : H s.heap.objs.size = none := I.hok.fresh (Nat.le_refl _)
  refine ⟨.ref s.heap.objs.size, _, ?_, rfl, q _ hn⟩
  refine I.laid (fun b o e => Heap.get?_push_of_some _ e) (Nat.le_refl _) ⟨by simp only [List.length_cons, List.length_nil]; rw [sizeLine_eq]; decide, [.int (i / j) s.toks, .int (i % j) (s.toks + 1)], .cons ⟨_, rfl⟩ (.cons ⟨_, rfl⟩ .nil), ?_⟩
  exact TupO.new _ _
end
end L2

namespace L2
open PySem PySem.Spec PyProof.Rows

/-! ### an instance, its attributes a map -/
structure ObjM (h : Heap) (x dx C : Addr) (mA : Str → Option Value) : Prop where
  obj : h.get? x = some (PySem.W.instObj C dx)
  ns : h.Ns1 dx mA
  ne : dx ≠ x

theorem lookIn_ns {h : Heap} {dx : Addr} {mA : Str → Option Value} (n : h.Ns1 dx mA) : ∃ od, h.get? dx = some od ∧ ∀ name, PySem.W.lookIn name od = some (mA name) := by
  obtain ⟨o, es, ep, ho, hd, hk, _, hm⟩ := n
  refine ⟨o, ho, fun name => ?_⟩
  have e := hm name
  unfold nsFind findBy at e
  rw [← Array.find?_toList] at e
  unfold PySem.W.lookIn
  rw [hd]
  dsimp only
  split
  · rename_i y q
    rw [q] at e
    exact congrArg some e
  · rename_i q
    rw [q] at e
    have a : es.toList.any (·.refKey) = false := by
      rw [List.any_eq_false]
      intro y hy
      obtain ⟨z, t, hkey⟩ := hk y (Array.mem_toList_iff.mp hy)
      simp [DictEntry.refKey, hkey]
    have a' : ¬ es.toList.any (·.refKey) = true := by rw [a]; exact Bool.false_ne_true
    rw [if_neg a']
    exact congrArg some e

theorem ObjM.look {h : Heap} {x dx C : Addr} {mA : Str → Option Value} (I : ObjM h x dx C mA) : ∃ od, PySem.W.InstAt h x (PySem.W.instObj C dx) C (some od) ∧ ∀ name, PySem.W.lookIn name od = some (mA name) :=
  let ⟨od, ho, hl⟩ := lookIn_ns I.ns
  ⟨od, ⟨I.obj, rfl, rfl, ho⟩, hl⟩

section
variable {prog : Program} {w : World} {A : Around} {E : Value → Shared → Prop} {s : Shared} {K : PySem.W.Frag} {x dx C f : Addr} {mA : Str → Option Value} {name : Str} {v : Value}

theorem get_map {expr : Bool} {Q : Value → Shared → Prop} (X : K.In s.heap) (I : ObjM s.heap x dx C mA) (hg : PySem.W.plainGet K C name = true) (hh : PySem.W.hasDictIn K C = true)
    (ha : PySem.W.findIn K (.ref C) name = some none) (hv : mA name = some v) (hv' : PySem.W.handedIn v = true) (h : Q v { s with toks := s.toks + 1 }) :
    wpAny (model prog w) A (getAttr (.ref x) name expr) Q E s := by
  obtain ⟨od, J, hl⟩ := I.look
  exact PySem.W.get_value X J (PySem.W.plainGet_of hg).1 (PySem.W.findObj_own hh ha rfl (by rw [hl, hv])) hv' h

theorem get_const {expr : Bool} {a : Value} {Q : Value → Shared → Prop} (X : K.In s.heap) (I : ObjM s.heap x dx C mA) (hg : PySem.W.plainGet K C name = true) (hh : PySem.W.hasDictIn K C = true)
    (ha : PySem.W.findIn K (.ref C) name = some (some a)) (hn : PySem.W.specialIn K a "__get__" = some none) (hc : PySem.W.copiedNames.contains name = false) (hv : mA name = none) (hv' : PySem.W.handedIn a = true)
    (h : Q a { s with toks := s.toks + 1 }) : wpAny (model prog w) A (getAttr (.ref x) name expr) Q E s := by
  obtain ⟨od, J, hl⟩ := I.look
  exact PySem.W.get_value X J (PySem.W.plainGet_of hg).1 (PySem.W.findObj_cls hh ha hn hv' hc (by rw [hl, hv])) hv' h

theorem get_meth {pl : Sem Bool} {Q : Value × List Value → Shared → Prop} (X : K.In s.heap) (I : ObjM s.heap x dx C mA) (hg : PySem.W.plainGet K C name = true)
    (hf : PySem.W.findIn K (.ref C) name = some (some (.ref f))) (ht : PySem.W.isFn K (.ref f) = true) (hv : mA name = none) (h : Q (.ref f, [.ref x]) s) :
    wpAny (model prog w) A (getMethod (.ref x) name pl) Q E s := by
  obtain ⟨od, J, hl⟩ := I.look
  exact PySem.W.method_fn X J (PySem.W.plainGet_of hg).1 (PySem.W.plainGet_of hg).2 hf (beq_iff_eq.mp ht) (by show (PySem.W.lookIn name od).map (·.isSome) = some false; rw [hl, hv]; rfl) h

theorem set_map {ns : List Str} {Q : Unit → Shared → Prop} (X : K.In s.heap) (I : ObjM s.heap x dx C mA)
    (hs : PySem.W.findIn K (.ref C) "__setattr__" = some (some (.builtin "object.__setattr__"))) (hp : PySem.W.plainOver K C = true) (ht : PySem.W.takerIn K C name = some none) (hh : PySem.W.hasDictIn K C = true)
    (hw : PySem.Within mA ns) (hsz : ns.length ≤ sizeLine)
    (h : ∀ h', ObjM h' x dx C (fun y => if y = name then some v else mA y) → Heap.SameBut dx s.heap h' → Q () { s with heap := h', toks := s.toks + 2 }) :
    wpAny (model prog w) A (setAttr (.ref x) name v) Q E s := by
  obtain ⟨od, J, hl⟩ := I.look
  refine PySem.W.set_plain X J hs (PySem.W.osa_open (s := { s with toks := s.toks + 1 }) (r := none) X J hp ht fun b => ?_)
  obtain ⟨cd, hc, hd'⟩ := PySem.W.any_some hh
  have hx : s.heap.get? x = some ⟨.ref C, some dx, .plain, #[]⟩ := I.obj
  refine wpAny_bind (wpAny_pure (wpAny_bind (wpAny_bind (wpAny_loadPart hx (wpAny_bind (PySem.W.Looks.here (s := { s with toks := s.toks + 1 }) (PySem.W.looks_clsIn X hc) ?_))))))
  rw [hd']
  refine wpAny_pure (a := some dx) (wpAny_bind (wpAny_pure (wpAny_bind ?_)))
  refine wpAny_nsSet1 (s := { s with toks := s.toks + 1 }) I.ns fun h' hn2 hs2 => ?_
  obtain ⟨oD, esD, epD, hoD, hdD, hcD⟩ := hn2.count (PySem.Within.cons name v hw)
  refine wpAny_bind (wpAny_lookBehind hoD (by rw [hdD]; exact pastItsLine_dict (Nat.le_trans hcD (by rw [List.length_cons]; omega))) ?_)
  exact wpAny_pure (h _ ⟨(hs2.2 _ (Ne.symm I.ne)).trans I.obj, hn2, I.ne⟩ hs2)

/-- C(..): the dict at the heap's end, the instance behind it; then its __init__ -/
theorem make_map {R : Result → Shared → Prop} {vs : List Value} {kw : List (Str × Value)} (X : K.In s.heap) (hm : PySem.W.makesIn K C = true)
    (hi : PySem.W.findIn K (.ref C) "__init__" = some (some (.ref f))) (hf : PySem.W.typeIn K (.ref f) = some (.type "function"))
    (h : codeAny (model prog w) (A.under (.builtin "type.__call__" ⟨.ref C :: vs, kw⟩)) (.call (.ref f) ⟨.ref (s.heap.objs.size + 1) :: vs, kw⟩) (PySem.W.InitBack (s.heap.objs.size + 1) R)
      { s with heap := (s.heap.push PySem.W.emptyDict).push (PySem.W.instObj C s.heap.objs.size) }) :
    codeAny (model prog w) A (.call (.ref C) ⟨vs, kw⟩) R s := by
  obtain ⟨hh, g, d, t, os⟩ := s
  exact PySem.W.make_core (PySem.W.makes_of X hm) (PySem.W.looks_findIn X hi) (fun self => PySem.W.bind_fn X self hf) (.inl rfl) h
/-- C() where there is no __init__ but object's -/
theorem make_map0 {R : Result → Shared → Prop} (X : K.In s.heap) (hm : PySem.W.makesIn K C = true)
    (hi : PySem.W.findIn K (.ref C) "__init__" = some (some (.builtin "object.__init__")))
    (hb : ∀ self, PySem.W.Looks (model prog w) s.heap (bindSpecial (.builtin "object.__init__") self) (.builtin "object.__init__", [self]))
    (h : codeAny (model prog w) (A.under (.builtin "type.__call__" ⟨[.ref C], []⟩)) (.call (.builtin "object.__init__") ⟨[.ref (s.heap.objs.size + 1)], []⟩) (PySem.W.InitBack (s.heap.objs.size + 1) R)
      { s with heap := (s.heap.push PySem.W.emptyDict).push (PySem.W.instObj C s.heap.objs.size) }) :
    codeAny (model prog w) A (.call (.ref C) ⟨[], []⟩) R s := by
  obtain ⟨hh, g, d, t, os⟩ := s
  exact PySem.W.make_core (PySem.W.makes_of X hm) (PySem.W.looks_findIn X hi) hb (.inr ⟨rfl, rfl⟩) h
end

/-! ### the attributes as a list of pairs -/
def putF (f : Str) (v : V) : List (Str × V) → List (Str × V)
  | [] => [(f, v)]
  | (g, x) :: r => if g = f then (g, v) :: r else (g, x) :: putF f v r
theorem lookup_putF (f g : Str) (v : V) : ∀ fs : List (Str × V), (putF f v fs).lookup g = if g = f then some v else fs.lookup g
  | [] => by
    show List.lookup g [(f, v)] = _
    by_cases h : g = f
    · have hb : (g == f) = true := beq_iff_eq.mpr h
      simp only [List.lookup, hb, if_pos h]
    · have hb : (g == f) = false := beq_eq_false_iff_ne.mpr h
      simp only [List.lookup, hb, if_neg h]
  | (k, x) :: r => by
    have ih := lookup_putF f g v r
    rw [show putF f v ((k, x) :: r) = (if k = f then (k, v) :: r else (k, x) :: putF f v r) from rfl]
    by_cases hk : k = f
    · rw [if_pos hk]
      by_cases h : g = k
      · have hb : (g == k) = true := beq_iff_eq.mpr h
        simp only [List.lookup, hb, if_pos (h.trans hk)]
      · have hb : (g == k) = false := beq_eq_false_iff_ne.mpr h
        simp only [List.lookup, hb, if_neg (fun e : g = f => h (e.trans hk.symm))]
    · rw [if_neg hk]
      by_cases h : g = k
      · have hb : (g == k) = true := beq_iff_eq.mpr h
        simp only [List.lookup, hb, if_neg (fun e : g = f => hk (h.symm.trans e))]
      · have hb : (g == k) = false := beq_eq_false_iff_ne.mpr h
        simp only [List.lookup, hb]
        exact ih
theorem keys_putF (f : Str) (v : V) : ∀ fs : List (Str × V), f ∈ (putF f v fs).map (·.1) ∧ ∀ g, g ∈ fs.map (·.1) → g ∈ (putF f v fs).map (·.1)
  | [] => ⟨by simp [putF], fun g h => by simp at h⟩
  | (k, x) :: r => by
    obtain ⟨i1, i2⟩ := keys_putF f v r
    rw [show putF f v ((k, x) :: r) = (if k = f then (k, v) :: r else (k, x) :: putF f v r) from rfl]
    by_cases hk : k = f
    · rw [if_pos hk]
      subst hk
      exact ⟨by simp, fun g h => by simpa using h⟩
    · rw [if_neg hk]
      refine ⟨?_, fun g h => ?_⟩
      · rw [List.map_cons]
        exact List.mem_cons_of_mem _ i1
      · rw [List.map_cons] at h ⊢
        rcases List.mem_cons.mp h with e | e
        · exact List.mem_cons.mpr (.inl e)
        · exact List.mem_cons_of_mem _ (i2 g e)
theorem length_putF (f : Str) (v : V) : ∀ fs : List (Str × V), (putF f v fs).length ≤ fs.length + 1
  | [] => by simp [putF]
  | (k, x) :: r => by
    have ih := length_putF f v r
    rw [show putF f v ((k, x) :: r) = (if k = f then (k, v) :: r else (k, x) :: putF f v r) from rfl]
    by_cases hk : k = f
    · rw [if_pos hk, List.length_cons, List.length_cons]; omega
    · rw [if_neg hk, List.length_cons, List.length_cons]; omega

theorem RelO.some_of {v : V} {o : Option Value} (r : RelO (some v) o) : ∃ u, o = some u ∧ RelV v u := by
  cases o with
  | none => exact (show False from r).elim
  | some u => exact ⟨u, rfl, r⟩
theorem RelO.none_of {o : Option Value} (r : RelO none o) : o = none := by
  cases o with
  | none => rfl
  | some u => exact (show False from r).elim
theorem handed_of {v : V} {u : Value} (r : RelV v u) : PySem.W.handedIn u = true := by
  cases v with
  | non => cases (show u = Value.none from r); rfl
  | bl b => cases (show u = Value.bool b from r); rfl
  | int i => obtain ⟨t, e⟩ := (show ∃ t, u = Value.int i t from r); cases e; rfl
  | str x => obtain ⟨t, e⟩ := (show ∃ t, u = Value.str x t from r); cases e; rfl
  | byt b => obtain ⟨t, e⟩ := (show ∃ t, u = Value.bytes b t from r); cases e; rfl
  | flt b => obtain ⟨t, e⟩ := (show ∃ t, u = Value.float b t from r); cases e; rfl
  | ref a => cases (show u = Value.ref a from r); rfl
  | ty n => cases (show u = Value.type n from r); rfl

section
variable {P : Program} {w : World} {H H' : Hp} {h h' : Heap} {a C dx : Addr} {fs fs' : List (Str × V)}
theorem ins_get (hok : HOk P w H h) (e : H a = some (.ins C dx fs)) : ∃ mA, ObjM h a dx C mA ∧ (∀ f, RelO (fs.lookup f) (mA f)) ∧ PySem.Within mA (fs.map (·.1)) ∧ fs.length ≤ 1000 ∧ H dx = some (.own a) := by
  obtain ⟨d, z, ne, ob, mA, n, r, q⟩ := (show ObjOk P w H h a (.ins C dx fs) from hok a _ e)
  exact ⟨mA, ⟨ob, n, ne⟩, r, q, z, d⟩
end

/-! ### what of the text a class must have -/
structure Cls (K : PySem.W.Frag) (C : Addr) : Prop where
  pg : PySem.W.plainGet K C Str.empty = true
  hd : PySem.W.hasDictIn K C = true
  po : PySem.W.plainOver K C = true
  sa : PySem.W.findIn K (.ref C) "__setattr__" = some (some (.builtin "object.__setattr__"))
theorem Cls.get {K : PySem.W.Frag} {C : Addr} (c : Cls K C) (f : Str) : PySem.W.plainGet K C f = true := c.pg
/-- no class of it has the name -/
def NoAttr (K : PySem.W.Frag) (C : Addr) (f : Str) : Prop := PySem.W.findIn K (.ref C) f = some none
theorem NoAttr.taker {K : PySem.W.Frag} {C : Addr} {f : Str} (n : NoAttr K C f) : PySem.W.takerIn K C f = some none := by
  unfold PySem.W.takerIn
  rw [show PySem.W.findIn K (.ref C) f = some none from n]
  rfl
/-- a constant of the class -/
structure Con (K : PySem.W.Frag) (C : Addr) (f : Str) (v : V) (u : Value) : Prop where
  at_ : PySem.W.findIn K (.ref C) f = some (some u)
  rel : RelV v u
  get : PySem.W.specialIn K u "__get__" = some none
  cp : PySem.W.copiedNames.contains f = false
/-- a method: a plain def of the class or of one above it -/
structure Meth (K : PySem.W.Frag) (C : Addr) (m : Str) (f : Addr) : Prop where
  at_ : PySem.W.findIn K (.ref C) m = some (some (.ref f))
  fn : PySem.W.isFn K (.ref f) = true
  kp : PySem.W.keepIn K (.ref f) = true

section
variable {X : Cx} {pins : List (Addr × Obj)} {σ : St} {H : Hp} {s : Shared} {a C dx : Addr} {fs : List (Str × V)} {f : Str} {v : V} {A : Around} {E : Value → Shared → Prop}

theorem getattr_ok {b : Bool} {Q : Value → Shared → Prop} (I : Inv X pins σ H s) (e : H a = some (.ins C dx fs)) (c : Cls X.K C) (n : NoAttr X.K C f) (l : fs.lookup f = some v)
    (h : ∀ u s', Inv X pins σ H s' → RelV v u → Q u s') : wpAny (model X.prog X.w) A (getAttr (.ref a) f b) Q E s := by
  obtain ⟨mA, O, r, _, _, _⟩ := ins_get I.hok e
  obtain ⟨u, hu, ru⟩ := RelO.some_of (v := v) (o := mA f) (by rw [← l]; exact r f)
  exact get_map I.kIn O (c.get f) c.hd n hu (handed_of ru) (h u _ (I.tok _) ru)

theorem getcon_ok {b : Bool} {u : Value} {Q : Value → Shared → Prop} (I : Inv X pins σ H s) (e : H a = some (.ins C dx fs)) (c : Cls X.K C) (k : Con X.K C f v u) (l : fs.lookup f = none)
    (h : ∀ s', Inv X pins σ H s' → Q u s') : wpAny (model X.prog X.w) A (getAttr (.ref a) f b) Q E s := by
  obtain ⟨mA, O, r, _, _, _⟩ := ins_get I.hok e
  have hn : mA f = none := RelO.none_of (by rw [← l]; exact r f)
  exact get_const I.kIn O (c.get f) c.hd k.at_ k.get k.cp hn (handed_of k.rel) (h _ (I.tok _))

theorem getmeth_ok {m : Str} {g : Addr} {pl : Sem Bool} {Q : Value × List Value → Shared → Prop} (I : Inv X pins σ H s) (e : H a = some (.ins C dx fs)) (c : Cls X.K C) (k : Meth X.K C m g) (l : fs.lookup m = none)
    (h : Q (.ref g, [.ref a]) s) : wpAny (model X.prog X.w) A (getMethod (.ref a) m pl) Q E s := by
  obtain ⟨mA, O, r, _, _, _⟩ := ins_get I.hok e
  have hn : mA m = none := RelO.none_of (by rw [← l]; exact r m)
  exact get_meth I.kIn O (c.get m) k.at_ k.fn hn h

theorem setattr_ok {y : V} {u : Value} {Q : Unit → Shared → Prop} (I : Inv X pins σ H s) (e : H a = some (.ins C dx fs)) (c : Cls X.K C) (n : NoAttr X.K C f) (hl : fs.length < 1000) (ry : RelV y u)
    (h : ∀ s', Inv X pins σ (upd H a (.ins C dx (putF f y fs))) s' → Q () s') : wpAny (model X.prog X.w) A (setAttr (.ref a) f u) Q E s := by
  obtain ⟨mA, O, r, wi, _, ho⟩ := ins_get I.hok e
  have hz : (fs.map (·.1)).length ≤ sizeLine := by rw [List.length_map, sizeLine_eq]; omega
  refine set_map I.kIn O c.sa c.po n.taker c.hd wi hz fun h' O' sb => h _ ?_
  have hd : ∃ o, h'.get? dx = some o := let ⟨o, _, _, e', _⟩ := O'.ns; ⟨o, e'⟩
  refine I.write (x := a) (e := dx) (by rw [e]; exact True.intro) (.inr ho) (fun b q hb z => (sb.2 b hb).trans z) hd ?_
  refine ⟨by rw [upd_ne O.ne]; exact ho, ?_, O.ne, O'.obj, _, O'.ns, fun g => ?_, fun g hg => ?_⟩
  · have := length_putF f y fs; omega
  · show RelO ((putF f y fs).lookup g) (if g = f then some u else mA g)
    rw [lookup_putF]
    by_cases q : g = f
    · rw [if_pos q, if_pos q]; exact ry
    · rw [if_neg q, if_neg q]; exact r g
  · by_cases q : g = f
    · rw [q]; exact (keys_putF f y fs).1
    · refine (keys_putF f y fs).2 g (wi g fun z => hg ?_)
      show (if g = f then some u else mA g) = none
      rw [if_neg q]; exact z

/-- a new instance, tracked, without attributes -/
theorem Inv.made (I : Inv X pins σ H s) : Inv X pins σ (upd (upd H s.heap.objs.size (.own (s.heap.objs.size + 1))) (s.heap.objs.size + 1) (.ins C s.heap.objs.size []))
    { s with heap := (s.heap.push PySem.W.emptyDict).push (PySem.W.instObj C s.heap.objs.size) } := by
  have e1 : (s.heap.push PySem.W.emptyDict).get? s.heap.objs.size = some PySem.W.emptyDict := Heap.get?_push_size s.heap rfl
  have e2 : ((s.heap.push PySem.W.emptyDict).push (PySem.W.instObj C s.heap.objs.size)).get? (s.heap.objs.size + 1) = some (PySem.W.instObj C s.heap.objs.size) := by
    have := Heap.get?_push_size (s.heap.push PySem.W.emptyDict) (o := PySem.W.instObj C s.heap.objs.size) rfl
    rwa [Heap.size_push] at this
  have e3 : (s.heap.push PySem.W.emptyDict).Ns s.heap.objs.size (fun _ => none) := ⟨PySem.W.emptyDict, #[], _, e1, rfl, (fun e he => absurd he (by simp)), fun _ => rfl⟩
  have I1 := I.laid (a := s.heap.objs.size) (o := .own (s.heap.objs.size + 1)) (h' := s.heap.push PySem.W.emptyDict) (t' := s.toks) (fun b u q => Heap.get?_push_of_some _ q) (Nat.le_refl _) ⟨_, e1⟩
  refine I1.laid (a := s.heap.objs.size + 1) (o := .ins C s.heap.objs.size []) (t' := s.toks) (fun b u q => Heap.get?_push_of_some _ q) (Nat.le_of_eq (Heap.size_push _ _)) ?_
  have ne : s.heap.objs.size ≠ s.heap.objs.size + 1 := Nat.ne_of_lt (Nat.lt_succ_self _)
  refine ⟨by rw [upd_ne ne, upd_same], Nat.zero_le _, ne, e2, fun _ => none, (Heap.Ns1.of_empty e3).at fun o q => Heap.get?_push_of_some _ q, fun _ => True.intro, fun y hy => absurd rfl hy⟩

/-- e.f where nothing but the object is asked: through attributeBase (super) and the last hold -/
theorem attr_of {prog : Program} {w : World} {env : Env} {e : Expr} {f : Str} {pos : Pos} {s : Shared} {Q : Value → Shared → Prop} (hb : attributeBase e f env (eval e env) = eval e env)
    (h : wpAny (model prog w) A (eval e env) (fun o s₁ => wpAny (model prog w) A (getAttr o f true) Q E s₁) E s) : wpAny (model prog w) A (eval (.Attribute e f pos) env) Q E s :=
  Attribute_any_ h (by rw [arm_eval_Attribute, hb])
end

/-! ### readings and rules -/
/-- e.f, an attribute of the instance -/
def tFld (K : PySem.W.Frag) (ta : TE) (f : Str) : TE := fun σ H Q => ta σ H fun x H1 => ∃ a C dx fs v, x = .ref a ∧ H1 a = some (.ins C dx fs) ∧ Cls K C ∧ NoAttr K C f ∧ fs.lookup f = some v ∧ Q v H1
/-- e.f, a constant of the class -/
def tCon (K : PySem.W.Frag) (ta : TE) (f : Str) : TE := fun σ H Q => ta σ H fun x H1 => ∃ a C dx fs v u, x = .ref a ∧ H1 a = some (.ins C dx fs) ∧ Cls K C ∧ Con K C f v u ∧ fs.lookup f = none ∧ Q v H1
/-- e.f = value -/
def sFld (K : PySem.W.Frag) (ta tv : TE) (f : Str) : TS := fun D σ H => tv σ H fun y H1 => ta σ H1 fun x H2 => ∃ a C dx fs, x = .ref a ∧ H2 a = some (.ins C dx fs) ∧ Cls K C ∧ NoAttr K C f ∧ fs.length < 1000 ∧
  D.nx σ (upd H2 a (.ins C dx (putF f y fs)))
/-- an augmented operator on two values -/
def InOp (X : Cx) (op : Operator) (rd : V → V → Hp → VK → Prop) : Prop :=
  ∀ (pins : List (Addr × Obj)) (s : Shared) (σ : St) (H : Hp) (x y : V) (u v : Value) (Q : VK), Inv X pins σ H s → RelV x u → RelV y v → rd x y H Q → wpAny (model X.prog X.w) X.A (inplaceOp op u v) (EP X pins σ Q) X.xe s
/-- e.f op= value -/
def sFldAug (K : PySem.W.Frag) (ta tv : TE) (rd : V → V → Hp → VK → Prop) (f : Str) : TS := fun D σ H => ta σ H fun x H1 => ∃ a C dx fs v, x = .ref a ∧ H1 a = some (.ins C dx fs) ∧ Cls K C ∧ NoAttr K C f ∧ fs.lookup f = some v ∧
  tv σ H1 fun y H2 => rd v y H2 fun z H3 => ∃ dx' fs', H3 a = some (.ins C dx' fs') ∧ fs'.length < 1000 ∧ D.nx σ (upd H3 a (.ins C dx' (putF f z fs')))

section
variable {X : Cx} {o e value : Expr} {f : Str} {pos pos' tpos : Pos} {ta tv : TE}
theorem pe_fld (he : PE X e ta) (hb : attributeBase e f X.env (eval e X.env) = eval e X.env) : PE X (.Attribute e f pos) (tFld X.K ta f) := by
  intro pins s σ H Q I h
  refine attr_of hb (thn (he pins s σ H _ I h) fun u s1 ⟨x, H1, I1, rx, a, C, dx, fs, v, ex, ea, c, n, l, q⟩ => ?_)
  subst ex
  obtain rfl : u = Value.ref a := rx
  exact getattr_ok I1 ea c n l fun u' s2 I2 ru => ⟨v, H1, I2, ru, q⟩
theorem pe_con (he : PE X e ta) (hb : attributeBase e f X.env (eval e X.env) = eval e X.env) : PE X (.Attribute e f pos) (tCon X.K ta f) := by
  intro pins s σ H Q I h
  refine attr_of hb (thn (he pins s σ H _ I h) fun u s1 ⟨x, H1, I1, rx, a, C, dx, fs, v, u0, ex, ea, c, k, l, q⟩ => ?_)
  subst ex
  obtain rfl : u = Value.ref a := rx
  exact getcon_ok I1 ea c k l fun s2 I2 => ⟨v, H1, I2, k.rel, q⟩
theorem ps_fld (ha : PE X o ta) (hv : PE X value tv) (hs : swapsWith value (some (.Attribute o f pos')) pos.line X.env = pure false) : PS X (.Assign [.Attribute o f pos'] value pos) (sFld X.K ta tv f) := by
  intro pins s σ H D I h
  refine plainObj_wpAny_Assign_Attribute (thn (hv pins s σ H _ I h) fun u s1 ⟨y, H1, I1, ry, q⟩ => thn (ha pins s1 σ H1 _ I1 q) fun ov s2 ⟨x, H2, I2, rx, a, C, dx, fs, ex, ea, c, n, l, q2⟩ => ?_) hs
  subst ex
  obtain rfl : ov = Value.ref a := rx
  exact setattr_ok I2 ea c n l ry fun s3 I3 => ⟨σ, _, I3, q2⟩
theorem ps_fldaug {op : Operator} {rd : V → V → Hp → VK → Prop} (ha : PE X o ta) (hv : PE X value tv) (hop : InOp X op rd) : PS X (.AugAssign (.Attribute o f tpos) op value pos) (sFldAug X.K ta tv rd f) := by
  intro pins s σ H D I h
  refine wpAny_AugAssign_AttributeAny (thn (ha pins s σ H _ I h) fun ov s1 ⟨x, H1, I1, rx, a, C, dx, fs, v, ex, ea, c, n, l, q⟩ => ?_)
  subst ex
  obtain rfl : ov = Value.ref a := rx
  refine getattr_ok I1 ea c n l fun u s2 I2 ru => thn (hv pins s2 σ H1 _ I2 q) fun w3 s3 ⟨y, H2, I3, ry, q3⟩ => thn (hop pins s3 σ H2 v y u w3 _ I3 ru ry q3) fun w4 s4 ⟨z, H3, I4, rz, dx', fs', ea', l', q4⟩ => ?_
  exact setattr_ok I4 ea' c n l' rz fun s5 I5 => ⟨σ, _, I5, q4⟩
def rAdd : V → V → Hp → VK → Prop := fun x y H Q => ∃ i j, x = .int i ∧ y = .int j ∧ Q (.int (i + j)) H
def rSub : V → V → Hp → VK → Prop := fun x y H Q => ∃ i j, x = .int i ∧ y = .int j ∧ Q (.int (i - j)) H
theorem in_add : InOp X .Add rAdd := by
  rintro pins s σ H x y u v Q I rx ry ⟨i, j, rfl, rfl, q⟩
  obtain ⟨t, rfl⟩ := (show ∃ t, u = Value.int i t from rx)
  obtain ⟨t', rfl⟩ := (show ∃ t', v = Value.int j t' from ry)
  exact PyProof.Rows.iadd_int ⟨.int (i + j), H, I.tok _, ⟨_, rfl⟩, q⟩
theorem in_sub : InOp X .Sub rSub := by
  rintro pins s σ H x y u v Q I rx ry ⟨i, j, rfl, rfl, q⟩
  obtain ⟨t, rfl⟩ := (show ∃ t, u = Value.int i t from rx)
  obtain ⟨t', rfl⟩ := (show ∃ t', v = Value.int j t' from ry)
  exact PyProof.Rows.isub_int ⟨.int (i - j), H, I.tok _, ⟨_, rfl⟩, q⟩

/-- what is between an instance and its method: the tree of a method call -/
theorem methcall_of {pl : Sem Bool} {m : Str} {apos : Pos} {args : List Expr} {pins : List (Addr × Obj)} {s : Shared} {σ : St} {H : Hp} {Q : Value → Shared → Prop} {te : TE} (he : PE X e te) (I : Inv X pins σ H s)
    (h : te σ H fun x H1 => ∃ a C dx fs g, x = .ref a ∧ H1 a = some (.ins C dx fs) ∧ Cls X.K C ∧ Meth X.K C m g ∧ fs.lookup m = none ∧
      ∀ s1, Inv X pins σ H1 s1 → wpAny (model X.prog X.w) X.A (callWith pos (.ref g) [.ref a] (backTo pos (starEach args X.env)) (backToKw pos (keywordEach [] X.env))) Q X.xe s1)
    (ht : eval (.Call (.Attribute e m apos) args [] pos) X.env = (do
      let ov ← eval e X.env
      standAt apos.atName
      let (f, first) ← holding [ov] (getMethod ov m pl)
      callWith pos f first (backTo pos (starEach args X.env)) (backToKw pos (keywordEach [] X.env)))) :
    wpAny (model X.prog X.w) X.A (eval (.Call (.Attribute e m apos) args [] pos) X.env) Q X.xe s := by
  refine PySem.W.methodCall_KW (pl := pl) (thn (he pins s σ H _ I h) fun u s1 ⟨x, H1, I1, rx, a, C, dx, fs, g, ex, ea, c, k, l, q⟩ => ?_) ht
  subst ex
  obtain rfl : u = Value.ref a := rx
  exact getmeth_ok I1 ea c k l (q s1 I1)
end

/-! ### isinstance -/
section
variable {X : Cx} {pins : List (Addr × Obj)} {σ : St} {H : Hp} {s : Shared} {A : Around} {E : Value → Shared → Prop} {Q : Value → Shared → Prop} {c : Value} {b : Bool}
/-- the type of a value, as the fragment's deciders take it; for an instance its class -/
inductive TyOf (K : PySem.W.Frag) (H : Hp) : V → Value → Prop where
  | non : TyOf K H .non (.type "NoneType")
  | bl (x : Bool) : TyOf K H (.bl x) (.type "bool")
  | int (i : Int) : TyOf K H (.int i) (.type "int")
  | str (x : Str) : TyOf K H (.str x) (.type "str")
  | flt (x : UInt64) : TyOf K H (.flt x) (.type "float")
  | lst {a : Addr} {xs : List V} (e : H a = some (.lst xs)) : TyOf K H (.ref a) (.type "list")
  | frz {a : Addr} {o : Obj} {xs : List V} (e : H a = some (.frz o (.lst xs))) : TyOf K H (.ref a) (.type "list")
  | tup {a : Addr} {xs : List V} (e : H a = some (.tup xs)) : TyOf K H (.ref a) (.type "tuple")
  | dK {a : Addr} {kvs : List (Key × V)} (e : H a = some (.dK kvs)) : TyOf K H (.ref a) (.type "dict")
  | dT {a : Addr} {kvs : List (List Key × V)} (e : H a = some (.dT kvs)) : TyOf K H (.ref a) (.type "dict")
  | ins {a C dx : Addr} {fs : List (Str × V)} (e : H a = some (.ins C dx fs)) (cl : Cls K C) (ha : PySem.W.findIn K (.ref C) "__class__" = some (some (.builtin "object.__class__")))
      (hn : PySem.W.specialIn K (.builtin "object.__class__") "__get__" = some (some (.builtin "getset_descriptor.__get__"))) (htk : PySem.W.takesIn K (.builtin "object.__class__") = some true)
      (hm : PySem.W.mroIn K C (.type "object") = some true) : TyOf K H (.ref a) (.ref C)
/-- isinstance(x, c) for one class c, a built-in or an own one: kitOne's answer -/
theorem isinst_ok {x : V} {u t : Value} (I : Inv X pins σ H s) (rx : RelV x u) (ty : TyOf X.K H x t) (e : PySem.W.kitOne X.K t c = some b) (h : ∀ tk, Q (.bool b) { s with toks := tk }) :
    wpAny (model X.prog X.w) A (call (.builtin "isinstance") [u, c]) Q E s := by
  cases ty with
  | non => cases (show u = Value.none from rx); exact PySem.W.kia_one PySem.W.kitx_none I.kIn True.intro e (fun z => nomatch z) h
  | bl y => cases (show u = Value.bool y from rx); exact PySem.W.kia_one PySem.W.kitx_bool I.kIn True.intro e (fun z => nomatch z) h
  | int i => obtain ⟨t, q⟩ := (show ∃ t, u = Value.int i t from rx); cases q; exact PySem.W.kia_one PySem.W.kitx_int I.kIn True.intro e (fun z => nomatch z) h
  | str y => obtain ⟨t, q⟩ := (show ∃ t, u = Value.str y t from rx); cases q; exact PySem.W.kia_one PySem.W.kitx_str I.kIn True.intro e (fun z => nomatch z) h
  | flt y => obtain ⟨t, q⟩ := (show ∃ t, u = Value.float y t from rx); cases q; exact PySem.W.kia_one PySem.W.kitx_float I.kIn True.intro e (fun z => nomatch z) h
  | @lst a xs ea =>
    cases (show u = Value.ref a from rx)
    obtain ⟨_, _, n, _, h1⟩ := (show ObjOk X.prog X.w H s.heap a (.lst xs) from I.hok a _ ea)
    exact PySem.W.kia_one PySem.W.kitx_list I.kIn ⟨_, h1, rfl⟩ e (fun z => nomatch z) h
  | @frz a ob xs ea =>
    cases (show u = Value.ref a from rx)
    obtain ⟨_, _, _, n, _, h1⟩ := (show ObjOk X.prog X.w H s.heap a (.frz ob (.lst xs)) from I.hok a _ ea)
    exact PySem.W.kia_one PySem.W.kitx_list I.kIn ⟨_, h1, rfl⟩ e (fun z => nomatch z) h
  | @tup a xs ea =>
    cases (show u = Value.ref a from rx)
    obtain ⟨_, _, _, p⟩ := (show ObjOk X.prog X.w H s.heap a (.tup xs) from I.hok a _ ea)
    obtain ⟨⟨o, h1, h2, _⟩, _⟩ := p
    exact PySem.W.kia_one PySem.W.kitx_tuple I.kIn ⟨o, h1, h2⟩ e (fun z => nomatch z) h
  | @dK a kvs ea =>
    cases (show u = Value.ref a from rx)
    obtain ⟨_, _, vs, _, p⟩ := (show ObjOk X.prog X.w H s.heap a (.dK kvs) from I.hok a _ ea)
    obtain ⟨o, es, ep, h1, h2, _⟩ := p
    exact PySem.W.kia_one PySem.W.kitx_dict I.kIn ⟨o, h1, h2.1⟩ e (fun z => nomatch z) h
  | @dT a kvs ea =>
    cases (show u = Value.ref a from rx)
    obtain ⟨_, _, xs, _, o, es, ep, h1, h2, _⟩ := (show ObjOk X.prog X.w H s.heap a (.dT kvs) from I.hok a _ ea)
    exact PySem.W.kia_one PySem.W.kitx_dict I.kIn ⟨o, h1, h2.1⟩ e (fun z => nomatch z) h
  | @ins a C dx fs ea cl ha hn htk hm =>
    cases (show u = Value.ref a from rx)
    obtain ⟨mA, O, _⟩ := ins_get I.hok ea
    obtain ⟨od, J, _⟩ := O.look
    exact PySem.W.kia_one (PySem.W.kitx_own (cl.get _) cl.hd ha hn htk hm) I.kIn J e (fun z => nomatch z) h
end
end L2

namespace L2
open PySem PySem.Spec PyProof.Rows

/-! ### room -/
structure Room (k : Nat) (A : Around) : Prop where
  hd : A.handled = none
  dp : A.depth + 3 * k + 5 < recursionLimit
  un : A.units + 16 * k + 200 < cLine
theorem Room.mono {j k : Nat} {A : Around} (r : Room k A) (h : j ≤ k) : Room j A := ⟨r.hd, by have := r.dp; omega, by have := r.un; omega⟩
theorem Room.deeper {k : Nat} {A : Around} (r : Room (k + 1) A) (env : Env) : Room k (A.deeper env) :=
  ⟨r.hd, by have := r.dp; show A.depth + 1 + 3 * k + 5 < _; omega, by have := r.un; show A.units + 3 + 16 * k + 200 < _; omega⟩
theorem Room.in1 {k : Nat} {A : Around} (r : Room (k + 1) A) : Room k A.in1 :=
  ⟨r.hd, by have := r.dp; show A.depth + 3 * k + 5 < _; omega, by have := r.un; show A.units + 1 + 16 * k + 200 < _; omega⟩
theorem make_depth {A : Around} {C : Addr} {us : List Value} {kw : List (Str × Value)} : (A.under (.builtin "type.__call__" ⟨.ref C :: us, kw⟩)).depth = A.depth + 1 := by
  first | rfl | simp [Around.under, Code.weight, Code.isCreation, Code.isGuard, Code.isCaller, Code.frames, Code.isFrame, guardIds]
theorem make_units {A : Around} {C : Addr} {us : List Value} {kw : List (Str × Value)} : (A.under (.builtin "type.__call__" ⟨.ref C :: us, kw⟩)).units = A.units + 1 := by
  first | rfl | simp [Around.under, Code.cUnits, Code.frames, Code.isFrame]
theorem Room.make {k : Nat} {A : Around} (r : Room (k + 1) A) (C : Addr) (us : List Value) (kw : List (Str × Value)) : Room k (A.under (.builtin "type.__call__" ⟨.ref C :: us, kw⟩)) :=
  ⟨r.hd, by have := r.dp; rw [make_depth]; omega, by have := r.un; rw [make_units]; omega⟩
theorem Room.depth {k : Nat} {A : Around} (r : Room k A) : A.depth < recursionLimit := by have := r.dp; omega
theorem Room.units {k : Nat} {A : Around} (r : Room k A) : A.units + 64 < cLine := by have := r.un; omega
theorem Room.units0 {k : Nat} {A : Around} (r : Room k A) : A.units < cLine := by have := r.un; omega

/-! ### argument lists and displays -/
def tNil : TA := fun _ H Q => Q [] H
def tCons (ta : TE) (tr : TA) : TA := fun σ H Q => ta σ H fun x H1 => tr σ H1 fun xs H2 => Q (x :: xs) H2
section
variable {X : Cx} {e : Expr} {es : List Expr} {te : TE} {t : TA} {pos : Pos}
theorem pa_nil : PA X [] tNil := fun _ _ _ _ H Q I h => Calls.spliced_nil ⟨[], H, I, .nil, h⟩
theorem pa_cons (ha : PE X e te) (hr : PA X es t) (hs : starEach (e :: es) X.env = (false, eval e X.env) :: starEach es X.env := by rfl) : PA X (e :: es) (tCons te t) := by
  intro pos pins s σ H Q I h
  rw [hs]
  show wpAny _ _ (spliced ((false, eval e X.env) :: backTo pos (starEach es X.env))) _ _ s
  refine Calls.spliced_cons (thn (ha pins s σ H _ I h) fun u s1 ⟨x, H1, I1, r1, q1⟩ => ?_)
  exact thn (hr pos pins s1 σ H1 _ I1 q1) fun us s2 ⟨xs, H2, I2, r2, q2⟩ => ⟨x :: xs, H2, I2, .cons r1 r2, q2⟩

/-- a tuple, a list of written items -/
def tTup (t : TA) : TE := fun σ H Q => t σ H fun xs H1 => xs.length ≤ sizeLine ∧ ∀ p, H1 p = none → Q (.ref p) (upd H1 p (.tup xs))
def tLst (t : TA) : TE := fun σ H Q => t σ H fun xs H1 => xs.length ≤ sizeLine ∧ ∀ p, H1 p = none → Q (.ref p) (upd H1 p (.lst xs))
theorem pe_tup {x1} (h : PA X es t) : PE X (.Tuple es x1 pos) (tTup t) := by
  intro pins s σ H Q I hq
  refine wpAny_Tuple_spliced (thn (h pos pins s σ H _ I hq) fun us s1 ⟨xs, H1, I1, r, z, q⟩ => ⟨by rw [← r.length]; exact z, ?_⟩)
  have hf : H1 s1.heap.objs.size = none := I1.hok.fresh (Nat.le_refl _)
  refine ⟨.ref s1.heap.objs.size, upd H1 s1.heap.objs.size (.tup xs), I1.laid (t' := s1.toks) (fun b u e => Heap.get?_push_of_some _ e) (Nat.le_refl _) ?_, rfl, q _ hf⟩
  exact ⟨z, us, r, TupO.new _ _⟩
theorem pe_lst (h : PA X es t) : PE X (.List es pos) (tLst t) := by
  intro pins s σ H Q I hq
  refine wpAny_List_spliced (thn (h pos pins s σ H _ I hq) fun us s1 ⟨xs, H1, I1, r, z, q⟩ => ⟨by rw [← r.length]; exact z, ?_⟩)
  have hf : H1 s1.heap.objs.size = none := I1.hok.fresh (Nat.le_refl _)
  refine ⟨.ref s1.heap.objs.size, upd H1 s1.heap.objs.size (.lst xs), I1.laid (t' := s1.toks) (fun b u e => Heap.get?_push_of_some _ e) (Nat.le_refl _) ?_, rfl, q _ hf⟩
  exact ⟨z, us, 0, r, Heap.get?_push_size _ rfl⟩
end

/-! ### what a def promises -/
/-- a def's promise: the bound arguments in the parameters' order, the heap, the wanted end, the wanted exception -/
abbrev Sp := List V → Hp → VK → XK → Prop
/-- how an exception lies behind a call (file 08 gives it): the callers' frames, abstract heap and state ahead of the call, the wish, the exception, the state -/
abbrev CXT := List Env → Hp → Shared → XK → Value → Shared → Prop

/-- the state at a call -/
structure Env0 (P : Program) (w : World) (K : PySem.W.Frag) (mg : Str → Option Value) (base : Heap) (A : Around) (outer : List Env) (s : Shared) (H : Hp) : Prop where
  frames : A.frames = some outer
  mod : Mod K mg base
  bs : ∀ b o, base.get? b = some o → s.heap.get? b = some o ∧ H b = none
  bsz : base.objs.size ≤ s.heap.objs.size
  funs : s.heap.FunFrames base outer
  frf : ∀ b ∈ frs outer, H b = none
  hok : HOk P w H s.heap
  bare : AllBare s.gens
/-- a call's end -/
def CE (outer : List Env) (P : Program) (w : World) (H : Hp) (s : Shared) (Q : VK) (u : Value) (s' : Shared) : Prop :=
  ∃ v H', s'.os = s.os ∧ AllBare s'.gens ∧ Un (frs outer) [] H H' s.heap s'.heap ∧ HOk P w H' s'.heap ∧ RelV v u ∧ Q v H'
def CR (CX : CXT) (outer : List Env) (P : Program) (w : World) (H : Hp) (s : Shared) (Q : VK) (E : XK) (r : Result) (s' : Shared) : Prop :=
  match r with
  | .ok (.ret u) => CE outer P w H s Q u s'
  | .ok _ => False
  | .error e => CX outer H s E e s'
structure FnOk (P : Program) (w : World) (K : PySem.W.Frag) (mg : Str → Option Value) (base : Heap) (CX : CXT) (k : Nat) (f : Addr) (fd : FuncData) (ps : List Str) (sp : Sp) : Prop where
  len : ∀ vs H Q E, sp vs H Q E → vs.length = ps.length
  run : ∀ (A : Around) (outer : List Env) (s : Shared) (H : Hp) (args : Args) (us : List Value) (vs : List V) (Q : VK) (E : XK), Room k A → Env0 P w K mg base A outer s H → BindsTo s fd args (ps.zip us) → Vals vs us → sp vs H Q E →
    codeAny (model P w) A (.call (.ref f) args) (CR CX outer P w H s Q E) s
theorem FnOk.mono {P : Program} {w : World} {K : PySem.W.Frag} {mg : Str → Option Value} {base : Heap} {CX : CXT} {j k : Nat} {f : Addr} {fd : FuncData} {ps : List Str} {sp : Sp} (F : FnOk P w K mg base CX j f fd ps sp) (h : j ≤ k) :
    FnOk P w K mg base CX k f fd ps sp := ⟨F.len, fun A outer s H args us vs Q E hr => F.run A outer s H args us vs Q E (hr.mono h)⟩
/-- a weaker promise -/
theorem FnOk.imp {P : Program} {w : World} {K : PySem.W.Frag} {mg : Str → Option Value} {base : Heap} {CX : CXT} {k : Nat} {f : Addr} {fd : FuncData} {ps : List Str} {sp sp' : Sp} (F : FnOk P w K mg base CX k f fd ps sp)
    (h : ∀ vs H Q E, sp' vs H Q E → sp vs H Q E) : FnOk P w K mg base CX k f fd ps sp' :=
  ⟨fun vs H Q E q => F.len vs H Q E (h _ _ _ _ q), fun A outer s H args us vs Q E hr he hb hv hs => F.run A outer s H args us vs Q E hr he hb hv (h _ _ _ _ hs)⟩

theorem Env0.make {P : Program} {w : World} {K : PySem.W.Frag} {mg : Str → Option Value} {base : Heap} {A : Around} {outer : List Env} {s : Shared} {H : Hp} (e : Env0 P w K mg base A outer s H) (C : Addr) (us : List Value) (kw : List (Str × Value)) :
    Env0 P w K mg base (A.under (.builtin "type.__call__" ⟨.ref C :: us, kw⟩)) outer s H := ⟨by first | exact e.frames | (simpa [Around.under, Code.envs, Code.isFrame, pushEnvs] using e.frames), e.mod, e.bs, e.bsz, e.funs, e.frf, e.hok, e.bare⟩
theorem Env0.in1 {P : Program} {w : World} {K : PySem.W.Frag} {mg : Str → Option Value} {base : Heap} {A : Around} {outer : List Env} {s : Shared} {H : Hp} (e : Env0 P w K mg base A outer s H) :
    Env0 P w K mg base A.in1 outer s H := ⟨e.frames, e.mod, e.bs, e.bsz, e.funs, e.frf, e.hok, e.bare⟩

section
variable {X : Cx} {pins : List (Addr × Obj)} {σ : St} {H : Hp} {s s' : Shared}
/-- from a body: what a callee wants -/
theorem Inv.env0 (I : Inv X pins σ H s) : Env0 X.prog X.w X.K X.mg X.base X.A X.stack s H :=
  ⟨I.ok.frames, I.ok.mod, I.bs, Nat.le_trans I.ok.bsz I.sz, I.stack, I.stkFree, I.hok, I.bare⟩
/-- behind a call -/
theorem Inv.after {Q : VK} {u : Value} (I : Inv X pins σ H s) (h : CE X.stack X.prog X.w H s Q u s') : EP X pins σ Q u s' := by
  obtain ⟨v, H', os, bare, un, hok, r, q⟩ := h
  obtain ⟨hh, g, d, t, os'⟩ := s'
  obtain rfl : os' = s.os := os
  exact ⟨v, H', I.call (h' := hh) (g' := g) (d' := d) (t' := t) (ch := []) un hok bare (fun b z => absurd z (by simp)), r, q⟩
end

/-! ### calls -/
/-- f(..): the written arguments, then the defaults dvs; E: what is wanted of an exception -/
def tCall (sp : Sp) (dvs : List V) (E : XK) (t : TA) : TE := fun σ H Q => t σ H fun vs H1 => sp (vs ++ dvs) H1 Q E
/-- o.m(..) of an instance of the class at C -/
def tMeth (C : Addr) (m : Str) (sp : Sp) (dvs : List V) (E : XK) (ta : TE) (t : TA) : TE := fun σ H Q => ta σ H fun x H1 => ∃ a dx fs, x = .ref a ∧ H1 a = some (.ins C dx fs) ∧ fs.lookup m = none ∧
  t σ H1 fun vs H2 => sp (x :: (vs ++ dvs)) H2 Q E
/-- C(..): a new instance and its dict, then __init__ -/
def tMake (C : Addr) (sp : Sp) (dvs : List V) (E : XK) (t : TA) : TE := fun σ H Q => t σ H fun vs H1 => ∀ x dx, H1 x = none → H1 dx = none → dx ≠ x →
  sp (.ref x :: (vs ++ dvs)) (upd (upd H1 dx (.own x)) x (.ins C dx [])) (fun v H2 => v = .non ∧ Q (.ref x) H2) E

/-- how the parameters are bound: us the positional arguments, kw the keywords' values by name, ds the defaults that fill up -/
def Binds (K : PySem.W.Frag) (fd : FuncData) (ps : List Str) (ds : List Value) : Prop :=
  ∀ (s : Shared) (us : List Value), K.In s.heap → (us ++ ds).length = ps.length → BindsTo s fd ⟨us, []⟩ (ps.zip (us ++ ds))
/-- every parameter is given -/
theorem Binds.all {K : PySem.W.Frag} {fd : FuncData} {ps : List Str} (h : ∀ us : List Value, us.length = ps.length → bindArgs fd ⟨us, []⟩ = pure (ps.zip us)) : Binds K fd ps [] := fun s us _ hl => by
  rw [List.append_nil] at hl ⊢
  exact .of_eq (h us hl)

/-- an exception of a callee reaches what this body wants of exceptions -/
def Passes (CX : CXT) (X : Cx) (E : XK) : Prop := ∀ (pins : List (Addr × Obj)) (σ : St) (H : Hp) (s : Shared) (e : Value) (s' : Shared), Inv X pins σ H s → CX X.stack H s E e s' → X.xe e s'

section
variable {X : Cx} {CX : CXT} {k : Nat} {f C : Addr} {fd : FuncData} {ps : List Str} {sp : Sp} {dvs : List V} {ds : List Value} {E : XK} {x m : Str} {p pos apos : Pos} {e o : Expr} {es : List Expr} {ta : TE} {t : TA}

/-- the callee runs -/
theorem run_fn {pins : List (Addr × Obj)} {σ : St} {H : Hp} {s : Shared} {Q : VK} {us : List Value} {vs : List V} (F : FnOk X.prog X.w X.K X.mg X.base CX k f fd ps sp) (hr : Room k X.A) (hb : Binds X.K fd ps ds) (hd : Vals dvs ds) (hx : Passes CX X E)
    (I : Inv X pins σ H s) (r : Vals vs us) (h : sp (vs ++ dvs) H Q E) : wpAny (model X.prog X.w) X.A (call (.ref f) us) (EP X pins σ Q) X.xe s := by
  have r2 : Vals (vs ++ dvs) (us ++ ds) := r.append hd
  have hl : (us ++ ds).length = ps.length := by rw [← r2.length]; exact F.len _ _ _ _ h
  refine wpAny_call (codeAny_mono (F.run X.A X.stack s H ⟨us, []⟩ (us ++ ds) (vs ++ dvs) Q E hr I.env0 (hb s us I.kIn hl) r2 h) fun r s' hq => ?_)
  cases r with
  | error e => exact hx pins σ H s e s' I hq
  | ok fl =>
    cases fl with
    | ret u => exact I.after hq
    | next => exact False.elim hq
    | brk => exact False.elim hq
    | cont => exact False.elim hq

theorem pe_call (F : FnOk X.prog X.w X.K X.mg X.base CX k f fd ps sp) (hr : Room k X.A) (hg : Gl X x) (hm : X.mg x = some (.ref f)) (hk : PySem.W.keepIn X.K (.ref f) = true) (hb : Binds X.K fd ps ds) (hd : Vals dvs ds) (hx : Passes CX X E)
    (ha : PA X (e :: es) t) (hdb : (x == ("__debug__" : Str)) = false := by decide) (he : starEach (e :: es) X.env = (false, eval e X.env) :: starEach es X.env := by rfl) (hpl : (backTo pos (starEach es X.env)).any (·.1) = false := by rfl) :
    PE X (.Call (.Name x p) (e :: es) [] pos) (tCall sp dvs E t) := by
  intro pins s σ H Q I h
  refine wpAny_Call_Name_kw (ld_glob I hg hm ?_ hdb)
  refine PySem.W.callWith_K (h₀ := X.base) I.ok.mod.kin hk (thn (ha pos pins s σ H _ I h) fun us s1 ⟨vs, H1, I1, r, q⟩ => ⟨I1.kIn, ?_⟩) he hpl
  exact run_fn F hr hb hd hx I1 r q
theorem pe_call0 (F : FnOk X.prog X.w X.K X.mg X.base CX k f fd ps sp) (hr : Room k X.A) (hg : Gl X x) (hm : X.mg x = some (.ref f)) (hk : PySem.W.keepIn X.K (.ref f) = true) (hb : Binds X.K fd ps ds) (hd : Vals dvs ds) (hx : Passes CX X E)
    (hdb : (x == ("__debug__" : Str)) = false := by decide) : PE X (.Call (.Name x p) [] [] pos) (tCall sp dvs E tNil) := by
  intro pins s σ H Q I h
  refine wpAny_Call_Name_kw (ld_glob I hg hm ?_ hdb)
  exact PySem.W.callWith_K0 I.kIn hk (run_fn (us := []) F hr hb hd hx I .nil h)

/-- o.m(e, ..) -/
theorem pe_meth {pl : Sem Bool} (he : PE X o ta) (c : Cls X.K C) (hm : Meth X.K C m f) (F : FnOk X.prog X.w X.K X.mg X.base CX k f fd ps sp) (hr : Room k X.A) (hb : Binds X.K fd ps ds) (hd : Vals dvs ds) (hx : Passes CX X E) (ha : PA X (e :: es) t)
    (hst : starEach (e :: es) X.env = (false, eval e X.env) :: starEach es X.env := by rfl) (hpl : (backTo pos (starEach es X.env)).any (·.1) = false := by rfl)
    (ht : eval (.Call (.Attribute o m apos) (e :: es) [] pos) X.env = (do
      let ov ← eval o X.env
      standAt apos.atName
      let (f, first) ← holding [ov] (getMethod ov m pl)
      callWith pos f first (backTo pos (starEach (e :: es) X.env)) (backToKw pos (keywordEach [] X.env))) := by rfl) :
    PE X (.Call (.Attribute o m apos) (e :: es) [] pos) (tMeth C m sp dvs E ta t) := by
  intro pins s σ H Q I h
  refine PySem.W.methodCall_KW (pl := pl) (thn (he pins s σ H _ I h) fun u s1 ⟨x, H1, I1, rx, a, dx, fs, ex, ea, l, q⟩ => ?_) ht
  subst ex
  obtain rfl : u = Value.ref a := rx
  refine getmeth_ok I1 ea c hm l ?_
  refine PySem.W.callWith_K (first := [.ref a]) (h₀ := X.base) I.ok.mod.kin hm.kp (thn (ha pos pins s1 σ H1 _ I1 q) fun us s2 ⟨vs, H2, I2, r, q2⟩ => ⟨I2.kIn, ?_⟩) hst hpl
  exact run_fn (us := .ref a :: us) (vs := .ref a :: vs) F hr hb hd hx I2 (.cons rfl r) q2
/-- o.m() -/
theorem pe_meth0 {pl : Sem Bool} (he : PE X o ta) (c : Cls X.K C) (hm : Meth X.K C m f) (F : FnOk X.prog X.w X.K X.mg X.base CX k f fd ps sp) (hr : Room k X.A) (hb : Binds X.K fd ps ds) (hd : Vals dvs ds) (hx : Passes CX X E)
    (ht : eval (.Call (.Attribute o m apos) [] [] pos) X.env = (do
      let ov ← eval o X.env
      standAt apos.atName
      let (f, first) ← holding [ov] (getMethod ov m pl)
      callWith pos f first (backTo pos (starEach [] X.env)) (backToKw pos (keywordEach [] X.env))) := by rfl) :
    PE X (.Call (.Attribute o m apos) [] [] pos) (tMeth C m sp dvs E ta tNil) := by
  intro pins s σ H Q I h
  refine PySem.W.methodCall_KW (pl := pl) (thn (he pins s σ H _ I h) fun u s1 ⟨x, H1, I1, rx, a, dx, fs, ex, ea, l, q⟩ => ?_) ht
  subst ex
  obtain rfl : u = Value.ref a := rx
  refine getmeth_ok I1 ea c hm l ?_
  exact PySem.W.callWith_K0 (first := [.ref a]) I1.kIn hm.kp (run_fn (us := [.ref a]) (vs := [.ref a]) F hr hb hd hx I1 (.cons rfl .nil) q)

/-- what a class must have to be made -/
structure Mk (K : PySem.W.Frag) (C f : Addr) : Prop where
  makes : PySem.W.makesIn K C = true
  init : PySem.W.findIn K (.ref C) "__init__" = some (some (.ref f))
  fn : PySem.W.isFn K (.ref f) = true
  kp : PySem.W.keepIn K (.ref C) = true

theorem run_make {pins : List (Addr × Obj)} {σ : St} {H : Hp} {s : Shared} {Q : VK} {us : List Value} {vs : List V} (M : Mk X.K C f) (F : FnOk X.prog X.w X.K X.mg X.base CX k f fd ps sp) (hr : Room (k + 1) X.A) (hb : Binds X.K fd ps ds) (hd : Vals dvs ds)
    (hx : Passes CX X E) (I : Inv X pins σ H s) (r : Vals vs us)
    (h : ∀ x dx, H x = none → H dx = none → dx ≠ x → sp (.ref x :: (vs ++ dvs)) (upd (upd H dx (.own x)) x (.ins C dx [])) (fun v H2 => v = .non ∧ Q (.ref x) H2) E) :
    wpAny (model X.prog X.w) X.A (call (.ref C) us) (EP X pins σ Q) X.xe s := by
  have hq := h (s.heap.objs.size + 1) s.heap.objs.size (I.hok.fresh (Nat.le_succ _)) (I.hok.fresh (Nat.le_refl _)) (Nat.ne_of_lt (Nat.lt_succ_self _))
  have I2 := Inv.made (C := C) I
  have r2 : Vals (V.ref (s.heap.objs.size + 1) :: (vs ++ dvs)) (Value.ref (s.heap.objs.size + 1) :: (us ++ ds)) := .cons rfl (r.append hd)
  have hl : (Value.ref (s.heap.objs.size + 1) :: us ++ ds).length = ps.length := by
    have e := r2.length
    rw [F.len _ _ _ _ hq] at e
    exact e.symm
  refine wpAny_call (make_map (f := f) I.kIn M.makes M.init (beq_iff_eq.mp M.fn) (codeAny_mono (F.run _ X.stack _ _ ⟨Value.ref (s.heap.objs.size + 1) :: us, []⟩ (Value.ref (s.heap.objs.size + 1) :: (us ++ ds)) _ _ E (hr.make C us [])
    (I2.env0.make C us []) (hb _ (Value.ref (s.heap.objs.size + 1) :: us) I2.kIn hl) r2 hq) fun r s' hq' => ?_))
  cases r with
  | error e => exact hx pins σ _ _ e s' I2 hq'
  | ok fl =>
    cases fl with
    | ret u =>
      obtain ⟨v, H', I3, rv, ev, q3⟩ := I2.after hq'
      subst ev
      exact ⟨rv, ⟨V.ref (s.heap.objs.size + 1), H', I3, rfl, q3⟩⟩
    | next => exact False.elim hq'
    | brk => exact False.elim hq'
    | cont => exact False.elim hq'
theorem pe_make (M : Mk X.K C f) (F : FnOk X.prog X.w X.K X.mg X.base CX k f fd ps sp) (hr : Room (k + 1) X.A) (hg : Gl X x) (hm : X.mg x = some (.ref C)) (hb : Binds X.K fd ps ds) (hd : Vals dvs ds) (hx : Passes CX X E)
    (ha : PA X (e :: es) t) (hdb : (x == ("__debug__" : Str)) = false := by decide) (he : starEach (e :: es) X.env = (false, eval e X.env) :: starEach es X.env := by rfl) (hpl : (backTo pos (starEach es X.env)).any (·.1) = false := by rfl) :
    PE X (.Call (.Name x p) (e :: es) [] pos) (tMake C sp dvs E t) := by
  intro pins s σ H Q I h
  refine wpAny_Call_Name_kw (ld_glob I hg hm ?_ hdb)
  refine PySem.W.callWith_K (h₀ := X.base) I.ok.mod.kin M.kp (thn (ha pos pins s σ H _ I h) fun us s1 ⟨vs, H1, I1, r, q⟩ => ⟨I1.kIn, ?_⟩) he hpl
  exact run_make M F hr hb hd hx I1 r q
theorem pe_make0 (M : Mk X.K C f) (F : FnOk X.prog X.w X.K X.mg X.base CX k f fd ps sp) (hr : Room (k + 1) X.A) (hg : Gl X x) (hm : X.mg x = some (.ref C)) (hb : Binds X.K fd ps ds) (hd : Vals dvs ds) (hx : Passes CX X E)
    (hdb : (x == ("__debug__" : Str)) = false := by decide) : PE X (.Call (.Name x p) [] [] pos) (tMake C sp dvs E tNil) := by
  intro pins s σ H Q I h
  refine wpAny_Call_Name_kw (ld_glob I hg hm ?_ hdb)
  exact PySem.W.callWith_K0 I.kIn M.kp (run_make (us := []) M F hr hb hd hx I .nil h)
end

/-! ### keywords -/
/-- the values of the keywords, from the left -/
def PK (X : Cx) (kws : List Keyword) (t : TA) : Prop :=
  ∀ (pos : Pos) (pins : List (Addr × Obj)) (s : Shared) (σ : St) (H : Hp) (Q : List V → Hp → Prop), Inv X pins σ H s → t σ H Q → wpAny (model X.prog X.w) X.A (evalAll ((backToKw pos (keywordEach kws X.env)).map (·.2))) (AP X pins σ Q) X.xe s
section
variable {X : Cx} {CX : CXT} {k : Nat} {f C : Addr} {fd : FuncData} {ps ks : List Str} {sp : Sp} {E : XK} {x m : Str} {p pos apos kpos : Pos} {e o : Expr} {es : List Expr} {kws : List Keyword} {te ta : TE} {t tk : TA} {nm : Option Str}
theorem pk_nil : PK X [] tNil := fun _ _ _ _ H Q I h => wpAny_evalAll_nil ⟨[], H, I, .nil, h⟩
theorem pk_cons (ha : PE X e te) (hr : PK X kws t) : PK X (⟨nm, e, kpos⟩ :: kws) (tCons te t) := by
  intro pos pins s σ H Q I h
  show wpAny _ _ (evalAll ((do let v ← eval e X.env; standAt pos; pure v) :: (backToKw pos (keywordEach kws X.env)).map (·.2))) _ _ s
  refine wpAny_evalAll_cons (wpAny_bind (thn (ha pins s σ H _ I h) fun u s1 ⟨x, H1, I1, r1, q1⟩ => wpAny_bind (wpAny_standAt (wpAny_pure ?_))))
  exact thn (hr pos pins s1 σ H1 _ I1 q1) fun us s2 ⟨xs, H2, I2, r2, q2⟩ => ⟨x :: xs, H2, I2, .cons r1 r2, q2⟩

/-- how a call with keywords binds: g puts the positional values us and the keywords' values ws (names ks) in the parameters' order, defaults among them -/
structure KBinds (K : PySem.W.Frag) (fd : FuncData) (ps ks : List Str) (g : List Value → List Value → List Value) (gV : List V → List V → List V) : Prop where
  to : ∀ (s : Shared) (us ws : List Value), K.In s.heap → (g us ws).length = ps.length → BindsTo s fd ⟨us, ks.zip ws⟩ (ps.zip (g us ws))
  rel : ∀ {vs : List V} {us : List Value} {zs : List V} {ws : List Value}, Vals vs us → Vals zs ws → Vals (gV vs zs) (g us ws)
def tCallK (sp : Sp) (gV : List V → List V → List V) (E : XK) (t tk : TA) : TE := fun σ H Q => t σ H fun vs H1 => tk σ H1 fun zs H2 => sp (gV vs zs) H2 Q E
variable {g : List Value → List Value → List Value} {gV : List V → List V → List V}
theorem run_fnk {pins : List (Addr × Obj)} {σ : St} {H : Hp} {s : Shared} {Q : VK} {us ws : List Value} {vs zs : List V} (F : FnOk X.prog X.w X.K X.mg X.base CX k f fd ps sp) (hr : Room k X.A) (hb : KBinds X.K fd ps ks g gV) (hx : Passes CX X E)
    (I : Inv X pins σ H s) (r : Vals vs us) (rz : Vals zs ws) (h : sp (gV vs zs) H Q E) : wpAny (model X.prog X.w) X.A (call (.ref f) us (ks.zip ws)) (EP X pins σ Q) X.xe s := by
  have r2 := hb.rel r rz
  have hl : (g us ws).length = ps.length := by rw [← r2.length]; exact F.len _ _ _ _ h
  refine wpAny_call (codeAny_mono (F.run X.A X.stack s H ⟨us, ks.zip ws⟩ (g us ws) (gV vs zs) Q E hr I.env0 (hb.to s us ws I.kIn hl) r2 h) fun r s' hq => ?_)
  cases r with
  | error e => exact hx pins σ H s e s' I hq
  | ok fl =>
    cases fl with
    | ret u => exact I.after hq
    | next => exact False.elim hq
    | brk => exact False.elim hq
    | cont => exact False.elim hq
/-- f(e, .., k = v, ..) -/
theorem pe_callK (F : FnOk X.prog X.w X.K X.mg X.base CX k f fd ps sp) (hr : Room k X.A) (hg : Gl X x) (hm : X.mg x = some (.ref f)) (hk : PySem.W.keepIn X.K (.ref f) = true) (hb : KBinds X.K fd ps ks g gV) (hx : Passes CX X E)
    (ha : PA X (e :: es) t) (hkw : PK X kws tk) (hall : (backToKw pos (keywordEach kws X.env)).all (·.1.isSome) = true := by rfl) (hks : (backToKw pos (keywordEach kws X.env)).filterMap (·.1) = ks := by rfl)
    (hdb : (x == ("__debug__" : Str)) = false := by decide) (he : starEach (e :: es) X.env = (false, eval e X.env) :: starEach es X.env := by rfl)
    (hpl : ((backTo pos (starEach (e :: es) X.env)).any (·.1) || (backToKw pos (keywordEach kws X.env)).any (·.1.isNone)) = false := by rfl) :
    PE X (.Call (.Name x p) (e :: es) kws pos) (tCallK sp gV E t tk) := by
  intro pins s σ H Q I h
  refine wpAny_Call_Name_kw (ld_glob I hg hm ?_ hdb)
  refine PySem.W.callWith_KW (h₀ := X.base) I.ok.mod.kin hk hall (thn (ha pos pins s σ H _ I h) fun us s1 ⟨vs, H1, I1, r, q⟩ => ?_) hpl he
  refine thn (hkw pos pins s1 σ H1 _ I1 q) fun ws s2 ⟨zs, H2, I2, rz, q2⟩ => ⟨I2.kIn, ?_⟩
  rw [hks]
  exact run_fnk F hr hb hx I2 r rz q2
end

/-! ### a def's body keeps its promise -/
/-- names: the parameters first -/
structure FnScope (N P : List Str) (sc : Scope) : Prop where
  kind : sc.kind = .function
  co : sc.isCoroutine = false
  gen : sc.isGenerator = false
  nd : N.Nodup
  pre : N.take P.length = P
  par : ∀ x ∈ P, sc.names.lookup x = some .local ∨ sc.names.lookup x = some .cell
  nofree : ∀ y ∈ sc.names, y.2 ≠ .free

theorem bindL_out {kindOf : Str → Option NameKind} {x : Str} : ∀ {binds : List (Str × Value)} {m : Str → Option Value}, (∀ v, (x, v) ∉ binds) → bindL kindOf binds m x = m x
  | [], _, _ => rfl
  | (n, v) :: r, m, h => by
    unfold bindL
    rw [bindL_out fun w hw => h w (List.mem_cons_of_mem _ hw)]
    split
    · have : x ≠ n := by rintro rfl; exact h v List.mem_cons_self
      simp [this]
    · rfl
theorem bindC_out {kindOf : Str → Option NameKind} {x : Str} : ∀ {binds : List (Str × Value)} {m : Str → Option Value}, (∀ v, (x, v) ∉ binds) → bindC kindOf binds m x = m x
  | [], _, _ => rfl
  | (n, v) :: r, m, h => by
    unfold bindC
    rw [bindC_out fun w hw => h w (List.mem_cons_of_mem _ hw)]
    split
    · rfl
    · have : x ≠ n := by rintro rfl; exact h v List.mem_cons_self
      simp [this]
theorem bindL_get {kindOf : Str → Option NameKind} {x : Str} {v : Value} : ∀ {P : List Str} {vs : List Value} {i : Nat} {m : Str → Option Value}, P.Nodup → P[i]? = some x → vs[i]? = some v → kindOf x = some .local →
    bindL kindOf (P.zip vs) m x = some v
  | [], _, _, _, _, h, _, _ => by simp at h
  | _ :: _, [], _, _, _, _, h, _ => by simp at h
  | p :: P, w :: vs, 0, m, nd, h1, h2, hk => by
    simp at h1 h2; subst h1; subst h2
    show bindL kindOf ((p, w) :: P.zip vs) m p = _
    unfold bindL
    rw [bindL_out fun v hv => (List.nodup_cons.mp nd).1 (List.of_mem_zip hv).1, if_pos hk]
    simp
  | p :: P, w :: vs, i + 1, m, nd, h1, h2, hk => by
    show bindL kindOf ((p, w) :: P.zip vs) m x = _
    unfold bindL
    exact bindL_get (i := i) (List.nodup_cons.mp nd).2 (by simpa using h1) (by simpa using h2) hk
theorem bindC_get {kindOf : Str → Option NameKind} {x : Str} {v : Value} : ∀ {P : List Str} {vs : List Value} {i : Nat} {m : Str → Option Value}, P.Nodup → P[i]? = some x → vs[i]? = some v → kindOf x ≠ some .local →
    bindC kindOf (P.zip vs) m x = some v
  | [], _, _, _, _, h, _, _ => by simp at h
  | _ :: _, [], _, _, _, _, h, _ => by simp at h
  | p :: P, w :: vs, 0, m, nd, h1, h2, hk => by
    simp at h1 h2; subst h1; subst h2
    show bindC kindOf ((p, w) :: P.zip vs) m p = _
    unfold bindC
    rw [bindC_out fun v hv => (List.nodup_cons.mp nd).1 (List.of_mem_zip hv).1, if_neg hk]
    simp
  | p :: P, w :: vs, i + 1, m, nd, h1, h2, hk => by
    show bindC kindOf ((p, w) :: P.zip vs) m x = _
    unfold bindC
    exact bindC_get (i := i) (List.nodup_cons.mp nd).2 (by simpa using h1) (by simpa using h2) hk

/-- the names' values at the entry -/
def start (N : List Str) (vs : List V) : St := vs.map some ++ List.replicate (N.length - vs.length) none

/-- the context of a def's body, at its entry; an exception leaves the frame, then lies as CX says -/
def cxOf (CX : CXT) (P : Program) (w : World) (K : PySem.W.Frag) (mg : Str → Option Value) (base : Heap) (N : List Str) (qual : Str) (scope : Scope) (f : Addr) (cd : Value) (A : Around) (outer : List Env) (s : Shared) (H : Hp) (E : XK) : Cx where
  prog := P
  w := w
  K := K
  mg := mg
  base := base
  A := A.deeper (envOfC qual scope s.heap.objs.size f cd)
  N := N
  s₀ := s
  H₀ := H
  env := envOfC qual scope s.heap.objs.size f cd
  outer := outer
  stack := envOfC qual scope s.heap.objs.size f cd :: outer
  ex := []
  calm := true
  fn := fun _ => true
  pn := []
  xe := fun e s' => wpAny (model P w) (A.deeper (envOfC qual scope s.heap.objs.size f cd)) (leaving (envOfC qual scope s.heap.objs.size f cd) e) (fun _ s'' => CX outer H s E e s'') (fun e' s'' => CX outer H s E e' s'') s'

theorem cell_has {sc : Scope} {n : Nat} {x : Str} (h : sc.names.lookup x = some .cell) : ∃ c, (cellsFrom n sc.names []).lookup x = some c := by
  have q := PySem.W.cellsFrom_some sc.names n [] (.inl h)
  exact Option.isSome_iff_exists.mp q

theorem inv_start {CX : CXT} {P : Program} {w : World} {K : PySem.W.Frag} {mg : Str → Option Value} {base : Heap} {N ps : List Str} {qual : Str} {scope : Scope} {f : Addr} {cd : Value} {A : Around} {outer : List Env} {s s1 : Shared} {H : Hp} {E : XK} {us : List Value} {vs : List V}
    (S : FnScope N ps scope) (hd : A.handled = none) (e0 : Env0 P w K mg base A outer s H) (hl : vs.length = ps.length) (r : Vals vs us)
    (x : InCallC s s.heap.objs.size (bindL (envOfC qual scope s.heap.objs.size f cd).kindOf (ps.zip us) fun _ => none) (cellsFrom (s.heap.objs.size + 1) scope.names []) (bindC (envOfC qual scope s.heap.objs.size f cd).kindOf (ps.zip us) fun _ => none) s1) :
    Inv (cxOf CX P w K mg base N qual scope f cd A outer s H E) [] (start N vs) H s1 := by
  have hpl : ps.length ≤ N.length := by have := congrArg List.length S.pre; rw [List.length_take] at this; omega
  obtain ⟨h1, tk, rfl, hk⟩ := x.done
  have noA : ∀ b : Addr, b ∉ (cxOf CX P w K mg base N qual scope f cd A outer s H E).ex := fun b z => absurd (show b ∈ ([] : List Addr) from z) (by simp)
  refine ⟨⟨e0.mod, S.kind, rfl, rfl, Nat.le_refl _, fun y z c h1 h2 => ?_, fun y hy => ?_, fun y c _ h => ?_, fun _ => hd, Around.frames_deeper e0.frames, .inr ⟨rfl, rfl⟩, fun b z => absurd z (noA b), e0.bs, e0.bsz, fun b _ _ => noA b, fun b z => absurd z (noA b), e0.funs, e0.frf⟩,
    rfl, e0.bare, Un.kept hk, ⟨_, x.toInCall.ns, fun i y v h1 h2 h3 => ?_⟩, fun y c h => ⟨_, x.cell y c h⟩, e0.hok.fresh (Nat.le_refl _), fun y c h => ?_, fun p hp => absurd (show p ∈ ([] : List (Addr × Obj)) from hp) (by simp), e0.hok.kept hk, ?_⟩
  · exact name_of_addr x.apart (PySem.mem_of_lookup h1) (PySem.mem_of_lookup h2)
  · have hy : scope.names.lookup y = some .cell ∨ scope.names.lookup y = some .free := hy
    rcases hy with hy | hy
    · exact cell_has hy
    · exact absurd rfl (S.nofree _ (PySem.mem_of_lookup hy))
  · exact Nat.le_of_lt (x.above y c (PySem.mem_of_lookup h))
  · have hi : i < vs.length := by
      unfold start at h2
      by_cases hi : i < vs.length
      · exact hi
      · rw [List.getElem?_append_right (by simpa using hi)] at h2
        rw [List.getElem?_replicate] at h2
        split at h2 <;> cases h2
    have ha : vs[i]? = some v := by
      unfold start at h2
      rw [List.getElem?_append_left (by simpa using hi), List.getElem?_map] at h2
      cases e : vs[i]? with
      | none => rw [e] at h2; cases h2
      | some a => rw [e] at h2; cases h2; rfl
    obtain ⟨u, hu, rv⟩ := r.get ha
    have hp : ps[i]? = some y := by
      rw [← S.pre, List.getElem?_take_of_lt (by omega)]; exact h1
    have ndP : ps.Nodup := by rw [← S.pre]; exact S.nd.sublist (List.take_sublist _ _)
    refine ⟨u, rv, ?_⟩
    rcases S.par y (List.mem_of_getElem? hp) with k | k
    · exact .inl ⟨k, bindL_get ndP hp hu k⟩
    · obtain ⟨c, e⟩ := cell_has (n := s.heap.objs.size + 1) k
      refine .inr ⟨.inl k, c, e, ?_⟩
      have q := x.cell y c e
      rw [bindC_get ndP hp hu (by show scope.names.lookup y ≠ _; rw [k]; decide)] at q
      exact q
  · exact e0.hok.fresh (Nat.le_of_lt (x.above y c (PySem.mem_of_lookup h)))
  · unfold start
    show _ = N.length
    rw [List.length_append, List.length_map, List.length_replicate]
    omega

/-- THE RULE: a def (or a method) of the text, by its body. The body's reading t is chosen for each entry; it is run at the parameters' values -/
theorem fn_of {CX : CXT} {P : Program} {w : World} {K : PySem.W.Frag} {mg : Str → Option Value} {base : Heap} {k : Nat} {f : Addr} {name qual : Str} {params : Arguments} {body : List Stmt} {scope : Scope} {dV kV doc pm cdv ct oc : Value} {an od : Option Addr}
    {osl : Array (Option Value)} {N ps : List Str} {sp : Sp} (lk : K.lookup f = some ⟨oc, od, .func (PySem.W.fnOf name qual params body scope dV kV doc pm an cdv ct), osl⟩) (hcd : PySem.W.codeIn K cdv qual = true) (S : FnScope N ps scope)
    (len : ∀ vs H Q E, sp vs H Q E → vs.length = ps.length)
    (hbody : ∀ (A : Around) (outer : List Env) (s : Shared) (H : Hp) (vs : List V) (Q : VK) (E : XK), Room k (A.deeper (envOfC qual scope s.heap.objs.size f cdv)) → sp vs H Q E →
      ∃ t, PSs (cxOf CX P w K mg base N qual scope f cdv A outer s H E) body t ∧ t { nx := fun _ H' => Q .non H', rt := Q } (start N vs) H) :
    FnOk P w K mg base CX (k + 1) f (PySem.W.fnOf name qual params body scope dV kV doc pm an cdv ct) ps sp := by
  refine ⟨len, fun A outer s H args us vs Q E hr e0 hb r hsp => ?_⟩
  have hl := len _ _ _ _ hsp
  have KX : K.In s.heap := e0.mod.kin.keeps fun b o e => (e0.bs b o e).1
  have lim : s.heap.NoLimit := e0.mod.nolimit.keeps fun b o e => (e0.bs b o e).1
  have hkind : ∀ y ∈ ps.zip us, scope.names.lookup y.1 = some .local ∨ (scope.names.lookup y.1 = some .cell ∧ ((cellsFrom (s.heap.objs.size + 1) scope.names []).lookup y.1).isSome = true) := fun ⟨n, v⟩ hy => by
    rcases S.par n (List.of_mem_zip hy).1 with q | q
    · exact .inl q
    · exact .inr ⟨q, PySem.W.cellsFrom_some _ _ _ (.inl q)⟩
  refine codeAny_call_function hr.depth (KX _ _ lk) rfl S.co S.gen rfl (PySem.W.codeRec_of KX hcd) (hb _ _ _ _ ?_)
  refine wpAny_newFunctionEnv_cells S.kind hkind fun env he s1 x => ?_
  subst he
  refine ⟨lim.keeps x.toInCall.keep, codeAny_func ?_⟩
  obtain ⟨t, ht, hq⟩ := hbody A outer s H vs Q E (hr.deeper _) hsp
  have I : Inv (cxOf CX P w K mg base N qual scope f cdv A outer s H E) [] (start N vs) H s1 := inv_start S hr.hd e0 hl r x
  refine wpAny_mono (ht [] s1 (start N vs) H _ I hq) (fun fl s' hs => ?_) fun e s' hs => hs
  have fin : ∀ {σ' : St} {H' : Hp} {v : V} {u : Value}, Inv (cxOf CX P w K mg base N qual scope f cdv A outer s H E) [] σ' H' s' → RelV v u → Q v H' → CE outer P w H s Q u s' :=
    fun {σ' H' v u} J rv q => ⟨v, H', J.os, J.bare, J.base, J.hok, rv, q⟩
  cases fl with
  | ret u =>
    obtain ⟨v, σ', H', J, rv, q⟩ := hs
    exact fin J rv q
  | next =>
    obtain ⟨σ', H', J, q⟩ := hs
    exact fin (v := V.non) (u := Value.none) J rfl q
  | brk =>
    obtain ⟨_, _, _, q⟩ := hs
    exact False.elim q
  | cont =>
    obtain ⟨_, _, _, q⟩ := hs
    exact False.elim q
end L2

namespace L2
open PySem PySem.Spec PyProof.Rows
section
variable {X : Cx} {x : Str} {p pos : Pos} {e : Expr} {es : List Expr} {t : TA} {id T : String} {r : List V → Hp → VK → Prop}

def tCB (r : List V → Hp → VK → Prop) (t : TA) : TE := fun σ H Q => t σ H fun vs H1 => r vs H1 Q
/-- f(e, ..), f a built-in function -/
theorem pe_callB (hc : CallR X (.builtin id) r) (hg : Gl X x) (hm : X.mg x = none) (hv : bootBuiltins x = some (.builtin id)) (ha : PA X (e :: es) t) (hn : x ≠ "__name__" := by decide) (hdb : (x == ("__debug__" : Str)) = false := by decide)
    (he : starEach (e :: es) X.env = (false, eval e X.env) :: starEach es X.env := by rfl) (hpl : (backTo pos (starEach es X.env)).any (·.1) = false := by rfl) : PE X (.Call (.Name x p) (e :: es) [] pos) (tCB r t) := by
  intro pins s σ H Q I h
  refine wpAny_Call_Name_kw (ld_blt I hg hm hv ?_ hn hdb)
  exact PyProof.Rows.callWith_builtin1 (thn (ha pos pins s σ H _ I h) fun us s1 ⟨vs, H1, I1, r1, q1⟩ => hc pins s1 σ H1 vs us Q I1 r1 q1) he hpl
/-- T(e, ..), T a built-in type -/
theorem pe_callTy (hc : CallR X (.type T) r) (hg : Gl X x) (hm : X.mg x = none) (hv : bootBuiltins x = some (.type T)) (ha : PA X (e :: es) t) (hn : x ≠ "__name__" := by decide) (hdb : (x == ("__debug__" : Str)) = false := by decide)
    (he : starEach (e :: es) X.env = (false, eval e X.env) :: starEach es X.env := by rfl) (hpl : (backTo pos (starEach es X.env)).any (·.1) = false := by rfl) : PE X (.Call (.Name x p) (e :: es) [] pos) (tCB r t) := by
  intro pins s σ H Q I h
  refine wpAny_Call_Name_kw (ld_blt I hg hm hv ?_ hn hdb)
  exact PyProof.Rows.callWith_type1 (thn (ha pos pins s σ H _ I h) fun us s1 ⟨vs, H1, I1, r1, q1⟩ => hc pins s1 σ H1 vs us Q I1 r1 q1) he hpl
/-- T() -/
theorem pe_callTy0 (hc : CallR X (.type T) r) (hg : Gl X x) (hm : X.mg x = none) (hv : bootBuiltins x = some (.type T)) (hn : x ≠ "__name__" := by decide) (hdb : (x == ("__debug__" : Str)) = false := by decide) :
    PE X (.Call (.Name x p) [] [] pos) (tCB r tNil) := by
  intro pins s σ H Q I h
  refine wpAny_Call_Name_kw (ld_blt I hg hm hv ?_ hn hdb)
  exact PyProof.Rows.callWith_type0 (hc pins s σ H [] [] Q I .nil h)
end
end L2

namespace HT
open PySem PyProof.Rows

/-- t < u of tuples of ints -/
def lexLt : List Int → List Int → Bool
  | [], [] => false
  | [], _ :: _ => true
  | _ :: _, [] => false
  | x :: xs, y :: ys => if x = y then lexLt xs ys else decide (x < y)
theorem lexLt_cons (x y : Int) (xs ys : List Int) : lexLt (x :: xs) (y :: ys) = if x = y then lexLt xs ys else decide (x < y) := rfl
theorem lexLt_nil_nil : lexLt [] [] = false := rfl
theorem lexLt_nil_cons (y : Int) (ys : List Int) : lexLt [] (y :: ys) = true := rfl
theorem lexLt_cons_nil (x : Int) (xs : List Int) : lexLt (x :: xs) [] = false := rfl

theorem eqAt_int (A : Around) (s : Shared) (a : Int) (t : Tok) (c : Int) (u : Tok) : ∃ e, SeqAt.EqAt A s (.int a t) (.int c u) e ∧ (e = true ↔ a = c) :=
  ⟨(a == c), SeqAt.EqAt.int_int a t c u, by simp⟩
theorem rcLt_int (A : Around) (s : Shared) (a : Int) (t : Tok) (c : Int) (u : Tok) (prog : Program) (w : World) (E : Value → Shared → Prop) (Q : Value → Shared → Prop) (h : Q (.bool (decide (a < c))) s) :
    wpAny (model prog w) A (richCompare .Lt (.int a t) (.int c u)) Q E s :=
  (PyProof.Rows.lt_int h : wpAny (model prog w) A (compareOp .Lt (.int a t) (.int c u)) Q E s)

section
open PySem.SeqAt
open PySem.AutoSeq1 (wpAny_loadPart')
open PySem.MeetsSeq PySem.MeetsSeq2 PySem.MeetsSeq3

theorem tuple_lt_ints (l b : Addr) (items items2 : Array Value) (n n2 : Nat) (dd dd2 : Option Addr) (sl sl2 : Array (Option Value)) (ns ms : List Int) (hi : IntsAre items.toList ns) (hj : IntsAre items2.toList ms) :
    Meets (Builtin.«tuple.__lt__» ⟨[.ref l, .ref b], []⟩)
      (fun _ R s => s.heap.get? l = some { cls := .type "tuple", dict := dd, data := .seq items n, slots := sl } ∧ s.heap.get? b = some { cls := .type "tuple", dict := dd2, data := .seq items2 n2, slots := sl2 } ∧
        R (.ok (.ret (.bool (lexLt ns ms)))) s) :=
  .of_wp fun prog w A R s h => by
    obtain ⟨hp, g, d, tk, os⟩ := s; obtain ⟨hl, hb, h⟩ := h
    have f2 := AutoSeq1.sub_tuple_tuple
    have z1 : items.size = ns.length := by rw [← hi.length]; simp
    have z2 : items2.size = ms.length := by rw [← hj.length]; simp
    wp_walk using wpAny_loadPart' hl, wpAny_loadPart' hb, wpAny_forIn_list _ (fun rest b s' => b.1 = none ∧ s' = ⟨hp, g, d, tk, os⟩ ∧ ∃ (vs ws : List Value) (ns' ms' : List Int), rest = vs.zip ws ∧
      IntsAre vs ns' ∧ IntsAre ws ms' ∧ ns'.length + items2.size = ms'.length + items.size ∧ R (.ok (.ret (.bool (lexLt ns' ms')))) ⟨hp, g, d, tk, os⟩) _
    case turn =>
      rintro ⟨y, x⟩ rest b s' ⟨hb', rfl, vs, ws, ns', ms', hz, hvi, hwi, hlen, hR⟩
      cases hvi with
      | nil => rw [List.zip_nil_left] at hz; cases hz
      | cons a t hvi' =>
        cases hwi with
        | nil => rw [List.zip_nil_right] at hz; cases hz
        | cons c u hwi' =>
          rw [List.zip_cons_cons] at hz
          injection hz with hyx hrest
          injection hyx with hy hx
          subst hy hx
          rw [lexLt_cons] at hR
          simp only [List.length_cons] at hlen
          obtain ⟨e, he, hiff⟩ := eqAt_int A.in1 ⟨hp, g, d, tk, os⟩ a t c u
          refine wpAny_bind (he prog w _ _ ?_)
          cases e with
          | true =>
            rw [if_pos (hiff.mp rfl)] at hR
            wp_walk
            exact ⟨rfl, rfl, _, _, _, _, hrest, hvi', hwi', by omega, hR⟩
          | false =>
            rw [if_neg (fun q => absurd (hiff.mpr q) Bool.false_ne_true)] at hR
            have hri := rcLt_int A.in1 ⟨hp, g, d, tk, os⟩ a t c u prog w
            wp_walk using hri
            exact ⟨_, rfl, by simpa using hR⟩
    case fin =>
      rintro ⟨b1, b2⟩ s' ⟨hb', rfl, vs, ws, ns', ms', hz, hvi, hwi, hlen, hR⟩
      simp only at hb'
      subst hb'
      have hv : lexLt ns' ms' = decide (items.size < items2.size) := by
        cases hvi with
        | nil =>
          cases hwi with
          | nil =>
            simp only [List.length_nil] at hlen
            rw [lexLt_nil_nil]
            exact (decide_eq_false (by omega)).symm
          | cons c u hw =>
            simp only [List.length_nil, List.length_cons] at hlen
            rw [lexLt_nil_cons]
            exact (decide_eq_true (by omega)).symm
        | cons a t hv =>
          cases hwi with
          | nil =>
            simp only [List.length_nil, List.length_cons] at hlen
            rw [lexLt_cons_nil]
            exact (decide_eq_false (by omega)).symm
          | cons c u hw =>
            rw [List.zip_cons_cons] at hz
            cases hz
      rw [hv] at hR
      wp_walk
      exact ⟨_, rfl, by simpa [Builtin.Tuple.tupleCompareSizes] using hR⟩
    case h =>
      exact ⟨rfl, rfl, items.toList, items2.toList, ns, ms, rfl, hi, hj, by omega, h⟩
end

section
variable {prog : Program} {w : World} {A : Around} {E : Value → Shared → Prop} {s : Shared}

theorem lt_tupInts {l b : Addr} {items items2 : Array Value} {ns ms : List Int} {Q : Value → Shared → Prop} (hl : IsTup s.heap l items) (hb : IsTup s.heap b items2) (hi : IntsAre items.toList ns) (hj : IntsAre items2.toList ms)
    (hu : A.units < cLine) (h : Q (.bool (lexLt ns ms)) s) : wpAny (model prog w) A (compareOp .Lt (.ref l) (.ref b)) Q E s := by
  obtain ⟨⟨cls, dd, data, sl⟩, ho, hc, n, hd⟩ := id hl
  obtain ⟨⟨cls2, dd2, data2, sl2⟩, ho2, hc2, n2, hd2⟩ := id hb
  simp only at hc hd hc2 hd2
  subst hc hd hc2 hd2
  exact richCompare_meets_room (op := .Lt) ⟨_, ho, rfl⟩ ⟨_, ho2, rfl⟩ PySem.F.slot_tuple_lt PySem.F.entry_tuple_lt (PySem.F.args_tuple_lt_2 _ _) (tuple_lt_ints l b items items2 n n2 dd dd2 sl sl2 ns ms hi hj)
    ⟨ho, ho2, show Value.bool (lexLt ns ms) ≠ Value.notImplemented ∧ Q (.bool (lexLt ns ms)) s from ⟨(fun x => nomatch x), h⟩⟩ hu

/-- t + u, t not empty -/
theorem cat_tup {t b : Addr} {vs ws : List Value} {Q : Value → Shared → Prop} (ht : IsTup s.heap t vs.toArray) (hb : IsTup s.heap b ws.toArray) (hv : vs ≠ [])
    (h1 : ws = [] → Q (.ref t) s) (h2 : ws ≠ [] → Q (.ref s.heap.objs.size) { s with heap := s.heap.push { cls := .type "tuple", data := .seq (vs ++ ws).toArray } })
    (hsz : vs.length + ws.length ≤ sizeLine) : wpAny (model prog w) A (binaryOp .Add (.ref t) (.ref b)) Q E s := by
  obtain ⟨⟨cls, dd, data, sl⟩, ho, hc, n, hd⟩ := id ht
  obtain ⟨⟨cls2, dd2, data2, sl2⟩, ho2, hc2, n2, hd2⟩ := id hb
  simp only at hc hd hc2 hd2
  subst hc hd hc2 hd2
  have e : vs.toArray ++ ws.toArray = (vs ++ ws).toArray := by simp
  by_cases hw : ws = []
  · exact concat_meets ⟨_, ho, rfl⟩ ⟨_, ho2, rfl⟩ noFill_tuple_add seq_tuple_add PySem.F.slot_tuple_add PySem.F.entry_tuple_add (PySem.F.args_tuple_add_2 _ _)
      (tuple_addW1 t b vs.toArray ws.toArray n n2 dd dd2 sl sl2 (by simpa using hv) (by simp [hw])) ⟨ho, ho2, h1 hw⟩
  · refine concat_meets ⟨_, ho, rfl⟩ ⟨_, ho2, rfl⟩ noFill_tuple_add seq_tuple_add PySem.F.slot_tuple_add PySem.F.entry_tuple_add (PySem.F.args_tuple_add_2 _ _)
      (tuple_addW2 t b vs.toArray ws.toArray n n2 dd dd2 sl sl2 (by simpa using hv) (by simpa using hw) (by rw [List.size_toArray, List.size_toArray]; exact hsz)) ⟨ho, ho2, ?_⟩
    rw [e]
    exact h2 hw

/-! ### t[a:b], not the whole -/
/-- a slice's bound as a place among n (d where it is left out) -/
def sIx (n d : Nat) : Option Int → Nat
  | none => d
  | some v => if v < 0 then (v + (n : Int)).toNat else min v.toNat n
theorem sIx_none (n d : Nat) : sIx n d none = d := rfl
theorem sIx_nat (n d k : Nat) : sIx n d (some (k : Int)) = min k n := by
  show (if (k : Int) < 0 then ((k : Int) + (n : Int)).toNat else min (k : Int).toNat n) = min k n
  rw [if_neg (by omega), Int.toNat_natCast]
theorem sIx_le (n d : Nat) (hd : d ≤ n) (o : Option Int) : sIx n d o ≤ n := by
  cases o with
  | none => exact hd
  | some v =>
    show (if v < 0 then (v + (n : Int)).toNat else min v.toNat n) ≤ n
    by_cases hv : v < 0
    · rw [if_pos hv]; omega
    · rw [if_neg hv]; exact Nat.min_le_right _ _
theorem clip_eq (v : Int) (n d : Nat) : (if v < 0 then max (v + (n : Int)) 0 else min v (n : Int)) = ((sIx n d (some v) : Nat) : Int) := by
  show (if v < 0 then max (v + (n : Int)) 0 else min v (n : Int)) = (((if v < 0 then (v + (n : Int)).toNat else min v.toNat n) : Nat) : Int)
  by_cases hv : v < 0
  · simp only [if_pos hv]; omega
  · simp only [if_neg hv]; omega
theorem adjust_gen (lo hi : Option Int) (n : Nat) : Builtin.Slice.sliceAdjust lo hi 1 (n : Int) = (((sIx n 0 lo : Nat) : Int), ((sIx n n hi : Nat) : Int)) := by
  have h1 : ¬ ((1 : Int) < 0) := by omega
  unfold Builtin.Slice.sliceAdjust
  simp only [h1, if_false]
  refine Prod.ext ?_ ?_
  · cases lo with
    | none => rfl
    | some v => exact clip_eq v n 0
  · cases hi with
    | none => rfl
    | some v => exact clip_eq v n n
theorem places_gen (i j : Nat) : Builtin.Slice.slicePlaces (i : Int) (j : Int) 1 = j - i := by
  unfold Builtin.Slice.slicePlaces
  have h1 : (1 : Int) > 0 := by omega
  simp only [h1, if_true, Int.ediv_one]
  split <;> omega
theorem slicePart_ {v : Value} {o : Option Int} {Q : Option Int → Shared → Prop} (p : IsPart v o) (h : Q o s) : wpAny (model prog w) A (Builtin.Slice.slicePartIndex v) Q E s := by
  cases p with
  | none => exact slicePart_none h
  | int i t => exact slicePart_int h
theorem sliceApplied_gen {sl : Addr} {vl vu : Value} {lo hi : Option Int} {n : Nat} {Q : Int × Int × Nat → Shared → Prop} (hs : s.heap.IsSliceOf sl vl vu .none) (pl : IsPart vl lo) (pu : IsPart vu hi)
    (h : Q (((sIx n 0 lo : Nat) : Int), 1, sIx n n hi - sIx n 0 lo) s) : wpAny (model prog w) A (Builtin.Slice.sliceApplied (.ref sl) (pure (n : Int))) Q E s := by
  obtain ⟨os, hos, hcs, hds⟩ := id hs
  unfold Builtin.Slice.sliceApplied Builtin.Slice.sliceFields
  refine wpAny_bind (wpAny_bind (wpAny_field hos hds (x := vl) rfl (wpAny_bind (wpAny_field hos hds (x := vu) rfl (wpAny_bind (wpAny_field hos hds (x := .none) rfl (wpAny_pure ?_)))))))
  refine wpAny_bind (slicePart_none ?_)
  show wpAny _ _ (if ((1 : Int) == 0) = true then _ else _) _ _ s
  rw [if_neg (by decide)]
  refine wpAny_bind (slicePart_ pl (wpAny_bind (slicePart_ pu (wpAny_bind (wpAny_pure ?_)))))
  show wpAny _ _ (match Builtin.Slice.sliceAdjust lo hi 1 (n : Int) with | (lo, hi) => pure (lo, (1 : Int), Builtin.Slice.slicePlaces lo hi 1)) _ _ s
  rw [adjust_gen lo hi n]
  show wpAny _ _ (pure (((sIx n 0 lo : Nat) : Int), (1 : Int), Builtin.Slice.slicePlaces ((sIx n 0 lo : Nat) : Int) ((sIx n n hi : Nat) : Int) 1)) _ _ s
  rw [places_gen]
  exact wpAny_pure h
theorem pick_gen (xs : Array Value) (i k : Nat) : ((List.range k).filterMap fun (m : Nat) => xs[((i : Int) + (m : Int) * 1).toNat]?).toArray = ((xs.toList.drop i).take k).toArray := by
  have e : (fun (m : Nat) => xs[((i : Int) + (m : Int) * 1).toNat]?) = fun m => xs[i + m]? := by
    funext m
    have : ((i : Int) + (m : Int) * 1).toNat = i + m := by omega
    rw [this]
  rw [e]
  have := pick_run xs i k
  rw [List.filterMap_map] at this
  have e2 : ((fun x => xs[x]?) ∘ fun x => i + x) = fun m => xs[i + m]? := rfl
  rw [e2] at this
  rw [this]

theorem getItem_tuple_cut {t sl : Addr} {items : Array Value} {vl vu : Value} {lo hi : Option Int} {Q : Value → Shared → Prop} (ht : IsTup s.heap t items) (hs : s.heap.IsSliceOf sl vl vu .none) (pl : IsPart vl lo) (pu : IsPart vu hi)
    (hw : ¬ (sIx items.size 0 lo = 0 ∧ sIx items.size items.size hi = items.size))
    (h : Q (.ref s.heap.objs.size) { s with heap := s.heap.push { cls := .type "tuple", data := .seq ((items.toList.drop (sIx items.size 0 lo)).take (sIx items.size items.size hi - sIx items.size 0 lo)).toArray } })
    (hsz : items.size ≤ sizeLine) : wpAny (model prog w) A (getItem (.ref t) (.ref sl)) Q E s := by
  have htake : sizeOk (.seq ((items.toList.drop (sIx items.size 0 lo)).take (sIx items.size items.size hi - sIx items.size 0 lo)).toArray) := by
    show ((items.toList.drop (sIx items.size 0 lo)).take (sIx items.size items.size hi - sIx items.size 0 lo)).toArray.size ≤ sizeLine
    rw [List.size_toArray, List.length_take, List.length_drop, Array.length_toList]
    omega
  have hj : sIx items.size items.size hi ≤ items.size := sIx_le _ _ (Nat.le_refl _) hi
  obtain ⟨os, hos, hcs, hds⟩ := id hs
  have hTs : s.TypeIs (.ref sl) "slice" := ⟨os, hos, hcs⟩
  unfold getItem
  try with_reducible refine wpAny_holding ?_
  first | refine wpAny_bind (wpAny_pure ?_) | skip
  refine wpAny_bind (wpAny_sequenceKey ht.typeIs (by decide) ?_)
  refine wpAny_bind (wpAny_callSpecial?_slot (name := Str.ofString "__getitem__") ht.typeIs PyProof.Rows.slot_tuple_getitem
    (wpAny_call_entry PyProof.Rows.slot_tuple_getitem ht.typeIs entry_tuple_getitem ?_ (args_tuple_getitem _ _)))
  show wpAny _ _ (Builtin.Tuple.tupleItemsOf (.ref t) >>= _) _ _ s
  refine wpAny_bind (tupleItemsOf_ ht ?_)
  refine wpAny_bind (wpAny_typeOf hTs ?_)
  rw [if_pos (by decide)]
  refine wpAny_bind (sliceApplied_gen hs pl pu ?_)
  have hno : ¬ ((((sIx items.size 0 lo : Nat) : Int) == 0 && (1 : Int) == 1 && (sIx items.size items.size hi - sIx items.size 0 lo) == items.size) = true) := by
    intro q
    rw [Bool.and_eq_true, Bool.and_eq_true] at q
    have q1 : ((sIx items.size 0 lo : Nat) : Int) = 0 := eq_of_beq q.1.1
    have q2 : sIx items.size items.size hi - sIx items.size 0 lo = items.size := eq_of_beq q.2
    exact hw ⟨by omega, by omega⟩
  show wpAny _ _ (if (((sIx items.size 0 lo : Nat) : Int) == 0 && (1 : Int) == 1 && (sIx items.size items.size hi - sIx items.size 0 lo) == items.size) = true then _ else _) _ _ s
  rw [if_neg hno, pick_gen]
  first
    | exact wpAny_bind (m := Builtin.Tuple.tupleExact _) (wpAny_newObj_type (wpAny_pure ⟨_, rfl, wpAny_pure h⟩) htake)
    | exact wpAny_bind (m := Builtin.Tuple.tupleExact _) (wpAny_newObj_type (wpAny_bind (wpAny_pure (wpAny_pure ⟨_, rfl, wpAny_pure h⟩))) htake)
    | exact wpAny_bind (wpAny_bind (m := Builtin.Tuple.tupleExact _) (wpAny_newObj_type (wpAny_pure (wpAny_pure ⟨_, rfl, wpAny_pure h⟩)) htake))
    | exact wpAny_bind (wpAny_bind (m := Builtin.Tuple.tupleExact _) (wpAny_newObj_type (wpAny_pure ⟨_, rfl, wpAny_pure h⟩) htake))
end
end HT

namespace L2
open PySem PySem.Spec PyProof.Rows

/-! ### the parts of a slice -/
abbrev TO := St → Hp → (Option Int → Hp → Prop) → Prop
/-- a slice's part (left out, or an int) -/
def PO (X : Cx) (e : Option Expr) (t : TO) : Prop :=
  ∀ (pins : List (Addr × Obj)) (s : Shared) (σ : St) (H : Hp) (Q : Option Int → Hp → Prop), Inv X pins σ H s → t σ H Q →
    wpAny (model X.prog X.w) X.A (evalPart e X.env) (fun u s' => ∃ o H', Inv X pins σ H' s' ∧ IsPart u o ∧ Q o H') X.xe s
def tNoPart : TO := fun _ H Q => Q none H
def tPart (t : TE) : TO := fun σ H Q => t σ H fun x H1 => ∃ i, x = .int i ∧ Q (some i) H1

theorem intsAre_of {ns : List Int} : ∀ {us : List Value}, Vals (ns.map V.int) us → IntsAre us ns := by
  induction ns with
  | nil => intro us r; rw [List.map_nil] at r; cases r; exact .nil
  | cons n ns ih =>
    intro us r
    rw [List.map_cons] at r
    cases r with
    | cons r1 r2 =>
      obtain ⟨t, e⟩ := r1
      subst e
      exact .cons n t (ih r2)

section
variable {X : Cx} {e : Expr} {te : TE} {lo hi : Option Expr} {tl th : TO} {pos p2 : Pos}

theorem po_none : PO X none tNoPart := by
  intro pins s σ H Q I h
  rw [evalPart_none]
  exact wpAny_pure ⟨none, H, I, .none, h⟩
theorem po_some (h : PE X e te) : PO X (some e) (tPart te) := by
  intro pins s σ H Q I hw
  rw [evalPart_some]
  refine thn (h pins s σ H _ I hw) fun u s1 ⟨x, H1, I1, r1, q1⟩ => ?_
  obtain ⟨i, rfl, q⟩ := q1
  obtain ⟨t, rfl⟩ := r1
  exact ⟨some i, H1, I1, .int i t, q⟩

/-- what a slice of a value is, by values: the slice object stands at sl -/
def SlR (X : Cx) (r : V → Option Int → Option Int → Hp → VK → Prop) : Prop :=
  ∀ (pins : List (Addr × Obj)) (s : Shared) (σ : St) (H : Hp) (x : V) (v vl vu : Value) (lo hi : Option Int) (sl : Addr) (Q : VK), Inv X pins σ H s → RelV x v → s.heap.IsSliceOf sl vl vu .none → IsPart vl lo → IsPart vu hi → r x lo hi H Q →
    ∃ T id, typeLookup (.type T) "__getitem__" = pure (some (.builtin id)) ∧ s.TypeIs v T ∧ wpAny (model X.prog X.w) X.A (getItem v (.ref sl)) (EP X pins σ Q) X.xe s
theorem SlR.or {r r' : V → Option Int → Option Int → Hp → VK → Prop} (h : SlR X r) (h' : SlR X r') : SlR X (fun x lo hi H Q => r x lo hi H Q ∨ r' x lo hi H Q) := by
  intro pins s σ H x v vl vu lo hi sl Q I rx hs pl pu q
  rcases q with q | q
  · exact h pins s σ H x v vl vu lo hi sl Q I rx hs pl pu q
  · exact h' pins s σ H x v vl vu lo hi sl Q I rx hs pl pu q
def tSl (r : V → Option Int → Option Int → Hp → VK → Prop) (te : TE) (tl th : TO) : TE := fun σ H Q => te σ H fun x H1 => tl σ H1 fun l H2 => th σ H2 fun u H3 => r x l u H3 Q
/-- a[lo:hi], any a -/
theorem pe_slice {r : V → Option Int → Option Int → Hp → VK → Prop} (hr : SlR X r) (he : PE X e te) (hl : PO X lo tl) (hu : PO X hi th) : PE X (.Subscript e (.Slice lo hi none p2) pos) (tSl r te tl th) := by
  intro pins s σ H Q I h
  refine Subscript_ (thn (he pins s σ H _ I h) fun v s1 ⟨x, H1, I1, r1, q1⟩ => ?_)
  refine wpAny_Slice (thn (hl pins s1 σ H1 _ I1 q1) fun vl s2 ⟨l, H2, I2, pl, q2⟩ => thn (hu pins s2 σ H2 _ I2 q2) fun vu s3 ⟨u, H3, I3, pu, q3⟩ => ?_)
  rw [evalPart_none]
  refine wpAny_pure ?_
  have I4 : Inv X pins σ H3 { s3 with heap := s3.heap.push { cls := .type "slice", data := .fields #[vl, vu, .none] } } := I3.kept (t' := s3.toks) fun b ob q => Heap.get?_push_of_some _ q
  obtain ⟨T, id, hT, ht, hg⟩ := hr pins { s3 with heap := s3.heap.push { cls := .type "slice", data := .fields #[vl, vu, .none] } } σ H3 x v vl vu l u s3.heap.objs.size Q I4 r1 (Heap.IsSliceOf.new ..) pl pu q3
  show wpAny (model X.prog X.w) X.A (subscriptTail e (.Slice lo hi none p2) v (.ref s3.heap.objs.size)) (EP X pins σ Q) X.xe { s3 with heap := s3.heap.push { cls := .type "slice", data := .fields #[vl, vu, .none] } }
  exact tail_any (ops := [.ref s3.heap.objs.size, v]) ht hT hg (by with_unfolding_all rfl)

/-- the items of xs[lo:hi] -/
def cutV (xs : List V) (lo hi : Option Int) : List V := (xs.drop (HT.sIx xs.length 0 lo)).take (HT.sIx xs.length xs.length hi - HT.sIx xs.length 0 lo)
theorem cutV_length (xs : List V) (lo hi : Option Int) : (cutV xs lo hi).length ≤ xs.length := by
  unfold cutV
  rw [List.length_take, List.length_drop]
  omega
/-- t[lo:hi], not the whole of it (the whole would be t itself) -/
def rSlT (K : PySem.W.Frag) : V → Option Int → Option Int → Hp → VK → Prop := fun x lo hi H Q => ∃ a xs, x = .ref a ∧ SqT K H a xs ∧
  ¬ (HT.sIx xs.length 0 lo = 0 ∧ HT.sIx xs.length xs.length hi = xs.length) ∧ ∀ p, H p = none → Q (.ref p) (upd H p (.tup (cutV xs lo hi)))
theorem sl_tup : SlR X (rSlT X.K) := by
  intro pins s σ H x v vl vu lo hi sl Q I rx hs pl pu h
  obtain ⟨a, xs, rfl, hx, hw, q⟩ := h
  cases rx
  obtain ⟨its, r, ht, hz⟩ := I.tuple hx
  have hlen : its.toArray.size = xs.length := by rw [List.size_toArray]; exact r.length.symm
  refine ⟨"tuple", _, PyProof.Rows.slot_tuple_getitem.lookup, ht.typeIs, ?_⟩
  refine HT.getItem_tuple_cut ht hs pl pu (by rw [hlen]; exact hw) ?_ (by rw [hlen]; exact hz)
  rw [hlen]
  refine ⟨.ref s.heap.objs.size, _, I.laid (t' := s.toks) (o := .tup (cutV xs lo hi)) (fun b ob q => Heap.get?_push_of_some _ q) (Nat.le_refl _) ?_, rfl, q _ (I.hok.fresh (Nat.le_refl _))⟩
  exact ⟨Nat.le_trans (cutV_length xs lo hi) hz, _, (r.drop (HT.sIx xs.length 0 lo)).take (HT.sIx xs.length xs.length hi - HT.sIx xs.length 0 lo), TupO.new _ _⟩

/-! ### t < u, t + u -/
def rLtT (K : PySem.W.Frag) : R2 := fun x y H Q => ∃ a b ns ms, x = .ref a ∧ y = .ref b ∧ SqT K H a (ns.map V.int) ∧ SqT K H b (ms.map V.int) ∧ Q (.bl (HT.lexLt ns ms)) H
theorem op_ltT (hu : X.A.units < cLine) : OpR X (compareOp .Lt) (rLtT X.K) := by
  intro pins s σ H x y v u Q I rx ry h
  obtain ⟨a, b, ns, ms, rfl, rfl, ha, hb, q⟩ := h
  cases rx
  cases ry
  obtain ⟨its, r1, p1, _⟩ := I.tuple ha
  obtain ⟨its2, r2, p2, _⟩ := I.tuple hb
  have i1 : IntsAre its.toArray.toList ns := intsAre_of r1
  have i2 : IntsAre its2.toArray.toList ms := intsAre_of r2
  exact HT.lt_tupInts p1 p2 i1 i2 hu ⟨.bl (HT.lexLt ns ms), H, I, rfl, q⟩
/-- t + u, t not empty: u empty gives t itself -/
def rCatT (K : PySem.W.Frag) : R2 := fun x y H Q => ∃ a b xs ys, x = .ref a ∧ y = .ref b ∧ SqT K H a xs ∧ SqT K H b ys ∧ xs ≠ [] ∧ xs.length + ys.length ≤ sizeLine ∧
  (ys = [] → Q (.ref a) H) ∧ (ys ≠ [] → ∀ p, H p = none → Q (.ref p) (upd H p (.tup (xs ++ ys))))
theorem Vals.nil_iff {xs : List V} {us : List Value} (r : Vals xs us) : us = [] ↔ xs = [] := by
  cases r with
  | nil => simp
  | cons _ _ => simp
theorem op_catT : OpR X (binaryOp .Add) (rCatT X.K) := by
  intro pins s σ H x y v u Q I rx ry h
  obtain ⟨a, b, xs, ys, rfl, rfl, ha, hb, hx, hz, q1, q2⟩ := h
  cases rx
  cases ry
  obtain ⟨its, r1, p1, _⟩ := I.tuple ha
  obtain ⟨its2, r2, p2, _⟩ := I.tuple hb
  refine HT.cat_tup p1 p2 (fun z => hx (r1.nil_iff.mp z)) (fun z => ⟨.ref a, H, I, rfl, q1 (r2.nil_iff.mp z)⟩) (fun z => ?_) (by rw [← r1.length, ← r2.length]; exact hz)
  refine ⟨.ref s.heap.objs.size, _, I.laid (t' := s.toks) (o := .tup (xs ++ ys)) (fun b ob q => Heap.get?_push_of_some _ q) (Nat.le_refl _) ?_, rfl, q2 (fun w => z (r2.nil_iff.mpr w)) _ (I.hok.fresh (Nat.le_refl _))⟩
  exact ⟨by rw [List.length_append]; exact hz, _, r1.append r2, TupO.new _ _⟩
/-- tuple(t) -/
theorem call_tupleT : CallR X (.type "tuple") (fun xs H Q => ∃ a ys, xs = [.ref a] ∧ SqT X.K H a ys ∧ Q (.ref a) H) := by
  intro pins s σ H xs us Q I r h
  obtain ⟨a, ys, rfl, ha, q⟩ := h
  obtain ⟨u, rfl, ru⟩ := vals1 r
  cases ru
  obtain ⟨its, _, p1, _⟩ := I.tuple ha
  exact call_tuple_same (items := its.toArray) p1 ⟨.ref a, H, I, rfl, q⟩
end
end L2

namespace L2
open PySem PySem.Spec PyProof.Rows

/-! ### places -/
/-- the place that an index of any sign means -/
def ixN (n : Nat) (i : Int) : Option Nat := if 0 ≤ i then (if i < n then some i.toNat else none) else if -(n : Int) ≤ i then some (i + n).toNat else none
def atI {α : Type} (xs : List α) (i : Int) : Option α := (ixN xs.length i).bind fun j => xs[j]?
theorem ixN_seq {n : Nat} {i : Int} {j : Nat} (h : ixN n i = some j) : seqIndex? i n = some j ∧ j < n ∧ -(n : Int) ≤ i ∧ i < n := by
  unfold ixN at h
  by_cases h0 : 0 ≤ i
  · rw [if_pos h0] at h
    by_cases h1 : i < n
    · rw [if_pos h1] at h
      have e : i.toNat = j := Option.some.inj h
      exact ⟨by rw [seqIndex_of h0 h1, e], by omega, by omega, h1⟩
    · rw [if_neg h1] at h; cases h
  · rw [if_neg h0] at h
    by_cases h1 : -(n : Int) ≤ i
    · rw [if_pos h1] at h
      have e : (i + n).toNat = j := Option.some.inj h
      exact ⟨by rw [seqIndex_neg (by omega) h1, e], by omega, h1, by omega⟩
    · rw [if_neg h1] at h; cases h
theorem atI_get {α : Type} {xs : List α} {i : Int} {v : α} (h : atI xs i = some v) : ∃ j, seqIndex? i xs.length = some j ∧ xs[j]? = some v ∧ j < xs.length ∧ -(xs.length : Int) ≤ i ∧ i < xs.length := by
  unfold atI at h
  cases e : ixN xs.length i with
  | none => rw [e] at h; cases h
  | some j =>
    rw [e] at h
    obtain ⟨h1, h2, h3, h4⟩ := ixN_seq e
    exact ⟨j, h1, h, h2, h3, h4⟩
theorem atI_nat {α : Type} {xs : List α} {j : Nat} {v : α} (h : xs[j]? = some v) : atI xs (j : Int) = some v := by
  have hj : j < xs.length := (List.getElem?_eq_some_iff.mp h).1
  have e : ixN xs.length (j : Int) = some j := by
    unfold ixN
    rw [if_pos (by omega), if_pos (by omega)]; simp
  unfold atI; rw [e]; exact h
theorem atI_last {α : Type} (xs : List α) (v : α) : atI (xs ++ [v]) (-1) = some v := by
  have hl : (xs ++ [v]).length = xs.length + 1 := by simp
  have e : ixN (xs ++ [v]).length (-1) = some xs.length := by
    unfold ixN
    rw [hl, if_neg (by decide), if_pos (by omega)]
    congr 1
    omega
  unfold atI
  rw [e]
  show (xs ++ [v])[xs.length]? = some v
  simp

/-! ### what may be subscripted -/
/-- what stands as an index of a plain subscript -/
def PlainIx (b : Expr) : Prop := ∀ o i, subscripted b false o i = operate [o, i] (getItem o i)
/-- a subscript by values -/
def IxR (X : Cx) (r : R2) : Prop :=
  ∀ (value slice : Expr) (pins : List (Addr × Obj)) (s : Shared) (σ : St) (H : Hp) (x y : V) (v u : Value) (Q : VK), Inv X pins σ H s → RelV x v → RelV y u → r x y H Q →
    subscripted slice false v u = operate [v, u] (getItem v u) → wpAny (model X.prog X.w) X.A (subscriptTail value slice v u) (EP X pins σ Q) X.xe s
/-- a call of a builtin's method by values: the receiver, the arguments -/
def MtR (X : Cx) (id : String) (r : V → List V → Hp → VK → Prop) : Prop :=
  ∀ (pins : List (Addr × Obj)) (s : Shared) (σ : St) (H : Hp) (x : V) (xs : List V) (v : Value) (us : List Value) (Q : VK), Inv X pins σ H s → RelV x v → Vals xs us → r x xs H Q →
    wpAny (model X.prog X.w) X.A (call (.builtin id) (v :: us)) (EP X pins σ Q) X.xe s
section
variable {X : Cx} {a b : Expr} {ta tb : TE} {pos : Pos}
theorem IxR.or {r r' : R2} (h : IxR X r) (h' : IxR X r') : IxR X (fun x y H Q => r x y H Q ∨ r' x y H Q) := by
  intro value slice pins s σ H x y v u Q I rx ry q hs
  rcases q with q | q
  · exact h value slice pins s σ H x y v u Q I rx ry q hs
  · exact h' value slice pins s σ H x y v u Q I rx ry q hs
theorem MtR.or {id : String} {r r' : V → List V → Hp → VK → Prop} (h : MtR X id r) (h' : MtR X id r') : MtR X id (fun x xs H Q => r x xs H Q ∨ r' x xs H Q) := by
  intro pins s σ H x xs v us Q I rx rs q
  rcases q with q | q
  · exact h pins s σ H x xs v us Q I rx rs q
  · exact h' pins s σ H x xs v us Q I rx rs q
/-- a[b] -/
theorem pe_ix {r : R2} (hr : IxR X r) (ha : PE X a ta) (hb : PE X b tb) (hs : PlainIx b) : PE X (.Subscript a b pos) (tOp r ta tb) := by
  intro pins s σ H Q I h
  exact Subscript_ (binT ha hb I h fun v u s2 x y H2 I2 rx ry q => hr a b pins s2 σ H2 x y v u Q I2 rx ry q (hs _ _))

def rIxL (K : PySem.W.Frag) : R2 := fun x y H Q => ∃ p xs i v, x = .ref p ∧ y = .int i ∧ SqL K H p xs ∧ atI xs i = some v ∧ Q v H
def rIxT (K : PySem.W.Frag) : R2 := fun x y H Q => ∃ p xs i v, x = .ref p ∧ y = .int i ∧ SqT K H p xs ∧ atI xs i = some v ∧ Q v H
def rIxS : R2 := fun x y H Q => ∃ z i c, x = .str z ∧ y = .int i ∧ z.length ≤ sizeLine ∧ atI z.cps.toList i = some c ∧ Q (.str ⟨#[c]⟩) H
theorem ix_list : IxR X (rIxL X.K) := by
  intro value slice pins s σ H x y v u Q I rx ry h hs
  obtain ⟨p, xs, i, z, rfl, rfl, hq, he, q⟩ := h
  cases rx
  obtain ⟨t, rfl⟩ := ry
  obtain ⟨its, r, pl, hz⟩ := I.list hq
  obtain ⟨j, h1, h2, h3, h4, h5⟩ := atI_get he
  obtain ⟨w, ew, rw'⟩ := r.get h2
  have hl := r.length
  have hn := line63
  have fin : EP X pins σ Q w s := ⟨z, H, I, rw', q⟩
  by_cases h0 : 0 ≤ i
  · have hj : i.toNat = j := by
      rw [seqIndex_of h0 h5] at h1
      exact Option.some.inj h1
    exact item_listR pl.isList h0 (by omega) (by rw [hj]; simpa using ew) fin hs
  · have hj : (i + (its.toArray.size : Int)).toNat = j := by
      rw [seqIndex_neg (by omega) h4] at h1
      rw [List.size_toArray, ← hl]
      exact Option.some.inj h1
    exact subscriptTail_builtinR (x := w) pl.isList.typeIs slot_list_getitem.lookup
      (wpAny_getItem_list_neg (Q := fun r s' => r = w ∧ EP X pins σ Q r s') pl.isList (by omega) (by rw [List.size_toArray] <;> omega) (by omega) (by rw [hj]; simpa using ew) ⟨rfl, fin⟩) hs
theorem ix_tup : IxR X (rIxT X.K) := by
  intro value slice pins s σ H x y v u Q I rx ry h hs
  obtain ⟨p, xs, i, z, rfl, rfl, hq, he, q⟩ := h
  cases rx
  obtain ⟨t, rfl⟩ := ry
  obtain ⟨its, r, pl, hz⟩ := I.tuple hq
  obtain ⟨j, h1, h2, h3, h4, h5⟩ := atI_get he
  obtain ⟨w, ew, rw'⟩ := r.get h2
  have hl := r.length
  have hn := line63
  have fin : EP X pins σ Q w s := ⟨z, H, I, rw', q⟩
  exact subscriptTail_builtinR (x := w) pl.typeIs slot_tuple_getitem.lookup
    (getItem_tuple (j := j) (Q := fun r s' => r = w ∧ EP X pins σ Q r s') pl (by omega) (by omega) (by rw [List.size_toArray, ← hl]; exact h1) (by simpa using ew) ⟨rfl, fin⟩) hs
theorem ix_str : IxR X rIxS := by
  intro value slice pins s σ H x y v u Q I rx ry h hs
  obtain ⟨z, i, c, rfl, rfl, hz, he, q⟩ := h
  obtain ⟨t, rfl⟩ := rx
  obtain ⟨t', rfl⟩ := ry
  obtain ⟨j, h1, h2, h3, h4, h5⟩ := atI_get he
  have hl : z.cps.toList.length = z.length := by simp [Str.length]
  rw [hl] at h1 h4 h5
  have hn := line63
  exact tail_any (typeIs_str s z t) slot_str_getitem.lookup (getItem_str (c := c) (by
    have e1 : decide (i < -(2 ^ 63 : Int)) = false := decide_eq_false (by omega)
    have e2 : decide (i ≥ 2 ^ 63) = false := decide_eq_false (by omega)
    rw [e1, e2, Bool.or_false]) (by rw [h1]; simpa using h2) ⟨.str ⟨#[c]⟩, H, I.tok _, ⟨_, rfl⟩, q⟩) hs
/-- list, tuple or str -/
def rIx (K : PySem.W.Frag) : R2 := fun x y H Q => rIxL K x y H Q ∨ rIxT K x y H Q ∨ rIxS x y H Q
theorem ix_seq : IxR X (rIx X.K) := ix_list.or (ix_tup.or ix_str)

/-! ### xs[i] = v, any sign -/
/-- the list's object behind a store -/
theorem mapSeq_set (its : List Value) (n j : Nat) (u : Value) : Obj.mapSeq (·.setIfInBounds j u) { cls := .type "list", data := .seq its.toArray n } = { cls := .type "list", data := .seq (its.set j u).toArray n } := by
  simp [Obj.mapSeq]
theorem Inv.lst {pins : List (Addr × Obj)} {σ : St} {H : Hp} {s : Shared} {p : Addr} {xs : List V} (I : Inv X pins σ H s) (h : H p = some (.lst xs)) :
    ∃ (its : List Value) (n : Nat), Vals xs its ∧ s.heap.get? p = some { cls := .type "list", data := .seq its.toArray n } ∧ xs.length ≤ sizeLine := by
  obtain ⟨z, its, n, r, e⟩ := I.hok p _ h
  exact ⟨its, n, r, e, z⟩
/-- the list at p is written by an update of its object -/
theorem Inv.lstUpd {pins : List (Addr × Obj)} {σ : St} {H : Hp} {s : Shared} {p : Addr} {xs ys : List V} {its its' : List Value} {n n' : Nat} {f : Obj → Obj} (I : Inv X pins σ H s) (h : H p = some (.lst xs))
    (ho : s.heap.get? p = some { cls := .type "list", data := .seq its.toArray n }) (hf : f { cls := .type "list", data := .seq its.toArray n } = { cls := .type "list", data := .seq its'.toArray n' }) (r : Vals ys its') (hz : ys.length ≤ sizeLine) (t : Nat) :
    Inv X pins σ (upd H p (.lst ys)) { s with heap := s.heap.update p f, toks := t } := by
  have e : (s.heap.update p f).get? p = some { cls := .type "list", data := .seq its'.toArray n' } := by
    rw [Heap.get?_update_self f ho (by rw [hf] <;> rfl), hf]
  refine I.write (x := p) (e := p) (by rw [h]; trivial) (.inl rfl) (fun b u hb q => (Heap.get?_update_other _ _ (Ne.symm hb)).trans q) ⟨_, e⟩ ?_
  exact ⟨hz, its', n', r, e⟩
def rSetL : V → V → V → Hp → (Hp → Prop) → Prop := fun o i v H Q => ∃ p xs k j, o = .ref p ∧ i = .int k ∧ H p = some (.lst xs) ∧ ixN xs.length k = some j ∧ Q (upd H p (.lst (xs.set j v)))
theorem set_list : PSet X rSetL := by
  intro pins s σ H o i v ov iv u Q I ro ri rv h
  obtain ⟨p, xs, k, j, rfl, rfl, hp, hj, q⟩ := h
  cases ro
  obtain ⟨t, rfl⟩ := ri
  obtain ⟨its, n, r, ho, hz⟩ := I.lst hp
  obtain ⟨h1, h2, h3, h4⟩ := ixN_seq hj
  have hl := r.length
  have hn := line63
  have I' : Inv X pins σ (upd H p (.lst (xs.set j v))) { s with heap := s.heap.update p (Obj.mapSeq (·.setIfInBounds j u)) } :=
    I.lstUpd hp ho (mapSeq_set its n j u) (r.set rv j) (by rw [List.length_set]; exact hz) s.toks
  by_cases h0 : 0 ≤ k
  · have hk : k.toNat = j := by
      rw [seqIndex_of h0 h4] at h1
      exact Option.some.inj h1
    exact PySem.W.ki_setAt ho h0 (by omega) (by rw [List.size_toArray, ← hl]; exact h4) (by rw [hk]; exact ⟨_, I', q⟩)
  · have hk : (k + (its.toArray.size : Int)).toNat = j := by
      rw [seqIndex_neg (by omega) h3] at h1
      rw [List.size_toArray, ← hl]
      exact Option.some.inj h1
    exact PySem.W.ki_setBack ho (by omega) (by rw [List.size_toArray, ← hl]; exact h3) (by omega) (by rw [hk]; exact ⟨_, I', q⟩)

/-! ### slices -/
theorem slice_bounds (lo hi : Option Int) (n : Nat) : (sliceBounds lo hi none n).1 = ((HT.sIx n 0 lo : Nat) : Int) ∧ (sliceBounds lo hi none n).2.1 = ((HT.sIx n n hi : Nat) : Int) ∧ (sliceBounds lo hi none n).2.2 = 1 := by
  refine ⟨?_, ?_, rfl⟩
  · cases lo with
    | none => simp [sliceBounds, HT.sIx]
    | some i =>
      simp only [sliceBounds, HT.sIx, Option.getD_none, show (1 : Int) > 0 by decide, if_true]
      by_cases h : i < 0
      · simp only [h, if_true] <;> omega
      · simp only [h, if_false] <;> omega
  · cases hi with
    | none => simp [sliceBounds, HT.sIx]
    | some i =>
      simp only [sliceBounds, HT.sIx, Option.getD_none, show (1 : Int) > 0 by decide, if_true]
      by_cases h : i < 0
      · simp only [h, if_true] <;> omega
      · simp only [h, if_false] <;> omega
theorem slicePick_cut (its : List Value) (lo hi : Option Int) : slicePick its.toArray lo hi none = ((its.drop (HT.sIx its.length 0 lo)).take (HT.sIx its.length its.length hi - HT.sIx its.length 0 lo)).toArray := by
  obtain ⟨h1, h2, h3⟩ := slice_bounds lo hi its.toArray.size
  unfold slicePick
  rw [h1, h2, h3]
  simp only [sliceRange_one, pick_run, List.size_toArray] <;> rfl
/-- xs[lo:hi] of a list: a new list -/
def rSlL (K : PySem.W.Frag) : V → Option Int → Option Int → Hp → VK → Prop := fun x lo hi H Q => ∃ a xs, x = .ref a ∧ SqL K H a xs ∧ ∀ p, H p = none → Q (.ref p) (upd H p (.lst (cutV xs lo hi)))
theorem sl_list : SlR X (rSlL X.K) := by
  intro pins s σ H x v vl vu lo hi sl Q I rx hs pl pu h
  obtain ⟨a, xs, rfl, hx, q⟩ := h
  cases rx
  obtain ⟨its, r, ht, hz⟩ := I.list hx
  have hlen := r.length
  refine ⟨"list", _, slot_list_getitem.lookup, ht.isList.typeIs, ?_⟩
  refine wpAny_getItem_list_slice ht.isList hs pl pu .none (by simp) ?_ (by rw [List.size_toArray] <;> omega)
  rw [slicePick_cut, ← hlen]
  refine ⟨.ref s.heap.objs.size, _, I.laid (t' := s.toks) (o := .lst (cutV xs lo hi)) (fun b ob q => Heap.get?_push_of_some _ q) (Nat.le_refl _) ?_, rfl, q _ (I.hok.fresh (Nat.le_refl _))⟩
  exact ⟨Nat.le_trans (cutV_length xs lo hi) hz, _, 0, (r.drop (HT.sIx xs.length 0 lo)).take (HT.sIx xs.length xs.length hi - HT.sIx xs.length 0 lo), Heap.get?_push_size _ rfl⟩

/-! ### in, not in: flat items -/
def flatV : V → Bool
  | .non => true
  | .bl _ => true
  | .int _ => true
  | .str _ => true
  | _ => false
/-- == of flat values -/
def eqV : V → V → Bool
  | .non, .non => true
  | .bl a, .bl b => a == b
  | .bl a, .int b => (if a then 1 else 0) == b
  | .int a, .bl b => a == (if b then 1 else 0)
  | .int a, .int b => a == b
  | .str a, .str b => a == b
  | _, _ => false
theorem eqAt_V {A : Around} {s : Shared} {y x : V} {u v : Value} (ry : RelV y u) (rx : RelV x v) (fy : flatV y = true) (fx : flatV x = true) : SeqAt.EqAt A s u v (eqV y x) := by
  cases y with
  | non =>
    cases ry
    cases x with
    | non => cases rx; exact SeqAt.EqAt.same _
    | bl b => cases rx; exact SeqAt.EqAt.none_bool b
    | int b => obtain ⟨t, rfl⟩ := rx; exact SeqAt.EqAt.none_int b t
    | str b => obtain ⟨t, rfl⟩ := rx; exact SeqAt.EqAt.none_str b t
    | _ => exact absurd (show false = true from fx) Bool.false_ne_true
  | bl a =>
    cases ry
    cases x with
    | non => cases rx; exact SeqAt.EqAt.bool_none a
    | bl b => cases rx; exact SeqAt.EqAt.bool_bool a b
    | int b => obtain ⟨t, rfl⟩ := rx; exact SeqAt.EqAt.bool_int a b t
    | str b => obtain ⟨t, rfl⟩ := rx; exact SeqAt.EqAt.bool_str a b t
    | _ => exact absurd (show false = true from fx) Bool.false_ne_true
  | int a =>
    obtain ⟨t', rfl⟩ := ry
    cases x with
    | non => cases rx; exact SeqAt.EqAt.int_none a t'
    | bl b => cases rx; exact SeqAt.EqAt.int_bool a t' b
    | int b => obtain ⟨t, rfl⟩ := rx; exact SeqAt.EqAt.int_int a t' b t
    | str b => obtain ⟨t, rfl⟩ := rx; exact SeqAt.EqAt.int_str a t' b t
    | _ => exact absurd (show false = true from fx) Bool.false_ne_true
  | str a =>
    obtain ⟨t', rfl⟩ := ry
    cases x with
    | non => cases rx; exact SeqAt.EqAt.str_none a t'
    | bl b => cases rx; exact SeqAt.EqAt.str_bool a t' b
    | int b => obtain ⟨t, rfl⟩ := rx; exact SeqAt.EqAt.str_int a t' b t
    | str b => obtain ⟨t, rfl⟩ := rx; exact SeqAt.EqAt.str_str a t' b t
    | _ => exact absurd (show false = true from fx) Bool.false_ne_true
  | _ => exact absurd (show false = true from fy) Bool.false_ne_true
/-- the items' answers, read off the values (a value's own answer does not lean on its token) -/
def eqU (x : V) (u : Value) : Bool := match u with
  | .none => eqV .non x
  | .bool b => eqV (.bl b) x
  | .int i _ => eqV (.int i) x
  | .str z _ => eqV (.str z) x
  | _ => false
theorem eqU_of {x y : V} {u : Value} (r : RelV y u) (f : flatV y = true) : eqU x u = eqV y x := by
  cases y with
  | non => cases r; rfl
  | bl b => cases r; rfl
  | int i => obtain ⟨t, rfl⟩ := r; rfl
  | str z => obtain ⟨t, rfl⟩ := r; rfl
  | _ => exact absurd (show false = true from f) Bool.false_ne_true
theorem any_eqU {x : V} : ∀ {xs : List V} {us : List Value}, Vals xs us → xs.all flatV = true → us.any (eqU x) = xs.any fun y => eqV y x
  | _, _, .nil, _ => rfl
  | y :: xs, u :: us, .cons r t, f => by
    rw [List.all_cons, Bool.and_eq_true] at f
    rw [List.any_cons, List.any_cons, eqU_of r f.1, any_eqU t f.2]
theorem mem_eqAt {A : Around} {s : Shared} {x : V} {v : Value} (rx : RelV x v) (fx : flatV x = true) : ∀ {xs : List V} {us : List Value}, Vals xs us → xs.all flatV = true → ∀ u ∈ us, SeqAt.EqAt A s u v (eqU x u)
  | _, _, .nil, _ => fun u hu => by cases hu
  | y :: xs, u :: us, .cons r t, f => fun u' hu => by
    rw [List.all_cons, Bool.and_eq_true] at f
    rcases List.mem_cons.mp hu with rfl | hu
    · rw [eqU_of r f.1]; exact eqAt_V r rx f.1 fx
    · exact mem_eqAt rx fx t f.2 u' hu
def inV (x : V) (xs : List V) : Bool := xs.any fun y => eqV y x
/-- x in a list or tuple of flat items -/
def rIn (K : PySem.W.Frag) (neg : Bool) : R2 := fun x y H Q => ∃ p xs, y = .ref p ∧ (SqL K H p xs ∨ SqT K H p xs) ∧ flatV x = true ∧ xs.all flatV = true ∧ Q (.bl (if neg then !inV x xs else inV x xs)) H
theorem op_in_seq : OpR X (compareOp .In) (rIn X.K false) := by
  intro pins s σ H x y v u Q I rx ry h
  obtain ⟨p, xs, rfl, hq, fx, fs, q⟩ := h
  cases ry
  rcases hq with hq | hq
  · obtain ⟨its, r, pl, hz⟩ := I.list hq
    refine SeqAt.in_listAt (eqU x) pl.isList (fun w hw => mem_eqAt rx fx r fs w (by simpa using hw)) ⟨.bl _, H, I, rfl, ?_⟩
    rw [show its.toArray.any (eqU x) = its.any (eqU x) by simp, any_eqU r fs]
    exact q
  · obtain ⟨its, r, pl, hz⟩ := I.tuple hq
    refine SeqAt.in_tupleAt (eqU x) pl (fun w hw => mem_eqAt rx fx r fs w (by simpa using hw)) ⟨.bl _, H, I, rfl, ?_⟩
    rw [show its.toArray.any (eqU x) = its.any (eqU x) by simp, any_eqU r fs]
    exact q
theorem op_notIn_seq : OpR X (compareOp .NotIn) (rIn X.K true) := by
  intro pins s σ H x y v u Q I rx ry h
  obtain ⟨p, xs, rfl, hq, fx, fs, q⟩ := h
  cases ry
  rcases hq with hq | hq
  · obtain ⟨its, r, pl, hz⟩ := I.list hq
    refine SeqAt.notIn_listAt (eqU x) pl.isList (fun w hw => mem_eqAt rx fx r fs w (by simpa using hw)) ⟨.bl _, H, I, rfl, ?_⟩
    rw [show its.toArray.any (eqU x) = its.any (eqU x) by simp, any_eqU r fs]
    exact q
  · obtain ⟨its, r, pl, hz⟩ := I.tuple hq
    refine SeqAt.notIn_tupleAt (eqU x) pl (fun w hw => mem_eqAt rx fx r fs w (by simpa using hw)) ⟨.bl _, H, I, rfl, ?_⟩
    rw [show its.toArray.any (eqU x) = its.any (eqU x) by simp, any_eqU r fs]
    exact q
theorem op_notIn_str : OpR X (compareOp .NotIn) (fun x y H Q => ∃ i j, x = .str i ∧ y = .str j ∧ Q (.bl (!(!(Builtin.Str.occurrences j i 0 j.length 1).isEmpty))) H) := by
  intro pins s σ H x y v u Q I rx ry h
  obtain ⟨i, j, rfl, rfl, q⟩ := h
  obtain ⟨t, rfl⟩ := rx
  obtain ⟨t', rfl⟩ := ry
  exact notIn_str ⟨.bl _, H, I, rfl, q⟩

/-! ### len, list(x), tuple(x) of any list or tuple that is read -/
theorem call_len_seq : CallR X (.builtin "len") (fun xs H Q => ∃ p ys, xs = [.ref p] ∧ (SqL X.K H p ys ∨ SqT X.K H p ys) ∧ Q (.int ys.length) H) := by
  intro pins s σ H xs us Q I r h
  obtain ⟨p, ys, rfl, hq, q⟩ := h
  obtain ⟨u, rfl, rx⟩ := vals1 r
  cases rx
  have hn := line63
  rcases hq with hq | hq
  · obtain ⟨its, r', pl, hz⟩ := I.list hq
    have hlen := r'.length
    exact Calls.call_len_list pl.isList (by simp only [List.size_toArray] <;> omega) ⟨.int ys.length, H, I.tok _, ⟨s.toks + 1, by rw [List.size_toArray, hlen]⟩, q⟩
  · obtain ⟨its, r', pl, hz⟩ := I.tuple hq
    have hlen := r'.length
    exact len_tuple pl (by simp only [List.size_toArray] <;> omega) ⟨.int ys.length, H, I.tok _, ⟨s.toks + 1, by rw [List.size_toArray, hlen]⟩, q⟩
theorem call_len_str : CallR X (.builtin "len") (fun xs H Q => ∃ z, xs = [.str z] ∧ z.length ≤ sizeLine ∧ Q (.int z.length) H) := by
  intro pins s σ H xs us Q I r h
  obtain ⟨z, rfl, hz, q⟩ := h
  obtain ⟨u, rfl, t, rfl⟩ := vals1 r
  have hn := line63
  exact len_str (by omega) ⟨.int z.length, H, I.tok _, ⟨_, rfl⟩, q⟩
theorem CallR.or {f : Value} {r r' : List V → Hp → VK → Prop} (h : CallR X f r) (h' : CallR X f r') : CallR X f (fun xs H Q => r xs H Q ∨ r' xs H Q) := by
  intro pins s σ H xs us Q I rs q
  rcases q with q | q
  · exact h pins s σ H xs us Q I rs q
  · exact h' pins s σ H xs us Q I rs q
theorem call_list_of : CallR X (.type "list") (fun xs H Q => ∃ p ys, xs = [.ref p] ∧ (SqL X.K H p ys ∨ SqT X.K H p ys) ∧ ∀ l, H l = none → Q (.ref l) (upd H l (.lst ys))) := by
  intro pins s σ H xs us Q I r h
  obtain ⟨p, ys, rfl, hq, q⟩ := h
  obtain ⟨u, rfl, rx⟩ := vals1 r
  cases rx
  have fin : ∀ (its : List Value), Vals ys its → ys.length ≤ sizeLine → ∀ (h' : Heap) (c' : Nat), (∀ b o', s.heap.get? b = some o' → h'.get? b = some o') →
      h'.get? s.heap.objs.size = some { cls := .type "list", dict := none, data := .seq its.toArray c', slots := #[] } → EP X pins σ Q (.ref s.heap.objs.size) { s with heap := h' } := fun its r' hz h' c' kp e =>
    ⟨.ref s.heap.objs.size, _, I.laid (t' := s.toks) kp (Nat.le_refl _) (show ObjOk X.prog X.w _ h' _ (.lst ys) from ⟨hz, its, c', r', e⟩), rfl, q _ (I.hok.fresh (Nat.le_refl _))⟩
  rcases hq with hq | hq
  · obtain ⟨its, r', pl, hz⟩ := I.list hq
    have hlen := r'.length
    obtain ⟨o, ho, hc, n, hd⟩ := pl.isList
    exact call_list_seq p (.inl rfl) ho hc hd (fun h' c' kp e => fin its r' hz h' c' kp e) (by simp only [List.size_toArray] <;> omega)
  · obtain ⟨its, r', pl, hz⟩ := I.tuple hq
    have hlen := r'.length
    obtain ⟨o, ho, hc, n, hd⟩ := pl
    exact call_list_seq p (.inr rfl) ho hc hd (fun h' c' kp e => fin its r' hz h' c' kp e) (by simp only [List.size_toArray] <;> omega)
theorem call_tuple_of : CallR X (.type "tuple") (fun xs H Q => ∃ p ys, xs = [.ref p] ∧ ((SqL X.K H p ys ∧ ∀ l, H l = none → Q (.ref l) (upd H l (.tup ys))) ∨ (SqT X.K H p ys ∧ Q (.ref p) H))) := by
  intro pins s σ H xs us Q I r h
  obtain ⟨p, ys, rfl, h⟩ := h
  obtain ⟨u, rfl, rx⟩ := vals1 r
  cases rx
  rcases h with ⟨hq, q⟩ | ⟨hq, q⟩
  · obtain ⟨its, r', pl, hz⟩ := I.list hq
    have hlen := r'.length
    refine call_tuple_list pl.isList (fun h' kp => ?_) (by simp only [List.size_toArray] <;> omega)
    have I1 : Inv X pins σ H { s with heap := h' } := I.kept (t' := s.toks) kp
    have I2 : Inv X pins σ (upd H h'.objs.size (.tup ys)) { s with heap := h'.push { cls := .type "tuple", data := .seq its.toArray } } :=
      I1.laid (t' := s.toks) (fun b o e => Heap.get?_push_of_some _ e) (Nat.le_refl _) (show ObjOk X.prog X.w _ _ _ (.tup ys) from ⟨hz, its, r', TupO.new _ _⟩)
    exact ⟨.ref h'.objs.size, _, I2, rfl, q _ (I1.hok.fresh (Nat.le_refl _))⟩
  · obtain ⟨its, r', pl, hz⟩ := I.tuple hq
    exact call_tuple_same pl ⟨.ref p, H, I, rfl, q⟩

/-! ### the call of a builtin's method: o.m(..) -/
/-- the value is of that builtin type -/
def tyV (K : PySem.W.Frag) (T : String) (x : V) (H : Hp) : Prop := match x with
  | .str _ => T = "str"
  | .int _ => T = "int"
  | .ref p => (T = "list" ∧ ∃ xs, SqL K H p xs) ∨ (T = "tuple" ∧ ∃ o, K.lookup p = some o ∧ o.cls = .type "tuple" ∧ o.dict = none) ∨
      (T = "dict" ∧ ((∃ kvs, H p = some (.dK kvs)) ∨ ∃ kvs, H p = some (.dT kvs))) ∨ (T = "set" ∧ ∃ S n, H p = some (.set S n))
  | _ => False
theorem tyV_is {pins : List (Addr × Obj)} {σ : St} {H : Hp} {s : Shared} {T : String} {x : V} {v : Value} (I : Inv X pins σ H s) (r : RelV x v) (ty : tyV X.K T x H) :
    s.TypeIs v T ∧ ∀ a, v = .ref a → ∃ ob, s.heap.get? a = some ob ∧ ob.dict = none := by
  cases x with
  | str z =>
    obtain ⟨t, rfl⟩ := r
    cases (show T = "str" from ty)
    exact ⟨typeIs_str s z t, fun _ e => nomatch e⟩
  | int i =>
    obtain ⟨t, rfl⟩ := r
    cases (show T = "int" from ty)
    exact ⟨typeIs_int s i t, fun _ e => nomatch e⟩
  | ref p =>
    cases r
    rcases ty with ⟨rfl, xs, hq⟩ | ⟨rfl, o, hk, hc, hd⟩ | ⟨rfl, hk⟩ | ⟨rfl, S, n, hk⟩
    · obtain ⟨its, _, pl, _⟩ := I.list hq
      refine ⟨pl.isList.typeIs, fun a e => ?_⟩
      cases e
      obtain ⟨o, n, e, c, hd, _⟩ := pl
      exact ⟨o, e, hd⟩
    · refine ⟨⟨o, I.kIn p o hk, hc⟩, fun a e => ?_⟩
      cases e
      exact ⟨o, I.kIn _ o hk, hd⟩
    · have z : ∃ o, s.heap.get? p = some o ∧ o.ExactDict := by
        rcases hk with ⟨kvs, hk⟩ | ⟨kvs, hk⟩
        · obtain ⟨_, _, _, _, o, _, _, e, ex, _⟩ := I.hok p _ hk
          exact ⟨o, e, ex⟩
        · obtain ⟨_, _, _, _, o, _, _, e, ex, _⟩ := I.hok p _ hk
          exact ⟨o, e, ex⟩
      obtain ⟨o, e, ex⟩ := z
      refine ⟨⟨o, e, ex.1⟩, fun a e2 => ?_⟩
      cases e2
      exact ⟨o, e, ex.2.1⟩
    · obtain ⟨o, _, _, _, e, ex, _⟩ := I.hok p _ hk
      refine ⟨⟨o, e, ex.1⟩, fun a e2 => ?_⟩
      cases e2
      exact ⟨o, e, ex.2.1⟩
  | _ => exact False.elim ty
def tBM0 (K : PySem.W.Frag) (T : String) (r : V → List V → Hp → VK → Prop) (to : TE) : TE := fun σ H Q => to σ H fun x H1 => tyV K T x H1 ∧ r x [] H1 Q
def tBM (K : PySem.W.Frag) (T : String) (r : V → List V → Hp → VK → Prop) (to : TE) (t : TA) : TE := fun σ H Q => to σ H fun x H1 => tyV K T x H1 ∧ t σ H1 fun xs H2 => r x xs H2 Q
variable {o e : Expr} {es : List Expr} {to : TE} {t : TA} {name : Str} {apos cpos : Pos} {T id : String} {r : V → List V → Hp → VK → Prop}
theorem pe_bm0 (pa : PlainAttrs T) (slot : Slot T name id) (hty : typeOf (.builtin id) = pure (.type "method_descriptor")) (hm : MtR X id r) (ho : PE X o to)
    (hbase : attributeBase o name X.env (eval o X.env) = eval o X.env := by rfl) (hline : (apos.endLine == cpos.line) = true := by rfl) : PE X (.Call (.Attribute o name apos) [] [] cpos) (tBM0 X.K T r to) := by
  intro pins s σ H Q I h
  refine wpAny_Call_method0_late hbase hline (thn (ho pins s σ H _ I h) fun v s1 ⟨x, H1, I1, r1, ty, q1⟩ => ?_)
  obtain ⟨h1, h2⟩ := tyV_is I1 r1 ty
  exact ⟨T, id, pa, slot, hty, h1, h2, Calls.callWith_builtin rfl (PySem.evalArgs_none (hm pins s1 σ H1 x [] v [] Q I1 r1 .nil q1))⟩
theorem pe_bm (pa : PlainAttrs T) (slot : Slot T name id) (hty : typeOf (.builtin id) = pure (.type "method_descriptor")) (hm : MtR X id r) (ho : PE X o to) (ha : PA X (e :: es) t)
    (hbase : attributeBase o name X.env (eval o X.env) = eval o X.env := by rfl)
    (hfew : ((backTo cpos (starEach (e :: es) X.env)).all (fun x => !x.1) && (backToKw cpos (keywordEach [] X.env)).all (fun x => x.1.isSome)
      && decide ((e :: es).length + ([] : List Keyword).length + (if ([] : List Keyword).isEmpty then 0 else 1) < 30)) = true := by rfl)
    (hline : (apos.endLine == cpos.line) = true := by rfl) (hs : starEach (e :: es) X.env = (false, eval e X.env) :: starEach es X.env := by rfl) (hplain : (backTo cpos (starEach es X.env)).any (·.1) = false := by rfl) :
    PE X (.Call (.Attribute o name apos) (e :: es) [] cpos) (tBM X.K T r to t) := by
  intro pins s σ H Q I h
  refine wpAny_Call_method_late hbase hfew hline rfl (thn (ho pins s σ H _ I h) fun v s1 ⟨x, H1, I1, r1, ty, q1⟩ => ?_)
  obtain ⟨h1, h2⟩ := tyV_is I1 r1 ty
  refine ⟨T, id, pa, slot, hty, h1, h2, ?_⟩
  have hA := ha cpos pins s1 σ H1 _ I1 q1
  rw [hs] at hA ⊢
  refine Calls.callWith_builtin (by show (false || (backTo cpos (starEach es X.env)).any (·.1)) = false; rw [hplain] <;> rfl) (Calls.evalArgs_plain ?_)
  exact thn hA fun us s2 ⟨vs, H2, I2, r2, q2⟩ => hm pins s2 σ H2 x vs v us Q I2 r1 r2 q2
/- xs.append(e), list.index on a module's tuple .. are MtR facts of 06m -/
end
end L2

namespace L2
open PySem PySem.Spec PyProof.Rows

def MtM (X : Cx) (id : String) (r : V → List V → Hp → VK → Prop) : Prop :=
  ∀ (pins : List (Addr × Obj)) (s : Shared) (σ : St) (H : Hp) (x : V) (xs : List V) (v : Value) (us : List Value) (Q : VK), Inv X pins σ H s → RelV x v → Vals xs us → r x xs H Q →
    wpAny (model X.prog X.w) X.A (call (.builtin id) (v :: us)) (EP X pins σ Q) X.xe s

/-! ### lists of values -/
theorem Vals.one : ∀ {x : V} {us : List Value}, Vals [x] us → ∃ u, us = [u] ∧ RelV x u
  | _, _, .cons r .nil => ⟨_, rfl, r⟩
theorem Vals.two : ∀ {x y : V} {us : List Value}, Vals [x, y] us → ∃ u v, us = [u, v] ∧ RelV x u ∧ RelV y v
  | _, _, _, .cons r (.cons q .nil) => ⟨_, _, rfl, r, q⟩
theorem Vals.zero : ∀ {us : List Value}, Vals [] us → us = []
  | _, .nil => rfl
theorem Vals.dropLast {xs : List V} {us : List Value} (h : Vals xs us) : Vals xs.dropLast us.dropLast := by
  induction h with
  | nil => exact .nil
  | cons r t ih =>
    cases t with
    | nil => exact .nil
    | cons q t' => exact .cons r ih
theorem Vals.eraseIdx : ∀ {xs : List V} {us : List Value} (i : Nat), Vals xs us → Vals (xs.eraseIdx i) (us.eraseIdx i)
  | _, _, _, .nil => .nil
  | _, _, 0, .cons _ t => t
  | _, _, i + 1, .cons r t => .cons r (Vals.eraseIdx i t)
theorem Vals.reverse {xs : List V} {us : List Value} (h : Vals xs us) : Vals xs.reverse us.reverse := by
  induction h with
  | nil => exact .nil
  | cons r t ih => rw [List.reverse_cons, List.reverse_cons]; exact Vals.append ih (.cons r .nil)
theorem Vals.rep {xs : List V} {us : List Value} (h : Vals xs us) : ∀ k : Nat, Vals (List.replicate k xs).flatten (List.replicate k us).flatten
  | 0 => .nil
  | k + 1 => by
    rw [List.replicate_succ, List.replicate_succ, List.flatten_cons, List.flatten_cons]
    exact Vals.append h (Vals.rep h k)
theorem erase_last {α : Type} (l : List α) : l.eraseIdx (l.length - 1) = l.dropLast := by
  induction l with
  | nil => rfl
  | cons a r ih =>
    cases r with
    | nil => rfl
    | cons b r =>
      have e : (a :: b :: r).length - 1 = ((b :: r).length - 1) + 1 := by
        have h1 : (a :: b :: r).length = r.length + 2 := rfl
        have h2 : (b :: r).length = r.length + 1 := rfl
        omega
      rw [e, List.eraseIdx_cons_succ, ih]
      all_goals rfl
theorem len_erase {α : Type} : ∀ (l : List α) (i : Nat), (l.eraseIdx i).length ≤ l.length
  | [], _ => Nat.le_refl _
  | _ :: _, 0 => Nat.le_succ _
  | _ :: r, i + 1 => Nat.succ_le_succ (len_erase r i)
theorem foldl_rep (its : List Value) : ∀ (k : Nat) (acc : List Value),
    List.foldl (fun x1 x2 => x1 ++ x2) acc.toArray (List.replicate k its.toArray) = (acc ++ (List.replicate k its).flatten).toArray
  | 0, acc => by simp
  | k + 1, acc => by
    have e : acc.toArray ++ its.toArray = (acc ++ its).toArray := by simp
    have e2 : (acc ++ its) ++ (List.replicate k its).flatten = acc ++ (List.replicate (k + 1) its).flatten := by
      rw [List.replicate_succ, List.flatten_cons, List.append_assoc]
    rw [← e2, ← foldl_rep its k (acc ++ its), ← e, List.replicate_succ, List.foldl_cons]

section
variable {X : Cx} {pins : List (Addr × Obj)} {σ : St} {H : Hp} {s : Shared} {l b : Addr} {xs ys zs : List V}

/-! ### the two steps: a tracked list is rewritten, a new list is laid -/
theorem Inv.lset {its its' : List Value} {n : Nat} {f : Array Value → Array Value} {t' : Nat} (I : Inv X pins σ H s) (hH : H l = some (.lst xs))
    (e : s.heap.get? l = some { cls := .type "list", data := .seq its.toArray n }) (hf : f its.toArray = its'.toArray) (hv : Vals ys its') (hz : ys.length ≤ sizeLine) :
    Inv X pins σ (upd H l (.lst ys)) { s with heap := s.heap.update l (Obj.mapSeq f), toks := t' } := by
  have q := PySem.IsL.update e f
  rw [hf] at q
  refine I.write (x := l) (e := l) (by rw [hH]; exact trivial) (.inl rfl) (fun b' u hb hu => (Heap.get?_update_other s.heap (Obj.mapSeq f) (Ne.symm hb)).trans hu) ⟨_, q⟩ ?_
  exact ⟨hz, its', _, hv, q⟩
theorem Inv.lnew {its : List Value} {t' : Nat} (I : Inv X pins σ H s) (hv : Vals ys its) (hz : ys.length ≤ sizeLine) :
    Inv X pins σ (upd H s.heap.objs.size (.lst ys)) { s with heap := s.heap.push { cls := .type "list", data := .seq its.toArray }, toks := t' } :=
  I.laid (fun _ _ q => Heap.get?_push_of_some _ q) (Nat.le_refl _) ⟨hz, its, 0, hv, Heap.get?_push_size _ rfl⟩
theorem Inv.fresh (I : Inv X pins σ H s) : H s.heap.objs.size = none := I.hok.fresh (Nat.le_refl _)
theorem Inv.lstM (I : Inv X pins σ H s) (hH : H l = some (.lst xs)) : xs.length ≤ sizeLine ∧ ∃ (its : List Value) (n : Nat), Vals xs its ∧ xs.length = its.length ∧ s.heap.get? l = some { cls := .type "list", data := .seq its.toArray n } := by
  obtain ⟨z, its, n, r, e⟩ := I.hok l _ hH
  exact ⟨z, its, n, r, r.length, e⟩

theorem notLongL {n : Nat} (h : n ≤ sizeLine) : Builtin.List.listTooLong n = false := by
  unfold Builtin.List.listTooLong
  exact decide_eq_false (by omega)
end

section
variable {X : Cx}

/-! ### methods -/
def rAppend : V → List V → Hp → VK → Prop := fun x vs H Q => ∃ l xs y, x = .ref l ∧ vs = [y] ∧ H l = some (.lst xs) ∧ xs.length < sizeLine ∧ Q .non (upd H l (.lst (xs ++ [y])))
theorem mt_append : MtM X "list.append" rAppend := by
  intro pins s σ H x vs v us Q I rx rv h
  obtain ⟨l, xs, y, rfl, rfl, hH, hz, q⟩ := h
  cases rx
  obtain ⟨u, rfl, ru⟩ := rv.one
  obtain ⟨z, its, n, r, hl, e⟩ := I.lstM hH
  refine call_meets F.slot_list_append ⟨_, e, rfl⟩ F.entry_list_append (F.args_list_append_2 _ _) (PySem.list_append l its.toArray n u (by rw [List.size_toArray]; omega)) ⟨e, ?_⟩
  refine ⟨.non, _, I.lset (its' := its ++ [u]) hH e (by simp) (r.append (.cons ru .nil)) ?_, rfl, q⟩
  rw [List.length_append, List.length_singleton]
  omega

def rExtend : V → List V → Hp → VK → Prop := fun x vs H Q => ∃ l b xs zs, x = .ref l ∧ vs = [.ref b] ∧ H l = some (.lst xs) ∧ H b = some (.lst zs) ∧ xs.length + zs.length ≤ sizeLine ∧ Q .non (upd H l (.lst (xs ++ zs)))
theorem mt_extend : MtM X "list.extend" rExtend := by
  intro pins s σ H x vs v us Q I rx rv h
  obtain ⟨l, b, xs, zs, rfl, rfl, hH, hB, hz, q⟩ := h
  cases rx
  obtain ⟨u, rfl, ru⟩ := rv.one
  cases ru
  obtain ⟨z, its, n, r, hl, e⟩ := I.lstM hH
  obtain ⟨z2, its2, n2, r2, hl2, e2⟩ := I.lstM hB
  have hsz : its.toArray.size + its2.toArray.size ≤ sizeLine := by rw [List.size_toArray, List.size_toArray]; omega
  have hlong : ¬ (!its.toArray.isEmpty && Builtin.List.listTooLong (its.toArray.size + its2.toArray.size)) = true := by
    rw [notLongL hsz, Bool.and_false]
    exact Bool.false_ne_true
  refine call_meets F.slot_list_extend ⟨_, e, rfl⟩ F.entry_list_extend (F.args_list_extend_2 _ _)
    (AutoSeq1.list_extend_list_list_0 l its.toArray n b its2.toArray n2 hlong (by rw [List.size_toArray]; omega) (by omega)) ⟨e, e2, ?_⟩
  refine ⟨.non, _, I.lset (its' := its ++ its2) hH e (by simp) (r.append r2) ?_, rfl, q⟩
  rw [List.length_append]
  omega

def rPop : V → List V → Hp → VK → Prop := fun x vs H Q => ∃ l xs y, x = .ref l ∧ vs = [] ∧ H l = some (.lst xs) ∧ xs[xs.length - 1]? = some y ∧ Q y (upd H l (.lst xs.dropLast))
theorem mt_pop : MtM X "list.pop" rPop := by
  intro pins s σ H x vs v us Q I rx rv h
  obtain ⟨l, xs, y, rfl, rfl, hH, hy, q⟩ := h
  cases rx
  have hus := rv.zero
  subst hus
  obtain ⟨z, its, n, r, hl, e⟩ := I.lstM hH
  obtain ⟨u, hu, ru⟩ := r.get hy
  have hy' : its.toArray[its.toArray.size - 1]? = some u := by
    show its.toArray[its.length - 1]? = some u
    rw [← Array.getElem?_toList, ← hl]
    exact hu
  refine call_meets F.slot_list_pop ⟨_, e, rfl⟩ F.entry_list_pop (F.args_list_pop_1 _) (MeetsSeq.list_pop_last l its.toArray n u hy' (by rw [List.size_toArray]; omega)) ⟨e, ?_⟩
  refine ⟨y, _, I.lset (its' := its.dropLast) hH e ?_ r.dropLast ?_, ru, q⟩
  · show its.toArray.eraseIdxIfInBounds (its.toArray.size - 1) = its.dropLast.toArray
    rw [List.size_toArray, List.eraseIdxIfInBounds_toArray, erase_last]
  · rw [List.length_dropLast]
    omega

def rPopAt : V → List V → Hp → VK → Prop := fun x vs H Q => ∃ l xs i k y, x = .ref l ∧ vs = [.int i] ∧ H l = some (.lst xs) ∧ -(2 ^ 63) ≤ i ∧ i < 2 ^ 63 ∧ seqIndex? i xs.length = some k ∧ xs[k]? = some y ∧ Q y (upd H l (.lst (xs.eraseIdx k)))
theorem mt_popAt : MtM X "list.pop" rPopAt := by
  intro pins s σ H x vs v us Q I rx rv h
  obtain ⟨l, xs, i, k, y, rfl, rfl, hH, h1, h2, hk, hy, q⟩ := h
  cases rx
  obtain ⟨u, rfl, ru⟩ := rv.one
  obtain ⟨t, rfl⟩ := ru
  obtain ⟨z, its, n, r, hl, e⟩ := I.lstM hH
  obtain ⟨w, hw, rw'⟩ := r.get hy
  refine call_meets F.slot_list_pop ⟨_, e, rfl⟩ F.entry_list_pop (F.args_list_pop_2 _ _)
    (MeetsSeq.list_pop_at l its.toArray n i t k w (fitsIndex_both h1 h2) (by rw [List.size_toArray, ← hl]; exact hk) (by rw [← Array.getElem?_toList]; exact hw) (by rw [List.size_toArray]; omega)) ⟨e, ?_⟩
  refine ⟨y, _, I.lset (its' := its.eraseIdx k) hH e ?_ (r.eraseIdx k) ?_, rw', q⟩
  · show its.toArray.eraseIdxIfInBounds k = (its.eraseIdx k).toArray
    rw [List.eraseIdxIfInBounds_toArray]
  · have := len_erase xs k
    omega

def rReverse : V → List V → Hp → VK → Prop := fun x vs H Q => ∃ l xs, x = .ref l ∧ vs = [] ∧ H l = some (.lst xs) ∧ Q .non (upd H l (.lst xs.reverse))
theorem mt_reverse : MtM X "list.reverse" rReverse := by
  intro pins s σ H x vs v us Q I rx rv h
  obtain ⟨l, xs, rfl, rfl, hH, q⟩ := h
  cases rx
  have hus := rv.zero
  subst hus
  obtain ⟨z, its, n, r, hl, e⟩ := I.lstM hH
  refine call_meets F.slot_list_reverse ⟨_, e, rfl⟩ F.entry_list_reverse (F.args_list_reverse_1 _) (AutoSeq1.list_reverse_list_0 l its.toArray n (by rw [List.size_toArray]; omega)) ⟨e, ?_⟩
  refine ⟨.non, _, I.lset (its' := its.reverse) hH e (by simp) r.reverse ?_, rfl, q⟩
  rw [List.length_reverse]
  omega

def rClear : V → List V → Hp → VK → Prop := fun x vs H Q => ∃ l xs, x = .ref l ∧ vs = [] ∧ H l = some (.lst xs) ∧ Q .non (upd H l (.lst []))
theorem mt_clear : MtM X "list.clear" rClear := by
  intro pins s σ H x vs v us Q I rx rv h
  obtain ⟨l, xs, rfl, rfl, hH, q⟩ := h
  cases rx
  have hus := rv.zero
  subst hus
  obtain ⟨z, its, n, r, hl, e⟩ := I.lstM hH
  refine call_meets F.slot_list_clear ⟨_, e, rfl⟩ F.entry_list_clear (F.args_list_clear_1 _) (AutoSeq1.list_clear_list_0 l its.toArray n (by rw [List.size_toArray]; omega)) ⟨e, ?_⟩
  exact ⟨.non, _, I.lset (its' := []) (ys := []) hH e rfl .nil (Nat.zero_le _), rfl, q⟩

/-! ### list + list, list += list, list * int -/
def rCat : R2 := fun x y H Q => ∃ l b xs zs, x = .ref l ∧ y = .ref b ∧ H l = some (.lst xs) ∧ H b = some (.lst zs) ∧ xs.length + zs.length ≤ sizeLine ∧ ∀ p, H p = none → Q (.ref p) (upd H p (.lst (xs ++ zs)))
theorem op_cat : OpR X (binaryOp .Add) rCat := by
  intro pins s σ H x y v u Q I rx ry h
  obtain ⟨l, b, xs, zs, rfl, rfl, hH, hB, hz, q⟩ := h
  cases rx
  cases ry
  obtain ⟨z, its, n, r, hl, e⟩ := I.lstM hH
  obtain ⟨z2, its2, n2, r2, hl2, e2⟩ := I.lstM hB
  refine PySem.P.add_list e e2 ?_ (by rw [List.size_toArray, List.size_toArray]; omega)
  have ea : its.toArray ++ its2.toArray = (its ++ its2).toArray := by simp
  rw [ea]
  exact ⟨.ref _, _, I.lnew (t' := s.toks) (r.append r2) (by rw [List.length_append]; omega), rfl, q _ I.fresh⟩
/-- a list times an int (a negative one is nothing) -/
def rRep : R2 := fun x y H Q => ∃ l k xs, x = .ref l ∧ y = .int k ∧ H l = some (.lst xs) ∧ -(2 ^ 63) ≤ k ∧ k < 2 ^ 63 ∧ xs.length * k.toNat ≤ sizeLine ∧
  ∀ p, H p = none → Q (.ref p) (upd H p (.lst (List.replicate k.toNat xs).flatten))
theorem len_rep {α : Type} (xs : List α) (k : Nat) : (List.replicate k xs).flatten.length = k * xs.length := by
  induction k with
  | zero => simp
  | succ k ih => rw [List.replicate_succ, List.flatten_cons, List.length_append, ih, Nat.succ_mul, Nat.add_comm]
theorem op_rep : OpR X (binaryOp .Mult) rRep := by
  intro pins s σ H x y v u Q I rx ry h
  obtain ⟨l, k, xs, rfl, rfl, hH, h1, h2, hz, q⟩ := h
  cases rx
  obtain ⟨t, rfl⟩ := ry
  obtain ⟨z, its, n, r, hl, e⟩ := I.lstM hH
  have hlen : its.toArray.size * k.toNat ≤ sizeLine := by rw [List.size_toArray, ← hl]; exact hz
  have hcap : ¬ its.toArray.size * k.toNat > (2 ^ 63 - 1) / 8 := by
    have : (sizeLine : Nat) ≤ (2 ^ 63 - 1) / 8 := by decide
    omega
  have hfit : ¬ (!Builtin.List.listFitsIndex k) = true := by
    rw [fitsIndex_both h1 h2]
    exact Bool.false_ne_true
  have hlong : ¬ Builtin.List.listTooLong (its.toArray.size * k.toNat) = true := by
    rw [notLongL hlen]
    exact Bool.false_ne_true
  have hnew : List.foldl (fun x1 x2 => x1 ++ x2) #[] (List.replicate (if its.toArray.isEmpty = true then 0 else k.toNat) its.toArray) = (List.replicate k.toNat its).flatten.toArray := by
    have f0 : ∀ m : Nat, List.foldl (fun x1 x2 => x1 ++ x2) #[] (List.replicate m its.toArray) = (List.replicate m its).flatten.toArray := fun m => by
      have := foldl_rep its m []
      rw [List.nil_append] at this
      exact this
    rw [f0]
    cases its with
    | nil => simp
    | cons a r' => rw [if_neg (by simp)]
  refine wpAny_binaryOp_repeat_ref (T := "list") (U := "int") (by decide) ⟨_, e, rfl⟩ (fun s' => typeIs_int s' k t) noFill_list_mul F.fills_int_mul F.slot_int_rmul repeat_list F.slot_int_index.lookup
    (call_meets F.slot_int_rmul (typeIs_int s k t) F.entry_int_rmul (F.args_int_rmul_2 _ _) (int___rmul___int_list k t l its.toArray n)
      ⟨e, rfl, ⟨_, e, rfl⟩, call_meets F.slot_list_mul ⟨_, e, rfl⟩ F.entry_list_mul (F.args_list_mul_2 _ _) (AutoListH.list___mul___list_int_3 l its.toArray n k t hfit hcap hlong) ⟨e, ?_⟩⟩)
  rw [hnew]
  exact ⟨.ref _, _, I.lnew (t' := s.toks) (r.rep k.toNat) (by rw [len_rep, Nat.mul_comm]; exact hz), rfl, q _ I.fresh⟩

/-! ### del xs[i] -/
theorem del_list {pins : List (Addr × Obj)} {s : Shared} {σ : St} {H : Hp} {l : Addr} {xs : List V} {i : Int} {t : Tok} {k : Nat} {Q : Unit → Shared → Prop} (I : Inv X pins σ H s) (hH : H l = some (.lst xs))
    (h1 : -(2 ^ 63) ≤ i) (h2 : i < 2 ^ 63) (hk : seqIndex? i xs.length = some k) (h : ∀ s', Inv X pins σ (upd H l (.lst (xs.eraseIdx k))) s' → Q () s') :
    wpAny (model X.prog X.w) X.A (delItem (.ref l) (.int i t)) Q X.xe s := by
  obtain ⟨z, its, n, r, hl, e⟩ := I.lstM hH
  refine PySem.P.delItem_list (k := k) e (fitsIndex_both h1 h2) (by rw [List.size_toArray, ← hl]; exact hk) (h _ ?_) (by rw [List.size_toArray]; omega)
  refine I.lset (its' := its.eraseIdx k) (t' := s.toks) hH e ?_ (r.eraseIdx k) ?_
  · show its.toArray.eraseIdxIfInBounds k = (its.eraseIdx k).toArray
    rw [List.eraseIdxIfInBounds_toArray]
  · have := len_erase xs k
    omega
end

/-! ### xs[a:b] = ys -/
section
variable {prog : Program} {w : World} {A : Around} {E : Value → Shared → Prop} {s : Shared}
theorem splice_eq (its its2 : List Value) (a c : Nat) : its.toArray.extract 0 a ++ its2.toArray ++ its.toArray.extract c its.toArray.size = (its.take a ++ its2 ++ its.drop c).toArray := by
  apply Array.toList_inj.mp
  first
    | (simp
       exact List.take_of_length_le (by simp))
    | simp [List.take_of_length_le]
    | simp
theorem bounds_run {a c n : Nat} (hac : a ≤ c) (hc : c ≤ n) : sliceBounds (some (a : Int)) (some (c : Int)) none n = ((a : Int), (c : Int), 1) := by
  simp only [sliceBounds, Option.getD_none]
  have h1 : ¬ ((a : Int) < 0) := by omega
  have h2 : ¬ ((c : Int) < 0) := by omega
  simp only [h1, h2, if_false, show (1 : Int) > 0 by decide, if_true]
  congr 1
  · omega
  · congr 1; omega
set_option maxRecDepth 100000 in
/-- list.__setitem__ with a slice of step one and another list -/
theorem setItem_slice {l b sl : Addr} {items new : Array Value} {n n2 : Nat} {vl vu : Value} {a c : Nat} {Q : Unit → Shared → Prop}
    (e : s.heap.get? l = some { cls := .type "list", data := .seq items n }) (e2 : s.heap.get? b = some { cls := .type "list", data := .seq new n2 }) (hne : l ≠ b)
    (hs : s.heap.IsSliceOf sl vl vu .none) (pl : IsPart vl (some (a : Int))) (pu : IsPart vu (some (c : Int))) (hac : a ≤ c) (hc : c ≤ items.size)
    (hsz : items.size + new.size ≤ sizeLine) (h : Q () { s with heap := s.heap.update l (Obj.mapSeq fun xs => xs.extract 0 a ++ new ++ xs.extract c xs.size) }) :
    wpAny (model prog w) A (setItem (.ref l) (.ref sl) (.ref b)) Q E s := by
  have hl : s.heap.IsList l items := PySem.IsL.isList e
  have hb : s.heap.IsList b new := PySem.IsL.isList e2
  obtain ⟨os, hos, hcs, hds⟩ := id hs
  have hTs : s.TypeIs (.ref sl) "slice" := ⟨os, hos, hcs⟩
  have hstep : ¬ ((rawPart none == rawInt 0) = true) := Bool.false_ne_true
  have hsame : Builtin.List.listSameRef (.ref l) (.ref b) = false := by
    unfold Builtin.List.listSameRef
    exact beq_eq_false_iff_ne.mpr hne
  have hmax : (max (a : Int) (c : Int)).toNat = c := by omega
  have hz' : ((fun xs : Array Value => xs.extract 0 a ++ new ++ xs.extract c xs.size) items).size ≤ sizeLine + 1 := by
    simp only [Array.size_append, Array.size_extract]
    omega
  unfold setItem
  try with_reducible refine wpAny_holding ?_
  first | refine wpAny_bind (wpAny_pure ?_) | skip
  refine wpAny_bind (wpAny_sequenceKey hl.typeIs (by decide) ?_)
  refine wpAny_bind (wpAny_callSpecial?_slot (name := Str.ofString "__setitem__") hl.typeIs slot_list_setitem
    (wpAny_call_entry slot_list_setitem hl.typeIs entry_list_setitem ?_ (args_list_setitem _ _ _)))
  show wpAny _ _ (Builtin.List.listSubscript? (.ref sl) >>= _) _ _ s
  refine wpAny_bind ?_
  unfold Builtin.List.listSubscript?
  refine wpAny_bind (wpAny_specialOf hTs slice_no_index ?_)
  simp only [Option.isNone_none, if_true]
  refine wpAny_pure ?_
  show wpAny _ _ (typeOf (.ref sl) >>= _) _ _ s
  refine wpAny_bind (wpAny_typeOf hTs ?_)
  first
    | rw [if_neg (by decide)]
    | refine PySem.W.KFB.if_not (by decide) ?_
  rw [listSliceParts_eq]
  refine wpAny_bind (wpAny_bind (wpAny_field hos hds (x := .none) rfl (wpAny_bind (wpAny_listPart .none ?_))))
  rw [if_neg hstep]
  refine wpAny_bind (wpAny_field hos hds (x := vl) rfl (wpAny_bind (wpAny_listPart pl ?_)))
  refine wpAny_bind (wpAny_field hos hds (x := vu) rfl (wpAny_bind (wpAny_listPart pu (wpAny_pure ?_))))
  first
    | simp only [hsame, Bool.false_eq_true, if_false]
    | refine PySem.W.KFB.if_not hsame ?_
    | (dsimp only
       rw [if_neg (by rw [hsame]; exact Bool.false_ne_true)])
  refine wpAny_bind (m := Builtin.List.listAllItems (.ref b) "must assign iterable to extended slice") ?_
  unfold Builtin.List.listAllItems
  refine wpAny_bind (wpAny_typeOf hb.typeIs ?_)
  first
    | refine PySem.W.KFB.if_so (by decide) ?_
    | rw [if_pos (by decide)]
    | simp only [beq_self_eq_true, Bool.true_or, if_true]
  unfold Builtin.List.listItems
  refine wpAny_bind (wpAny_seqItems e2 rfl (wpAny_pure ?_))
  refine wpAny_bind (wpAny_bind (wpAny_seqItems e rfl (wpAny_pure ?_)))
  refine wpAny_bind (wpAny_of_eq ((sliceIndices_raw (some (a : Int)) (some (c : Int)) none items.size (by simp)).trans (congrArg (pure : Int × Int × Int → Sem (Int × Int × Int)) (bounds_run hac hc))) ?_)
  show wpAny _ _ (if ((1 : Int) == 1) = true then _ else _) _ _ s
  rw [if_pos (by decide)]
  refine wpAny_bind (wpAny_rule ?_)
  first
    | simp only [notLongL hsz, Bool.false_eq_true, if_false]
    | refine PySem.W.KFB.if_not (notLongL hsz) ?_
  first | refine wpAny_bind (wpAny_pure ?_) | skip
  show wpAny _ _ (updateSeq l (fun xs => xs.extract 0 ((a : Int)).toNat ++ new ++ xs.extract (max (a : Int) (c : Int)).toNat xs.size) >>= _) _ _ s
  rw [hmax, Int.toNat_natCast]
  refine wpAny_bind (wpAny_updateSeq (hz := Nat.le_trans (Nat.le_add_right _ _) hsz) (_hz' := hz') e rfl ?_)
  refine wpAny_bind (wpAny_letGo ?_)
  first
    | exact wpAny_bind (wpAny_pure (wpAny_pure ⟨.none, rfl, wpAny_pure h⟩))
    | exact wpAny_pure ⟨.none, rfl, wpAny_pure h⟩
end

section
variable {X : Cx}
/-- xs[a:c] = ys of another list, at the value level: sl is the slice object that was just made -/
theorem set_slice {pins : List (Addr × Obj)} {s : Shared} {σ : St} {H : Hp} {l b sl : Addr} {xs ys : List V} {a c : Int} {vl vu : Value} {Q : Unit → Shared → Prop} (I : Inv X pins σ H s)
    (hH : H l = some (.lst xs)) (hB : H b = some (.lst ys)) (hne : l ≠ b) (hs : s.heap.IsSliceOf sl vl vu .none) (ra : RelV (.int a) vl) (rc : RelV (.int c) vu) (h0 : 0 ≤ a) (hac : a ≤ c) (hc : c ≤ xs.length)
    (hz : xs.length + ys.length ≤ sizeLine) (h : ∀ s', Inv X pins σ (upd H l (.lst (xs.take a.toNat ++ ys ++ xs.drop c.toNat))) s' → Q () s') :
    wpAny (model X.prog X.w) X.A (setItem (.ref l) (.ref sl) (.ref b)) Q X.xe s := by
  obtain ⟨ta, rfl⟩ := ra
  obtain ⟨tc, rfl⟩ := rc
  obtain ⟨z, its, n, r, hl, e⟩ := I.lstM hH
  obtain ⟨z2, its2, n2, r2, hl2, e2⟩ := I.lstM hB
  obtain ⟨a', rfl⟩ := Int.eq_ofNat_of_zero_le h0
  obtain ⟨c', rfl⟩ := Int.eq_ofNat_of_zero_le (Int.le_trans h0 hac)
  simp only [Int.toNat_natCast] at h
  refine setItem_slice (a := a') (c := c') e e2 hne hs (.int _ _) (.int _ _) (by omega) (by rw [List.size_toArray]; omega) (by rw [List.size_toArray, List.size_toArray]; omega) (h _ ?_)
  refine I.lset (its' := its.take a' ++ its2 ++ its.drop c') (t' := s.toks) hH e ?_ (Vals.append (Vals.append (r.take _) r2) (r.drop _)) ?_
  · exact splice_eq its its2 a' c'
  · rw [List.length_append, List.length_append, List.length_take, List.length_drop]
    omega
end
end L2

namespace L2
open PySem PySem.Spec PyProof.Rows

/-! ### lists of pairs as tables -/
section
variable {κ : Type} [DecidableEq κ]
def valV (kvs : List (κ × V)) (k : κ) : Option V := (kvs.find? fun kv => decide (kv.1 = k)).map (·.2)
/-- in its place, or at the end -/
def putK (kvs : List (κ × V)) (k : κ) (v : V) : List (κ × V) :=
  if (kvs.any fun kv => decide (kv.1 = k)) = true then kvs.map (fun kv => if kv.1 = k then (kv.1, v) else kv) else kvs ++ [(k, v)]
def dropK (kvs : List (κ × V)) (k : κ) : List (κ × V) := kvs.filter fun kv => decide (kv.1 ≠ k)

theorem valV_nil {k : κ} : valV ([] : List (κ × V)) k = none := rfl
theorem valV_pos {p : κ × V} {r : List (κ × V)} {k : κ} (e : p.1 = k) : valV (p :: r) k = some p.2 := by simp [valV, List.find?_cons, e]
theorem valV_neg {p : κ × V} {r : List (κ × V)} {k : κ} (e : ¬ p.1 = k) : valV (p :: r) k = valV r k := by simp [valV, List.find?_cons, e]
theorem valV_any (k : κ) : ∀ kvs : List (κ × V), (kvs.any fun kv => decide (kv.1 = k)) = (valV kvs k).isSome
  | [] => rfl
  | p :: r => by
    rw [List.any_cons]
    by_cases e : p.1 = k
    · simp only [valV_pos e, decide_eq_true e, Bool.true_or, Option.isSome_some]
    · rw [valV_neg e, decide_eq_false e, Bool.false_or]; exact valV_any k r
theorem valV_map (k j : κ) (y : V) : ∀ kvs : List (κ × V), valV (kvs.map fun kv => if kv.1 = k then (kv.1, y) else kv) j = (valV kvs j).map fun x => if j = k then y else x
  | [] => rfl
  | p :: r => by
    have ih := valV_map k j y r
    rw [List.map_cons]
    by_cases h : p.1 = k
    · rw [if_pos h]
      by_cases e : p.1 = j
      · rw [valV_pos (p := (p.1, y)) e, valV_pos e, Option.map_some, if_pos (e.symm.trans h)]
      · rw [valV_neg (p := (p.1, y)) e, valV_neg e, ih]
    · rw [if_neg h]
      by_cases e : p.1 = j
      · rw [valV_pos (p := p) e, valV_pos e, Option.map_some, if_neg (fun z => h (e.trans z))]
      · rw [valV_neg (p := p) e, valV_neg e, ih]
theorem valV_snoc (k j : κ) (y : V) : ∀ kvs : List (κ × V), valV kvs k = none → valV (kvs ++ [(k, y)]) j = if j = k then some y else valV kvs j
  | [], _ => by
    by_cases e : k = j
    · rw [if_pos e.symm]; exact valV_pos (p := (k, y)) e
    · rw [if_neg (fun z => e z.symm)]; exact valV_neg (p := (k, y)) e
  | p :: r, hn => by
    rw [List.cons_append]
    have hk : ¬ p.1 = k := fun z => by rw [valV_pos z] at hn; cases hn
    rw [valV_neg hk] at hn
    have ih := valV_snoc k j y r hn
    by_cases e : p.1 = j
    · rw [valV_pos e, valV_pos e, if_neg (fun z => hk (e.trans z))]
    · rw [valV_neg e, valV_neg e, ih]
theorem valV_put (kvs : List (κ × V)) (k j : κ) (y : V) : valV (putK kvs k y) j = if j = k then some y else valV kvs j := by
  unfold putK
  by_cases a : (kvs.any fun kv => decide (kv.1 = k)) = true
  · rw [if_pos a, valV_map]
    rw [valV_any] at a
    by_cases e : j = k
    · obtain ⟨x, hx⟩ := Option.isSome_iff_exists.mp a
      rw [if_pos e, e, hx, Option.map_some, if_pos rfl]
    · rw [if_neg e]
      cases valV kvs j with
      | none => rfl
      | some x => rw [Option.map_some, if_neg e]
  · rw [if_neg a]
    refine valV_snoc k j y kvs ?_
    rw [valV_any] at a
    cases q : valV kvs k with
    | none => rfl
    | some x => rw [q] at a; exact (a rfl).elim
theorem length_putK (kvs : List (κ × V)) (k : κ) (v : V) : (putK kvs k v).length ≤ kvs.length + 1 := by
  unfold putK
  split
  · rw [List.length_map]; omega
  · rw [List.length_append, List.length_cons, List.length_nil]; omega
theorem putK_new {kvs : List (κ × V)} {k : κ} (v : V) (h : valV kvs k = none) : putK kvs k v = kvs ++ [(k, v)] := by
  unfold putK
  rw [valV_any, h]
  exact if_neg (by decide)

theorem RelO.isSome_eq {o : Option V} {u : Option Value} (r : RelO o u) : o.isSome = u.isSome := by
  cases o with
  | none => cases u with
    | none => rfl
    | some _ => exact (show False from r).elim
  | some _ => cases u with
    | none => exact (show False from r).elim
    | some _ => rfl
theorem RelO.getD {o : Option V} {u : Option Value} {d : V} {d' : Value} (r : RelO o u) (rd : RelV d d') : RelV (o.getD d) (u.getD d') := by
  cases o with
  | none => cases u with
    | none => exact rd
    | some _ => exact (show False from r).elim
  | some _ => cases u with
    | none => exact (show False from r).elim
    | some _ => exact r

/-- raw tables of the same keys -/
theorem KV.val {kvs : List (κ × V)} {vs : List (κ × Value)} (r : KV kvs vs) (k : κ) : RelO (valV kvs k) (valueAt vs k) := by
  unfold KV at r
  induction r with
  | nil => exact True.intro
  | @cons p q ps qs h t ih =>
    obtain ⟨h1, h2⟩ := h
    by_cases e : p.1 = k
    · have e' : q.1 = k := h1.symm.trans e
      have b : valueAt (q :: qs) k = some q.2 := by simp [valueAt, List.find?_cons, e']
      rw [valV_pos e, b]; exact h2
    · have e' : ¬ q.1 = k := fun z => e (h1.trans z)
      have b : valueAt (q :: qs) k = valueAt qs k := by simp [valueAt, List.find?_cons, e']
      rw [valV_neg e, b]; exact ih
theorem KV.any {kvs : List (κ × V)} {vs : List (κ × Value)} (r : KV kvs vs) (k : κ) : (kvs.any fun kv => decide (kv.1 = k)) = vs.any fun kv => decide (kv.1 = k) := by
  unfold KV at r
  induction r with
  | nil => rfl
  | cons h t ih => rw [List.any_cons, List.any_cons, ih, h.1]
theorem KV.repl {kvs : List (κ × V)} {vs : List (κ × Value)} (r : KV kvs vs) (k : κ) {y : V} {u : Value} (ry : RelV y u) :
    KV (kvs.map fun kv => if kv.1 = k then (kv.1, y) else kv) (vs.map fun kv => if kv.1 = k then (kv.1, u) else kv) := by
  unfold KV at r ⊢
  induction r with
  | nil => exact .nil
  | @cons p q ps qs h t ih =>
    rw [List.map_cons, List.map_cons]
    refine .cons ?_ ih
    obtain ⟨h1, h2⟩ := h
    by_cases e : p.1 = k
    · rw [if_pos e, if_pos (h1.symm.trans e)]; exact ⟨h1, ry⟩
    · rw [if_neg e, if_neg (fun z => e (h1.trans z))]; exact ⟨h1, h2⟩
theorem KV.put {kvs : List (κ × V)} {vs : List (κ × Value)} (r : KV kvs vs) (k : κ) {y : V} {u : Value} (ry : RelV y u) : KV (putK kvs k y) (stored vs k u) := by
  unfold putK stored
  rw [r.any k]
  by_cases e : (vs.any fun kv => decide (kv.1 = k)) = true
  · rw [if_pos e, if_pos e]; exact r.repl k ry
  · rw [if_neg e, if_neg e]; exact Paired.snoc r ⟨rfl, ry⟩
theorem KV.drop {kvs : List (κ × V)} {vs : List (κ × Value)} (r : KV kvs vs) (k : κ) : KV (dropK kvs k) (without vs k) := by
  unfold KV at r ⊢
  unfold dropK without
  induction r with
  | nil => exact .nil
  | @cons p q ps qs h t ih =>
    obtain ⟨h1, h2⟩ := h
    rw [List.filter_cons, List.filter_cons]
    by_cases e : p.1 = k
    · have a : ¬ decide (p.1 ≠ k) = true := by simp [e]
      have b : ¬ decide (q.1 ≠ k) = true := by simp [h1.symm.trans e]
      rw [if_neg a, if_neg b]; exact ih
    · have e' : ¬ q.1 = k := fun z => e (h1.trans z)
      have a : decide (p.1 ≠ k) = true := by simp [e]
      have b : decide (q.1 ≠ k) = true := by simp [e']
      rw [if_pos a, if_pos b]; exact .cons ⟨h1, h2⟩ ih
theorem KV.keys {kvs : List (κ × V)} {vs : List (κ × Value)} (r : KV kvs vs) : kvs.map (·.1) = vs.map (·.1) := by
  unfold KV at r
  induction r with
  | nil => rfl
  | cons h t ih => rw [List.map_cons, List.map_cons, ih, h.1]
theorem KV.length {kvs : List (κ × V)} {vs : List (κ × Value)} (r : KV kvs vs) : kvs.length = vs.length := Paired.length r
theorem dropK_le (kvs : List (κ × V)) (k : κ) : (dropK kvs k).length ≤ kvs.length := List.length_filter_le _ _
end


/-! ### a tracked dict, its keys ints and texts or tuples of these -/
theorem kV_is {P : Program} {w : World} {k : Key} {u : Value} (r : RelV (kV k) u) : (mixKind P w).is k u = true := by
  cases k with
  | inl i => obtain ⟨t, e⟩ := (show ∃ t, u = Value.int i t from r); subst e; exact mixKind_int P w i t
  | inr x => obtain ⟨t, e⟩ := (show ∃ t, u = Value.str x t from r); subst e; exact mixKind_str P w x t
theorem kV_inj {a b : Key} (e : kV a = kV b) : a = b := by
  cases a with
  | inl i => cases b with
    | inl j => have e' : V.int i = V.int j := e; injection e' with e'; rw [e']
    | inr y => exact nomatch (show V.int i = V.str y from e)
  | inr x => cases b with
    | inl j => exact nomatch (show V.str x = V.int j from e)
    | inr y => have e' : V.str x = V.str y := e; injection e' with e'; rw [e']
theorem kVs_inj : ∀ {a b : List Key}, a.map kV = b.map kV → a = b
  | [], [], _ => rfl
  | [], _ :: _, e => by simp at e
  | _ :: _, [], e => by simp at e
  | x :: xs, y :: ys, e => by
    rw [List.map_cons, List.map_cons] at e
    injection e with e1 e2
    rw [kV_inj e1, kVs_inj e2]
theorem items_are {P : Program} {w : World} : ∀ {ks : List Key} {us : List Value}, Vals (ks.map kV) us → ItemsAre (mixKind P w) ks us
  | [], _, r => by rw [List.map_nil] at r; cases r; exact .nil
  | k :: ks, _, r => by
    rw [List.map_cons] at r
    cases r with
    | cons h t => exact .cons (kV_is h) (items_are t)

/-- raw entries of a dict with tuple keys -/
abbrev KT (H : Hp) : List (List Key × V) → List (List Key × Addr × Value) → Prop := Paired fun p q => p.1 = q.1 ∧ H q.2.1 = some (.tup (p.1.map kV)) ∧ RelV p.2 q.2.2
theorem KT.val {H : Hp} {kvs : List (List Key × V)} {xs : List (List Key × Addr × Value)} (r : KT H kvs xs) (k : List Key) : RelO (valV kvs k) ((atKey xs k).map (·.2)) := by
  induction r with
  | nil => exact True.intro
  | @cons p q ps qs h t ih =>
    obtain ⟨h1, _, h2⟩ := h
    by_cases e : p.1 = k
    · have e' : q.1 = k := h1.symm.trans e
      have b : atKey (q :: qs) k = some q.2 := by simp [atKey, List.find?_cons, e']
      rw [valV_pos e, b]; exact h2
    · have e' : ¬ q.1 = k := fun z => e (h1.trans z)
      have b : atKey (q :: qs) k = atKey qs k := by simp [atKey, List.find?_cons, e']
      rw [valV_neg e, b]; exact ih
theorem KT.repl {H : Hp} {kvs : List (List Key × V)} {xs : List (List Key × Addr × Value)} (r : KT H kvs xs) (k : List Key) {y : V} {u : Value} (ry : RelV y u) :
    KT H (kvs.map fun kv => if kv.1 = k then (kv.1, y) else kv) (xs.map (putAt k u)) := by
  induction r with
  | nil => exact .nil
  | @cons p q ps qs h t ih =>
    rw [List.map_cons, List.map_cons]
    refine .cons ?_ ih
    obtain ⟨h1, h2, h3⟩ := h
    unfold putAt
    by_cases e : p.1 = k
    · rw [if_pos e, if_pos (h1.symm.trans e)]; exact ⟨h1, h2, ry⟩
    · rw [if_neg e, if_neg (fun z => e (h1.trans z))]; exact ⟨h1, h2, h3⟩
theorem KT.put {H : Hp} {kvs : List (List Key × V)} {xs : List (List Key × Addr × Value)} (r : KT H kvs xs) (k : List Key) {b : Addr} {y : V} {u : Value} (hb : H b = some (.tup (k.map kV))) (ry : RelV y u) :
    KT H (putK kvs k y) (storedH xs k b u) := by
  have e : (kvs.any fun kv => decide (kv.1 = k)) = (atKey xs k).isSome := by
    rw [valV_any, (r.val k).isSome_eq, Option.isSome_map]
  unfold putK storedH
  rw [e]
  by_cases q : (atKey xs k).isSome = true
  · rw [if_pos q, if_pos q]; exact r.repl k ry
  · rw [if_neg q, if_neg q]; exact Paired.snoc r ⟨rfl, hb, ry⟩
theorem KT.keeps {H H' : Hp} {kvs : List (List Key × V)} {xs : List (List Key × Addr × Value)} (r : KT H kvs xs) (ht : ∀ b ys, H b = some (.tup ys) → H' b = some (.tup ys)) : KT H' kvs xs :=
  Paired.mapP r fun _ _ z => ⟨z.1, ht _ _ z.2.1, z.2.2⟩

section
variable {P : Program} {w : World} {H : Hp} {h : Heap} {a : Addr}
theorem rd_of {u : HO} (ok : HOk P w H h) (e : Rd H a u) : ObjOk P w H h a u := e.ok ok
theorem dk_rd {kvs : List (Key × V)} (ok : HOk P w H h) (e : Rd H a (.dK kvs)) : kvs.length ≤ sizeLine ∧ (a == sysModules) = false ∧ ∃ vs, KV kvs vs ∧ h.DictOf (mixKind P w) a vs :=
  show ObjOk P w H h a (.dK kvs) from rd_of ok e
theorem dk_of {kvs : List (Key × V)} (ok : HOk P w H h) (e : H a = some (.dK kvs)) : kvs.length ≤ sizeLine ∧ (a == sysModules) = false ∧ ∃ vs, KV kvs vs ∧ h.DictOf (mixKind P w) a vs := dk_rd ok (.inl e)
/-- a tracked tuple of ints and texts is a key -/
theorem key_of {ks : List Key} (ok : HOk P w H h) (e : H a = some (.tup (ks.map kV))) : (tupleKind (mixKind P w)).is h ks a := by
  obtain ⟨_, its, r, ⟨o, h1, h2, n, h3⟩, _⟩ := (show ObjOk P w H h a (.tup (ks.map kV)) from ok a _ e)
  exact ⟨o, its.toArray, n, h1, h2, h3, by simpa using items_are r⟩
theorem dt_rd {kvs : List (List Key × V)} (ok : HOk P w H h) (e : Rd H a (.dT kvs)) : kvs.length ≤ sizeLine ∧ (a == sysModules) = false ∧
    ∃ xs, KT H kvs xs ∧ h.DictOfH (tupleKind (mixKind P w)) a xs := by
  obtain ⟨z, y, xs, r, o, es, ep, h1, h2, h3, h4, h5⟩ := (show ObjOk P w H h a (.dT kvs) from rd_of ok e)
  refine ⟨z, y, xs, r, o, es, ep, h1, h2, h3, h4, fun x hx => ?_, h5⟩
  have all : ∀ {l : List (List Key × V)} {m : List (List Key × Addr × Value)}, KT H l m → ∀ x ∈ m, (tupleKind (mixKind P w)).is h x.1 x.2.1 := by
    intro l m q
    induction q with
    | nil => intro x hx; exact nomatch hx
    | @cons p q ps qs hq t ih =>
      intro x hx
      rcases List.mem_cons.mp hx with e | hx
      · subst e
        exact key_of ok (by rw [← hq.1]; exact hq.2.1)
      · exact ih x hx
  exact all r x hx
theorem dt_of {kvs : List (List Key × V)} (ok : HOk P w H h) (e : H a = some (.dT kvs)) : kvs.length ≤ sizeLine ∧ (a == sysModules) = false ∧
    ∃ xs, KT H kvs xs ∧ h.DictOfH (tupleKind (mixKind P w)) a xs := dt_rd ok (.inl e)
end

/-- what the dict at a holds at the key y -/
def DGet (H : Hp) (a : Addr) (y : V) (r : Option V) : Prop :=
  (∃ kvs k, Rd H a (.dK kvs) ∧ y = kV k ∧ r = valV kvs k) ∨ ∃ kvs k b, Rd H a (.dT kvs) ∧ y = .ref b ∧ H b = some (.tup (k.map kV)) ∧ r = valV kvs k
/-- the heap behind a[y] = v -/
def DPut (H : Hp) (a : Addr) (y v : V) (H' : Hp) : Prop :=
  (∃ kvs k, H a = some (.dK kvs) ∧ y = kV k ∧ kvs.length < sizeLine ∧ H' = upd H a (.dK (putK kvs k v))) ∨
  ∃ kvs k b, H a = some (.dT kvs) ∧ y = .ref b ∧ H b = some (.tup (k.map kV)) ∧ kvs.length < sizeLine ∧ H' = upd H a (.dT (putK kvs k v))
theorem DGet.k {H : Hp} {a : Addr} {kvs : List (Key × V)} {k : Key} (e : H a = some (.dK kvs)) : DGet H a (kV k) (valV kvs k) := .inl ⟨kvs, k, .inl e, rfl, rfl⟩
theorem DGet.t {H : Hp} {a b : Addr} {kvs : List (List Key × V)} {k : List Key} (e : H a = some (.dT kvs)) (eb : H b = some (.tup (k.map kV))) : DGet H a (.ref b) (valV kvs k) := .inr ⟨kvs, k, b, .inl e, rfl, eb, rfl⟩
theorem DPut.k {H : Hp} {a : Addr} {kvs : List (Key × V)} {k : Key} {v : V} (e : H a = some (.dK kvs)) (hl : kvs.length < sizeLine) : DPut H a (kV k) v (upd H a (.dK (putK kvs k v))) := .inl ⟨kvs, k, e, rfl, hl, rfl⟩
theorem DPut.t {H : Hp} {a b : Addr} {kvs : List (List Key × V)} {k : List Key} {v : V} (e : H a = some (.dT kvs)) (eb : H b = some (.tup (k.map kV))) (hl : kvs.length < sizeLine) :
    DPut H a (.ref b) v (upd H a (.dT (putK kvs k v))) := .inr ⟨kvs, k, b, e, rfl, eb, hl, rfl⟩


section
variable {X : Cx} {pins : List (Addr × Obj)} {σ : St} {H : Hp} {s : Shared} {a : Addr} {y v : V} {u r : Value} {o : Option V} {A : Around} {E : Value → Shared → Prop}

theorem Inv.big (I : Inv X pins σ H s) : sysModules < s.heap.objs.size := by
  have h : mainGlobals < s.heap.objs.size := (I.mod.glob.keeps I.bk).lt
  exact Nat.lt_trans (by decide) h

/-- d[y], there -/
theorem d_getItem {Q : Value → Shared → Prop} (hu : A.units + 1 < cLine) (I : Inv X pins σ H s) (g : DGet H a y (some v)) (ry : RelV y u) (h : ∀ w' s', Inv X pins σ H s' → RelV v w' → Q w' s') :
    wpAny (model X.prog X.w) A (getItem (.ref a) u) Q E s := by
  rcases g with ⟨kvs, k, e, ey, l⟩ | ⟨kvs, k, b, e, ey, eb, l⟩
  · subst ey
    obtain ⟨z, hd, vs, rel, dd⟩ := dk_rd I.hok e
    obtain ⟨w', hw, rw'⟩ := RelO.some_of (v := v) (o := valueAt vs k) (by rw [l]; exact rel.val k)
    exact wpAny_getItem_of (kV_is ry) dd.mapOf hw (h w' _ (I.tok _) rw')
  · subst ey
    cases (show u = Value.ref b from ry)
    obtain ⟨z, hd, xs, rel, dd⟩ := dt_rd I.hok e
    obtain ⟨w', hw, rw'⟩ := RelO.some_of (v := v) (o := (atKey xs k).map (·.2)) (by rw [l]; exact rel.val k)
    obtain ⟨p, hp, hp2⟩ := Option.map_eq_some_iff.mp hw
    refine wpAny_getItem_heap (tupleKind_room_in1 hu) (key_of I.hok eb) dd hp ?_
    rw [hp2]
    exact h w' _ (I.tok _) rw'
/-- y in d -/
theorem d_in {Q : Value → Shared → Prop} (hu : A.units + 1 < cLine) (I : Inv X pins σ H s) (g : DGet H a y o) (ry : RelV y u) (h : ∀ s', Inv X pins σ H s' → Q (.bool o.isSome) s') :
    wpAny (model X.prog X.w) A (compareOp .In u (.ref a)) Q E s := by
  rcases g with ⟨kvs, k, e, ey, l⟩ | ⟨kvs, k, b, e, ey, eb, l⟩
  · subst ey
    obtain ⟨z, hd, vs, rel, dd⟩ := dk_rd I.hok e
    refine wpAny_in_of (kV_is ry) hd dd.mapOf ?_
    rw [← (rel.val k).isSome_eq, ← l]
    exact h _ (I.tok _)
  · subst ey
    cases (show u = Value.ref b from ry)
    obtain ⟨z, hd, xs, rel, dd⟩ := dt_rd I.hok e
    refine wpAny_in_heap (tupleKind_room_in1 hu) (key_of I.hok eb) hd dd ?_
    have q := (rel.val k).isSome_eq
    rw [Option.isSome_map] at q
    rw [← q, ← l]
    exact h _ (I.tok _)
theorem d_notIn {Q : Value → Shared → Prop} (hu : A.units + 1 < cLine) (I : Inv X pins σ H s) (g : DGet H a y o) (ry : RelV y u) (h : ∀ s', Inv X pins σ H s' → Q (.bool (!o.isSome)) s') :
    wpAny (model X.prog X.w) A (compareOp .NotIn u (.ref a)) Q E s := by
  rcases g with ⟨kvs, k, e, ey, l⟩ | ⟨kvs, k, b, e, ey, eb, l⟩
  · subst ey
    obtain ⟨z, hd, vs, rel, dd⟩ := dk_rd I.hok e
    refine wpAny_notIn_of (kV_is ry) hd dd.mapOf ?_
    rw [← (rel.val k).isSome_eq, ← l]
    exact h _ (I.tok _)
  · subst ey
    cases (show u = Value.ref b from ry)
    obtain ⟨z, hd, xs, rel, dd⟩ := dt_rd I.hok e
    refine wpAny_notIn_heap (tupleKind_room_in1 hu) (key_of I.hok eb) hd dd ?_
    have q := (rel.val k).isSome_eq
    rw [Option.isSome_map] at q
    rw [← q, ← l]
    exact h _ (I.tok _)
/-- a dict's object is replaced -/
theorem d_write {h' : Heap} {t' : Nat} {ob : HO} (I : Inv X pins σ H s) (mu : Mut (H a)) (hs : Heap.SameBut a s.heap h') (he : ∃ q, h'.get? a = some q) (new : ObjOk X.prog X.w (upd H a ob) h' a ob) :
    Inv X pins σ (upd H a ob) { s with heap := h', toks := t' } :=
  I.write (x := a) (e := a) mu (.inl rfl) (fun b q hb z => (hs.2 b hb).trans z) he new
theorem dk_new {P : Program} {w : World} {H' : Hp} {h' : Heap} {kvs : List (Key × V)} {vs : List (Key × Value)} (z : kvs.length ≤ sizeLine) (hd : (a == sysModules) = false) (rel : KV kvs vs) (dd : h'.DictOf (mixKind P w) a vs) :
    ObjOk P w H' h' a (.dK kvs) := ⟨z, hd, vs, rel, dd⟩
/-- d[y] = v -/
theorem d_setItem {H' : Hp} {Q : Unit → Shared → Prop} (hu : A.units + 1 < cLine) (I : Inv X pins σ H s) (g : DPut H a y v H') (ry : RelV y u) (rv : RelV v r) (h : ∀ s', Inv X pins σ H' s' → Q () s') :
    wpAny (model X.prog X.w) A (setItem (.ref a) u r) Q E s := by
  rcases g with ⟨kvs, k, e, ey, l, eH⟩ | ⟨kvs, k, b, e, ey, eb, l, eH⟩
  · subst ey eH
    obtain ⟨z, hd, vs, rel, dd⟩ := dk_of I.hok e
    have hz : vs.length ≤ sizeLine := by rw [← rel.length]; exact z
    have hl : (putK kvs k v).length ≤ sizeLine := by have := length_putK kvs k v; omega
    refine wpAny_setItem_pairs (hsz := hz) (kV_is ry) dd fun h' dd' hs => h _ ?_
    have he : ∃ q, h'.get? a = some q := let ⟨q, _, _, hq, _⟩ := dd'; ⟨q, hq⟩
    exact d_write I (by rw [e]; exact True.intro) hs he (dk_new hl hd (rel.put k rv) dd')
  · subst ey eH
    cases (show u = Value.ref b from ry)
    obtain ⟨z, hd, xs, rel, dd⟩ := dt_of I.hok e
    have hz : xs.length ≤ sizeLine := by rw [← Paired.length rel]; exact z
    have hl : (putK kvs k v).length ≤ sizeLine := by have := length_putK kvs k v; omega
    refine wpAny_setItem_heap (hsz := hz) (tupleKind_room_in1 hu) (key_of I.hok eb) dd fun h' dd' hs => h _ ?_
    obtain ⟨q, es, ep, hq, h2, h3, h4, _, h5⟩ := dd'
    refine d_write I (by rw [e]; exact True.intro) hs ⟨q, hq⟩ ⟨hl, hd, _, (rel.put k eb rv).keeps fun c ys ec => ?_, q, es, ep, hq, h2, h3, h4, h5⟩
    rw [upd_ne (ne_of ec e (fun z => nomatch z))]
    exact ec
end

section
variable {X : Cx} {pins : List (Addr × Obj)} {σ : St} {H : Hp} {s : Shared} {a : Addr} {kvs : List (Key × V)} {k : Key} {u : Value} {A : Around} {E : Value → Shared → Prop}
/-- del d[k] -/
theorem d_delItem {Q : Unit → Shared → Prop} (I : Inv X pins σ H s) (e : H a = some (.dK kvs)) (ry : RelV (kV k) u) (l : (valV kvs k).isSome = true) (h : ∀ s', Inv X pins σ (upd H a (.dK (dropK kvs k))) s' → Q () s') :
    wpAny (model X.prog X.w) A (delItem (.ref a) u) Q E s := by
  obtain ⟨z, hd, vs, rel, dd⟩ := dk_of I.hok e
  refine wpAny_delItem_slot dd.typeIs (by decide) PySem.F.slot_dict_delitem
    (call_meetsIn PySem.F.slot_dict_delitem dd.typeIs PySem.F.entry_dict_delitem (PySem.F.args_dict_delitem_2 _ _) (meets_dict_delitem_pairs (mixKind X.prog X.w) a (kV_is ry)) ⟨vs, dd, by rw [← rel.length]; exact z, by rw [← (rel.val k).isSome_eq]; exact l, fun h' dd' hs => h _ ?_⟩)
  have he : ∃ q, h'.get? a = some q := let ⟨q, _, _, hq, _⟩ := dd'; ⟨q, hq⟩
  exact d_write I (by rw [e]; exact True.intro) hs he (dk_new (Nat.le_trans (dropK_le kvs k) z) hd (rel.drop k) dd')
/-- d.pop(k[, x]), there -/
theorem d_pop {v : V} {more : List Value} {Q : Value → Shared → Prop} (I : Inv X pins σ H s) (e : H a = some (.dK kvs)) (ry : RelV (kV k) u) (l : valV kvs k = some v) (hm : more = [] ∨ ∃ x, more = [x])
    (h : ∀ w' s', Inv X pins σ (upd H a (.dK (dropK kvs k))) s' → RelV v w' → Q w' s') : wpAny (model X.prog X.w) A (call (.builtin "dict.pop") (.ref a :: u :: more)) Q E s := by
  obtain ⟨z, hd, vs, rel, dd⟩ := dk_of I.hok e
  obtain ⟨w', hw, rw'⟩ := RelO.some_of (v := v) (o := valueAt vs k) (by rw [← l]; exact rel.val k)
  have hp : (keyPart u).isSome = true := by
    cases k with
    | inl i => obtain ⟨t, q⟩ := (show ∃ t, u = Value.int i t from ry); subst q; rfl
    | inr x => obtain ⟨t, q⟩ := (show ∃ t, u = Value.str x t from ry); subst q; rfl
  have ha : argsOk "dict.pop" ⟨.ref a :: u :: more, []⟩ := by
    rcases hm with q | ⟨x, q⟩
    · subst q; exact PySem.F.args_dict_pop_2 _ _
    · subst q; exact PySem.F.args_dict_pop_3 _ _ _
  refine call_meetsIn PySem.F.slot_dict_pop dd.typeIs PySem.F.entry_dict_pop ha (meets_dict_pop_there (mixKind X.prog X.w) a (kV_is ry) more hm hp)
    ⟨vs, w', dd, by rw [← rel.length]; exact z, hw, fun h' dd' hs => h w' _ ?_ rw'⟩
  have he : ∃ q, h'.get? a = some q := let ⟨q, _, _, hq, _⟩ := dd'; ⟨q, hq⟩
  exact d_write I (by rw [e]; exact True.intro) hs he (dk_new (Nat.le_trans (dropK_le kvs k) z) hd (rel.drop k) dd')
/-- d.pop(k, x), not there -/
theorem d_popD {r : Value} {Q : Value → Shared → Prop} (I : Inv X pins σ H s) (e : H a = some (.dK kvs)) (ry : RelV (kV k) u) (l : valV kvs k = none) (h : ∀ s', Inv X pins σ H s' → Q r s') :
    wpAny (model X.prog X.w) A (call (.builtin "dict.pop") [.ref a, u, r]) Q E s := by
  obtain ⟨z, hd, vs, rel, dd⟩ := dk_of I.hok e
  have hn : valueAt vs k = none := RelO.none_of (by rw [← l]; exact rel.val k)
  have hp : (keyPart u).isSome = true := by
    cases k with
    | inl i => obtain ⟨t, q⟩ := (show ∃ t, u = Value.int i t from ry); subst q; rfl
    | inr x => obtain ⟨t, q⟩ := (show ∃ t, u = Value.str x t from ry); subst q; rfl
  exact call_meetsIn PySem.F.slot_dict_pop dd.typeIs PySem.F.entry_dict_pop (PySem.F.args_dict_pop_3 _ _ _) (meets_dict_pop_default (mixKind X.prog X.w) a (kV_is ry) hd hp r) ⟨vs, dd, hn, h _ (I.tok _)⟩
/-- d.clear() -/
theorem d_clear {Q : Value → Shared → Prop} (I : Inv X pins σ H s) (e : H a = some (.dK kvs)) (h : ∀ s', Inv X pins σ (upd H a (.dK [])) s' → Q .none s') : wpAny (model X.prog X.w) A (call (.builtin "dict.clear") [.ref a]) Q E s := by
  obtain ⟨z, hd, vs, rel, dd⟩ := dk_of I.hok e
  refine call_meetsIn PySem.F.slot_dict_clear dd.typeIs PySem.F.entry_dict_clear (PySem.F.args_dict_clear_1 _) (meets_dict_clear (mixKind X.prog X.w) a) ⟨vs, dd, by rw [← rel.length]; exact z, fun h' dd' hs => h _ ?_⟩
  have he : ∃ q, h'.get? a = some q := let ⟨q, _, _, hq, _⟩ := dd'; ⟨q, hq⟩
  exact d_write (t' := s.toks) I (by rw [e]; exact True.intro) hs he (dk_new (Nat.zero_le _) hd .nil dd')
/-- len(d) -/
theorem d_len {Q : Value → Shared → Prop} (I : Inv X pins σ H s) (e : Rd H a (.dK kvs)) (h : ∀ t s', Inv X pins σ H s' → Q (.int kvs.length t) s') : wpAny (model X.prog X.w) A (call (.builtin "len") [.ref a]) Q E s := by
  obtain ⟨z, hd, vs, rel, dd⟩ := dk_rd I.hok e
  refine call_len_dict hd dd (by rw [← rel.length]; rw [sizeLine_eq] at z; omega) ?_
  rw [← rel.length]
  exact h _ _ (I.tok _)
/-- if d -/
theorem d_truth {Q : Bool → Shared → Prop} (I : Inv X pins σ H s) (e : Rd H a (.dK kvs)) (h : ∀ s', Inv X pins σ H s' → Q (!kvs.isEmpty) s') : wpAny (model X.prog X.w) A (truthy (.ref a)) Q E s := by
  obtain ⟨z, hd, vs, rel, dd⟩ := dk_rd I.hok e
  refine wpAny_truthy_dict hd dd (by rw [← rel.length]; rw [sizeLine_eq] at z; omega) ?_
  have q : kvs.isEmpty = vs.isEmpty := by cases rel <;> rfl
  rw [← q]
  exact h _ (I.tok _)
end


/-! ### readings and rules -/
/-- the element of a subscription, not a slice -/
def NoSl (i : Expr) : Prop := ∀ ov iv, subscripted i false ov iv = operate [ov, iv] (getItem ov iv)
theorem subD_of {prog : Program} {w : World} {A : Around} {E : Value → Shared → Prop} {s : Shared} {env : Env} {value slice : Expr} {pos : Pos} {T id : String} {Q : Value → Shared → Prop}
    (hl : typeLookup (.type T) "__getitem__" = pure (some (.builtin id))) (hs : NoSl slice)
    (h : wpAny (model prog w) A (eval value env) (fun o s₁ => wpAny (model prog w) A (eval slice env) (fun i s₂ => s₂.TypeIs o T ∧ wpAny (model prog w) A (getItem o i) Q E s₂) E s₁) E s) :
    wpAny (model prog w) A (eval (.Subscript value slice pos) env) Q E s := by
  refine Subscript_ (wpAny_mono h (fun o s₁ h₁ => wpAny_mono h₁ (fun i s₂ h₂ => ?_) fun _ _ x => x) fun _ _ x => x)
  obtain ⟨hT, h₂⟩ := h₂
  unfold subscriptTail
  refine wpAny_bind ?_
  rw [getitemInPython_of_ne hT.not_modules]
  refine wpAny_bind (wpAny_specialOf hT hl ?_)
  have fin : wpAny (model prog w) A (subscripted slice false o i) (fun r s₃ => wpAny (model prog w) A (letTemporaryGo value o r >>= fun _ => pure r) Q E s₃) E s₂ := by
    rw [hs o i]
    exact wpAny_operating (wpAny_mono h₂ (fun r s₃ h₃ => wpAny_bind (wpAny_letTemporaryGo (wpAny_pure h₃))) fun _ _ x => x)
  first
    | exact wpAny_pure (wpAny_bind fin)
    | exact wpAny_bind (wpAny_pure (wpAny_bind fin))
    | exact wpAny_bind fin

theorem dict_typeIs {X : Cx} {pins : List (Addr × Obj)} {σ : St} {H : Hp} {s : Shared} {a : Addr} {y : V} {o : Option V} (I : Inv X pins σ H s) (g : DGet H a y o) : s.TypeIs (.ref a) "dict" := by
  rcases g with ⟨kvs, k, e, _, _⟩ | ⟨kvs, k, b, e, _, _, _⟩
  · obtain ⟨_, _, vs, _, dd⟩ := dk_rd I.hok e
    exact dd.typeIs
  · obtain ⟨_, _, xs, _, dd⟩ := dt_rd I.hok e
    exact dd.typeIs
theorem dict_noDict {X : Cx} {pins : List (Addr × Obj)} {σ : St} {H : Hp} {s : Shared} {a : Addr} {y : V} {o : Option V} (I : Inv X pins σ H s) (g : DGet H a y o) :
    ∀ b, Value.ref a = .ref b → ∃ ob, s.heap.get? b = some ob ∧ ob.dict = none := fun b q => by
  cases q
  rcases g with ⟨kvs, k, e, _, _⟩ | ⟨kvs, k, b, e, _, _, _⟩
  · obtain ⟨_, _, vs, _, ob, _, _, h1, h2, _⟩ := dk_rd I.hok e
    exact ⟨ob, h1, h2.2.1⟩
  · obtain ⟨_, _, xs, _, ob, _, _, h1, h2, _⟩ := dt_rd I.hok e
    exact ⟨ob, h1, h2.2.1⟩

/-- d[y] -/
def tDGet (td ty : TE) : TE := fun σ H Q => td σ H fun x H1 => ty σ H1 fun y H2 => ∃ a v, x = .ref a ∧ DGet H2 a y (some v) ∧ Q v H2
/-- y in d, y not in d -/
def tDIn (ty td : TE) : TE := fun σ H Q => ty σ H fun y H1 => td σ H1 fun x H2 => ∃ a o, x = .ref a ∧ DGet H2 a y o ∧ Q (.bl o.isSome) H2
def tDNotIn (ty td : TE) : TE := fun σ H Q => ty σ H fun y H1 => td σ H1 fun x H2 => ∃ a o, x = .ref a ∧ DGet H2 a y o ∧ Q (.bl (!o.isSome)) H2
/-- d[y] = v -/
def sDPut (td ty tv : TE) : TS := fun D σ H => tv σ H fun v H1 => td σ H1 fun x H2 => ty σ H2 fun y H3 => ∃ a H4, x = .ref a ∧ DPut H3 a y v H4 ∧ D.nx σ H4
/-- d[y] op= v -/
def sDAug (td ty tv : TE) (rd : V → V → Hp → VK → Prop) : TS := fun D σ H => td σ H fun x H1 => ty σ H1 fun y H2 => ∃ a v, x = .ref a ∧ DGet H2 a y (some v) ∧
  tv σ H2 fun y2 H3 => rd v y2 H3 fun z H4 => ∃ H5, DPut H4 a y z H5 ∧ D.nx σ H5
/-- del d[y] -/
def sDDel (td ty : TE) : TS := fun D σ H => td σ H fun x H1 => ty σ H1 fun y H2 => ∃ a kvs k, x = .ref a ∧ H2 a = some (.dK kvs) ∧ y = kV k ∧ (valV kvs k).isSome = true ∧ D.nx σ (upd H2 a (.dK (dropK kvs k)))

section
variable {X : Cx} {o i e value : Expr} {pos pos' tpos : Pos} {td ty tv : TE}
theorem pe_dget (hu : X.A.units + 1 < cLine) (ho : PE X o td) (hi : PE X i ty) (hs : NoSl i) : PE X (.Subscript o i pos) (tDGet td ty) := by
  intro pins s σ H Q I h
  refine subD_of PySem.F.slot_dict_getitem.lookup hs (thn (ho pins s σ H _ I h) fun u s1 ⟨x, H1, I1, rx, q1⟩ => thn (hi pins s1 σ H1 _ I1 q1) fun iv s2 ⟨y, H2, I2, ry, a, v, ex, g, q2⟩ => ?_)
  subst ex
  obtain rfl : u = Value.ref a := rx
  exact ⟨dict_typeIs I2 g, d_getItem hu I2 g ry fun w' s3 I3 rw' => ⟨v, H2, I3, rw', q2⟩⟩
theorem pc_din (hu : X.A.units + 1 < cLine) (hi : PE X i ty) (ho : PE X o td) : PC X .In i o (tDIn ty td) := by
  intro pins s σ H Q I h
  refine thn (hi pins s σ H _ I h) fun iv s1 ⟨y, H1, I1, ry, q1⟩ => thn (ho pins s1 σ H1 _ I1 q1) fun u s2 ⟨x, H2, I2, rx, a, ov, ex, g, q2⟩ => ?_
  subst ex
  obtain rfl : u = Value.ref a := rx
  exact d_in hu I2 g ry fun s3 I3 => ⟨.bl ov.isSome, H2, I3, rfl, q2⟩
theorem pc_dnotin (hu : X.A.units + 1 < cLine) (hi : PE X i ty) (ho : PE X o td) : PC X .NotIn i o (tDNotIn ty td) := by
  intro pins s σ H Q I h
  refine thn (hi pins s σ H _ I h) fun iv s1 ⟨y, H1, I1, ry, q1⟩ => thn (ho pins s1 σ H1 _ I1 q1) fun u s2 ⟨x, H2, I2, rx, a, ov, ex, g, q2⟩ => ?_
  subst ex
  obtain rfl : u = Value.ref a := rx
  exact d_notIn hu I2 g ry fun s3 I3 => ⟨.bl (!ov.isSome), H2, I3, rfl, q2⟩
theorem ps_dput (hu : X.A.units + 1 < cLine) (ho : PE X o td) (hi : PE X i ty) (hv : PE X value tv) (hs : swapsWith value (some (.Subscript o i pos')) pos.line X.env = pure false) :
    PS X (.Assign [.Subscript o i pos'] value pos) (sDPut td ty tv) := by
  intro pins s σ H D I h
  refine wpAny_Assign_Subscript (thn (hv pins s σ H _ I h) fun r s1 ⟨v, H1, I1, rv, q1⟩ => thn (ho pins s1 σ H1 _ I1 q1) fun u s2 ⟨x, H2, I2, rx, q2⟩ => thn (hi pins s2 σ H2 _ I2 q2) fun iv s3 ⟨y, H3, I3, ry, a, H4, ex, g, q3⟩ => ?_) hs
  subst ex
  obtain rfl : u = Value.ref a := rx
  exact d_setItem hu I3 g ry rv fun s4 I4 => ⟨σ, H4, I4, q3⟩
theorem ps_daug {op : Operator} {rd : V → V → Hp → VK → Prop} (hu : X.A.units + 1 < cLine) (ho : PE X o td) (hi : PE X i ty) (hv : PE X value tv) (hop : InOp X op rd)
    (ha : ∀ ov iv new, augStore i ov iv new = (do holding [new, ov, iv] (setItem ov iv new); release [new, ov, iv] []; pure .next)) : PS X (.AugAssign (.Subscript o i tpos) op value pos) (sDAug td ty tv rd) := by
  intro pins s σ H D I h
  refine wpAny_AugAssign_SubscriptAny (thn (ho pins s σ H _ I h) fun u s1 ⟨x, H1, I1, rx, q1⟩ => thn (hi pins s1 σ H1 _ I1 q1) fun iv s2 ⟨y, H2, I2, ry, a, v, ex, g, q2⟩ => ?_) ha
  subst ex
  obtain rfl : u = Value.ref a := rx
  refine d_getItem hu I2 g ry fun w' s3 I3 rw' => thn (hv pins s3 σ H2 _ I3 q2) fun w2 s4 ⟨y2, H3, I4, ry2, q3⟩ => thn (hop pins s4 σ H3 v y2 w' w2 _ I4 rw' ry2 q3) fun w3 s5 ⟨z, H4, I5, rz, H5, g5, q4⟩ => ?_
  exact d_setItem hu I5 g5 ry rz fun s6 I6 => ⟨σ, H5, I6, q4⟩
theorem ps_ddel (ho : PE X o td) (hi : PE X i ty) : PS X (.Delete [.Subscript o i tpos] pos) (sDDel td ty) := by
  intro pins s σ H D I h
  refine wpAny_Delete (wpAny_deleteEach_cons (wpAny_delete_Subscript (thn (ho pins s σ H _ I h) fun u s1 ⟨x, H1, I1, rx, q1⟩ => thn (hi pins s1 σ H1 _ I1 q1) fun iv s2 ⟨y, H2, I2, ry, a, kvs, k, ex, e, ey, l, q2⟩ => ?_)))
  subst ex ey
  obtain rfl : u = Value.ref a := rx
  exact d_delItem I2 e ry l fun s3 I3 => wpAny_deleteEach_nil ⟨σ, _, I3, q2⟩
end


/-! ### displays -/
theorem dk_empty {P : Program} {w : World} {H : Hp} (h : Heap) (hb : sysModules < h.objs.size) : ObjOk P w H (h.push { cls := .type "dict", data := .dict #[] }) h.objs.size (.dK []) :=
  ⟨Nat.zero_le _, beq_eq_false_iff_ne.mpr (Ne.symm (Nat.ne_of_lt hb)), [], .nil, Heap.DictOf.new h⟩
theorem dt_empty {P : Program} {w : World} {H : Hp} (h : Heap) (hb : sysModules < h.objs.size) : ObjOk P w H (h.push { cls := .type "dict", data := .dict #[] }) h.objs.size (.dT []) :=
  ⟨Nat.zero_le _, beq_eq_false_iff_ne.mpr (Ne.symm (Nat.ne_of_lt hb)), [], .nil, _, #[], 0, Heap.get?_push_size _ rfl, ⟨rfl, rfl, rfl⟩, rfl, rfl, List.nodup_nil⟩
/-- {}, to be a dict of the kind that is wanted -/
def tDNewK : TE := fun _ H Q => ∀ p, H p = none → Q (.ref p) (upd H p (.dK []))
def tDNewT : TE := fun _ H Q => ∀ p, H p = none → Q (.ref p) (upd H p (.dT []))
section
variable {X : Cx} {pos : Pos}
theorem pe_dnewK : PE X (.Dict [] [] pos) tDNewK := fun pins s σ H Q I h =>
  wpAny_Dict_empty ⟨.ref s.heap.objs.size, _, I.laid (a := s.heap.objs.size) (o := .dK []) (t' := s.toks) (fun _ _ q => Heap.get?_push_of_some _ q) (Nat.le_refl _) (dk_empty s.heap I.big), rfl, h _ (I.hok.fresh (Nat.le_refl _))⟩
theorem pe_dnewT : PE X (.Dict [] [] pos) tDNewT := fun pins s σ H Q I h =>
  wpAny_Dict_empty ⟨.ref s.heap.objs.size, _, I.laid (a := s.heap.objs.size) (o := .dT []) (t' := s.toks) (fun _ _ q => Heap.get?_push_of_some _ q) (Nat.le_refl _) (dt_empty s.heap I.big), rfl, h _ (I.hok.fresh (Nat.le_refl _))⟩
end

/-- the pairs of a display, from the left -/
def tPairs : List (TE × TE) → St → Hp → (List (V × V) → Hp → Prop) → Prop
  | [], _, H, Q => Q [] H
  | (tk, tv) :: r, σ, H, Q => tk σ H fun x H1 => tv σ H1 fun y H2 => tPairs r σ H2 fun ps H3 => Q ((x, y) :: ps) H3
abbrev VV : List (V × V) → List (Value × Value) → Prop := Paired fun p q => RelV p.1 q.1 ∧ RelV p.2 q.2
def PPs (X : Cx) (pos : Pos) (keys : List (Option Expr)) (values : List Expr) (trs : List (TE × TE)) : Prop :=
  ∀ (pins : List (Addr × Obj)) (s : Shared) (σ : St) (H : Hp) (Q : List (V × V) → Hp → Prop), Inv X pins σ H s → tPairs trs σ H Q →
    wpAny (model X.prog X.w) X.A (evalPairs (pairTrees keys values X.env pos)) (fun vs s' => ∃ ps H', Inv X pins σ H' s' ∧ VV ps vs ∧ Q ps H') X.xe s
theorem pps_nil {X : Cx} {pos : Pos} : PPs X pos [] [] [] := fun pins s σ H Q I h => pairTrees_nil_walk ⟨[], H, I, .nil, h⟩
theorem pps_cons {X : Cx} {pos : Pos} {k v : Expr} {ks : List (Option Expr)} {vs : List Expr} {tk tv : TE} {trs : List (TE × TE)} (hk : PE X k tk) (hv : PE X v tv) (hr : PPs X pos ks vs trs) :
    PPs X pos (some k :: ks) (v :: vs) ((tk, tv) :: trs) := fun pins s σ H Q I h =>
  pairTrees_cons_walk (thn (hk pins s σ H _ I h) fun u s1 ⟨x, H1, I1, rx, q1⟩ => thn (hv pins s1 σ H1 _ I1 q1) fun w2 s2 ⟨y, H2, I2, ry, q2⟩ =>
    thn (hr pins s2 σ H2 _ I2 q2) fun ws s3 ⟨ps, H3, I3, rel, q3⟩ => ⟨(x, y) :: ps, H3, I3, .cons ⟨rx, ry⟩ rel, q3⟩)

def mergeK (kvs more : List (Key × V)) : List (Key × V) := more.foldl (fun acc kv => putK acc kv.1 kv.2) kvs
theorem KV.merge : ∀ {more : List (Key × V)} {rs : List (Key × Value)} {kvs : List (Key × V)} {vs : List (Key × Value)}, KV more rs → KV kvs vs → KV (mergeK kvs more) (merged vs rs) := by
  intro more rs kvs vs r
  unfold KV at r
  induction r generalizing kvs vs with
  | nil => intro q; exact q
  | @cons p q ps qs h t ih =>
    intro r0
    have e : KV (putK kvs p.1 p.2) (stored vs q.1 q.2) := by
      have := r0.put p.1 h.2
      rw [← h.1]; exact this
    exact ih e
theorem length_mergeK : ∀ (more kvs : List (Key × V)), (mergeK kvs more).length ≤ kvs.length + more.length
  | [], kvs => by show kvs.length ≤ kvs.length + 0; omega
  | p :: r, kvs => by
    have h1 := length_mergeK r (putK kvs p.1 p.2)
    have h2 := length_putK kvs p.1 p.2
    show (mergeK (putK kvs p.1 p.2) r).length ≤ _
    rw [List.length_cons]; omega
theorem carries_of {P : Program} {w : World} : ∀ {kvs : List (Key × V)} {ws : List (Value × Value)}, VV (kvs.map fun kv => (kV kv.1, kv.2)) ws → ∃ rs, Carries (mixKind P w) ws rs ∧ KV kvs rs
  | [], _, r => by rw [List.map_nil] at r; cases r; exact ⟨[], True.intro, .nil⟩
  | p :: kvs, _, r => by
    rw [List.map_cons] at r
    cases r with
    | @cons a b as bs h t =>
      obtain ⟨rs, c, q⟩ := carries_of (P := P) (w := w) t
      obtain ⟨b1, b2⟩ := b
      exact ⟨(p.1, b2) :: rs, ⟨kV_is h.1, rfl, c⟩, .cons ⟨rfl, h.2⟩ q⟩
/-- {k: v, ..} with keys ints and texts; the new dict stands empty while the pairs are made -/
def tDisp (trs : List (TE × TE)) : TE := fun σ H Q => ∀ p, H p = none → tPairs trs σ (upd H p (.dK [])) fun ps H2 => H2 p = some (.dK []) ∧ ∃ kvs : List (Key × V), ps = kvs.map (fun kv => (kV kv.1, kv.2)) ∧ kvs.length ≤ 15 ∧ Q (.ref p) (upd H2 p (.dK (mergeK [] kvs)))
theorem pe_disp {X : Cx} {pos : Pos} {keys : List (Option Expr)} {values : List Expr} {trs : List (TE × TE)} (h : PPs X pos keys values trs) (hall : keys.all (·.isSome) = true) (hl : keys.length = values.length) (h0 : keys ≠ [])
    (h15 : keys.length ≤ 15) : PE X (.Dict keys values pos) (tDisp trs) := by
  intro pins s σ H Q I q
  have hn := I.hok.fresh (Nat.le_refl s.heap.objs.size)
  have I1 := I.laid (a := s.heap.objs.size) (o := .dK []) (h' := s.heap.push { cls := .type "dict", data := .dict #[] }) (t' := s.toks) (fun _ _ q => Heap.get?_push_of_some _ q) (Nat.le_refl _) (dk_empty s.heap I.big)
  refine wpAny_Dict_walk (knd := mixKind X.prog X.w) hall hl h0 h15 (thn (h pins _ σ _ _ I1 (q _ hn)) fun ws s2 ⟨ps, H2, I2, rel, e, kvs, ep, lk, q2⟩ => ?_)
  subst ep
  obtain ⟨rs, c, rk⟩ := carries_of (P := X.prog) (w := X.w) rel
  obtain ⟨z, hd, vs0, r0, dd⟩ := dk_of I2.hok e
  cases r0
  refine ⟨rs, c, dd, fun h' dd' hs => ⟨.ref s.heap.objs.size, _, ?_, rfl, q2⟩⟩
  have hz : (mergeK [] kvs).length ≤ sizeLine := by
    have h1 := length_mergeK kvs []
    rw [List.length_nil] at h1
    rw [sizeLine_eq]; omega
  have he : ∃ q, h'.get? s.heap.objs.size = some q := let ⟨q, _, _, hq, _⟩ := dd'; ⟨q, hq⟩
  exact d_write I2 (by rw [e]; exact True.intro) hs he (dk_new hz hd (rk.merge .nil) dd')


/-! ### methods -/
/-- a method call o.m(e) of a built-in, with one argument: what must be seen of the text -/
structure M1 (X : Cx) (o : Expr) (m : Str) (apos : Pos) (e : Expr) (cpos : Pos) : Prop where
  base : attributeBase o m X.env (eval o X.env) = eval o X.env
  few : ((backTo cpos (starEach [e] X.env)).all (fun x => !x.1) && (backToKw cpos (keywordEach [] X.env)).all (fun x => x.1.isSome)
    && decide (([e] : List Expr).length + ([] : List Keyword).length + (if ([] : List Keyword).isEmpty then 0 else 1) < 30)) = true
  line : (apos.endLine == cpos.line) = true
  trees : backTo cpos (starEach [e] X.env) = [(false, eval e X.env)]
structure M2 (X : Cx) (o : Expr) (m : Str) (apos : Pos) (e f : Expr) (cpos : Pos) : Prop where
  base : attributeBase o m X.env (eval o X.env) = eval o X.env
  few : ((backTo cpos (starEach [e, f] X.env)).all (fun x => !x.1) && (backToKw cpos (keywordEach [] X.env)).all (fun x => x.1.isSome)
    && decide (([e, f] : List Expr).length + ([] : List Keyword).length + (if ([] : List Keyword).isEmpty then 0 else 1) < 30)) = true
  line : (apos.endLine == cpos.line) = true
  trees : backTo cpos (starEach [e, f] X.env) = [(false, eval e X.env), (false, eval f X.env)]

/-- a is a dict, whatever its keys -/
def IsD (H : Hp) (a : Addr) : Prop := (∃ kvs, Rd H a (.dK kvs)) ∨ ∃ kvs, Rd H a (.dT kvs)
theorem isD_at {X : Cx} {pins : List (Addr × Obj)} {σ : St} {H : Hp} {s : Shared} {a : Addr} (I : Inv X pins σ H s) (d : IsD H a) :
    s.TypeIs (.ref a) "dict" ∧ (∀ b, Value.ref a = .ref b → ∃ ob, s.heap.get? b = some ob ∧ ob.dict = none) ∧ (a == sysModules) = false := by
  rcases d with ⟨kvs, e⟩ | ⟨kvs, e⟩
  · obtain ⟨_, hd, vs, _, dd⟩ := dk_rd I.hok e
    refine ⟨dd.typeIs, fun b q => ?_, hd⟩
    cases q
    obtain ⟨ob, _, _, h1, h2, _⟩ := dd
    exact ⟨ob, h1, h2.2.1⟩
  · obtain ⟨_, hd, xs, _, dd⟩ := dt_rd I.hok e
    refine ⟨dd.typeIs, fun b q => ?_, hd⟩
    cases q
    obtain ⟨ob, _, _, h1, h2, _⟩ := dd
    exact ⟨ob, h1, h2.2.1⟩

section
variable {X : Cx} {pins : List (Addr × Obj)} {σ : St} {H : Hp} {s : Shared} {a : Addr} {y d : V} {u r : Value} {o : Option V} {A : Around} {E : Value → Shared → Prop}
/-- d.get(y) -/
theorem d_get1 {Q : Value → Shared → Prop} (hu : A.units + 1 < cLine) (I : Inv X pins σ H s) (g : DGet H a y o) (ry : RelV y u) (h : ∀ w' s', Inv X pins σ H s' → RelV (o.getD .non) w' → Q w' s') :
    wpAny (model X.prog X.w) A (call (.builtin "dict.get") [.ref a, u]) Q E s := by
  rcases g with ⟨kvs, k, e, ey, l⟩ | ⟨kvs, k, b, e, ey, eb, l⟩
  · subst ey
    obtain ⟨z, hd, vs, rel, dd⟩ := dk_rd I.hok e
    refine call_meetsIn PySem.F.slot_dict_get dd.typeIs PySem.F.entry_dict_get (PySem.F.args_dict_get_2 _ _) (meets_dict_get (mixKind X.prog X.w) a (kV_is ry) hd) ⟨_, dd.mapOf, h _ _ (I.tok _) ?_⟩
    rw [l]
    exact (rel.val k).getD rfl
  · subst ey
    cases (show u = Value.ref b from ry)
    obtain ⟨z, hd, xs, rel, dd⟩ := dt_rd I.hok e
    refine call_meetsIn PySem.F.slot_dict_get dd.typeIs PySem.F.entry_dict_get (PySem.F.args_dict_get_2 _ _) (meetsH_dict_get (tupleKind (mixKind X.prog X.w)) a b hd) ⟨tupleKind_room_in1 hu, k, xs, key_of I.hok eb, dd, h _ _ (I.tok _) ?_⟩
    rw [l]
    exact (rel.val k).getD rfl
/-- d.get(y, x) -/
theorem d_get2 {Q : Value → Shared → Prop} (hu : A.units + 1 < cLine) (I : Inv X pins σ H s) (g : DGet H a y o) (ry : RelV y u) (rd : RelV d r) (h : ∀ w' s', Inv X pins σ H s' → RelV (o.getD d) w' → Q w' s') :
    wpAny (model X.prog X.w) A (call (.builtin "dict.get") [.ref a, u, r]) Q E s := by
  rcases g with ⟨kvs, k, e, ey, l⟩ | ⟨kvs, k, b, e, ey, eb, l⟩
  · subst ey
    obtain ⟨z, hd, vs, rel, dd⟩ := dk_rd I.hok e
    refine call_meetsIn PySem.F.slot_dict_get dd.typeIs PySem.F.entry_dict_get (PySem.F.args_dict_get_3 _ _ _) (meets_dict_get_default (mixKind X.prog X.w) a (kV_is ry) hd r) ⟨_, dd.mapOf, h _ _ (I.tok _) ?_⟩
    rw [l]
    exact (rel.val k).getD rd
  · subst ey
    cases (show u = Value.ref b from ry)
    obtain ⟨z, hd, xs, rel, dd⟩ := dt_rd I.hok e
    refine call_meetsIn PySem.F.slot_dict_get dd.typeIs PySem.F.entry_dict_get (PySem.F.args_dict_get_3 _ _ _) (meetsH_dict_get_default (tupleKind (mixKind X.prog X.w)) a b hd r) ⟨tupleKind_room_in1 hu, k, xs, key_of I.hok eb, dd, h _ _ (I.tok _) ?_⟩
    rw [l]
    exact (rel.val k).getD rd
end

def tDGet1 (td ty : TE) : TE := fun σ H Q => td σ H fun x H1 => ∃ a, x = .ref a ∧ IsD H1 a ∧ ty σ H1 fun y H2 => ∃ o, DGet H2 a y o ∧ Q (o.getD .non) H2
def tDGet2 (td ty tx : TE) : TE := fun σ H Q => td σ H fun x H1 => ∃ a, x = .ref a ∧ IsD H1 a ∧ ty σ H1 fun y H2 => tx σ H2 fun z H3 => ∃ o, DGet H3 a y o ∧ Q (o.getD z) H3
/-- d.pop(k): there; d.pop(k, x): there or not -/
def tDPop1 (td ty : TE) : TE := fun σ H Q => td σ H fun x H1 => ∃ a, x = .ref a ∧ IsD H1 a ∧ ty σ H1 fun y H2 => ∃ kvs k v, H2 a = some (.dK kvs) ∧ y = kV k ∧ valV kvs k = some v ∧ Q v (upd H2 a (.dK (dropK kvs k)))
def tDPop2 (td ty tx : TE) : TE := fun σ H Q => td σ H fun x H1 => ∃ a, x = .ref a ∧ IsD H1 a ∧ ty σ H1 fun y H2 => tx σ H2 fun z H3 => ∃ kvs k, H3 a = some (.dK kvs) ∧ y = kV k ∧
  (∀ v, valV kvs k = some v → Q v (upd H3 a (.dK (dropK kvs k)))) ∧ (valV kvs k = none → Q z H3)
section
variable {X : Cx} {o e f : Expr} {apos cpos : Pos} {td ty tx : TE}
theorem pe_dget1 (hu : X.A.units + 1 < cLine) (ho : PE X o td) (he : PE X e ty) (m : M1 X o "get" apos e cpos) : PE X (.Call (.Attribute o "get" apos) [e] [] cpos) (tDGet1 td ty) := by
  intro pins s σ H Q I h
  refine wpAny_Call_method m.base m.few m.line PySem.F.plainAttrs_dict PySem.F.slot_dict_get PySem.F.type_dict_get (thn (ho pins s σ H _ I h) fun u s1 ⟨x, H1, I1, rx, a, ex, d, q1⟩ => ?_)
  subst ex
  obtain rfl : u = Value.ref a := rx
  obtain ⟨t1, t2, _⟩ := isD_at I1 d
  refine ⟨t1, t2, ?_⟩
  rw [m.trees]
  refine Calls.callWith_builtin rfl (Calls.evalArgs_plain (Calls.spliced_cons (thn (he pins s1 σ H1 _ I1 q1) fun iv s2 ⟨y, H2, I2, ry, ov, g, q2⟩ => Calls.spliced_nil ?_)))
  exact d_get1 hu I2 g ry fun w' s3 I3 rw' => ⟨_, H2, I3, rw', q2⟩
theorem pe_dget2 (hu : X.A.units + 1 < cLine) (ho : PE X o td) (he : PE X e ty) (hf : PE X f tx) (m : M2 X o "get" apos e f cpos) : PE X (.Call (.Attribute o "get" apos) [e, f] [] cpos) (tDGet2 td ty tx) := by
  intro pins s σ H Q I h
  refine wpAny_Call_method m.base m.few m.line PySem.F.plainAttrs_dict PySem.F.slot_dict_get PySem.F.type_dict_get (thn (ho pins s σ H _ I h) fun u s1 ⟨x, H1, I1, rx, a, ex, d, q1⟩ => ?_)
  subst ex
  obtain rfl : u = Value.ref a := rx
  obtain ⟨t1, t2, _⟩ := isD_at I1 d
  refine ⟨t1, t2, ?_⟩
  rw [m.trees]
  refine Calls.callWith_builtin rfl (Calls.evalArgs_plain (Calls.spliced_cons (thn (he pins s1 σ H1 _ I1 q1) fun iv s2 ⟨y, H2, I2, ry, q2⟩ =>
    Calls.spliced_cons (thn (hf pins s2 σ H2 _ I2 q2) fun fv s3 ⟨z, H3, I3, rz, ov, g, q3⟩ => Calls.spliced_nil ?_))))
  exact d_get2 hu I3 g ry rz fun w' s4 I4 rw' => ⟨_, H3, I4, rw', q3⟩
theorem pe_dpop1 (ho : PE X o td) (he : PE X e ty) (m : M1 X o "pop" apos e cpos) : PE X (.Call (.Attribute o "pop" apos) [e] [] cpos) (tDPop1 td ty) := by
  intro pins s σ H Q I h
  refine wpAny_Call_method m.base m.few m.line PySem.F.plainAttrs_dict PySem.F.slot_dict_pop PySem.F.type_dict_pop (thn (ho pins s σ H _ I h) fun u s1 ⟨x, H1, I1, rx, a, ex, d, q1⟩ => ?_)
  subst ex
  obtain rfl : u = Value.ref a := rx
  obtain ⟨t1, t2, _⟩ := isD_at I1 d
  refine ⟨t1, t2, ?_⟩
  rw [m.trees]
  refine Calls.callWith_builtin rfl (Calls.evalArgs_plain (Calls.spliced_cons (thn (he pins s1 σ H1 _ I1 q1) fun iv s2 ⟨y, H2, I2, ry, kvs, k, v, ea, ey, l, q2⟩ => Calls.spliced_nil ?_)))
  subst ey
  exact d_pop I2 ea ry l (.inl rfl) fun w' s3 I3 rw' => ⟨v, _, I3, rw', q2⟩
theorem pe_dpop2 (ho : PE X o td) (he : PE X e ty) (hf : PE X f tx) (m : M2 X o "pop" apos e f cpos) : PE X (.Call (.Attribute o "pop" apos) [e, f] [] cpos) (tDPop2 td ty tx) := by
  intro pins s σ H Q I h
  refine wpAny_Call_method m.base m.few m.line PySem.F.plainAttrs_dict PySem.F.slot_dict_pop PySem.F.type_dict_pop (thn (ho pins s σ H _ I h) fun u s1 ⟨x, H1, I1, rx, a, ex, d, q1⟩ => ?_)
  subst ex
  obtain rfl : u = Value.ref a := rx
  obtain ⟨t1, t2, _⟩ := isD_at I1 d
  refine ⟨t1, t2, ?_⟩
  rw [m.trees]
  refine Calls.callWith_builtin rfl (Calls.evalArgs_plain (Calls.spliced_cons (thn (he pins s1 σ H1 _ I1 q1) fun iv s2 ⟨y, H2, I2, ry, q2⟩ =>
    Calls.spliced_cons (thn (hf pins s2 σ H2 _ I2 q2) fun fv s3 ⟨z, H3, I3, rz, kvs, k, ea, ey, q3, q4⟩ => Calls.spliced_nil ?_))))
  subst ey
  cases l : valV kvs k with
  | some v => exact d_pop I3 ea ry l (.inr ⟨fv, rfl⟩) fun w' s4 I4 rw' => ⟨v, _, I4, rw', q3 v l⟩
  | none => exact d_popD I3 ea ry l fun s4 I4 => ⟨z, H3, I4, rz, q4 l⟩
end

/-! ### dict(d): a copy -/
section
variable {X : Cx} {pins : List (Addr × Obj)} {σ : St} {H : Hp} {s : Shared} {a : Addr} {kvs : List (Key × V)} {A : Around} {E : Value → Shared → Prop}
theorem d_copyOf {Q : Value → Shared → Prop} (I : Inv X pins σ H s) (e : Rd H a (.dK kvs)) (h : ∀ p s', H p = none → Inv X pins σ (upd H p (.dK kvs)) s' → Q (.ref p) s') : wpAny (model X.prog X.w) A (call (.type "dict") [.ref a]) Q E s := by
  obtain ⟨z, hd, vs, rel, dd⟩ := dk_rd I.hok e
  refine kt_call_dict hd dd (by rw [← rel.length]; exact z) fun h' dd' hs => ?_
  refine h _ _ (I.hok.fresh (Nat.le_refl _)) (I.laid (a := s.heap.objs.size) (o := .dK kvs) (t' := s.toks) (fun b q hq => ?_) (Nat.le_refl _) (dk_new z (beq_eq_false_iff_ne.mpr (Ne.symm (Nat.ne_of_lt I.big))) rel dd'))
  exact (hs.2 b (Nat.ne_of_lt (Heap.lt_size hq))).trans (Heap.get?_push_of_some _ hq)
end


section
variable {X : Cx} {pins : List (Addr × Obj)} {σ : St} {H : Hp} {s : Shared} {a : Addr} {y : V} {u : Value} {A : Around} {E : Value → Shared → Prop}
/-- d[y], not there: a KeyError -/
theorem d_missing {Q : Value → Shared → Prop} (hu : A.units + 1 < cLine) (hh : A.handled = none) (I : Inv X pins σ H s) (g : DGet H a y none) (ry : RelV y u)
    (h : ∀ h' e t', Heap.NewExc s.heap h' e "KeyError" → E (.ref e) { s with heap := h', toks := t' }) : wpAny (model X.prog X.w) A (getItem (.ref a) u) Q E s := by
  rcases g with ⟨kvs, k, e, ey, l⟩ | ⟨kvs, k, b, e, ey, eb, l⟩
  · subst ey
    obtain ⟨z, hd, vs, rel, dd⟩ := dk_rd I.hok e
    have hn : valueAt vs k = none := RelO.none_of (by rw [l]; exact rel.val k)
    exact wpAny_getItem_missing_of (kV_is ry) hd hh dd.mapOf hn fun h' ex ne => h h' ex _ ne
  · subst ey
    cases (show u = Value.ref b from ry)
    obtain ⟨z, hd, xs, rel, dd⟩ := dt_rd I.hok e
    have hn : (atKey xs k).map (·.2) = none := RelO.none_of (by rw [l]; exact rel.val k)
    exact wpAny_getItem_missing_heap (tupleKind_room_in1 hu) (key_of I.hok eb) hd hh dd (Option.map_eq_none_iff.mp hn) fun h' ex ne => h h' ex _ ne
end
end L2

namespace Att
open PySem PySem.W PySem.Calls PyProof.Rows

/-! ### the script -/
theorem ints_of_wellAll {P : Params} {h : Heap} : ∀ (ns : List Int) (vs : List Value), WellAll P h vs (ns.map WData.int) → IntsAre vs ns := by
  intro ns
  induction ns with
  | nil =>
    intro vs w
    rw [List.map_nil] at w
    cases w
    exact .nil
  | cons n ns ih =>
    intro vs w
    rw [List.map_cons] at w
    cases w with
    | cons a b =>
      cases a
      exact .cons _ _ (ih _ b)

theorem script_of {l : OpenLaw} {n : Nat} (hn : l.most = some n) {P : Params} {h : Heap} {args : List WData} {vals : List Value}
    (hpre : l.row.toRowW.claim.pre args = true) (hwl : WellAll P h vals args) :
    ∃ a vs ns, vals = [Value.ref a] ∧ args = [WData.list (ns.map WData.int)] ∧ h.get? a = some { cls := .type "list", data := .seq vs.toArray } ∧ IntsAre vs ns ∧ ns.length ≤ n := by
  have hsh : WShape.hasAll [] args [.list .int] = true := (pre_splitW hpre).1
  have hc : l.pre.holds [] { args := args } = true := (pre_splitW hpre).2
  obtain ⟨d, r, rfl, h1, h2⟩ := hasAllW_cons hsh
  obtain rfl := hasAllW_nil h2
  obtain ⟨xs, rfl, h3⟩ := hasW_list h1
  obtain ⟨ns, rfl⟩ := items_int h3
  have hlen : ns.length ≤ n := by
    unfold OpenLaw.pre at hc
    have h4 : (WTm.not (.lt (.lit (.int (n : Int))) (.len (.arg 0)))).holds [] { args := [.list (ns.map .int)] } = true := by
      have h4 := (holds_andW hc).1
      rw [hn] at h4
      exact h4
    have h5 := condW_of h4 (w_not (w_lt w_lit (w_len_list (w_arg rfl))))
    rw [List.length_map] at h5
    refine Nat.le_of_not_lt fun q => ?_
    have q' : (n : Int) < ((ns.length : Nat) : Int) := by omega
    first
      | (rw [decide_eq_true q'] at h5; exact absurd h5 (by decide))
      | (simp at h5; omega)
  cases hwl with
  | cons w1 w2 =>
    cases w2
    cases w1 with
    | list ho hall => exact ⟨_, _, ns, rfl, rfl, ho, ints_of_wellAll ns _ hall, hlen⟩

theorem post_true (l : OpenLaw) (args : List WData) : l.row.toRowW.claim.post args (.bool true) args = true :=
  postW_of (r := l.row.toRowW) (X := (true == true))
    (show WShape.has [] (.bool true) .bool = true by first | rfl | decide | simp [WShape.has, WShape.arms, WShape.armsAll])
    (show (WTm.eq .res (.lit (.bool true))).value [] { args := args, res := some (.bool true), after := args } = some (.bool (true == true)) from w_eq_bool (w_res rfl) w_lit) rfl

/-! ### the attachment: holds_open's last premise (the goal 'hc' behind k_head) from a wpAny of the law's body -/
theorem attach {l : OpenLaw} {n : Nat} {q : Program} {loose : List Str} {XP : (Str → Option Value) → Heap → Prop} {YP : World → Heap → Prop} {d : DefRec} {x : Str}
    (hn : l.most = some n) (hdf : d.params.defaults = [])
    (hbind : ∀ pm cd doc v : Value, bindArgs (docDef d.name d.params d.body d.scope pm cd doc) ⟨[v], []⟩ = pure [(x, v)])
    (hx : d.scope.names.lookup x = some .local ∨ d.scope.names.lookup x = some .cell)
    (hk : d.scope.kind = .function) (hco : d.scope.isCoroutine = false) (hgen : d.scope.isGenerator = false)
    (body : ∀ (w : World) (s₀ s₁ s : Shared) (mg mb : Str → Option Value) (fa : Addr) (o : Obj) (pm cd doc : Value) (a : Addr) (vs : List Value) (ns : List Int),
      Ground q loose [] XP w s₀ mg mb s₁.heap → YP w s₁.heap →
      s₁.heap.get? fa = some o → o.data = .func (docDef d.name d.params d.body d.scope pm cd doc) → s₁.heap.CodeRec cd d.name → mg d.name = some (.ref fa) →
      s₁.heap.get? a = some { cls := .type "list", data := .seq vs.toArray } → IntsAre vs ns → ns.length ≤ n →
      s.gens = #[] → s.os = s₁.os →
      Fr s₁.heap s₁.heap.objs.size s.heap (bindL (envOfC d.name d.scope s₁.heap.objs.size fa cd).kindOf [(x, .ref a)] fun _ => none) →
      Cl s₁.heap.objs.size (cellsFrom (s₁.heap.objs.size + 1) d.scope.names []) s.heap (bindC (envOfC d.name d.scope s₁.heap.objs.size fa cd).kindOf [(x, .ref a)] fun _ => none) →
      wpAny (model l.prog w) (callerA.deeper (envOfC d.name d.scope s₁.heap.objs.size fa cd)) (execs d.body (envOfC d.name d.scope s₁.heap.objs.size fa cd))
        (fun f s' => f = .ret (.bool true) ∧ OldK s₁.heap s'.heap ∧ s'.os = s₁.os ∧ AllBare s'.gens) (fun _ _ => False) s) :
    WalkO q loose XP YP l.row.toRowW d [] (fun f vs => PySem.call f vs) := by
  intro w s₀ s₁ mg mb G Y fa o pm cd doc dV kV ho hd hcd hD hmg hg args vals as hpre hlay hrd hwl hlo
  obtain rfl : dV = .none := Dflts.none hD hdf
  obtain rfl : kV = .none := Dflts.noKw hD
  obtain ⟨a, vs, ns, rfl, rfl, hobj, hints, hlen⟩ := script_of hn hpre hwl
  refine enter_call ?_
  refine call_cells_ret (o := o) (by rw [depth_caller]; decide) ho (fd_plain hd) G.T.nolimit hcd (hbind pm cd doc (.ref a)) (fun y hy => ?_) (fun h₁ tk F X => ?_) hco hgen hk
  · obtain rfl : y = (x, Value.ref a) := List.mem_singleton.mp hy
    rcases hx with e | e
    · exact .inl e
    · exact .inr ⟨e, cellsFrom_some _ _ _ (.inl e)⟩
  · refine wpAny_mono (body w s₀ s₁ { s₁ with heap := h₁, toks := tk } mg mb fa o pm cd doc a vs ns G Y ho (fd_plain hd) hcd hmg hobj hints hlen hg rfl F X) (fun f s' hq => ?_) (fun _ _ hq => hq)
    obtain ⟨rfl, h2, h3, h4⟩ := hq
    exact ⟨.inl ⟨.bool true, .bool true, [], rfl, fun _ => rfl, .bool true, post_true l _, fun _ => ⟨List.Pairwise.nil, fun _ hm => (nomatch hm)⟩⟩, h2, h3, h4⟩

/-- the same from a codeAny of the CALL (for a layer whose function contracts speak of calls) -/
theorem attach_call {l : OpenLaw} {n : Nat} {q : Program} {loose : List Str} {XP : (Str → Option Value) → Heap → Prop} {YP : World → Heap → Prop} {d : DefRec}
    (hn : l.most = some n) (hdf : d.params.defaults = [])
    (call : ∀ (w : World) (s₀ s₁ : Shared) (mg mb : Str → Option Value) (fa : Addr) (o : Obj) (pm cd doc : Value) (a : Addr) (vs : List Value) (ns : List Int),
      Ground q loose [] XP w s₀ mg mb s₁.heap → YP w s₁.heap →
      s₁.heap.get? fa = some o → o.data = .func (docDef d.name d.params d.body d.scope pm cd doc) → s₁.heap.CodeRec cd d.name → mg d.name = some (.ref fa) →
      s₁.heap.get? a = some { cls := .type "list", data := .seq vs.toArray } → IntsAre vs ns → ns.length ≤ n → s₁.gens = #[] →
      codeAny (model l.prog w) callerA (.call (.ref fa) ⟨[.ref a], []⟩) (fun r s' => r = .ok (.ret (.bool true)) ∧ OldK s₁.heap s'.heap ∧ s'.os = s₁.os ∧ AllBare s'.gens) s₁) :
    WalkO q loose XP YP l.row.toRowW d [] (fun f vs => PySem.call f vs) := by
  intro w s₀ s₁ mg mb G Y fa o pm cd doc dV kV ho hd hcd hD hmg hg args vals as hpre hlay hrd hwl hlo
  obtain rfl : dV = .none := Dflts.none hD hdf
  obtain rfl : kV = .none := Dflts.noKw hD
  obtain ⟨a, vs, ns, rfl, rfl, hobj, hints, hlen⟩ := script_of hn hpre hwl
  refine enter_call (codeAny_mono (call w s₀ s₁ mg mb fa o pm cd doc a vs ns G Y ho (fd_plain hd) hcd hmg hobj hints hlen hg) fun r s' hq => ?_)
  obtain ⟨rfl, h2, h3, h4⟩ := hq
  exact ⟨.inl ⟨.bool true, .bool true, [], rfl, fun _ => rfl, .bool true, post_true l _, fun _ => ⟨List.Pairwise.nil, fun _ hm => (nomatch hm)⟩⟩, h2, h3, h4⟩

/-- the same where the top left finished generators (o_head chose holds_openN): nothing may have changed at all and no generator may be left -/
theorem attachN {l : OpenLaw} {n : Nat} {q : Program} {loose : List Str} {XP : (Str → Option Value) → Heap → Prop} {YP : World → Heap → Prop} {d : DefRec} {x : Str}
    (hn : l.most = some n) (hdf : d.params.defaults = [])
    (hbind : ∀ pm cd doc v : Value, bindArgs (docDef d.name d.params d.body d.scope pm cd doc) ⟨[v], []⟩ = pure [(x, v)])
    (hx : d.scope.names.lookup x = some .local ∨ d.scope.names.lookup x = some .cell)
    (hk : d.scope.kind = .function) (hco : d.scope.isCoroutine = false) (hgen : d.scope.isGenerator = false)
    (body : ∀ (w : World) (s₀ s₁ s : Shared) (mg mb : Str → Option Value) (fa : Addr) (o : Obj) (pm cd doc : Value) (a : Addr) (vs : List Value) (ns : List Int),
      Ground q loose [] XP w s₀ mg mb s₁.heap → YP w s₁.heap →
      s₁.heap.get? fa = some o → o.data = .func (docDef d.name d.params d.body d.scope pm cd doc) → s₁.heap.CodeRec cd d.name → mg d.name = some (.ref fa) →
      s₁.heap.get? a = some { cls := .type "list", data := .seq vs.toArray } → IntsAre vs ns → ns.length ≤ n →
      s.gens = #[] → s.os = s₁.os →
      Fr s₁.heap s₁.heap.objs.size s.heap (bindL (envOfC d.name d.scope s₁.heap.objs.size fa cd).kindOf [(x, .ref a)] fun _ => none) →
      Cl s₁.heap.objs.size (cellsFrom (s₁.heap.objs.size + 1) d.scope.names []) s.heap (bindC (envOfC d.name d.scope s₁.heap.objs.size fa cd).kindOf [(x, .ref a)] fun _ => none) →
      wpAny (model l.prog w) (callerA.deeper (envOfC d.name d.scope s₁.heap.objs.size fa cd)) (execs d.body (envOfC d.name d.scope s₁.heap.objs.size fa cd))
        (fun f s' => f = .ret (.bool true) ∧ (∀ b o, s₁.heap.get? b = some o → s'.heap.get? b = some o) ∧ s'.os = s₁.os ∧ s'.gens = #[]) (fun _ _ => False) s) :
    WalkN q loose XP YP l.row.toRowW d [] (fun f vs => PySem.call f vs) := by
  intro w s₀ s₁ mg mb G Y fa o pm cd doc dV kV ho hd hcd hD hmg hg args vals as hpre hlay hrd hwl hlo
  obtain rfl : dV = .none := Dflts.none hD hdf
  obtain rfl : kV = .none := Dflts.noKw hD
  obtain ⟨a, vs, ns, rfl, rfl, hobj, hints, hlen⟩ := script_of hn hpre hwl
  refine enter_callW ?_
  refine call_cells_ret (o := o) (by rw [depth_caller]; decide) ho (fd_plain hd) G.T.nolimit hcd (hbind pm cd doc (.ref a)) (fun y hy => ?_) (fun h₁ tk F X => ?_) hco hgen hk
  · obtain rfl : y = (x, Value.ref a) := List.mem_singleton.mp hy
    rcases hx with e | e
    · exact .inl e
    · exact .inr ⟨e, cellsFrom_some _ _ _ (.inl e)⟩
  · refine wpAny_mono (body w s₀ s₁ { s₁ with heap := h₁, toks := tk } mg mb fa o pm cd doc a vs ns G Y ho (fd_plain hd) hcd hmg hobj hints hlen hg rfl F X) (fun f s' hq => ?_) (fun _ _ hq => hq)
    obtain ⟨rfl, h2, h3, h4⟩ := hq
    exact ⟨.inl ⟨.bool true, .bool true, [], rfl, fun _ => rfl, .bool true, post_true l _, fun _ => ⟨List.Pairwise.nil, fun _ hm => (nomatch hm)⟩⟩, h2, h3, h4⟩

/-! ### rules over ANY heap (no ledger) from facts about the written part K: the library's own take a ledger (News) for what they write -/
section
variable {prog : Program} {w : World} {A : Around} {E : Value → Shared → Prop} {s : Shared} {K : Frag}

/-- a def of the module, or a method (qual 'C.m'), entered: the frame is the next address; cells behind it -/
theorem call_fn {R : Result → Shared → Prop} {name qual : Str} {params : Arguments} {body : List Stmt} {scope : Scope} {dV kV doc pm cdv ct oc : Value} {an od : Option Addr} {osl : Array (Option Value)} {f : Addr} {args : Args} {binds : List (Str × Value)}
    (X : K.In s.heap) (hlim : s.heap.NoLimit) (ho : K.lookup f = some ⟨oc, od, .func (fnOf name qual params body scope dV kV doc pm an cdv ct), osl⟩) (hcd : codeIn K cdv qual = true) (hroom : A.depth < recursionLimit)
    (hbind : BindsTo s (fnOf name qual params body scope dV kV doc pm an cdv ct) args binds)
    (hkind : (binds.all fun y => scope.names.lookup y.1 == some .local || scope.names.lookup y.1 == some .cell) = true)
    (h : ∀ s₁, InCallC s s.heap.objs.size (bindL (envOfC qual scope s.heap.objs.size f cdv).kindOf binds fun _ => none) (cellsFrom (s.heap.objs.size + 1) scope.names [])
        (bindC (envOfC qual scope s.heap.objs.size f cdv).kindOf binds fun _ => none) s₁ →
      wpAny (model prog w) (A.deeper (envOfC qual scope s.heap.objs.size f cdv)) (execs body (envOfC qual scope s.heap.objs.size f cdv))
        (fun fl s' => R (.ok (.ret (match fl with | .ret v => v | _ => .none))) s')
        (fun e s' => wpAny (model prog w) (A.deeper (envOfC qual scope s.heap.objs.size f cdv)) (leaving (envOfC qual scope s.heap.objs.size f cdv) e) (fun _ s'' => R (.error e) s'') (fun e' s'' => R (.error e') s'') s') s₁)
    (hco : scope.isCoroutine = false) (hgen : scope.isGenerator = false) (hk : scope.kind = .function) : codeAny (model prog w) A (.call (.ref f) args) R s := by
  refine codeAny_call_function hroom (X _ _ ho) rfl hco hgen rfl (codeRec_of X hcd) (hbind _ _ _ _ ?_)
  refine wpAny_newFunctionEnv_cells hk (kindsX hkind _) fun env he s₁ x => ?_
  subst he
  exact ⟨hlim.keeps x.toInCall.keep, codeAny_func (h s₁ x)⟩

/-- C(..): dict at size, instance at size + 1, then __init__ -/
theorem make_obj {R : Result → Shared → Prop} {C fI : Addr} {rest : List Value} {kw : List (Str × Value)}
    (X : K.In s.heap) (hm : makesIn K C = true) (hi : findIn K (.ref C) "__init__" = some (some (.ref fI))) (hf : isFn K (.ref fI) = true)
    (h : codeAny (model prog w) (A.under (.builtin "type.__call__" ⟨.ref C :: rest, kw⟩)) (.call (.ref fI) ⟨.ref (s.heap.objs.size + 1) :: rest, kw⟩) (InitBack (s.heap.objs.size + 1) R)
      { s with heap := (s.heap.push emptyDict).push (instObj C s.heap.objs.size) }) : codeAny (model prog w) A (.call (.ref C) ⟨rest, kw⟩) R s := by
  obtain ⟨hh, g, d, t, os⟩ := s
  exact make_core (makes_of X hm) (looks_findIn X hi) (fun self => bind_fn X self (beq_iff_eq.mp hf)) (.inl rfl) h

/-- x.name where the instance's dict holds the name and the class does not -/
theorem get_field {x C : Addr} {ox : Obj} {es : List DictEntry} {n : Nat} {name : Str} {expr : Bool} {v : Value} {Q : Value → Shared → Prop}
    (X : K.In s.heap) (I : PySem.W.InstAt s.heap x ox C (some (dictOf es n))) (hg : plainGet K C name = true) (hh : hasDictIn K C = true) (ha : findIn K (.ref C) name = some none)
    (hl : getL name es = some (some v)) (hv : handedIn v = true) (h : Q v { s with toks := s.toks + 1 }) : wpAny (model prog w) A (getAttr (.ref x) name expr) Q E s :=
  get_value X I (plainGet_of hg).1 (findObj_own hh ha rfl hl) hv h

/-- x.m(..): the method found in the class -/
theorem get_method {x C f : Addr} {ox : Obj} {es : List DictEntry} {n : Nat} {name : Str} {pl : Sem Bool} {Q : Value × List Value → Shared → Prop}
    (X : K.In s.heap) (I : PySem.W.InstAt s.heap x ox C (some (dictOf es n))) (hg : plainGet K C name = true) (hf : findIn K (.ref C) name = some (some (.ref f))) (ht : isFn K (.ref f) = true)
    (hl : getL name es = some none) (h : Q (.ref f, [.ref x]) s) : wpAny (model prog w) A (getMethod (.ref x) name pl) Q E s :=
  method_fn X I (plainGet_of hg).1 (plainGet_of hg).2 hf (beq_iff_eq.mp ht) (by show (lookIn name (dictOf es n)).map _ = _; rw [lookIn_dict, hl]; rfl) h

/-! the whole heap as the ledger: makes every rule that writes through a ledger a rule over any heap -/
def noObjs (h : Heap) : Heap := { h with objs := #[] }
theorem noObjs_get (h : Heap) (b : Addr) : (noObjs h).get? b = none := by
  cases e : (noObjs h).get? b with
  | none => rfl
  | some o => exact absurd (Heap.lt_size e) (Nat.not_lt_zero _)
def ledger (h : Heap) (L d : Addr) : List (Addr × Obj) := (List.range h.objs.size).filterMap fun a => if a = L ∨ a = d then none else (h.get? a).map fun o => (a, o)
theorem mem_ledger {h : Heap} {L d a : Addr} {o : Obj} : (a, o) ∈ ledger h L d ↔ a ≠ L ∧ a ≠ d ∧ h.get? a = some o := by
  unfold ledger
  rw [List.mem_filterMap]
  constructor
  · rintro ⟨b, _, e⟩
    split at e
    · cases e
    · rename_i hb
      obtain ⟨o', ho, e'⟩ := Option.map_eq_some_iff.mp e
      cases e'
      exact ⟨fun q => hb (.inl q), fun q => hb (.inr q), ho⟩
  · rintro ⟨n1, n2, ho⟩
    refine ⟨a, List.mem_range.mpr (Heap.lt_size ho), ?_⟩
    rw [if_neg (show ¬ (a = L ∨ a = d) from fun q => q.elim n1 n2), ho] <;> rfl
theorem news_ledger {h : Heap} {L d : Addr} {od : Obj} (hne : d ≠ L) (ho : h.get? d = some od) : News (noObjs h) L h ([] ++ (d, od) :: ledger h L d) := by
  rintro ⟨a, o⟩ hp
  rcases List.mem_cons.mp hp with e | hp
  · cases e
    exact ⟨ho, hne, noObjs_get _ _⟩
  · obtain ⟨n1, n2, e⟩ := mem_ledger.mp hp
    exact ⟨e, n1, noObjs_get _ _⟩
theorem fr_all {h : Heap} {L : Addr} {m : Str → Option Value} (n : h.Ns L m) : Fr (noObjs h) L h m :=
  ⟨n, fun b o e => (by rw [noObjs_get] at e; cases e), Nat.zero_le _⟩
/-- Upd of the head entry (for append_K, setItem_K ..) -/
theorem upd_ledger {h : Heap} {L d : Addr} {o o' : Obj} : Upd d o o' ((d, o) :: ledger h L d) ((d, o') :: ledger h L d) :=
  .head fun ⟨_, _⟩ hp => (mem_ledger.mp hp).2.1

/-- x.name = v over any heap: L is any namespace of the heap (the frame's, say): its map stays, its object is not told; all else but the dict stays -/
theorem set_field {x C dx L : Addr} {ox : Obj} {m : Str → Option Value} {es es' : List DictEntry} {n n' : Nat} {name : Str} {v : Value} {Q : Unit → Shared → Prop}
    (X : K.In s.heap) (I : PySem.W.InstAt s.heap x ox C (some (dictOf es n))) (hd : ox.dict = some dx) (hL : s.heap.Ns L m) (hne : dx ≠ L)
    (hs : findIn K (.ref C) "__setattr__" = some (some (.builtin "object.__setattr__"))) (hp : plainOver K C = true) (ht : takerIn K C name = some none) (hh : hasDictIn K C = true) (hl : (getL name es).isSome = true)
    (e : (putL name (PyData.keyHash w.params name) (.str name (s.toks + 1)) v es, putN name es n) = (es', n')) (hz : es'.length ≤ 1000)
    (h : ∀ h' : Heap, h'.Ns L m → h'.get? dx = some (dictOf es' n') → (∀ b o, b ≠ dx → b ≠ L → s.heap.get? b = some o → h'.get? b = some o) → Q () { s with heap := h', toks := s.toks + 2 }) :
    wpAny (model prog w) A (setAttr (.ref x) name v) Q E s := by
  obtain ⟨e1, e2⟩ := Prod.mk.inj e
  have hdx : s.heap.get? dx = some (dictOf es n) := by
    have := I.dict
    rw [hd] at this
    exact this
  refine set_plain X I hs (osa_dict (s := { s with toks := s.toks + 1 }) (h₀ := noObjs s.heap) (L := L) (m := m) (od := dictOf es n) (od' := dictOf es' n') (es := es') (n := n') (pre := []) (post := ledger s.heap L dx)
    (fr_all hL) (news_ledger hne hdx) X I hd hp ht hh hl (fun _ q => nomatch q) (fun ⟨_, _⟩ q => (mem_ledger.mp q).2.1) (by rw [putName_dict, e1, e2]) rfl hz fun h' F' N' => ?_)
  exact h h' F'.ns (N'.get (List.Mem.head _)) fun b o n1 n2 ho => N'.get (List.Mem.tail _ (mem_ledger.mpr ⟨n2, n1, ho⟩))
end
end Att

namespace L2
open PySem PySem.Spec PyProof.Rows

theorem vals_ints : ∀ {vs : List Value} {ns : List Int}, IntsAre vs ns → Vals (ns.map V.int) vs
  | _, _, .nil => .nil
  | _, _, .cons n t h => .cons ⟨t, rfl⟩ (vals_ints h)

/-- nothing is tracked but the script, known to the object (or it is an object of the module) -/
def Only (H : Hp) : Prop := ∀ b, H b = none ∨ ∃ o xs, H b = some (.frz o (.lst xs))

/-- THE HEAD: the law's promise, at the heap behind the top. F, the promise of the law's def, may use that base is part of the heap (so K.In base, base.Ns mainGlobals mg stand in Mod) -/
theorem law_call {P : Program} {w : World} {K : PySem.W.Frag} {mg mb : Str → Option Value} {CX : CXT} {k : Nat} {fa a : Addr} {fd : FuncData} {x : Str} {sp : Sp} {s₁ : Shared} {vs : List Value} {ns : List Int}
    (KX : K.In s₁.heap) (hns : s₁.heap.Ns mainGlobals mg) (hb : s₁.heap.Ns builtinsNs mb) (hbb : ∀ x : Str, x ≠ "__name__" → mb x = bootBuiltins x) (hlim : s₁.heap.NoLimit) (hg : s₁.gens = #[])
    (ha : s₁.heap.get? a = some { cls := .type "list", data := .seq vs.toArray }) (hi : IntsAre vs ns) (hl : ns.length ≤ sizeLine) (hr : Room k callerA)
    (F : ∀ base : Heap, K.In base → base.Ns mainGlobals mg → FnOk P w K mg base CX k fa fd [x] sp) (hbind : ∀ (s : Shared) (u : Value), BindsTo s fd ⟨[u], []⟩ [(x, u)])
    (hsp : ∀ H : Hp, Only H → SqL K H a (ns.map V.int) → sp [.ref a] H (fun v _ => v = .bl true) fun _ _ _ => False)
    (hCX : ∀ H e s', CX [] H s₁ (fun _ _ _ => False) e s' → False) :
    codeAny (model P w) callerA (.call (.ref fa) ⟨[.ref a], []⟩) (fun r s' => r = .ok (.ret (.bool true)) ∧ OldK s₁.heap s'.heap ∧ s'.os = s₁.os ∧ AllBare s'.gens) s₁ := by
  have rv := vals_ints hi
  have lenV := hi.length
  -- from an abstract heap in which nothing but the script may be tracked
  have core : ∀ H : Hp, Only H → SqL K H a (ns.map V.int) → HOk P w H s₁.heap → (∀ b, H b ≠ none → b = a) → (H a ≠ none → K.lookup a = none) →
      codeAny (model P w) callerA (.call (.ref fa) ⟨[.ref a], []⟩) (fun r s' => r = .ok (.ret (.bool true)) ∧ OldK s₁.heap s'.heap ∧ s'.os = s₁.os ∧ AllBare s'.gens) s₁ := by
    intro H hO hS hok hA hK
    have base_of : ∀ {b : Addr} {o : Obj}, s₁.heap.get? b = some o → H b = none → (hidT s₁.heap H).get? b = some o := fun e n => hidT_get e n
    have noA : ∀ {b : Addr} {o : Obj} {es : Array DictEntry} {ep : Nat}, s₁.heap.get? b = some o → o.data = .dict es ep → H b = none := fun {b o es ep} e d => by
      cases q : H b with
      | none => rfl
      | some u =>
        have e' : b = a := hA b (by rw [q]; simp)
        subst e'
        rw [ha] at e; cases e
        have d' : Data.seq vs.toArray _ = Data.dict es ep := d
        cases d'
    have nsK : ∀ {b : Addr} {m : Str → Option Value}, s₁.heap.Ns b m → (hidT s₁.heap H).Ns b m := fun {b m} ⟨o, es, ep, e, d, r⟩ => ⟨o, es, ep, base_of e (noA e d), d, r⟩
    have hKb : K.In (hidT s₁.heap H) := fun b o e => base_of (KX b o e) (by
      cases q : H b with
      | none => rfl
      | some u =>
        have e' : b = a := hA b (by rw [q]; simp)
        subst e'
        rw [hK (by rw [q]; simp)] at e; cases e)
    have hM : Mod K mg (hidT s₁.heap H) := ⟨hKb, nsK hns, ⟨mb, nsK hb, hbb⟩, let ⟨mc, h1, h2⟩ := hlim; ⟨mc, nsK h1, h2⟩⟩
    have e0 : Env0 P w K mg (hidT s₁.heap H) callerA [] s₁ H := ⟨rfl, hM, fun b o e => of_hidT e, Nat.le_of_eq (hidT_size _ _), trivial, fun b hb => absurd (show b ∈ ([] : List Addr) from hb) (by simp), hok, .of_eq hg⟩
    refine codeAny_mono ((F _ hKb (nsK hns)).run callerA [] s₁ H ⟨[.ref a], []⟩ [.ref a] [.ref a] _ _ hr e0 (hbind s₁ (.ref a)) (.cons rfl .nil) (hsp H hO hS)) fun r s' h => ?_
    cases r with
    | error e => exact (hCX H e s' h).elim
    | ok fl =>
      cases fl with
      | next => exact False.elim h
      | brk => exact False.elim h
      | cont => exact False.elim h
      | ret u =>
        obtain ⟨v, H', os, bare, un, hok', r', q⟩ := h
        have q' : v = .bl true := q
        subst q'
        obtain rfl : u = Value.bool true := r'
        refine ⟨rfl, OldK.of_keep fun b o e => ?_, os, bare⟩
        cases q : H b with
        | none => exact un.keep b o e q (by intro z; exact absurd (show b ∈ ([] : List Addr) from z) (by simp)) (by simp)
        | some u =>
          rcases hO b with z | ⟨ob, xs, z⟩
          · rw [q] at z; cases z
          · have z2 := un.frzs b ob _ z
            obtain ⟨e1, _⟩ := hok b _ z
            obtain ⟨e2, _⟩ := hok' b _ z2
            rw [e] at e1; cases e1
            exact e2
  cases hk : K.lookup a with
  | some o =>
    -- the script is one of the module's own objects
    have e := KX a o hk
    rw [ha] at e
    cases e
    refine core (fun _ => none) (fun _ => .inl rfl) (.inr ⟨_, vs.toArray, _, hk, rfl, rfl, rfl, by rw [List.size_toArray, lenV]; exact hl, by simpa using rv⟩) (fun b u z => by have z' : (none : Option HO) = some u := z; cases z') (fun b z => absurd rfl z) fun z => absurd rfl z
  | none =>
    refine core (fun b => if b = a then some (.frz { cls := .type "list", data := .seq vs.toArray } (.lst (ns.map V.int))) else none) (fun b => ?_) (.inl (.inr ⟨{ cls := .type "list", data := .seq vs.toArray }, if_pos rfl⟩)) (fun b u z => ?_) (fun b z => ?_) fun _ => hk
    · by_cases hb : b = a
      · exact .inr ⟨_, _, if_pos hb⟩
      · exact .inl (if_neg hb)
    · by_cases hb : b = a
      · have z' := (if_pos hb).symm.trans z
        cases z'
        subst hb
        exact ⟨ha, by rw [List.length_map]; exact hl, vs, _, rv, ha⟩
      · have z' := (if_neg hb).symm.trans z
        cases z'
    · by_cases hb : b = a
      · exact hb
      · exact absurd (if_neg hb) z
end L2

namespace L2
open PySem PySem.Spec PyProof.Rows

abbrev KOf {K : PySem.W.Frag} {h : Heap} (_ : K.In h) : PySem.W.Frag := K

/-- the goal that k_head leaves (case hc), from the law's promise. F gives the function object fd (K's own) once, then the promise over every base -/
theorem walk_of {l : PySem.W.OpenLaw} {n k : Nat} {q : Program} {loose : List Str} {XP : (Str → Option Value) → Heap → Prop} {YP : World → Heap → Prop} {d : DefRec} {K : Params → PySem.W.Frag} {CX : World → CXT} {sp : World → Sp} {x : Str}
    (hn : l.most = some n) (hn2 : n ≤ sizeLine) (hdf : d.params.defaults = []) (hr : Room k callerA)
    (hY : ∀ (w : World) (h : Heap), YP w h → (K w.params).In h)
    (F : ∀ (w : World) (mg : Str → Option Value) (fa : Addr) (h : Heap), (K w.params).In h → h.Ns mainGlobals mg → mg d.name = some (.ref fa) →
      ∃ fd : FuncData, (∀ (s : Shared) (u : Value), BindsTo s fd ⟨[u], []⟩ [(x, u)]) ∧
        ∀ base : Heap, (K w.params).In base → base.Ns mainGlobals mg → FnOk l.prog w (K w.params) mg base (CX w) k fa fd [x] (sp w))
    (hsp : ∀ (w : World) (H : Hp) (a : Addr) (ns : List Int), ns.length ≤ n → Only H → SqL (K w.params) H a (ns.map V.int) → sp w [.ref a] H (fun v _ => v = .bl true) fun _ _ _ => False)
    (hCX : ∀ (w : World) (H : Hp) (s : Shared) (e : Value) (s' : Shared), CX w [] H s (fun _ _ _ => False) e s' → False) :
    PySem.W.WalkO q loose XP YP l.row.toRowW d [] (fun f vs => PySem.call f vs) := by
  refine Att.attach_call hn hdf fun w s₀ s₁ mg mb fa o pm cd doc a vs ns G Y ho hd hcd hmg hobj hints hlen hg => ?_
  have KX := hY w _ Y
  obtain ⟨fd, hb, hF⟩ := F w mg fa _ KX G.T.g hmg
  exact law_call KX G.T.g G.T.b G.T.builtins G.T.nolimit hg hobj hints (Nat.le_trans hlen hn2) hr hF hb (fun H hO hS => hsp w H a ns hlen hO hS) fun H e s' => hCX w H s₁ e s'
/-- the same where the promise hangs on the written part alone: (sp := My.sp_law), no hole under a binder -/
theorem walk_ofK {l : PySem.W.OpenLaw} {n k : Nat} {q : Program} {loose : List Str} {XP : (Str → Option Value) → Heap → Prop} {YP : World → Heap → Prop} {d : DefRec} {K : Params → PySem.W.Frag} {CX : CXT} {sp : PySem.W.Frag → Sp} {x : Str}
    (hn : l.most = some n) (hn2 : n ≤ sizeLine) (hdf : d.params.defaults = []) (hr : Room k callerA)
    (hY : ∀ (w : World) (h : Heap), YP w h → (K w.params).In h)
    (F : ∀ (w : World) (mg : Str → Option Value) (fa : Addr) (h : Heap), (K w.params).In h → h.Ns mainGlobals mg → mg d.name = some (.ref fa) →
      ∃ fd : FuncData, (∀ (s : Shared) (u : Value), BindsTo s fd ⟨[u], []⟩ [(x, u)]) ∧
        ∀ base : Heap, (K w.params).In base → base.Ns mainGlobals mg → FnOk l.prog w (K w.params) mg base CX k fa fd [x] (sp (K w.params)))
    (hsp : ∀ (K : PySem.W.Frag) (H : Hp) (a : Addr) (ns : List Int), ns.length ≤ n → Only H → SqL K H a (ns.map V.int) → sp K [.ref a] H (fun v _ => v = .bl true) fun _ _ _ => False)
    (hCX : ∀ (H : Hp) (s : Shared) (e : Value) (s' : Shared), CX [] H s (fun _ _ _ => False) e s' → False) :
    PySem.W.WalkO q loose XP YP l.row.toRowW d [] (fun f vs => PySem.call f vs) :=
  walk_of (K := K) (CX := fun _ => CX) (sp := fun w => sp (K w.params)) hn hn2 hdf hr hY F (fun w H a ns h1 h2 h3 => hsp (K w.params) H a ns h1 h2 h3) fun _ H s e s' => hCX H s e s'
end L2

/- THE LAST THEOREM (shape; LID, My.* are yours):
   My.Adr: a structure of the addresses that your layer names (classes, functions); My.Txt K t: a structure (Prop) of the equations over K;
   My.txt_mk : {K} {implicit addresses ..} (e1 : nsIn K mainGlobals "law" = some (some (.ref f))) (e2 : K.lookup f = some ⟨oc, od, .func (fnOf "law" "law" params body scope dV kV doc pm an cdv ct), sl⟩) (e3 : codeIn K cdv "law" = true) .. : ∃ t, My.Txt K t

set_option maxRecDepth 100000 in
set_option maxHeartbeats 0 in
theorem PySem.Challenge.cw_LID_holds : PySem.Challenge.rw_LID.Holds := by
  w_on; o_law; k_head; (case hw => w_witness2)
  k_fill
  refine L2.walk_of (l := PySem.Challenge.rw_LID) (n := 63) (k := 40) (x := "script") (CX := fun w => ..) (sp := fun _ => My.sp_law) rfl (by decide) rfl ⟨rfl, by decide, by decide⟩ (fun w h Y => PySem.W.kIn_of Y) ?F ?S ?C
  case F =>
    intro w mg fa h KX G hmg
    have T : ∃ t, My.Txt (L2.KOf KX) t := by
      dsimp only [L2.KOf]                          -- K must stand as «<heap const> w.params» for k_is
      refine' My.txt_mk ?e1 ?e2 ?e3 ..
      (case e1 => PySem.W.k_is)                    -- in the order: a name -> its address -> its object -> its parts
      (case e2 => PySem.W.k_is)
      ..
    obtain ⟨t, T⟩ := T
    have e0 := hmg.symm.trans (PySem.W.mg_of KX G T.law)
    cases e0                                       -- fa is the law's own address
    exact ⟨_, fun s u => .of_eq rfl, fun base kb nb => My.law_fn T kb nb⟩     -- if «.of_eq rfl» comes too early: refine' ⟨_, ?b, fun base kb nb => My.law_fn T kb nb⟩; exact fun s u => .of_eq rfl
  case S => exact fun w H a ns hl hO hS => ..
  case C => exact ..
(the tactic k_is has no namespace: write k_is) -/

/-! SHORT WORDS over the layer: a def of the text, its body, what a loop and a test want. -/
namespace L2
open PySem PySem.Spec PyProof.Rows

/-! ### the text by places -/
/-- the j-th statement of a class's body -/
def inClass (s : Stmt) (j : Nat) : Stmt := match s with
  | .ClassDef _ _ _ body _ _ _ _ _ _ _ => body.getD j (.Pass ⟨0, 0, 0, 0⟩)
  | _ => .Pass ⟨0, 0, 0, 0⟩
def defArgs (s : Stmt) : Arguments := match s with
  | .FunctionDef _ a _ _ _ _ _ _ _ _ => a
  | _ => { posonlyargs := [], args := [], vararg := none, kwonlyargs := [], kw_defaults := [], kwarg := none, defaults := [] }
def defBody (s : Stmt) : List Stmt := match s with
  | .FunctionDef _ _ b _ _ _ _ _ _ _ => b
  | _ => []
def defScope (s : Stmt) : Scope := match s with
  | .FunctionDef _ _ _ _ _ _ sc _ _ _ => sc
  | _ => { kind := .function, names := [], isGenerator := false, isCoroutine := false }

/-! ### no exception leaves a def -/
abbrev CX0 : CXT := fun _ _ _ _ _ _ => False
abbrev E0 : XK := fun _ _ _ => False
theorem pass0 {X : Cx} : Passes CX0 X E0 := fun _ _ _ _ _ _ _ h => h.elim

/-! ### a def (or method) of the text as it stands behind the top -/
structure Fun (K : PySem.W.Frag) (x qual : Str) (st : Stmt) (f : Addr) (fd : FuncData) : Prop where
  ex : ∃ (oc : Value) (od : Option Addr) (kV doc pm : Value) (an : Option Addr) (cdv ct : Value) (osl : Array (Option Value)),
    fd = PySem.W.fnOf x qual (defArgs st) (defBody st) (defScope st) .none kV doc pm an cdv ct ∧ K.lookup f = some ⟨oc, od, .func fd, osl⟩ ∧ PySem.W.codeIn K cdv qual = true
  kp : PySem.W.keepIn K (.ref f) = true
section
variable {P : Program} {w : World} {K : PySem.W.Frag} {mg : Str → Option Value} {base : Heap}
/-- THE RULE for a def: its body as a term of rules, and the reading of that term -/
theorem Fun.ok {x qual : Str} {st : Stmt} {f : Addr} {fd : FuncData} {N ps : List Str} {k : Nat} {sp : Sp} (F : Fun K x qual st f fd) (S : FnScope N ps (defScope st)) (len : ∀ vs H Q E, sp vs H Q E → vs.length = ps.length)
    (hbody : ∀ (cdv : Value) (A : Around) (outer : List Env) (s : Shared) (H : Hp) (vs : List V) (Q : VK) (E : XK), Room k (A.deeper (envOfC qual (defScope st) s.heap.objs.size f cdv)) → sp vs H Q E →
      ∃ t, PSs (cxOf CX0 P w K mg base N qual (defScope st) f cdv A outer s H E).nox (defBody st) t ∧ t { nx := fun _ H' => Q .non H', rt := Q } (start N vs) H) : FnOk P w K mg base CX0 (k + 1) f fd ps sp := by
  obtain ⟨oc, od, kV, doc, pm, an, cdv, ct, osl, rfl, lk, hcd⟩ := F.ex
  refine fn_of lk hcd S len fun A outer s H vs Q E hr hsp => ?_
  obtain ⟨t, h, q⟩ := hbody cdv A outer s H vs Q E hr hsp
  exact ⟨t, h.nox, q⟩
/-- how its arguments bind (no defaults): h is «fun _ _ _ _ _ _ us hl => match us, hl with | [_, _], _ => rfl», one _ a parameter -/
theorem Fun.binds {x qual : Str} {st : Stmt} {f : Addr} {fd : FuncData} {ps : List Str} (F : Fun K x qual st f fd)
    (h : ∀ (kV doc pm : Value) (an : Option Addr) (cdv ct : Value) (us : List Value), us.length = ps.length → bindArgs (PySem.W.fnOf x qual (defArgs st) (defBody st) (defScope st) .none kV doc pm an cdv ct) ⟨us, []⟩ = pure (ps.zip us)) : Binds K fd ps [] := by
  obtain ⟨oc, od, kV, doc, pm, an, cdv, ct, osl, rfl, lk, hcd⟩ := F.ex
  exact .all (h kV doc pm an cdv ct)
theorem fun_mk {x qual : Str} {st : Stmt} {f : Addr} {oc : Value} {od an : Option Addr} {osl : Array (Option Value)} {kV doc pm cdv ct : Value} (l : K.lookup f = some ⟨oc, od, .func (PySem.W.fnOf x qual (defArgs st) (defBody st) (defScope st) .none kV doc pm an cdv ct), osl⟩)
    (c : PySem.W.codeIn K cdv qual = true) (k : PySem.W.keepIn K (.ref f) = true) : Fun K x qual st f (PySem.W.fnOf x qual (defArgs st) (defBody st) (defScope st) .none kV doc pm an cdv ct) := ⟨⟨oc, od, kV, doc, pm, an, cdv, ct, osl, rfl, l, c⟩, k⟩
end
theorem hu_of {A : Around} {k : Nat} (hr : Room k A) : A.units + 1 < cLine := Nat.lt_of_le_of_lt (Nat.add_le_add_left (by decide : 1 ≤ 64) _) hr.units
theorem small1000 {n : Nat} (h : n ≤ 1000) : n < sizeLine := Nat.lt_of_le_of_lt h (by decide)

/-! ### expressions in short: the name that stands in the i-th slot -/
section
variable {X : Cx}
theorem pv (i : Nat) {x : Str} {pos : Pos} (hN : X.N[i]? = some x := by rfl) (hv : Vis X.env.scope x := by first | exact Or.inl rfl | exact Or.inr (Or.inl rfl) | exact Or.inr (Or.inr rfl)) (hd : (x == ("__debug__" : Str)) = false := by decide)
    (hcd : (x == ("__classdict__" : Str)) = false := by decide) : PE X (.Name x pos) (tVar i) := pe_var hN hv hd hcd
end

/-! ### tests -/
theorem iteF {A B : Prop} (h : B) : if false = true then A else B := by
  rw [if_neg Bool.false_ne_true]
  exact h
theorem iteT {A B : Prop} (h : A) : if true = true then A else B := by
  rw [if_pos rfl]
  exact h
theorem ite2 {c A B : Prop} [Decidable c] (h1 : c → A) (h2 : ¬ c → B) : if c then A else B := by
  by_cases h : c
  · rw [if_pos h]
    exact h1 h
  · rw [if_neg h]
    exact h2 h
theorem iteNS {c A B : Prop} [Decidable c] (hc : c) (h : B) : if (!decide c) = true then A else B := by
  rw [decide_eq_true hc]
  exact iteF h

/-! ### heaps -/
/-- all that was tracked is as it was -/
def Same (H H' : Hp) : Prop := ∀ b o, H b = some o → H' b = some o
theorem Same.refl (H : Hp) : Same H H := fun _ _ h => h
theorem Same.trans {H H1 H2 : Hp} (a : Same H H1) (b : Same H1 H2) : Same H H2 := fun c o h => b c o (a c o h)
theorem Same.free {H H' : Hp} (e : Same H H') {l : Addr} (h : H' l = Option.none) : H l = Option.none := by
  cases q : H l with
  | none => rfl
  | some o =>
    rw [e l o q] at h
    cases h
theorem Same.seq {K : PySem.W.Frag} {H H' : Hp} {a : Addr} {xs : List V} (e : Same H H') (h : SqL K H a xs) : SqL K H' a xs := by
  rcases h with (h | ⟨o, h⟩) | h
  · exact .inl (.inl (e _ _ h))
  · exact .inl (.inr ⟨o, e _ _ h⟩)
  · exact .inr h

end L2

set_option maxHeartbeats 4000000
namespace L2
open PySem PySem.Spec PyProof.Rows

/-! ### a list comprehension of one clause, by its turns (own text) -/
theorem forIn_yield_g {α β : Type} {f : α → β → Sem (ForInStep β)} (g : α → β → β) : ∀ (l : List α) (c : β), (∀ x ∈ l, ∀ c, f x c = pure (.yield (g x c))) →
    forIn l c f = pure (l.foldl (fun c x => g x c) c)
  | [], _, _ => rfl
  | x :: l, c, h => by
    rw [List.forIn_cons, h x List.mem_cons_self, pure_bind]
    exact forIn_yield_g g l _ fun y hy => h y (List.mem_cons_of_mem _ hy)

def clStep (env : Env) (cs : List (Str × Addr)) (p : Str × NameKind) : List (Str × Addr) :=
  if p.2 == .free then (p.1, (env.cells.lookup p.1).getD 0) :: cs else cs
/-- the cells that a block takes along -/
def clOf (scope : Scope) (env : Env) : List (Str × Addr) := scope.names.foldl (clStep env) []

theorem cl_mem {env : Env} {x : Str} {c : Addr} : ∀ (l : List (Str × NameKind)) (acc : List (Str × Addr)), (x, c) ∈ l.foldl (clStep env) acc →
    (x, c) ∈ acc ∨ ((x, NameKind.free) ∈ l ∧ c = (env.cells.lookup x).getD 0)
  | [], _, h => .inl h
  | p :: l, acc, h => by
    rcases cl_mem l _ h with q | ⟨q, e⟩
    · unfold clStep at q
      by_cases hp : p.2 == .free
      · rw [if_pos hp] at q
        rcases List.mem_cons.mp q with q | q
        · have e1 : x = p.1 := congrArg Prod.fst q
          have e2 : c = (env.cells.lookup p.1).getD 0 := congrArg Prod.snd q
          have e3 : p.2 = .free := by simpa using hp
          refine .inr ⟨?_, by rw [e1]; exact e2⟩
          have e4 : p = (x, NameKind.free) := by rw [e1, ← e3]
          rw [e4]
          exact List.mem_cons_self
        · exact .inl q
      · rw [if_neg hp] at q
        exact .inl q
    · exact .inr ⟨List.mem_cons_of_mem _ q, e⟩
theorem cl_keeps {env : Env} {p : Str × Addr} : ∀ (l : List (Str × NameKind)) (acc : List (Str × Addr)), p ∈ acc → p ∈ l.foldl (clStep env) acc
  | [], _, h => h
  | q :: l, acc, h => by
    refine cl_keeps l _ ?_
    unfold clStep
    split
    · exact List.mem_cons_of_mem _ h
    · exact h
theorem cl_has {env : Env} {x : Str} : ∀ (l : List (Str × NameKind)) (acc : List (Str × Addr)), (x, NameKind.free) ∈ l → ∃ c, (x, c) ∈ l.foldl (clStep env) acc
  | [], _, h => by cases h
  | p :: l, acc, h => by
    rcases List.mem_cons.mp h with h | h
    · subst h
      refine ⟨(env.cells.lookup x).getD 0, cl_keeps l _ ?_⟩
      unfold clStep
      rw [if_pos (by rfl)]
      exact List.mem_cons_self
    · exact cl_has l _ h
theorem lookup_of_mem {x : Str} {c : Addr} : ∀ {l : List (Str × Addr)}, (x, c) ∈ l → ∃ c', l.lookup x = some c'
  | [], h => by cases h
  | p :: l, h => by
    obtain ⟨n, a⟩ := p
    rw [List.lookup_cons]
    cases hx : x == n with
    | true => exact ⟨a, rfl⟩
    | false =>
      rcases List.mem_cons.mp h with h | h
      · have e : x = n := congrArg Prod.fst h
        rw [e] at hx
        simp at hx
      · exact lookup_of_mem h

/-- every name that a block takes along has a cell here -/
def ClHas (scope : Scope) (env : Env) : Prop := ∀ x, (x, NameKind.free) ∈ scope.names → ∃ c, env.cells.lookup x = some c
theorem cl_lookup {scope : Scope} {env : Env} (h : ClHas scope env) {x : Str} {c : Addr} (e : (clOf scope env).lookup x = some c) : (x, NameKind.free) ∈ scope.names ∧ env.cells.lookup x = some c := by
  rcases cl_mem scope.names [] (PySem.mem_of_lookup e) with q | ⟨q, r⟩
  · cases q
  · obtain ⟨c', hc⟩ := h x q
    rw [hc] at r
    exact ⟨q, by rw [hc, r]; rfl⟩
theorem cl_some {scope : Scope} {env : Env} (h : ClHas scope env) {x : Str} (q : (x, NameKind.free) ∈ scope.names) : ∃ c, (clOf scope env).lookup x = some c ∧ env.cells.lookup x = some c := by
  obtain ⟨c, hc⟩ := cl_has (env := env) scope.names [] q
  obtain ⟨c', h'⟩ := lookup_of_mem hc
  exact ⟨c', h', (cl_lookup h h').2⟩
theorem closure_ok {scope : Scope} {env : Env} (h : ClHas scope env) : closureFor scope env = pure (clOf scope env) := by
  unfold closureFor clOf
  dsimp only
  rw [forIn_yield_g (fun p cs => clStep env cs p) scope.names [] (fun p hp cs => by
    obtain ⟨n, k⟩ := p
    show (if (k == NameKind.free) = true then _ else _) = _
    by_cases hk : (k == NameKind.free) = true
    · have e : k = .free := by simpa using hk
      obtain ⟨c, hc⟩ := h n (e ▸ hp)
      have e2 : cellOf env n = pure c := by unfold cellOf; rw [hc]
      rw [if_pos hk, e2]
      show _ = pure (ForInStep.yield (clStep env cs (n, k)))
      unfold clStep
      rw [if_pos hk, hc]
      rfl
    · rw [if_neg hk]
      show _ = pure (ForInStep.yield (clStep env cs (n, k)))
      unfold clStep
      rw [if_neg hk])]
  rfl

theorem relabel_free {env : Env} : ∀ {names : List (Str × NameKind)} {x : Str}, names.lookup x = some .free →
    (names.map fun (n, k) => if (k == NameKind.free && env.scope.kind == .function && env.kindOf n == some .cell) then (n, NameKind.cell) else (n, k)).lookup x = some .free ∨
    (names.map fun (n, k) => if (k == NameKind.free && env.scope.kind == .function && env.kindOf n == some .cell) then (n, NameKind.cell) else (n, k)).lookup x = some .cell
  | [], _, h => by simp at h
  | (n, k) :: r, x, h => by
    have ih := @relabel_free env r x
    rw [List.map_cons]
    dsimp only
    cases hx : x == n with
    | true =>
      simp only [List.lookup_cons, hx] at h
      cases h
      by_cases hc : (NameKind.free == NameKind.free && env.scope.kind == .function && env.kindOf n == some .cell) = true
      · right
        show List.lookup x ((if _ then _ else _) :: _) = _
        rw [if_pos hc]; simp only [List.lookup_cons, hx]
      · left
        show List.lookup x ((if _ then _ else _) :: _) = _
        rw [if_neg hc]; simp only [List.lookup_cons, hx]
    | false =>
      simp only [List.lookup_cons, hx] at h
      by_cases hc : (k == NameKind.free && env.scope.kind == .function && env.kindOf n == some .cell) = true
      · have e : (if (k == NameKind.free && env.scope.kind == .function && env.kindOf n == some .cell) = true then (n, NameKind.cell) else (n, k)) = (n, NameKind.cell) := if_pos hc
        rw [e]; simp only [List.lookup_cons, hx]; exact ih h
      · have e : (if (k == NameKind.free && env.scope.kind == .function && env.kindOf n == some .cell) = true then (n, NameKind.cell) else (n, k)) = (n, k) := if_neg hc
        rw [e]; simp only [List.lookup_cons, hx]; exact ih h
/-- a name that is a cell's in the block is one that it takes along -/
theorem relabel_back {env : Env} : ∀ {names : List (Str × NameKind)} {x : Str}, (∀ p ∈ names, p.2 ≠ .cell) →
    ((names.map fun (n, k) => if (k == NameKind.free && env.scope.kind == .function && env.kindOf n == some .cell) then (n, NameKind.cell) else (n, k)).lookup x = some .cell ∨
    (names.map fun (n, k) => if (k == NameKind.free && env.scope.kind == .function && env.kindOf n == some .cell) then (n, NameKind.cell) else (n, k)).lookup x = some .free) → (x, NameKind.free) ∈ names
  | [], _, _, h => by simp at h
  | (n, k) :: r, x, hc0, h => by
    have ih := @relabel_back env r x (fun p hp => hc0 p (List.mem_cons_of_mem _ hp))
    rw [List.map_cons] at h
    dsimp only at h
    have key : ∀ K2 : NameKind, (K2 = .cell ∨ K2 = .free) → List.lookup x ((if (k == NameKind.free && env.scope.kind == .function && env.kindOf n == some .cell) = true then (n, NameKind.cell) else (n, k)) ::
        (r.map fun (n, k) => if (k == NameKind.free && env.scope.kind == .function && env.kindOf n == some .cell) then (n, NameKind.cell) else (n, k))) = some K2 → (x, NameKind.free) ∈ (n, k) :: r := by
      intro K2 hK2 hl
      cases hx : x == n with
      | true =>
        have exn : x = n := by simpa using hx
        by_cases hc : (k == NameKind.free && env.scope.kind == .function && env.kindOf n == some .cell) = true
        · have hk : k = .free := by
            have := (Bool.and_eq_true _ _ ▸ (Bool.and_eq_true _ _ ▸ hc).1).1
            simpa using this
          rw [exn, hk]; exact List.mem_cons_self
        · rw [if_neg hc] at hl
          simp only [List.lookup_cons, hx] at hl
          have hk : k = K2 := Option.some.inj hl
          rcases hK2 with q | q
          · exact absurd (hk.trans q) (hc0 (n, k) List.mem_cons_self)
          · rw [exn, hk.trans q]; exact List.mem_cons_self
      | false =>
        refine List.mem_cons_of_mem _ (ih ?_)
        by_cases hc : (k == NameKind.free && env.scope.kind == .function && env.kindOf n == some .cell) = true
        · rw [if_pos hc] at hl
          simp only [List.lookup_cons, hx] at hl
          rcases hK2 with q | q
          · exact .inl (q ▸ hl)
          · exact .inr (q ▸ hl)
        · rw [if_neg hc] at hl
          simp only [List.lookup_cons, hx] at hl
          rcases hK2 with q | q
          · exact .inl (q ▸ hl)
          · exact .inr (q ▸ hl)
    rcases h with h | h
    · exact key .cell (.inl rfl) h
    · exact key .free (.inr rfl) h

/-- the context of a comprehension's block -/
def compCx (X : Cx) (scope : Scope) (N : List Str) (fp : List Addr) (s₂ : Shared) (H₂ : Hp) (C : Addr) : Cx where
  prog := X.prog
  w := X.w
  K := X.K
  mg := X.mg
  base := X.base
  A := X.A
  N := N
  s₀ := s₂
  H₀ := H₂
  env := compEnvC scope (clOf scope X.env) C X.env
  outer := X.stack
  stack := X.stack
  ex := fp
  fn := fun _ => false
  calm := X.calm
  pn := []
  xe := fun _ _ => False

/-- the names taken along, and their slots outside -/
def CapOk (X : Cx) (scope : Scope) : List Str → List Nat → Prop
  | [], [] => True
  | x :: xs, j :: js => (X.N[j]? = some x ∧ (X.env.scope.names.lookup x = some .cell ∨ X.env.scope.names.lookup x = some .free) ∧ scope.names.lookup x = some .free) ∧ CapOk X scope xs js
  | _, _ => False
/-- the block's slots at a turn's start: the targets' are empty -/
def capSt (nT : Nat) (caps : List Nat) (σ : St) : St := List.replicate nT none ++ caps.map fun j => (σ[j]?).getD none
theorem CapOk.len {X : Cx} {scope : Scope} : ∀ {xs : List Str} {js : List Nat}, CapOk X scope xs js → xs.length = js.length
  | [], [], _ => rfl
  | _ :: _, _ :: _, h => by simp only [List.length_cons]; rw [CapOk.len h.2]
  | [], _ :: _, h => h.elim
  | _ :: _, [], h => h.elim
theorem CapOk.get {X : Cx} {scope : Scope} : ∀ {xs : List Str} {js : List Nat} {k : Nat} {x : Str} {j : Nat}, CapOk X scope xs js → xs[k]? = some x → js[k]? = some j →
    X.N[j]? = some x ∧ (X.env.scope.names.lookup x = some .cell ∨ X.env.scope.names.lookup x = some .free) ∧ scope.names.lookup x = some .free
  | [], _, _, _, _, _, h, _ => by simp at h
  | _ :: _, [], _, _, _, h, _, _ => h.elim
  | _ :: _, _ :: _, 0, _, _, h, h1, h2 => by
    simp at h1 h2; subst h1; subst h2; exact h.1
  | _ :: _, _ :: _, k + 1, _, _, h, h1, h2 => CapOk.get (k := k) h.2 (by simpa using h1) (by simpa using h2)

/-- the clause's tests -/
def PF (X : Cx) (ifs : List Expr) (t : TT) : Prop :=
  ∀ (pins : List (Addr × Obj)) (s : Shared) (σ : St) (H : Hp) (Q : Bool → Hp → Prop), Inv X pins σ H s → t σ H Q →
    wpAny (model X.prog X.w) X.A (forIn ifs true fun c r => if r = true then do let ok ← isTrue c X.env (eval c X.env); pure (ForInStep.yield ok) else pure (ForInStep.yield r)) (TP X pins σ Q) X.xe s
def tTrue : TT := fun _ H Q => Q true H
theorem pf_nil {X : Cx} : PF X [] tTrue := fun _ _ _ H _ I h => wpAny_tests_nil ⟨H, I, h⟩
theorem pf_one {X : Cx} {c : Expr} {t : TT} (h : PT X c t) : PF X [c] t := fun pins s σ H Q I q => wpAny_tests_one (h pins s σ H Q I q)

theorem codeAny_compLoop_any {prog : Program} {w : World} {A : Around} {R : Result → Shared → Prop} {s : Shared} {elt target iter : Expr} {ifs : List Expr} {scope : Scope} {pos : Pos} {it acc : Value} {env : Env} (I : Nat → Shared → Prop)
    (turn : ∀ n s, I n s → wpAny (model prog w) A (pyNext it) (fun r s₁ => match r with
      | none => R (.ok .next) s₁
      | some v => wpAny (model prog w) A (letOwnedTupleGo target it v) (fun _ s₀ => wpAny (model prog w) A (assign target env v) (fun _ s₂ =>
          wpAny (model prog w) A (forIn ifs true fun c r => if r = true then do let ok ← isTrue c env (eval c env); pure (ForInStep.yield ok) else pure (ForInStep.yield r)) (fun ok s₃ =>
            if ok = true then wpAny (model prog w) A (eval elt env) (fun x s₄ =>
              wpAny (model prog w) A (call (.builtin "list.append") [acc, x]) (fun _ s₅ => ∃ m, m < n ∧ I m s₅) (fun _ _ => False) s₄) (fun _ _ => False) s₃
            else ∃ m, m < n ∧ I m s₃) (fun _ _ => False) s₂) (fun _ _ => False) s₀) (fun _ _ => False) s₁) (fun _ _ => False) s)
    (n : Nat) (h : I n s) :
    codeAny (model prog w) A (.compLoop (.ListComp elt [⟨target, iter, ifs, 0⟩] scope pos) 0 it acc env) R s := by
  refine codeAny_loop rfl I (fun n s hI => ?_) n h
  show wpAny _ A ((compTurn (.ListComp elt [⟨target, iter, ifs, 0⟩] scope pos) 0 it acc env).onRaise (fun x => do noteFrame x env; theTreesLotGoes x)) _ _ s
  refine wpAny_noted ?_
  rw [compTurn_list]
  refine wpAny_bind (wpAny_standAt (wpAny_bind (wpAny_mono (turn n s hI) (fun r s₁ h₁ => ?_) fun _ _ h' => h'.elim)))
  cases r with
  | none => exact wpAny_pure h₁
  | some v =>
    refine wpAny_bind (wpAny_mono h₁ (fun _ s₀ h₀ => ?_) fun _ _ h' => h'.elim)
    refine wpAny_bind (wpAny_mono h₀ (fun _ s₂ h₂ => wpAny_bind (wpAny_mono h₂ (fun ok s₃ h₃ => ?_) fun _ _ h' => h'.elim)) fun _ _ h' => h'.elim)
    cases ok with
    | false => exact wpAny_pure ⟨rfl, h₃⟩
    | true =>
      exact wpAny_bind (wpAny_bind (wpAny_mono h₃ (fun x s₄ h₄ => wpAny_bind (wpAny_mono h₄ (fun _ s₅ h₅ => wpAny_pure (wpAny_pure ⟨rfl, h₅⟩)) fun _ _ h' => h'.elim)) fun _ _ h' => h'.elim))

/-- an untracked object is taken into the abstract heap -/
theorem HOk.track {P : Program} {w : World} {H : Hp} {h : Heap} {a : Addr} {o : HO} (x : HOk P w H h) (hn : H a = none) (new : ObjOk P w (upd H a o) h a o) : HOk P w (upd H a o) h := fun b u e => by
  by_cases hb : b = a
  · subst hb; rw [upd_same] at e; cases e; exact new
  · rw [upd_ne hb] at e
    exact (x b u e).stay (fun c v _ q => q) (fun c q => by rw [upd_ne (ne_of_none q hn)]; exact q) fun c xs q => by rw [upd_ne (ne_of_none q hn)]; exact q
/-- an untracked object changes -/
theorem HOk.but {P : Program} {w : World} {H : Hp} {h h' : Heap} {a : Addr} (x : HOk P w H h) (hn : H a = none) (k : ∀ b o, b ≠ a → h.get? b = some o → h'.get? b = some o) : HOk P w H h' := fun b u e => by
  refine (x b u e).stay (fun c v hc q => k c v ?_ q) (fun _ q => q) fun _ _ q => q
  rintro rfl
  rcases hc with z | z
  · rw [← z, hn] at e; cases e
  · rw [hn] at z; cases z

abbrev lobj (its : List Value) (n : Nat) : Obj := { cls := .type "list", data := .seq its.toArray n }

/-- what a comprehension's reading wants: W by the turn, a measure and the items so far -/
def CompW (J : It) (cap : St) (g : TG) (tt : TT) (te : TE) (Fin : List V → Hp → Prop) (H : Hp) : Prop :=
  ∃ W : Nat → Nat → List V → Hp → Prop, (∃ m, W 0 m [] H) ∧ ∀ i m ys H, W i m ys H →
    (J.stop i H ∧ ys.length ≤ sizeLine ∧ Fin ys H) ∨ (J.go i H ∧ ys.length ≤ sizeLine ∧ ∀ x H', J.yld i H x H' → g x cap H' fun σ2 H2 => tt σ2 H2 fun b H3 =>
      if b = true then te σ2 H3 fun v H4 => ∃ m', m' < m ∧ W (i + 1) m' (ys ++ [v]) H4 else ∃ m', m' < m ∧ W (i + 1) m' ys H3)

/-- a target that stores in the first n slots alone -/
def GLow (n : Nat) (g : TG) : Prop := ∀ v σ H Q, g v σ H Q → g v σ H fun σ' H' => (∀ j, n ≤ j → σ'[j]? = σ[j]?) ∧ Q σ' H'
def GsLow (n : Nat) (g : TGs) : Prop := ∀ v σ H Q, g v σ H Q → g v σ H fun σ' H' => (∀ j, n ≤ j → σ'[j]? = σ[j]?) ∧ Q σ' H'
theorem glow_name {n i : Nat} (h : i < n) : GLow n (gName i) := fun v σ H Q q => ⟨fun j hj => List.getElem?_set_ne (by omega), q⟩
theorem gslow_nil {n : Nat} : GsLow n gNil := fun vs σ H Q q => ⟨q.1, fun _ _ => rfl, q.2⟩
theorem gslow_cons {n : Nat} {t : TG} {u : TGs} (h1 : GLow n t) (h2 : GsLow n u) (mono : ∀ v σ H Q Q', (∀ σ' H', Q σ' H' → Q' σ' H') → t v σ H Q → t v σ H Q') (mono2 : ∀ v σ H Q Q', (∀ σ' H', Q σ' H' → Q' σ' H') → u v σ H Q → u v σ H Q') : GsLow n (gCons t u) := fun vs σ H Q q => by
  obtain ⟨v, r, e, q⟩ := q
  refine ⟨v, r, e, mono v σ H _ _ (fun σ' H' z => ?_) (h1 v σ H _ q)⟩
  exact mono2 r σ' H' _ _ (fun σ2 H2 y => ⟨fun j hj => (y.1 j hj).trans (z.1 j hj), y.2⟩) (h2 r σ' H' _ z.2)
theorem glow_tup {K : PySem.W.Frag} {n k : Nat} {t : TGs} (h : GsLow n t) : GLow n (gTup K k t) := fun v σ H Q q => by
  obtain ⟨a, xs, e, h1, h2, q⟩ := q
  exact ⟨a, xs, e, h1, h2, h xs σ H Q q⟩
theorem gmono_name {i : Nat} : ∀ v σ H Q Q', (∀ σ' H', Q σ' H' → Q' σ' H') → gName i v σ H Q → gName i v σ H Q' := fun _ _ _ _ _ h q => h _ _ q
theorem gmono_nil : ∀ v σ H Q Q', (∀ σ' H', Q σ' H' → Q' σ' H') → gNil v σ H Q → gNil v σ H Q' := fun _ _ _ _ _ h q => ⟨q.1, h _ _ q.2⟩
theorem gmono_cons {t : TG} {u : TGs} (mono : ∀ v σ H Q Q', (∀ σ' H', Q σ' H' → Q' σ' H') → t v σ H Q → t v σ H Q') (mono2 : ∀ v σ H Q Q', (∀ σ' H', Q σ' H' → Q' σ' H') → u v σ H Q → u v σ H Q') :
    ∀ v σ H Q Q', (∀ σ' H', Q σ' H' → Q' σ' H') → gCons t u v σ H Q → gCons t u v σ H Q' := fun vs σ H Q Q' h q => by
  obtain ⟨v, r, e, q⟩ := q
  exact ⟨v, r, e, mono v σ H _ _ (fun σ' H' z => mono2 r σ' H' _ _ h z) q⟩

section
variable {X : Cx} {pins : List (Addr × Obj)} {σ : St} {H₂ : Hp} {s₂ : Shared} {scope : Scope} {tg iter elt : Expr} {ifs : List Expr} {pos : Pos} {nT : Nat} {tgs caps_n : List Str} {caps : List Nat}

/-- the block, up to its end: D the new list, C the block's own map -/
theorem comp_block (I : Inv X pins σ H₂ s₂) {it : Addr} {fp : List Addr} {tn : Nat → Heap → Prop} {J : It} (T : Turn X.prog X.w X.K tg J fp it tn) (st0 : tn 0 s₂.heap) (hfp : ∀ b ∈ fp, FpOk X pins H₂ b)
    (hc : X.calm = true) (hcell : ∀ y ∈ scope.names, y.2 ≠ .cell) (hkind : scope.kind = .function) (hcl : ClHas scope X.env) (hcap : CapOk X scope caps_n caps)
    {g : TG} {tt : TT} {te : TE} (hlow : GLow tgs.length g) (hg : ∀ s H C, PG (compCx X scope (tgs ++ caps_n) fp s H C) tg g) (hf : ∀ s H C, PF (compCx X scope (tgs ++ caps_n) fp s H C) ifs tt) (he : ∀ s H C, PE (compCx X scope (tgs ++ caps_n) fp s H C) elt te)
    {Fin : List V → Hp → Prop} (hw : CompW J (capSt tgs.length caps σ) g tt te Fin H₂) {RR : Value → Addr → Result → Shared → Prop}
    (hRR : ∀ (D C : Addr) (ys : List V) (its : List Value) (n : Nat) (H3 : Hp) (s3 : Shared), s₂.heap.objs.size ≤ D → s₂.heap.objs.size ≤ C → D ≠ C → Inv (compCx X scope (tgs ++ caps_n) fp s₂ H₂ C) [(D, lobj its n)] (capSt tgs.length caps σ) H3 s3 → Vals ys its → ys.length ≤ sizeLine → Fin ys H3 → RR (.ref D) C (.ok .next) s3)
    {E : Value → Shared → Prop} :
    wpAny (model X.prog X.w) X.A (newList []) (fun acc s₃ => wpAny (model X.prog X.w) X.A (newFunctionEnv scope X.env.globals (clOf scope X.env) [] X.env.qual none .none (some X.env)) (fun cenv s₄ =>
      codeAny (model X.prog X.w) X.A (.compStart (.ListComp elt [⟨tg, iter, ifs, 0⟩] scope pos) 0 (.ref it) acc { cenv with scope := relabel scope X.env }) (RR acc cenv.locals) s₄) E s₃) E s₂ := by
  refine wpAny_newObj_type (wpAny_newFunctionEnv hcell (by intro y hy; simp at hy) (fun h₁ hns₁ hsb₁ => ?_) hkind)
  dsimp only at hns₁ hsb₁ ⊢
  generalize hH2 : s₂.heap.push { cls := .type "list", dict := none, data := .seq ([] : List Value).toArray } = HP at hns₁ hsb₁ ⊢
  have hC : HP.objs.size = s₂.heap.objs.size + 1 := by rw [← hH2, Heap.size_push]
  have hDC : s₂.heap.objs.size ≠ HP.objs.size := by rw [hC]; exact Nat.ne_of_lt (Nat.lt_succ_self _)
  have hCle : s₂.heap.objs.size ≤ HP.objs.size := by rw [hC]; exact Nat.le_succ _
  have below : ∀ b, b < s₂.heap.objs.size → b ≠ HP.objs.size ∧ b ≠ s₂.heap.objs.size := fun b hb => ⟨by rw [hC]; exact Nat.ne_of_lt (Nat.lt_succ_of_lt hb), Nat.ne_of_lt hb⟩
  have old : ∀ b o, s₂.heap.get? b = some o → h₁.get? b = some o := fun b o e => hsb₁.extBut b o (below b (Heap.lt_size e)).1 (Heap.get?_push_of_some _ (hH2 ▸ Heap.get?_push_of_some _ e))
  have hacc : h₁.get? s₂.heap.objs.size = some (lobj [] 0) := hsb₁.extBut _ _ hDC (Heap.get?_push_of_some _ (hH2 ▸ Heap.get?_push_size _ rfl))
  have fpl : ∀ b ∈ fp, b < s₂.heap.objs.size := fun b hb => by
    obtain ⟨o, e, _⟩ := T.obj 0 _ st0 b hb
    exact Heap.lt_size e
  have stkl : ∀ b ∈ frs X.stack, b < s₂.heap.objs.size := fun b hb => by
    obtain ⟨_, o, ho, _⟩ := I.stack.mem hb
    exact Heap.lt_size ho
  -- the block's context
  have ok : (compCx X scope (tgs ++ caps_n) fp s₂ H₂ HP.objs.size).Ok := by
    refine ⟨I.ok.mod, hkind, I.ok.glob, I.ok.blt, hCle, fun x y c h1 h2 => I.ok.inj x y c (cl_lookup hcl h1).2 (cl_lookup hcl h2).2, fun x hx => ?_, fun x c h _ => (nomatch h), I.ok.hd, I.ok.frames, .inl rfl,
      fun b hb => ⟨(below b (fpl b hb)).1, fun x c h => (hfp b hb).2.2.2.2.1 x c (cl_lookup hcl h).2⟩, I.bs, Nat.le_trans I.ok.bsz I.sz, fun b o e hb => ?_, fun b hb z => ?_, I.stack, I.stkFree⟩
    · obtain ⟨c, h1, _⟩ := cl_some hcl (relabel_back (env := X.env) hcell hx)
      exact ⟨c, h1⟩
    · obtain ⟨_, _, _, h4, _⟩ := hfp b hb
      rcases h4 with h4 | h4
      · exact I.ok.noex b o e h4
      · exact absurd (Nat.lt_of_lt_of_le (Heap.lt_size (I.ok.bs b o e).1) h4) (Nat.lt_irrefl _)
    · obtain ⟨_, h2, h3, _⟩ := hfp b hb
      rcases List.mem_cons.mp (I.stkSub b z) with q | q
      · exact h2 q
      · exact h3 q
  have I0 : ∀ tk, Inv (compCx X scope (tgs ++ caps_n) fp s₂ H₂ HP.objs.size) [(s₂.heap.objs.size, lobj [] 0)] (capSt tgs.length caps σ) H₂ { s₂ with heap := h₁, toks := tk } := by
    intro tk
    refine ⟨ok, rfl, I.bare, Un.kept old, ⟨_, hns₁, fun i x v e1 e2 e3 => ?_⟩, fun x c h => ?_, I.hok.fresh hCle, fun x c h => I.freeC x c (cl_lookup hcl h).2, fun p hp => ?_, I.hok.kept old, ?_⟩
    · unfold capSt at e2
      have hi : tgs.length ≤ i := by
        by_cases hi : i < tgs.length
        · rw [List.getElem?_append_left (by simpa using hi), List.getElem?_replicate] at e2
          split at e2 <;> cases e2
        · exact Nat.le_of_not_lt hi
      rw [List.getElem?_append_right (by simpa using hi), List.length_replicate, List.getElem?_map] at e2
      have e1' : caps_n[i - tgs.length]? = some x := by
        have e1'' : (tgs ++ caps_n)[i]? = some x := e1
        rw [List.getElem?_append_right hi] at e1''
        exact e1''
      cases ej : caps[i - tgs.length]? with
      | none => rw [ej] at e2; cases e2
      | some j =>
        rw [ej] at e2
        obtain ⟨n1, n2, n3⟩ := hcap.get e1' ej
        have es : σ[j]? = some (some v) := by
          have e2' : (σ[j]?).getD none = some v := Option.some.inj e2
          cases q : σ[j]? with
          | none => rw [q] at e2'; cases e2'
          | some z => rw [q] at e2'; rw [show z = some v from e2']
        obtain ⟨m, hn, hl⟩ := I.loc
        obtain ⟨u, ru, lk⟩ := hl j x v n1 es (.inr n2)
        refine ⟨u, ru, ?_⟩
        rcases lk with ⟨k1, _⟩ | ⟨_, c, k1, k2⟩
        · have k1' : X.env.scope.names.lookup x = some .local := k1
          rcases n2 with n2 | n2
          · rw [n2] at k1'; cases k1'
          · rw [n2] at k1'; cases k1'
        · obtain ⟨c', h1, h2⟩ := cl_some hcl (PySem.mem_of_lookup n3)
          rw [k1] at h2; cases h2
          refine .inr ⟨?_, c, h1, k2.keeps old⟩
          rcases relabel_free (env := X.env) n3 with q | q
          · exact .inr q
          · exact .inl q
    · obtain ⟨v, z⟩ := I.cell x c (cl_lookup hcl h).2
      exact ⟨v, z.keeps old⟩
    · have e : p = (s₂.heap.objs.size, lobj [] 0) := by simpa [compCx] using hp
      subst e
      exact ⟨hacc, I.hok.fresh (Nat.le_refl _), hDC, fun z => Nat.lt_irrefl _ (stkl _ z), fun v z => (nomatch z)⟩
    · unfold capSt
      show _ = (tgs ++ caps_n).length
      rw [List.length_append, List.length_replicate, List.length_map, List.length_append, hcap.len]
  obtain ⟨W, ⟨m0, w0⟩, turn⟩ := hw
  have st1 : tn 0 h₁ := T.keep 0 _ _ st0 fun b _ o e => old b o e
  have loop : ∀ tk, codeAny (model X.prog X.w) X.A (.compLoop (.ListComp elt [⟨tg, iter, ifs, 0⟩] scope pos) 0 (.ref it) (.ref s₂.heap.objs.size) (compEnvC scope (clOf scope X.env) HP.objs.size X.env))
      (RR (.ref s₂.heap.objs.size) HP.objs.size) { s₂ with heap := h₁, toks := tk } := by
    intro tk
    have stat : ∀ {pins' : List (Addr × Obj)} {H' : Hp}, (∀ p ∈ pins', p.1 ∉ fp) → (∀ b ∈ fp, H' b = none) → ∀ b ∈ fp, FpOk (compCx X scope (tgs ++ caps_n) fp s₂ H₂ HP.objs.size) pins' H' b := fun {pins' H'} hp hn b hb =>
      ⟨hn b hb, (below b (fpl b hb)).1, ok.exfs b hb, .inl hb, fun x c h => (hfp b hb).2.2.2.2.1 x c (cl_lookup hcl h).2, fun p hp' z => hp p (by simpa [compCx] using hp') (z ▸ hb)⟩
    have offD : ∀ (its : List Value) (n : Nat), ∀ p ∈ [(s₂.heap.objs.size, lobj its n)], p.1 ∉ fp := fun its n p hp z => by
      have e : p = (s₂.heap.objs.size, lobj its n) := by simpa using hp
      rw [e] at z
      exact Nat.lt_irrefl _ (fpl _ z)
    refine codeAny_compLoop_any (fun n s' => ∃ i ys its k H', Inv (compCx X scope (tgs ++ caps_n) fp s₂ H₂ HP.objs.size) [(s₂.heap.objs.size, lobj its k)] (capSt tgs.length caps σ) H' s' ∧ Vals ys its ∧ tn i s'.heap ∧ (∀ b ∈ fp, H' b = none) ∧ W i n ys H') ?_ m0
      ⟨0, [], [], 0, H₂, I0 tk, .nil, st1, fun b hb => (hfp b hb).1, w0⟩
    rintro n s3 ⟨i, ys, its, k, H3, I3, rv, st3, fr3, w3⟩
    rcases turn i n ys H3 w3 with ⟨stop, hz, fin⟩ | ⟨go, hz, step⟩
    · refine thn (T.done (compCx X scope (tgs ++ caps_n) fp s₂ H₂ HP.objs.size) rfl rfl rfl hc i _ s3 _ H3 (fun _ _ => False) I3 (stat (offD _ _) fr3) st3 stop) fun r s4 ⟨hr, I4⟩ => ?_
      subst hr
      exact hRR _ _ ys its k H3 s4 (Nat.le_refl _) hCle hDC I4 rv hz fin
    · refine thn (T.item (compCx X scope (tgs ++ caps_n) fp s₂ H₂ HP.objs.size) rfl rfl rfl hc i _ s3 _ H3 (fun _ _ => False) I3 (stat (offD _ _) fr3) st3 go) fun r s4 ⟨u, hr, h4⟩ => ?_
      subst hr
      refine thn h4 fun _ s5 ⟨x, H5, I5, r5, y5, st5, fr5⟩ => ?_
      have I5' := I5.pinned (stat (offD _ _) fr5) (T.obj _ _ st5)
      refine thn (hg s₂ H₂ HP.objs.size _ s5 _ H5 x u _ I5' r5 (hlow _ _ _ _ (step x H5 y5))) fun _ s6 ⟨σ6, H6, I6, keep6, q6⟩ => ?_
      refine thn (hf s₂ H₂ HP.objs.size _ s6 σ6 H6 _ I6 q6) fun b s7 ⟨H7, I7, q7⟩ => ?_
      have len6 : σ6.length = (capSt tgs.length caps σ).length := I6.len.trans I5.len.symm
      -- what stays of the iterator's objects
      have itk : ∀ {σ' : St} {H' : Hp} {s' : Shared}, Inv (compCx X scope (tgs ++ caps_n) fp s₂ H₂ HP.objs.size) ([(s₂.heap.objs.size, lobj its k)] ++ pinsAt fp s5.heap) σ' H' s' → tn (i + 1) s'.heap ∧ ∀ b ∈ fp, H' b = none := fun {σ' H' s'} I' => by
        refine ⟨T.keep _ _ _ st5 fun b hb o e => (I'.pin (b, o) (List.mem_append_right _ (List.mem_append_right _ (mem_pinsAt hb e)))).1, fun b hb => ?_⟩
        obtain ⟨o, e, d⟩ := T.obj _ _ st5 b hb
        exact (I'.pin (b, o) (List.mem_append_right _ (List.mem_append_right _ (mem_pinsAt hb e)))).2.1
      -- the captured names' slots
      have slots : ∀ (j : Nat) v, (capSt tgs.length caps σ)[j]? = some (some v) → σ6[j]? = some (some v) := fun j v e => by
        by_cases hj : tgs.length ≤ j
        · rw [keep6 j hj]; exact e
        · unfold capSt at e
          rw [List.getElem?_append_left (by simpa using hj), List.getElem?_replicate] at e
          split at e <;> cases e
      cases b with
      | false =>
        rw [if_neg Bool.false_ne_true]
        rw [if_neg Bool.false_ne_true] at q7
        obtain ⟨m', hm, w7⟩ := q7
        obtain ⟨t7, f7⟩ := itk I7
        exact ⟨m', hm, i + 1, ys, its, k, H7, (I7.unpinned (pins := [(s₂.heap.objs.size, lobj its k)])).weak len6.symm slots, rv, t7, f7, w7⟩
      | true =>
        rw [if_pos rfl]
        rw [if_pos rfl] at q7
        refine thn (he s₂ H₂ HP.objs.size _ s7 σ6 H7 _ I7 q7) fun xv s8 ⟨y, H8, I8, r8, m', hm, w8⟩ => ?_
        obtain ⟨t8, f8⟩ := itk I8
        have I8' : Inv (compCx X scope (tgs ++ caps_n) fp s₂ H₂ HP.objs.size) [(s₂.heap.objs.size, lobj its k)] (capSt tgs.length caps σ) H8 s8 := (I8.unpinned (pins := [(s₂.heap.objs.size, lobj its k)])).weak len6.symm slots
        obtain ⟨eD, nD, neD, nfD, dD⟩ := I8'.pin (s₂.heap.objs.size, lobj its k) (List.mem_append_right _ (by simp))
        have hlen : its.toArray.size ≤ sizeLine := by rw [List.size_toArray, ← rv.length]; exact hz
        refine append_at (its := its.toArray) (n := k) eD (fun h9 sb9 e9 => ?_) hlen
        have I9 : Inv (compCx X scope (tgs ++ caps_n) fp s₂ H₂ HP.objs.size) [] (capSt tgs.length caps σ) H8 { s8 with heap := h9 } :=
          (I8'.pins_of (pins' := []) (fun p hp => by cases hp)).turned (t' := s8.toks) (it := s₂.heap.objs.size) (fun b o hb e => sb9.extBut b o hb e) nD neD (.inr (Nat.le_refl _)) (fun x c h z => by
            obtain ⟨v, q⟩ := I.cell x c (cl_lookup hcl h).2
            exact absurd q.lt (by rw [z]; exact Nat.lt_irrefl _)) (fun p hp => by
              have hp' : p ∈ ([] : List (Addr × Obj)) := by simpa [compCx] using hp
              cases hp')
        have e9' : h9.get? s₂.heap.objs.size = some (lobj (its ++ [xv]) (k + 1)) := by
          rw [e9]; simp [lobj]
        refine ⟨m', hm, i + 1, ys ++ [y], its ++ [xv], k + 1, H8, I9.pins_of (fun p hp => ?_), rv.append (.cons r8 .nil), T.keep _ _ _ t8 fun b hb o e => sb9.extBut b o (Nat.ne_of_lt (fpl b hb)) e, f8, w8⟩
        have ep : p = (s₂.heap.objs.size, lobj (its ++ [xv]) (k + 1)) := by simpa using hp
        subst ep
        exact ⟨e9', nD, neD, nfD, fun v z => (nomatch z)⟩
  exact codeAny_compStart_list (loop _) (T.self X.A 0 _ _ _ st1 (loop _))

/-- behind the block: the list is tracked, the block's map is let go -/
theorem comp_end (I : Inv X pins σ H₂ s₂) {fp : List Addr} (hfp : ∀ b ∈ fp, FpOk X pins H₂ b) {D C : Addr} {ys : List V} {its : List Value} {n : Nat} {H3 : Hp} {s3 : Shared} {N' : List Str} {σ' : St} {h4 : Heap} (hD : s₂.heap.objs.size ≤ D) (hC : s₂.heap.objs.size ≤ C) (hDC : D ≠ C)
    (I3 : Inv (compCx X scope N' fp s₂ H₂ C) [(D, lobj its n)] σ' H3 s3) (rv : Vals ys its) (hz : ys.length ≤ sizeLine) (hs : Heap.SameBut C s3.heap h4) : Inv X pins σ (upd H3 D (.lst ys)) { s3 with heap := h4 } := by
  obtain ⟨eD, nD, neD, nfD, dD⟩ := I3.pin (D, lobj its n) (List.mem_append_right _ (by simp))
  have eD4 : h4.get? D = some (lobj its n) := hs.extBut D _ hDC eD
  have lt : ∀ b o, s₂.heap.get? b = some o → b ≠ C ∧ b ≠ D := fun b o e => ⟨Nat.ne_of_lt (Nat.lt_of_lt_of_le (Heap.lt_size e) hC), Nat.ne_of_lt (Nat.lt_of_lt_of_le (Heap.lt_size e) hD)⟩
  refine I.call' (ch := fp) I3.os ?_ ?_ I3.bare (fun b hb => ⟨(hfp b hb).2.2.2.1, (hfp b hb).2.1, (hfp b hb).2.2.2.2.1, (hfp b hb).2.2.2.2.2⟩)
  · have u := I3.base
    refine ⟨fun b o e nb hb hx => hs.extBut b o (lt b o e).1 (u.keep b o e nb hb hx), fun b o e nb hb hx => ?_, fun b o e nb hx => ?_, fun b o e hx => ?_, fun b xs e => ?_, fun b o xs e => ?_, fun b ps e => ?_⟩
    · obtain ⟨sl, q⟩ := u.slot b o e nb hb hx
      exact ⟨sl, hs.extBut b _ (lt b o e).1 q⟩
    · rw [upd_ne (lt b o e).2]; exact u.free b o e nb hx
    · obtain ⟨o', q⟩ := u.there b o e hx
      exact ⟨o', hs.extBut b _ (lt b o e).1 q⟩
    · have q := u.tups b xs e
      rw [upd_ne (ne_of_none q nD)]; exact q
    · have q := u.frzs b o xs e
      rw [upd_ne (ne_of_none q nD)]; exact q
    · obtain ⟨more, q⟩ := u.tbls b ps e
      exact ⟨more, by rw [upd_ne (ne_of_none q nD)]; exact q⟩
  · refine HOk.track (I3.hok.but I3.free fun b o hb e => hs.extBut b o hb e) nD ?_
    exact ⟨hz, its, n, rv, eD4⟩

def tComp (wi : TI) (nT : Nat) (caps : List Nat) (g : TG) (tt : TT) (te : TE) : TE := fun σ H Q => wi σ H fun J H1 => CompW J (capSt nT caps σ) g tt te (fun ys H3 => ∀ D, H3 D = none → Q (.ref D) (upd H3 D (.lst ys))) H1

/-- [elt for tg in iter if ..] -/
theorem pe_comp {wi : TI} {g : TG} {tt : TT} {te : TE} (hc : X.calm = true) (hcell : ∀ y ∈ scope.names, y.2 ≠ .cell) (hkind : scope.kind = .function) (hnames : ∀ y ∈ scope.names, y.2 = .local → scope.names.lookup y.1 = some .local)
    (hfree : ∀ y ∈ scope.names, y.2 = .free → X.env.scope.names.lookup y.1 = some .cell ∨ X.env.scope.names.lookup y.1 = some .free) (hcap : CapOk X scope caps_n caps) (hi : PI X tg iter wi) (hlow : GLow tgs.length g)
    (hg : ∀ fp s H C, PG (compCx X scope (tgs ++ caps_n) fp s H C) tg g) (hf : ∀ fp s H C, PF (compCx X scope (tgs ++ caps_n) fp s H C) ifs tt) (he : ∀ fp s H C, PE (compCx X scope (tgs ++ caps_n) fp s H C) elt te)
    (hs : ∀ x, foldedSetIterable iter X.env x = pure x := by intro _; rfl) : PE X (.ListComp elt [⟨tg, iter, ifs, 0⟩] scope pos) (tComp wi tgs.length caps g tt te) := by
  intro pins s σ H Q I h
  have hcl : ClHas scope X.env := fun x hx => I.ok.has x (hfree _ hx rfl)
  rw [eval_ListComp]
  refine wpAny_comprehension_free (use := none) rfl hs (closure_ok hcl) hkind hnames (thn (hi pins s σ H _ I h) fun v s1 h1 => thn h1 fun itv s2 h2 => ?_)
  obtain ⟨it, fp, tn, J, H2, e, I2, T, st2, f2, hw⟩ := h2
  subst e
  refine comp_block I2 T st2 f2 hc hcell hkind hcl hcap hlow (hg fp) (hf fp) (he fp) hw (RR := fun acc C => compPost (model X.prog X.w) X.A X.xe none (EP X pins σ Q) acc C) ?_
  intro D C ys its n H3 s3 hD hC hDC I3 rv hz fin
  obtain ⟨m, hn, _⟩ := I3.loc
  refine ⟨m, hn, fun h' hs' => ?_⟩
  obtain ⟨eD, nD, _⟩ := I3.pin (D, lobj its n) (List.mem_append_right _ (by simp))
  exact ⟨.ref D, _, comp_end I2 f2 hD hC hDC I3 rv hz hs', rfl, fin D nD⟩

/-- y = [elt for tg in iter if ..] on one line: the name is stored ahead of the block's letting go -/
theorem ps_setC {wi : TI} {g : TG} {tt : TT} {te : TE} {i : Nat} {y : Str} {py spos : Pos} (hsw : swapsWith (.ListComp elt [⟨tg, iter, ifs, 0⟩] scope pos) (some (.Name y py)) spos.line X.env = pure true)
    (hN : X.N.Nodup) (hy : X.N[i]? = some y) (hx : X.env.scope.names.lookup y = some .local)
    (hc : X.calm = true) (hcell : ∀ y ∈ scope.names, y.2 ≠ .cell) (hkind : scope.kind = .function) (hnames : ∀ y ∈ scope.names, y.2 = .local → scope.names.lookup y.1 = some .local)
    (hfree : ∀ y ∈ scope.names, y.2 = .free → X.env.scope.names.lookup y.1 = some .cell ∨ X.env.scope.names.lookup y.1 = some .free) (hcap : CapOk X scope caps_n caps) (hi : PI X tg iter wi) (hlow : GLow tgs.length g)
    (hg : ∀ fp s H C, PG (compCx X scope (tgs ++ caps_n) fp s H C) tg g) (hf : ∀ fp s H C, PF (compCx X scope (tgs ++ caps_n) fp s H C) ifs tt) (he : ∀ fp s H C, PE (compCx X scope (tgs ++ caps_n) fp s H C) elt te)
    (hs : ∀ x, foldedSetIterable iter X.env x = pure x := by intro _; rfl) : PS X (.Assign [.Name y py] (.ListComp elt [⟨tg, iter, ifs, 0⟩] scope pos) spos) (tAsg (tComp wi tgs.length caps g tt te) (gName i)) := by
  intro pins s σ H D I h
  have hcl : ClHas scope X.env := fun x hx => I.ok.has x (hfree _ hx rfl)
  rw [exec_Assign_Name_used _ _ _ _ hsw]
  refine wpAny_bind (wpAny_standAt (wpAny_bind ?_))
  show wpAny _ X.A (do let _ ← comprehension (.ListComp elt [⟨tg, iter, ifs, 0⟩] scope pos) scope X.env _ (newList []) false (eval iter X.env) (some (assign (.Name y py) X.env))) _ _ s
  refine wpAny_bind (wpAny_mono (wpAny_comprehension_free (use := some (assign (.Name y py) X.env)) (Q := fun _ s' => SP X pins D .next s') rfl hs (closure_ok hcl) hkind hnames
    (thn (hi pins s σ H _ I h) fun v s1 h1 => thn h1 fun itv s2 h2 => ?_)) (fun _ s' hq => wpAny_pure (wpAny_pure hq)) fun _ _ e => e)
  obtain ⟨it, fp, tn, J, H2, e, I2, T, st2, f2, hw⟩ := h2
  subst e
  refine comp_block I2 T st2 f2 hc hcell hkind hcl hcap hlow (hg fp) (hf fp) (he fp) hw (RR := fun acc C => compPost (model X.prog X.w) X.A X.xe (some (assign (.Name y py) X.env)) (fun _ s' => SP X pins D .next s') acc C) ?_
  intro Da C ys its n H3 s3 hD hC hDC I3 rv hz fin
  obtain ⟨m, hn, _⟩ := I3.loc
  obtain ⟨eD, nD, _⟩ := I3.pin (Da, lobj its n) (List.mem_append_right _ (by simp))
  have I4 : Inv X pins σ (upd H3 Da (.lst ys)) s3 := comp_end I2 f2 hD hC hDC I3 rv hz (h4 := s3.heap) (Heap.SameBut.refl ..)
  have hLC : C ≠ X.env.locals := Nat.ne_of_gt (Nat.lt_of_lt_of_le I2.lt hC)
  show wpAny _ X.A (assign (.Name y py) X.env (.ref Da)) _ _ s3
  refine wpAny_assign_Name (store_ok2 I4 hN hy (.inl hx) (show RelV (.ref Da) (.ref Da) from rfl) (fun s5 I5 hs5 => ?_) (.inr hx))
  obtain ⟨b5, sb5, hb5⟩ := hs5
  have hbC : C ≠ b5 := by
    rcases hb5 with z | z
    · rw [z]; exact hLC
    · obtain ⟨v, q⟩ := I2.cell y b5 z
      exact Nat.ne_of_gt (Nat.lt_of_lt_of_le q.lt hC)
  refine ⟨m, hn.sameBut sb5 hbC, fun h6 sb6 => ?_⟩
  have fC : upd H3 Da (.lst ys) C = none := by rw [upd_ne (Ne.symm hDC)]; exact I3.free
  refine ⟨_, _, I5.turned (t' := s5.toks) (it := C) (fun b o hb e => sb6.extBut b o hb e) fC hLC (.inr (Nat.le_trans I2.sz hC)) (fun x c e z => ?_) (fun p hp z => ?_), fin Da nD⟩
  · obtain ⟨v, q⟩ := I2.cell x c e
    exact absurd (Nat.lt_of_lt_of_le q.lt hC) (by rw [z]; exact Nat.lt_irrefl _)
  · exact absurd (Nat.lt_of_lt_of_le (Heap.lt_size (I2.pin p hp).1) hC) (by rw [z]; exact Nat.lt_irrefl _)
end
end L2
namespace L2
open PySem PySem.Spec PyProof.Rows
/-! ### len and truth of a dict whose keys are tuples (own text) -/
section
variable {prog : Program} {w : World} {κ : Type} [DecidableEq κ] {kd : HeapKind prog w κ} {A : Around} {E : Value → Shared → Prop} {s : Shared} {a : Addr} {tab : List (κ × Addr × Value)}
theorem lenT_meets (ns : (a == sysModules) = false) : MeetsIn prog w (Builtin.«dict.__len__» ⟨[.ref a], []⟩) (fun _ R s => ∃ tab, s.heap.DictOfH kd a tab ∧ R (.ok (.ret (.int tab.length s.toks))) { s with toks := s.toks + 1 }) :=
  .of_wp fun _ R s ⟨tab, ⟨o, es, ep, ho, _, hdat, he, _, _⟩, h⟩ => by
    have hz : es.size = tab.length := by simpa using congrArg List.length he
    refine wpAny_bind (m := dictSize a) (wpAny_bind (wpAny_dictEntries ho hdat (wpAny_pure (wpAny_bind (m := Builtin.Dict.pendingCount a) (wpAny_pendingCount_other ns (wpAny_ret_mkInt ?_))))))
    rw [Nat.add_zero, hz]; exact h
theorem lenT_body {Q : Value → Shared → Prop} (ns : (a == sysModules) = false) (hm : s.heap.DictOfH kd a tab) (fit : (tab.length : Int) < 2 ^ 63) (h : Q (.int tab.length (s.toks + 1)) { s with toks := s.toks + 1 + 1 }) :
    wpAny (model prog w) A (Builtin.«len» ⟨[.ref a], []⟩) (fun fin s' => ∃ r, fin = .done (.ret r) ∧ Q r s') E s := by
  unfold Builtin.«len»
  refine wpAny_bind (m := oneArg "len" _) (wpAny_pure (wpAny_bind (m := callSpecial? (.ref a) (Str.ofString "__len__")) (wpAny_callSpecial?_slot (name := Str.ofString "__len__") hm.typeIs F.slot_dict_len ?_)))
  refine call_meetsIn F.slot_dict_len hm.typeIs F.entry_dict_len (F.args_dict_len_1 _) (lenT_meets ns) ⟨tab, hm, wpAny_bind (wpAny_holding (wpAny_pure (wpAny_bind (wpAny_letGo ?_))))⟩
  have n1 : ¬ ((tab.length : Nat) : Int) < 0 := by omega
  have n2 : ¬ ((tab.length : Nat) : Int) ≥ 2 ^ 63 := by omega
  show wpAny _ _ (if ((tab.length : Nat) : Int) < 0 then _ else _) _ _ _
  rw [if_neg n1]
  show wpAny _ _ (if ((tab.length : Nat) : Int) ≥ 2 ^ 63 then _ else _) _ _ _
  rw [if_neg n2]
  exact wpAny_bind (wpAny_mkInt (wpAny_pure (show ∃ r, _ from ⟨_, rfl, h⟩)))
theorem call_len_heap {Q : Value → Shared → Prop} (ns : (a == sysModules) = false) (hm : s.heap.DictOfH kd a tab) (fit : (tab.length : Int) < 2 ^ 63) (h : Q (.int tab.length (s.toks + 1)) { s with toks := s.toks + 1 + 1 }) :
    wpAny (model prog w) A (call (.builtin "len") [.ref a]) Q E s := Calls.call_function_entry kind_len plain_len entry_len (args_len1 _) (lenT_body ns hm fit h)
theorem truthy_heap {Q : Bool → Shared → Prop} (ns : (a == sysModules) = false) (hm : s.heap.DictOfH kd a tab) (fit : (tab.length : Int) < 2 ^ 63) (h : Q (!tab.isEmpty) { s with toks := s.toks + 1 + 1 }) :
    wpAny (model prog w) A (truthy (.ref a)) Q E s := by
  have ne : ((tab.length : Int) != 0) = !tab.isEmpty := by cases tab <;> simp <;> omega
  have run : wpAny (model prog w) A (runValue (.builtin "len" ⟨[.ref a], []⟩)) (fun r s' => r = .int tab.length (s.toks + 1) ∧ Q (!tab.isEmpty) s') E s := by
    refine wpAny_runValue (codeAny_builtin entry_len (by
      rw [Around.under_plainId plain_len _]
      exact wpAny_mono (lenT_body (Q := fun r s' => r = .int tab.length (s.toks + 1) ∧ Q (!tab.isEmpty) s') ns hm fit ⟨rfl, h⟩) (fun _ _ q => by obtain ⟨_, e, q⟩ := q; subst e; exact q) fun _ _ z => z))
  unfold truthy
  first
    | refine wpAny_bind (wpAny_callSpecial?_none (name := Str.ofString "__bool__") hm.typeIs noBool_dict (wpAny_bind (wpAny_specialOf (name := Str.ofString "__len__") hm.typeIs F.slot_dict_len.lookup ?_)))
    | refine wpAny_bind (wpAny_pure (wpAny_bind (wpAny_callSpecial?_none (name := Str.ofString "__bool__") hm.typeIs noBool_dict (wpAny_bind (wpAny_specialOf (name := Str.ofString "__len__") hm.typeIs F.slot_dict_len.lookup ?_)))))
    | refine wpAny_bind (wpAny_pure (wpAny_bind (wpAny_callSpecial?_none (name := Str.ofString "__bool__") hm.typeIs noBool_dict (wpAny_bind (wpAny_pure (wpAny_bind (wpAny_specialOf (name := Str.ofString "__len__") hm.typeIs F.slot_dict_len.lookup ?_)))))))
  first
    | exact wpAny_bind (wpAny_mono run (fun _ _ q => by rw [q.1]; exact wpAny_pure (ne ▸ q.2)) fun _ _ z => z)
    | exact wpAny_bind (wpAny_pure (wpAny_bind (wpAny_mono run (fun _ _ q => by rw [q.1]; exact wpAny_pure (ne ▸ q.2)) fun _ _ z => z)))
end
section
variable {X : Cx}
/-- a value's truth, every dict too -/
def TruV' (K : PySem.W.Frag) (x : V) (H : Hp) (k : Bool) : Prop := TruV K x H k ∨ (∃ p kvs, x = .ref p ∧ Rd H p (.dT kvs) ∧ k = !kvs.isEmpty) ∨ ∃ p kvs, x = .ref p ∧ Rd H p (.dK kvs) ∧ k = !kvs.isEmpty
theorem tru_ok' : TruR X (fun x H Q => ∃ k, TruV' X.K x H k ∧ Q k H) := by
  intro pins s σ H x v Q I rx h
  obtain ⟨k, e, q⟩ := h
  rcases e with e | ⟨p, kvs, rfl, hx, rfl⟩ | ⟨p, kvs, rfl, hx, rfl⟩
  · exact tru_ok pins s σ H x v Q I rx ⟨k, e, q⟩
  · cases rx
    obtain ⟨hz, hS, xs, r, m⟩ := dt_rd I.hok hx
    have hlen : kvs.length = xs.length := Paired.length r
    have hs : sizeLine = 16777216 := sizeLine_eq
    refine truthy_heap hS m (by omega) ⟨H, I.tok _, ?_⟩
    have : (!xs.isEmpty) = !kvs.isEmpty := by cases r <;> rfl
    rw [this]; exact q
  · cases rx
    exact d_truth I hx fun s' I' => ⟨H, I', q⟩
theorem pt_truth' {a : Expr} {ta : TE} (ha : PE X a ta) (he : ∀ whole, isTrue a X.env whole = (do let v ← whole; standAt a.pos; holding [v] (truthy v))) :
    PT X a (fun σ H Q => ta σ H fun x H' => ∃ k, TruV' X.K x H' k ∧ Q k H') := by
  intro pins s σ H Q I h
  exact isTrue_plain (thn (ha pins s σ H _ I h) fun v s1 ⟨x, H1, I1, r1, q1⟩ => tru_ok' pins s1 σ H1 x v Q I1 r1 q1) (he _)
end
end L2
namespace L2
open PySem PySem.Spec PyProof.Rows
/-! ### the empty dict is of both kinds (own text) -/
section
variable {P : Program} {w : World} {H : Hp} {h : Heap} {a : Addr}
theorem dk_nil_t (x : ObjOk P w H h a (.dK [])) : ObjOk P w H h a (.dT []) := by
  obtain ⟨z, hd, vs, rel, o, es, ep, h1, h2, h3, h4, h5, h6⟩ := (show (_ : Nat) ≤ sizeLine ∧ (a == sysModules) = false ∧ ∃ vs, KV [] vs ∧ h.DictOf (mixKind P w) a vs from x)
  cases rel
  have he : es.toList = [] := List.length_eq_zero_iff.mp h5.length
  exact ⟨Nat.zero_le _, hd, [], .nil, o, es, ep, h1, h2, h3, by rw [he]; rfl, List.nodup_nil⟩
theorem dt_nil_k (x : ObjOk P w H h a (.dT [])) : ObjOk P w H h a (.dK []) := by
  obtain ⟨z, hd, xs, rel, o, es, ep, h1, h2, h3, h4, h5⟩ := x
  cases rel
  have he : es.toList = [] := by rw [h4]; rfl
  refine ⟨Nat.zero_le _, hd, [], .nil, o, es, ep, h1, h2, h3, fun e hm => ?_, ?_, List.nodup_nil⟩
  · have : e ∈ es.toList := Array.mem_toList_iff.mpr hm
    rw [he] at this
    cases this
  · rw [he]; exact .nil
end
section
variable {X : Cx} {pins : List (Addr × Obj)} {σ : St} {H : Hp} {s : Shared} {a : Addr} {y v : V} {u r : Value} {o : Option V} {A : Around} {E : Value → Shared → Prop}
/-- another view of the same object -/
theorem Inv.view {o' : HO} (I : Inv X pins σ H s) (mu : Mut (H a)) (he : ∃ q, s.heap.get? a = some q) (f : ObjOk X.prog X.w (upd H a o') s.heap a o') : Inv X pins σ (upd H a o') s :=
  d_write (h' := s.heap) (t' := s.toks) (ob := o') I mu ⟨rfl, fun _ _ => rfl⟩ he f
theorem dk_get {P : Program} {w : World} {H : Hp} {h : Heap} {a : Addr} {kvs : List (Key × V)} (x : ObjOk P w H h a (.dK kvs)) : ∃ q, h.get? a = some q := by
  obtain ⟨_, _, vs, _, o, _, _, h1, _⟩ := x
  exact ⟨o, h1⟩
theorem dt_get {P : Program} {w : World} {H : Hp} {h : Heap} {a : Addr} {kvs : List (List Key × V)} (x : ObjOk P w H h a (.dT kvs)) : ∃ q, h.get? a = some q := by
  obtain ⟨_, _, xs, _, o, _, _, h1, _⟩ := x
  exact ⟨o, h1⟩
theorem Inv.asT (I : Inv X pins σ H s) (e : H a = some (.dK [])) : Inv X pins σ (upd H a (.dT [])) s := by
  have ok := I.hok a _ e
  refine I.view (by rw [e]; exact True.intro) (dk_get ok) ?_
  obtain ⟨z, hd, xs, rel, r⟩ := dk_nil_t ok
  cases rel
  exact ⟨z, hd, [], .nil, r⟩
theorem Inv.asK (I : Inv X pins σ H s) (e : H a = some (.dT [])) : Inv X pins σ (upd H a (.dK [])) s := by
  have ok := I.hok a _ e
  refine I.view (by rw [e]; exact True.intro) (dt_get ok) ?_
  obtain ⟨z, hd, vs, r⟩ := dt_nil_k ok
  exact ⟨z, hd, vs, r⟩
theorem Inv.back {o : HO} (I : Inv X pins σ (upd H a o) s) (e : H a = some (.dK []) ∨ H a = some (.dT [])) (ho : o = .dK [] ∨ o = .dT []) : Inv X pins σ H s := by
  have eH : ∀ o', H a = some o' → upd (upd H a o) a o' = H := fun o' h => by
    rw [upd_upd]
    funext b
    unfold upd
    by_cases hb : b = a
    · rw [if_pos hb, hb, h]
    · rw [if_neg hb]
  rcases e with e | e <;> rcases ho with rfl | rfl
  · have hu : upd H a (.dK []) = H := by rw [← upd_upd (o := .dK [])]; exact eH _ e
    rw [hu] at I; exact I
  · have := I.asK upd_same
    rw [eH _ e] at this; exact this
  · have := I.asT upd_same
    rw [eH _ e] at this; exact this
  · have hu : upd H a (.dT []) = H := by rw [← upd_upd (o := .dT [])]; exact eH _ e
    rw [hu] at I; exact I
/-- what the dict at a holds at the key y, the empty dict being of both kinds -/
def DGetE (H : Hp) (a : Addr) (y : V) (r : Option V) : Prop := DGet H a y r ∨
  ((H a = some (.dK []) ∧ ∃ (k : List Key) (b : Addr), y = .ref b ∧ H b = some (.tup (k.map kV)) ∧ r = none) ∨ (H a = some (.dT []) ∧ ∃ k : Key, y = kV k ∧ r = none))
/-- in the other view, if need be -/
theorem DGetE.view (I : Inv X pins σ H s) (g : DGetE H a y o) : ∃ H', Inv X pins σ H' s ∧ DGet H' a y o ∧ ∀ s', Inv X pins σ H' s' → Inv X pins σ H s' := by
  rcases g with g | ⟨e, k, b, ey, eb, er⟩ | ⟨e, k, ey, er⟩
  · exact ⟨H, I, g, fun _ h => h⟩
  · subst ey er
    have hb : b ≠ a := ne_of eb e (fun z => nomatch z)
    exact ⟨_, I.asT e, .inr ⟨[], k, b, .inl upd_same, rfl, by rw [upd_ne hb]; exact eb, rfl⟩, fun s' h => h.back (.inl e) (.inr rfl)⟩
  · subst ey er
    exact ⟨_, I.asK e, .inl ⟨[], k, .inl upd_same, rfl, rfl⟩, fun s' h => h.back (.inr e) (.inl rfl)⟩
theorem DGetE.ofSome {x : V} (g : DGetE H a y (some x)) : DGet H a y (some x) := by
  rcases g with g | ⟨_, _, _, _, _, h⟩ | ⟨_, _, _, h⟩
  · exact g
  · cases h
  · cases h
theorem dE_in {Q : Value → Shared → Prop} (hu : A.units + 1 < cLine) (I : Inv X pins σ H s) (g : DGetE H a y o) (ry : RelV y u) (h : ∀ s', Inv X pins σ H s' → Q (.bool o.isSome) s') :
    wpAny (model X.prog X.w) A (compareOp .In u (.ref a)) Q E s := by
  obtain ⟨H', I', g', back⟩ := g.view I
  exact d_in hu I' g' ry fun s' I1 => h s' (back s' I1)
theorem dE_notIn {Q : Value → Shared → Prop} (hu : A.units + 1 < cLine) (I : Inv X pins σ H s) (g : DGetE H a y o) (ry : RelV y u) (h : ∀ s', Inv X pins σ H s' → Q (.bool (!o.isSome)) s') :
    wpAny (model X.prog X.w) A (compareOp .NotIn u (.ref a)) Q E s := by
  obtain ⟨H', I', g', back⟩ := g.view I
  exact d_notIn hu I' g' ry fun s' I1 => h s' (back s' I1)
theorem dE_get1 {Q : Value → Shared → Prop} (hu : A.units + 1 < cLine) (I : Inv X pins σ H s) (g : DGetE H a y o) (ry : RelV y u) (h : ∀ w' s', Inv X pins σ H s' → RelV (o.getD .non) w' → Q w' s') :
    wpAny (model X.prog X.w) A (call (.builtin "dict.get") [.ref a, u]) Q E s := by
  obtain ⟨H', I', g', back⟩ := g.view I
  exact d_get1 hu I' g' ry fun w' s' I1 => h w' s' (back s' I1)
theorem dE_get2 {d : V} {Q : Value → Shared → Prop} (hu : A.units + 1 < cLine) (I : Inv X pins σ H s) (g : DGetE H a y o) (ry : RelV y u) (rd : RelV d r) (h : ∀ w' s', Inv X pins σ H s' → RelV (o.getD d) w' → Q w' s') :
    wpAny (model X.prog X.w) A (call (.builtin "dict.get") [.ref a, u, r]) Q E s := by
  obtain ⟨H', I', g', back⟩ := g.view I
  exact d_get2 hu I' g' ry rd fun w' s' I1 => h w' s' (back s' I1)
/-- a[y] = v, the empty dict being of both kinds -/
def DPutE (H : Hp) (a : Addr) (y v : V) (H' : Hp) : Prop := DPut H a y v H' ∨
  ((H a = some (.dK []) ∧ ∃ (k : List Key) (b : Addr), y = .ref b ∧ H b = some (.tup (k.map kV)) ∧ H' = upd H a (.dT [(k, v)])) ∨ (H a = some (.dT []) ∧ ∃ k : Key, y = kV k ∧ H' = upd H a (.dK [(k, v)])))
theorem dE_setItem {H' : Hp} {Q : Unit → Shared → Prop} (hu : A.units + 1 < cLine) (I : Inv X pins σ H s) (g : DPutE H a y v H') (ry : RelV y u) (rv : RelV v r) (h : ∀ s', Inv X pins σ H' s' → Q () s') :
    wpAny (model X.prog X.w) A (setItem (.ref a) u r) Q E s := by
  have hz : 0 < sizeLine := by decide
  rcases g with g | ⟨e, k, b, ey, eb, er⟩ | ⟨e, k, ey, er⟩
  · exact d_setItem hu I g ry rv h
  · subst ey er
    have hb : b ≠ a := ne_of eb e (fun z => nomatch z)
    refine d_setItem hu (I.asT e) (.inr ⟨[], k, b, upd_same, rfl, by rw [upd_ne hb]; exact eb, hz, rfl⟩) ry rv ?_
    rw [upd_upd]
    exact h
  · subst ey er
    refine d_setItem hu (I.asK e) (.inl ⟨[], k, upd_same, rfl, hz, rfl⟩) ry rv ?_
    rw [upd_upd]
    exact h
end
end L2
namespace L2
open PySem PySem.Spec PyProof.Rows
/-! ### zip over lists and tuples (own text) -/
section
variable {X : Cx} {pins : List (Addr × Obj)} {σ : St} {H : Hp} {s : Shared}
/-- records of an iterator's own change -/
theorem Inv.turnedL {h' : Heap} {t' : Nat} {ch : List Addr} (I : Inv X pins σ H s) (hf : ∀ b ∈ ch, FpOk X pins H b) (k : ∀ b o, b ∉ ch → s.heap.get? b = some o → h'.get? b = some o) : Inv X pins σ H { s with heap := h', toks := t' } := by
  have nit : ∀ b u, H b = some u → b ∉ ch := fun b u e z => by rw [(hf b z).1] at e; cases e
  have nL : X.env.locals ∉ ch := fun z => (hf _ z).2.1 rfl
  refine I.step (g' := s.gens) (d' := s.drawn) (ch := ch) (fun b hb => ?_) (fun b o _ _ hc e _ => k b o hc e) (fun b o _ _ hc e _ => ⟨o.slots, k b o hc e⟩) (fun _ _ _ _ n => n)
    (fun b o hc e => ⟨o, k b o hc e⟩) (fun _ _ e => e) (fun _ _ _ e => e) (fun b ps e => ⟨#[], by rw [e]; simp⟩) (fun m hm => ?_) (fun b u e => ?_) I.bare
  · obtain ⟨_, f1, _, f3, f4, f5⟩ := hf b hb
    exact ⟨f3, f1, f4, f5⟩
  · obtain ⟨o, es, ep, ho, r⟩ := hm
    exact ⟨o, es, ep, k _ o nL ho, r⟩
  · refine (I.hok b u e).stay (fun c v hc q => k c v ?_ q) (fun _ q => q) fun _ _ q => q
    rcases hc with z | z
    · rw [z]; exact nit b u e
    · exact nit c _ z
end
section
variable {prog : Program} {w : World} {A : Around} {E : Value → Shared → Prop} {s : Shared}
theorem draw_tuple (hh : A.handled = none) (it l : Addr) (hne : l ≠ it) (items : Array Value) :
    Draws prog w A it [it, l] items.size (fun i v => items[i]? = some v) (fun i h => h.IsTupleIter it l i ∧ h.IsTuple l items) where
  live := fun _ _ ⟨⟨o, ho, _⟩, _⟩ => ⟨o, ho⟩
  frame := fun _ _ _ ⟨⟨o, ho, r⟩, ⟨ol, hol, r'⟩⟩ hk => ⟨⟨o, hk it List.mem_cons_self o ho, r⟩, ⟨ol, hk l (List.mem_cons_of_mem _ List.mem_cons_self) ol hol, r'⟩⟩
  item := fun i s Q E hi st hQ => by
    obtain ⟨it1, ht⟩ := st
    obtain ⟨o, ho, hc, hd⟩ := id it1
    obtain ⟨ol, hol, hcl, nl, hdl⟩ := id ht
    have hx : items[i]? = some items[i] := Array.getElem?_eq_getElem hi
    unfold Builtin.SmallTypes.nextOf
    refine wpAny_bind (wpAny_callSpecial?_slot (name := Str.ofString "__next__") it1.typeIs F.slot_tuple_iterator_next (wpAny_call_entry F.slot_tuple_iterator_next it1.typeIs F.entry_tuple_iterator_next ?_ (F.args_tuple_iterator_next_1 _)))
    refine wpAny_bind (m := field (.ref it) 0) (wpAny_field ho hd (x := .ref l) rfl ?_)
    dsimp only
    rw [if_neg (show ¬ (Value.ref l == Value.none) = true from Bool.false_ne_true)]
    refine wpAny_bind (m := field (.ref it) 1) (wpAny_field ho hd (x := .int i 0) rfl (wpAny_bind (m := seqItems? (.ref l)) (wpAny_seqItems hol hdl ?_)))
    simp only [Int.toNat_natCast, hx]
    refine wpAny_bind (wpAny_setField ho hd (by simp) (wpAny_pure ⟨_, rfl, wpAny_pure ?_⟩))
    have sb := Heap.SameBut.update s.heap it (Obj.mapFields (·.setIfInBounds 1 (rawInt ((i : Int) + 1))))
    refine hQ _ _ s.toks hx ⟨⟨_, Heap.get?_update_self _ ho (Obj.isFreed_of_fields (Obj.data_mapFields hd _)), (Obj.cls_mapFields ..).trans hc, by rw [Obj.data_mapFields hd]; simp [rawInt]⟩, ?_⟩ sb
    exact ht.extBut sb.extBut hne
  done := fun s Q E st hE => by
    obtain ⟨it1, ht⟩ := st
    obtain ⟨o, ho, hc, hd⟩ := id it1
    obtain ⟨ol, hol, hcl, nl, hdl⟩ := id ht
    have hx : items[items.size]? = none := by simp
    unfold Builtin.SmallTypes.nextOf
    refine wpAny_bind (wpAny_callSpecial?_slot (name := Str.ofString "__next__") it1.typeIs F.slot_tuple_iterator_next (wpAny_call_entry F.slot_tuple_iterator_next it1.typeIs F.entry_tuple_iterator_next ?_ (F.args_tuple_iterator_next_1 _)))
    refine wpAny_bind (m := field (.ref it) 0) (wpAny_field ho hd (x := .ref l) rfl ?_)
    dsimp only
    rw [if_neg (show ¬ (Value.ref l == Value.none) = true from Bool.false_ne_true)]
    refine wpAny_bind (m := field (.ref it) 1) (wpAny_field ho hd (x := .int items.size 0) rfl (wpAny_bind (m := seqItems? (.ref l)) (wpAny_seqItems hol hdl ?_)))
    simp only [Int.toNat_natCast, hx]
    refine wpAny_bind (wpAny_rule (wpAny_bind (wpAny_setField ho hd (by simp) (wpAny_bind (m := newExc (.type "StopIteration") []) ?_))))
    unfold newExc newTuple
    refine wpAny_bind (wpAny_newObj_type (wpAny_bind (m := firstArgMember _ _) (wpAny_of_eq (a := Value.none) (by first | rfl | (simp only [firstArgMember]; rfl)) (wpAny_newObj_type ?_ (by size_fits)))) (by size_fits))
    unfold raiseNew
    refine wpAny_bind (wpAny_handled ?_)
    first | rw [show A.in1.handled = none from hh] | rw [hh]
    exact wpAny_bind (wpAny_pure (wpAny_throw (hE _ _ (((Heap.SameBut.update ..).extBut.push _).push _) ⟨_, Heap.get?_push_size _ rfl, rfl⟩)))
structure ZAp (z TI TO i1 i2 : Addr) (fp1 fp2 : List Addr) : Prop where
  a1 : TI ≠ z
  a2 : TO ≠ z
  a3 : i1 ≠ z
  a4 : i2 ≠ z
  a5 : TI ≠ TO
  a6 : TI ≠ i1
  a7 : TI ≠ i2
  a8 : TO ≠ i1
  a9 : TO ≠ i2
  b1 : i1 ≠ i2
  b2 : z ∉ fp1
  b3 : z ∉ fp2
  b4 : TO ∉ fp1
  b5 : TO ∉ fp2
  b6 : i1 ∉ fp2
  b7 : i2 ∉ fp1
theorem notIn_ne {b : Addr} {fp : List Addr} (h : b ∉ fp) : ∀ c ∈ fp, c ≠ b := fun c hc z => h (z ▸ hc)
/-- a changed place that a drawn iterator does not lean on -/
theorem dpast {it : Addr} {fp : List Addr} {n i : Nat} {P : Nat → Value → Prop} {St : Nat → Heap → Prop} {b : Addr} {h h' : Heap} (D : Draws prog w A it fp n P St) (st : St i h) (sb : Heap.SameBut b h h') (hb : b ∉ fp) : St i h' :=
  D.frame i h h' st fun c hc o e => sb.extBut c o (notIn_ne hb c hc) e
section
variable {z TI TO i1 i2 : Addr} {fp1 fp2 : List Addr} {n1 n2 k : Nat} {P1 P2 : Nat → Value → Prop} {St1 St2 : Nat → Heap → Prop} {a b : Value}
theorem zipD_item {Q : Value → Shared → Prop} (D1 : Draws prog w A i1 fp1 n1 P1 St1) (D2 : Draws prog w A i2 fp2 n2 P2 St2) (Z : ZAp z TI TO i1 i2 fp1 fp2) (hz : IsZip s.heap z TI TO .none) (hTI : IsPair s.heap TI (.ref i1) (.ref i2)) (hTO : IsPair s.heap TO a b)
    (st1 : St1 k s.heap) (st2 : St2 k s.heap) (k1 : k < n1) (k2 : k < n2)
    (hQ : ∀ x y h' tk, P1 k x → P2 k y → IsZip h' z TI TO (rawInt s.heap.objs.size) → IsPair h' TO x y → St1 (k + 1) h' → St2 (k + 1) h' → IsPair h' s.heap.objs.size x y → h'.objs.size = s.heap.objs.size + 1 →
      (∀ c o, c ∉ [z, TO, i1, i2] → s.heap.get? c = some o → h'.get? c = some o) → Q (.ref s.heap.objs.size) { s with heap := h', toks := tk }) :
    wpAny (model prog w) A (Builtin.«zip.__next__» ⟨[.ref z], []⟩) (fun fin s' => ∃ v, fin = .done (.ret v) ∧ Q v s') E s := by
  refine wpAny_bind (m := field (.ref z) 2) (wpAny_field hz rfl (x := .bool false) rfl (wpAny_bind (m := field (.ref z) 3) (wpAny_field hz rfl (x := .ref TI) rfl (wpAny_bind (wpAny_seqItems hTI rfl ?_)))))
  refine wpAny_bind (m := Builtin.SmallTypes.ownedTupleIsFree (.ref z)) ?_
  unfold Builtin.SmallTypes.ownedTupleIsFree
  refine wpAny_bind (wpAny_field hz rfl (x := .none) rfl (wpAny_pure ?_))
  simp only [if_true]
  refine wpAny_bind (wpAny_rule (wpAny_bind (wpAny_field hz rfl (x := .ref TO) rfl (wpAny_bind (wpAny_setField_rec hz (by simp) fun g1 hz1 sb1 => wpAny_bind ?_)))))
  have hz1' : IsZip g1 z TI TO .ellipsis := hz1
  simp only [List.zipIdx_cons, List.zipIdx_nil, List.forIn_cons, List.forIn_nil]
  refine wpAny_bind (wpAny_bind (wpAny_onRaise (wpAny_bind (m := Builtin.SmallTypes.nextOf (.ref i1)) ?_)))
  refine D1.item k _ _ _ k1 (dpast D1 st1 sb1 Z.b2) fun x g2 t2 hx st1' sb2 => wpAny_pure ?_
  have to2 : IsPair g2 TO a b := sb2.extBut _ _ Z.a8 (sb1.extBut _ _ Z.a2 hTO)
  refine wpAny_bind (wpAny_seqItems to2 rfl (wpAny_bind (wpAny_updateSeq_pair to2 fun g3 to3 sb3 => wpAny_bind (wpAny_letGo (wpAny_pure ?_)))))
  have to3' : IsPair g3 TO x b := to3
  refine wpAny_bind (wpAny_bind (wpAny_onRaise (wpAny_bind (m := Builtin.SmallTypes.nextOf (.ref i2)) ?_)))
  refine D2.item k _ _ _ k2 (dpast D2 (dpast D2 (dpast D2 st2 sb1 Z.b3) sb2 Z.b6) sb3 Z.b5) fun y g4 t4 hy st2' sb4 => wpAny_pure ?_
  have to4 : IsPair g4 TO x b := sb4.extBut _ _ Z.a9 to3'
  refine wpAny_bind (wpAny_seqItems to4 rfl (wpAny_bind (wpAny_updateSeq_pair to4 fun g5 to5 sb5 => wpAny_bind (wpAny_letGo (wpAny_pure (wpAny_pure ?_))))))
  have to5' : IsPair g5 TO x y := to5
  refine wpAny_bind (wpAny_seqItems to5' rfl (wpAny_bind (wpAny_newTuple ?_)))
  have size5 : g5.objs.size = s.heap.objs.size := by rw [sb5.1, sb4.1, sb3.1, sb2.1, sb1.1]
  have z5 : IsZip g5 z TI TO .ellipsis := sb5.extBut _ _ Z.a2.symm (sb4.extBut _ _ Z.a4.symm (sb3.extBut _ _ Z.a2.symm (sb2.extBut _ _ Z.a3.symm hz1')))
  have kept5 : ∀ c o, c ∉ [z, TO, i1, i2] → s.heap.get? c = some o → g5.get? c = some o := fun c o hc e => by
    simp only [List.mem_cons, List.not_mem_nil, or_false, not_or] at hc
    exact sb5.extBut _ _ hc.2.1 (sb4.extBut _ _ hc.2.2.2 (sb3.extBut _ _ hc.2.1 (sb2.extBut _ _ hc.2.2.1 (sb1.extBut _ _ hc.1 e))))
  have s15 : St1 (k + 1) g5 := dpast D1 (dpast D1 (dpast D1 st1' sb3 Z.b4) sb4 Z.b7) sb5 Z.b4
  have s25 : St2 (k + 1) g5 := dpast D2 st2' sb5 Z.b5
  have ltz : z < g5.objs.size := Heap.lt_size z5
  refine wpAny_bind (m := Builtin.SmallTypes.ownedTupleHandOut (.ref z) (.ref g5.objs.size)) ?_
  unfold Builtin.SmallTypes.ownedTupleHandOut
  have z6 : IsZip (g5.push { cls := .type "tuple", data := .seq #[x, y] }) z TI TO .ellipsis := Heap.get?_push_of_some _ z5
  refine wpAny_bind (wpAny_setField_rec z6 (by simp) fun g7 z7 sb7 => ?_)
  have z7' : IsZip g7 z TI TO (rawInt g5.objs.size) := z7
  refine wpAny_setField_rec z7' (by simp) fun g8 z8 sb8 => ?_
  have z8' : IsZip g8 z TI TO (rawInt g5.objs.size) := z8
  have up8 : ∀ c o, c ≠ z → g5.get? c = some o → g8.get? c = some o := fun c o hc e => sb8.extBut _ _ hc (sb7.extBut _ _ hc (Heap.get?_push_of_some _ e))
  have new8 : IsPair g8 g5.objs.size x y := sb8.extBut _ _ (Nat.ne_of_gt ltz) (sb7.extBut _ _ (Nat.ne_of_gt ltz) (Heap.get?_push_size _ rfl))
  have size8 : g8.objs.size = g5.objs.size + 1 := by rw [sb8.1, sb7.1, Heap.size_push]
  rw [size5] at z8' new8 size8
  refine wpAny_pure ⟨_, rfl, ?_⟩
  show Q (.ref g5.objs.size) _
  rw [size5]
  exact hQ x y g8 _ hx hy z8' (up8 _ _ Z.a2 to5') (D1.frame _ _ _ s15 fun c hc o e => up8 c o (notIn_ne Z.b2 c hc) e) (D2.frame _ _ _ s25 fun c hc o e => up8 c o (notIn_ne Z.b3 c hc) e) new8 size8
    fun c o hc e => up8 c o (fun q => hc (by simp [q])) (kept5 c o hc e)
theorem zipD_end {Q : PySem.Fin → Shared → Prop} (D1 : Draws prog w A i1 fp1 n1 P1 St1) (D2 : Draws prog w A i2 fp2 n2 P2 St2) (Z : ZAp z TI TO i1 i2 fp1 fp2) (hz : IsZip s.heap z TI TO .none) (hTI : IsPair s.heap TI (.ref i1) (.ref i2)) (hTO : IsPair s.heap TO a b)
    (st1 : St1 k s.heap) (st2 : St2 k s.heap) (hk : k = n1 ∨ (k < n1 ∧ k = n2))
    (hE : ∀ h' e tk, (∀ c o, c ∉ [z, TO, i1, i2] → s.heap.get? c = some o → h'.get? c = some o) → (∃ o, h'.get? e = some o ∧ o.cls = .type "StopIteration") → E (.ref e) { s with heap := h', toks := tk }) :
    wpAny (model prog w) A (Builtin.«zip.__next__» ⟨[.ref z], []⟩) Q E s := by
  refine wpAny_bind (m := field (.ref z) 2) (wpAny_field hz rfl (x := .bool false) rfl (wpAny_bind (m := field (.ref z) 3) (wpAny_field hz rfl (x := .ref TI) rfl (wpAny_bind (wpAny_seqItems hTI rfl ?_)))))
  refine wpAny_bind (m := Builtin.SmallTypes.ownedTupleIsFree (.ref z)) ?_
  unfold Builtin.SmallTypes.ownedTupleIsFree
  refine wpAny_bind (wpAny_field hz rfl (x := .none) rfl (wpAny_pure ?_))
  simp only [if_true]
  refine wpAny_bind (wpAny_rule (wpAny_bind (wpAny_field hz rfl (x := .ref TO) rfl (wpAny_bind (wpAny_setField_rec hz (by simp) fun g1 hz1 sb1 => wpAny_bind ?_)))))
  have hz1' : IsZip g1 z TI TO .ellipsis := hz1
  simp only [List.zipIdx_cons, List.zipIdx_nil, List.forIn_cons, List.forIn_nil]
  refine wpAny_bind (wpAny_bind (wpAny_onRaise (wpAny_bind (m := Builtin.SmallTypes.nextOf (.ref i1)) ?_)))
  have fin : ∀ {g : Heap} {e : Addr} {tk : Nat}, IsZip g z TI TO .ellipsis → (∀ c o, c ∉ [z, TO, i1, i2] → s.heap.get? c = some o → g.get? c = some o) → (∃ o, g.get? e = some o ∧ o.cls = .type "StopIteration") →
      ∀ (h' : Heap), Heap.SameBut z g h' → E (.ref e) { s with heap := h', toks := tk } := by
    intro g e tk gz gk ⟨oe, he, ce⟩ h' sb
    have ez : e ≠ z := fun q => by subst q; rw [gz] at he; cases he; simp at ce
    exact hE h' e tk (fun c o hc q => sb.extBut _ _ (fun r => hc (by simp [r])) (gk c o hc q)) ⟨oe, sb.extBut _ _ ez he, ce⟩
  rcases hk with rfl | ⟨k1, rfl⟩
  · refine D1.done _ _ _ (dpast D1 st1 sb1 Z.b2) fun g2 e sb2 he => ?_
    have z2 : IsZip g2 z TI TO .ellipsis := sb2 _ _ Z.a3.symm hz1'
    refine wpAny_setField_rec z2 (by simp) fun g3 _ sb3 => fin z2 (fun c o hc q => ?_) he g3 sb3
    simp only [List.mem_cons, List.not_mem_nil, or_false, not_or] at hc
    exact sb2 _ _ hc.2.2.1 (sb1.extBut _ _ hc.1 q)
  · refine D1.item k _ _ _ k1 (dpast D1 st1 sb1 Z.b2) fun x g2 t2 hx st1' sb2 => wpAny_pure ?_
    have to2 : IsPair g2 TO a b := sb2.extBut _ _ Z.a8 (sb1.extBut _ _ Z.a2 hTO)
    refine wpAny_bind (wpAny_seqItems to2 rfl (wpAny_bind (wpAny_updateSeq_pair to2 fun g3 to3 sb3 => wpAny_bind (wpAny_letGo (wpAny_pure ?_)))))
    refine wpAny_bind (wpAny_bind (wpAny_onRaise (wpAny_bind (m := Builtin.SmallTypes.nextOf (.ref i2)) ?_)))
    refine D2.done _ _ _ (dpast D2 (dpast D2 (dpast D2 st2 sb1 Z.b3) sb2 Z.b6) sb3 Z.b5) fun g4 e sb4 he => ?_
    have z4 : IsZip g4 z TI TO .ellipsis := sb4 _ _ Z.a4.symm (sb3.extBut _ _ Z.a2.symm (sb2.extBut _ _ Z.a3.symm hz1'))
    refine wpAny_setField_rec z4 (by simp) fun g5 _ sb5 => fin z4 (fun c o hc q => ?_) he g5 sb5
    simp only [List.mem_cons, List.not_mem_nil, or_false, not_or] at hc
    exact sb4 _ _ hc.2.2.2 (sb3.extBut _ _ hc.2.1 (sb2.extBut _ _ hc.2.2.1 (sb1.extBut _ _ hc.1 q)))
theorem nextZ_item {Q : Option Value → Shared → Prop} (D1 : Draws prog w A.in1 i1 fp1 n1 P1 St1) (D2 : Draws prog w A.in1 i2 fp2 n2 P2 St2) (Z : ZAp z TI TO i1 i2 fp1 fp2) (hz : IsZip s.heap z TI TO .none) (hTI : IsPair s.heap TI (.ref i1) (.ref i2)) (hTO : IsPair s.heap TO a b)
    (st1 : St1 k s.heap) (st2 : St2 k s.heap) (k1 : k < n1) (k2 : k < n2)
    (hQ : ∀ x y h' tk, P1 k x → P2 k y → IsZip h' z TI TO (rawInt s.heap.objs.size) → IsPair h' TO x y → St1 (k + 1) h' → St2 (k + 1) h' → IsPair h' s.heap.objs.size x y → h'.objs.size = s.heap.objs.size + 1 →
      (∀ c o, c ∉ [z, TO, i1, i2] → s.heap.get? c = some o → h'.get? c = some o) → Q (some (.ref s.heap.objs.size)) { s with heap := h', toks := tk }) :
    wpAny (model prog w) A (pyNext (.ref z)) Q E s := by
  have hT : s.TypeIs (.ref z) "zip" := ⟨_, hz, rfl⟩
  unfold pyNext
  refine wpAny_bind (wpAny_attempt (wpAny_callSpecial?_slot (name := Str.ofString "__next__") hT F.slot_zip_next (wpAny_call_entry F.slot_zip_next hT F.entry_zip_next ?_ (F.args_zip_next_1 _))))
  exact zipD_item D1 D2 Z hz hTI hTO st1 st2 k1 k2 fun x y h' tk c1 c2 c3 c4 c5 c6 c7 c8 c9 => wpAny_pure (hQ x y h' tk c1 c2 c3 c4 c5 c6 c7 c8 c9)
theorem nextZ_end {Q : Option Value → Shared → Prop} (D1 : Draws prog w A.in1 i1 fp1 n1 P1 St1) (D2 : Draws prog w A.in1 i2 fp2 n2 P2 St2) (Z : ZAp z TI TO i1 i2 fp1 fp2) (hz : IsZip s.heap z TI TO .none) (hTI : IsPair s.heap TI (.ref i1) (.ref i2)) (hTO : IsPair s.heap TO a b)
    (st1 : St1 k s.heap) (st2 : St2 k s.heap) (hk : k = n1 ∨ (k < n1 ∧ k = n2)) (hQ : ∀ h' tk, (∀ c o, c ∉ [z, TO, i1, i2] → s.heap.get? c = some o → h'.get? c = some o) → Q none { s with heap := h', toks := tk }) :
    wpAny (model prog w) A (pyNext (.ref z)) Q E s := by
  have hT : s.TypeIs (.ref z) "zip" := ⟨_, hz, rfl⟩
  unfold pyNext
  refine wpAny_bind (wpAny_attempt (wpAny_callSpecial?_slot (name := Str.ofString "__next__") hT F.slot_zip_next (wpAny_call_entry F.slot_zip_next hT F.entry_zip_next ?_ (F.args_zip_next_1 _))))
  refine zipD_end D1 D2 Z hz hTI hTO st1 st2 hk fun h' e tk kp ⟨o, ho, hc⟩ => ?_
  exact wpAny_bind (wpAny_isInstance (T := "StopIteration") (b := true) ⟨o, ho, hc⟩ isSubtype_stop (wpAny_pure (hQ h' tk kp)))
end
/-! a list or a tuple -/
def seqCls : Bool → String
  | true => "list_iterator"
  | false => "tuple_iterator"
def SeqI (sk : Bool) (h : Heap) (it l : Addr) (k : Nat) : Prop := match sk with | true => h.IsListIter it l k | false => h.IsTupleIter it l k
def SeqO (sk : Bool) (h : Heap) (l : Addr) (items : Array Value) : Prop := match sk with | true => h.IsList l items | false => h.IsTuple l items
theorem draw_seq (sk : Bool) (hh : A.handled = none) (it l : Addr) (hne : l ≠ it) (items : Array Value) : Draws prog w A it [it, l] items.size (fun i v => items[i]? = some v) (fun i h => SeqI sk h it l i ∧ SeqO sk h l items) := by
  cases sk
  · exact draw_tuple hh it l hne items
  · exact PySem.Draws.list hh it l hne items
theorem iter_seq (sk : Bool) {l : Addr} {items : Array Value} {Q : Value → Shared → Prop} (hl : SeqO sk s.heap l items) (hQ : Q (.ref s.heap.objs.size) { s with heap := s.heap.push { cls := .type (seqCls sk), data := .fields #[.ref l, .int 0 0] } }) :
    wpAny (model prog w) A (pyIter (.ref l)) Q E s := by
  cases sk
  · exact wpAny_pyIter_tuple hl hQ
  · exact wpAny_pyIter_list hl hQ
theorem SeqO.push {sk : Bool} {h : Heap} {l : Addr} {items : Array Value} (x : SeqO sk h l items) (o : Obj) : SeqO sk (h.push o) l items := by
  cases sk
  · obtain ⟨q, e, r⟩ := x
    exact ⟨q, Heap.get?_push_of_some _ e, r⟩
  · exact Heap.IsList.push x _
theorem SeqI.new {sk : Bool} {h : Heap} {it l : Addr} (e : h.get? it = some { cls := .type (seqCls sk), data := .fields #[.ref l, .int 0 0] }) : SeqI sk h it l 0 := by
  cases sk
  · exact ⟨_, e, rfl, rfl⟩
  · exact ⟨_, e, rfl, rfl⟩
def zh (h : Heap) (c1 c2 : Bool) (l1 l2 : Addr) : Heap :=
  ((((h.push { cls := .type (seqCls c1), data := .fields #[.ref l1, .int 0 0] }).push { cls := .type (seqCls c2), data := .fields #[.ref l2, .int 0 0] }).push { cls := .type "tuple", data := .seq #[.ref h.objs.size, .ref (h.objs.size + 1)] }).push
    { cls := .type "tuple", data := .seq #[.none, .none] }).push { cls := .type "zip", data := .fields #[.none, .bool false, .bool false, .ref (h.objs.size + 2), .ref (h.objs.size + 3)] }
theorem zh_new (c1 c2 : Bool) (l1 l2 : Addr) (xs ys : Array Value) :
    Meets (Builtin.«zip.__new__» ⟨[.type "zip", .ref l1, .ref l2], []⟩) (fun _ R s => SeqO c1 s.heap l1 xs ∧ SeqO c2 s.heap l2 ys ∧ R (.ok (.ret (.ref (s.heap.objs.size + 4)))) { s with heap := zh s.heap c1 c2 l1 l2 }) :=
  .of_wp fun prog w A R s h => by
    obtain ⟨hp, g, d, tk, os⟩ := s
    obtain ⟨q1, q2, h⟩ := h
    have hsub := PySem.sub_zip
    have q1' : SeqO c1 (Shared.heap ⟨hp, g, d, tk, os⟩) l1 xs := q1
    have q2' : SeqO c2 (Shared.heap ⟨hp.push { cls := .type (seqCls c1), data := .fields #[.ref l1, .int 0 0] }, g, d, tk, os⟩) l2 ys := SeqO.push q2 _
    wp_walk using iter_seq c1 q1', iter_seq c2 q2'
    refine ⟨_, rfl, ?_⟩
    simp only [Heap.size_push] at h ⊢
    unfold zh at h
    exact h
end
end L2
namespace L2
open PySem PySem.Spec PyProof.Rows
theorem push_at {h : Heap} {o : Obj} {n : Nat} (e : h.objs.size = n) (f : o.isFreed = false) : (h.push o).get? n = some o := by rw [← e]; exact Heap.get?_push_size _ f
theorem zh_at (h : Heap) (c1 c2 : Bool) (l1 l2 : Addr) : IsZip (zh h c1 c2 l1 l2) (h.objs.size + 4) (h.objs.size + 2) (h.objs.size + 3) .none ∧ IsPair (zh h c1 c2 l1 l2) (h.objs.size + 2) (.ref h.objs.size) (.ref (h.objs.size + 1)) ∧
    IsPair (zh h c1 c2 l1 l2) (h.objs.size + 3) .none .none ∧ (zh h c1 c2 l1 l2).get? h.objs.size = some { cls := .type (seqCls c1), data := .fields #[.ref l1, .int 0 0] } ∧ (zh h c1 c2 l1 l2).get? (h.objs.size + 1) = some { cls := .type (seqCls c2), data := .fields #[.ref l2, .int 0 0] } ∧
    ∀ b o, h.get? b = some o → (zh h c1 c2 l1 l2).get? b = some o := by
  unfold zh
  have up : ∀ {h : Heap} {o p : Obj} {b : Addr}, h.get? b = some o → (h.push p).get? b = some o := fun e => Heap.get?_push_of_some _ e
  exact ⟨push_at (by simp [Heap.size_push]) rfl, up (up (push_at (by simp [Heap.size_push]) rfl)), up (push_at (by simp [Heap.size_push]) rfl), up (up (up (up (push_at rfl rfl)))), up (up (up (push_at (by simp [Heap.size_push]) rfl))), fun b o e => up (up (up (up (up e))))⟩
section
variable {prog : Program} {w : World} {A : Around} {E : Value → Shared → Prop} {s : Shared}
theorem call_zipS {c1 c2 : Bool} {l1 l2 : Addr} {xs ys : Array Value} {Q : Value → Shared → Prop} (h1 : SeqO c1 s.heap l1 xs) (h2 : SeqO c2 s.heap l2 ys)
    (h : Q (.ref (s.heap.objs.size + 4)) { s with heap := zh s.heap c1 c2 l1 l2 }) : wpAny (model prog w) A (call (.type "zip") [.ref l1, .ref l2]) Q E s := by
  refine callType_new F.called_zip (by decide) (F.typeCall_zip_2 _ _) (F.newCall_zip_2 _ _) (fun obj => F.args_object_init_3 obj _ _) F.entry_zip_new (zh_new c1 c2 l1 l2 xs ys) ⟨h1, h2, ?_⟩
  exact ⟨⟨_, (zh_at s.heap c1 c2 l1 l2).1, rfl⟩, h⟩
end
/-- a tracked list or tuple -/
def TrS (c : Bool) (H : Hp) (l : Addr) (xs : List V) : Prop := match c with | true => H l = some (.lst xs) | false => H l = some (.tup xs)
theorem TrS.one {c : Bool} {H : Hp} {l : Addr} {xs ys : List V} (h : TrS c H l xs) (h' : TrS c H l ys) : xs = ys := by
  cases c
  · have h1 : H l = some (.tup xs) := h
    have h2 : H l = some (.tup ys) := h'
    rw [h1] at h2; cases h2; rfl
  · have h1 : H l = some (.lst xs) := h
    have h2 : H l = some (.lst ys) := h'
    rw [h1] at h2; cases h2; rfl
theorem TrS.ne {c : Bool} {H : Hp} {l b : Addr} {xs : List V} (h : TrS c H l xs) (hb : H b = none) : l ≠ b := by
  cases c
  · exact ne_of_none (show H l = some (.tup xs) from h) hb
  · exact ne_of_none (show H l = some (.lst xs) from h) hb
theorem TrS.so {X : Cx} {pins : List (Addr × Obj)} {σ : St} {H : Hp} {s : Shared} {c : Bool} {l : Addr} {xs : List V} (I : Inv X pins σ H s) (h : TrS c H l xs) : ∃ its : List Value, Vals xs its ∧ SeqO c s.heap l its.toArray ∧ xs.length ≤ sizeLine := by
  cases c
  · exact I.tuple (.of h)
  · obtain ⟨its, r, pl, z⟩ := I.list (.of h)
    exact ⟨its, r, pl.isList, z⟩
/-- what zip(l1, l2) yields, turn by turn -/
def Itz (c1 : Bool) (l1 : Addr) (c2 : Bool) (l2 : Addr) : It :=
  ⟨fun i H => ∃ xs ys x y, TrS c1 H l1 xs ∧ TrS c2 H l2 ys ∧ xs[i]? = some x ∧ ys[i]? = some y,
   fun i H v H' => ∃ p x y, v = .ref p ∧ H p = none ∧ H' = upd H p (.tup [x, y]) ∧ (∀ xs, TrS c1 H l1 xs → xs[i]? = some x) ∧ (∀ ys, TrS c2 H l2 ys → ys[i]? = some y),
   fun i H => ∃ xs ys, TrS c1 H l1 xs ∧ TrS c2 H l2 ys ∧ (i = xs.length ∨ (i < xs.length ∧ i = ys.length))⟩
structure ZD (z TI TO i1 i2 : Addr) : Prop where
  a1 : TI ≠ z
  a2 : TO ≠ z
  a3 : i1 ≠ z
  a4 : i2 ≠ z
  a5 : TI ≠ TO
  a6 : TI ≠ i1
  a7 : TI ≠ i2
  a8 : TO ≠ i1
  a9 : TO ≠ i2
  b1 : i1 ≠ i2
theorem ZD.ap {z TI TO i1 i2 l1 l2 : Addr} (d : ZD z TI TO i1 i2) (h1 : ∀ b ∈ [z, TI, TO, i1, i2], l1 ≠ b) (h2 : ∀ b ∈ [z, TI, TO, i1, i2], l2 ≠ b) : ZAp z TI TO i1 i2 [i1, l1] [i2, l2] := by
  simp only [List.mem_cons, List.not_mem_nil, or_false, forall_eq_or_imp, forall_eq] at h1 h2
  obtain ⟨p1, p2, p3, p4, p5⟩ := h1
  obtain ⟨q1, q2, q3, q4, q5⟩ := h2
  have no : ∀ {a b c : Addr}, a ≠ b → a ≠ c → a ∉ [b, c] := fun x y z => by
    simp only [List.mem_cons, List.not_mem_nil, or_false] at z
    rcases z with z | z
    · exact x z
    · exact y z
  exact ⟨d.a1, d.a2, d.a3, d.a4, d.a5, d.a6, d.a7, d.a8, d.a9, d.b1, no d.a3.symm p1.symm, no d.a4.symm q1.symm, no d.a8 p3.symm, no d.a9 q3.symm, no d.b1 q4.symm, no d.b1.symm p5.symm⟩
theorem pairOk {P : Program} {w : World} {H : Hp} {h : Heap} {p : Addr} {x y : V} {u v : Value} (e : IsPair h p u v) (rx : RelV x u) (ry : RelV y v) : ObjOk P w H h p (.tup [x, y]) :=
  ⟨by show 2 ≤ sizeLine; decide, [u, v], .cons rx (.cons ry .nil), ⟨⟨_, e, rfl, _, rfl⟩, _, e, rfl⟩⟩
theorem turn_zip {P : Program} {w : World} {K : PySem.W.Frag} {elts : List Expr} {kt : Nat} {pt : Pos} {c1 c2 : Bool} {l1 l2 z TI TO i1 i2 : Addr} (d : ZD z TI TO i1 i2) :
    Turn P w K (.Tuple elts kt pt) (Itz c1 l1 c2 l2) [z, TI, TO, i1, i2] z (fun i h => IsZip h z TI TO .none ∧ IsPair h TI (.ref i1) (.ref i2) ∧ (∃ a b, IsPair h TO a b) ∧ SeqI c1 h i1 l1 i ∧ SeqI c2 h i2 l2 i) where
  mem := by simp
  obj := fun i h st b hb => by
    obtain ⟨hz, hTI, ⟨a, b', hTO⟩, s1, s2⟩ := st
    have seq : ∀ {c : Bool} {it l : Addr} {k : Nat}, SeqI c h it l k → ∃ o, h.get? it = some o ∧ ∀ v, o.data ≠ .cell v := fun {c it l k} q => by
      cases c
      · obtain ⟨o, e, _, q⟩ := q
        exact ⟨o, e, fun v z => by rw [q] at z; cases z⟩
      · obtain ⟨o, e, _, q⟩ := q
        exact ⟨o, e, fun v z => by rw [q] at z; cases z⟩
    simp only [List.mem_cons, List.not_mem_nil, or_false] at hb
    rcases hb with rfl | rfl | rfl | rfl | rfl
    · exact ⟨_, hz, fun v q => nomatch q⟩
    · exact ⟨_, hTI, fun v q => nomatch q⟩
    · exact ⟨_, hTO, fun v q => nomatch q⟩
    · exact seq s1
    · exact seq s2
  keep := fun i h h' st k => by
    obtain ⟨hz, hTI, ⟨a, b', hTO⟩, s1, s2⟩ := st
    have seq : ∀ {c : Bool} {it l : Addr} {k : Nat}, (∀ o, h.get? it = some o → h'.get? it = some o) → SeqI c h it l k → SeqI c h' it l k := fun {c it l k} kp q => by
      cases c
      · obtain ⟨o, e, q⟩ := q
        exact ⟨o, kp o e, q⟩
      · obtain ⟨o, e, q⟩ := q
        exact ⟨o, kp o e, q⟩
    exact ⟨k z (by simp) _ hz, k TI (by simp) _ hTI, ⟨a, b', k TO (by simp) _ hTO⟩, seq (k i1 (by simp)) s1, seq (k i2 (by simp)) s2⟩
  item := by
    intro X hP hw hK hc i pins s σ H E I hf st hg
    subst hP hw hK
    obtain ⟨xs, ys, x, y, t1, t2, hx, hy⟩ := hg
    obtain ⟨hz, hTI, ⟨a, b', hTO⟩, s1, s2⟩ := st
    obtain ⟨its1, r1, o1, _⟩ := t1.so I
    obtain ⟨its2, r2, o2, _⟩ := t2.so I
    have n1 : ∀ b ∈ [z, TI, TO, i1, i2], l1 ≠ b := fun b hb => t1.ne (hf b hb).1
    have n2 : ∀ b ∈ [z, TI, TO, i1, i2], l2 ≠ b := fun b hb => t2.ne (hf b hb).1
    have hh : X.A.in1.handled = none := I.ok.hd hc
    have D1 := draw_seq (prog := X.prog) (w := X.w) c1 hh i1 l1 (n1 i1 (by simp)) its1.toArray
    have D2 := draw_seq (prog := X.prog) (w := X.w) c2 hh i2 l2 (n2 i2 (by simp)) its2.toArray
    have lx : i < its1.toArray.size := by rw [List.size_toArray, ← r1.length]; exact (List.getElem?_eq_some_iff.mp hx).1
    have ly : i < its2.toArray.size := by rw [List.size_toArray, ← r2.length]; exact (List.getElem?_eq_some_iff.mp hy).1
    refine nextZ_item D1 D2 (d.ap n1 n2) hz hTI hTO ⟨s1, o1⟩ ⟨s2, o2⟩ lx ly fun u v h' tk p1 p2 z' to' st1 st2 new size kept => ?_
    obtain ⟨u', eu, ru⟩ := r1.get hx
    obtain ⟨v', ev, rv⟩ := r2.get hy
    have hu : u = u' := by
      have : its1.toArray[i]? = some u := p1
      rw [List.getElem?_toArray, eu] at this
      exact (Option.some.inj this).symm
    have hv : v = v' := by
      have : its2.toArray[i]? = some v := p2
      rw [List.getElem?_toArray, ev] at this
      exact (Option.some.inj this).symm
    subst hu hv
    refine ⟨_, rfl, wpAny_letOwnedTupleGo_zip (s := { s with heap := h', toks := tk }) z' fun h'' z'' sb => ?_⟩
    have kp : ∀ b o, b ∉ [z, TI, TO, i1, i2] → s.heap.get? b = some o → h''.get? b = some o := fun b o hb e => by
      simp only [List.mem_cons, List.not_mem_nil, or_false, not_or] at hb
      exact sb.extBut b o hb.1 (kept b o (by simp only [List.mem_cons, List.not_mem_nil, or_false, not_or]; exact ⟨hb.1, hb.2.2.1, hb.2.2.2.1, hb.2.2.2.2⟩) e)
    have hn : H s.heap.objs.size = none := I.hok.fresh (Nat.le_refl _)
    have zlt : z < s.heap.objs.size := Heap.lt_size hz
    have lt : ∀ b ∈ [z, TI, TO, i1, i2], b < s.heap.objs.size := fun b hb => by
      have seq : ∀ {c : Bool} {it l : Addr} {k : Nat}, SeqI c s.heap it l k → it < s.heap.objs.size := fun {c it l k} q => by
        cases c
        · obtain ⟨o, e, _⟩ := q; exact Heap.lt_size e
        · obtain ⟨o, e, _⟩ := q; exact Heap.lt_size e
      simp only [List.mem_cons, List.not_mem_nil, or_false] at hb
      rcases hb with rfl | rfl | rfl | rfl | rfl
      · exact zlt
      · exact Heap.lt_size hTI
      · exact Heap.lt_size hTO
      · exact seq s1
      · exact seq s2
    have new' : IsPair h'' s.heap.objs.size u v := sb.extBut _ _ (Nat.ne_of_gt zlt) new
    have keepTI : IsPair h'' TI (.ref i1) (.ref i2) := sb.extBut _ _ d.a1 (kept TI _ (by simp only [List.mem_cons, List.not_mem_nil, or_false, not_or]; exact ⟨d.a1, d.a5, d.a6, d.a7⟩) hTI)
    have seq : ∀ {c : Bool} {it l : Addr} {k : Nat}, it ≠ z → SeqI c h' it l k → SeqI c h'' it l k := fun {c it l k} ne q => by
      cases c
      · obtain ⟨o, e, q⟩ := q
        exact ⟨o, sb.extBut _ _ ne e, q⟩
      · obtain ⟨o, e, q⟩ := q
        exact ⟨o, sb.extBut _ _ ne e, q⟩
    refine ⟨.ref s.heap.objs.size, upd H s.heap.objs.size (.tup [x, y]), ?_, rfl, ⟨_, x, y, rfl, hn, rfl, fun ws h => ?_, fun ws h => ?_⟩, ⟨z'', keepTI, ⟨_, _, sb.extBut _ _ d.a2 to'⟩, seq d.a3 st1.1, seq d.a4 st2.1⟩, fun b hb => ?_⟩
    · have I1 : Inv X pins σ (upd H s.heap.objs.size (.tup [x, y])) { s with heap := s.heap.push { cls := .type "tuple", data := .seq #[u, v] } } :=
        I.laid (t' := s.toks) (fun b o e => Heap.get?_push_of_some _ e) (Nat.le_refl _) (pairOk (Heap.get?_push_size _ rfl) ru rv)
      have fin : (∀ b ∈ [z, TI, TO, i1, i2], FpOk X pins (upd H s.heap.objs.size (.tup [x, y])) b) → (∀ b o, b ∉ [z, TI, TO, i1, i2] → (s.heap.push { cls := .type "tuple", data := .seq #[u, v] }).get? b = some o → h''.get? b = some o) →
          Inv X pins σ (upd H s.heap.objs.size (.tup [x, y])) { s with heap := h'', toks := tk } := fun a1 a2 => Inv.turnedL (s := { s with heap := s.heap.push { cls := .type "tuple", data := .seq #[u, v] } }) (h' := h'') (t' := tk) (ch := [z, TI, TO, i1, i2]) I1 a1 a2
      refine fin (fun b hb => ?_) fun b o hb e => ?_
      · obtain ⟨f0, f⟩ := hf b hb
        exact ⟨by rw [upd_ne (Nat.ne_of_lt (lt b hb))]; exact f0, f⟩
      · by_cases q : b = s.heap.objs.size
        · subst q
          rw [Heap.get?_push_size _ rfl] at e
          cases e
          exact new'
        · rw [Heap.get?_push_ne _ _ _ q] at e
          exact kp b o hb e
    · rw [h.one t1]; exact hx
    · rw [h.one t2]; exact hy
    · rw [upd_ne (Nat.ne_of_lt (lt b hb))]; exact (hf b hb).1
  done := by
    intro X hP hw hK hc i pins s σ H E I hf st hg
    subst hP hw hK
    obtain ⟨xs, ys, t1, t2, hend⟩ := hg
    obtain ⟨hz, hTI, ⟨a, b', hTO⟩, s1, s2⟩ := st
    obtain ⟨its1, r1, o1, _⟩ := t1.so I
    obtain ⟨its2, r2, o2, _⟩ := t2.so I
    have n1 : ∀ b ∈ [z, TI, TO, i1, i2], l1 ≠ b := fun b hb => t1.ne (hf b hb).1
    have n2 : ∀ b ∈ [z, TI, TO, i1, i2], l2 ≠ b := fun b hb => t2.ne (hf b hb).1
    have hh : X.A.in1.handled = none := I.ok.hd hc
    have D1 := draw_seq (prog := X.prog) (w := X.w) c1 hh i1 l1 (n1 i1 (by simp)) its1.toArray
    have D2 := draw_seq (prog := X.prog) (w := X.w) c2 hh i2 l2 (n2 i2 (by simp)) its2.toArray
    refine nextZ_end D1 D2 (d.ap n1 n2) hz hTI hTO ⟨s1, o1⟩ ⟨s2, o2⟩ (by rw [List.size_toArray, List.size_toArray, ← r1.length, ← r2.length]; exact hend) fun h' tk kept => ⟨rfl, I.turnedL hf fun b o hb e => ?_⟩
    simp only [List.mem_cons, List.not_mem_nil, or_false, not_or] at hb
    exact kept b o (by simp only [List.mem_cons, List.not_mem_nil, or_false, not_or]; exact ⟨hb.1, hb.2.2.1, hb.2.2.2.1, hb.2.2.2.2⟩) e
  self := fun _ _ _ _ _ st h => wpAny_pyIter_zip st.1 h
/-! the rule -/
section
variable {X : Cx} {e1 e2 : Expr} {te1 te2 : TE} {p pos : Pos}
def iZip (ta : TA) : TI := fun σ H R => ta σ H fun vs H1 => ∃ c1 l1 xs c2 l2 ys, vs = [.ref l1, .ref l2] ∧ TrS c1 H1 l1 xs ∧ TrS c2 H1 l2 ys ∧ R (Itz c1 l1 c2 l2) H1
theorem pi_zip {elts : List Expr} {kt : Nat} {pt : Pos} {ta : TA} (hg : Gl X "zip") (hm : X.mg "zip" = none) (hv : bootBuiltins "zip" = some (.type "zip")) (ha : PA X [e1, e2] ta)
    (he : starEach [e1, e2] X.env = (false, eval e1 X.env) :: starEach [e2] X.env := by rfl) (hpl : (backTo pos (starEach [e2] X.env)).any (·.1) = false := by rfl) :
    PI X (.Tuple elts kt pt) (.Call (.Name "zip" p) [e1, e2] [] pos) (iZip ta) := by
  intro pins s σ H R I h
  refine wpAny_Call_Name_kw (ld_blt I hg hm hv ?_ (by decide) (by decide))
  refine PyProof.Rows.callWith_type1 (thn (ha pos pins s σ H _ I h) fun us s1 ⟨vs, H1, I1, r1, c1, l1, xs, c2, l2, ys, ev, t1, t2, q⟩ => ?_) he hpl
  subst ev
  obtain ⟨u1, u2, rfl, ru1, ru2⟩ := vals2 r1
  cases ru1
  cases ru2
  obtain ⟨its1, _, o1, _⟩ := t1.so I1
  obtain ⟨its2, _, o2, _⟩ := t2.so I1
  refine call_zipS o1 o2 ?_
  obtain ⟨z1, z2, z3, z4, z5, z6⟩ := zh_at s1.heap c1 c2 l1 l2
  refine wpAny_pyIter_zip (s := { s1 with heap := zh s1.heap c1 c2 l1 l2 }) z1 ?_
  have ne : ∀ {a b : Nat}, a ≠ b → s1.heap.objs.size + a ≠ s1.heap.objs.size + b := fun h q => h (Nat.add_left_cancel q)
  refine ⟨_, _, _, _, H1, rfl, I1.kept (t' := s1.toks) z6, turn_zip (c1 := c1) (l1 := l1) (c2 := c2) (l2 := l2) ⟨ne (by decide), ne (by decide), ne (a := 0) (by decide), ne (by decide), ne (by decide), ne (b := 0) (by decide), ne (by decide), ne (b := 0) (by decide), ne (by decide), ne (a := 0) (by decide)⟩, ⟨z1, z2, ⟨_, _, z3⟩, .new z4, .new z5⟩, fun b hb => ?_, q⟩
  have hb' : s1.heap.objs.size ≤ b := by
    simp only [List.mem_cons, List.not_mem_nil, or_false] at hb
    rcases hb with rfl | rfl | rfl | rfl | rfl <;> omega
  exact I1.fpOk hb' (I1.hok.fresh hb')
end
end L2
namespace L2
open PySem PySem.Spec PyProof.Rows
/-! ### the keys of a dict, walked (own text) -/
theorem kV_rel {k : Key} {u : Value} (h : keyIs k u = true) : RelV (kV k) u := by
  rcases keyIs_shape h with ⟨i, t, rfl, rfl⟩ | ⟨x, t, rfl, rfl⟩
  · exact ⟨t, rfl⟩
  · exact ⟨t, rfl⟩
def Itk (a : Addr) (o : Obj) : It :=
  ⟨fun i H => ∃ (kvs : List (Key × V)) (k : Key) (v : V), H a = some (.frz o (.dK kvs)) ∧ kvs[i]? = some (k, v),
   fun i H x H' => H' = H ∧ ∀ kvs : List (Key × V), H a = some (.frz o (.dK kvs)) → ∃ k v, kvs[i]? = some (k, v) ∧ x = kV k,
   fun i H => ∃ kvs : List (Key × V), H a = some (.frz o (.dK kvs)) ∧ i = kvs.length⟩
/-- a frozen dict's table -/
theorem frz_at {X : Cx} {pins : List (Addr × Obj)} {σ : St} {H : Hp} {s : Shared} {a : Addr} {o : Obj} {kvs : List (Key × V)} (I : Inv X pins σ H s) (e : H a = some (.frz o (.dK kvs))) {es : Array DictEntry} {ep : Nat} (hd : o.data = .dict es ep) :
    ∃ vs : List (Key × Value), KV kvs vs ∧ s.heap.DictAt (mixKind X.prog X.w) a vs ep ∧ es.size = vs.length := by
  obtain ⟨h1, _, _, vs, r, o', es', ep', h2, h3, h4, h5, h6, h7⟩ := (show ObjOk X.prog X.w H s.heap a (.frz o (.dK kvs)) from I.hok a _ e)
  rw [h1] at h2
  cases h2
  rw [hd] at h4
  cases h4
  exact ⟨vs, r, ⟨o, es, h1, h3, hd, h5, h6, h7⟩, by rw [← h6.length]; simp⟩
theorem KV.get {κ : Type} {kvs : List (κ × V)} {vs : List (κ × Value)} (r : KV kvs vs) : ∀ {i : Nat} {k : κ} {v : V}, kvs[i]? = some (k, v) → ∃ u, vs[i]? = some (k, u) ∧ RelV v u := by
  unfold KV at r
  induction r with
  | nil => intro i k v e; simp at e
  | @cons p q ps qs h t ih =>
    intro i k v e
    cases i with
    | zero =>
      simp at e
      subst e
      have h1 : k = q.1 := h.1
      exact ⟨q.2, by rw [h1]; rfl, h.2⟩
    | succ i => simpa using ih (by simpa using e)
theorem turn_keys {P : Program} {w : World} {K : PySem.W.Frag} {tg : Expr} {a it : Addr} {o : Obj} {es : Array DictEntry} {ep : Nat} (hd : o.data = .dict es ep) : Turn P w K tg (Itk a o) [it] it (fun i h => h.IsKeyIter it a i es.size ep) where
  mem := by simp
  obj := fun i h st b hb => by
    have e : b = it := by simpa using hb
    subst e
    obtain ⟨q, e, _, d⟩ := st
    exact ⟨q, e, fun v z => by rw [d] at z; cases z⟩
  keep := fun i h h' st k => st.at fun q e => k it (by simp) q e
  item := by
    intro X hP hw hK hc i pins s σ H E I hf st hg
    subst hP hw hK
    obtain ⟨kvs, k, v, e, hx⟩ := hg
    obtain ⟨vs, r, hm, hz⟩ := frz_at I e hd
    obtain ⟨u, hu, _⟩ := r.get hx
    obtain ⟨f0, f1, f2, f3, f4, f5⟩ := hf it (by simp)
    rw [hz] at st
    refine wpAny_pyNext_dict_item st hm hu fun key h' hk st' sb => ?_
    have I1 : Inv X pins σ H { s with heap := h' } := I.turned (t' := s.toks) (fun b q hb e => (sb.2 b hb).trans e) f0 f1 f3 f4 f5
    obtain ⟨q, eq, c, d⟩ := id st'
    refine ⟨key, rfl, go_of (s := { s with heap := h' }) eq c d (by decide) ⟨kV k, H, I1, kV_rel hk, ⟨rfl, fun kvs' e' => ?_⟩, by rw [hz]; exact st', fun b hb => (hf b hb).1⟩⟩
    rw [e] at e'
    cases e'
    exact ⟨k, v, hx, rfl⟩
  done := by
    intro X hP hw hK hc i pins s σ H E I hf st hg
    subst hP hw hK
    obtain ⟨kvs, e, hx⟩ := hg
    obtain ⟨vs, r, hm, hz⟩ := frz_at I e hd
    obtain ⟨f0, f1, f2, f3, f4, f5⟩ := hf it (by simp)
    rw [hz] at st
    exact wpAny_pyNext_dict_end (I.ok.hd hc) st hm (by rw [hx, r.length]; simp) fun h' eb => ⟨rfl, I.turned (t' := s.toks) (fun b q hb e => eb b q hb e) f0 f1 f3 f4 f5⟩
  self := fun _ _ _ _ _ st h => wpAny_pyIter_keyiter st h
section
variable {X : Cx} {pins : List (Addr × Obj)} {σ : St} {H : Hp} {s : Shared} {a : Addr} {kvs : List (Key × V)} {tg : Expr} {E : Value → Shared → Prop} {R : It → Hp → Prop}
/-- a dict is frozen -/
theorem Inv.freeze (I : Inv X pins σ H s) (e : H a = some (.dK kvs)) : ∃ (o : Obj) (es : Array DictEntry) (ep : Nat), o.data = .dict es ep ∧ Inv X pins σ (upd H a (.frz o (.dK kvs))) s := by
  obtain ⟨z, hS, vs, r, o, es, ep, h1, h2, h3, h4⟩ := (show ObjOk X.prog X.w H s.heap a (.dK kvs) from I.hok a _ e)
  refine ⟨o, es, ep, h3, I.view (by rw [e]; exact True.intro) ⟨o, h1⟩ ⟨h1, z, hS, vs, r, o, es, ep, h1, h2, h3, h4⟩⟩
theorem piv_frz {o : Obj} (I : Inv X pins σ H s) (e : H a = some (.frz o (.dK kvs))) (q : R (Itk a o) H) : wpAny (model X.prog X.w) X.A (pyIter (.ref a)) (PIE X pins σ tg R) E s := by
  obtain ⟨h1, _, hS, _, _, o', es, ep, h2, _, hd, _⟩ := (show ObjOk X.prog X.w H s.heap a (.frz o (.dK kvs)) from I.hok a _ e)
  rw [h1] at h2
  cases h2
  obtain ⟨vs, r, hm, hz⟩ := frz_at I e hd
  refine wpAny_pyIter_dict hS hm ?_
  refine ⟨s.heap.objs.size, [s.heap.objs.size], _, _, H, rfl, I.kept (t' := s.toks) fun b o e => Heap.get?_push_of_some _ e, turn_keys (a := a) hd, ⟨_, Heap.get?_push_size _ rfl, rfl, by rw [hz]; rfl⟩, fun b hb => ?_, q⟩
  have eb : b = s.heap.objs.size := by simpa using hb
  subst eb
  exact I.fpOk (Nat.le_refl _) (I.hok.fresh (Nat.le_refl _))
/-- of a dict: it was not frozen at the entry -/
theorem Inv.notFrz (I : Inv X pins σ H s) (e : H a = some (.dK kvs)) : ∀ o u, X.H₀ a ≠ some (.frz o u) := fun o u z => by
  have := I.base.frzs a o u z
  rw [e] at this
  cases this
theorem piv_dict (I : Inv X pins σ H s) (e : H a = some (.dK kvs)) (q : ∀ o, (∀ o u, X.H₀ a ≠ some (.frz o u)) → R (Itk a o) (upd H a (.frz o (.dK kvs)))) : wpAny (model X.prog X.w) X.A (pyIter (.ref a)) (PIE X pins σ tg R) E s := by
  obtain ⟨o, es, ep, hd, I'⟩ := I.freeze e
  exact piv_frz I' upd_same (q o (I.notFrz e))
end
end L2
namespace L2
open PySem PySem.Spec PyProof.Rows
/-! ### dict(a tuple of pairs) (own text) -/
theorem miss_tuple_keys : typeLookup (.type "tuple") "keys" = pure none := by rw [typeLookup_type, builtinLookup_eq_fast]; kernel_rfl
section
variable {prog : Program} {w : World} {A : Around} {E : Value → Shared → Prop} {s : Shared}
set_option maxRecDepth 8000 in
theorem keys_of_tuple {a : Addr} {o : Obj} {xs : Array Value} {k : Nat} {Q : Option Value → Shared → Prop} (hx : s.heap.get? a = some o) (hc : o.cls = .type "tuple") (hdat : o.data = .seq xs k) (hd : o.dict = none) (hA : A.handled = none)
    (h : ∀ h' tk, (∀ b o, s.heap.get? b = some o → h'.get? b = some o) → Q none { s with heap := h', toks := tk }) : wpAny (model prog w) A (getAttr? (.ref a) "keys") Q E s := by
  obtain ⟨c, dct, dat, sl⟩ := o
  simp only at hc hdat hd
  subst hc hdat hd
  obtain ⟨hp, g, d, tk, os⟩ := s
  have hT : ∀ tk', (⟨hp, g, d, tk', os⟩ : Shared).TypeIs (.ref a) "tuple" := fun _ => ⟨_, hx, rfl⟩
  have f1 := sub_AttributeError
  have f3 := F.slot_tuple_getattribute.lookup
  have f4 := F.slot_tuple_getattribute.bind (.ref a)
  have f5 := am_tuple_getattr_none
  unfold getAttr? getAttrBy? getAttrBy
  repeat (any_goals (first | assumption | exact hT _ | ((with_reducible show wpAny _ _ (call (Value.builtin "tuple.__getattribute__") _ _) _ _ _); refine call_meets F.slot_tuple_getattribute (hT _) am_entry_tuple_getattribute (F.args_tuple_getattribute_2 _ _) (meets_getattribute_miss_tuple a xs k sl "keys" _ miss_tuple_keys (by decide +kernel) (by size_fits)) ⟨hx, hA, fun h' tk' e hx' => ?_⟩) | wp_step))
  obtain ⟨t', u', he⟩ := hx'.there
  show wpAny _ _ (getattributeRaised _ _ _ _ _ _ _) _ _ _
  unfold getattributeRaised
  have hT2 : (⟨h', g, d, tk', os⟩ : Shared).TypeIs (.ref e) "AttributeError" := ⟨_, he, rfl⟩
  repeat (any_goals (first | assumption | wp_step))
  exact h _ _ hx'.of.keeps
end
namespace DP
theorem entry_loop : entryFor table "dict.update.loop" = some Builtin.«dict.update.loop» := entryFor_of_tree (by kernel_rfl)
theorem plain_loop : plainId "dict.update.loop" = true := by decide +kernel
end DP
section
variable {X : Cx} {pins : List (Addr × Obj)} {σ : St} {A : Around}
theorem pair_items {H : Hp} {s : Shared} {p : Addr} {x y : V} {E : Value → Shared → Prop} {Q : List Value → Shared → Prop} (I : Inv X pins σ H s) (hp : H p = some (.tup [x, y])) (h : ∀ u v, RelV x u → RelV y v → Q [u, v] s) :
    wpAny (model X.prog X.w) A (Builtin.Dict.pairItems (.ref p)) Q E s := by
  obtain ⟨its, rv, ht, _⟩ := I.tuple (.of hp)
  obtain ⟨o, ho, hc, n, hd⟩ := (show s.heap.IsTuple p its.toArray from ht)
  obtain ⟨u, v, rfl, ru, rv'⟩ := vals2 rv
  unfold Builtin.Dict.pairItems
  refine wpAny_bind (wpAny_typeOf (T := "tuple") ⟨o, ho, hc⟩ ?_)
  rw [if_pos (by decide)]
  exact wpAny_bind (wpAny_seqItems ho hd (wpAny_pure (h u v ru rv')))
theorem mergeK_le : ∀ (ps kvs : List (Key × V)), (mergeK kvs ps).length ≤ kvs.length + ps.length
  | [], kvs => by unfold mergeK; simp
  | p :: ps, kvs => by
    have h1 := mergeK_le ps (putK kvs p.1 p.2)
    have h2 := length_putK kvs p.1 p.2
    show (mergeK (putK kvs p.1 p.2) ps).length ≤ _
    rw [List.length_cons]
    omega
theorem mergeK_snoc (ps kvs : List (Key × V)) (p : Key × V) : mergeK kvs (ps ++ [p]) = putK (mergeK kvs ps) p.1 p.2 := by unfold mergeK; rw [List.foldl_append]; rfl
theorem take_snoc {α : Type} {l : List α} {i : Nat} (h : i < l.length) : l.take i ++ [l[i]] = l.take (i + 1) := by simp
theorem dict_loop {d it l : Addr} {xs : List V} {ps : List (Key × V)} (hh : A.handled = none) (hlen : xs.length = ps.length) (hsz : ps.length ≤ sizeLine) {R : Result → Shared → Prop} :
    ∀ (m i : Nat) (s : Shared) (H : Hp), ps.length - i = m → i ≤ ps.length → Inv X pins σ H s → H d = some (.dK (mergeK [] (ps.take i))) → H l = some (.tup xs) →
      (∀ (j : Nat) k v, ps[j]? = some (k, v) → ∃ p, xs[j]? = some (.ref p) ∧ H p = some (.tup [kV k, v])) → FpOk X pins H it → s.heap.IsTupleIter it l i →
      (∀ s', Inv X pins σ (upd H d (.dK (mergeK [] ps))) s' → R (.ok (.ret .none)) s') →
      codeAny (model X.prog X.w) A (.builtin "dict.update.loop" ⟨[.ref d, .ref it, rawInt i, .none], []⟩) R s := by
  intro m
  induction m with
  | zero =>
    intro i s H hm hi I hd hl hps hf st k
    have e : i = ps.length := by omega
    subst e
    obtain ⟨its, rv, p, _⟩ := I.tuple (.of hl)
    obtain ⟨f0, f1, f2, f3, f4, f5⟩ := id hf
    refine codeAny_builtin DP.entry_loop ?_
    rw [Around.under_plainId DP.plain_loop _]
    show wpAny _ A.in1 (pyNext (.ref it) >>= _) _ _ s
    refine wpAny_bind (wpAny_pyNext_tuple_end (by simpa using hh) st (show s.heap.IsTuple l its.toArray from p) (by have := rv.length; simp; omega) fun h' eb => ?_)
    have I1 : Inv X pins σ H { s with heap := h' } := I.turned (t' := s.toks) (fun b o hb e => eb b o hb e) f0 f1 f3 f4 f5
    show wpAny _ A.in1 (Builtin.Dict.addKeywords d [] >>= _) _ _ _
    refine wpAny_bind (wpAny_pure (wpAny_pure (k _ ?_)))
    rw [List.take_length] at hd
    have eu : upd H d (.dK (mergeK [] ps)) = H := by
      funext b
      unfold upd
      by_cases hb : b = d
      · rw [if_pos hb, hb, hd]
      · rw [if_neg hb]
    rw [eu]
    exact I1
  | succ m ih =>
    intro i s H hm hi I hd hl hps hf st k
    have hlt : i < ps.length := by omega
    obtain ⟨its, rv, p, _⟩ := I.tuple (.of hl)
    obtain ⟨f0, f1, f2, f3, f4, f5⟩ := id hf
    have hpi : ps[i]? = some (ps[i].1, ps[i].2) := List.getElem?_eq_getElem hlt
    obtain ⟨q, hq, hH⟩ := hps i _ _ hpi
    obtain ⟨u, hu, ru⟩ := rv.get hq
    cases ru
    refine codeAny_builtin DP.entry_loop ?_
    rw [Around.under_plainId DP.plain_loop _]
    show wpAny _ A.in1 (pyNext (.ref it) >>= _) _ _ s
    refine wpAny_bind (wpAny_pyNext_tuple_item st (show s.heap.IsTuple l its.toArray from p) (x := .ref q) (by simpa using hu) fun h' st' sb => ?_)
    have I1 : Inv X pins σ H { s with heap := h' } := I.turned (t' := s.toks) (fun b o hb e => (sb.2 b hb).trans e) f0 f1 f3 f4 f5
    dsimp only
    refine wpAny_bind (wpAny_holding (wpAny_bind (wpAny_tryCatch (pair_items I1 hH fun a b ra rb => ?_))))
    dsimp only
    refine wpAny_holding ?_
    obtain ⟨z, hdS, vs, rel, dd⟩ := dk_of I1.hok hd
    have hz : vs.length ≤ sizeLine := by rw [← rel.length]; exact z
    have hl1 : (putK (mergeK [] (ps.take i)) ps[i].1 ps[i].2).length ≤ sizeLine := by
      have h1 := length_putK (mergeK [] (ps.take i)) ps[i].1 ps[i].2
      have h2 := mergeK_le (ps.take i) []
      rw [List.length_take] at h2
      simp only [List.length_nil] at h2
      omega
    refine wpAny_dictSet_pairs (hsz := hz) (kV_is ra) dd fun h2 dd' hs => ?_
    have he : ∃ q, h2.get? d = some q := let ⟨q, _, _, hq, _⟩ := dd'; ⟨q, hq⟩
    have I2 : Inv X pins σ (upd H d (.dK (putK (mergeK [] (ps.take i)) ps[i].1 ps[i].2))) { s with heap := h2, toks := s.toks + 1 } := d_write (s := { s with heap := h' }) (h' := h2) (t' := s.toks + 1) I1 (by rw [hd]; exact True.intro) hs he (dk_new hl1 hdS (rel.put ps[i].1 rb) dd')
    have hit : it ≠ d := fun z => by rw [z] at f0; rw [f0] at hd; cases hd
    have nd : ∀ (c : Addr) ys, H c = some (.tup ys) → c ≠ d := fun c ys e z => by rw [z, hd] at e; cases e
    refine wpAny_pure ⟨plainId_quiet DP.plain_loop _, ih (i + 1) _ _ (by omega) hlt I2 ?_ (by rw [upd_ne (nd l xs hl)]; exact hl) (fun j k v e => ?_) ⟨by rw [upd_ne hit]; exact f0, f1, f2, f3, f4, f5⟩ ?_ fun s' I' => k s' ?_⟩
    · rw [upd_same, ← mergeK_snoc, take_snoc hlt]
    · obtain ⟨c, c1, c2⟩ := hps j k v e
      exact ⟨c, c1, by rw [upd_ne (nd c _ c2)]; exact c2⟩
    · exact st'.at fun o e => (hs.2 it hit).trans e
    · rw [upd_upd] at I'
      exact I'
theorem call_dict_pairs (hcalm : X.calm = true) : CallR X (.type "dict") (fun vs H Q => ∃ l xs ps, vs = [.ref l] ∧ H l = some (.tup xs) ∧ xs.length = ps.length ∧ ps.length ≤ sizeLine ∧
    (∀ (j : Nat) k v, ps[j]? = some (k, v) → ∃ p, xs[j]? = some (.ref p) ∧ H p = some (.tup [kV k, v])) ∧ ∀ d, H d = none → Q (.ref d) (upd H d (.dK (mergeK [] ps)))) := by
  intro pins s σ H vs us Q I r h
  obtain ⟨l, xs, ps, rfl, hl, hlen, hsz, hps, q⟩ := h
  obtain ⟨u, rfl, ru⟩ := vals1 r
  cases ru
  have hh : X.A.handled = none := I.ok.hd hcalm
  refine callType_codes (Q₁ := fun obj s₁ => obj = .ref s.heap.objs.size ∧ s₁ = { s with heap := s.heap.push { cls := .type "dict", data := .dict #[] } }) PySem.F.kt_called_dict (PySem.F.kt_typeCall_dict_1 _) PySem.F.entry_dict_init (kt_code_dict_new _ ⟨rfl, rfl⟩) ?_
  rintro obj s₁ ⟨rfl, rfl⟩
  have hnew : (s.heap.push { cls := .type "dict", data := .dict #[] }).DictOf (mixKind X.prog X.w) s.heap.objs.size [] := Heap.DictOf.new s.heap
  have hfr : H s.heap.objs.size = none := I.hok.fresh (Nat.le_refl _)
  have I1 : Inv X pins σ (upd H s.heap.objs.size (.dK [])) { s with heap := s.heap.push { cls := .type "dict", data := .dict #[] } } := I.laid (a := s.heap.objs.size) (o := .dK []) (t' := s.toks) (fun _ _ q => Heap.get?_push_of_some _ q) (Nat.le_refl _) (dk_empty s.heap I.big)
  have hnl : ∀ (c : Addr) o, H c = some o → c ≠ s.heap.objs.size := fun c o e z => by rw [z, hfr] at e; cases e
  have hl1 : upd H s.heap.objs.size (.dK []) l = some (.tup xs) := by rw [upd_ne (hnl l _ hl)]; exact hl
  obtain ⟨its, rv, ht, _⟩ := I1.tuple (.of hl1)
  obtain ⟨o, ho, hc, n, hd⟩ := (show (s.heap.push { cls := .type "dict", data := .dict #[] }).IsTuple l its.toArray from ht)
  have hdn : o.dict = none := by
    obtain ⟨_, _, _, _, o', ho', hd'⟩ := (show ObjOk X.prog X.w _ (s.heap.push { cls := .type "dict", data := .dict #[] }) l (.tup xs) from I1.hok l _ hl1)
    rw [ho] at ho'
    cases ho'
    exact hd'
  refine ⟨hnew.typeIs, PySem.F.args_dict_init_2 _ _, ?_⟩
  unfold Builtin.«dict.__init__»
  refine wpAny_bind ?_
  unfold Builtin.Dict.selfAndRest
  refine wpAny_bind (wpAny_notOrdered_dict hnew.typeIs ?_)
  show wpAny _ _ (pure (s.heap.objs.size, [Value.ref l])) _ _ _
  refine wpAny_pure ?_
  show wpAny _ _ (Builtin.Dict.updateFrom "dict.__init__" s.heap.objs.size (.ref l) [] .none) _ _ _
  unfold Builtin.Dict.updateFrom
  refine wpAny_bind (wpAny_typeOf (T := "tuple") ⟨o, ho, hc⟩ ?_)
  rw [if_pos (by decide)]
  refine wpAny_bind (keys_of_tuple ho hc hd hdn (by simpa using hh) fun h2 tk hk => ?_)
  simp only [Option.isNone_none, if_true]
  have I2 : Inv X pins σ (upd H s.heap.objs.size (.dK [])) { s with heap := h2, toks := tk } := I1.kept (t' := tk) hk
  obtain ⟨its2, rv2, ht2, _⟩ := I2.tuple (.of hl1)
  refine wpAny_bind (wpAny_rule (wpAny_bind (wpAny_pyIter_tuple (show h2.IsTuple l its2.toArray from ht2) ?_)))
  refine wpAny_pure ⟨plainId_quiet DP.plain_loop _, ?_⟩
  have I3 : Inv X pins σ (upd H s.heap.objs.size (.dK [])) { s with heap := h2.push { cls := .type "tuple_iterator", data := .fields #[.ref l, .int 0 0] }, toks := tk } := I2.kept (t' := tk) fun b o e => Heap.get?_push_of_some _ e
  refine dict_loop (l := l) (it := h2.objs.size) (by simpa using hh) hlen hsz ps.length 0 _ _ (by omega) (Nat.zero_le _) I3 upd_same hl1 (fun j k v e => ?_) (I2.fpOk (Nat.le_refl _) (I2.hok.fresh (Nat.le_refl _))) ⟨_, Heap.get?_push_size _ rfl, rfl, rfl⟩ fun s' I' => ⟨rfl, ?_⟩
  · obtain ⟨c, c1, c2⟩ := hps j k v e
    exact ⟨c, c1, by rw [upd_ne (hnl c _ c2)]; exact c2⟩
  · rw [upd_upd] at I'
    exact ⟨.ref s.heap.objs.size, _, I', rfl, q _ hfr⟩
end
end L2
namespace DL
open PySem PySem.Spec PyProof.Rows L2

/-! ## Plain data, stores of lists and dicts, and programs over them (own text) -/
inductive D where
  | non
  | bl (b : Bool)
  | int (i : Int)
  | str (x : Str)
  | tup (xs : List D)
  | ref (n : Nat)
  | scr (ns : List Int)
  deriving Inhabited
inductive Ob where
  | lst (xs : List D)
  | dct (kvs : List (D × D))
  | fdct (kvs : List (D × D))
  | ins (C : Str) (fs : List (Str × D))
  deriving Inhabited
abbrev Sto := List Ob
abbrev En := List (Option D)
abbrev M (α : Type) := En → Sto → Option (α × Sto)
inductive Fl where
  | nx | rt (d : D) | bk | ct
abbrev MS := En → Sto → Option (Fl × En × Sto)

def ScrR (K : PySem.W.Frag) (H : Hp) (a : Addr) (ns : List Int) : Prop :=
  (∃ o, H a = some (.frz o (.lst (ns.map V.int)))) ∨
    ∃ (o : Obj) (its : Array Value) (n : Nat), K.lookup a = some o ∧ o.cls = .type "list" ∧ o.dict = none ∧ o.data = .seq its n ∧ its.size ≤ sizeLine ∧ Vals (ns.map V.int) its.toList
theorem ScrR.seq {K : PySem.W.Frag} {H : Hp} {a : Addr} {ns : List Int} (h : ScrR K H a ns) : SqL K H a (ns.map V.int) := by
  rcases h with ⟨o, h⟩ | h
  · exact .inl (.inr ⟨o, h⟩)
  · exact .inr h

mutual
def DR (K : PySem.W.Frag) (ρ : List Addr) (H : Hp) : D → V → Prop
  | .non, v => v = .non
  | .bl b, v => v = .bl b
  | .int i, v => v = .int i
  | .str x, v => v = .str x
  | .tup ds, v => ∃ a xs, v = .ref a ∧ H a = some (.tup xs) ∧ DsR K ρ H ds xs
  | .ref n, v => ∃ a, ρ[n]? = some a ∧ v = .ref a
  | .scr ns, v => ∃ a, v = .ref a ∧ ScrR K H a ns
def DsR (K : PySem.W.Frag) (ρ : List Addr) (H : Hp) : List D → List V → Prop
  | [], xs => xs = []
  | d :: ds, xs => ∃ x r, xs = x :: r ∧ DR K ρ H d x ∧ DsR K ρ H ds r
end

structure Ext (ρ : List Addr) (H : Hp) (ρ' : List Addr) (H' : Hp) : Prop where
  pre : ∀ (n : Nat) a, ρ[n]? = some a → ρ'[n]? = some a
  tup : ∀ a xs, H a = some (.tup xs) → H' a = some (.tup xs)
  frz : ∀ a o u, H a = some (.frz o u) → H' a = some (.frz o u)
theorem Ext.refl {ρ : List Addr} {H : Hp} : Ext ρ H ρ H := ⟨fun _ _ h => h, fun _ _ h => h, fun _ _ _ h => h⟩
theorem Ext.trans {ρ ρ1 ρ2 : List Addr} {H H1 H2 : Hp} (a : Ext ρ H ρ1 H1) (b : Ext ρ1 H1 ρ2 H2) : Ext ρ H ρ2 H2 :=
  ⟨fun n x h => b.pre n x (a.pre n x h), fun x xs h => b.tup x xs (a.tup x xs h), fun x o u h => b.frz x o u (a.frz x o u h)⟩
theorem Ext.new {ρ : List Addr} {H : Hp} {p : Addr} {o : HO} (hp : H p = none) : Ext ρ H ρ (upd H p o) :=
  ⟨fun _ _ h => h, fun a xs h => by rw [upd_ne (ne_of_none h hp)]; exact h, fun a u xs h => by rw [upd_ne (ne_of_none h hp)]; exact h⟩
theorem Ext.newRef {ρ : List Addr} {H : Hp} {p : Addr} {o : HO} (hp : H p = none) : Ext ρ H (ρ ++ [p]) (upd H p o) :=
  ⟨fun n a h => by rw [List.getElem?_append_left (List.getElem?_eq_some_iff.mp h).1]; exact h, (Ext.new (ρ := ρ) hp).tup, (Ext.new (ρ := ρ) hp).frz⟩
theorem Ext.upd {ρ : List Addr} {H : Hp} {p : Addr} {o o' : HO} (hp : H p = some o) (h1 : ∀ xs, o ≠ .tup xs) (h2 : ∀ ob u, o ≠ .frz ob u) : Ext ρ H ρ (L2.upd H p o') :=
  ⟨fun _ _ h => h, fun a xs h => by rw [upd_ne (ne_of h hp (Ne.symm (h1 xs)))]; exact h, fun a ob u h => by rw [upd_ne (ne_of h hp (Ne.symm (h2 ob u)))]; exact h⟩

/-- the same, but frozen things other than lists may change -/
structure Ext0 (ρ : List Addr) (H : Hp) (ρ' : List Addr) (H' : Hp) : Prop where
  pre : ∀ (n : Nat) a, ρ[n]? = some a → ρ'[n]? = some a
  tup : ∀ a xs, H a = some (.tup xs) → H' a = some (.tup xs)
  lst : ∀ a o xs, H a = some (.frz o (.lst xs)) → H' a = some (.frz o (.lst xs))
theorem Ext.weak {ρ ρ' : List Addr} {H H' : Hp} (e : Ext ρ H ρ' H') : Ext0 ρ H ρ' H' := ⟨e.pre, e.tup, fun a o xs h => e.frz a o _ h⟩
section
variable {K : PySem.W.Frag} {ρ ρ' : List Addr} {H H' : Hp}
theorem ScrR.mono {a : Addr} {ns : List Int} (e : Ext0 ρ H ρ' H') (h : ScrR K H a ns) : ScrR K H' a ns := by
  rcases h with ⟨o, h⟩ | h
  · exact .inl ⟨o, e.lst _ _ _ h⟩
  · exact .inr h
mutual
theorem DR.mono (e : Ext0 ρ H ρ' H') : ∀ (d : D) (v : V), DR K ρ H d v → DR K ρ' H' d v
  | .non, v, h => by unfold DR at h ⊢; exact h
  | .bl b, v, h => by unfold DR at h ⊢; exact h
  | .int i, v, h => by unfold DR at h ⊢; exact h
  | .str x, v, h => by unfold DR at h ⊢; exact h
  | .tup ds, v, h => by
    unfold DR at h ⊢
    obtain ⟨a, xs, h1, h2, h3⟩ := h
    exact ⟨a, xs, h1, e.tup a xs h2, DsR.mono e ds xs h3⟩
  | .ref n, v, h => by
    unfold DR at h ⊢
    obtain ⟨a, h1, h2⟩ := h
    exact ⟨a, e.pre n a h1, h2⟩
  | .scr ns, v, h => by
    unfold DR at h ⊢
    obtain ⟨a, h1, h2⟩ := h
    exact ⟨a, h1, h2.mono e⟩
theorem DsR.mono (e : Ext0 ρ H ρ' H') : ∀ (ds : List D) (xs : List V), DsR K ρ H ds xs → DsR K ρ' H' ds xs
  | [], xs, h => by unfold DsR at h ⊢; exact h
  | d :: ds, xs, h => by
    unfold DsR at h ⊢
    obtain ⟨x, r, h1, h2, h3⟩ := h
    exact ⟨x, r, h1, DR.mono e d x h2, DsR.mono e ds r h3⟩
end
theorem DR.up {d : D} {v : V} (h : DR K ρ H d v) (e : Ext ρ H ρ' H') : DR K ρ' H' d v := DR.mono e.weak d v h
theorem DsR.up {ds : List D} {xs : List V} (h : DsR K ρ H ds xs) (e : Ext ρ H ρ' H') : DsR K ρ' H' ds xs := DsR.mono e.weak ds xs h

theorem DsR.nil : DsR K ρ H [] [] := by unfold DsR; rfl
theorem DsR.cons {d : D} {ds : List D} {x : V} {xs : List V} (h : DR K ρ H d x) (t : DsR K ρ H ds xs) : DsR K ρ H (d :: ds) (x :: xs) := by
  unfold DsR; exact ⟨x, xs, rfl, h, t⟩
theorem DsR.length : ∀ {ds : List D} {xs : List V}, DsR K ρ H ds xs → ds.length = xs.length
  | [], xs, h => by unfold DsR at h; subst h; rfl
  | d :: ds, xs, h => by
    unfold DsR at h
    obtain ⟨x, r, h1, _, h3⟩ := h
    rw [h1, List.length_cons, List.length_cons, DsR.length h3]
theorem DsR.get : ∀ {ds : List D} {xs : List V} {i : Nat} {d : D}, DsR K ρ H ds xs → ds[i]? = some d → ∃ x, xs[i]? = some x ∧ DR K ρ H d x
  | [], _, _, _, _, e => by simp at e
  | c :: ds, xs, i, d, h, e => by
    unfold DsR at h
    obtain ⟨x, r, h1, h2, h3⟩ := h
    subst h1
    cases i with
    | zero => simp at e; subst e; exact ⟨x, rfl, h2⟩
    | succ i =>
      obtain ⟨y, e1, e2⟩ := DsR.get (i := i) h3 (by simpa using e)
      exact ⟨y, by simpa using e1, e2⟩
theorem DsR.append : ∀ {ds es : List D} {xs ys : List V}, DsR K ρ H ds xs → DsR K ρ H es ys → DsR K ρ H (ds ++ es) (xs ++ ys)
  | [], _, xs, _, h, t => by unfold DsR at h; subst h; exact t
  | d :: ds, _, xs, _, h, t => by
    unfold DsR at h
    obtain ⟨x, r, h1, h2, h3⟩ := h
    subst h1
    exact .cons h2 (DsR.append h3 t)
theorem DsR.drop : ∀ {ds : List D} {xs : List V} (n : Nat), DsR K ρ H ds xs → DsR K ρ H (ds.drop n) (xs.drop n)
  | [], xs, n, h => by
    have e : xs = [] := by unfold DsR at h; exact h
    subst e; simpa using h
  | d :: ds, xs, 0, h => by simpa using h
  | d :: ds, xs, n + 1, h => by
    unfold DsR at h
    obtain ⟨x, r, h1, h2, h3⟩ := h
    subst h1
    exact DsR.drop n h3
theorem DsR.take : ∀ {ds : List D} {xs : List V} (n : Nat), DsR K ρ H ds xs → DsR K ρ H (ds.take n) (xs.take n)
  | [], xs, n, h => by
    have e : xs = [] := by unfold DsR at h; exact h
    subst e; simpa using h
  | d :: ds, xs, 0, h => by simpa using DsR.nil
  | d :: ds, xs, n + 1, h => by
    unfold DsR at h
    obtain ⟨x, r, h1, h2, h3⟩ := h
    subst h1
    exact .cons h2 (DsR.take n h3)
theorem DsR.ints : ∀ (ns : List Int), DsR K ρ H (ns.map D.int) (ns.map V.int)
  | [] => .nil
  | n :: ns => .cons (by unfold DR; rfl) (DsR.ints ns)
theorem DR.flat_int {i : Int} : DR K ρ H (.int i) (.int i) := by unfold DR; rfl
theorem DR.flat_bl {b : Bool} : DR K ρ H (.bl b) (.bl b) := by unfold DR; rfl
theorem DR.flat_str {x : Str} : DR K ρ H (.str x) (.str x) := by unfold DR; rfl
theorem DR.flat_non : DR K ρ H .non .non := by unfold DR; rfl
theorem DR.of_int {i : Int} {v : V} (h : DR K ρ H (.int i) v) : v = .int i := by unfold DR at h; exact h
theorem DR.of_bl {b : Bool} {v : V} (h : DR K ρ H (.bl b) v) : v = .bl b := by unfold DR at h; exact h
theorem DR.of_str {x : Str} {v : V} (h : DR K ρ H (.str x) v) : v = .str x := by unfold DR at h; exact h
theorem DR.of_non {v : V} (h : DR K ρ H .non v) : v = .non := by unfold DR at h; exact h
theorem DR.of_tup {ds : List D} {v : V} (h : DR K ρ H (.tup ds) v) : ∃ a xs, v = .ref a ∧ H a = some (.tup xs) ∧ DsR K ρ H ds xs := by unfold DR at h; exact h
theorem DR.tup {ds : List D} {a : Addr} {xs : List V} (h : H a = some (.tup xs)) (t : DsR K ρ H ds xs) : DR K ρ H (.tup ds) (.ref a) := by unfold DR; exact ⟨a, xs, rfl, h, t⟩
theorem DR.of_ref {n : Nat} {v : V} (h : DR K ρ H (.ref n) v) : ∃ a, ρ[n]? = some a ∧ v = .ref a := by unfold DR at h; exact h
theorem DR.ref {n : Nat} {a : Addr} (h : ρ[n]? = some a) : DR K ρ H (.ref n) (.ref a) := by unfold DR; exact ⟨a, h, rfl⟩
theorem DR.of_scr {ns : List Int} {v : V} (h : DR K ρ H (.scr ns) v) : ∃ a, v = .ref a ∧ ScrR K H a ns := by unfold DR at h; exact h
end

/-! ### keys of dicts -/
def keyD : D → Option Key
  | .int i => some (.inl i)
  | .str x => some (.inr x)
  | _ => none
def keysD : List D → Option (List Key)
  | [] => some []
  | d :: ds => (keyD d).bind fun k => (keysD ds).map fun ks => k :: ks

def keysT : D → Option (List Key)
  | .tup ds => keysD ds
  | _ => none
/-- two keys are the same -/
def kEq (a b : D) : Bool := match keyD a, keyD b with
  | some x, some y => decide (x = y)
  | _, _ => match keysT a, keysT b with
    | some x, some y => decide (x = y)
    | _, _ => false
def dget (kvs : List (D × D)) (k : D) : Option D := (kvs.find? fun p => kEq p.1 k).map (·.2)
def dput (kvs : List (D × D)) (k v : D) : List (D × D) := if (kvs.any fun p => kEq p.1 k) = true then kvs.map (fun p => if kEq p.1 k = true then (p.1, v) else p) else kvs ++ [(k, v)]
def ddrop (kvs : List (D × D)) (k : D) : List (D × D) := kvs.filter fun p => !kEq p.1 k
/-- the keys of a dict and a further one are of one kind -/
def sameKind (kvs : List (D × D)) (k : D) : Bool := match keyD k with
  | some _ => kvs.all fun p => (keyD p.1).isSome
  | none => match keysT k with
    | some _ => kvs.all fun p => (keysT p.1).isSome
    | none => false
/-- the dict at n of the store, if it can be asked for the key k -/
def dctAt (S : Sto) (n : Nat) (k : D) : Option (List (D × D)) := match S[n]? with
  | some (.dct kvs) => if sameKind kvs k = true then some kvs else none
  | some (.fdct kvs) => if (keyD k).isSome = true then some kvs else none
  | _ => none
def isDct (S : Sto) (n : Nat) : Bool := match S[n]? with
  | some (.dct _) => true
  | some (.fdct _) => true
  | _ => false
def ObR (K : PySem.W.Frag) (ρ : List Addr) (H : Hp) (a : Addr) : Ob → Prop
  | .lst ds => ∃ xs, H a = some (.lst xs) ∧ DsR K ρ H ds xs
  | .dct kvs => (∃ (ks : List Key) (xs : List V), H a = some (.dK (ks.zip xs)) ∧ ks.length = xs.length ∧ kvs.map (fun p => keyD p.1) = ks.map some ∧ DsR K ρ H (kvs.map (·.2)) xs) ∨
      ∃ (ks : List (List Key)) (xs : List V), H a = some (.dT (ks.zip xs)) ∧ ks.length = xs.length ∧ kvs.map (fun p => keysT p.1) = ks.map some ∧ DsR K ρ H (kvs.map (·.2)) xs
  | .fdct kvs => ∃ (o : Obj) (ks : List Key) (xs : List V), H a = some (.frz o (.dK (ks.zip xs))) ∧ ks.length = xs.length ∧ kvs.map (fun p => keyD p.1) = ks.map some ∧ DsR K ρ H (kvs.map (·.2)) xs
  | .ins C fs => ∃ (Ca dx : Addr) (xs : List V), PySem.W.nsIn K mainGlobals C = some (some (.ref Ca)) ∧ H a = some (.ins Ca dx ((fs.map (·.1)).zip xs)) ∧ DsR K ρ H (fs.map (·.2)) xs
structure StR (K : PySem.W.Frag) (ρ : List Addr) (H : Hp) (S : Sto) : Prop where
  len : ρ.length = S.length
  inj : ∀ (i j : Nat) a, ρ[i]? = some a → ρ[j]? = some a → i = j
  ob : ∀ (n : Nat) ob, S[n]? = some ob → ∃ a, ρ[n]? = some a ∧ ObR K ρ H a ob
structure EnR (K : PySem.W.Frag) (ρ : List Addr) (H : Hp) (en : En) (σ : L2.St) : Prop where
  len : en.length = σ.length
  get : ∀ (i : Nat) d, en[i]? = some (some d) → ∃ x, σ[i]? = some (some x) ∧ DR K ρ H d x

section
variable {K : PySem.W.Frag} {ρ ρ' : List Addr} {H H' : Hp} {S : Sto} {en : En} {σ : L2.St}
theorem ObR.mono {a : Addr} {ob : Ob} (h : ObR K ρ H a ob) (e : Ext0 ρ H ρ' H') (he : H' a = H a) : ObR K ρ' H' a ob := by
  cases ob with
  | lst ds =>
    obtain ⟨xs, h1, h2⟩ := h
    exact ⟨xs, he.trans h1, DsR.mono e _ _ h2⟩
  | dct kvs =>
    rcases h with ⟨ks, xs, h1, h2, h3, h4⟩ | ⟨ks, xs, h1, h2, h3, h4⟩
    · exact .inl ⟨ks, xs, he.trans h1, h2, h3, DsR.mono e _ _ h4⟩
    · exact .inr ⟨ks, xs, he.trans h1, h2, h3, DsR.mono e _ _ h4⟩
  | fdct kvs =>
    obtain ⟨o, ks, xs, h1, h2, h3, h4⟩ := h
    exact ⟨o, ks, xs, he.trans h1, h2, h3, DsR.mono e _ _ h4⟩
  | ins C fs =>
    obtain ⟨Ca, dx, xs, h1, h2, h3⟩ := h
    exact ⟨Ca, dx, xs, h1, he.trans h2, DsR.mono e _ _ h3⟩
theorem ObR.there {a : Addr} {ob : Ob} (h : ObR K ρ H a ob) : ∃ o, H a = some o := by
  cases ob with
  | lst ds => obtain ⟨xs, h1, _⟩ := h; exact ⟨_, h1⟩
  | dct kvs => rcases h with ⟨ks, xs, h1, _⟩ | ⟨ks, xs, h1, _⟩ <;> exact ⟨_, h1⟩
  | fdct kvs => obtain ⟨o, ks, xs, h1, _⟩ := h; exact ⟨_, h1⟩
  | ins C fs => obtain ⟨Ca, dx, xs, _, h1, _⟩ := h; exact ⟨_, h1⟩
theorem ObR.tracked {a : Addr} {ob : Ob} (h : ObR K ρ H a ob) (hf : ∀ kvs, ob ≠ .fdct kvs) : ∃ o, H a = some o ∧ (∀ xs, o ≠ .tup xs) ∧ ∀ ob u, o ≠ .frz ob u := by
  cases ob with
  | lst ds =>
    obtain ⟨xs, h1, _⟩ := h
    exact ⟨_, h1, fun _ z => (nomatch z), fun _ _ z => (nomatch z)⟩
  | dct kvs =>
    rcases h with ⟨ks, xs, h1, _⟩ | ⟨ks, xs, h1, _⟩
    · exact ⟨_, h1, fun _ z => (nomatch z), fun _ _ z => (nomatch z)⟩
    · exact ⟨_, h1, fun _ z => (nomatch z), fun _ _ z => (nomatch z)⟩
  | fdct kvs => exact absurd rfl (hf kvs)
  | ins C fs =>
    obtain ⟨Ca, dx, xs, _, h1, _⟩ := h
    exact ⟨_, h1, fun _ z => (nomatch z), fun _ _ z => (nomatch z)⟩
theorem StR.obj (R : StR K ρ H S) {n : Nat} {a : Addr} (h : ρ[n]? = some a) : ∃ ob, S[n]? = some ob ∧ ObR K ρ H a ob := by
  have hl : n < S.length := by rw [← R.len]; exact (List.getElem?_eq_some_iff.mp h).1
  obtain ⟨a', h1, h2⟩ := R.ob n S[n] (List.getElem?_eq_some_iff.mpr ⟨hl, rfl⟩)
  rw [h] at h1; cases h1
  exact ⟨S[n], List.getElem?_eq_some_iff.mpr ⟨hl, rfl⟩, h2⟩
theorem StR.mono (R : StR K ρ H S) (e : Ext0 ρ H ρ H') (he : ∀ (n : Nat) a, ρ[n]? = some a → H' a = H a) : StR K ρ H' S :=
  ⟨R.len, R.inj, fun n ob h => by
    obtain ⟨a, h1, h2⟩ := R.ob n ob h
    exact ⟨a, h1, h2.mono e (he n a h1)⟩⟩
theorem StR.fresh (R : StR K ρ H S) {p : Addr} (hp : H p = none) : ∀ (n : Nat) a, ρ[n]? = some a → a ≠ p := fun n a h z => by
  obtain ⟨ob, _, h2⟩ := R.obj h
  obtain ⟨o, h3⟩ := h2.there
  rw [z, hp] at h3; cases h3
/-- something new that is no store's object -/
theorem StR.new (R : StR K ρ H S) {p : Addr} {o : HO} (hp : H p = none) : StR K ρ (upd H p o) S :=
  R.mono (Ext.new hp).weak fun n a h => upd_ne (R.fresh hp n a h)
/-- a new object of the store -/
theorem StR.push (R : StR K ρ H S) {p : Addr} {o : HO} {ob : Ob} (hp : H p = none) (h : ObR K (ρ ++ [p]) (upd H p o) p ob) : StR K (ρ ++ [p]) (upd H p o) (S ++ [ob]) := by
  refine ⟨by simp [R.len], fun i j a h1 h2 => ?_, fun n ob' e => ?_⟩
  · have key : ∀ (i : Nat), (ρ ++ [p])[i]? = some a → (i < ρ.length ∧ ρ[i]? = some a) ∨ (i = ρ.length ∧ a = p) := fun i e => by
      by_cases hi : i < ρ.length
      · rw [List.getElem?_append_left hi] at e; exact .inl ⟨hi, e⟩
      · rw [List.getElem?_append_right (Nat.le_of_not_lt hi)] at e
        have hl := (List.getElem?_eq_some_iff.mp e).1
        simp at hl
        have e0 : i - ρ.length = 0 := by omega
        rw [e0] at e; simp at e
        exact .inr ⟨by omega, e.symm⟩
    rcases key i h1 with ⟨_, q1⟩ | ⟨q1, r1⟩ <;> rcases key j h2 with ⟨_, q2⟩ | ⟨q2, r2⟩
    · exact R.inj i j a q1 q2
    · exact absurd r2 (R.fresh hp i a q1)
    · exact absurd r1 (R.fresh hp j a q2)
    · rw [q1, q2]
  · by_cases hn : n < S.length
    · rw [List.getElem?_append_left hn] at e
      obtain ⟨a, h1, h2⟩ := R.ob n ob' e
      exact ⟨a, by rw [List.getElem?_append_left (by rw [R.len]; exact hn)]; exact h1, h2.mono (Ext.newRef hp).weak (upd_ne (R.fresh hp n a h1))⟩
    · rw [List.getElem?_append_right (Nat.le_of_not_lt hn)] at e
      have hl := (List.getElem?_eq_some_iff.mp e).1
      simp at hl
      have e0 : n - S.length = 0 := by omega
      rw [e0] at e; simp at e
      subst e
      refine ⟨p, ?_, h⟩
      rw [List.getElem?_append_right (by rw [R.len]; omega), R.len, e0]
      rfl
/-- an object of the store changes -/
theorem StR.set0 (R : StR K ρ H S) {n : Nat} {p : Addr} {o : HO} {ob : Ob} (hn : ρ[n]? = some p) (X : Ext0 ρ H ρ (upd H p o)) (h : ObR K ρ (upd H p o) p ob) : StR K ρ (upd H p o) (S.set n ob) := by
  obtain ⟨ob0, e0, r0⟩ := R.obj hn
  refine ⟨by simpa using R.len, R.inj, fun m ob' e => ?_⟩
  by_cases hm : m = n
  · subst hm
    rw [List.getElem?_set_self (List.getElem?_eq_some_iff.mp e0).1] at e
    cases e
    exact ⟨p, hn, h⟩
  · rw [List.getElem?_set_ne (Ne.symm hm)] at e
    obtain ⟨a, h1, h2⟩ := R.ob m ob' e
    refine ⟨a, h1, h2.mono X (upd_ne ?_)⟩
    rintro rfl
    exact hm (R.inj m n _ h1 hn)
theorem StR.set (R : StR K ρ H S) {n : Nat} {p : Addr} {o : HO} {ob : Ob} (hn : ρ[n]? = some p) (hf : ∀ kvs, S[n]? ≠ some (.fdct kvs)) (h : ObR K ρ (upd H p o) p ob) : StR K ρ (upd H p o) (S.set n ob) ∧ Ext ρ H ρ (upd H p o) := by
  obtain ⟨ob0, e0, r0⟩ := R.obj hn
  obtain ⟨o0, t1, t2, t3⟩ := r0.tracked fun kvs z => hf kvs (by rw [e0, z])
  have X : Ext ρ H ρ (upd H p o) := Ext.upd t1 t2 t3
  exact ⟨R.set0 hn X.weak h, X⟩
/-- a dict is frozen, and thawed -/
theorem StR.thaw (R : StR K ρ H S) {n : Nat} {a : Addr} {kvs : List (D × D)} (hn : ρ[n]? = some a) (e : S[n]? = some (.fdct kvs)) : ∃ (o : Obj) (tab : List (Key × V)), H a = some (.frz o (.dK tab)) ∧ StR K ρ (upd H a (.dK tab)) (S.set n (.dct kvs)) ∧ Ext0 ρ H ρ (upd H a (.dK tab)) := by
  obtain ⟨ob, e1, r⟩ := R.obj hn
  rw [e] at e1
  cases e1
  obtain ⟨o, ks, xs, h1, h2, h3, h4⟩ := r
  have X : Ext0 ρ H ρ (upd H a (.dK (ks.zip xs))) := ⟨fun _ _ h => h, fun b ys hb => by rw [upd_ne (ne_of hb h1 (fun z => nomatch z))]; exact hb, fun b o' ys hb => by rw [upd_ne (ne_of hb h1 (fun z => by injection z with _ z2; cases z2))]; exact hb⟩
  exact ⟨o, _, h1, R.set0 hn X (.inl ⟨ks, xs, upd_same, h2, h3, DsR.mono X _ _ h4⟩), X⟩
theorem EnR.up0 (E : EnR K ρ H en σ) (e : Ext0 ρ H ρ' H') : EnR K ρ' H' en σ := ⟨E.len, fun i d h => by
  obtain ⟨x, h1, h2⟩ := E.get i d h
  exact ⟨x, h1, DR.mono e _ _ h2⟩⟩
theorem EnR.up (E : EnR K ρ H en σ) (e : Ext ρ H ρ' H') : EnR K ρ' H' en σ := ⟨E.len, fun i d h => by
  obtain ⟨x, h1, h2⟩ := E.get i d h
  exact ⟨x, h1, h2.up e⟩⟩
theorem EnR.set (E : EnR K ρ H en σ) {i : Nat} {d : D} {x : V} (h : DR K ρ H d x) : EnR K ρ H (en.set i (some d)) (σ.set i (some x)) := ⟨by simpa using E.len, fun j c e => by
  by_cases hj : j = i
  · subst hj
    have hl : j < en.length := by
      have := (List.getElem?_eq_some_iff.mp e).1
      simpa using this
    rw [List.getElem?_set_self hl] at e
    cases e
    exact ⟨x, by rw [List.getElem?_set_self (by rw [← E.len]; exact hl)], h⟩
  · rw [List.getElem?_set_ne (Ne.symm hj)] at e
    obtain ⟨y, h1, h2⟩ := E.get j c e
    exact ⟨y, by rw [List.getElem?_set_ne (Ne.symm hj)]; exact h1, h2⟩⟩
end

/-! ### the judgements -/
def tM (K : PySem.W.Frag) (m : M D) : TE := fun σ H Q => ∃ ρ en S v S', EnR K ρ H en σ ∧ StR K ρ H S ∧ m en S = some (v, S') ∧ ∀ x ρ' H', Ext ρ H ρ' H' → StR K ρ' H' S' → DR K ρ' H' v x → Q x H'
def tMT (K : PySem.W.Frag) (m : M Bool) : TT := fun σ H Q => ∃ ρ en S b S', EnR K ρ H en σ ∧ StR K ρ H S ∧ m en S = some (b, S') ∧ ∀ ρ' H', Ext ρ H ρ' H' → StR K ρ' H' S' → Q b H'
def tMA (K : PySem.W.Frag) (m : M (List D)) : TA := fun σ H Q => ∃ ρ en S ds S', EnR K ρ H en σ ∧ StR K ρ H S ∧ m en S = some (ds, S') ∧ ∀ xs ρ' H', Ext ρ H ρ' H' → StR K ρ' H' S' → DsR K ρ' H' ds xs → Q xs H'
/-- a list or tuple that is only read on the spot -/
def tMQ (K : PySem.W.Frag) (m : M (List D)) : TE := fun σ H Q => ∃ ρ en S ds S', EnR K ρ H en σ ∧ StR K ρ H S ∧ m en S = some (ds, S') ∧
  ∀ a xs ρ' H', Ext ρ H ρ' H' → StR K ρ' H' S' → (SqL K H' a xs ∨ SqT K H' a xs) → DsR K ρ' H' ds xs → Q (.ref a) H'
def tMS (K : PySem.W.Frag) (m : MS) : TS := fun D σ H => ∃ ρ en S f en' S', EnR K ρ H en σ ∧ StR K ρ H S ∧ m en S = some (f, en', S') ∧ ∀ ρ' H' σ', Ext ρ H ρ' H' → StR K ρ' H' S' → EnR K ρ' H' en' σ' →
  match f with
  | .nx => D.nx σ' H'
  | .rt d => ∀ x, DR K ρ' H' d x → D.rt x H'
  | .bk => D.bk σ' H'
  | .ct => D.ct σ' H'
def rD (K : PySem.W.Frag) (g : D → D → Sto → Option (D × Sto)) : R2 := fun x y H Q => ∃ ρ S d1 d2 v S', StR K ρ H S ∧ DR K ρ H d1 x ∧ DR K ρ H d2 y ∧ g d1 d2 S = some (v, S') ∧
  ∀ z ρ' H', Ext ρ H ρ' H' → StR K ρ' H' S' → DR K ρ' H' v z → Q z H'
def rDs (K : PySem.W.Frag) (g : List D → Sto → Option (D × Sto)) : List V → Hp → VK → Prop := fun xs H Q => ∃ ρ S ds v S', StR K ρ H S ∧ DsR K ρ H ds xs ∧ g ds S = some (v, S') ∧
  ∀ z ρ' H', Ext ρ H ρ' H' → StR K ρ' H' S' → DR K ρ' H' v z → Q z H'

def SE (X : Cx) (e : Expr) (m : M D) : Prop := PE X e (tM X.K m)
def ST (X : Cx) (e : Expr) (m : M Bool) : Prop := PT X e (tMT X.K m)
def SW (X : Cx) (e : Expr) (m : M Bool) : Prop := PW X e (tMT X.K m)
def SA (X : Cx) (es : List Expr) (m : M (List D)) : Prop := PA X es (tMA X.K m)
def SQ (X : Cx) (e : Expr) (m : M (List D)) : Prop := PE X e (tMQ X.K m)
def SS (X : Cx) (st : Stmt) (m : MS) : Prop := PS X st (tMS X.K m)
def SB (X : Cx) (st : List Stmt) (m : MS) : Prop := PSs X st (tMS X.K m)
def OpD (X : Cx) (f : Value → Value → Sem Value) (g : D → D → Sto → Option (D × Sto)) : Prop := OpR X f (rD X.K g)
def CallD (X : Cx) (f : Value) (g : List D → Sto → Option (D × Sto)) : Prop := CallR X f (rDs X.K g)

section
variable {X : Cx} {e a b c : Expr} {es : List Expr} {pos : Pos}
theorem pe_imp {t t' : TE} (h : PE X e t) (i : ∀ σ H Q, t' σ H Q → t σ H Q) : PE X e t' := fun pins s σ H Q I q => h pins s σ H Q I (i σ H Q q)
theorem pt_imp {t t' : TT} (h : PT X e t) (i : ∀ σ H Q, t' σ H Q → t σ H Q) : PT X e t' := fun pins s σ H Q I q => h pins s σ H Q I (i σ H Q q)
theorem pw_imp {t t' : TT} (h : PW X e t) (i : ∀ σ H Q, t' σ H Q → t σ H Q) : PW X e t' := fun whole pins s σ H Q I q => h whole pins s σ H Q I (i σ H Q q)
theorem pa_imp {t t' : TA} (h : PA X es t) (i : ∀ σ H Q, t' σ H Q → t σ H Q) : PA X es t' := fun p pins s σ H Q I q => h p pins s σ H Q I (i σ H Q q)
theorem ps_imp {st : Stmt} {t t' : TS} (h : PS X st t) (i : ∀ D σ H, t' D σ H → t D σ H) : PS X st t' := fun pins s σ H D I q => h pins s σ H D I (i D σ H q)
theorem pss_imp {st : List Stmt} {t t' : TS} (h : PSs X st t) (i : ∀ D σ H, t' D σ H → t D σ H) : PSs X st t' := fun pins s σ H D I q => h pins s σ H D I (i D σ H q)
theorem opr_imp {f : Value → Value → Sem Value} {r r' : R2} (h : OpR X f r) (i : ∀ x y H Q, r' x y H Q → r x y H Q) : OpR X f r' := fun pins s σ H x y v u Q I rx ry q => h pins s σ H x y v u Q I rx ry (i x y H Q q)
theorem callr_imp {f : Value} {r r' : List V → Hp → VK → Prop} (h : CallR X f r) (i : ∀ xs H Q, r' xs H Q → r xs H Q) : CallR X f r' := fun pins s σ H xs us Q I rx q => h pins s σ H xs us Q I rx (i xs H Q q)

/-! ### names, constants -/
def mVar (i : Nat) : M D := fun en S => (en[i]?.getD none).map fun d => (d, S)
def mCon (d : D) : M D := fun _ S => some (d, S)
theorem se_var {x : Str} (i : Nat) (h : PE X (.Name x pos) (tVar i)) : SE X (.Name x pos) (mVar i) := by
  refine pe_imp h ?_
  rintro σ H Q ⟨ρ, en, S, v, S', E, R, e, k⟩
  have e' : en[i]? = some (some v) ∧ S = S' := by
    unfold mVar at e
    cases q : en[i]? with
    | none => rw [q] at e; cases e
    | some o =>
      rw [q] at e
      cases o with
      | none => cases e
      | some d => cases e; exact ⟨rfl, rfl⟩
  obtain ⟨x, h1, h2⟩ := E.get i v e'.1
  exact ⟨x, h1, k x ρ H Ext.refl (e'.2 ▸ R) h2⟩
theorem se_con {d : D} {v : V} (h : PE X e (tC v)) (hd : ∀ ρ H, DR X.K ρ H d v) : SE X e (mCon d) := by
  refine pe_imp h ?_
  rintro σ H Q ⟨ρ, en, S, v', S', E, R, e, k⟩
  cases e
  exact k v ρ H Ext.refl R (hd ρ H)
theorem se_int {i j} : SE X (.Constant (.int i) j pos) (mCon (.int i)) := se_con pe_int fun _ _ => .flat_int
theorem se_bl {i j} : SE X (.Constant (.bool i) j pos) (mCon (.bl i)) := se_con pe_bl fun _ _ => .flat_bl
theorem se_str {i j} : SE X (.Constant (.str i) j pos) (mCon (.str i)) := se_con pe_str fun _ _ => .flat_str
theorem se_non {j} : SE X (.Constant .none j pos) (mCon .non) := se_con pe_non fun _ _ => .flat_non
theorem se_glob {x : Str} {i : Int} (hg : Gl X x) (hm : ∃ t, X.mg x = some (.int i t)) (hd : (x == ("__debug__" : Str)) = false := by decide) : SE X (.Name x pos) (mCon (.int i)) := by
  obtain ⟨t, hm⟩ := hm
  exact se_con (pe_glob (v := V.int i) hg hm ⟨t, rfl⟩ hd) fun _ _ => .flat_int

/-! ### operations on two values -/
def mOp (g : D → D → Sto → Option (D × Sto)) (a b : M D) : M D := fun en S => (a en S).bind fun p => (b en p.2).bind fun q => g p.1 q.1 q.2
theorem op_read {K : PySem.W.Frag} {g : D → D → Sto → Option (D × Sto)} {ma mb : M D} {σ : L2.St} {H : Hp} {Q : VK} (h : tM K (mOp g ma mb) σ H Q) : tOp (rD K g) (tM K ma) (tM K mb) σ H Q := by
  obtain ⟨ρ, en, S, v, S', E, R, e, k⟩ := h
  unfold mOp at e
  obtain ⟨p, e1, e⟩ := Option.bind_eq_some_iff.mp e
  obtain ⟨q, e2, e3⟩ := Option.bind_eq_some_iff.mp e
  refine ⟨ρ, en, S, p.1, p.2, E, R, e1, fun x ρ1 H1 X1 R1 d1 => ⟨ρ1, en, p.2, q.1, q.2, E.up X1, R1, e2, fun y ρ2 H2 X2 R2 d2 => ⟨ρ2, q.2, p.1, q.1, v, S', R2, d1.up X2, d2, e3, fun z ρ3 H3 X3 R3 d3 => ?_⟩⟩⟩
  exact k z ρ3 H3 ((X1.trans X2).trans X3) R3 d3
theorem se_op {op : Operator} {g : D → D → Sto → Option (D × Sto)} {ma mb : M D} (ho : OpD X (binaryOp op) g) (ha : SE X a ma) (hb : SE X b mb) : SE X (.BinOp a op b pos) (mOp g ma mb) := pe_imp (pe_op ho ha hb) fun _ _ _ => op_read
theorem se_cmp {op : CmpOp} {g : D → D → Sto → Option (D × Sto)} {ma mb : M D} (ho : OpD X (compareOp op) g) (ha : SE X a ma) (hb : SE X b mb) (hm : behindInMarks op b = false) : SE X (.Compare a [op] [b] pos) (mOp g ma mb) :=
  pe_imp (pe_cmpR ho ha hb hm) fun _ _ _ => op_read
/-- a value that is a truth, as a test -/
def mT (m : M D) : M Bool := fun en S => (m en S).bind fun p => match p.1 with | .bl b => some (b, p.2) | _ => none
theorem mT_some {m : M D} {en : En} {S S' : Sto} {b : Bool} (h : mT m en S = some (b, S')) : m en S = some (.bl b, S') := by
  unfold mT at h
  obtain ⟨p, e1, e2⟩ := Option.bind_eq_some_iff.mp h
  obtain ⟨d, S1⟩ := p
  cases d <;> first | cases e2; exact e1 | cases e2
theorem test_read {K : PySem.W.Frag} {m : M D} {t : TE} (i : ∀ σ H Q, tM K m σ H Q → t σ H Q) {σ : L2.St} {H : Hp} {Q : Bool → Hp → Prop} (h : tMT K (mT m) σ H Q) : tTest t σ H Q := by
  obtain ⟨ρ, en, S, b, S', E, R, e, k⟩ := h
  refine i σ H _ ⟨ρ, en, S, .bl b, S', E, R, mT_some e, fun x ρ' H' X1 R1 d1 => ⟨b, d1.of_bl, k ρ' H' X1 R1⟩⟩
theorem st_cmp {op : CmpOp} {g : D → D → Sto → Option (D × Sto)} {ma mb : M D} (ho : OpD X (compareOp op) g) (ha : SE X a ma) (hb : SE X b mb) (hm : behindInMarks op b = false) : ST X (.Compare a [op] [b] pos) (mT (mOp g ma mb)) :=
  pt_imp (pt_cmpR ho ha hb hm) fun _ _ _ h => test_read (fun _ _ _ => op_read) h
def mChain (g g' : D → D → Sto → Option (D × Sto)) (a b c : M D) : M D := fun en S => (a en S).bind fun p => (b en p.2).bind fun q => (g p.1 q.1 q.2).bind fun r => match r.1 with
  | .bl true => (c en r.2).bind fun w => g' q.1 w.1 w.2
  | .bl false => some (.bl false, r.2)
  | _ => none
theorem chain_read {K : PySem.W.Frag} {g g' : D → D → Sto → Option (D × Sto)} {ma mb mc : M D} {σ : L2.St} {H : Hp} {Q : VK} (h : tM K (mChain g g' ma mb mc) σ H Q) : tChain (rD K g) (rD K g') (tM K ma) (tM K mb) (tM K mc) σ H Q := by
  obtain ⟨ρ, en, S, v, S', E, R, e, k⟩ := h
  unfold mChain at e
  obtain ⟨p, e1, e⟩ := Option.bind_eq_some_iff.mp e
  obtain ⟨q, e2, e⟩ := Option.bind_eq_some_iff.mp e
  obtain ⟨r, e3, e⟩ := Option.bind_eq_some_iff.mp e
  refine ⟨ρ, en, S, p.1, p.2, E, R, e1, fun x ρ1 H1 X1 R1 d1 => ⟨ρ1, en, p.2, q.1, q.2, E.up X1, R1, e2, fun y ρ2 H2 X2 R2 d2 => ⟨ρ2, q.2, p.1, q.1, r.1, r.2, R2, d1.up X2, d2, e3, fun z ρ3 H3 X3 R3 d3 => ?_⟩⟩⟩
  obtain ⟨rd, rS⟩ := r
  dsimp only at e d3 R3
  cases rd with
  | bl tb =>
    refine ⟨tb, d3.of_bl, ?_⟩
    cases tb with
    | true =>
      rw [if_pos rfl]
      dsimp only at e
      obtain ⟨w, e4, e5⟩ := Option.bind_eq_some_iff.mp e
      refine ⟨ρ3, en, rS, w.1, w.2, ((E.up X1).up X2).up X3, R3, e4, fun u ρ4 H4 X4 R4 d4 => ⟨ρ4, w.2, q.1, w.1, v, S', R4, (d2.up X3).up X4, d4, e5, fun t ρ5 H5 X5 R5 d5 => ?_⟩⟩
      exact k t ρ5 H5 ((((X1.trans X2).trans X3).trans X4).trans X5) R5 d5
    | false =>
      rw [if_neg Bool.false_ne_true]
      dsimp only at e
      cases e
      exact k _ ρ3 H3 ((X1.trans X2).trans X3) R3 .flat_bl
  | _ => cases e
theorem se_chain {op op' : CmpOp} {g g' : D → D → Sto → Option (D × Sto)} {ma mb mc : M D} (ho : OpD X (compareOp op) g) (ho' : OpD X (compareOp op') g') (ha : SE X a ma) (hb : SE X b mb) (hc : SE X c mc)
    (hm : lastMarks [op, op'] [b, c] = false := by with_unfolding_all rfl) : SE X (.Compare a [op, op'] [b, c] pos) (mChain g g' ma mb mc) := pe_imp (pe_chain ho ho' ha hb hc hm) fun _ _ _ => chain_read
theorem st_chain {op op' : CmpOp} {g g' : D → D → Sto → Option (D × Sto)} {ma mb mc : M D} (ho : OpD X (compareOp op) g) (ho' : OpD X (compareOp op') g') (ha : SE X a ma) (hb : SE X b mb) (hc : SE X c mc)
    (hm : lastMarks [op, op'] [b, c] = false := by with_unfolding_all rfl) : ST X (.Compare a [op, op'] [b, c] pos) (mT (mChain g g' ma mb mc)) := pt_imp (pt_chain ho ho' ha hb hc hm) fun _ _ _ h => test_read (fun _ _ _ => chain_read) h

/-! ### and, or, not, if-else -/
def mAnd (a b : M Bool) : M Bool := fun en S => (a en S).bind fun p => if p.1 then b en p.2 else some (false, p.2)
def mOr (a b : M Bool) : M Bool := fun en S => (a en S).bind fun p => if p.1 then some (true, p.2) else b en p.2
def mNot (a : M Bool) : M Bool := fun en S => (a en S).map fun p => (!p.1, p.2)
theorem and_read {K : PySem.W.Frag} {ma mb : M Bool} {σ : L2.St} {H : Hp} {Q : Bool → Hp → Prop} (h : tMT K (mAnd ma mb) σ H Q) : tAnd (tMT K ma) (tMT K mb) σ H Q := by
  obtain ⟨ρ, en, S, v, S', E, R, e, k⟩ := h
  unfold mAnd at e
  obtain ⟨p, e1, e⟩ := Option.bind_eq_some_iff.mp e
  refine ⟨ρ, en, S, p.1, p.2, E, R, e1, fun ρ1 H1 X1 R1 => ?_⟩
  by_cases hp : p.1 = true
  · rw [if_pos hp] at e ⊢
    exact ⟨ρ1, en, p.2, v, S', E.up X1, R1, e, fun ρ2 H2 X2 R2 => k ρ2 H2 (X1.trans X2) R2⟩
  · rw [if_neg hp] at e ⊢
    cases e
    exact k ρ1 H1 X1 R1
theorem or_read {K : PySem.W.Frag} {ma mb : M Bool} {σ : L2.St} {H : Hp} {Q : Bool → Hp → Prop} (h : tMT K (mOr ma mb) σ H Q) : tOr (tMT K ma) (tMT K mb) σ H Q := by
  obtain ⟨ρ, en, S, v, S', E, R, e, k⟩ := h
  unfold mOr at e
  obtain ⟨p, e1, e⟩ := Option.bind_eq_some_iff.mp e
  refine ⟨ρ, en, S, p.1, p.2, E, R, e1, fun ρ1 H1 X1 R1 => ?_⟩
  by_cases hp : p.1 = true
  · rw [if_pos hp] at e ⊢
    cases e
    exact k ρ1 H1 X1 R1
  · rw [if_neg hp] at e ⊢
    exact ⟨ρ1, en, p.2, v, S', E.up X1, R1, e, fun ρ2 H2 X2 R2 => k ρ2 H2 (X1.trans X2) R2⟩
theorem sw_and1 {ma : M Bool} (ha : ST X a ma) : SW X (.BoolOp .And [a] pos) ma := pw_and1 ha
theorem sw_or1 {ma : M Bool} (ha : ST X a ma) : SW X (.BoolOp .Or [a] pos) ma := pw_or1 ha
theorem sw_and {rest : List Expr} {ma mb : M Bool} (ha : ST X a ma) (hb : SW X (.BoolOp .And (b :: rest) pos) mb) : SW X (.BoolOp .And (a :: b :: rest) pos) (mAnd ma mb) := pw_imp (pw_and ha hb) fun _ _ _ => and_read
theorem sw_or {rest : List Expr} {ma mb : M Bool} (ha : ST X a ma) (hb : SW X (.BoolOp .Or (b :: rest) pos) mb) : SW X (.BoolOp .Or (a :: b :: rest) pos) (mOr ma mb) := pw_imp (pw_or ha hb) fun _ _ _ => or_read
theorem st_w {m : M Bool} (h : SW X e m) : ST X e m := PW.pt h
theorem st_not {ma : M Bool} (ha : ST X a ma) : ST X (.UnaryOp .Not a pos) (mNot ma) := by
  refine pt_imp (pt_not ha) ?_
  rintro σ H Q ⟨ρ, en, S, v, S', E, R, e, k⟩
  unfold mNot at e
  obtain ⟨p, e1, e2⟩ := Option.map_eq_some_iff.mp e
  cases e2
  exact ⟨ρ, en, S, p.1, p.2, E, R, e1, fun ρ1 H1 X1 R1 => k ρ1 H1 X1 R1⟩
/-! ### truth of a value -/
def truD : D → Sto → Option Bool
  | .non, _ => some false
  | .bl b, _ => some b
  | .int i, _ => some (i != 0)
  | .str x, _ => if x.length ≤ sizeLine then some ((x.length : Int) != 0) else none
  | .tup ds, _ => some (!ds.isEmpty)
  | .ref n, S => match S[n]? with
    | some (.lst ds) => some (!ds.isEmpty)
    | some (.dct kvs) => some (!kvs.isEmpty)
    | some (.fdct kvs) => some (!kvs.isEmpty)
    | _ => none
  | .scr ns, _ => some (!ns.isEmpty)
theorem truD_ok {K : PySem.W.Frag} {ρ : List Addr} {H : Hp} {S : Sto} {d : D} {x : V} {b : Bool} (R : StR K ρ H S) (h : DR K ρ H d x) (e : truD d S = some b) : TruV' K x H b := by
  cases d with
  | non => rw [h.of_non]; cases e; exact .inl rfl
  | bl t => rw [h.of_bl]; cases e; exact .inl rfl
  | int i => rw [h.of_int]; cases e; exact .inl rfl
  | str y =>
    rw [h.of_str]
    dsimp only [truD] at e
    split at e
    · cases e; exact .inl ⟨by assumption, rfl⟩
    · cases e
  | tup ds =>
    obtain ⟨a, xs, rfl, h1, h2⟩ := h.of_tup
    cases e
    refine .inl (.inr (.inl ⟨xs, .of h1, ?_⟩))
    cases ds <;> cases xs <;> first | rfl | (have := h2.length; simp at this)
  | ref n =>
    obtain ⟨a, h1, rfl⟩ := h.of_ref
    obtain ⟨ob, e1, r⟩ := R.obj h1
    dsimp only [truD] at e
    rw [e1] at e
    cases ob with
    | lst ds =>
      cases e
      obtain ⟨xs, h2, h3⟩ := r
      refine .inl (.inl ⟨xs, .of h2, ?_⟩)
      cases ds <;> cases xs <;> first | rfl | (have := h3.length; simp at this)
    | dct kvs =>
      cases e
      rcases r with ⟨ks, xs, h2, h3, h4, h5⟩ | ⟨ks, xs, h2, h3, h4, h5⟩
      · refine .inl (.inr (.inr ⟨_, h2, ?_⟩))
        have l1 := congrArg List.length h4
        rw [List.length_map, List.length_map] at l1
        cases kvs <;> cases ks <;> cases xs <;> simp_all
      · refine .inr (.inl ⟨a, _, rfl, .inl h2, ?_⟩)
        have l1 := congrArg List.length h4
        rw [List.length_map, List.length_map] at l1
        cases kvs <;> cases ks <;> cases xs <;> simp_all
    | fdct kvs =>
      cases e
      obtain ⟨o, ks, xs, h2, h3, h4, h5⟩ := r
      refine .inr (.inr ⟨a, _, rfl, .inr ⟨o, h2⟩, ?_⟩)
      have l1 := congrArg List.length h4
      rw [List.length_map, List.length_map] at l1
      cases kvs <;> cases ks <;> cases xs <;> simp_all
    | ins C fs => cases e
  | scr ns =>
    obtain ⟨a, rfl, h1⟩ := h.of_scr
    cases e
    refine .inl (.inl ⟨_, h1.seq, ?_⟩)
    cases ns <;> rfl
/-- and, or, not as values -/
theorem pe_andT {rest : List Expr} {ta tb : TE} (ha : PE X a ta) (hb : PE X (.BoolOp .And (b :: rest) pos) tb) : PE X (.BoolOp .And (a :: b :: rest) pos) (fun σ H Q => ta σ H fun x H1 => ∃ k, TruV' X.K x H1 k ∧ if k = true then tb σ H1 Q else Q x H1) := by
  intro pins s σ H Q I h
  refine BoolOp_and (thn (ha pins s σ H _ I h) fun v s1 ⟨x, H1, I1, r1, k, t1, q1⟩ => thn (tru_ok' pins s1 σ H1 x v (fun c H2 => H2 = H1 ∧ c = k) I1 r1 ⟨k, t1, rfl, rfl⟩) fun c s2 ⟨H2, I2, e1, e2⟩ => ?_)
  subst e1 e2
  cases c with
  | true => exact hb pins s2 σ H2 Q I2 q1
  | false => exact ⟨x, H2, I2, r1, q1⟩
theorem pe_orT {rest : List Expr} {ta tb : TE} (ha : PE X a ta) (hb : PE X (.BoolOp .Or (b :: rest) pos) tb) : PE X (.BoolOp .Or (a :: b :: rest) pos) (fun σ H Q => ta σ H fun x H1 => ∃ k, TruV' X.K x H1 k ∧ if k = true then Q x H1 else tb σ H1 Q) := by
  intro pins s σ H Q I h
  refine BoolOp_or (thn (ha pins s σ H _ I h) fun v s1 ⟨x, H1, I1, r1, k, t1, q1⟩ => thn (tru_ok' pins s1 σ H1 x v (fun c H2 => H2 = H1 ∧ c = k) I1 r1 ⟨k, t1, rfl, rfl⟩) fun c s2 ⟨H2, I2, e1, e2⟩ => ?_)
  subst e1 e2
  cases c with
  | false => exact hb pins s2 σ H2 Q I2 q1
  | true => exact ⟨x, H2, I2, r1, q1⟩
theorem pe_notT {ta : TE} (ha : PE X a ta) : PE X (.UnaryOp .Not a pos) (fun σ H Q => ta σ H fun x H1 => ∃ k, TruV' X.K x H1 k ∧ Q (.bl (!k)) H1) := by
  intro pins s σ H Q I h
  refine UnaryOp_ (thn (ha pins s σ H _ I h) fun v s1 ⟨x, H1, I1, r1, k, t1, q1⟩ => not_of (thn (tru_ok' pins s1 σ H1 x v (fun c H2 => H2 = H1 ∧ c = k) I1 r1 ⟨k, t1, rfl, rfl⟩) fun c s2 ⟨H2, I2, e1, e2⟩ => ?_))
  subst e1 e2
  exact ⟨.bl (!c), H2, I2, rfl, q1⟩
def vAnd (a b : M D) : M D := fun en S => (a en S).bind fun p => (truD p.1 p.2).bind fun t => if t then b en p.2 else some (p.1, p.2)
def vOr (a b : M D) : M D := fun en S => (a en S).bind fun p => (truD p.1 p.2).bind fun t => if t then some (p.1, p.2) else b en p.2
def vNot (a : M D) : M D := fun en S => (a en S).bind fun p => (truD p.1 p.2).map fun t => (.bl (!t), p.2)
theorem se_one {op} {m : M D} (h : SE X a m) : SE X (.BoolOp op [a] pos) m := pe_one h
theorem se_and {rest : List Expr} {ma mb : M D} (ha : SE X a ma) (hb : SE X (.BoolOp .And (b :: rest) pos) mb) : SE X (.BoolOp .And (a :: b :: rest) pos) (vAnd ma mb) := by
  refine pe_imp (pe_andT ha hb) ?_
  rintro σ H Q ⟨ρ, en, S, v, S', E, R, e, k⟩
  unfold vAnd at e
  obtain ⟨p, e1, e⟩ := Option.bind_eq_some_iff.mp e
  obtain ⟨t, e2, e⟩ := Option.bind_eq_some_iff.mp e
  refine ⟨ρ, en, S, p.1, p.2, E, R, e1, fun x ρ1 H1 X1 R1 d1 => ⟨t, truD_ok R1 d1 e2, ?_⟩⟩
  cases t with
  | true =>
    rw [if_pos rfl] at e ⊢
    exact ⟨ρ1, en, p.2, v, S', E.up X1, R1, e, fun y ρ2 H2 X2 R2 d2 => k y ρ2 H2 (X1.trans X2) R2 d2⟩
  | false =>
    rw [if_neg Bool.false_ne_true] at e ⊢
    cases e
    exact k _ ρ1 H1 X1 R1 d1
theorem se_or {rest : List Expr} {ma mb : M D} (ha : SE X a ma) (hb : SE X (.BoolOp .Or (b :: rest) pos) mb) : SE X (.BoolOp .Or (a :: b :: rest) pos) (vOr ma mb) := by
  refine pe_imp (pe_orT ha hb) ?_
  rintro σ H Q ⟨ρ, en, S, v, S', E, R, e, k⟩
  unfold vOr at e
  obtain ⟨p, e1, e⟩ := Option.bind_eq_some_iff.mp e
  obtain ⟨t, e2, e⟩ := Option.bind_eq_some_iff.mp e
  refine ⟨ρ, en, S, p.1, p.2, E, R, e1, fun x ρ1 H1 X1 R1 d1 => ⟨t, truD_ok R1 d1 e2, ?_⟩⟩
  cases t with
  | false =>
    rw [if_neg Bool.false_ne_true] at e ⊢
    exact ⟨ρ1, en, p.2, v, S', E.up X1, R1, e, fun y ρ2 H2 X2 R2 d2 => k y ρ2 H2 (X1.trans X2) R2 d2⟩
  | true =>
    rw [if_pos rfl] at e ⊢
    cases e
    exact k _ ρ1 H1 X1 R1 d1
theorem se_not {ma : M D} (ha : SE X a ma) : SE X (.UnaryOp .Not a pos) (vNot ma) := by
  refine pe_imp (pe_notT ha) ?_
  rintro σ H Q ⟨ρ, en, S, v, S', E, R, e, k⟩
  unfold vNot at e
  obtain ⟨p, e1, e⟩ := Option.bind_eq_some_iff.mp e
  obtain ⟨t, e2, e3⟩ := Option.map_eq_some_iff.mp e
  cases e3
  exact ⟨ρ, en, S, p.1, p.2, E, R, e1, fun x ρ1 H1 X1 R1 d1 => ⟨t, truD_ok R1 d1 e2, k _ ρ1 H1 X1 R1 .flat_bl⟩⟩
def mIf (c : M Bool) (a b : M D) : M D := fun en S => (c en S).bind fun p => if p.1 then a en p.2 else b en p.2
theorem se_if {mc : M Bool} {ma mb : M D} (hc : ST X c mc) (ha : SE X a ma) (hb : SE X b mb) : SE X (.IfExp c a b pos) (mIf mc ma mb) := by
  refine pe_imp (pe_ifExp hc ha hb) ?_
  rintro σ H Q ⟨ρ, en, S, v, S', E, R, e, k⟩
  unfold mIf at e
  obtain ⟨p, e1, e⟩ := Option.bind_eq_some_iff.mp e
  refine ⟨ρ, en, S, p.1, p.2, E, R, e1, fun ρ1 H1 X1 R1 => ?_⟩
  by_cases hp : p.1 = true
  · rw [if_pos hp] at e ⊢
    exact ⟨ρ1, en, p.2, v, S', E.up X1, R1, e, fun x ρ2 H2 X2 R2 => k x ρ2 H2 (X1.trans X2) R2⟩
  · rw [if_neg hp] at e ⊢
    exact ⟨ρ1, en, p.2, v, S', E.up X1, R1, e, fun x ρ2 H2 X2 R2 => k x ρ2 H2 (X1.trans X2) R2⟩

def mTru (m : M D) : M Bool := fun en S => (m en S).bind fun p => (truD p.1 p.2).map fun b => (b, p.2)
theorem st_truth {m : M D} (h : SE X a m) (he : ∀ whole, isTrue a X.env whole = (do let v ← whole; standAt a.pos; holding [v] (truthy v)) := by intro _; rfl) : ST X a (mTru m) := by
  refine pt_imp (pt_truth' h he) ?_
  rintro σ H Q ⟨ρ, en, S, v, S', E, R, e, k⟩
  unfold mTru at e
  obtain ⟨p, e1, e⟩ := Option.bind_eq_some_iff.mp e
  obtain ⟨b, e2, e3⟩ := Option.map_eq_some_iff.mp e
  cases e3
  exact ⟨ρ, en, S, p.1, p.2, E, R, e1, fun x ρ1 H1 X1 R1 d1 => ⟨v, truD_ok R1 d1 e2, k ρ1 H1 X1 R1⟩⟩

/-! ### argument lists, tuples, lists -/
def mNil : M (List D) := fun _ S => some ([], S)
def mCons (a : M D) (r : M (List D)) : M (List D) := fun en S => (a en S).bind fun p => (r en p.2).map fun q => (p.1 :: q.1, q.2)
theorem sa_nil : SA X [] mNil := by
  refine pa_imp pa_nil ?_
  rintro σ H Q ⟨ρ, en, S, ds, S', E, R, e, k⟩
  cases e
  exact k [] ρ H Ext.refl R .nil
theorem sa_cons {ma : M D} {mr : M (List D)} (ha : SE X a ma) (hr : SA X es mr) (hs : starEach (a :: es) X.env = (false, eval a X.env) :: starEach es X.env := by rfl) : SA X (a :: es) (mCons ma mr) := by
  refine pa_imp (pa_cons ha hr hs) ?_
  rintro σ H Q ⟨ρ, en, S, ds, S', E, R, e, k⟩
  unfold mCons at e
  obtain ⟨p, e1, e⟩ := Option.bind_eq_some_iff.mp e
  obtain ⟨q, e2, e3⟩ := Option.map_eq_some_iff.mp e
  cases e3
  refine ⟨ρ, en, S, p.1, p.2, E, R, e1, fun x ρ1 H1 X1 R1 d1 => ⟨ρ1, en, p.2, q.1, q.2, E.up X1, R1, e2, fun xs ρ2 H2 X2 R2 d2 => ?_⟩⟩
  exact k (x :: xs) ρ2 H2 (X1.trans X2) R2 (.cons (d1.up X2) d2)
def mTup (m : M (List D)) : M D := fun en S => (m en S).bind fun p => if p.1.length ≤ sizeLine then some (.tup p.1, p.2) else none
def mLst (m : M (List D)) : M D := fun en S => (m en S).bind fun p => if p.1.length ≤ sizeLine then some (.ref p.2.length, p.2 ++ [.lst p.1]) else none
theorem se_tup {k0} {m : M (List D)} (h : SA X es m) : SE X (.Tuple es k0 pos) (mTup m) := by
  refine pe_imp (pe_tup h) ?_
  rintro σ H Q ⟨ρ, en, S, v, S', E, R, e, k⟩
  unfold mTup at e
  obtain ⟨p, e1, e⟩ := Option.bind_eq_some_iff.mp e
  split at e
  · cases e
    refine ⟨ρ, en, S, p.1, p.2, E, R, e1, fun xs ρ1 H1 X1 R1 d1 => ⟨by rw [← d1.length]; assumption, fun a ha => ?_⟩⟩
    exact k _ ρ1 _ (X1.trans (Ext.new ha)) (R1.new ha) (.tup upd_same (d1.up (Ext.new ha)))
  · cases e
theorem se_lst {m : M (List D)} (h : SA X es m) : SE X (.List es pos) (mLst m) := by
  refine pe_imp (pe_lst h) ?_
  rintro σ H Q ⟨ρ, en, S, v, S', E, R, e, k⟩
  unfold mLst at e
  obtain ⟨p, e1, e⟩ := Option.bind_eq_some_iff.mp e
  split at e
  · cases e
    refine ⟨ρ, en, S, p.1, p.2, E, R, e1, fun xs ρ1 H1 X1 R1 d1 => ⟨by rw [← d1.length]; assumption, fun a ha => ?_⟩⟩
    refine k _ (ρ1 ++ [a]) _ (X1.trans (Ext.newRef ha)) (R1.push ha ⟨xs, upd_same, d1.up (Ext.newRef ha)⟩) (.ref ?_)
    rw [← R1.len]; simp
  · cases e
end
end DL
namespace DL
open PySem PySem.Spec PyProof.Rows L2
section
variable {K : PySem.W.Frag} {ρ : List Addr} {H : Hp}
/-! ### dicts over data (own text) -/
theorem keyD_V {d : D} {k : Key} {x : V} (e : keyD d = some k) (h : DR K ρ H d x) : x = kV k := by
  cases d with
  | int i => cases e; exact h.of_int
  | str z => cases e; exact h.of_str
  | _ => cases e
theorem keysD_V : ∀ {ds : List D} {ks : List Key} {xs : List V}, keysD ds = some ks → DsR K ρ H ds xs → xs = ks.map kV
  | [], _, xs, e, h => by
    cases e
    unfold DsR at h
    exact h
  | d :: ds, ks, xs, e, h => by
    obtain ⟨k, e1, e⟩ := Option.bind_eq_some_iff.mp e
    obtain ⟨ks', e2, e3⟩ := Option.map_eq_some_iff.mp e
    subst e3
    unfold DsR at h
    obtain ⟨x, r, rfl, h1, h2⟩ := h
    rw [List.map_cons, keyD_V e1 h1, keysD_V e2 h2]
theorem keysT_V {d : D} {ks : List Key} {x : V} (e : keysT d = some ks) (h : DR K ρ H d x) : ∃ b, x = .ref b ∧ H b = some (.tup (ks.map kV)) := by
  cases d with
  | tup ds =>
    obtain ⟨a, xs, rfl, h1, h2⟩ := h.of_tup
    rw [keysD_V e h2] at h1
    exact ⟨a, rfl, h1⟩
  | _ => cases e
theorem keyD_keysT {d : D} {k : Key} (e : keyD d = some k) : keysT d = none := by
  cases d <;> first | rfl | cases e
theorem kEq_k {a b : D} {x y : Key} (ea : keyD a = some x) (eb : keyD b = some y) : kEq a b = decide (x = y) := by
  unfold kEq
  rw [ea, eb]
theorem kEq_t {a b : D} {x y : List Key} (ea : keysT a = some x) (eb : keysT b = some y) : kEq a b = decide (x = y) := by
  have na : keyD a = none := by
    cases h : keyD a with
    | none => rfl
    | some k => rw [keyD_keysT h] at ea; cases ea
  unfold kEq
  rw [na, ea, eb]
/-- one table beside the other -/
theorem tab_get {κ : Type} [DecidableEq κ] (f : D → Option κ) {k : D} {k' : κ} (hk : ∀ a x, f a = some x → kEq a k = decide (x = k')) : ∀ {kvs : List (D × D)} {ks : List κ} {xs : List V}, kvs.map (fun p => f p.1) = ks.map some → DsR K ρ H (kvs.map (·.2)) xs →
    (∀ v, dget kvs k = some v → ∃ x, valV (ks.zip xs) k' = some x ∧ DR K ρ H v x) ∧ (dget kvs k = none → valV (ks.zip xs) k' = none)
  | [], ks, xs, e, h => by
    cases ks with
    | nil => exact ⟨fun v z => (by cases z), fun _ => rfl⟩
    | cons _ _ => cases e
  | p :: kvs, ks, xs, e, h => by
    cases ks with
    | nil => cases e
    | cons k0 ks =>
      rw [List.map_cons, List.map_cons] at e
      injection e with e1 e2
      rw [List.map_cons] at h
      unfold DsR at h
      obtain ⟨x, r, rfl, h1, h2⟩ := h
      have ih := tab_get f hk e2 h2
      have hq := hk p.1 k0 e1
      rw [List.zip_cons_cons]
      by_cases hc : k0 = k'
      · have hp : kEq p.1 k = true := by rw [hq]; exact decide_eq_true hc
        have hd : dget (p :: kvs) k = some p.2 := by simp [dget, List.find?_cons, hp]
        rw [hd, valV_pos (p := (k0, x)) hc]
        exact ⟨fun v z => by cases z; exact ⟨x, rfl, h1⟩, fun z => by cases z⟩
      · have hp : kEq p.1 k = false := by rw [hq]; exact decide_eq_false hc
        have hd : dget (p :: kvs) k = dget kvs k := by simp [dget, List.find?_cons, hp]
        rw [hd, valV_neg (p := (k0, x)) hc]
        exact ih
theorem tab_any {κ : Type} [DecidableEq κ] (f : D → Option κ) {k : D} {k' : κ} (hk : ∀ a x, f a = some x → kEq a k = decide (x = k')) : ∀ {kvs : List (D × D)} {ks : List κ} {xs : List V}, kvs.map (fun p => f p.1) = ks.map some → ks.length = xs.length →
    (kvs.any fun p => kEq p.1 k) = ((ks.zip xs).any fun kv => decide (kv.1 = k'))
  | [], ks, xs, e, _ => by
    cases ks with
    | nil => rfl
    | cons _ _ => cases e
  | p :: kvs, ks, xs, e, hl => by
    cases ks with
    | nil => cases e
    | cons k0 ks =>
      cases xs with
      | nil => cases hl
      | cons x xs =>
        rw [List.map_cons, List.map_cons] at e
        injection e with e1 e2
        rw [List.zip_cons_cons, List.any_cons, List.any_cons, hk p.1 k0 e1, tab_any f hk e2 (by simpa using hl)]
theorem tab_repl {κ : Type} [DecidableEq κ] (f : D → Option κ) {k v : D} {k' : κ} {y : V} (hk : ∀ a x, f a = some x → kEq a k = decide (x = k')) (hv : DR K ρ H v y) : ∀ {kvs : List (D × D)} {ks : List κ} {xs : List V}, kvs.map (fun p => f p.1) = ks.map some → ks.length = xs.length → DsR K ρ H (kvs.map (·.2)) xs →
    ∃ xs', (ks.zip xs).map (fun kv => if kv.1 = k' then (kv.1, y) else kv) = ks.zip xs' ∧ ks.length = xs'.length ∧ DsR K ρ H ((kvs.map fun p => if kEq p.1 k = true then (p.1, v) else p).map (·.2)) xs' ∧ ((kvs.map fun p => if kEq p.1 k = true then (p.1, v) else p).map fun p => f p.1) = ks.map some
  | [], ks, xs, e, hl, h => by
    cases ks with
    | nil =>
      cases xs with
      | nil => exact ⟨[], rfl, rfl, .nil, rfl⟩
      | cons _ _ => cases hl
    | cons _ _ => cases e
  | p :: kvs, ks, xs, e, hl, h => by
    cases ks with
    | nil => cases e
    | cons k0 ks =>
      cases xs with
      | nil => cases hl
      | cons x xs =>
        rw [List.map_cons, List.map_cons] at e
        injection e with e1 e2
        rw [List.map_cons] at h
        unfold DsR at h
        obtain ⟨x0, r, hx, h1, h2⟩ := h
        injection hx with hx1 hx2
        subst hx1 hx2
        obtain ⟨xs', a1, a2, a3, a4⟩ := tab_repl f hk hv e2 (by simpa using hl) h2
        have hq := hk p.1 k0 e1
        by_cases hc : k0 = k'
        · have hp : kEq p.1 k = true := by rw [hq]; exact decide_eq_true hc
          refine ⟨y :: xs', ?_, by simp [a2], ?_, ?_⟩
          · rw [List.zip_cons_cons, List.map_cons, a1, if_pos hc, List.zip_cons_cons]
          · rw [List.map_cons, if_pos hp, List.map_cons]; exact .cons hv a3
          · rw [List.map_cons, if_pos hp, List.map_cons, a4, e1, List.map_cons]
        · have hp : ¬ kEq p.1 k = true := by rw [hq, decide_eq_false hc]; exact Bool.false_ne_true
          refine ⟨x :: xs', ?_, by simp [a2], ?_, ?_⟩
          · rw [List.zip_cons_cons, List.map_cons, a1, if_neg hc, List.zip_cons_cons]
          · rw [List.map_cons, if_neg hp, List.map_cons]; exact .cons h1 a3
          · rw [List.map_cons, if_neg hp, List.map_cons, a4, e1, List.map_cons]
/-- a put -/
theorem tab_put {κ : Type} [DecidableEq κ] (f : D → Option κ) {k v : D} {k' : κ} {y : V} (hf : f k = some k') (hk : ∀ a x, f a = some x → kEq a k = decide (x = k')) (hv : DR K ρ H v y) {kvs : List (D × D)} {ks : List κ} {xs : List V}
    (e : kvs.map (fun p => f p.1) = ks.map some) (hl : ks.length = xs.length) (h : DsR K ρ H (kvs.map (·.2)) xs) :
    ∃ (ks' : List κ) (xs' : List V), putK (ks.zip xs) k' y = ks'.zip xs' ∧ ks'.length = xs'.length ∧ (dput kvs k v).map (fun p => f p.1) = ks'.map some ∧ DsR K ρ H ((dput kvs k v).map (·.2)) xs' := by
  unfold putK dput
  rw [tab_any f hk e hl]
  by_cases ha : ((ks.zip xs).any fun kv => decide (kv.1 = k')) = true
  · rw [if_pos ha, if_pos ha]
    obtain ⟨xs', a1, a2, a3, a4⟩ := tab_repl f hk hv e hl h
    exact ⟨ks, xs', a1, a2, a4, a3⟩
  · rw [if_neg ha, if_neg ha]
    refine ⟨ks ++ [k'], xs ++ [y], ?_, by simp [hl], ?_, ?_⟩
    · rw [List.zip_append hl]; rfl
    · rw [List.map_append, List.map_append, e]; simp [hf]
    · rw [List.map_append]; exact h.append (.cons hv .nil)
theorem hk_k {k : D} {k' : Key} (h : keyD k = some k') : ∀ a x, keyD a = some x → kEq a k = decide (x = k') := fun _ _ e => kEq_k e h
theorem hk_t {k : D} {k' : List Key} (h : keysT k = some k') : ∀ a x, keysT a = some x → kEq a k = decide (x = k') := fun _ _ e => kEq_t e h
theorem all_nil {α : Type} {f : D → Option α} {kvs : List (D × D)} {β : Type} {g : D → Option β} {ks : List β} (e : kvs.map (fun p => g p.1) = ks.map some) (h : (kvs.all fun p => (f p.1).isSome) = true) (hd : ∀ d x, g d = some x → f d = none) : kvs = [] := by
  cases kvs with
  | nil => rfl
  | cons p r =>
    cases ks with
    | nil => cases e
    | cons k ks =>
      rw [List.map_cons, List.map_cons] at e
      injection e with e1 _
      rw [List.all_cons, hd _ _ e1] at h
      simp at h
theorem keysT_keyD {d : D} {k : List Key} (e : keysT d = some k) : keyD d = none := by
  cases d <;> first | rfl | cases e
/-- the dict in the store, read at a key -/
theorem dget_ok0 {S : Sto} {n : Nat} {a : Addr} {kvs : List (D × D)} {k : D} {y : V} (R : StR K ρ H S) (ha : ρ[n]? = some a) (e : S[n]? = some (.dct kvs)) (hs : sameKind kvs k = true) (hk : DR K ρ H k y) :
    (∀ v, dget kvs k = some v → ∃ x, DGetE H a y (some x) ∧ DR K ρ H v x) ∧ (dget kvs k = none → DGetE H a y none) := by
  obtain ⟨ob, e1, r⟩ := R.obj ha
  rw [e] at e1
  cases e1
  unfold sameKind at hs
  cases h1 : keyD k with
  | some k' =>
    rw [h1] at hs
    have ey := keyD_V h1 hk
    rcases r with ⟨ks, xs, q1, q2, q3, q4⟩ | ⟨ks, xs, q1, q2, q3, q4⟩
    · obtain ⟨g1, g2⟩ := tab_get keyD (hk_k h1) q3 q4
      refine ⟨fun v hv => ?_, fun hv => ?_⟩
      · obtain ⟨x, x1, x2⟩ := g1 v hv
        exact ⟨x, .inl (.inl ⟨_, k', .inl q1, ey, x1.symm⟩), x2⟩
      · exact .inl (.inl ⟨_, k', .inl q1, ey, (g2 hv).symm⟩)
    · have hn := all_nil q3 hs (fun _ _ => keysT_keyD)
      subst hn
      cases ks with
      | nil => exact ⟨fun v hv => (by cases hv), fun _ => .inr (.inr ⟨q1, k', ey, rfl⟩)⟩
      | cons _ _ => cases q3
  | none =>
    rw [h1] at hs
    cases h2 : keysT k with
    | none => rw [h2] at hs; cases hs
    | some k' =>
      rw [h2] at hs
      obtain ⟨b, ey, eb⟩ := keysT_V h2 hk
      rcases r with ⟨ks, xs, q1, q2, q3, q4⟩ | ⟨ks, xs, q1, q2, q3, q4⟩
      · have hn := all_nil q3 hs (fun _ _ => keyD_keysT)
        subst hn
        cases ks with
        | nil => exact ⟨fun v hv => (by cases hv), fun _ => .inr (.inl ⟨q1, k', b, ey, eb, rfl⟩)⟩
        | cons _ _ => cases q3
      · obtain ⟨g1, g2⟩ := tab_get keysT (hk_t h2) q3 q4
        refine ⟨fun v hv => ?_, fun hv => ?_⟩
        · obtain ⟨x, x1, x2⟩ := g1 v hv
          exact ⟨x, .inl (.inr ⟨_, k', b, .inl q1, ey, eb, x1.symm⟩), x2⟩
        · exact .inl (.inr ⟨_, k', b, .inl q1, ey, eb, (g2 hv).symm⟩)
/-- the dict in the store, frozen or not, read at a key -/
theorem dget_ok {S : Sto} {n : Nat} {a : Addr} {kvs : List (D × D)} {k : D} {y : V} (R : StR K ρ H S) (ha : ρ[n]? = some a) (e : dctAt S n k = some kvs) (hk : DR K ρ H k y) :
    (∀ v, dget kvs k = some v → ∃ x, DGetE H a y (some x) ∧ DR K ρ H v x) ∧ (dget kvs k = none → DGetE H a y none) := by
  unfold dctAt at e
  split at e
  · rename_i kvs' hn
    split at e
    · rename_i hs
      cases e
      exact dget_ok0 R ha hn hs hk
    · cases e
  · rename_i kvs' hn
    split at e
    · rename_i hs
      cases e
      obtain ⟨ob, e1, r⟩ := R.obj ha
      rw [hn] at e1
      cases e1
      obtain ⟨o, ks, xs, q1, q2, q3, q4⟩ := r
      obtain ⟨k', h1⟩ := Option.isSome_iff_exists.mp hs
      have ey := keyD_V h1 hk
      obtain ⟨g1, g2⟩ := tab_get keyD (hk_k h1) q3 q4
      refine ⟨fun v hv => ?_, fun hv => ?_⟩
      · obtain ⟨x, x1, x2⟩ := g1 v hv
        exact ⟨x, .inl (.inl ⟨_, k', .inr ⟨o, q1⟩, ey, x1.symm⟩), x2⟩
      · exact .inl (.inl ⟨_, k', .inr ⟨o, q1⟩, ey, (g2 hv).symm⟩)
    · cases e
  · cases e
theorem isD_ok {S : Sto} {n : Nat} {a : Addr} (R : StR K ρ H S) (ha : ρ[n]? = some a) (e : isDct S n = true) : IsD H a := by
  unfold isDct at e
  obtain ⟨ob, e1, r⟩ := R.obj ha
  rw [e1] at e
  cases ob with
  | dct kvs =>
    rcases r with ⟨ks, xs, q, _⟩ | ⟨ks, xs, q, _⟩
    · exact .inl ⟨_, .inl q⟩
    · exact .inr ⟨_, .inl q⟩
  | fdct kvs =>
    obtain ⟨o, ks, xs, q, _⟩ := r
    exact .inl ⟨_, .inr ⟨o, q⟩⟩
  | _ => cases e
/-- the dict in the store, changed at a key -/
theorem dput_ok {S : Sto} {n : Nat} {a : Addr} {kvs : List (D × D)} {k v : D} {y x : V} (R : StR K ρ H S) (ha : ρ[n]? = some a) (e : S[n]? = some (.dct kvs)) (hs : sameKind kvs k = true) (hl : kvs.length < sizeLine) (hk : DR K ρ H k y) (hv : DR K ρ H v x) :
    ∃ H', DPutE H a y x H' ∧ StR K ρ H' (S.set n (.dct (dput kvs k v))) ∧ Ext ρ H ρ H' := by
  obtain ⟨ob, e1, r⟩ := R.obj ha
  rw [e] at e1
  cases e1
  unfold sameKind at hs
  have up : ∀ {o : HO} {o' : HO}, H a = some o → (∀ xs, o ≠ .tup xs) → (∀ ob u, o ≠ .frz ob u) → Ext ρ H ρ (upd H a o') := fun h a1 a2 => Ext.upd h a1 a2
  cases h1 : keyD k with
  | some k' =>
    rw [h1] at hs
    have ey := keyD_V h1 hk
    rcases r with ⟨ks, xs, q1, q2, q3, q4⟩ | ⟨ks, xs, q1, q2, q3, q4⟩
    · obtain ⟨ks', xs', z1, z2, z3, z4⟩ := tab_put keyD h1 (hk_k h1) hv q3 q2 q4
      have len : (ks.zip xs).length < sizeLine := by
        have := congrArg List.length q3
        rw [List.length_map, List.length_map] at this
        rw [List.length_zip]; omega
      have E1 : Ext ρ H ρ (upd H a (.dK (putK (ks.zip xs) k' x))) := up q1 (fun _ z => nomatch z) fun _ _ z => nomatch z
      obtain ⟨R2, E2⟩ := R.set (hf := fun _ z => by rw [e] at z; cases z) (o := .dK (putK (ks.zip xs) k' x)) (ob := .dct (dput kvs k v)) ha (.inl ⟨ks', xs', by rw [upd_same, z1], z2, z3, z4.up E1⟩)
      exact ⟨_, .inl (.inl ⟨_, k', q1, ey, len, rfl⟩), R2, E2⟩
    · have hn := all_nil q3 hs (fun _ _ => keysT_keyD)
      subst hn
      have E1 : Ext ρ H ρ (upd H a (.dK [(k', x)])) := up q1 (fun _ z => nomatch z) fun _ _ z => nomatch z
      cases ks with
      | nil =>
        obtain ⟨R2, E2⟩ := R.set (hf := fun _ z => by rw [e] at z; cases z) (o := .dK [(k', x)]) (ob := .dct (dput [] k v)) ha (.inl ⟨[k'], [x], by rw [upd_same]; rfl, rfl, by simp [dput, h1], by simp [dput]; exact .cons (hv.up E1) .nil⟩)
        exact ⟨_, .inr (.inr ⟨q1, k', ey, rfl⟩), R2, E2⟩
      | cons _ _ => cases q3
  | none =>
    rw [h1] at hs
    cases h2 : keysT k with
    | none => rw [h2] at hs; cases hs
    | some k' =>
      rw [h2] at hs
      obtain ⟨b, ey, eb⟩ := keysT_V h2 hk
      rcases r with ⟨ks, xs, q1, q2, q3, q4⟩ | ⟨ks, xs, q1, q2, q3, q4⟩
      · have hn := all_nil q3 hs (fun _ _ => keyD_keysT)
        subst hn
        have E1 : Ext ρ H ρ (upd H a (.dT [(k', x)])) := up q1 (fun _ z => nomatch z) fun _ _ z => nomatch z
        cases ks with
        | nil =>
          obtain ⟨R2, E2⟩ := R.set (hf := fun _ z => by rw [e] at z; cases z) (o := .dT [(k', x)]) (ob := .dct (dput [] k v)) ha (.inr ⟨[k'], [x], by rw [upd_same]; rfl, rfl, by simp [dput, h2], by simp [dput]; exact .cons (hv.up E1) .nil⟩)
          exact ⟨_, .inr (.inl ⟨q1, k', b, ey, eb, rfl⟩), R2, E2⟩
        | cons _ _ => cases q3
      · obtain ⟨ks', xs', z1, z2, z3, z4⟩ := tab_put keysT h2 (hk_t h2) hv q3 q2 q4
        have len : (ks.zip xs).length < sizeLine := by
          have := congrArg List.length q3
          rw [List.length_map, List.length_map] at this
          rw [List.length_zip]; omega
        have E1 : Ext ρ H ρ (upd H a (.dT (putK (ks.zip xs) k' x))) := up q1 (fun _ z => nomatch z) fun _ _ z => nomatch z
        obtain ⟨R2, E2⟩ := R.set (hf := fun _ z => by rw [e] at z; cases z) (o := .dT (putK (ks.zip xs) k' x)) (ob := .dct (dput kvs k v)) ha (.inr ⟨ks', xs', by rw [upd_same, z1], z2, z3, z4.up E1⟩)
        exact ⟨_, .inl (.inr ⟨_, k', b, q1, ey, eb, len, rfl⟩), R2, E2⟩
end
end DL
namespace DL
open PySem PySem.Spec PyProof.Rows L2
/-! ### == of plain data (own text) -/
mutual
def eqD : D → D → Bool
  | .non, b => match b with | .non => true | _ => false
  | .bl a, b => match b with | .bl c => a == c | .int c => (if a then 1 else 0) == c | _ => false
  | .int a, b => match b with | .bl c => a == (if c then 1 else 0) | .int c => a == c | _ => false
  | .str a, b => match b with | .str c => a == c | _ => false
  | .tup as, b => match b with | .tup bs => eqDs as bs | _ => false
  | .ref _, _ => false
  | .scr _, _ => false
def eqDs : List D → List D → Bool
  | [], b => match b with | [] => true | _ :: _ => false
  | a :: as, b => match b with | [] => false | b :: bs => eqD a b && eqDs as bs
end
/-- plain data, so deep at most -/
def pln : Nat → D → Bool
  | _, .non => true
  | _, .bl _ => true
  | _, .int _ => true
  | _, .str _ => true
  | 0, .tup _ => false
  | n + 1, .tup ds => ds.all (pln n)
  | _, .ref _ => false
  | _, .scr _ => false
theorem eqD_tup (as bs : List D) : eqD (.tup as) (.tup bs) = eqDs as bs := by unfold eqD; rfl
theorem eqDs_range : ∀ (as bs : List D), eqDs as bs = ((List.range (min as.length bs.length)).all (fun j => eqD (as.getD j .non) (bs.getD j .non)) && as.length == bs.length)
  | [], [] => by simp [eqDs]
  | [], _ :: _ => by simp [eqDs]
  | _ :: _, [] => by simp [eqDs]
  | a :: as, b :: bs => by
    unfold eqDs
    dsimp only
    rw [eqDs_range as bs, List.length_cons, List.length_cons, Nat.succ_min_succ, List.range_succ_eq_map, List.all_cons, List.all_map]
    have h1 : ((as.length + 1) == (bs.length + 1)) = (as.length == bs.length) := by
      rw [Bool.eq_iff_iff]; simp
    rw [h1, Bool.and_assoc]
    rfl
mutual
theorem eqD_refl : ∀ (n : Nat) (d : D), pln n d = true → eqD d d = true
  | _, .non, _ => by unfold eqD; rfl
  | _, .bl b, _ => by unfold eqD; simp
  | _, .int i, _ => by unfold eqD; simp
  | _, .str x, _ => by unfold eqD; simp
  | 0, .tup _, h => by cases h
  | n + 1, .tup ds, h => by unfold eqD; exact eqDs_refl n ds (by unfold pln at h; exact h)
  | n, .ref _, h => by cases n <;> cases h
  | n, .scr _, h => by cases n <;> cases h
theorem eqDs_refl : ∀ (n : Nat) (ds : List D), ds.all (pln n) = true → eqDs ds ds = true
  | _, [], _ => by unfold eqDs; rfl
  | n, d :: ds, h => by
    rw [List.all_cons, Bool.and_eq_true] at h
    unfold eqDs
    dsimp only
    rw [eqD_refl n d h.1, eqDs_refl n ds h.2]; rfl
end
section
variable {K : PySem.W.Frag} {ρ ρ' : List Addr} {H : Hp}
mutual
theorem DR.one : ∀ (n : Nat) (d d' : D) (x : V), pln n d = true → pln n d' = true → DR K ρ H d x → DR K ρ' H d' x → d = d'
  | n, d, d', x, p, p', h, h' => by
    cases d with
    | non =>
      rw [h.of_non] at h'
      cases d' with
      | non => rfl
      | bl _ => cases h'.of_bl
      | int _ => cases h'.of_int
      | str _ => cases h'.of_str
      | tup _ => obtain ⟨_, _, z, _⟩ := h'.of_tup; cases z
      | ref _ => cases n <;> cases p'
      | scr _ => cases n <;> cases p'
    | bl b =>
      rw [h.of_bl] at h'
      cases d' with
      | non => cases h'.of_non
      | bl _ => cases h'.of_bl; rfl
      | int _ => cases h'.of_int
      | str _ => cases h'.of_str
      | tup _ => obtain ⟨_, _, z, _⟩ := h'.of_tup; cases z
      | ref _ => cases n <;> cases p'
      | scr _ => cases n <;> cases p'
    | int b =>
      rw [h.of_int] at h'
      cases d' with
      | non => cases h'.of_non
      | bl _ => cases h'.of_bl
      | int _ => cases h'.of_int; rfl
      | str _ => cases h'.of_str
      | tup _ => obtain ⟨_, _, z, _⟩ := h'.of_tup; cases z
      | ref _ => cases n <;> cases p'
      | scr _ => cases n <;> cases p'
    | str b =>
      rw [h.of_str] at h'
      cases d' with
      | non => cases h'.of_non
      | bl _ => cases h'.of_bl
      | int _ => cases h'.of_int
      | str _ => cases h'.of_str; rfl
      | tup _ => obtain ⟨_, _, z, _⟩ := h'.of_tup; cases z
      | ref _ => cases n <;> cases p'
      | scr _ => cases n <;> cases p'
    | tup ds =>
      obtain ⟨a, xs, rfl, h1, h2⟩ := h.of_tup
      cases d' with
      | non => cases h'.of_non
      | bl _ => cases h'.of_bl
      | int _ => cases h'.of_int
      | str _ => cases h'.of_str
      | tup es =>
        obtain ⟨a', xs', z, h3, h4⟩ := h'.of_tup
        cases z
        rw [h1] at h3
        cases h3
        cases n with
        | zero => cases p
        | succ n =>
          unfold pln at p p'
          rw [DsR.one n ds es xs p p' h2 h4]
      | ref _ => cases n <;> cases p'
      | scr _ => cases n <;> cases p'
    | ref _ => cases n <;> cases p
    | scr _ => cases n <;> cases p
termination_by n => (n, 0)
theorem DsR.one : ∀ (n : Nat) (ds ds' : List D) (xs : List V), ds.all (pln n) = true → ds'.all (pln n) = true → DsR K ρ H ds xs → DsR K ρ' H ds' xs → ds = ds'
  | n, [], ds', xs, _, _, h, h' => by
    unfold DsR at h
    subst h
    cases ds' with
    | nil => rfl
    | cons _ _ => unfold DsR at h'; obtain ⟨_, _, z, _⟩ := h'; cases z
  | n, d :: ds, ds', xs, p, p', h, h' => by
    unfold DsR at h
    obtain ⟨x, r, rfl, h1, h2⟩ := h
    cases ds' with
    | nil => unfold DsR at h'; cases h'
    | cons d' ds' =>
      unfold DsR at h'
      obtain ⟨x', r', z, h3, h4⟩ := h'
      cases z
      rw [List.all_cons, Bool.and_eq_true] at p p'
      rw [DR.one n d d' x p.1 p'.1 h1 h3, DsR.one n ds ds' r p.2 p'.2 h2 h4]
termination_by n ds => (n, ds.length + 1)
end
end
section
variable {X : Cx} {pins : List (Addr × Obj)} {σ : L2.St} {H : Hp} {s : Shared} {ρ : List Addr} (I : Inv X pins σ H s)
theorem in1_units {A : Around} : A.in1.units = A.units + 1 := rfl
include I in
theorem eqAt_D : ∀ (n : Nat) {A : Around} {d1 d2 : D} {x y : V} {u v : Value}, A.units + n < cLine → pln n d1 = true → pln n d2 = true → DR X.K ρ H d1 x → DR X.K ρ H d2 y → RelV x u → RelV y v → SeqAt.EqAt A s u v (eqD d1 d2) := by
  intro n A d1 d2 x y u v hu p1 p2 h1 h2 ru rv
  cases d1 with
  | non =>
    rw [h1.of_non] at ru
    cases ru
    cases d2 with
    | non => rw [h2.of_non] at rv; cases rv; exact SeqAt.EqAt.same _
    | bl c => rw [h2.of_bl] at rv; cases rv; exact SeqAt.EqAt.none_bool c
    | int c => rw [h2.of_int] at rv; obtain ⟨t', rfl⟩ := rv; exact SeqAt.EqAt.none_int c t'
    | str c => rw [h2.of_str] at rv; obtain ⟨t', rfl⟩ := rv; exact SeqAt.EqAt.none_str c t'
    | tup bs =>
      obtain ⟨b, ys, rfl, b1, b2⟩ := h2.of_tup
      cases rv
      obtain ⟨its, _, pl, _⟩ := I.tuple (.of b1)
      exact SeqAt.EqAt.none_tuple pl (by omega)
    | ref _ => cases n <;> cases p2
    | scr _ => cases n <;> cases p2
  | bl a =>
    rw [h1.of_bl] at ru
    cases ru
    cases d2 with
    | non => rw [h2.of_non] at rv; cases rv; exact SeqAt.EqAt.bool_none a
    | bl c => rw [h2.of_bl] at rv; cases rv; exact SeqAt.EqAt.bool_bool a c
    | int c => rw [h2.of_int] at rv; obtain ⟨t', rfl⟩ := rv; exact SeqAt.EqAt.bool_int a c t'
    | str c => rw [h2.of_str] at rv; obtain ⟨t', rfl⟩ := rv; exact SeqAt.EqAt.bool_str a c t'
    | tup bs =>
      obtain ⟨b, ys, rfl, b1, b2⟩ := h2.of_tup
      cases rv
      obtain ⟨its, _, pl, _⟩ := I.tuple (.of b1)
      exact SeqAt.EqAt.bool_tuple a pl (by omega)
    | ref _ => cases n <;> cases p2
    | scr _ => cases n <;> cases p2
  | int a =>
    rw [h1.of_int] at ru
    obtain ⟨t, rfl⟩ := ru
    cases d2 with
    | non => rw [h2.of_non] at rv; cases rv; exact SeqAt.EqAt.int_none a t
    | bl c => rw [h2.of_bl] at rv; cases rv; exact SeqAt.EqAt.int_bool a t c
    | int c => rw [h2.of_int] at rv; obtain ⟨t', rfl⟩ := rv; exact SeqAt.EqAt.int_int a t c t'
    | str c => rw [h2.of_str] at rv; obtain ⟨t', rfl⟩ := rv; exact SeqAt.EqAt.int_str a t c t'
    | tup bs =>
      obtain ⟨b, ys, rfl, b1, b2⟩ := h2.of_tup
      cases rv
      obtain ⟨its, _, pl, _⟩ := I.tuple (.of b1)
      exact SeqAt.EqAt.int_tuple a t pl (by omega)
    | ref _ => cases n <;> cases p2
    | scr _ => cases n <;> cases p2
  | str a =>
    rw [h1.of_str] at ru
    obtain ⟨t, rfl⟩ := ru
    cases d2 with
    | non => rw [h2.of_non] at rv; cases rv; exact SeqAt.EqAt.str_none a t
    | bl c => rw [h2.of_bl] at rv; cases rv; exact SeqAt.EqAt.str_bool a t c
    | int c => rw [h2.of_int] at rv; obtain ⟨t', rfl⟩ := rv; exact SeqAt.EqAt.str_int a t c t'
    | str c => rw [h2.of_str] at rv; obtain ⟨t', rfl⟩ := rv; exact SeqAt.EqAt.str_str a t c t'
    | tup bs =>
      obtain ⟨b, ys, rfl, b1, b2⟩ := h2.of_tup
      cases rv
      obtain ⟨its, _, pl, _⟩ := I.tuple (.of b1)
      exact SeqAt.EqAt.str_tuple a t pl (by omega)
    | ref _ => cases n <;> cases p2
    | scr _ => cases n <;> cases p2
  | tup as =>
    obtain ⟨a, xs, rfl, a1, a2⟩ := h1.of_tup
    cases ru
    cases d2 with
    | non =>
      rw [h2.of_non] at rv
      cases rv
      obtain ⟨its, _, pl, _⟩ := I.tuple (.of a1)
      exact SeqAt.EqAt.tuple_none pl (by omega)
    | bl c =>
      rw [h2.of_bl] at rv
      cases rv
      obtain ⟨its, _, pl, _⟩ := I.tuple (.of a1)
      exact SeqAt.EqAt.tuple_bool c pl (by omega)
    | int c =>
      rw [h2.of_int] at rv
      obtain ⟨t', rfl⟩ := rv
      obtain ⟨its, _, pl, _⟩ := I.tuple (.of a1)
      exact SeqAt.EqAt.tuple_int c t' pl (by omega)
    | str c =>
      rw [h2.of_str] at rv
      obtain ⟨t', rfl⟩ := rv
      obtain ⟨its, _, pl, _⟩ := I.tuple (.of a1)
      exact SeqAt.EqAt.tuple_str c t' pl (by omega)
    | tup bs =>
      obtain ⟨b, ys, rfl, b1, b2⟩ := h2.of_tup
      cases rv
      cases n with
      | zero => cases p1
      | succ n =>
        unfold pln at p1 p2
        obtain ⟨its, r1, pl1, _⟩ := I.tuple (.of a1)
        obtain ⟨its2, r2, pl2, _⟩ := I.tuple (.of b1)
        have he : eqD (.tup as) (.tup bs) = ((List.range (min its.toArray.size its2.toArray.size)).all (fun j => eqD (as.getD j .non) (bs.getD j .non)) && its.toArray.size == its2.toArray.size) := by
          rw [eqD_tup, eqDs_range, List.size_toArray, List.size_toArray, ← r1.length, ← r2.length, ← a2.length, ← b2.length]
        have hj : ∀ j (h1 : j < its.toArray.size) (h2 : j < its2.toArray.size), SeqAt.EqAt A.in1 s its.toArray[j] its2.toArray[j] (eqD (as.getD j .non) (bs.getD j .non)) := by
          intro j j1 j2
          rw [List.size_toArray] at j1 j2
          have l1 : j < as.length := by rw [a2.length, r1.length]; exact j1
          have l2 : j < bs.length := by rw [b2.length, r2.length]; exact j2
          have g1 : as[j]? = some (as.getD j .non) := by simp [List.getD, List.getElem?_eq_getElem l1]
          have g2 : bs[j]? = some (bs.getD j .non) := by simp [List.getD, List.getElem?_eq_getElem l2]
          obtain ⟨x, x1, x2⟩ := a2.get g1
          obtain ⟨y, y1, y2⟩ := b2.get g2
          obtain ⟨u, u1, u2⟩ := r1.get x1
          obtain ⟨v, v1, v2⟩ := r2.get y1
          have e1 : its.toArray[j] = u := by rw [List.getElem?_eq_getElem j1] at u1; simpa using u1
          have e2 : its2.toArray[j] = v := by rw [List.getElem?_eq_getElem j2] at v1; simpa using v1
          rw [e1, e2]
          exact eqAt_D n (by rw [in1_units]; omega) (List.all_eq_true.mp p1 _ (List.mem_of_getElem? g1)) (List.all_eq_true.mp p2 _ (List.mem_of_getElem? g2)) x2 y2 u2 v2
        by_cases hab : a = b
        · subst hab
          have hsame : as = bs := by
            rw [a1] at b1
            cases b1
            exact DsR.one n as bs xs p1 p2 a2 b2
          rw [hsame, eqD_refl (n + 1) (.tup bs) (by unfold pln; exact p2)]
          exact SeqAt.EqAt.same _
        · rw [he]
          exact SeqAt.EqAt.of_refs hab (SeqAt.RcAt.tuples pl1 pl2 (by omega) hj)
    | ref _ => cases n <;> cases p2
    | scr _ => cases n <;> cases p2
  | ref _ => cases n <;> cases p1
  | scr _ => cases n <;> cases p1
include I in
theorem rcAt_D : ∀ (n : Nat) {A : Around} {d1 d2 : D} {x y : V} {u v : Value}, A.units + n < cLine → pln n d1 = true → pln n d2 = true → DR X.K ρ H d1 x → DR X.K ρ H d2 y → RelV x u → RelV y v → SeqAt.RcAt A s u v (eqD d1 d2) := by
  intro n A d1 d2 x y u v hu p1 p2 h1 h2 ru rv
  cases d1 with
  | non =>
    rw [h1.of_non] at ru
    cases ru
    cases d2 with
    | non => rw [h2.of_non] at rv; cases rv; exact SeqAt.RcAt.none_none
    | bl c => rw [h2.of_bl] at rv; cases rv; exact SeqAt.RcAt.none_bool c
    | int c => rw [h2.of_int] at rv; obtain ⟨t', rfl⟩ := rv; exact SeqAt.RcAt.none_int c t'
    | str c => rw [h2.of_str] at rv; obtain ⟨t', rfl⟩ := rv; exact SeqAt.RcAt.none_str c t'
    | tup bs =>
      obtain ⟨b, ys, rfl, b1, b2⟩ := h2.of_tup
      cases rv
      obtain ⟨its, _, pl, _⟩ := I.tuple (.of b1)
      exact SeqAt.RcAt.none_tuple pl (by omega)
    | ref _ => cases n <;> cases p2
    | scr _ => cases n <;> cases p2
  | bl a =>
    rw [h1.of_bl] at ru
    cases ru
    cases d2 with
    | non => rw [h2.of_non] at rv; cases rv; exact SeqAt.RcAt.bool_none a
    | bl c => rw [h2.of_bl] at rv; cases rv; exact SeqAt.RcAt.bool_bool a c
    | int c => rw [h2.of_int] at rv; obtain ⟨t', rfl⟩ := rv; exact SeqAt.RcAt.bool_int a c t'
    | str c => rw [h2.of_str] at rv; obtain ⟨t', rfl⟩ := rv; exact SeqAt.RcAt.bool_str a c t'
    | tup bs =>
      obtain ⟨b, ys, rfl, b1, b2⟩ := h2.of_tup
      cases rv
      obtain ⟨its, _, pl, _⟩ := I.tuple (.of b1)
      exact SeqAt.RcAt.bool_tuple a pl (by omega)
    | ref _ => cases n <;> cases p2
    | scr _ => cases n <;> cases p2
  | int a =>
    rw [h1.of_int] at ru
    obtain ⟨t, rfl⟩ := ru
    cases d2 with
    | non => rw [h2.of_non] at rv; cases rv; exact SeqAt.RcAt.int_none a t
    | bl c => rw [h2.of_bl] at rv; cases rv; exact SeqAt.RcAt.int_bool a t c
    | int c => rw [h2.of_int] at rv; obtain ⟨t', rfl⟩ := rv; exact SeqAt.RcAt.int_int a t c t'
    | str c => rw [h2.of_str] at rv; obtain ⟨t', rfl⟩ := rv; exact SeqAt.RcAt.int_str a t c t'
    | tup bs =>
      obtain ⟨b, ys, rfl, b1, b2⟩ := h2.of_tup
      cases rv
      obtain ⟨its, _, pl, _⟩ := I.tuple (.of b1)
      exact SeqAt.RcAt.int_tuple a t pl (by omega)
    | ref _ => cases n <;> cases p2
    | scr _ => cases n <;> cases p2
  | str a =>
    rw [h1.of_str] at ru
    obtain ⟨t, rfl⟩ := ru
    cases d2 with
    | non => rw [h2.of_non] at rv; cases rv; exact SeqAt.RcAt.str_none a t
    | bl c => rw [h2.of_bl] at rv; cases rv; exact SeqAt.RcAt.str_bool a t c
    | int c => rw [h2.of_int] at rv; obtain ⟨t', rfl⟩ := rv; exact SeqAt.RcAt.str_int a t c t'
    | str c => rw [h2.of_str] at rv; obtain ⟨t', rfl⟩ := rv; exact SeqAt.RcAt.str_str a t c t'
    | tup bs =>
      obtain ⟨b, ys, rfl, b1, b2⟩ := h2.of_tup
      cases rv
      obtain ⟨its, _, pl, _⟩ := I.tuple (.of b1)
      exact SeqAt.RcAt.str_tuple a t pl (by omega)
    | ref _ => cases n <;> cases p2
    | scr _ => cases n <;> cases p2
  | tup as =>
    obtain ⟨a, xs, rfl, a1, a2⟩ := h1.of_tup
    cases ru
    cases d2 with
    | non =>
      rw [h2.of_non] at rv
      cases rv
      obtain ⟨its, _, pl, _⟩ := I.tuple (.of a1)
      exact SeqAt.RcAt.tuple_none pl (by omega)
    | bl c =>
      rw [h2.of_bl] at rv
      cases rv
      obtain ⟨its, _, pl, _⟩ := I.tuple (.of a1)
      exact SeqAt.RcAt.tuple_bool c pl (by omega)
    | int c =>
      rw [h2.of_int] at rv
      obtain ⟨t', rfl⟩ := rv
      obtain ⟨its, _, pl, _⟩ := I.tuple (.of a1)
      exact SeqAt.RcAt.tuple_int c t' pl (by omega)
    | str c =>
      rw [h2.of_str] at rv
      obtain ⟨t', rfl⟩ := rv
      obtain ⟨its, _, pl, _⟩ := I.tuple (.of a1)
      exact SeqAt.RcAt.tuple_str c t' pl (by omega)
    | tup bs =>
      obtain ⟨b, ys, rfl, b1, b2⟩ := h2.of_tup
      cases rv
      cases n with
      | zero => cases p1
      | succ n =>
        unfold pln at p1 p2
        obtain ⟨its, r1, pl1, _⟩ := I.tuple (.of a1)
        obtain ⟨its2, r2, pl2, _⟩ := I.tuple (.of b1)
        have he : eqD (.tup as) (.tup bs) = ((List.range (min its.toArray.size its2.toArray.size)).all (fun j => eqD (as.getD j .non) (bs.getD j .non)) && its.toArray.size == its2.toArray.size) := by
          rw [eqD_tup, eqDs_range, List.size_toArray, List.size_toArray, ← r1.length, ← r2.length, ← a2.length, ← b2.length]
        have hj : ∀ j (h1 : j < its.toArray.size) (h2 : j < its2.toArray.size), SeqAt.EqAt A.in1 s its.toArray[j] its2.toArray[j] (eqD (as.getD j .non) (bs.getD j .non)) := by
          intro j j1 j2
          rw [List.size_toArray] at j1 j2
          have l1 : j < as.length := by rw [a2.length, r1.length]; exact j1
          have l2 : j < bs.length := by rw [b2.length, r2.length]; exact j2
          have g1 : as[j]? = some (as.getD j .non) := by simp [List.getD, List.getElem?_eq_getElem l1]
          have g2 : bs[j]? = some (bs.getD j .non) := by simp [List.getD, List.getElem?_eq_getElem l2]
          obtain ⟨x, x1, x2⟩ := a2.get g1
          obtain ⟨y, y1, y2⟩ := b2.get g2
          obtain ⟨u, u1, u2⟩ := r1.get x1
          obtain ⟨v, v1, v2⟩ := r2.get y1
          have e1 : its.toArray[j] = u := by rw [List.getElem?_eq_getElem j1] at u1; simpa using u1
          have e2 : its2.toArray[j] = v := by rw [List.getElem?_eq_getElem j2] at v1; simpa using v1
          rw [e1, e2]
          exact eqAt_D I n (by rw [in1_units]; omega) (List.all_eq_true.mp p1 _ (List.mem_of_getElem? g1)) (List.all_eq_true.mp p2 _ (List.mem_of_getElem? g2)) x2 y2 u2 v2
        rw [he]
        exact SeqAt.RcAt.tuples pl1 pl2 (by omega) hj
    | ref _ => cases n <;> cases p2
    | scr _ => cases n <;> cases p2
  | ref _ => cases n <;> cases p1
  | scr _ => cases n <;> cases p1
include I in
theorem rcNe_D : ∀ (n : Nat) {A : Around} {d1 d2 : D} {x y : V} {u v : Value}, A.units + n < cLine → pln n d1 = true → pln n d2 = true → DR X.K ρ H d1 x → DR X.K ρ H d2 y → RelV x u → RelV y v → SeqAt.RcNeAt A s u v (!eqD d1 d2) := by
  intro n A d1 d2 x y u v hu p1 p2 h1 h2 ru rv
  cases d1 with
  | non =>
    rw [h1.of_non] at ru
    cases ru
    cases d2 with
    | non => rw [h2.of_non] at rv; cases rv; exact SeqAt.RcNeAt.none_none
    | bl c => rw [h2.of_bl] at rv; cases rv; exact SeqAt.RcNeAt.none_bool c
    | int c => rw [h2.of_int] at rv; obtain ⟨t', rfl⟩ := rv; exact SeqAt.RcNeAt.none_int c t'
    | str c => rw [h2.of_str] at rv; obtain ⟨t', rfl⟩ := rv; exact SeqAt.RcNeAt.none_str c t'
    | tup bs =>
      obtain ⟨b, ys, rfl, b1, b2⟩ := h2.of_tup
      cases rv
      obtain ⟨its, _, pl, _⟩ := I.tuple (.of b1)
      exact SeqAt.RcNeAt.none_tuple pl (by omega)
    | ref _ => cases n <;> cases p2
    | scr _ => cases n <;> cases p2
  | bl a =>
    rw [h1.of_bl] at ru
    cases ru
    cases d2 with
    | non => rw [h2.of_non] at rv; cases rv; exact SeqAt.RcNeAt.bool_none a
    | bl c => rw [h2.of_bl] at rv; cases rv; exact SeqAt.RcNeAt.bool_bool a c
    | int c => rw [h2.of_int] at rv; obtain ⟨t', rfl⟩ := rv; exact SeqAt.RcNeAt.bool_int a c t'
    | str c => rw [h2.of_str] at rv; obtain ⟨t', rfl⟩ := rv; exact SeqAt.RcNeAt.bool_str a c t'
    | tup bs =>
      obtain ⟨b, ys, rfl, b1, b2⟩ := h2.of_tup
      cases rv
      obtain ⟨its, _, pl, _⟩ := I.tuple (.of b1)
      exact SeqAt.RcNeAt.bool_tuple a pl (by omega)
    | ref _ => cases n <;> cases p2
    | scr _ => cases n <;> cases p2
  | int a =>
    rw [h1.of_int] at ru
    obtain ⟨t, rfl⟩ := ru
    cases d2 with
    | non => rw [h2.of_non] at rv; cases rv; exact SeqAt.RcNeAt.int_none a t
    | bl c => rw [h2.of_bl] at rv; cases rv; exact SeqAt.RcNeAt.int_bool a t c
    | int c => rw [h2.of_int] at rv; obtain ⟨t', rfl⟩ := rv; exact SeqAt.RcNeAt.int_int a t c t'
    | str c => rw [h2.of_str] at rv; obtain ⟨t', rfl⟩ := rv; exact SeqAt.RcNeAt.int_str a t c t'
    | tup bs =>
      obtain ⟨b, ys, rfl, b1, b2⟩ := h2.of_tup
      cases rv
      obtain ⟨its, _, pl, _⟩ := I.tuple (.of b1)
      exact SeqAt.RcNeAt.int_tuple a t pl (by omega)
    | ref _ => cases n <;> cases p2
    | scr _ => cases n <;> cases p2
  | str a =>
    rw [h1.of_str] at ru
    obtain ⟨t, rfl⟩ := ru
    cases d2 with
    | non => rw [h2.of_non] at rv; cases rv; exact SeqAt.RcNeAt.str_none a t
    | bl c => rw [h2.of_bl] at rv; cases rv; exact SeqAt.RcNeAt.str_bool a t c
    | int c => rw [h2.of_int] at rv; obtain ⟨t', rfl⟩ := rv; exact SeqAt.RcNeAt.str_int a t c t'
    | str c => rw [h2.of_str] at rv; obtain ⟨t', rfl⟩ := rv; exact SeqAt.RcNeAt.str_str a t c t'
    | tup bs =>
      obtain ⟨b, ys, rfl, b1, b2⟩ := h2.of_tup
      cases rv
      obtain ⟨its, _, pl, _⟩ := I.tuple (.of b1)
      exact SeqAt.RcNeAt.str_tuple a t pl (by omega)
    | ref _ => cases n <;> cases p2
    | scr _ => cases n <;> cases p2
  | tup as =>
    obtain ⟨a, xs, rfl, a1, a2⟩ := h1.of_tup
    cases ru
    cases d2 with
    | non =>
      rw [h2.of_non] at rv
      cases rv
      obtain ⟨its, _, pl, _⟩ := I.tuple (.of a1)
      exact SeqAt.RcNeAt.tuple_none pl (by omega)
    | bl c =>
      rw [h2.of_bl] at rv
      cases rv
      obtain ⟨its, _, pl, _⟩ := I.tuple (.of a1)
      exact SeqAt.RcNeAt.tuple_bool c pl (by omega)
    | int c =>
      rw [h2.of_int] at rv
      obtain ⟨t', rfl⟩ := rv
      obtain ⟨its, _, pl, _⟩ := I.tuple (.of a1)
      exact SeqAt.RcNeAt.tuple_int c t' pl (by omega)
    | str c =>
      rw [h2.of_str] at rv
      obtain ⟨t', rfl⟩ := rv
      obtain ⟨its, _, pl, _⟩ := I.tuple (.of a1)
      exact SeqAt.RcNeAt.tuple_str c t' pl (by omega)
    | tup bs =>
      obtain ⟨b, ys, rfl, b1, b2⟩ := h2.of_tup
      cases rv
      cases n with
      | zero => cases p1
      | succ n =>
        unfold pln at p1 p2
        obtain ⟨its, r1, pl1, _⟩ := I.tuple (.of a1)
        obtain ⟨its2, r2, pl2, _⟩ := I.tuple (.of b1)
        have he : eqD (.tup as) (.tup bs) = ((List.range (min its.toArray.size its2.toArray.size)).all (fun j => eqD (as.getD j .non) (bs.getD j .non)) && its.toArray.size == its2.toArray.size) := by
          rw [eqD_tup, eqDs_range, List.size_toArray, List.size_toArray, ← r1.length, ← r2.length, ← a2.length, ← b2.length]
        have hj : ∀ j (h1 : j < its.toArray.size) (h2 : j < its2.toArray.size), SeqAt.EqAt A.in1 s its.toArray[j] its2.toArray[j] (eqD (as.getD j .non) (bs.getD j .non)) := by
          intro j j1 j2
          rw [List.size_toArray] at j1 j2
          have l1 : j < as.length := by rw [a2.length, r1.length]; exact j1
          have l2 : j < bs.length := by rw [b2.length, r2.length]; exact j2
          have g1 : as[j]? = some (as.getD j .non) := by simp [List.getD, List.getElem?_eq_getElem l1]
          have g2 : bs[j]? = some (bs.getD j .non) := by simp [List.getD, List.getElem?_eq_getElem l2]
          obtain ⟨x, x1, x2⟩ := a2.get g1
          obtain ⟨y, y1, y2⟩ := b2.get g2
          obtain ⟨u, u1, u2⟩ := r1.get x1
          obtain ⟨v, v1, v2⟩ := r2.get y1
          have e1 : its.toArray[j] = u := by rw [List.getElem?_eq_getElem j1] at u1; simpa using u1
          have e2 : its2.toArray[j] = v := by rw [List.getElem?_eq_getElem j2] at v1; simpa using v1
          rw [e1, e2]
          exact eqAt_D I n (by rw [in1_units]; omega) (List.all_eq_true.mp p1 _ (List.mem_of_getElem? g1)) (List.all_eq_true.mp p2 _ (List.mem_of_getElem? g2)) x2 y2 u2 v2
        rw [he]
        exact SeqAt.RcNeAt.tuples pl1 pl2 (by omega) hj
    | ref _ => cases n <;> cases p2
    | scr _ => cases n <;> cases p2
  | ref _ => cases n <;> cases p1
  | scr _ => cases n <;> cases p1
end
end DL
namespace DL
open PySem PySem.Spec PyProof.Rows L2
/-! ### < of plain data (own text) -/
def LtAt (A : Around) (s : Shared) (y x : Value) (b : Bool) : Prop :=
  ∀ (prog : Program) (w : World) (E : Value → Shared → Prop) (Q : Value → Shared → Prop), Q (.bool b) s → wpAny (model prog w) A (compareOp .Lt y x) Q E s
/-- item by item: are they the same, is the left one less; at the end fin -/
def lexB : List (Bool × Bool) → Bool → Bool
  | [], fin => fin
  | p :: r, fin => if p.1 = true then lexB r fin else p.2
section
open PySem.SeqAt
open PySem.AutoSeq1 (wpAny_loadPart')
open PySem.MeetsSeq PySem.MeetsSeq2 PySem.MeetsSeq3
def PairAt (A : Around) (s : Shared) (q : Value × Value) (p : Bool × Bool) : Prop := EqAt A s q.1 q.2 p.1 ∧ (p.1 = false → LtAt A s q.1 q.2 p.2)
theorem tuple_ltAt (l b : Addr) (items items2 : Array Value) (n n2 : Nat) (dd dd2 : Option Addr) (sl sl2 : Array (Option Value)) (ps : List (Bool × Bool)) :
    Meets (Builtin.«tuple.__lt__» ⟨[.ref l, .ref b], []⟩)
      (fun A R s => s.heap.get? l = some { cls := .type "tuple", dict := dd, data := .seq items n, slots := sl } ∧ s.heap.get? b = some { cls := .type "tuple", dict := dd2, data := .seq items2 n2, slots := sl2 } ∧
        Paired (PairAt A.in1 s) (items.toList.zip items2.toList) ps ∧ R (.ok (.ret (.bool (lexB ps (decide (items.size < items2.size)))))) s) :=
  .of_wp fun prog w A R s h => by
    obtain ⟨hp, g, d, tk, os⟩ := s; obtain ⟨hl, hb, hps, h⟩ := h
    have f2 := AutoSeq1.sub_tuple_tuple
    wp_walk using wpAny_loadPart' hl, wpAny_loadPart' hb, wpAny_forIn_list _ (fun rest b s' => b.1 = none ∧ s' = ⟨hp, g, d, tk, os⟩ ∧ ∃ (qs : List (Bool × Bool)), Paired (PairAt A.in1 ⟨hp, g, d, tk, os⟩) rest qs ∧
      R (.ok (.ret (.bool (lexB qs (decide (items.size < items2.size)))))) ⟨hp, g, d, tk, os⟩) _
    case turn =>
      rintro ⟨y, x⟩ rest b s' ⟨hb', rfl, qs, hq, hR⟩
      cases hq with
      | @cons _ p _ qs' hp1 hq' =>
        obtain ⟨he, hlt⟩ := hp1
        refine wpAny_bind (he prog w _ _ ?_)
        obtain ⟨pe, pl⟩ := p
        unfold lexB at hR
        cases pe with
        | true =>
          rw [if_pos rfl] at hR
          wp_walk
          exact ⟨rfl, rfl, qs', hq', hR⟩
        | false =>
          rw [if_neg Bool.false_ne_true] at hR
          have hri : ∀ (E : Value → Shared → Prop) (Q : Value → Shared → Prop), Q (.bool pl) ⟨hp, g, d, tk, os⟩ → wpAny (model prog w) A.in1 (richCompare .Lt y x) Q E ⟨hp, g, d, tk, os⟩ := hlt rfl prog w
          wp_walk using hri
          exact ⟨_, rfl, by simpa using hR⟩
    case fin =>
      rintro ⟨b1, b2⟩ s' ⟨hb', rfl, qs, hq, hR⟩
      simp only at hb'
      subst hb'
      cases hq
      unfold lexB at hR
      wp_walk
      exact ⟨_, rfl, by simpa [Builtin.Tuple.tupleCompareSizes] using hR⟩
    case h =>
      exact ⟨rfl, rfl, ps, hps, h⟩
theorem LtAt.tuples {A : Around} {s : Shared} {l b : Addr} {items items2 : Array Value} {ps : List (Bool × Bool)} (hl : s.heap.IsTuple l items) (hb : s.heap.IsTuple b items2) (hu : A.units < cLine) (hp : Paired (PairAt A.in1 s) (items.toList.zip items2.toList) ps) :
    LtAt A s (.ref l) (.ref b) (lexB ps (decide (items.size < items2.size))) := fun prog w E Q h => by
  obtain ⟨⟨cls, dd, data, sl⟩, ho, hc, n, hd⟩ := id hl
  obtain ⟨⟨cls2, dd2, data2, sl2⟩, ho2, hc2, n2, hd2⟩ := id hb
  simp only at hc hd hc2 hd2
  subst hc hd hc2 hd2
  exact richCompare_meets_room (op := .Lt) ⟨_, ho, rfl⟩ ⟨_, ho2, rfl⟩ PySem.F.slot_tuple_lt PySem.F.entry_tuple_lt (PySem.F.args_tuple_lt_2 _ _) (tuple_ltAt l b items items2 n n2 dd dd2 sl sl2 ps)
    ⟨ho, ho2, hp, show Value.bool (lexB ps (decide (items.size < items2.size))) ≠ Value.notImplemented ∧ Q (.bool (lexB ps (decide (items.size < items2.size)))) s from ⟨(fun x => nomatch x), h⟩⟩ hu
end
mutual
def ltD : D → D → Bool
  | .int a, b => match b with | .int c => decide (a < c) | _ => false
  | .str a, b => match b with | .str c => decide (a.cps.toList < c.cps.toList) | _ => false
  | .tup as, b => match b with | .tup bs => ltDs as bs | _ => false
  | .non, _ => false
  | .bl _, _ => false
  | .ref _, _ => false
  | .scr _, _ => false
def ltDs : List D → List D → Bool
  | [], b => match b with | [] => false | _ :: _ => true
  | a :: as, b => match b with | [] => false | b :: bs => if eqD a b = true then ltDs as bs else ltD a b
end
/-- the two can be ordered: ints, texts, tuples of such whose items can, place by place -/
def cmpOk : Nat → D → D → Bool
  | _, .int _, .int _ => true
  | _, .str _, .str _ => true
  | n + 1, .tup as, .tup bs => (as.zip bs).all fun p => cmpOk n p.1 p.2
  | _, _, _ => false
theorem ltD_tup (as bs : List D) : ltD (.tup as) (.tup bs) = ltDs as bs := by unfold ltD; rfl
theorem ltDs_cons (a b : D) (as bs : List D) : ltDs (a :: as) (b :: bs) = if eqD a b = true then ltDs as bs else ltD a b := by conv => lhs; unfold ltDs
theorem ltDs_lex : ∀ (as bs : List D), ltDs as bs = lexB ((as.zip bs).map fun p => (eqD p.1 p.2, ltD p.1 p.2)) (decide (as.length < bs.length))
  | [], [] => by simp [ltDs, lexB]
  | [], _ :: _ => by simp [ltDs, lexB]
  | _ :: _, [] => by simp [ltDs, lexB]
  | a :: as, b :: bs => by
    rw [ltDs_cons, ltDs_lex as bs, List.zip_cons_cons, List.map_cons, List.length_cons, List.length_cons]
    conv => rhs; unfold lexB
    have : decide (as.length + 1 < bs.length + 1) = decide (as.length < bs.length) := by
      rw [Bool.eq_iff_iff]; simp
    rw [this]
theorem cmpOk_pln : ∀ (n : Nat) (a b : D), cmpOk n a b = true → ∀ as bs, a = .tup as → b = .tup bs → ∃ m, n = m + 1 ∧ ((as.zip bs).all fun p => cmpOk m p.1 p.2) = true
  | 0, _, _, h, as, bs, ea, eb => by subst ea eb; cases h
  | n + 1, _, _, h, as, bs, ea, eb => by subst ea eb; exact ⟨n, rfl, by unfold cmpOk at h; exact h⟩
section
variable {X : Cx} {pins : List (Addr × Obj)} {σ : L2.St} {H : Hp} {s : Shared} {ρ : List Addr} (I : Inv X pins σ H s)
include I in
theorem ltAt_D : ∀ (n : Nat) {A : Around} {d1 d2 : D} {x y : V} {u v : Value}, A.units + n < cLine → cmpOk n d1 d2 = true → pln n d1 = true → pln n d2 = true → DR X.K ρ H d1 x → DR X.K ρ H d2 y → RelV x u → RelV y v → LtAt A s u v (ltD d1 d2) := by
  intro n
  induction n with
  | zero =>
    intro A d1 d2 x y u v hu hc p1 p2 h1 h2 ru rv
    cases d1 with
    | int a =>
      cases d2 with
      | int c =>
        rw [h1.of_int] at ru; rw [h2.of_int] at rv
        obtain ⟨t, rfl⟩ := ru; obtain ⟨t', rfl⟩ := rv
        exact fun prog w E Q h => lt_int (by unfold ltD at h; exact h)
      | _ => cases hc
    | str a =>
      cases d2 with
      | str c =>
        rw [h1.of_str] at ru; rw [h2.of_str] at rv
        obtain ⟨t, rfl⟩ := ru; obtain ⟨t', rfl⟩ := rv
        exact fun prog w E Q h => PySem.P.lt_str (by unfold ltD at h; exact h)
      | _ => cases hc
    | tup _ => cases p1
    | _ => cases hc
  | succ n ih =>
    intro A d1 d2 x y u v hu hc p1 p2 h1 h2 ru rv
    cases d1 with
    | int a =>
      cases d2 with
      | int c =>
        rw [h1.of_int] at ru; rw [h2.of_int] at rv
        obtain ⟨t, rfl⟩ := ru; obtain ⟨t', rfl⟩ := rv
        exact fun prog w E Q h => lt_int (by unfold ltD at h; exact h)
      | _ => cases hc
    | str a =>
      cases d2 with
      | str c =>
        rw [h1.of_str] at ru; rw [h2.of_str] at rv
        obtain ⟨t, rfl⟩ := ru; obtain ⟨t', rfl⟩ := rv
        exact fun prog w E Q h => PySem.P.lt_str (by unfold ltD at h; exact h)
      | _ => cases hc
    | tup as =>
      cases d2 with
      | tup bs =>
        obtain ⟨a, xs, rfl, a1, a2⟩ := h1.of_tup
        obtain ⟨b, ys, rfl, b1, b2⟩ := h2.of_tup
        cases ru
        cases rv
        unfold pln at p1 p2
        unfold cmpOk at hc
        obtain ⟨its, r1, pl1, _⟩ := I.tuple (.of a1)
        obtain ⟨its2, r2, pl2, _⟩ := I.tuple (.of b1)
        have key : ∀ {as bs : List D} {xs ys : List V} {its its2 : List Value}, as.all (pln n) = true → bs.all (pln n) = true → ((as.zip bs).all fun p => cmpOk n p.1 p.2) = true → DsR X.K ρ H as xs → DsR X.K ρ H bs ys → Vals xs its → Vals ys its2 →
            Paired (PairAt A.in1 s) (its.zip its2) ((as.zip bs).map fun p => (eqD p.1 p.2, ltD p.1 p.2)) := by
          intro as
          induction as with
          | nil =>
            intro bs xs ys its its2 _ _ _ q1 _ q3 _
            unfold DsR at q1
            subst q1
            cases q3
            exact .nil
          | cons d as ih2 =>
            intro bs xs ys its its2 z1 z2 z3 q1 q2 q3 q4
            unfold DsR at q1
            obtain ⟨x, r, rfl, h1, h2⟩ := q1
            cases q3 with
            | cons r1 r2 =>
              cases bs with
              | nil =>
                unfold DsR at q2
                subst q2
                cases q4
                exact .nil
              | cons e bs =>
                unfold DsR at q2
                obtain ⟨y, r', rfl, h3, h4⟩ := q2
                cases q4 with
                | cons r3 r4 =>
                  rw [List.all_cons, Bool.and_eq_true] at z1 z2
                  rw [List.zip_cons_cons, List.all_cons, Bool.and_eq_true] at z3
                  rw [List.zip_cons_cons, List.zip_cons_cons, List.map_cons]
                  refine .cons ⟨eqAt_D I n (by rw [in1_units]; omega) z1.1 z2.1 h1 h3 r1 r3, fun _ => ih (by rw [in1_units]; omega) z3.1 z1.1 z2.1 h1 h3 r1 r3⟩ (ih2 z1.2 z2.2 z3.2 h2 h4 r2 r4)
        have hl := LtAt.tuples (A := A) pl1 pl2 (by omega) (key p1 p2 hc a2 b2 r1 r2)
        rw [ltD_tup, ltDs_lex, a2.length, b2.length, r1.length, r2.length]
        simpa using hl
      | _ => cases hc
    | _ => cases hc
end
end DL
namespace DL
open PySem PySem.Spec PyProof.Rows L2
section
variable {X : Cx} {e a b c : Expr} {es : List Expr} {pos : Pos} {st : Stmt} {rest : List Stmt}

/-! ### statements -/
def mNx : MS := fun en S => some (.nx, en, S)
def mSeq (a b : MS) : MS := fun en S => (a en S).bind fun p => match p.1 with | .nx => b p.2.1 p.2.2 | f => some (f, p.2.1, p.2.2)
theorem sb_nil : SB X [] mNx := by
  refine pss_imp pss_nil ?_
  rintro D σ H ⟨ρ, en, S, f, en', S', E, R, e, k⟩
  cases e
  exact k ρ H σ Ext.refl R E
theorem sb_one {m : MS} (h : SS X st m) : SB X [st] m := pss_one h
theorem sb_cons {m n : MS} (h : SS X st m) (t : SB X rest n) : SB X (st :: rest) (mSeq m n) := by
  refine pss_imp (pss_cons h t) ?_
  rintro D σ H ⟨ρ, en, S, f, en', S', E, R, e, k⟩
  unfold mSeq at e
  obtain ⟨p, e1, e⟩ := Option.bind_eq_some_iff.mp e
  obtain ⟨fa, en1, S1⟩ := p
  refine ⟨ρ, en, S, fa, en1, S1, E, R, e1, fun ρ1 H1 σ1 X1 R1 E1 => ?_⟩
  cases fa with
  | nx => exact ⟨ρ1, en1, S1, f, en', S', E1, R1, e, fun ρ2 H2 σ2 X2 R2 E2 => k ρ2 H2 σ2 (X1.trans X2) R2 E2⟩
  | rt d => cases e; exact k ρ1 H1 σ1 X1 R1 E1
  | bk => cases e; exact k ρ1 H1 σ1 X1 R1 E1
  | ct => cases e; exact k ρ1 H1 σ1 X1 R1 E1
def mRet (m : M D) : MS := fun en S => (m en S).map fun p => (.rt p.1, en, p.2)
theorem ss_ret {m : M D} (h : SE X e m) : SS X (.Return (some e) pos) (mRet m) := by
  refine ps_imp (ps_ret h) ?_
  rintro D σ H ⟨ρ, en, S, f, en', S', E, R, e, k⟩
  unfold mRet at e
  obtain ⟨p, e1, e2⟩ := Option.map_eq_some_iff.mp e
  cases e2
  exact ⟨ρ, en, S, p.1, p.2, E, R, e1, fun x ρ1 H1 X1 R1 d1 => k ρ1 H1 σ X1 R1 (E.up X1) x d1⟩
def mRetN : MS := fun en S => some (.rt .non, en, S)
theorem ss_retN : SS X (.Return none pos) mRetN := by
  refine ps_imp ps_retN ?_
  rintro D σ H ⟨ρ, en, S, f, en', S', E, R, e, k⟩
  cases e
  exact k ρ H σ Ext.refl R E _ .flat_non
theorem ss_pass : SS X (.Pass pos) mNx := by
  refine ps_imp ps_pass ?_
  rintro D σ H ⟨ρ, en, S, f, en', S', E, R, e, k⟩
  cases e
  exact k ρ H σ Ext.refl R E
def mBk : MS := fun en S => some (.bk, en, S)
def mCt : MS := fun en S => some (.ct, en, S)
theorem ss_break : SS X (.Break pos) mBk := by
  refine ps_imp ps_break ?_
  rintro D σ H ⟨ρ, en, S, f, en', S', E, R, e, k⟩
  cases e
  exact k ρ H σ Ext.refl R E
theorem ss_cont : SS X (.Continue pos) mCt := by
  refine ps_imp ps_continue ?_
  rintro D σ H ⟨ρ, en, S, f, en', S', E, R, e, k⟩
  cases e
  exact k ρ H σ Ext.refl R E
def mDrop (m : M D) : MS := fun en S => (m en S).map fun p => (.nx, en, p.2)
theorem ss_expr {m : M D} (h : SE X e m) (hs : swapsWith e none pos.line X.env = pure false := by rfl) : SS X (.Expr e pos) (mDrop m) := by
  refine ps_imp (ps_expr h hs) ?_
  rintro D σ H ⟨ρ, en, S, f, en', S', E, R, e, k⟩
  unfold mDrop at e
  obtain ⟨p, e1, e2⟩ := Option.map_eq_some_iff.mp e
  cases e2
  exact ⟨ρ, en, S, p.1, p.2, E, R, e1, fun x ρ1 H1 X1 R1 d1 => k ρ1 H1 σ X1 R1 (E.up X1)⟩
def mIfS (c : M Bool) (a b : MS) : MS := fun en S => (c en S).bind fun p => if p.1 then a en p.2 else b en p.2
theorem ss_if {c : Expr} {A B : List Stmt} {mc : M Bool} {ma mb : MS} (hc : ST X c mc) (ha : SB X A ma) (hb : SB X B mb) : SS X (.If c A B pos) (mIfS mc ma mb) := by
  refine ps_imp (ps_if hc ha hb) ?_
  rintro D σ H ⟨ρ, en, S, f, en', S', E, R, e, k⟩
  unfold mIfS at e
  obtain ⟨p, e1, e⟩ := Option.bind_eq_some_iff.mp e
  refine ⟨ρ, en, S, p.1, p.2, E, R, e1, fun ρ1 H1 X1 R1 => ?_⟩
  by_cases hp : p.1 = true
  · rw [if_pos hp] at e ⊢
    exact ⟨ρ1, en, p.2, f, en', S', E.up X1, R1, e, fun ρ2 H2 σ2 X2 R2 E2 => k ρ2 H2 σ2 (X1.trans X2) R2 E2⟩
  · rw [if_neg hp] at e ⊢
    exact ⟨ρ1, en, p.2, f, en', S', E.up X1, R1, e, fun ρ2 H2 σ2 X2 R2 E2 => k ρ2 H2 σ2 (X1.trans X2) R2 E2⟩

/-! ### targets -/
def GD (K : PySem.W.Frag) (g : TG) (gd : D → En → Option En) : Prop :=
  ∀ ρ H en σ d v en', EnR K ρ H en σ → DR K ρ H d v → gd d en = some en' → ∃ σ', EnR K ρ H en' σ' ∧ ∀ Q : L2.St → Hp → Prop, Q σ' H → g v σ H Q
def GsD (K : PySem.W.Frag) (g : TGs) (gd : List D → En → Option En) : Prop :=
  ∀ ρ H en σ ds vs en', EnR K ρ H en σ → DsR K ρ H ds vs → gd ds en = some en' → ∃ σ', EnR K ρ H en' σ' ∧ ∀ Q : L2.St → Hp → Prop, Q σ' H → g vs σ H Q
def gN (i : Nat) : D → En → Option En := fun d en => some (en.set i (some d))
def gsNil : List D → En → Option En := fun ds en => match ds with | [] => some en | _ => none
def gsCons (g : D → En → Option En) (r : List D → En → Option En) : List D → En → Option En := fun ds en => match ds with | [] => none | d :: ds => (g d en).bind (r ds)
def gT (n : Nat) (gs : List D → En → Option En) : D → En → Option En := fun d en => match d with | .tup ds => if ds.length = n then gs ds en else none | _ => none
theorem gd_name {K : PySem.W.Frag} {i : Nat} : GD K (gName i) (gN i) := by
  intro ρ H en σ d v en' E h e
  cases e
  exact ⟨_, E.set h, fun Q q => q⟩
theorem gsd_nil {K : PySem.W.Frag} : GsD K gNil gsNil := by
  intro ρ H en σ ds vs en' E h e
  cases ds with
  | nil =>
    cases e
    have hv : vs = [] := by unfold DsR at h; exact h
    exact ⟨σ, E, fun Q q => ⟨hv, q⟩⟩
  | cons d ds => cases e
theorem gsd_cons {K : PySem.W.Frag} {t : TG} {u : TGs} {g : D → En → Option En} {r : List D → En → Option En} (h1 : GD K t g) (h2 : GsD K u r) : GsD K (gCons t u) (gsCons g r) := by
  intro ρ H en σ ds vs en' E h e
  cases ds with
  | nil => cases e
  | cons d ds =>
    obtain ⟨en1, e1, e2⟩ := Option.bind_eq_some_iff.mp e
    unfold DsR at h
    obtain ⟨x, xs, rfl, d1, d2⟩ := h
    obtain ⟨σ1, E1, k1⟩ := h1 ρ H en σ d x en1 E d1 e1
    obtain ⟨σ2, E2, k2⟩ := h2 ρ H en1 σ1 ds xs en' E1 d2 e2
    exact ⟨σ2, E2, fun Q q => ⟨x, xs, rfl, k1 _ (k2 Q q)⟩⟩
theorem gd_tup {K : PySem.W.Frag} {n : Nat} {t : TGs} {gs : List D → En → Option En} (h : GsD K t gs) : GD K (gTup K n t) (gT n gs) := by
  intro ρ H en σ d v en' E hd e
  cases d with
  | tup ds =>
    obtain ⟨a, xs, rfl, h1, h2⟩ := hd.of_tup
    dsimp only [gT] at e
    split at e
    · obtain ⟨σ', E', k⟩ := h ρ H en σ ds xs en' E h2 e
      exact ⟨σ', E', fun Q q => ⟨a, xs, rfl, .of h1, by rw [← h2.length]; assumption, k Q q⟩⟩
    · cases e
  | _ => cases e
def mAsg (m : M D) (g : D → En → Option En) : MS := fun en S => (m en S).bind fun p => (g p.1 en).map fun en' => (.nx, en', p.2)
theorem asg_read {K : PySem.W.Frag} {m : M D} {g : TG} {gd : D → En → Option En} (hg : GD K g gd) {D : Ends} {σ : L2.St} {H : Hp} (h : tMS K (mAsg m gd) D σ H) : tAsg (tM K m) g D σ H := by
  obtain ⟨ρ, en, S, f, en', S', E, R, e, k⟩ := h
  unfold mAsg at e
  obtain ⟨p, e1, e⟩ := Option.bind_eq_some_iff.mp e
  obtain ⟨en1, e2, e3⟩ := Option.map_eq_some_iff.mp e
  cases e3
  refine ⟨ρ, en, S, p.1, p.2, E, R, e1, fun x ρ1 H1 X1 R1 d1 => ?_⟩
  obtain ⟨σ', E', q⟩ := hg ρ1 H1 en σ p.1 x _ (E.up X1) d1 e2
  exact q _ (k ρ1 H1 σ' X1 R1 E')
theorem ss_asg {tg : Expr} {m : M D} {g : TG} {gd : D → En → Option En} (he : SE X e m) (hp : PG X tg g) (hg : GD X.K g gd) (hs : swapsWithSole [tg] e pos.line X.env = pure false := by rfl) (hw : swappedStores [tg] e X.env = pure none := by rfl)
    (h1 : (assignEach [tg] X.env).map (·.2) = [assign tg X.env] := by rfl) : SS X (.Assign [tg] e pos) (mAsg m gd) := ps_imp (ps_asg he hp hs hw h1) fun _ _ _ => asg_read hg
theorem ss_set {i : Nat} {x : Str} {m : M D} {pos' : Pos} (hN : X.N.Nodup) (hi : X.N[i]? = some x) (hx : Loc X.env.scope x) (he : SE X e m) (hs : swapsWith e (some (.Name x pos')) pos.line X.env = pure false := by rfl)
    (hf : X.fn x = true ∨ X.env.scope.names.lookup x = some .local := by first | exact .inl rfl | exact .inr rfl | assumption) : SS X (.Assign [.Name x pos'] e pos) (mAsg m (gN i)) :=
  ps_imp (ps_set hN hi hx he hs hf) fun _ _ _ => asg_read gd_name

/-! ### what is walked -/
/-- what a loop walks: nothing that may change; a list of the store; a dict of the store that is frozen meanwhile (th: by this loop, which thaws it) -/
inductive Gd where
  | no
  | lst (n : Nat)
  | fr (n : Nat) (kvs : List (D × D)) (th : Bool)
def GdOk (gd : Gd) (ds : List D) (S : Sto) : Prop := match gd with | .no => True | .lst n => S[n]? = some (.lst ds) | .fr n kvs _ => S[n]? = some (.fdct kvs)
def thawS (gd : Gd) (S : Sto) : Option Sto := match gd with
  | .fr n _ true => match S[n]? with | some (.fdct kvs) => some (S.set n (.dct kvs)) | _ => none
  | _ => some S
def ItR (K : PySem.W.Frag) (ρ0 : List Addr) (H0 : Hp) (J : It) (ds : List D) (gd : Gd) : Prop := ∀ ρ H S, Ext ρ0 H0 ρ H → StR K ρ H S → GdOk gd ds S →
  (∀ (i : Nat) d, ds[i]? = some d → J.go i H ∧ ∀ x H', J.yld i H x H' → Ext ρ H ρ H' ∧ StR K ρ H' S ∧ DR K ρ H' d x) ∧ J.stop ds.length H
abbrev ItD := List D × Gd
/-- of a dict that this loop froze: it was not frozen ahead of it, nor at the entry -/
def GF (X : Cx) (gd : Gd) (ρ : List Addr) (H : Hp) : Prop := match gd with
  | .fr n _ true => ∃ a, ρ[n]? = some a ∧ (∀ o u, H a ≠ some (.frz o u)) ∧ (∀ xs, H a ≠ some (.tup xs)) ∧ ∀ o u, X.H₀ a ≠ some (.frz o u)
  | _ => True
def tMI (X : Cx) (mi : M ItD) : TI := fun σ H R => ∃ ρ en S r S', EnR X.K ρ H en σ ∧ StR X.K ρ H S ∧ mi en S = some (r, S') ∧ ∀ J ρ' H', Ext ρ H ρ' H' → StR X.K ρ' H' S' → ItR X.K ρ' H' J r.1 r.2 → GF X r.2 ρ' H → R J H'
def SI (X : Cx) (tg iter : Expr) (mi : M ItD) : Prop := PI X tg iter (tMI X mi)
/-! thawing -/
def Thaw (X : Cx) (H H' : Hp) : Prop := ∀ pins σ s, Inv X pins σ H s → Inv X pins σ H' s
theorem Thaw.refl {X : Cx} {H : Hp} : Thaw X H H := fun _ _ _ h => h
theorem pe_thaw {t : TE} (h : PE X e t) : PE X e (fun σ H Q => t σ H fun v H' => ∃ H'', Thaw X H' H'' ∧ Q v H'') := by
  intro pins s σ H Q I q
  exact thn (h pins s σ H _ I q) fun v s1 ⟨x, H1, I1, r1, H2, th, q1⟩ => ⟨x, H2, th _ _ _ I1, r1, q1⟩
theorem ps_thaw {st : Stmt} {t : TS} (h : PS X st t) : PS X st (fun D σ H => t ⟨fun σ H' => ∃ H'', Thaw X H' H'' ∧ D.nx σ H'', fun v H' => ∃ H'', Thaw X H' H'' ∧ D.rt v H'', fun σ H' => ∃ H'', Thaw X H' H'' ∧ D.bk σ H'', fun σ H' => ∃ H'', Thaw X H' H'' ∧ D.ct σ H''⟩ σ H) := by
  intro pins s σ H D I q
  refine thn (h pins s σ H _ I q) fun f s1 z => ?_
  cases f with
  | next => obtain ⟨σ1, H1, I1, H2, th, q1⟩ := z; exact ⟨σ1, H2, th _ _ _ I1, q1⟩
  | brk => obtain ⟨σ1, H1, I1, H2, th, q1⟩ := z; exact ⟨σ1, H2, th _ _ _ I1, q1⟩
  | cont => obtain ⟨σ1, H1, I1, H2, th, q1⟩ := z; exact ⟨σ1, H2, th _ _ _ I1, q1⟩
  | ret u => obtain ⟨v, σ1, H1, I1, r1, H2, th, q1⟩ := z; exact ⟨v, σ1, H2, th _ _ _ I1, r1, q1⟩
/-- a dict that was frozen in this body is thawed -/
theorem inv_thaw {pins : List (Addr × Obj)} {σ : L2.St} {H : Hp} {s : Shared} {a : Addr} {o : Obj} {tab : List (Key × V)} (I : Inv X pins σ H s) (e : H a = some (.frz o (.dK tab))) (hn : ∀ o u, X.H₀ a ≠ some (.frz o u)) : Inv X pins σ (upd H a (.dK tab)) s := by
  have ho : ObjOk X.prog X.w H s.heap a (.frz o (.dK tab)) := I.hok a _ e
  have ok' : HOk X.prog X.w (upd H a (.dK tab)) s.heap := fun b u hb => by
    by_cases q : b = a
    · subst q
      rw [upd_same] at hb
      cases hb
      obtain ⟨_, z, hd, vs, r⟩ := ho
      exact ⟨z, hd, vs, r⟩
    · rw [upd_ne q] at hb
      refine (I.hok b u hb).stay (fun _ _ _ h => h) (fun c h => ?_) fun c xs h => ?_
      · rw [upd_ne (ne_of h e (fun z => nomatch z))]; exact h
      · rw [upd_ne (ne_of h e (fun z => nomatch z))]; exact h
  have ne0 : ∀ {b : Addr}, H b = none → upd H a (.dK tab) b = none := fun {b} h => by rw [upd_ne (Ne.symm (ne_of_none e h))]; exact h
  refine ⟨I.ok, I.os, I.bare, ⟨I.base.keep, I.base.slot, fun b u h1 h2 h3 => ne0 (I.base.free b u h1 h2 h3), I.base.there, fun b xs h => ?_, fun b u v h => ?_, fun b ps h => ?_⟩, I.loc, I.cell, ne0 I.free, fun x c h => ne0 (I.freeC x c h), fun p hp => ?_, ok', I.len⟩
  · have := I.base.tups b xs h
    rw [upd_ne (ne_of this e (fun z => nomatch z))]; exact this
  · have := I.base.frzs b u v h
    by_cases q : b = a
    · subst q; exact absurd h (hn _ _)
    · rw [upd_ne q]; exact this
  · obtain ⟨more, this⟩ := I.base.tbls b ps h
    exact ⟨more, by rw [upd_ne (ne_of this e (fun z => nomatch z))]; exact this⟩
  · obtain ⟨p1, p2, p3⟩ := I.pin p hp
    exact ⟨p1, ne0 p2, p3⟩
/-- the store thawed, and the heap with it, also where something new was laid -/
theorem thaw_ok {gd : Gd} {ρ ρ' ρ1 : List Addr} {H H1 H' : Hp} {S' S'' : Sto} (X1 : Ext ρ H ρ1 H1) (F : GF X gd ρ1 H) (X2 : Ext ρ1 H1 ρ' H') (R : StR X.K ρ' H' S') (e : thawS gd S' = some S'') :
    ∃ H'', Thaw X H' H'' ∧ Ext ρ H ρ' H'' ∧ StR X.K ρ' H'' S'' ∧ Ext0 ρ' H' ρ' H'' ∧ ∀ p o, H' p = none → H'' p = none ∧ Thaw X (upd H' p o) (upd H'' p o) := by
  have triv : some S' = some S'' → ∃ H'', Thaw X H' H'' ∧ Ext ρ H ρ' H'' ∧ StR X.K ρ' H'' S'' ∧ Ext0 ρ' H' ρ' H'' ∧ ∀ p o, H' p = none → H'' p = none ∧ Thaw X (upd H' p o) (upd H'' p o) := fun z => by
    cases z
    exact ⟨H', .refl, X1.trans X2, R, Ext.refl.weak, fun p o h => ⟨h, .refl⟩⟩
  cases gd with
  | no => exact triv e
  | lst n => exact triv e
  | fr n kvs th =>
    cases th with
    | false => exact triv e
    | true =>
      obtain ⟨a, h1, h2, h3, h4⟩ := F
      dsimp only [thawS] at e
      split at e
      · rename_i kvs' hn
        cases e
        obtain ⟨o, tab, t1, t2, t3⟩ := R.thaw (X2.pre n a h1) hn
        refine ⟨_, fun pins σ s I => inv_thaw I t1 h4, ⟨fun m b hb => X2.pre m b (X1.pre m b hb), fun b xs hb => ?_, fun b o u hb => ?_⟩, t2, t3, fun p ob hp => ?_⟩
        · have := (X1.trans X2).tup b xs hb
          rw [upd_ne (ne_of this t1 (fun z => nomatch z))]; exact this
        · have := (X1.trans X2).frz b o u hb
          by_cases q : b = a
          · subst q; exact absurd hb (h2 _ _)
          · rw [upd_ne q]; exact this
        · have hpa : a ≠ p := ne_of_none t1 hp
          refine ⟨by rw [upd_ne (Ne.symm hpa)]; exact hp, fun pins σ s I => ?_⟩
          have := inv_thaw (a := a) (o := o) (tab := tab) I (by rw [upd_ne hpa]; exact t1) h4
          have eq : upd (upd H' p ob) a (.dK tab) = upd (upd H' a (.dK tab)) p ob := by
            funext b
            unfold upd
            by_cases q1 : b = a
            · rw [if_pos q1]
              by_cases q2 : b = p
              · exact absurd (q1.symm.trans q2) hpa
              · rw [if_neg q2, if_pos q1]
            · rw [if_neg q1]
              by_cases q2 : b = p
              · rw [if_pos q2, if_pos q2]
              · rw [if_neg q2, if_neg q2, if_neg q1]
          rw [eq] at this
          exact this
      · cases e
theorem pi_imp {tg iter : Expr} {w w' : TI} (h : PI X tg iter w) (i : ∀ σ H R, w' σ H R → w σ H R) : PI X tg iter w' := fun pins s σ H R I q => h pins s σ H R I (i σ H R q)

open Classical in
noncomputable def forGo (ds : List D) (gd : Gd) (g : D → En → Option En) (body : MS) : List D → En → Sto → Option (Fl × En × Sto)
  | [], en, S => if GdOk gd ds S then some (.nx, en, S) else none
  | d :: r, en, S => if GdOk gd ds S then (g d en).bind fun en1 => (body en1 S).bind fun p => match p.1 with
      | .nx => forGo ds gd g body r p.2.1 p.2.2
      | .ct => forGo ds gd g body r p.2.1 p.2.2
      | .bk => some (.nx, p.2.1, p.2.2)
      | .rt v => some (.rt v, p.2.1, p.2.2)
    else none
def thF (gd : Gd) (r : Option (Fl × En × Sto)) : Option (Fl × En × Sto) := r.bind fun q => (thawS gd q.2.2).map fun S' => (q.1, q.2.1, S')
noncomputable def mFor (mi : M ItD) (g : D → En → Option En) (body : MS) : MS := fun en S => (mi en S).bind fun p => thF p.1.2 (forGo p.1.1 p.1.2 g body p.1.1 en p.2)
theorem ss_for {tg iter : Expr} {body : List Stmt} {mi : M ItD} {g : TG} {gd : D → En → Option En} {mb : MS} (hp : PassesOwn (model X.prog X.w) X.A X.env X.xe) (hc : X.calm = true) (hi : SI X tg iter mi) (hg : PG X tg g) (hgd : GD X.K g gd) (hb : SB X body mb)
    (hs : ∀ x, foldedSetIterable iter X.env x = pure x := by intro _; rfl) : SS X (.For tg iter body [] pos) (mFor mi gd mb) := by
  refine ps_imp (ps_thaw (ps_for hp hc hi hg hb hs)) ?_
  rintro D σ H ⟨ρ, en, S, f, enF, SF, E, R, e, k⟩
  unfold mFor at e
  obtain ⟨p, e1, e⟩ := Option.bind_eq_some_iff.mp e
  obtain ⟨⟨ds, gdn⟩, S1⟩ := p
  refine ⟨ρ, en, S, (ds, gdn), S1, E, R, e1, fun J ρ1 H1 X1 R1 IT GG => ?_⟩
  dsimp only at e IT GG
  unfold thF at e
  obtain ⟨⟨f0, en0, S0⟩, eg, e0⟩ := Option.bind_eq_some_iff.mp e
  obtain ⟨SF', e00, e0⟩ := Option.map_eq_some_iff.mp e0
  injection e0 with z1 z2
  injection z2 with z2 z3
  dsimp only at z1 z2 z3 e00
  subst z1 z2 z3
  refine ⟨fun i m σ' H' => m + i = ds.length ∧ ∃ ρ' en' S', Ext ρ1 H1 ρ' H' ∧ StR X.K ρ' H' S' ∧ EnR X.K ρ' H' en' σ' ∧ forGo ds gdn gd mb (ds.drop i) en' S' = some (f0, en0, S0), ⟨ds.length, by omega, ρ1, en, S1, Ext.refl, R1, E.up X1, by simpa using eg⟩, ?_⟩
  rintro i m σ' H' ⟨hm, ρ', en1, S2, X2, R2, E2, e2⟩
  cases hd : ds.drop i with
  | nil =>
    rw [hd] at e2
    unfold forGo at e2
    split at e2
    · rename_i hg0
      cases e2
      have hi : i = ds.length := by
        have := congrArg List.length hd
        simp at this
        omega
      subst hi
      obtain ⟨H9, t1, t2, t3, t4, t5⟩ := thaw_ok X1 GG X2 R2 e00
      exact .inl ⟨(IT ρ' H' _ X2 R2 hg0).2, H9, t1, k ρ' H9 σ' t2 t3 (E2.up0 t4)⟩
    · cases e2
  | cons d r =>
    rw [hd] at e2
    unfold forGo at e2
    split at e2
    · rename_i hg0
      obtain ⟨en3, e3, e2⟩ := Option.bind_eq_some_iff.mp e2
      obtain ⟨q, e4, e2⟩ := Option.bind_eq_some_iff.mp e2
      obtain ⟨fq, en4, S4⟩ := q
      have hlt : i < ds.length := by
        have := congrArg List.length hd
        simp at this
        omega
      have hdi : ds[i]? = some d := by
        have := congrArg (fun l => l[0]?) hd
        simpa using this
      have hr : ds.drop (i + 1) = r := by
        have := congrArg List.tail hd
        simpa using this
      obtain ⟨go, yl⟩ := (IT ρ' H' _ X2 R2 hg0).1 i d hdi
      refine .inr ⟨go, fun σ'' H'' => ∃ ρ'' en'' S'', Ext ρ1 H1 ρ'' H'' ∧ StR X.K ρ'' H'' S'' ∧ EnR X.K ρ'' H'' en'' σ'' ∧ forGo ds gdn gd mb r en'' S'' = some (f0, en0, S0), fun σ'' H'' ⟨ρ'', en'', S'', a1, a2, a3, a4⟩ => ⟨m - 1, by omega, by omega, ρ'', en'', S'', a1, a2, a3, by rw [hr]; exact a4⟩, fun x H3 y => ?_⟩
      obtain ⟨X3, R3, d3⟩ := yl x H3 y
      obtain ⟨σ3, E3, gq⟩ := hgd ρ' H3 en1 σ' d x en3 (E2.up X3) d3 e3
      refine gq _ ⟨ρ', en3, S2, fq, en4, S4, E3, R3, e4, fun ρ4 H4 σ4 X4 R4 E4 => ?_⟩
      cases fq with
      | nx => exact ⟨ρ4, en4, S4, (X2.trans X3).trans X4, R4, E4, e2⟩
      | ct => exact ⟨ρ4, en4, S4, (X2.trans X3).trans X4, R4, E4, e2⟩
      | bk =>
        cases e2
        obtain ⟨H9, t1, t2, t3, t4, t5⟩ := thaw_ok X1 GG ((X2.trans X3).trans X4) R4 e00
        exact ⟨H9, t1, k ρ4 H9 σ4 t2 t3 (E4.up0 t4)⟩
      | rt v =>
        cases e2
        obtain ⟨H9, t1, t2, t3, t4, t5⟩ := thaw_ok X1 GG ((X2.trans X3).trans X4) R4 e00
        exact fun x dx => ⟨H9, t1, k ρ4 H9 σ4 t2 t3 (E4.up0 t4) x (DR.mono t4 _ _ dx)⟩
    · cases e2

/-! ### comprehensions -/
open Classical in
noncomputable def compGo (ds : List D) (gd : Gd) (cap : En) (g : D → En → Option En) (c : M Bool) (m : M D) : List D → List D → Sto → Option (List D × Sto)
  | [], acc, S => if GdOk gd ds S ∧ acc.length ≤ sizeLine then some (acc, S) else none
  | d :: r, acc, S => if GdOk gd ds S ∧ acc.length ≤ sizeLine then (g d cap).bind fun en => (c en S).bind fun p =>
      if p.1 then (m en p.2).bind fun q => compGo ds gd cap g c m r (acc ++ [q.1]) q.2 else compGo ds gd cap g c m r acc p.2
    else none
def capEn (nT : Nat) (caps : List Nat) (en : En) : En := List.replicate nT none ++ caps.map fun j => (en[j]?).getD none
def thC (gd : Gd) (r : Option (List D × Sto)) : Option (List D × Sto) := r.bind fun q => (thawS gd q.2).map fun S' => (q.1, S')
noncomputable def mComp (mi : M ItD) (nT : Nat) (caps : List Nat) (g : D → En → Option En) (c : M Bool) (m : M D) : M (List D) := fun en S => (mi en S).bind fun p => thC p.1.2 (compGo p.1.1 p.1.2 (capEn nT caps en) g c m p.1.1 [] p.2)
theorem cap_en {K : PySem.W.Frag} {ρ : List Addr} {H : Hp} {en : En} {σ : L2.St} {nT : Nat} {caps : List Nat} (E : EnR K ρ H en σ) : EnR K ρ H (capEn nT caps en) (capSt nT caps σ) := by
  refine ⟨by simp [capEn, capSt], fun i d e => ?_⟩
  unfold capEn at e
  have hi : nT ≤ i := by
    by_cases hi : i < nT
    · rw [List.getElem?_append_left (by simpa using hi), List.getElem?_replicate] at e
      split at e <;> cases e
    · exact Nat.le_of_not_lt hi
  rw [List.getElem?_append_right (by simpa using hi), List.length_replicate, List.getElem?_map] at e
  unfold capSt
  rw [List.getElem?_append_right (by simpa using hi), List.length_replicate, List.getElem?_map]
  cases ej : caps[i - nT]? with
  | none => rw [ej] at e; cases e
  | some j =>
    rw [ej] at e
    have e' : (en[j]?).getD none = some d := Option.some.inj e
    have e2 : en[j]? = some (some d) := by
      cases q : en[j]? with
      | none => rw [q] at e'; cases e'
      | some z => rw [q] at e'; rw [show z = some d from e']
    obtain ⟨x, h1, h2⟩ := E.get j d e2
    exact ⟨x, by rw [Option.map_some, h1]; rfl, h2⟩
def mTrue : M Bool := fun _ S => some (true, S)
theorem comp_read {mi : M ItD} {nT : Nat} {caps : List Nat} {g : TG} {gd : D → En → Option En} {tt : TT} {c : M Bool} {m : M D} (hgd : GD X.K g gd) (htt : ∀ σ H Q, tMT X.K c σ H Q → tt σ H Q) {σ : L2.St} {H : Hp} {Q : VK}
    {ρ : List Addr} {en : En} {S S' : Sto} {ds : List D} (E : EnR X.K ρ H en σ) (R : StR X.K ρ H S) (e : mComp mi nT caps gd c m en S = some (ds, S'))
    (k : ∀ a xs ρ' H', Ext ρ H ρ' H' → StR X.K ρ' H' S' → H' a = none → DsR X.K ρ' H' ds xs → Q (.ref a) (upd H' a (.lst xs))) : tComp (tMI X mi) nT caps g tt (tM X.K m) σ H (fun v H' => ∃ H'', Thaw X H' H'' ∧ Q v H'') := by
  unfold mComp at e
  obtain ⟨p, e1, e⟩ := Option.bind_eq_some_iff.mp e
  obtain ⟨⟨is, gdn⟩, S1⟩ := p
  refine ⟨ρ, en, S, (is, gdn), S1, E, R, e1, fun J ρ1 H1 X1 R1 IT GG => ?_⟩
  dsimp only at e IT GG
  unfold thC at e
  obtain ⟨⟨ds0, S0⟩, eg, e0⟩ := Option.bind_eq_some_iff.mp e
  obtain ⟨SF', e00, e0⟩ := Option.map_eq_some_iff.mp e0
  injection e0 with z1 z2
  dsimp only at z1 z2 e00
  subst z1 z2
  refine ⟨fun i m0 ys H' => m0 + i = is.length ∧ ∃ ρ' S2 acc, Ext ρ1 H1 ρ' H' ∧ StR X.K ρ' H' S2 ∧ DsR X.K ρ' H' acc ys ∧ compGo is gdn (capEn nT caps en) gd c m (is.drop i) acc S2 = some (ds0, S0), ⟨is.length, by omega, ρ1, S1, [], Ext.refl, R1, .nil, by simpa using eg⟩, ?_⟩
  rintro i m0 ys H' ⟨hm, ρ', S2, acc, X2, R2, D2, e2⟩
  cases hd : is.drop i with
  | nil =>
    rw [hd] at e2
    unfold compGo at e2
    split at e2
    · rename_i hg0
      cases e2
      have hi : i = is.length := by
        have := congrArg List.length hd
        simp at this
        omega
      subst hi
      refine .inl ⟨(IT ρ' H' _ X2 R2 hg0.1).2, by rw [← D2.length]; exact hg0.2, fun a ha => ?_⟩
      obtain ⟨H9, t1, t2, t3, t4, t5⟩ := thaw_ok X1 GG X2 R2 e00
      obtain ⟨h9, t6⟩ := t5 a (.lst ys) ha
      exact ⟨upd H9 a (.lst ys), t6, k a ys ρ' H9 t2 t3 h9 (DsR.mono t4 _ _ D2)⟩
    · cases e2
  | cons d r =>
    rw [hd] at e2
    unfold compGo at e2
    split at e2
    · rename_i hg0
      obtain ⟨en3, e3, e2⟩ := Option.bind_eq_some_iff.mp e2
      obtain ⟨q, e4, e2⟩ := Option.bind_eq_some_iff.mp e2
      have hlt : i < is.length := by
        have := congrArg List.length hd
        simp at this
        omega
      have hdi : is[i]? = some d := by
        have := congrArg (fun l => l[0]?) hd
        simpa using this
      have hr : is.drop (i + 1) = r := by
        have := congrArg List.tail hd
        simpa using this
      obtain ⟨go, yl⟩ := (IT ρ' H' _ X2 R2 hg0.1).1 i d hdi
      refine .inr ⟨go, by rw [← D2.length]; exact hg0.2, fun x H3 y => ?_⟩
      obtain ⟨X3, R3, d3⟩ := yl x H3 y
      obtain ⟨σ3, E3, gq⟩ := hgd ρ' H3 (capEn nT caps en) (capSt nT caps σ) d x en3 (((cap_en E).up X1).up X2 |>.up X3) d3 e3
      refine gq _ (htt _ _ _ ⟨ρ', en3, S2, q.1, q.2, E3, R3, e4, fun ρ4 H4 X4 R4 => ?_⟩)
      by_cases hq : q.1 = true
      · rw [if_pos hq] at e2 ⊢
        obtain ⟨w, e5, e2⟩ := Option.bind_eq_some_iff.mp e2
        refine ⟨ρ4, en3, q.2, w.1, w.2, E3.up X4, R4, e5, fun v ρ5 H5 X5 R5 d5 => ⟨m0 - 1, by omega, by omega, ρ5, w.2, acc ++ [w.1], ((X2.trans X3).trans X4).trans X5, R5, ?_, by rw [hr]; exact e2⟩⟩
        exact (((D2.up X3).up X4).up X5).append (.cons d5 .nil)
      · rw [if_neg hq] at e2 ⊢
        exact ⟨m0 - 1, by omega, by omega, ρ4, q.2, acc, (X2.trans X3).trans X4, R4, (D2.up X3).up X4, by rw [hr]; exact e2⟩
    · cases e2

/-- the facts of a comprehension's scope, here -/
structure CompSc (X : Cx) (scope : Scope) (cn : List Str) (caps : List Nat) : Prop where
  cell : ∀ y ∈ scope.names, y.2 ≠ .cell
  kind : scope.kind = .function
  names : ∀ y ∈ scope.names, y.2 = .local → scope.names.lookup y.1 = some .local
  free : ∀ y ∈ scope.names, y.2 = .free → X.env.scope.names.lookup y.1 = some .cell ∨ X.env.scope.names.lookup y.1 = some .free
  cap : CapOk X scope cn caps
section
variable {tg iter elt : Expr} {ifs : List Expr} {scope : Scope} {tgs cn : List Str} {caps : List Nat} {mi : M ItD} {g : TG} {gd : D → En → Option En} {mc : M Bool} {m : M D}
def SF (X : Cx) (ifs : List Expr) (m : M Bool) : Prop := PF X ifs (tMT X.K m)
theorem sf_nil : SF X [] mTrue := by
  intro pins s σ H Q I q
  obtain ⟨ρ, en, S, b, S', E, R, e, k⟩ := q
  cases e
  exact pf_nil pins s σ H Q I (k ρ H Ext.refl R)
theorem sf_one {c : Expr} (h : ST X c mc) : SF X [c] mc := pf_one h
/-- a comprehension that is consumed on the spot -/
theorem sq_comp (hc : X.calm = true) (sc : CompSc X scope cn caps) (hi : SI X tg iter mi) (hlow : GLow tgs.length g) (hgd : GD X.K g gd)
    (hg : ∀ fp s H C, PG (compCx X scope (tgs ++ cn) fp s H C) tg g) (hf : ∀ fp s H C, SF (compCx X scope (tgs ++ cn) fp s H C) ifs mc) (he : ∀ fp s H C, SE (compCx X scope (tgs ++ cn) fp s H C) elt m)
    (hs : ∀ x, foldedSetIterable iter X.env x = pure x := by intro _; rfl) : SQ X (.ListComp elt [⟨tg, iter, ifs, 0⟩] scope pos) (mComp mi tgs.length caps gd mc m) := by
  refine pe_imp (pe_thaw (pe_comp (tt := tMT X.K mc) (te := tM X.K m) hc sc.cell sc.kind sc.names sc.free sc.cap hi hlow hg hf he hs)) ?_
  rintro σ H Q ⟨ρ, en, S, ds, S', E, R, e, k⟩
  exact comp_read hgd (fun _ _ _ h => h) E R e fun a xs ρ' H' X1 R1 ha d1 => k a xs ρ' _ (X1.trans (Ext.new ha)) (R1.new ha) (.inl (.of upd_same)) (d1.up (Ext.new ha))
def mKeep (m : M (List D)) : M D := fun en S => (m en S).map fun p => (.ref p.2.length, p.2 ++ [.lst p.1])
theorem se_comp (hc : X.calm = true) (sc : CompSc X scope cn caps) (hi : SI X tg iter mi) (hlow : GLow tgs.length g) (hgd : GD X.K g gd)
    (hg : ∀ fp s H C, PG (compCx X scope (tgs ++ cn) fp s H C) tg g) (hf : ∀ fp s H C, SF (compCx X scope (tgs ++ cn) fp s H C) ifs mc) (he : ∀ fp s H C, SE (compCx X scope (tgs ++ cn) fp s H C) elt m)
    (hs : ∀ x, foldedSetIterable iter X.env x = pure x := by intro _; rfl) : SE X (.ListComp elt [⟨tg, iter, ifs, 0⟩] scope pos) (mKeep (mComp mi tgs.length caps gd mc m)) := by
  refine pe_imp (pe_thaw (pe_comp (tt := tMT X.K mc) (te := tM X.K m) hc sc.cell sc.kind sc.names sc.free sc.cap hi hlow hg hf he hs)) ?_
  rintro σ H Q ⟨ρ, en, S, v, S', E, R, e, k⟩
  unfold mKeep at e
  obtain ⟨p, e1, e2⟩ := Option.map_eq_some_iff.mp e
  cases e2
  refine comp_read hgd (fun _ _ _ h => h) E R e1 fun a xs ρ' H' X1 R1 ha d1 => ?_
  refine k _ (ρ' ++ [a]) _ (X1.trans (Ext.newRef ha)) (R1.push ha ⟨xs, upd_same, d1.up (Ext.newRef ha)⟩) (.ref ?_)
  rw [← R1.len]; simp
end

theorem ss_setC {tg iter elt : Expr} {ifs : List Expr} {scope : Scope} {tgs cn : List Str} {caps : List Nat} {mi : M ItD} {g : TG} {gd : D → En → Option En} {mc : M Bool} {m : M D} {i : Nat} {y : Str} {py spos : Pos}
    (hN : X.N.Nodup) (hy : X.N[i]? = some y) (hx : X.env.scope.names.lookup y = some .local)
    (hc : X.calm = true) (sc : CompSc X scope cn caps) (hi : SI X tg iter mi) (hlow : GLow tgs.length g) (hgd : GD X.K g gd)
    (hg : ∀ fp s H C, PG (compCx X scope (tgs ++ cn) fp s H C) tg g) (hf : ∀ fp s H C, SF (compCx X scope (tgs ++ cn) fp s H C) ifs mc) (he : ∀ fp s H C, SE (compCx X scope (tgs ++ cn) fp s H C) elt m)
    (hsw : swapsWith (.ListComp elt [⟨tg, iter, ifs, 0⟩] scope pos) (some (.Name y py)) spos.line X.env = pure true := by rfl)
    (hs : ∀ x, foldedSetIterable iter X.env x = pure x := by intro _; rfl) : SS X (.Assign [.Name y py] (.ListComp elt [⟨tg, iter, ifs, 0⟩] scope pos) spos) (mAsg (mKeep (mComp mi tgs.length caps gd mc m)) (gN i)) := by
  refine ps_imp (ps_thaw (ps_setC (tt := tMT X.K mc) (te := tM X.K m) hsw hN hy hx hc sc.cell sc.kind sc.names sc.free sc.cap hi hlow hg hf he hs)) ?_
  rintro D σ H ⟨ρ, en, S, f, en', S', E, R, e, k⟩
  unfold mAsg mKeep at e
  obtain ⟨p, e1, e⟩ := Option.bind_eq_some_iff.mp e
  obtain ⟨q, e2, e3⟩ := Option.map_eq_some_iff.mp e1
  obtain ⟨en1, e4, e5⟩ := Option.map_eq_some_iff.mp e
  cases e3
  cases e4
  cases e5
  refine comp_read (Q := fun v H'' => D.nx (σ.set i (some v)) H'') hgd (fun _ _ _ h => h) E R e2 fun a xs ρ' H' X1 R1 ha d1 => ?_
  have d2 : DR X.K (ρ' ++ [a]) (upd H' a (.lst xs)) (.ref q.2.length) (.ref a) := .ref (by rw [← R1.len]; simp)
  exact k (ρ' ++ [a]) _ _ (X1.trans (Ext.newRef ha)) (R1.push ha ⟨xs, upd_same, d1.up (Ext.newRef ha)⟩) ((E.up (X1.trans (Ext.newRef ha))).set d2)

/-! ### sequences read on the spot -/
def seqD : D → Sto → Option (List D)
  | .tup ds, _ => some ds
  | .ref n, S => match S[n]? with | some (.lst ds) => some ds | _ => none
  | .scr ns, _ => some (ns.map D.int)
  | _, _ => none
theorem seqD_ok {K : PySem.W.Frag} {ρ : List Addr} {H : Hp} {S : Sto} {d : D} {x : V} {ds : List D} (R : StR K ρ H S) (h : DR K ρ H d x) (e : seqD d S = some ds) : ∃ a xs, x = .ref a ∧ (SqL K H a xs ∨ SqT K H a xs) ∧ DsR K ρ H ds xs := by
  cases d with
  | tup es =>
    obtain ⟨a, xs, rfl, h1, h2⟩ := h.of_tup
    cases e
    exact ⟨a, xs, rfl, .inr (.of h1), h2⟩
  | ref n =>
    obtain ⟨a, h1, rfl⟩ := h.of_ref
    obtain ⟨ob, e1, r⟩ := R.obj h1
    dsimp only [seqD] at e
    rw [e1] at e
    cases ob with
    | lst es =>
      cases e
      obtain ⟨xs, h2, h3⟩ := r
      exact ⟨a, xs, rfl, .inl (.of h2), h3⟩
    | dct kvs => cases e
    | fdct kvs => cases e
    | ins C fs => cases e
  | scr ns =>
    obtain ⟨a, rfl, h1⟩ := h.of_scr
    cases e
    exact ⟨a, _, rfl, .inl h1.seq, .ints ns⟩
  | _ => cases e
def mSq (m : M D) : M (List D) := fun en S => (m en S).bind fun p => (seqD p.1 p.2).map fun ds => (ds, p.2)
theorem sq_of {m : M D} (h : SE X e m) : SQ X e (mSq m) := by
  refine pe_imp h ?_
  rintro σ H Q ⟨ρ, en, S, ds, S', E, R, e, k⟩
  unfold mSq at e
  obtain ⟨p, e1, e⟩ := Option.bind_eq_some_iff.mp e
  obtain ⟨es, e2, e3⟩ := Option.map_eq_some_iff.mp e
  cases e3
  refine ⟨ρ, en, S, p.1, p.2, E, R, e1, fun x ρ1 H1 X1 R1 d1 => ?_⟩
  obtain ⟨a, xs, rfl, h1, h2⟩ := seqD_ok R1 d1 e2
  exact k a xs ρ1 H1 X1 R1 h1 h2

/-! ### own defs -/
def spD (K : PySem.W.Frag) (n : Nat) (F : List D → Sto → Option (D × Sto)) : Sp := fun vs H Q _ => vs.length = n ∧ rDs K F vs H Q
def mCall (F : List D → Sto → Option (D × Sto)) (m : M (List D)) : M D := fun en S => (m en S).bind fun p => F p.1 p.2
theorem se_call {x : Str} {p : Pos} {k n : Nat} {f : Addr} {fd : FuncData} {ps : List Str} {F : List D → Sto → Option (D × Sto)} {m : M (List D)} (hF : FnOk X.prog X.w X.K X.mg X.base CX0 k f fd ps (spD X.K n F)) (hr : Room k X.A) (hg : Gl X x) (hm : X.mg x = some (.ref f))
    (hk : PySem.W.keepIn X.K (.ref f) = true) (hb : Binds X.K fd ps []) (ha : SA X (a :: es) m)
    (hlen : ∀ en S r, m en S = some r → r.1.length = n)
    (hdb : (x == ("__debug__" : Str)) = false := by decide) (he : starEach (a :: es) X.env = (false, eval a X.env) :: starEach es X.env := by rfl) (hpl : (backTo pos (starEach es X.env)).any (·.1) = false := by rfl) :
    SE X (.Call (.Name x p) (a :: es) [] pos) (mCall F m) := by
  refine pe_imp (pe_call hF hr hg hm hk hb .nil pass0 ha hdb he hpl) ?_
  rintro σ H Q ⟨ρ, en, S, v, S', E, R, e, k⟩
  unfold mCall at e
  obtain ⟨r, e1, e2⟩ := Option.bind_eq_some_iff.mp e
  refine ⟨ρ, en, S, r.1, r.2, E, R, e1, fun xs ρ1 H1 X1 R1 d1 => ?_⟩
  show spD X.K n F (xs ++ []) H1 Q E0
  rw [List.append_nil]
  exact ⟨by rw [← d1.length]; exact hlen _ _ _ e1, ρ1, r.2, r.1, v, S', R1, d1, e2, fun z ρ2 H2 X2 R2 d2 => k z ρ2 H2 (X1.trans X2) R2 d2⟩
theorem len_nil : ∀ en S r, mNil en S = some r → r.1.length = 0 := by
  intro en S r e; cases e; rfl
theorem len_cons {ma : M D} {mr : M (List D)} {n : Nat} (h : ∀ en S r, mr en S = some r → r.1.length = n) : ∀ en S r, mCons ma mr en S = some r → r.1.length = n + 1 := by
  intro en S r e
  unfold mCons at e
  obtain ⟨p, e1, e⟩ := Option.bind_eq_some_iff.mp e
  obtain ⟨q, e2, e3⟩ := Option.map_eq_some_iff.mp e
  cases e3
  rw [List.length_cons, h _ _ _ e2]

mutual
def lowD (n : Nat) : D → Bool
  | .tup ds => lowDs n ds
  | .ref k => decide (k < n)
  | _ => true
def lowDs (n : Nat) : List D → Bool
  | [] => true
  | d :: ds => lowD n d && lowDs n ds
end
section
variable {K : PySem.W.Frag} {ρ : List Addr} {H : Hp}
mutual
theorem low_of : ∀ (d : D) (x : V), DR K ρ H d x → lowD ρ.length d = true
  | .non, _, _ => by unfold lowD; rfl
  | .bl _, _, _ => by unfold lowD; rfl
  | .int _, _, _ => by unfold lowD; rfl
  | .str _, _, _ => by unfold lowD; rfl
  | .scr _, _, _ => by unfold lowD; rfl
  | .tup ds, x, h => by
    obtain ⟨a, xs, _, _, h3⟩ := h.of_tup
    unfold lowD
    exact lows_of ds xs h3
  | .ref n, x, h => by
    obtain ⟨a, h1, _⟩ := h.of_ref
    unfold lowD
    exact decide_eq_true (List.getElem?_eq_some_iff.mp h1).1
theorem lows_of : ∀ (ds : List D) (xs : List V), DsR K ρ H ds xs → lowDs ρ.length ds = true
  | [], _, _ => by unfold lowDs; rfl
  | d :: ds, xs, h => by
    unfold DsR at h
    obtain ⟨x, r, _, h1, h2⟩ := h
    unfold lowDs
    rw [low_of d x h1, lows_of ds r h2]; rfl
end
mutual
theorem cut_of (n : Nat) : ∀ (d : D) (x : V), DR K ρ H d x → lowD n d = true → DR K (ρ.take n) H d x
  | .non, _, h, _ => by unfold DR at h ⊢; exact h
  | .bl _, _, h, _ => by unfold DR at h ⊢; exact h
  | .int _, _, h, _ => by unfold DR at h ⊢; exact h
  | .str _, _, h, _ => by unfold DR at h ⊢; exact h
  | .scr _, _, h, _ => by unfold DR at h ⊢; exact h
  | .tup ds, x, h, l => by
    obtain ⟨a, xs, rfl, h2, h3⟩ := h.of_tup
    unfold lowD at l
    exact .tup h2 (cuts_of n ds xs h3 l)
  | .ref k, x, h, l => by
    obtain ⟨a, h1, rfl⟩ := h.of_ref
    unfold lowD at l
    exact .ref (by rw [List.getElem?_take_of_lt (of_decide_eq_true l)]; exact h1)
theorem cuts_of (n : Nat) : ∀ (ds : List D) (xs : List V), DsR K ρ H ds xs → lowDs n ds = true → DsR K (ρ.take n) H ds xs
  | [], _, h, _ => by unfold DsR at h ⊢; exact h
  | d :: ds, xs, h, l => by
    unfold DsR at h
    obtain ⟨x, r, rfl, h1, h2⟩ := h
    unfold lowDs at l
    rw [Bool.and_eq_true] at l
    exact .cons (cut_of n d x h1 l.1) (cuts_of n ds r h2 l.2)
end
end
theorem St_cut {K : PySem.W.Frag} {ρ ρ1 : List Addr} {H H1 : Hp} {S S1 : Sto} (R : StR K ρ H S) (X : Ext ρ H ρ1 H1) (R1 : StR K ρ1 H1 S1) (e : S1.take S.length = S) : StR K (ρ1.take S.length) H1 S ∧ Ext ρ H (ρ1.take S.length) H1 := by
  have hl : S.length ≤ S1.length := by
    have := congrArg List.length e
    rw [List.length_take] at this
    omega
  have low : ∀ (n : Nat) ob, S[n]? = some ob → n < S.length := fun n ob h => (List.getElem?_eq_some_iff.mp h).1
  refine ⟨⟨by rw [List.length_take, R1.len]; omega, fun i j a h1 h2 => ?_, fun n ob h => ?_⟩, ⟨fun n a h => ?_, X.tup, X.frz⟩⟩
  · have hi : i < S.length := by
      have := (List.getElem?_eq_some_iff.mp h1).1
      rw [List.length_take] at this; omega
    have hj : j < S.length := by
      have := (List.getElem?_eq_some_iff.mp h2).1
      rw [List.length_take] at this; omega
    rw [List.getElem?_take_of_lt hi] at h1
    rw [List.getElem?_take_of_lt hj] at h2
    exact R1.inj i j a h1 h2
  · have hn := low n ob h
    have h1 : S1[n]? = some ob := by rw [← List.getElem?_take_of_lt hn, e]; exact h
    obtain ⟨a, e1, r1⟩ := R1.ob n ob h1
    obtain ⟨a0, e0, r0⟩ := R.ob n ob h
    refine ⟨a, by rw [List.getElem?_take_of_lt hn]; exact e1, ?_⟩
    cases ob with
    | lst ds =>
      obtain ⟨xs, q1, q2⟩ := r1
      obtain ⟨ys, p1, p2⟩ := r0
      have l := lows_of ds ys p2
      rw [R.len] at l
      exact ⟨xs, q1, cuts_of _ ds xs q2 l⟩
    | dct kvs =>
      have l : lowDs S.length (kvs.map (·.2)) = true := by
        rcases r0 with ⟨ks0, ys, p1, p2, p3, p4⟩ | ⟨ks0, ys, p1, p2, p3, p4⟩
        · have l := lows_of _ ys p4
          rw [R.len] at l; exact l
        · have l := lows_of _ ys p4
          rw [R.len] at l; exact l
      rcases r1 with ⟨ks, xs, q1, q2, q3, q4⟩ | ⟨ks, xs, q1, q2, q3, q4⟩
      · exact .inl ⟨ks, xs, q1, q2, q3, cuts_of _ _ xs q4 l⟩
      · exact .inr ⟨ks, xs, q1, q2, q3, cuts_of _ _ xs q4 l⟩
    | fdct kvs =>
      obtain ⟨o, ks, xs, q1, q2, q3, q4⟩ := r1
      obtain ⟨o', ks0, ys, p1, p2, p3, p4⟩ := r0
      have l := lows_of _ ys p4
      rw [R.len] at l
      exact ⟨o, ks, xs, q1, q2, q3, cuts_of _ _ xs q4 l⟩
    | ins C fs =>
      obtain ⟨Ca, dx, xs, q0, q1, q2⟩ := r1
      obtain ⟨Ca0, dx0, ys, p0, p1, p2⟩ := r0
      have l := lows_of _ ys p2
      rw [R.len] at l
      exact ⟨Ca, dx, xs, q0, q1, cuts_of _ _ xs q2 l⟩
  · have hn : n < S.length := by rw [← R.len]; exact (List.getElem?_eq_some_iff.mp h).1
    rw [List.getElem?_take_of_lt hn]
    exact X.pre n a h
open Classical in
noncomputable def trim (S : Sto) (r : D × Sto) : D × Sto := if r.2.take S.length = S ∧ lowD S.length r.1 = true then (r.1, S) else r
/-- the body's run, as a def's promise -/
def startD (nN : Nat) (ds : List D) : En := ds.map some ++ List.replicate (nN - ds.length) none
noncomputable def runD (nN n : Nat) (m : MS) : List D → Sto → Option (D × Sto) := fun ds S => if ds.length = n then (m (startD nN ds) S).bind fun p => match p.1 with
  | .rt v => some (trim S (v, p.2.2))
  | .nx => some (trim S (.non, p.2.2))
  | _ => none
  else none
theorem trim_ok {K : PySem.W.Frag} {ρ ρ1 : List Addr} {H H1 : Hp} {S S1 S' : Sto} {v v' : D} {x : V} {Q : VK} (R : StR K ρ H S) (X : Ext ρ H ρ1 H1) (R1 : StR K ρ1 H1 S1) (d : DR K ρ1 H1 v x) (e : trim S (v, S1) = (v', S'))
    (k : ∀ z ρ' H', Ext ρ H ρ' H' → StR K ρ' H' S' → DR K ρ' H' v' z → Q z H') : Q x H1 := by
  unfold trim at e
  split at e
  · rename_i h
    cases e
    obtain ⟨R2, X2⟩ := St_cut R X R1 h.1
    exact k x _ H1 X2 R2 (cut_of _ v x d h.2)
  · cases e
    exact k x ρ1 H1 X R1 d
theorem start_en {K : PySem.W.Frag} {ρ : List Addr} {H : Hp} {ds : List D} {vs : List V} {N : List Str} (h : DsR K ρ H ds vs) : EnR K ρ H (startD N.length ds) (L2.start N vs) := by
  unfold startD L2.start
  refine ⟨by simp [h.length], fun i d e => ?_⟩
  by_cases hi : i < ds.length
  · rw [List.getElem?_append_left (by simpa using hi), List.getElem?_map] at e
    rw [List.getElem?_append_left (by rw [List.length_map, ← h.length]; exact hi), List.getElem?_map]
    cases q : ds[i]? with
    | none => rw [q] at e; cases e
    | some c =>
      rw [q] at e; cases e
      obtain ⟨x, h1, h2⟩ := h.get q
      exact ⟨x, by rw [h1]; rfl, h2⟩
  · rw [List.getElem?_append_right (by simpa using hi), List.getElem?_replicate] at e
    split at e <;> cases e
theorem fn_d {P : Program} {w : World} {K : PySem.W.Frag} {mg : Str → Option Value} {base : Heap} {x qual : Str} {st : Stmt} {f : Addr} {fd : FuncData} {N ps : List Str} {k n nN : Nat} {m : MS} (F : Fun K x qual st f fd) (S : FnScope N ps (defScope st)) (hn : ps.length = n) (hN : N.length = nN)
    (hb : ∀ (cdv : Value) (A : Around) (outer : List Env) (s : Shared) (H : Hp) (E : XK), Room k (A.deeper (envOfC qual (defScope st) s.heap.objs.size f cdv)) → SB (cxOf CX0 P w K mg base N qual (defScope st) f cdv A outer s H E).nox (defBody st) m) :
    FnOk P w K mg base CX0 (k + 1) f fd ps (spD K n (runD nN n m)) := by
  refine F.ok S (fun vs H Q E h => by rw [h.1, hn]) (fun cdv A outer s H vs Q E hr h => ?_)
  obtain ⟨hl, ρ, S0, ds, v, S', R, d1, e, q⟩ := h
  refine ⟨_, hb cdv A outer s H E hr, ?_⟩
  unfold runD at e
  split at e
  · obtain ⟨p, e1, e2⟩ := Option.bind_eq_some_iff.mp e
    obtain ⟨fl, en', S1⟩ := p
    refine ⟨ρ, _, S0, fl, en', S1, hN ▸ start_en d1, R, e1, fun ρ1 H1 σ1 X1 R1 E1 => ?_⟩
    cases fl with
    | rt u => exact fun z dz => trim_ok R X1 R1 dz (Option.some.inj e2) q
    | nx => exact trim_ok R X1 R1 .flat_non (Option.some.inj e2) q
    | bk => cases e2
    | ct => cases e2
  · cases e
end
end DL
namespace DL
open PySem PySem.Spec PyProof.Rows L2
theorem hu64 {k : Nat} {A : Around} (hr : Room k A) : A.units + 64 < cLine := by have := hr.un; omega
section
variable {X : Cx}
/-! ### comparisons over data (own text) -/
def gLt : D → D → Sto → Option (D × Sto)
  | .int i, .int j, S => some (.bl (decide (i < j)), S)
  | .str i, .str j, S => some (.bl (decide (i.cps.toList < j.cps.toList)), S)
  | .tup as, .tup bs, S => if (cmpOk 30 (.tup as) (.tup bs) && (pln 30 (.tup as) && pln 30 (.tup bs))) = true then some (.bl (ltD (.tup as) (.tup bs)), S) else none
  | _, _, _ => none
theorem gLt_ok {a b : D} {S S' : Sto} {v : D} (e : gLt a b S = some (v, S')) : v = .bl (ltD a b) ∧ S = S' ∧ cmpOk 30 a b = true ∧ pln 30 a = true ∧ pln 30 b = true := by
  cases a with
  | int i =>
    cases b with
    | int j => cases e; exact ⟨by unfold ltD; rfl, rfl, rfl, rfl, rfl⟩
    | _ => cases e
  | str i =>
    cases b with
    | str j => cases e; exact ⟨by unfold ltD; rfl, rfl, rfl, rfl, rfl⟩
    | _ => cases e
  | tup as =>
    cases b with
    | tup bs =>
      dsimp only [gLt] at e
      split at e
      · rename_i hc
        cases e
        rw [Bool.and_eq_true, Bool.and_eq_true] at hc
        exact ⟨rfl, rfl, hc.1, hc.2.1, hc.2.2⟩
      · cases e
    | _ => cases e
  | _ => cases e
theorem opd_lt (hu : X.A.units + 64 < cLine) : OpD X (compareOp .Lt) gLt := by
  intro pins s σ H x y v u Q I rx ry h
  obtain ⟨ρ, S, d1, d2, z, S', R, h1, h2, e, k⟩ := h
  obtain ⟨rfl, rfl, hc, p1, p2⟩ := gLt_ok e
  exact ltAt_D I 30 (by omega) hc p1 p2 h1 h2 rx ry _ _ _ _ ⟨.bl _, H, I, rfl, k _ ρ H Ext.refl R .flat_bl⟩
def eqOk (a b : D) : Bool := pln 30 a && pln 30 b
def gEq : D → D → Sto → Option (D × Sto)
  | .int i, .int j, S => some (.bl (decide (i = j)), S)
  | .str i, .str j, S => some (.bl (decide (i = j)), S)
  | .bl i, .bl j, S => some (.bl (decide (i = j)), S)
  | a, b, S => if eqOk a b = true then some (.bl (eqD a b), S) else none
def gNe : D → D → Sto → Option (D × Sto)
  | .int i, .int j, S => some (.bl (!decide (i = j)), S)
  | .str i, .str j, S => some (.bl (!decide (i = j)), S)
  | .bl i, .bl j, S => some (.bl (!decide (i = j)), S)
  | a, b, S => if eqOk a b = true then some (.bl (!eqD a b), S) else none
theorem beq_dec {α : Type} [BEq α] [LawfulBEq α] [DecidableEq α] (a b : α) : (a == b) = decide (a = b) := by
  rw [Bool.eq_iff_iff]; simp
theorem gEq_ok {a b : D} {S S' : Sto} {v : D} (e : gEq a b S = some (v, S')) : v = .bl (eqD a b) ∧ S = S' ∧ pln 30 a = true ∧ pln 30 b = true := by
  unfold gEq at e
  split at e
  · cases e; exact ⟨by unfold eqD; dsimp only; rw [beq_dec], rfl, rfl, rfl⟩
  · cases e; exact ⟨by unfold eqD; dsimp only; rw [beq_dec], rfl, rfl, rfl⟩
  · cases e; exact ⟨by unfold eqD; dsimp only; rw [beq_dec], rfl, rfl, rfl⟩
  · split at e
    · rename_i hc
      cases e
      unfold eqOk at hc
      rw [Bool.and_eq_true] at hc
      exact ⟨rfl, rfl, hc.1, hc.2⟩
    · cases e
theorem gNe_ok {a b : D} {S S' : Sto} {v : D} (e : gNe a b S = some (v, S')) : v = .bl (!eqD a b) ∧ S = S' ∧ pln 30 a = true ∧ pln 30 b = true := by
  unfold gNe at e
  split at e
  · cases e; exact ⟨by unfold eqD; dsimp only; rw [beq_dec], rfl, rfl, rfl⟩
  · cases e; exact ⟨by unfold eqD; dsimp only; rw [beq_dec], rfl, rfl, rfl⟩
  · cases e; exact ⟨by unfold eqD; dsimp only; rw [beq_dec], rfl, rfl, rfl⟩
  · split at e
    · rename_i hc
      cases e
      unfold eqOk at hc
      rw [Bool.and_eq_true] at hc
      exact ⟨rfl, rfl, hc.1, hc.2⟩
    · cases e
theorem opd_eq (hu : X.A.units + 64 < cLine) : OpD X (compareOp .Eq) gEq := by
  intro pins s σ H x y v u Q I rx ry h
  obtain ⟨ρ, S, d1, d2, z, S', R, h1, h2, e, k⟩ := h
  obtain ⟨rfl, rfl, p1, p2⟩ := gEq_ok e
  exact rcAt_D I 30 (by omega) p1 p2 h1 h2 rx ry _ _ _ _ ⟨.bl _, H, I, rfl, k _ ρ H Ext.refl R .flat_bl⟩
theorem opd_ne (hu : X.A.units + 64 < cLine) : OpD X (compareOp .NotEq) gNe := by
  intro pins s σ H x y v u Q I rx ry h
  obtain ⟨ρ, S, d1, d2, z, S', R, h1, h2, e, k⟩ := h
  obtain ⟨rfl, rfl, p1, p2⟩ := gNe_ok e
  exact rcNe_D I 30 (by omega) p1 p2 h1 h2 rx ry _ _ _ _ ⟨.bl _, H, I, rfl, k _ ρ H Ext.refl R .flat_bl⟩
/-! ### in, not in -/
def inD (x : D) : D → Sto → Option Bool
  | .str j, _ => match x with | .str i => some (!(Builtin.Str.occurrences j i 0 j.length 1).isEmpty) | _ => none
  | .tup ys, _ => if (pln 30 x && ys.all (pln 30)) = true then some (ys.any fun y => eqD y x) else none
  | .ref n, S => match S[n]? with
    | some (.lst ys) => if (pln 30 x && ys.all (pln 30)) = true then some (ys.any fun y => eqD y x) else none
    | _ => (dctAt S n x).map fun kvs => (dget kvs x).isSome
  | _, _ => none
def gIn : D → D → Sto → Option (D × Sto) := fun a b S => (inD a b S).map fun r => (.bl r, S)
def gNotIn : D → D → Sto → Option (D × Sto) := fun a b S => (inD a b S).map fun r => (.bl (!r), S)
/-- the answer at each item, read off the value -/
theorem items_at {pins : List (Addr × Obj)} {σ : L2.St} {H : Hp} {s : Shared} {ρ : List Addr} {A : Around} {x : D} {vx : V} {ux : Value} {ys : List D} {vs : List V} {us : List Value} (I : Inv X pins σ H s) (hu : A.units + 64 < cLine)
    (px : pln 30 x = true) (py : ys.all (pln 30) = true) (hx : DR X.K ρ H x vx) (rx : RelV vx ux) (hy : DsR X.K ρ H ys vs) (ry : Vals vs us) :
    ∃ e : Value → Bool, (∀ u, u ∈ us → SeqAt.EqAt A.in1 s u ux (e u)) ∧ us.any e = ys.any fun y => eqD y x := by
  classical
  let P : Value → D → Prop := fun u d => pln 30 d = true ∧ ∃ v, RelV v u ∧ DR X.K ρ H d v
  refine ⟨fun u => if h : ∃ d, P u d then eqD (Classical.choose h) x else false, ?_, ?_⟩
  · intro u hm
    obtain ⟨i, hi⟩ := List.mem_iff_getElem?.mp hm
    have hlen := ry.length
    have hlen2 := hy.length
    have li : i < us.length := (List.getElem?_eq_some_iff.mp hi).1
    have g1 : ys[i]? = some ys[i] := List.getElem?_eq_getElem (by omega)
    obtain ⟨v, v1, v2⟩ := hy.get g1
    obtain ⟨u', u1, u2⟩ := ry.get v1
    rw [hi] at u1
    cases u1
    have pd := List.all_eq_true.mp py _ (List.getElem_mem (by omega : i < ys.length))
    have h : ∃ d, P u d := ⟨ys[i], pd, v, u2, v2⟩
    dsimp only
    rw [dif_pos h]
    obtain ⟨q1, v', q2, q3⟩ := Classical.choose_spec h
    exact eqAt_D I 30 (by rw [in1_units]; omega) q1 px q3 hx q2 rx
  · have key : ∀ {ys : List D} {vs : List V} {us : List Value}, ys.all (pln 30) = true → DsR X.K ρ H ys vs → Vals vs us → us.any (fun u => if h : ∃ d, P u d then eqD (Classical.choose h) x else false) = ys.any fun y => eqD y x := by
      intro ys
      induction ys with
      | nil =>
        intro vs us _ hy ry
        unfold DsR at hy
        subst hy
        cases ry
        rfl
      | cons d ys ih =>
        intro vs us py hy ry
        unfold DsR at hy
        obtain ⟨v, r, rfl, h1, h2⟩ := hy
        cases ry with
        | @cons _ u _ us' r1 r2 =>
          rw [List.all_cons, Bool.and_eq_true] at py
          rw [List.any_cons, List.any_cons, ih py.2 h2 r2]
          have h : ∃ d, P u d := ⟨d, py.1, v, r1, h1⟩
          rw [dif_pos h]
          obtain ⟨q1, v', q2, q3⟩ := Classical.choose_spec h
          have hv : v' = v := RelV.inj q2 r1
          subst hv
          rw [DR.one 30 _ d _ q1 py.1 q3 h1]
    exact key py hy ry
theorem opd_in (hu : X.A.units + 64 < cLine) : OpD X (compareOp .In) gIn := by
  intro pins s σ H x y v u Q I rx ry h
  obtain ⟨ρ, S, d1, d2, z, S', R, h1, h2, e, k⟩ := h
  obtain ⟨r, e1, e2⟩ := Option.map_eq_some_iff.mp e
  cases e2
  cases d2 with
  | str j =>
    cases d1 with
    | str i =>
      cases e1
      rw [h1.of_str] at rx
      rw [h2.of_str] at ry
      obtain ⟨t, rfl⟩ := rx
      obtain ⟨t', rfl⟩ := ry
      exact in_str ⟨.bl _, H, I, rfl, k _ ρ H Ext.refl R .flat_bl⟩
    | _ => cases e1
  | tup ys =>
    dsimp only [inD] at e1
    split at e1
    · rename_i hc
      cases e1
      rw [Bool.and_eq_true] at hc
      obtain ⟨a, xs, rfl, a1, a2⟩ := h2.of_tup
      cases ry
      obtain ⟨its, q, pl, hz⟩ := I.tuple (.of a1)
      obtain ⟨f, f1, f2⟩ := items_at I hu hc.1 hc.2 h1 rx a2 q
      refine SeqAt.in_tupleAt f pl (fun w hw => f1 w (by simpa using hw)) ⟨.bl _, H, I, rfl, ?_⟩
      rw [show its.toArray.any f = its.any f by simp, f2]
      exact k _ ρ H Ext.refl R .flat_bl
    · cases e1
  | ref n =>
    obtain ⟨a, a1, rfl⟩ := h2.of_ref
    cases ry
    dsimp only [inD] at e1
    split at e1
    · rename_i ys hn
      split at e1
      · rename_i hc
        cases e1
        rw [Bool.and_eq_true] at hc
        obtain ⟨ob, eo, ro⟩ := R.obj a1
        rw [hn] at eo
        cases eo
        obtain ⟨xs, x1, x2⟩ := ro
        obtain ⟨its, q, pl, hz⟩ := I.list (.of x1)
        obtain ⟨f, f1, f2⟩ := items_at I hu hc.1 hc.2 h1 rx x2 q
        refine SeqAt.in_listAt f pl.isList (fun w hw => f1 w (by simpa using hw)) ⟨.bl _, H, I, rfl, ?_⟩
        rw [show its.toArray.any f = its.any f by simp, f2]
        exact k _ ρ H Ext.refl R .flat_bl
      · cases e1
    · obtain ⟨kvs, e3, e4⟩ := Option.map_eq_some_iff.mp e1
      subst e4
      obtain ⟨g1, g2⟩ := dget_ok R a1 e3 h1
      cases hd : dget kvs d1 with
      | some w =>
        rw [hd] at k
        obtain ⟨x', x1, x2⟩ := g1 w hd
        exact dE_in (by omega) I x1 rx fun s' I' => ⟨.bl _, H, I', rfl, k _ ρ H Ext.refl R .flat_bl⟩
      | none =>
        rw [hd] at k
        exact dE_in (by omega) I (g2 hd) rx fun s' I' => ⟨.bl _, H, I', rfl, k _ ρ H Ext.refl R .flat_bl⟩
  | _ => cases e1
theorem opd_notIn (hu : X.A.units + 64 < cLine) : OpD X (compareOp .NotIn) gNotIn := by
  intro pins s σ H x y v u Q I rx ry h
  obtain ⟨ρ, S, d1, d2, z, S', R, h1, h2, e, k⟩ := h
  obtain ⟨r, e1, e2⟩ := Option.map_eq_some_iff.mp e
  cases e2
  cases d2 with
  | str j =>
    cases d1 with
    | str i =>
      cases e1
      rw [h1.of_str] at rx
      rw [h2.of_str] at ry
      obtain ⟨t, rfl⟩ := rx
      obtain ⟨t', rfl⟩ := ry
      exact notIn_str ⟨.bl _, H, I, rfl, k _ ρ H Ext.refl R .flat_bl⟩
    | _ => cases e1
  | tup ys =>
    dsimp only [inD] at e1
    split at e1
    · rename_i hc
      cases e1
      rw [Bool.and_eq_true] at hc
      obtain ⟨a, xs, rfl, a1, a2⟩ := h2.of_tup
      cases ry
      obtain ⟨its, q, pl, hz⟩ := I.tuple (.of a1)
      obtain ⟨f, f1, f2⟩ := items_at I hu hc.1 hc.2 h1 rx a2 q
      refine SeqAt.notIn_tupleAt f pl (fun w hw => f1 w (by simpa using hw)) ⟨.bl _, H, I, rfl, ?_⟩
      rw [show its.toArray.any f = its.any f by simp, f2]
      exact k _ ρ H Ext.refl R .flat_bl
    · cases e1
  | ref n =>
    obtain ⟨a, a1, rfl⟩ := h2.of_ref
    cases ry
    dsimp only [inD] at e1
    split at e1
    · rename_i ys hn
      split at e1
      · rename_i hc
        cases e1
        rw [Bool.and_eq_true] at hc
        obtain ⟨ob, eo, ro⟩ := R.obj a1
        rw [hn] at eo
        cases eo
        obtain ⟨xs, x1, x2⟩ := ro
        obtain ⟨its, q, pl, hz⟩ := I.list (.of x1)
        obtain ⟨f, f1, f2⟩ := items_at I hu hc.1 hc.2 h1 rx x2 q
        refine SeqAt.notIn_listAt f pl.isList (fun w hw => f1 w (by simpa using hw)) ⟨.bl _, H, I, rfl, ?_⟩
        rw [show its.toArray.any f = its.any f by simp, f2]
        exact k _ ρ H Ext.refl R .flat_bl
      · cases e1
    · obtain ⟨kvs, e3, e4⟩ := Option.map_eq_some_iff.mp e1
      subst e4
      obtain ⟨g1, g2⟩ := dget_ok R a1 e3 h1
      cases hd : dget kvs d1 with
      | some w =>
        rw [hd] at k
        obtain ⟨x', x1, x2⟩ := g1 w hd
        exact dE_notIn (by omega) I x1 rx fun s' I' => ⟨.bl _, H, I', rfl, k _ ρ H Ext.refl R .flat_bl⟩
      | none =>
        rw [hd] at k
        exact dE_notIn (by omega) I (g2 hd) rx fun s' I' => ⟨.bl _, H, I', rfl, k _ ρ H Ext.refl R .flat_bl⟩
  | _ => cases e1
end
end DL
namespace L2
open PySem PySem.Spec PyProof.Rows
section
variable {X : Cx}
/-! ### further rules on values (own text) -/
theorem op_isB : OpR X (compareOp .Is) (fun x y H Q => ∃ c, y = .bl c ∧ Q (.bl (decide (x = .bl c))) H) := by
  intro pins s σ H x y v u Q I rx ry h
  obtain ⟨c, rfl, q⟩ := h
  cases ry
  cases x with
  | bl b => cases rx; exact is_bool (fin_bl I q (by cases b <;> cases c <;> decide))
  | non => cases rx; exact wpAny_pure (fin_bl I q (by cases c <;> decide))
  | int i => obtain ⟨t, rfl⟩ := rx; exact wpAny_pure (fin_bl I q (by cases c <;> rfl))
  | str i => obtain ⟨t, rfl⟩ := rx; exact wpAny_pure (fin_bl I q (by cases c <;> rfl))
  | byt i => obtain ⟨t, rfl⟩ := rx; exact wpAny_pure (fin_bl I q (by cases c <;> rfl))
  | flt i => obtain ⟨t, rfl⟩ := rx; exact wpAny_pure (fin_bl I q (by cases c <;> rfl))
  | ref a => cases rx; exact wpAny_pure (fin_bl I q (by cases c <;> rfl))
  | ty n => cases rx; exact wpAny_pure (fin_bl I q (by cases c <;> rfl))
theorem op_isNotB : OpR X (compareOp .IsNot) (fun x y H Q => ∃ c, y = .bl c ∧ Q (.bl (!decide (x = .bl c))) H) := by
  intro pins s σ H x y v u Q I rx ry h
  obtain ⟨c, rfl, q⟩ := h
  cases ry
  cases x with
  | bl b => cases rx; exact isnot_bool (fin_bl I q (by cases b <;> cases c <;> decide))
  | non => cases rx; exact wpAny_pure (fin_bl I q (by cases c <;> decide))
  | int i => obtain ⟨t, rfl⟩ := rx; exact wpAny_pure (fin_bl I q (by cases c <;> rfl))
  | str i => obtain ⟨t, rfl⟩ := rx; exact wpAny_pure (fin_bl I q (by cases c <;> rfl))
  | byt i => obtain ⟨t, rfl⟩ := rx; exact wpAny_pure (fin_bl I q (by cases c <;> rfl))
  | flt i => obtain ⟨t, rfl⟩ := rx; exact wpAny_pure (fin_bl I q (by cases c <;> rfl))
  | ref a => cases rx; exact wpAny_pure (fin_bl I q (by cases c <;> rfl))
  | ty n => cases rx; exact wpAny_pure (fin_bl I q (by cases c <;> rfl))
theorem op_le_str : OpR X (compareOp .LtE) (fun x y H Q => ∃ i j, x = .str i ∧ y = .str j ∧ Q (.bl (!decide (j.cps.toList < i.cps.toList))) H) := by
  intro pins s σ H x y v u Q I rx ry h
  obtain ⟨i, j, rfl, rfl, q⟩ := h
  obtain ⟨t, rfl⟩ := rx
  obtain ⟨t', rfl⟩ := ry
  exact PySem.P.le_str (fin_bl I q rfl)
theorem op_catT0 : OpR X (binaryOp .Add) (fun x y H Q => ∃ a b ys, x = .ref a ∧ y = .ref b ∧ SqT X.K H a [] ∧ SqT X.K H b ys ∧ Q (.ref b) H) := by
  intro pins s σ H x y v u Q I rx ry h
  obtain ⟨a, b, ys, rfl, rfl, ha, hb, q⟩ := h
  cases rx
  cases ry
  obtain ⟨its, r1, p1, _⟩ := I.tuple ha
  obtain ⟨its2, r2, p2, _⟩ := I.tuple hb
  have hv : its = [] := r1.nil_iff.mpr rfl
  subst hv
  obtain ⟨⟨cls, dd, data, sl⟩, ho, hc, n, hd⟩ := id p1
  obtain ⟨⟨cls2, dd2, data2, sl2⟩, ho2, hc2, n2, hd2⟩ := id p2
  simp only at hc hd hc2 hd2
  subst hc hd hc2 hd2
  exact concat_meets ⟨_, ho, rfl⟩ ⟨_, ho2, rfl⟩ noFill_tuple_add seq_tuple_add PySem.F.slot_tuple_add PySem.F.entry_tuple_add (PySem.F.args_tuple_add_2 _ _)
    (tuple_addW0 a b _ _ n n2 dd dd2 sl sl2 (by simp)) ⟨ho, ho2, ⟨.ref b, H, I, rfl, q⟩⟩
theorem op_mul_str : OpR X (binaryOp .Mult) (fun x y H Q => ∃ z n, x = .str z ∧ y = .int n ∧ MulOk z n ∧ Q (.str (Txt.mul z n)) H) := by
  intro pins s σ H x y v u Q I rx ry h
  obtain ⟨z, n, rfl, rfl, hok, q⟩ := h
  obtain ⟨t, rfl⟩ := rx
  obtain ⟨t', rfl⟩ := ry
  exact SB.mul hok fun t'' k => ⟨.str (Txt.mul z n), H, I.tok k, ⟨t'', rfl⟩, q⟩
/-- a text's slice -/
theorem sl_str : SlR X (fun x lo hi H Q => ∃ z, x = .str z ∧ z.length ≤ sizeLine ∧ Q (.str (Txt.slice z lo hi)) H) := by
  intro pins s σ H x v vl vu lo hi sl Q I rx hs pl pu h
  obtain ⟨z, rfl, hz, q⟩ := h
  obtain ⟨t, rfl⟩ := rx
  refine ⟨"str", _, F.slot_str_getitem.lookup, typeIs_str _ _ _, ?_⟩
  have fin : ∀ t' k, EP X pins σ Q (.str (Txt.slice z lo hi) t') { s with toks := k } := fun t' k => ⟨.str (Txt.slice z lo hi), H, I.tok k, ⟨t', rfl⟩, q⟩
  obtain ⟨o, e1, e2, e3⟩ := hs
  cases pl with
  | none =>
    cases pu with
    | none => exact wpAny_getItem_str_slice (l := none) (u := none) (st := none) ⟨o, e1, e2, e3⟩ rfl (post_val_or_str ⟨Nat.le_trans (Txt.slice_le z _ _) hz, fun t' k => fin t' k⟩)
    | int j tj => exact wpAny_getItem_str_slice (l := none) (u := some (j, tj)) (st := none) ⟨o, e1, e2, e3⟩ rfl (post_val_or_str ⟨Nat.le_trans (Txt.slice_le z _ _) hz, fun t' k => fin t' k⟩)
  | int i ti =>
    cases pu with
    | none => exact wpAny_getItem_str_slice (l := some (i, ti)) (u := none) (st := none) ⟨o, e1, e2, e3⟩ rfl (post_val_or_str ⟨Nat.le_trans (Txt.slice_le z _ _) hz, fun t' k => fin t' k⟩)
    | int j tj => exact wpAny_getItem_str_slice (l := some (i, ti)) (u := some (j, tj)) (st := none) ⟨o, e1, e2, e3⟩ rfl (post_val_or_str ⟨Nat.le_trans (Txt.slice_le z _ _) hz, fun t' k => fin t' k⟩)
/-! all, any of truths -/
theorem vals_bls : ∀ {bs : List Bool} {us : List Value}, Vals (bs.map V.bl) us → us = bs.map Value.bool
  | [], _, h => by cases h; rfl
  | b :: bs, _, h => by
    cases h with
    | cons r t =>
      have e := vals_bls t
      rw [List.map_cons, ← e, show _ = Value.bool b from r]
theorem range_all (bs : List Bool) : ((List.range bs.length).all fun i => bs.getD i true) = bs.all id := by
  rw [Bool.eq_iff_iff, List.all_eq_true, List.all_eq_true]
  constructor
  · intro h b hb
    obtain ⟨i, hi, rfl⟩ := List.mem_iff_getElem.mp hb
    have := h i (List.mem_range.mpr hi)
    simpa [List.getD, hi] using this
  · intro h i hi
    have hi' := List.mem_range.mp hi
    have := h bs[i] (List.getElem_mem hi')
    simpa [List.getD, hi'] using this
theorem range_any (bs : List Bool) : ((List.range bs.length).any fun i => bs.getD i true) = bs.any id := by
  rw [Bool.eq_iff_iff, List.any_eq_true, List.any_eq_true]
  constructor
  · rintro ⟨i, hi, h⟩
    have hi' := List.mem_range.mp hi
    exact ⟨bs[i], List.getElem_mem hi', by simpa [List.getD, hi'] using h⟩
  · rintro ⟨b, hb, h⟩
    obtain ⟨i, hi, rfl⟩ := List.mem_iff_getElem.mp hb
    exact ⟨i, List.mem_range.mpr hi, by simpa [List.getD, hi] using h⟩
theorem truth_bools (prog : Program) (w : World) (A : Around) (bs : List Bool) : TruthOf prog w A (fun i v => ((bs.map Value.bool).toArray)[i]? = some v) (fun i => bs.getD i true) := by
  intro i v s Q E h q
  have h' : bs[i]?.map Value.bool = some v := by simpa using h
  cases e : bs[i]? with
  | none => rw [e] at h'; cases h'
  | some b =>
    rw [e] at h'
    cases h'
    have : bs.getD i true = b := by simp [List.getD, e]
    have q' : Q (bs.getD i true) s := q
    rw [this] at q'
    exact wpAny_truthy_bool q'
theorem call_all_bls (hc : X.calm = true) : CallR X (.builtin "all") (fun xs H Q => ∃ (a : Addr) (bs : List Bool), xs = [.ref a] ∧ (SqL X.K H a (bs.map V.bl) ∨ SqT X.K H a (bs.map V.bl)) ∧ Q (.bl (bs.all id)) H) := by
  intro pins s σ H xs us Q I r h
  obtain ⟨a, bs, rfl, hq, q⟩ := h
  obtain ⟨u, rfl, ru⟩ := vals1 r
  cases ru
  refine call_all_walk ?_
  rcases hq with hq | hq
  · obtain ⟨its, rv, p, hz⟩ := I.list hq
    have e := vals_bls rv
    subst e
    refine wpAny_pyIter_list p.isList ?_
    have ne : a ≠ s.heap.objs.size := by
      obtain ⟨o, e, _⟩ := p.isList
      exact Nat.ne_of_lt (Heap.lt_size e)
    refine ⟨_, _, _, _, _, _, fun i => bs.getD i true, rfl, Walks.list (A := X.A.in1) (show X.A.in1.handled = none from I.ok.hd hc) _ a ne (bs.map Value.bool).toArray, ⟨⟨_, Heap.get?_push_size _ rfl, rfl, rfl⟩, p.isList.extBut (fun b o _ e => Heap.get?_push_of_some _ e) ne⟩, truth_bools _ _ _ bs, fun h' tk k => ?_⟩
    have e2 : (List.map Value.bool bs).toArray.size = bs.length := by simp
    rw [e2, range_all]
    exact ⟨.bl (bs.all id), H, I.kept (h' := h') (t' := tk) (fun b o e => k b o (by simp [Nat.ne_of_lt (Heap.lt_size e)]) (Heap.get?_push_of_some _ e)), rfl, q⟩
  · obtain ⟨its, rv, p, hz⟩ := I.tuple hq
    have e := vals_bls rv
    subst e
    refine wpAny_pyIter_tuple (show s.heap.IsTuple a (bs.map Value.bool).toArray from p) ?_
    have ne : a ≠ s.heap.objs.size := Nat.ne_of_lt p.lt
    refine ⟨_, _, _, _, _, _, fun i => bs.getD i true, rfl, Walks.tuple (A := X.A.in1) (show X.A.in1.handled = none from I.ok.hd hc) _ a ne (bs.map Value.bool).toArray, ⟨⟨_, Heap.get?_push_size _ rfl, rfl, rfl⟩, Heap.IsTuple.extBut (show s.heap.IsTuple a (bs.map Value.bool).toArray from p) (fun b o _ e => Heap.get?_push_of_some _ e) ne⟩, truth_bools _ _ _ bs, fun h' tk k => ?_⟩
    have e2 : (List.map Value.bool bs).toArray.size = bs.length := by simp
    rw [e2, range_all]
    exact ⟨.bl (bs.all id), H, I.kept (h' := h') (t' := tk) (fun b o e => k b o (by simp [Nat.ne_of_lt (Heap.lt_size e)]) (Heap.get?_push_of_some _ e)), rfl, q⟩
theorem call_any_bls (hc : X.calm = true) : CallR X (.builtin "any") (fun xs H Q => ∃ (a : Addr) (bs : List Bool), xs = [.ref a] ∧ (SqL X.K H a (bs.map V.bl) ∨ SqT X.K H a (bs.map V.bl)) ∧ Q (.bl (bs.any id)) H) := by
  intro pins s σ H xs us Q I r h
  obtain ⟨a, bs, rfl, hq, q⟩ := h
  obtain ⟨u, rfl, ru⟩ := vals1 r
  cases ru
  refine call_any_walk ?_
  rcases hq with hq | hq
  · obtain ⟨its, rv, p, hz⟩ := I.list hq
    have e := vals_bls rv
    subst e
    refine wpAny_pyIter_list p.isList ?_
    have ne : a ≠ s.heap.objs.size := by
      obtain ⟨o, e, _⟩ := p.isList
      exact Nat.ne_of_lt (Heap.lt_size e)
    refine ⟨_, _, _, _, _, _, fun i => bs.getD i true, rfl, Walks.list (A := X.A.in1) (show X.A.in1.handled = none from I.ok.hd hc) _ a ne (bs.map Value.bool).toArray, ⟨⟨_, Heap.get?_push_size _ rfl, rfl, rfl⟩, p.isList.extBut (fun b o _ e => Heap.get?_push_of_some _ e) ne⟩, truth_bools _ _ _ bs, fun h' tk k => ?_⟩
    have e2 : (List.map Value.bool bs).toArray.size = bs.length := by simp
    rw [e2, range_any]
    exact ⟨.bl (bs.any id), H, I.kept (h' := h') (t' := tk) (fun b o e => k b o (by simp [Nat.ne_of_lt (Heap.lt_size e)]) (Heap.get?_push_of_some _ e)), rfl, q⟩
  · obtain ⟨its, rv, p, hz⟩ := I.tuple hq
    have e := vals_bls rv
    subst e
    refine wpAny_pyIter_tuple (show s.heap.IsTuple a (bs.map Value.bool).toArray from p) ?_
    have ne : a ≠ s.heap.objs.size := Nat.ne_of_lt p.lt
    refine ⟨_, _, _, _, _, _, fun i => bs.getD i true, rfl, Walks.tuple (A := X.A.in1) (show X.A.in1.handled = none from I.ok.hd hc) _ a ne (bs.map Value.bool).toArray, ⟨⟨_, Heap.get?_push_size _ rfl, rfl, rfl⟩, Heap.IsTuple.extBut (show s.heap.IsTuple a (bs.map Value.bool).toArray from p) (fun b o _ e => Heap.get?_push_of_some _ e) ne⟩, truth_bools _ _ _ bs, fun h' tk k => ?_⟩
    have e2 : (List.map Value.bool bs).toArray.size = bs.length := by simp
    rw [e2, range_any]
    exact ⟨.bl (bs.any id), H, I.kept (h' := h') (t' := tk) (fun b o e => k b o (by simp [Nat.ne_of_lt (Heap.lt_size e)]) (Heap.get?_push_of_some _ e)), rfl, q⟩
/-! join -/
theorem strsAre_of : ∀ {ys : List Str} {us : List Value}, Vals (ys.map V.str) us → StrsAre us ys
  | [], _, h => by cases h; exact .nil
  | y :: ys, _, h => by
    cases h with
    | cons r t =>
      obtain ⟨tk, rfl⟩ := r
      exact .cons y tk (strsAre_of t)
theorem mt_join : MtR X "str.join" (fun x xs H Q => ∃ (sep : Str) (a : Addr) (ys : List Str), x = .str sep ∧ xs = [.ref a] ∧ (SqL X.K H a (ys.map V.str) ∨ SqT X.K H a (ys.map V.str)) ∧ (ys.map (·.length)).sum + ys.length * sep.length ≤ 16777216 ∧ Q (.str (Txt.join sep ys)) H) := by
  intro pins s σ H x xs v us Q I rx rs h
  obtain ⟨sep, a, ys, rfl, rfl, hq, hz, q⟩ := h
  obtain ⟨t, rfl⟩ := rx
  obtain ⟨u, rfl, ru⟩ := vals1 rs
  cases ru
  rcases hq with hq | hq
  · obtain ⟨its, rv, p, _⟩ := I.list hq
    exact join_list p.isList (by simpa using strsAre_of rv) hz fun t' k => ⟨.str (Txt.join sep ys), H, I.tok k, ⟨t', rfl⟩, q⟩
  · obtain ⟨its, rv, p, _⟩ := I.tuple hq
    exact join_tuple p (by simpa using strsAre_of rv) hz fun t' k => ⟨.str (Txt.join sep ys), H, I.tok k, ⟨t', rfl⟩, q⟩

/-! what is walked, by values -/
section
variable {tg : Expr} {pins : List (Addr × Obj)} {σ : St} {H1 : Hp} {s1 : Shared} {R : It → Hp → Prop} {E : Value → Shared → Prop} {a : Addr} {xs : List V}
theorem piv_list (I1 : Inv X pins σ H1 s1) (hq : SqL X.K H1 a xs) (q : R (Itl X.K a) H1) : wpAny (model X.prog X.w) X.A (pyIter (.ref a)) (PIE X pins σ tg R) E s1 := by
  obtain ⟨its, rv, p, hz⟩ := I1.list hq
  refine wpAny_pyIter_list p.isList ?_
  refine ⟨s1.heap.objs.size, [s1.heap.objs.size], _, _, H1, rfl, I1.kept (t' := s1.toks) fun b o e => Heap.get?_push_of_some _ e, turn_list a _, ⟨_, Heap.get?_push_size _ rfl, rfl, rfl⟩, fun b hb => ?_, q⟩
  have e : b = s1.heap.objs.size := by simpa using hb
  subst e
  exact I1.fpOk (Nat.le_refl _) (I1.hok.fresh (Nat.le_refl _))
theorem piv_tup (I1 : Inv X pins σ H1 s1) (hq : SqT X.K H1 a xs) (q : R (Itt X.K a) H1) : wpAny (model X.prog X.w) X.A (pyIter (.ref a)) (PIE X pins σ tg R) E s1 := by
  obtain ⟨its, rv, p, hz⟩ := I1.tuple hq
  refine wpAny_pyIter_tuple (show s1.heap.IsTuple a its.toArray from p) ?_
  refine ⟨s1.heap.objs.size, [s1.heap.objs.size], _, _, H1, rfl, I1.kept (t' := s1.toks) fun b o e => Heap.get?_push_of_some _ e, turn_tuple a _, ⟨_, Heap.get?_push_size _ rfl, rfl, rfl⟩, fun b hb => ?_, q⟩
  have e : b = s1.heap.objs.size := by simpa using hb
  subst e
  exact I1.fpOk (Nat.le_refl _) (I1.hok.fresh (Nat.le_refl _))
def Its (x : Str) : It := ⟨fun i _ => i < x.cps.size, fun i H v H' => H' = H ∧ ∃ c, x.cps[i]? = some c ∧ v = .str ⟨#[c]⟩, fun i _ => i = x.cps.size⟩
theorem walks_str (P : Program) (w : World) {A : Around} (hh : A.handled = none) (it : Addr) (x : Str) (t : Tok) : Walks P w A it [it] [it] x.cps.size (SignAt x) (fun i h => h.IsStrIter it (strIterType x) x t i) := by
  cases ha : x.cps.all (· < 128)
  · have e : strIterType x = "str_iterator" := by simp [strIterType, ha]
    rw [e]; exact Walks.strWide hh it x t
  · have e : strIterType x = "str_ascii_iterator" := by simp [strIterType, ha]
    rw [e]; exact Walks.strAscii hh it x t
theorem turn_str {P : Program} {w : World} {K : PySem.W.Frag} (x : Str) (t : Tok) (it : Addr) : Turn P w K tg (Its x) [it] it (fun i h => h.IsStrIter it (strIterType x) x t i) where
  mem := by simp
  obj := fun i h st b hb => by
    have e : b = it := by simpa using hb
    subst e
    obtain ⟨o, e, c, d⟩ := st
    exact ⟨o, e, fun v z => by rw [d] at z; cases z⟩
  keep := fun i h h' st k => let ⟨o, e, r⟩ := st; ⟨o, k it (by simp) o e, r⟩
  item := by
    intro X hP hw hK hc i pins s σ H E I hf st hg
    subst hP hw hK
    obtain ⟨f0, f1, f2, f3, f4, f5⟩ := hf it (by simp)
    refine (walks_str X.prog X.w (I.ok.hd hc) it x t).item i s _ _ hg st fun v h' tk hv st' kk => ?_
    obtain ⟨c, u, hc', rfl⟩ := hv
    have I1 : Inv X pins σ H { s with heap := h', toks := tk } := I.turned (fun b o hb e => kk b o (by simpa using hb) e) f0 f1 f3 f4 f5
    obtain ⟨o, e1, e2, e3⟩ := id st'
    refine ⟨_, rfl, ?_⟩
    have fin : ∃ y H', Inv X pins σ H' { s with heap := h', toks := tk } ∧ RelV y (.str ⟨#[c]⟩ u) ∧ (Its x).yld i H y H' ∧ Heap.IsStrIter h' it (strIterType x) x t (i + 1) ∧ ∀ b ∈ [it], H' b = none := ⟨.str ⟨#[c]⟩, H, I1, ⟨u, rfl⟩, ⟨rfl, c, hc', rfl⟩, st', fun b hb => (hf b hb).1⟩
    unfold letOwnedTupleGo
    cases tg <;> exact wpAny_pure fin
  done := by
    intro X hP hw hK hc i pins s σ H E I hf st hg
    subst hP hw hK
    obtain ⟨f0, f1, f2, f3, f4, f5⟩ := hf it (by simp)
    have hi : i = x.cps.size := hg
    subst hi
    exact (walks_str X.prog X.w (I.ok.hd hc) it x t).done s _ _ st fun h' tk kk => ⟨rfl, I.turned (fun b o hb e => kk b o (by simpa using hb) e) f0 f1 f3 f4 f5⟩
  self := fun A i s Q E st h => by
    cases ha : x.cps.all (· < 128)
    · have e : strIterType x = "str_iterator" := by simp [strIterType, ha]
      rw [e] at st; exact wpAny_pyIter_striter_wide st h
    · have e : strIterType x = "str_ascii_iterator" := by simp [strIterType, ha]
      rw [e] at st; exact wpAny_pyIter_striter_ascii st h
theorem piv_str {x : Str} {t : Tok} (I1 : Inv X pins σ H1 s1) (q : R (Its x) H1) : wpAny (model X.prog X.w) X.A (pyIter (.str x t)) (PIE X pins σ tg R) E s1 := by
  refine wpAny_pyIter_strU ?_
  refine ⟨s1.heap.objs.size, [s1.heap.objs.size], _, _, H1, rfl, I1.kept (t' := s1.toks) fun b o e => Heap.get?_push_of_some _ e, turn_str x t _, ⟨_, Heap.get?_push_size _ rfl, rfl, rfl⟩, fun b hb => ?_, q⟩
  have e : b = s1.heap.objs.size := by simpa using hb
  subst e
  exact I1.fpOk (Nat.le_refl _) (I1.hok.fresh (Nat.le_refl _))
end
/-- any of list, tuple, text -/
def iAny (X : Cx) (tl : TE) : TI := fun σ H R => tl σ H fun x H1 => (∃ a xs, x = .ref a ∧ SqL X.K H1 a xs ∧ R (Itl X.K a) H1) ∨ (∃ a xs, x = .ref a ∧ SqT X.K H1 a xs ∧ R (Itt X.K a) H1) ∨ (∃ z, x = .str z ∧ R (Its z) H1) ∨
  (∃ a kvs, x = .ref a ∧ H1 a = some (.dK kvs) ∧ ∀ o, (∀ o u, X.H₀ a ≠ some (.frz o u)) → R (Itk a o) (upd H1 a (.frz o (.dK kvs)))) ∨ (∃ a o kvs, x = .ref a ∧ H1 a = some (.frz o (.dK kvs)) ∧ R (Itk a o) H1) ∨
  ∃ a, x = .ref a ∧ H1 a = some (.dT []) ∧ ∀ o, (∀ o u, X.H₀ a ≠ some (.frz o u)) → R (Itk a o) (upd H1 a (.frz o (.dK [])))
theorem pi_any {tg l : Expr} {tl : TE} (hl : PE X l tl) : PI X tg l (iAny X tl) := by
  intro pins s σ H R I h
  refine thn (hl pins s σ H _ I h) fun v s1 ⟨x, H1, I1, r1, q1⟩ => ?_
  rcases q1 with ⟨a, xs, rfl, hq, q⟩ | ⟨a, xs, rfl, hq, q⟩ | ⟨z, rfl, q⟩ | ⟨a, kvs, rfl, hq, q⟩ | ⟨a, o, kvs, rfl, hq, q⟩ | ⟨a, rfl, hq, q⟩
  · cases r1; exact piv_list I1 hq q
  · cases r1; exact piv_tup I1 hq q
  · obtain ⟨t, rfl⟩ := r1; exact piv_str I1 q
  · cases r1; exact piv_dict I1 hq q
  · cases r1; exact piv_frz I1 hq q
  · cases r1
    refine piv_dict (I1.asK hq) upd_same fun o hn => ?_
    rw [upd_upd]
    exact q o hn
end
end L2

namespace DL
open PySem PySem.Spec PyProof.Rows L2
section
variable {X : Cx} {e a b c : Expr} {es : List Expr} {pos : Pos}

/-! ### operations over data -/
theorem Sto.of_fin {K : PySem.W.Frag} {ρ : List Addr} {H : Hp} {S S' : Sto} {v : D} {x : V} {Q : VK} (R : StR K ρ H S) (h : DR K ρ H v x) (e : S = S')
    (k : ∀ z ρ' H', Ext ρ H ρ' H' → StR K ρ' H' S' → DR K ρ' H' v z → Q z H') : Q x H := k x ρ H Ext.refl (e ▸ R) h
def gAdd : D → D → Sto → Option (D × Sto)
  | .int i, .int j, S => some (.int (i + j), S)
  | .str x, .str y, S => if x.length + y.length ≤ sizeLine then some (.str (x ++ y), S) else none
  | .tup xs, .tup ys, S => if xs.length + ys.length ≤ sizeLine then some (.tup (xs ++ ys), S) else none
  | .ref n, .ref m, S => match S[n]?, S[m]? with
    | some (.lst xs), some (.lst ys) => if xs.length + ys.length ≤ sizeLine then some (.ref S.length, S ++ [.lst (xs ++ ys)]) else none
    | _, _ => none
  | _, _, _ => none
theorem opd_add : OpD X (binaryOp .Add) gAdd := by
  refine opr_imp (op_add.or (op_add_str.or (op_catT0.or (op_catT.or op_cat)))) ?_
  rintro x y H Q ⟨ρ, S, d1, d2, v, S', R, h1, h2, e, k⟩
  cases d1 with
  | int i =>
    cases d2 with
    | int j =>
      cases e
      exact .inl ⟨i, j, h1.of_int, h2.of_int, k _ ρ H Ext.refl R .flat_int⟩
    | _ => cases e
  | str i =>
    cases d2 with
    | str j =>
      dsimp only [gAdd] at e
      split at e
      · cases e
        exact .inr (.inl ⟨i, j, h1.of_str, h2.of_str, by assumption, k _ ρ H Ext.refl R .flat_str⟩)
      · cases e
    | _ => cases e
  | tup xs =>
    cases d2 with
    | tup ys =>
      dsimp only [gAdd] at e
      split at e
      · rename_i hz
        cases e
        obtain ⟨a, us, rfl, a1, a2⟩ := h1.of_tup
        obtain ⟨b, ws, rfl, b1, b2⟩ := h2.of_tup
        cases xs with
        | nil =>
          have : us = [] := by unfold DsR at a2; exact a2
          subst this
          exact .inr (.inr (.inl ⟨a, b, ws, rfl, rfl, .of a1, .of b1, k _ ρ H Ext.refl R (.tup b1 b2)⟩))
        | cons x0 xs =>
          refine .inr (.inr (.inr (.inl ⟨a, b, us, ws, rfl, rfl, .of a1, .of b1, ?_, by rw [← a2.length, ← b2.length]; exact hz, fun hw => ?_, fun hw p hp => ?_⟩)))
          · intro z
            rw [z] at a2
            have := a2.length
            simp at this
          · subst hw
            have : ys = [] := by
              have := b2.length
              simpa using this
            subst this
            rw [List.append_nil] at k
            exact k _ ρ H Ext.refl R (.tup a1 a2)
          · exact k _ ρ _ (Ext.new hp) (R.new hp) (.tup upd_same ((a2.append b2).up (Ext.new hp)))
      · cases e
    | _ => cases e
  | ref n =>
    cases d2 with
    | ref m =>
      obtain ⟨a, a1, rfl⟩ := h1.of_ref
      obtain ⟨b, b1, rfl⟩ := h2.of_ref
      obtain ⟨oa, ea, ra⟩ := R.obj a1
      obtain ⟨ob, eb, rb⟩ := R.obj b1
      dsimp only [gAdd] at e
      rw [ea, eb] at e
      cases oa with
      | lst xs =>
        cases ob with
        | lst ys =>
          dsimp only at e
          split at e
          · rename_i hz
            cases e
            obtain ⟨us, u1, u2⟩ := ra
            obtain ⟨ws, w1, w2⟩ := rb
            refine .inr (.inr (.inr (.inr ⟨a, b, us, ws, rfl, rfl, u1, w1, by rw [← u2.length, ← w2.length]; exact hz, fun p hp => ?_⟩)))
            refine k _ (ρ ++ [p]) _ (Ext.newRef hp) (R.push hp ⟨_, upd_same, (u2.append w2).up (Ext.newRef hp)⟩) (.ref ?_)
            rw [← R.len]; simp
          · cases e
        | dct _ => cases e
        | fdct _ => cases e
        | ins _ _ => cases e
      | dct _ => cases e
      | fdct _ => cases e
      | ins _ _ => cases e
    | _ => cases e
  | _ => cases e
/-- of two ints -/
def gInt (C : Int → Int → Bool) (f : Int → Int → D) : D → D → Sto → Option (D × Sto)
  | .int i, .int j, S => if C i j then some (f i j, S) else none
  | _, _, _ => none
theorem opd_int {f : Value → Value → Sem Value} {C : Int → Int → Prop} {Cb : Int → Int → Bool} {g : Int → Int → V} {gd : Int → Int → D} (h : OpR X f (rI C g)) (hC : ∀ i j, Cb i j = true → C i j) (hg : ∀ ρ H i j, DR X.K ρ H (gd i j) (g i j)) : OpD X f (gInt Cb gd) := by
  refine opr_imp h ?_
  rintro x y H Q ⟨ρ, S, d1, d2, v, S', R, h1, h2, e, k⟩
  cases d1 with
  | int i =>
    cases d2 with
    | int j =>
      dsimp only [gInt] at e
      split at e
      · cases e
        exact ⟨i, j, h1.of_int, h2.of_int, hC i j (by assumption), k _ ρ H Ext.refl R (hg ρ H i j)⟩
      · cases e
    | _ => cases e
  | _ => cases e
theorem opd_int0 {f : Value → Value → Sem Value} {g : Int → Int → V} {gd : Int → Int → D} (h : OpR X f (rI0 g)) (hg : ∀ ρ H i j, DR X.K ρ H (gd i j) (g i j)) : OpD X f (gInt (fun _ _ => true) gd) := by
  refine opr_imp h ?_
  rintro x y H Q ⟨ρ, S, d1, d2, v, S', R, h1, h2, e, k⟩
  cases d1 with
  | int i =>
    cases d2 with
    | int j =>
      cases e
      exact ⟨i, j, h1.of_int, h2.of_int, k _ ρ H Ext.refl R (hg ρ H i j)⟩
    | _ => cases e
  | _ => cases e
def gSub : D → D → Sto → Option (D × Sto) := gInt (fun _ _ => true) fun i j => .int (i - j)
theorem opd_sub : OpD X (binaryOp .Sub) gSub := opd_int0 op_sub fun _ _ _ _ => .flat_int
def gMod : D → D → Sto → Option (D × Sto) := gInt (fun _ j => decide (0 < j)) fun i j => .int (i % j)
theorem opd_mod : OpD X (binaryOp .Mod) gMod := opd_int op_mod (fun _ _ h => of_decide_eq_true h) fun _ _ _ _ => .flat_int
def gFdiv : D → D → Sto → Option (D × Sto) := gInt (fun _ j => decide (0 < j ∧ j < 1073741824)) fun i j => .int (i / j)
theorem opd_fdiv : OpD X (binaryOp .FloorDiv) gFdiv := opd_int op_fdiv (fun _ _ h => show _ ∧ _ from of_decide_eq_true h) fun _ _ _ _ => .flat_int
def mulOk (z : Str) (n : Int) : Bool := decide (0 ≤ n ∧ n ≤ 1000 ∧ z.length ≤ 1000)
def gMul : D → D → Sto → Option (D × Sto)
  | .int i, .int j, S => if (-(2 ^ 64) < i ∧ i < 2 ^ 64) ∨ (-(2 ^ 64) < j ∧ j < 2 ^ 64) then some (.int (i * j), S) else none
  | .str z, .int n, S => if mulOk z n then some (.str (Txt.mul z n), S) else none
  | _, _, _ => none
theorem mulOk_ok {z : Str} {n : Int} (h : mulOk z n = true) : MulOk z n := by
  obtain ⟨h1, h2, h3⟩ := of_decide_eq_true h
  refine ⟨?_, fun a b => ?_, fun a b => ?_⟩
  · have e1 : decide (n < -(2 ^ 63 : Int)) = false := decide_eq_false (by omega)
    have e2 : decide (n ≥ 2 ^ 63) = false := decide_eq_false (by omega)
    rw [e1, e2]; rfl
  · intro q
    have hb : (1000 : Int) ≤ (2 ^ 63 - 1) / n := by
      rw [Int.le_ediv_iff_mul_le (by omega)]
      omega
    omega
  · have hm : z.length * n.toNat ≤ 1000 * 1000 := Nat.mul_le_mul h3 (by omega)
    unfold Builtin.Str.tooLong
    have hs : sizeLine = 16777216 := sizeLine_eq
    first
      | (rw [decide_eq_false]; omega)
      | (simp; omega)
theorem opd_mul : OpD X (binaryOp .Mult) gMul := by
  refine opr_imp (op_mul.or op_mul_str) ?_
  rintro x y H Q ⟨ρ, S, d1, d2, v, S', R, h1, h2, e, k⟩
  cases d1 with
  | int i =>
    cases d2 with
    | int j =>
      dsimp only [gMul] at e
      split at e
      · cases e
        exact .inl ⟨i, j, h1.of_int, h2.of_int, by assumption, k _ ρ H Ext.refl R .flat_int⟩
      · cases e
    | _ => cases e
  | str z =>
    cases d2 with
    | int j =>
      dsimp only [gMul] at e
      split at e
      · cases e
        exact .inr ⟨z, j, h1.of_str, h2.of_int, mulOk_ok (by assumption), k _ ρ H Ext.refl R .flat_str⟩
      · cases e
    | _ => cases e
  | _ => cases e
def gGt : D → D → Sto → Option (D × Sto) := gInt (fun _ _ => true) fun i j => .bl (decide (j < i))
theorem opd_gt : OpD X (compareOp .Gt) gGt := opd_int0 op_gt fun _ _ _ _ => .flat_bl
def gGe : D → D → Sto → Option (D × Sto) := gInt (fun _ _ => true) fun i j => .bl (decide (j ≤ i))
theorem opd_ge : OpD X (compareOp .GtE) gGe := opd_int0 op_ge fun _ _ _ _ => .flat_bl
def gLe : D → D → Sto → Option (D × Sto)
  | .int i, .int j, S => some (.bl (decide (i ≤ j)), S)
  | .str i, .str j, S => some (.bl (!decide (j.cps.toList < i.cps.toList)), S)
  | _, _, _ => none
theorem opd_le : OpD X (compareOp .LtE) gLe := by
  refine opr_imp (op_le.or op_le_str) ?_
  rintro x y H Q ⟨ρ, S, d1, d2, v, S', R, h1, h2, e, k⟩
  cases d1 with
  | int i =>
    cases d2 with
    | int j => cases e; exact .inl ⟨i, j, h1.of_int, h2.of_int, k _ ρ H Ext.refl R .flat_bl⟩
    | _ => cases e
  | str i =>
    cases d2 with
    | str j => cases e; exact .inr ⟨i, j, h1.of_str, h2.of_str, k _ ρ H Ext.refl R .flat_bl⟩
    | _ => cases e
  | _ => cases e
/-- is, is not: beside None, True, False -/
def isD : D → D → Option Bool
  | .bl b, .bl c => some (b == c)
  | _, .bl _ => some false
  | .non, .non => some true
  | _, .non => some false
  | _, _ => none
def gIs : D → D → Sto → Option (D × Sto) := fun a b S => (isD a b).map fun r => (.bl r, S)
def gIsNot : D → D → Sto → Option (D × Sto) := fun a b S => (isD a b).map fun r => (.bl (!r), S)
theorem isD_bl {K : PySem.W.Frag} {ρ : List Addr} {H : Hp} {d : D} {x : V} {c r : Bool} (h : DR K ρ H d x) (e : isD d (.bl c) = some r) : decide (x = .bl c) = r := by
  cases d with
  | bl b => rw [h.of_bl]; cases e; cases b <;> cases c <;> rfl
  | non => rw [h.of_non]; cases e; rfl
  | int i => rw [h.of_int]; cases e; rfl
  | str i => rw [h.of_str]; cases e; rfl
  | tup xs => obtain ⟨a, us, rfl, _⟩ := h.of_tup; cases e; rfl
  | ref n => obtain ⟨a, _, rfl⟩ := h.of_ref; cases e; rfl
  | scr ns => obtain ⟨a, rfl, _⟩ := h.of_scr; cases e; rfl
theorem isD_non {K : PySem.W.Frag} {ρ : List Addr} {H : Hp} {d : D} {x : V} {r : Bool} (h : DR K ρ H d x) (e : isD d .non = some r) : decide (x = .non) = r := by
  cases d with
  | bl b => rw [h.of_bl]; cases e; rfl
  | non => rw [h.of_non]; cases e; rfl
  | int i => rw [h.of_int]; cases e; rfl
  | str i => rw [h.of_str]; cases e; rfl
  | tup xs => obtain ⟨a, us, rfl, _⟩ := h.of_tup; cases e; rfl
  | ref n => obtain ⟨a, _, rfl⟩ := h.of_ref; cases e; rfl
  | scr ns => obtain ⟨a, rfl, _⟩ := h.of_scr; cases e; rfl
theorem isD_right {d1 d2 : D} {r : Bool} (e : isD d1 d2 = some r) : (∃ c, d2 = .bl c) ∨ d2 = .non := by
  cases d2 with
  | bl c => exact .inl ⟨c, rfl⟩
  | non => exact .inr rfl
  | _ => cases d1 <;> cases e
theorem opd_is : OpD X (compareOp .Is) gIs := by
  refine opr_imp (op_isB.or op_isN) ?_
  rintro x y H Q ⟨ρ, S, d1, d2, v, S', R, h1, h2, e, k⟩
  obtain ⟨r, e1, e2⟩ := Option.map_eq_some_iff.mp e
  cases e2
  rcases isD_right e1 with ⟨c, rfl⟩ | rfl
  · exact .inl ⟨c, h2.of_bl, by rw [isD_bl h1 e1]; exact k _ ρ H Ext.refl R .flat_bl⟩
  · exact .inr ⟨h2.of_non, by rw [isD_non h1 e1]; exact k _ ρ H Ext.refl R .flat_bl⟩
theorem opd_isNot : OpD X (compareOp .IsNot) gIsNot := by
  refine opr_imp (op_isNotB.or op_notN) ?_
  rintro x y H Q ⟨ρ, S, d1, d2, v, S', R, h1, h2, e, k⟩
  obtain ⟨r, e1, e2⟩ := Option.map_eq_some_iff.mp e
  cases e2
  rcases isD_right e1 with ⟨c, rfl⟩ | rfl
  · exact .inl ⟨c, h2.of_bl, by rw [isD_bl h1 e1]; exact k _ ρ H Ext.refl R .flat_bl⟩
  · exact .inr ⟨h2.of_non, by rw [isD_non h1 e1]; exact k _ ρ H Ext.refl R .flat_bl⟩
/-! ### items, slices -/
def gIx : D → D → Sto → Option (D × Sto)
  | .tup xs, .int i, S => (atI xs i).map fun d => (d, S)
  | .str z, .int i, S => if z.length ≤ sizeLine then (atI z.cps.toList i).map fun c => (.str ⟨#[c]⟩, S) else none
  | .scr ns, .int i, S => (atI ns i).map fun n => (.int n, S)
  | .ref n, k, S => match S[n]? with
    | some (.lst xs) => (match k with | .int i => (atI xs i).map fun d => (d, S) | _ => none)
    | _ => (dctAt S n k).bind fun kvs => (dget kvs k).map fun d => (d, S)
  | _, _, _ => none
theorem atI_rel {K : PySem.W.Frag} {ρ : List Addr} {H : Hp} {ds : List D} {xs : List V} {i : Int} {d : D} (h : DsR K ρ H ds xs) (e : atI ds i = some d) : ∃ x, atI xs i = some x ∧ DR K ρ H d x := by
  unfold atI at e ⊢
  rw [h.length] at e
  obtain ⟨j, e1, e2⟩ := Option.bind_eq_some_iff.mp e
  obtain ⟨x, h1, h2⟩ := h.get e2
  exact ⟨x, by rw [e1]; exact h1, h2⟩
theorem atI_map {α β : Type} {f : α → β} {xs : List α} {i : Int} {a : α} (h : atI xs i = some a) : atI (xs.map f) i = some (f a) := by
  unfold atI at h ⊢
  rw [List.length_map]
  obtain ⟨j, e1, e2⟩ := Option.bind_eq_some_iff.mp h
  rw [e1]
  show (xs.map f)[j]? = _
  rw [List.getElem?_map, e2]; rfl
def rIxD : R2 := fun x y H Q => ∃ a v, x = .ref a ∧ DGetE H a y (some v) ∧ Q v H
theorem ix_dict (hu : X.A.units + 64 < cLine) : IxR X rIxD := by
  intro value slice pins s σ H x y v u Q I rx ry h hs
  obtain ⟨a, z, rfl, g, q⟩ := h
  cases rx
  have g' := g.ofSome
  exact tail_any (dict_typeIs I g') PySem.F.slot_dict_getitem.lookup (d_getItem (by omega) I g' ry fun w' s3 I3 rw' => ⟨z, H, I3, rw', q⟩) hs
theorem ix_read {K : PySem.W.Frag} {x y : V} {H : Hp} {Q : VK} (h : rD K gIx x y H Q) : rIx K x y H Q ∨ rIxD x y H Q := by
  obtain ⟨ρ, S, d1, d2, v, S', R, h1, h2, e, k⟩ := h
  have seq : ∀ {a : Addr} {xs : List V} {ds : List D} {i : Int}, x = .ref a → d2 = .int i → (SqL K H a xs ∨ SqT K H a xs) → DsR K ρ H ds xs → (atI ds i).map (fun d => (d, S)) = some (v, S') → rIx K x y H Q := by
    intro a xs ds i ex ei hs hd em
    subst ex ei
    obtain ⟨d, e1, e2⟩ := Option.map_eq_some_iff.mp em
    cases e2
    obtain ⟨z, z1, z2⟩ := atI_rel hd e1
    rcases hs with hs | hs
    · exact .inl ⟨a, xs, i, z, rfl, h2.of_int, hs, z1, k _ ρ H Ext.refl R z2⟩
    · exact .inr (.inl ⟨a, xs, i, z, rfl, h2.of_int, hs, z1, k _ ρ H Ext.refl R z2⟩)
  cases d1 with
  | tup ds =>
    cases d2 with
    | int i =>
      obtain ⟨a, xs, rfl, a1, a2⟩ := h1.of_tup
      exact .inl (seq rfl rfl (.inr (.of a1)) a2 e)
    | _ => cases e
  | str z =>
    cases d2 with
    | int i =>
      dsimp only [gIx] at e
      split at e
      · rename_i hz
        obtain ⟨c, e1, e2⟩ := Option.map_eq_some_iff.mp e
        cases e2
        exact .inl (.inr (.inr ⟨z, i, c, h1.of_str, h2.of_int, hz, e1, k _ ρ H Ext.refl R .flat_str⟩))
      · cases e
    | _ => cases e
  | scr ns =>
    cases d2 with
    | int i =>
      obtain ⟨d, e1, e2⟩ := Option.map_eq_some_iff.mp e
      cases e2
      obtain ⟨a, rfl, a1⟩ := h1.of_scr
      exact .inl (.inl ⟨a, _, i, _, rfl, h2.of_int, a1.seq, atI_map e1, k _ ρ H Ext.refl R .flat_int⟩)
    | _ => cases e
  | ref n =>
    obtain ⟨a, a1, rfl⟩ := h1.of_ref
    dsimp only [gIx] at e
    split at e
    · rename_i xs hn
      obtain ⟨ob, eo, ro⟩ := R.obj a1
      rw [hn] at eo
      cases eo
      obtain ⟨ys, y1, y2⟩ := ro
      cases d2 with
      | int i => exact .inl (seq rfl rfl (.inl (.of y1)) y2 e)
      | _ => cases e
    · obtain ⟨kvs, e3, e⟩ := Option.bind_eq_some_iff.mp e
      obtain ⟨d, e1, e2⟩ := Option.map_eq_some_iff.mp e
      cases e2
      obtain ⟨g1, _⟩ := dget_ok R a1 e3 h2
      obtain ⟨z, z1, z2⟩ := g1 _ e1
      exact .inr ⟨a, z, rfl, z1, k _ ρ H Ext.refl R z2⟩
  | _ => cases d2 <;> cases e
theorem se_ix {ma mb : M D} (hu : X.A.units + 64 < cLine) (ha : SE X a ma) (hb : SE X b mb) (hs : PlainIx b := by intro _ _; rfl) : SE X (.Subscript a b pos) (mOp gIx ma mb) := by
  refine pe_imp (pe_ix (ix_seq.or (ix_dict hu)) ha hb hs) ?_
  intro σ H Q h
  obtain ⟨ρ, en, S, v, S', E, R, e, k⟩ := op_read h
  exact ⟨ρ, en, S, v, S', E, R, e, fun x ρ1 H1 X1 R1 d1 => by
    obtain ⟨ρ2, en2, S2, v2, S2', E2, R2, e2, k2⟩ := k x ρ1 H1 X1 R1 d1
    exact ⟨ρ2, en2, S2, v2, S2', E2, R2, e2, fun y ρ3 H3 X3 R3 d3 => ix_read (k2 y ρ3 H3 X3 R3 d3)⟩⟩
def cutD {α : Type} (xs : List α) (lo hi : Option Int) : List α := (xs.drop (HT.sIx xs.length 0 lo)).take (HT.sIx xs.length xs.length hi - HT.sIx xs.length 0 lo)
def slD : D → Option Int → Option Int → Sto → Option (D × Sto)
  | .str z, lo, hi, S => if z.length ≤ sizeLine then some (.str (Txt.slice z lo hi), S) else none
  | .tup ds, lo, hi, S => if HT.sIx ds.length 0 lo = 0 ∧ HT.sIx ds.length ds.length hi = ds.length then none else some (.tup (cutD ds lo hi), S)
  | .ref n, lo, hi, S => match S[n]? with | some (.lst ds) => some (.ref S.length, S ++ [.lst (cutD ds lo hi)]) | _ => none
  | _, _, _, _ => none
def mPart (m : M D) : M (Option Int) := fun en S => (m en S).bind fun p => match p.1 with | .int i => some (some i, p.2) | _ => none
def mNoPart : M (Option Int) := fun _ S => some (none, S)
def tMO (K : PySem.W.Frag) (m : M (Option Int)) : TO := fun σ H Q => ∃ ρ en S o S', EnR K ρ H en σ ∧ StR K ρ H S ∧ m en S = some (o, S') ∧ ∀ ρ' H', Ext ρ H ρ' H' → StR K ρ' H' S' → Q o H'
def SO (X : Cx) (e : Option Expr) (m : M (Option Int)) : Prop := PO X e (tMO X.K m)
theorem so_none : SO X none mNoPart := by
  intro pins s σ H Q I q
  obtain ⟨ρ, en, S, o, S', E, R, e, k⟩ := q
  cases e
  exact po_none pins s σ H Q I (k ρ H Ext.refl R)
theorem so_some {m : M D} (h : SE X e m) : SO X (some e) (mPart m) := by
  intro pins s σ H Q I q
  refine po_some h pins s σ H Q I ?_
  obtain ⟨ρ, en, S, o, S', E, R, e, k⟩ := q
  unfold mPart at e
  obtain ⟨p, e1, e⟩ := Option.bind_eq_some_iff.mp e
  obtain ⟨d, S1⟩ := p
  cases d with
  | int i =>
    cases e
    exact ⟨ρ, en, S, .int i, _, E, R, e1, fun x ρ1 H1 X1 R1 d1 => ⟨i, d1.of_int, k ρ1 H1 X1 R1⟩⟩
  | _ => cases e
def mSl (m : M D) (lo hi : M (Option Int)) : M D := fun en S => (m en S).bind fun p => (lo en p.2).bind fun l => (hi en l.2).bind fun u => slD p.1 l.1 u.1 u.2
theorem se_slice {lo hi : Option Expr} {p2 : Pos} {m : M D} {ml mh : M (Option Int)} (he : SE X e m) (hl : SO X lo ml) (hh : SO X hi mh) : SE X (.Subscript e (.Slice lo hi none p2) pos) (mSl m ml mh) := by
  refine pe_imp (pe_slice (sl_str.or (sl_tup.or sl_list)) he hl hh) ?_
  rintro σ H Q ⟨ρ, en, S, v, S', E, R, e, k⟩
  unfold mSl at e
  obtain ⟨p, e1, e⟩ := Option.bind_eq_some_iff.mp e
  obtain ⟨l, e2, e⟩ := Option.bind_eq_some_iff.mp e
  obtain ⟨u, e3, e⟩ := Option.bind_eq_some_iff.mp e
  refine ⟨ρ, en, S, p.1, p.2, E, R, e1, fun x ρ1 H1 X1 R1 d1 => ⟨ρ1, en, p.2, l.1, l.2, E.up X1, R1, e2, fun ρ2 H2 X2 R2 => ⟨ρ2, en, l.2, u.1, u.2, (E.up X1).up X2, R2, e3, fun ρ3 H3 X3 R3 => ?_⟩⟩⟩
  have d3 := (d1.up X2).up X3
  have XX := (X1.trans X2).trans X3
  obtain ⟨d, S1⟩ := p
  dsimp only at d3 e
  cases d with
  | str z =>
    dsimp only [slD] at e
    split at e
    · cases e
      exact .inl ⟨z, d3.of_str, by assumption, k _ ρ3 H3 XX R3 .flat_str⟩
    · cases e
  | tup ds =>
    dsimp only [slD] at e
    split at e
    · cases e
    · rename_i hw
      cases e
      obtain ⟨a, xs, rfl, a1, a2⟩ := d3.of_tup
      have cut : DsR X.K ρ3 H3 (cutD ds l.1 u.1) (cutV xs l.1 u.1) := by
        unfold cutD cutV
        rw [a2.length]
        exact (a2.drop _).take _
      rw [a2.length] at hw
      exact .inr (.inl ⟨a, xs, rfl, .of a1, hw, fun q hq => k _ ρ3 _ (XX.trans (Ext.new hq)) (R3.new hq) (.tup upd_same (cut.up (Ext.new hq)))⟩)
  | ref n =>
    obtain ⟨a, a1, rfl⟩ := d3.of_ref
    obtain ⟨ob, eo, ro⟩ := R3.obj a1
    dsimp only [slD] at e
    rw [eo] at e
    cases ob with
    | lst ds =>
      cases e
      obtain ⟨xs, x1, x2⟩ := ro
      have cut : DsR X.K ρ3 H3 (cutD ds l.1 u.1) (cutV xs l.1 u.1) := by
        unfold cutD cutV
        rw [x2.length]
        exact (x2.drop _).take _
      refine .inr (.inr ⟨a, xs, rfl, .of x1, fun q hq => ?_⟩)
      refine k _ (ρ3 ++ [q]) _ (XX.trans (Ext.newRef hq)) (R3.push hq ⟨_, upd_same, cut.up (Ext.newRef hq)⟩) (.ref ?_)
      rw [← R3.len]; simp
    | dct _ => cases e
    | fdct _ => cases e
    | ins _ _ => cases e
  | _ => cases e

/-! ### built-in functions -/
def boolsD : List D → Option (List Bool)
  | [] => some []
  | .bl b :: r => (boolsD r).map fun bs => b :: bs
  | _ => none
theorem boolsD_ok {K : PySem.W.Frag} {ρ : List Addr} {H : Hp} : ∀ {ds : List D} {xs : List V} {bs : List Bool}, DsR K ρ H ds xs → boolsD ds = some bs → xs = bs.map V.bl
  | [], xs, bs, h, e => by
    cases e
    unfold DsR at h; rw [h]; rfl
  | d :: ds, xs, bs, h, e => by
    unfold DsR at h
    obtain ⟨x, r, rfl, h1, h2⟩ := h
    cases d with
    | bl b =>
      obtain ⟨cs, e1, e2⟩ := Option.map_eq_some_iff.mp e
      cases e2
      rw [List.map_cons, h1.of_bl, boolsD_ok h2 e1]
    | _ => cases e
def strsD : List D → Option (List Str)
  | [] => some []
  | .str b :: r => (strsD r).map fun bs => b :: bs
  | _ => none
theorem strsD_ok {K : PySem.W.Frag} {ρ : List Addr} {H : Hp} : ∀ {ds : List D} {xs : List V} {bs : List Str}, DsR K ρ H ds xs → strsD ds = some bs → xs = bs.map V.str
  | [], xs, bs, h, e => by
    cases e
    unfold DsR at h; rw [h]; rfl
  | d :: ds, xs, bs, h, e => by
    unfold DsR at h
    obtain ⟨x, r, rfl, h1, h2⟩ := h
    cases d with
    | str b =>
      obtain ⟨cs, e1, e2⟩ := Option.map_eq_some_iff.mp e
      cases e2
      rw [List.map_cons, h1.of_str, strsD_ok h2 e1]
    | _ => cases e
def mAll (m : M (List D)) : M D := fun en S => (m en S).bind fun p => (boolsD p.1).map fun bs => (.bl (bs.all id), p.2)
def mAny (m : M (List D)) : M D := fun en S => (m en S).bind fun p => (boolsD p.1).map fun bs => (.bl (bs.any id), p.2)
theorem se_all {p : Pos} {m : M (List D)} (hc : X.calm = true) (h : SQ X e m) (hg : Gl X "all") (hm : X.mg "all" = none) (hv : bootBuiltins "all" = some (.builtin "all"))
    (he : starEach [e] X.env = (false, eval e X.env) :: starEach [] X.env := by rfl) : SE X (.Call (.Name "all" p) [e] [] pos) (mAll m) := by
  refine pe_imp (pe_callB (call_all_bls hc) hg hm hv (pa_cons h pa_nil he) (by decide) (by decide) he (by rfl)) ?_
  rintro σ H Q ⟨ρ, en, S, v, S', E, R, e, k⟩
  unfold mAll at e
  obtain ⟨r, e1, e⟩ := Option.bind_eq_some_iff.mp e
  obtain ⟨bs, e2, e3⟩ := Option.map_eq_some_iff.mp e
  cases e3
  refine ⟨ρ, en, S, r.1, r.2, E, R, e1, fun a xs ρ1 H1 X1 R1 sq d1 => ⟨a, bs, rfl, ?_, k _ ρ1 H1 X1 R1 .flat_bl⟩⟩
  rw [← boolsD_ok d1 e2]; exact sq
theorem se_any {p : Pos} {m : M (List D)} (hc : X.calm = true) (h : SQ X e m) (hg : Gl X "any") (hm : X.mg "any" = none) (hv : bootBuiltins "any" = some (.builtin "any"))
    (he : starEach [e] X.env = (false, eval e X.env) :: starEach [] X.env := by rfl) : SE X (.Call (.Name "any" p) [e] [] pos) (mAny m) := by
  refine pe_imp (pe_callB (call_any_bls hc) hg hm hv (pa_cons h pa_nil he) (by decide) (by decide) he (by rfl)) ?_
  rintro σ H Q ⟨ρ, en, S, v, S', E, R, e, k⟩
  unfold mAny at e
  obtain ⟨r, e1, e⟩ := Option.bind_eq_some_iff.mp e
  obtain ⟨bs, e2, e3⟩ := Option.map_eq_some_iff.mp e
  cases e3
  refine ⟨ρ, en, S, r.1, r.2, E, R, e1, fun a xs ρ1 H1 X1 R1 sq d1 => ⟨a, bs, rfl, ?_, k _ ρ1 H1 X1 R1 .flat_bl⟩⟩
  rw [← boolsD_ok d1 e2]; exact sq
/-- len -/
def lenD : D → Sto → Option Nat
  | .str x, _ => if x.length ≤ sizeLine then some x.length else none
  | .tup ds, _ => some ds.length
  | .ref n, S => match S[n]? with | some (.lst ds) => some ds.length | some (.dct kvs) => some kvs.length | some (.fdct kvs) => some kvs.length | _ => none
  | .scr ns, _ => some ns.length
  | _, _ => none
def mLen (m : M D) : M D := fun en S => (m en S).bind fun p => (lenD p.1 p.2).map fun n => (.int n, p.2)
theorem call_len_dict' : CallR X (.builtin "len") (fun xs H Q => ∃ a, xs = [V.ref a] ∧ ((∃ kvs, Rd H a (.dK kvs) ∧ Q (.int kvs.length) H) ∨ ∃ kvs, Rd H a (.dT kvs) ∧ Q (.int kvs.length) H)) := by
  intro pins s σ H xs us Q I rx h
  obtain ⟨a, rfl, h⟩ := h
  obtain ⟨u, rfl, ru⟩ := Vals.one rx
  cases ru
  rcases h with ⟨kvs, h1, q⟩ | ⟨kvs, h1, q⟩
  · exact d_len I h1 fun t s' I' => ⟨.int kvs.length, H, I', ⟨t, rfl⟩, q⟩
  · obtain ⟨hz, hS, xs, r, m⟩ := dt_rd I.hok h1
    have hlen : kvs.length = xs.length := Paired.length r
    have hs : sizeLine = 16777216 := sizeLine_eq
    refine call_len_heap hS m (by omega) ?_
    rw [← hlen]
    exact ⟨.int kvs.length, H, I.tok _, ⟨_, rfl⟩, q⟩
theorem se_len {p : Pos} {m : M D} (h : SE X e m) (hg : Gl X "len") (hm : X.mg "len" = none) (hv : bootBuiltins "len" = some (.builtin "len"))
    (he : starEach [e] X.env = (false, eval e X.env) :: starEach [] X.env := by rfl) : SE X (.Call (.Name "len" p) [e] [] pos) (mLen m) := by
  refine pe_imp (pe_callB (call_len_seq.or (call_len_str.or call_len_dict')) hg hm hv (pa_cons h pa_nil he) (by decide) (by decide) he (by rfl)) ?_
  rintro σ H Q ⟨ρ, en, S, v, S', E, R, e, k⟩
  unfold mLen at e
  obtain ⟨r, e1, e⟩ := Option.bind_eq_some_iff.mp e
  obtain ⟨n, e2, e3⟩ := Option.map_eq_some_iff.mp e
  cases e3
  refine ⟨ρ, en, S, r.1, r.2, E, R, e1, fun x ρ1 H1 X1 R1 d1 => ?_⟩
  obtain ⟨d, S1⟩ := r
  dsimp only at e2 d1 R1 k
  cases d with
  | str z =>
    dsimp only [lenD] at e2
    split at e2
    · cases e2
      exact .inr (.inl ⟨z, by rw [d1.of_str], by assumption, k _ ρ1 H1 X1 R1 .flat_int⟩)
    · cases e2
  | tup ds =>
    cases e2
    obtain ⟨a, xs, rfl, a1, a2⟩ := d1.of_tup
    exact .inl ⟨a, xs, rfl, .inr (.of a1), by rw [← a2.length]; exact k _ ρ1 H1 X1 R1 .flat_int⟩
  | ref m0 =>
    obtain ⟨a, a1, rfl⟩ := d1.of_ref
    obtain ⟨ob, eo, ro⟩ := R1.obj a1
    dsimp only [lenD] at e2
    rw [eo] at e2
    cases ob with
    | lst ds =>
      cases e2
      obtain ⟨xs, x1, x2⟩ := ro
      exact .inl ⟨a, xs, rfl, .inl (.of x1), by rw [← x2.length]; exact k _ ρ1 H1 X1 R1 .flat_int⟩
    | dct kvs =>
      cases e2
      rcases ro with ⟨ks, xs, x1, x2, x3, x4⟩ | ⟨ks, xs, x1, x2, x3, x4⟩
      · have l1 := congrArg List.length x3
        rw [List.length_map, List.length_map] at l1
        refine .inr (.inr ⟨a, rfl, .inl ⟨_, .inl x1, ?_⟩⟩)
        rw [List.length_zip, ← x2, Nat.min_self, ← l1]
        exact k _ ρ1 H1 X1 R1 .flat_int
      · have l1 := congrArg List.length x3
        rw [List.length_map, List.length_map] at l1
        refine .inr (.inr ⟨a, rfl, .inr ⟨_, .inl x1, ?_⟩⟩)
        rw [List.length_zip, ← x2, Nat.min_self, ← l1]
        exact k _ ρ1 H1 X1 R1 .flat_int
    | fdct kvs =>
      cases e2
      obtain ⟨o, ks, xs, x1, x2, x3, x4⟩ := ro
      have l1 := congrArg List.length x3
      rw [List.length_map, List.length_map] at l1
      refine .inr (.inr ⟨a, rfl, .inl ⟨_, .inr ⟨o, x1⟩, ?_⟩⟩)
      rw [List.length_zip, ← x2, Nat.min_self, ← l1]
      exact k _ ρ1 H1 X1 R1 .flat_int
    | ins _ _ => cases e2
  | scr ns =>
    cases e2
    obtain ⟨a, rfl, a1⟩ := d1.of_scr
    exact .inl ⟨a, _, rfl, .inl a1.seq, by rw [List.length_map]; exact k _ ρ1 H1 X1 R1 .flat_int⟩
  | _ => cases e2
/-- isinstance by one built-in type -/
def tyD : D → Sto → Option String
  | .non, _ => some "NoneType"
  | .bl _, _ => some "bool"
  | .int _, _ => some "int"
  | .str _, _ => some "str"
  | .tup _, _ => some "tuple"
  | .ref n, S => match S[n]? with | some (.lst _) => some "list" | some (.dct _) => some "dict" | _ => none
  | .scr _, _ => none
theorem tyD_ok {K : PySem.W.Frag} {ρ : List Addr} {H : Hp} {S : Sto} {d : D} {x : V} {T : String} (R : StR K ρ H S) (h : DR K ρ H d x) (e : tyD d S = some T) : TyOf K H x (.type T) := by
  cases d with
  | non => rw [h.of_non]; cases e; exact .non
  | bl b => rw [h.of_bl]; cases e; exact .bl b
  | int i => rw [h.of_int]; cases e; exact .int i
  | str z => rw [h.of_str]; cases e; exact .str z
  | tup ds =>
    obtain ⟨a, xs, rfl, a1, _⟩ := h.of_tup
    cases e; exact .tup a1
  | ref n =>
    obtain ⟨a, a1, rfl⟩ := h.of_ref
    obtain ⟨ob, eo, ro⟩ := R.obj a1
    dsimp only [tyD] at e
    rw [eo] at e
    cases ob with
    | lst ds =>
      cases e
      obtain ⟨xs, x1, _⟩ := ro
      exact .lst x1
    | dct kvs =>
      cases e
      rcases ro with ⟨ks, xs, x1, _⟩ | ⟨ks, xs, x1, _⟩
      · exact .dK x1
      · exact .dT x1
    | fdct _ => cases e
    | ins _ _ => cases e
  | scr ns => cases e
def isiT (T C : String) : Bool := T == C || (T == "bool" && C == "int")
def Isi (K : PySem.W.Frag) (C : String) : Prop := ∀ T ∈ ["NoneType", "bool", "int", "str", "tuple", "list", "dict"], PySem.W.kitOne K (.type T) (.type C) = some (isiT T C)
theorem tyD_in {d : D} {S : Sto} {T : String} (e : tyD d S = some T) : T ∈ ["NoneType", "bool", "int", "str", "tuple", "list", "dict"] := by
  cases d with
  | ref n =>
    dsimp only [tyD] at e
    split at e <;> cases e <;> simp
  | _ => cases e <;> simp
def mIsi (C : String) (m : M D) : M D := fun en S => (m en S).bind fun p => (tyD p.1 p.2).map fun T => (.bl (isiT T C), p.2)
theorem call_isi {C : String} : CallR X (.builtin "isinstance") (fun xs H Q => ∃ x t b, xs = [x, .ty C] ∧ TyOf X.K H x t ∧ PySem.W.kitOne X.K t (.type C) = some b ∧ Q (.bl b) H) := by
  intro pins s σ H xs us Q I r h
  obtain ⟨x, t, b, rfl, ty, e, q⟩ := h
  obtain ⟨u, w', rfl, ru, rw'⟩ := vals2 r
  cases rw'
  exact isinst_ok I ru ty e fun tk => ⟨.bl b, H, I.tok tk, rfl, q⟩
theorem se_isi {p p2 : Pos} {C : String} {x : Str} {m : M D} (hi : Isi X.K C) (h : SE X a m) (hg : Gl X "isinstance") (hm : X.mg "isinstance" = none) (hv : bootBuiltins "isinstance" = some (.builtin "isinstance"))
    (hg2 : Gl X x) (hm2 : X.mg x = none) (hv2 : bootBuiltins x = some (.type C)) (hn2 : x ≠ "__name__" := by decide) (hd2 : (x == ("__debug__" : Str)) = false := by decide)
    (he : starEach [a, .Name x p2] X.env = (false, eval a X.env) :: starEach [.Name x p2] X.env := by rfl) (he2 : starEach [.Name x p2] X.env = (false, eval (.Name x p2) X.env) :: starEach [] X.env := by rfl) :
    SE X (.Call (.Name "isinstance" p) [a, .Name x p2] [] pos) (mIsi C m) := by
  refine pe_imp (pe_callB (call_isi (C := C)) hg hm hv (pa_cons h (pa_cons (pe_bltn hg2 hm2 hv2 (show RelV (.ty C) (.type C) from rfl) hn2 hd2) pa_nil he2) he) (by decide) (by decide) he (by rw [he2]; rfl)) ?_
  rintro σ H Q ⟨ρ, en, S, v, S', E, R, e, k⟩
  unfold mIsi at e
  obtain ⟨r, e1, e⟩ := Option.bind_eq_some_iff.mp e
  obtain ⟨T, e2, e3⟩ := Option.map_eq_some_iff.mp e
  cases e3
  exact ⟨ρ, en, S, r.1, r.2, E, R, e1, fun x ρ1 H1 X1 R1 d1 => ⟨x, _, _, rfl, tyD_ok R1 d1 e2, hi T (tyD_in e2), k _ ρ1 H1 X1 R1 .flat_bl⟩⟩
/-- sep.join(a sequence of texts) -/
def mJoin (sep : M D) (m : M (List D)) : M D := fun en S => (sep en S).bind fun q => match q.1 with
  | .str x => (m en q.2).bind fun p => (strsD p.1).bind fun ys => if (ys.map (·.length)).sum + ys.length * x.length ≤ 16777216 then some (.str (Txt.join x ys), p.2) else none
  | _ => none
theorem se_join {p : Pos} {sep : M D} {m : M (List D)} (hs : SE X a sep) (h : SQ X e m) (he : PA X [e] (tCons (tMQ X.K m) tNil) := by exact pa_cons h pa_nil) 
    (hb : PE X (.Call (.Attribute a "join" p) [e] [] pos) (tBM X.K "str" (fun x xs H Q => ∃ (sep : Str) (a : Addr) (ys : List Str), x = .str sep ∧ xs = [.ref a] ∧ (SqL X.K H a (ys.map V.str) ∨ SqT X.K H a (ys.map V.str)) ∧ (ys.map (·.length)).sum + ys.length * sep.length ≤ 16777216 ∧ Q (.str (Txt.join sep ys)) H) (tM X.K sep) (tCons (tMQ X.K m) tNil))) :
    SE X (.Call (.Attribute a "join" p) [e] [] pos) (mJoin sep m) := by
  refine pe_imp hb ?_
  rintro σ H Q ⟨ρ, en, S, v, S', E, R, e, k⟩
  unfold mJoin at e
  obtain ⟨q, e0, e⟩ := Option.bind_eq_some_iff.mp e
  obtain ⟨d, S0⟩ := q
  cases d with
  | str x =>
    dsimp only at e
    obtain ⟨r, e1, e⟩ := Option.bind_eq_some_iff.mp e
    obtain ⟨ys, e2, e⟩ := Option.bind_eq_some_iff.mp e
    split at e
    · rename_i hz
      cases e
      refine ⟨ρ, en, S, .str x, S0, E, R, e0, fun z ρ0 H0 X0 R0 d0 => ?_⟩
      rw [d0.of_str]
      refine ⟨rfl, ρ0, en, S0, r.1, r.2, E.up X0, R0, e1, fun a xs ρ1 H1 X1 R1 sq d1 => ⟨x, a, ys, rfl, rfl, ?_, hz, k _ ρ1 H1 (X0.trans X1) R1 .flat_str⟩⟩
      rw [← strsD_ok d1 e2]; exact sq
    · cases e
  | _ => cases e

/-! ### what is walked -/
def iterD : D → Sto → Option (ItD × Sto)
  | .tup ds, S => some ((ds, .no), S)
  | .ref n, S => match S[n]? with
    | some (.lst ds) => some ((ds, .lst n), S)
    | some (.dct kvs) => if (kvs.all fun p => (keyD p.1).isSome) = true then some ((kvs.map (·.1), .fr n kvs true), S.set n (.fdct kvs)) else none
    | some (.fdct kvs) => some ((kvs.map (·.1), .fr n kvs false), S)
    | _ => none
  | .scr ns, S => some ((ns.map D.int, .no), S)
  | .str x, S => some ((x.cps.toList.map fun c => D.str ⟨#[c]⟩, .no), S)
  | _, _ => none
def mIter (m : M D) : M ItD := fun en S => (m en S).bind fun p => iterD p.1 p.2
theorem itr_list {K : PySem.W.Frag} {ρ0 : List Addr} {H0 : Hp} {n : Nat} {a : Addr} {ds : List D} (ha : ρ0[n]? = some a) : ItR K ρ0 H0 (Itl K a) ds (.lst n) := by
  intro ρ H S X R g
  have g' : S[n]? = some (.lst ds) := g
  obtain ⟨a', h1, xs, h2, h3⟩ := R.ob n _ g'
  have e : a' = a := by
    have := X.pre n a ha
    rw [this] at h1
    exact (Option.some.inj h1).symm
  subst e
  refine ⟨fun i d hd => ?_, xs, .of h2, by rw [← h3.length]; exact Nat.le_refl _⟩
  obtain ⟨x, x1, x2⟩ := h3.get hd
  refine ⟨⟨xs, x, .of h2, x1⟩, fun y H' hy => ?_⟩
  obtain ⟨rfl, hy⟩ := hy
  have := hy xs (.of h2)
  rw [x1] at this
  cases this
  exact ⟨Ext.refl, R, x2⟩
theorem itr_tup {K : PySem.W.Frag} {ρ0 : List Addr} {H0 : Hp} {a : Addr} {ds : List D} {xs : List V} (ha : H0 a = some (.tup xs)) (h3 : DsR K ρ0 H0 ds xs) : ItR K ρ0 H0 (Itt K a) ds .no := by
  intro ρ H S X R g
  have h2 := X.tup a xs ha
  have h3 := h3.up X
  refine ⟨fun i d hd => ?_, xs, .of h2, by rw [← h3.length]; exact Nat.le_refl _⟩
  obtain ⟨x, x1, x2⟩ := h3.get hd
  refine ⟨⟨xs, x, .of h2, x1⟩, fun y H' hy => ?_⟩
  obtain ⟨rfl, hy⟩ := hy
  have := hy xs (.of h2)
  rw [x1] at this
  cases this
  exact ⟨Ext.refl, R, x2⟩
theorem itr_scr {K : PySem.W.Frag} {ρ0 : List Addr} {H0 : Hp} {a : Addr} {ns : List Int} (ha : ScrR K H0 a ns) : ItR K ρ0 H0 (Itl K a) (ns.map D.int) .no := by
  intro ρ H S X R g
  have h2 := (ha.mono X.weak).seq
  have h3 : DsR K ρ H (ns.map D.int) (ns.map V.int) := .ints ns
  refine ⟨fun i d hd => ?_, _, h2, by rw [← h3.length]; exact Nat.le_refl _⟩
  obtain ⟨x, x1, x2⟩ := h3.get hd
  refine ⟨⟨_, x, h2, x1⟩, fun y H' hy => ?_⟩
  obtain ⟨rfl, hy⟩ := hy
  have := hy _ h2
  rw [x1] at this
  cases this
  exact ⟨Ext.refl, R, x2⟩
theorem itr_str {K : PySem.W.Frag} {ρ0 : List Addr} {H0 : Hp} {x : Str} : ItR K ρ0 H0 (Its x) (x.cps.toList.map fun c => D.str ⟨#[c]⟩) .no := by
  intro ρ H S X R g
  refine ⟨fun i d hd => ?_, by show _ = x.cps.size; simp⟩
  rw [List.getElem?_map] at hd
  have hd' : ∃ c, x.cps[i]? = some c ∧ d = D.str ⟨#[c]⟩ := by
    cases q : x.cps.toList[i]? with
    | none => rw [q] at hd; cases hd
    | some c => rw [q] at hd; cases hd; exact ⟨c, by simpa using q, rfl⟩
  obtain ⟨c, hc, rfl⟩ := hd'
  refine ⟨(Array.getElem?_eq_some_iff.mp hc).1, fun y H' hy => ?_⟩
  obtain ⟨rfl, c', h1, rfl⟩ := hy
  rw [hc] at h1
  cases h1
  exact ⟨Ext.refl, R, .flat_str⟩
theorem keyD_DR {K : PySem.W.Frag} {ρ : List Addr} {H : Hp} {d : D} {k : Key} (e : keyD d = some k) : DR K ρ H d (kV k) := by
  cases d with
  | int i => cases e; exact .flat_int
  | str x => cases e; exact .flat_str
  | _ => cases e
theorem itr_keys {K : PySem.W.Frag} {ρ0 : List Addr} {H0 : Hp} {n : Nat} {a : Addr} {o : Obj} {tab : List (Key × V)} {kvs : List (D × D)} {th : Bool} (ha : ρ0[n]? = some a) (h0 : H0 a = some (.frz o (.dK tab))) : ItR K ρ0 H0 (Itk a o) (kvs.map (·.1)) (.fr n kvs th) := by
  intro ρ H S X1 R hg
  have hH := X1.frz a o _ h0
  obtain ⟨ob, e1, r⟩ := R.obj (X1.pre n a ha)
  have hg' : S[n]? = some (.fdct kvs) := hg
  rw [hg'] at e1
  cases e1
  obtain ⟨o', ks, xs, q1, q2, q3, q4⟩ := r
  rw [hH] at q1
  cases q1
  have l1 := congrArg List.length q3
  rw [List.length_map, List.length_map] at l1
  refine ⟨fun i d hd => ?_, ⟨_, hH, by rw [List.length_map, List.length_zip, ← q2, Nat.min_self, l1]⟩⟩
  rw [List.getElem?_map] at hd
  obtain ⟨p, p1, p2⟩ := Option.map_eq_some_iff.mp hd
  have li : i < ks.length := by rw [← l1]; exact (List.getElem?_eq_some_iff.mp p1).1
  have hk : keyD d = some ks[i] := by
    have := congrArg (fun l => l[i]?) q3
    simp only [List.getElem?_map, p1, Option.map_some, List.getElem?_eq_getElem li] at this
    rw [← p2]
    exact Option.some.inj this
  have hz : (ks.zip xs)[i]? = some (ks[i], xs[i]'(by omega)) := by
    rw [List.getElem?_eq_getElem (by rw [List.length_zip]; omega), List.getElem_zip]
  refine ⟨⟨_, ks[i], xs[i]'(by omega), hH, hz⟩, fun x H' y => ?_⟩
  obtain ⟨rfl, y2⟩ := y
  obtain ⟨k, v, y3, rfl⟩ := y2 _ hH
  rw [hz] at y3
  cases y3
  exact ⟨Ext.refl, R, keyD_DR hk⟩
theorem si_of {tg : Expr} {m : M D} (h : SE X e m) : SI X tg e (mIter m) := by
  refine pi_imp (pi_any h) ?_
  rintro σ H Q ⟨ρ, en, S, r, S', E, R, e, k⟩
  unfold mIter at e
  obtain ⟨p, e1, e2⟩ := Option.bind_eq_some_iff.mp e
  refine ⟨ρ, en, S, p.1, p.2, E, R, e1, fun x ρ1 H1 X1 R1 d1 => ?_⟩
  obtain ⟨d, S1⟩ := p
  dsimp only at e2 d1 R1 k
  cases d with
  | tup ds =>
    cases e2
    obtain ⟨a, xs, rfl, a1, a2⟩ := d1.of_tup
    exact .inr (.inl ⟨a, xs, rfl, .of a1, k _ ρ1 H1 X1 R1 (itr_tup a1 a2) trivial⟩)
  | ref n =>
    obtain ⟨a, a1, rfl⟩ := d1.of_ref
    obtain ⟨ob, eo, ro⟩ := R1.obj a1
    dsimp only [iterD] at e2
    rw [eo] at e2
    cases ob with
    | lst ds =>
      cases e2
      obtain ⟨xs, x1, x2⟩ := ro
      exact .inl ⟨a, xs, rfl, .of x1, k _ ρ1 H1 X1 R1 (itr_list a1) trivial⟩
    | dct kvs =>
      dsimp only at e2
      split at e2
      · rename_i hk
        cases e2
        have ro' : ∃ (ks : List Key) (xs : List V), (H1 a = some (.dK (ks.zip xs)) ∨ (H1 a = some (.dT []) ∧ ks = [] ∧ xs = [])) ∧ ks.length = xs.length ∧ kvs.map (fun p => keyD p.1) = ks.map some ∧ DsR X.K ρ1 H1 (kvs.map (·.2)) xs := by
          rcases ro with ⟨ks, xs, q1, q2, q3, q4⟩ | ⟨ks, xs, q1, q2, q3, q4⟩
          · exact ⟨ks, xs, .inl q1, q2, q3, q4⟩
          · have hn := all_nil q3 hk (fun _ _ => keysT_keyD)
            subst hn
            cases ks with
            | nil => exact ⟨[], [], .inr ⟨q1, rfl, rfl⟩, rfl, rfl, .nil⟩
            | cons _ _ => cases q3
        obtain ⟨ks, xs, q1, q2, q3, q4⟩ := ro'
        have goK : ∀ o, (∀ o u, X.H₀ a ≠ some (.frz o u)) → H1 a = some (.dK (ks.zip xs)) → Q (Itk a o) (upd H1 a (.frz o (.dK (ks.zip xs)))) := fun o hn hq => by
          have hE : Ext ρ1 H1 ρ1 (upd H1 a (.frz o (.dK (ks.zip xs)))) := Ext.upd hq (fun _ z => nomatch z) fun _ _ z => nomatch z
          obtain ⟨R2, X2⟩ := R1.set (o := .frz o (.dK (ks.zip xs))) (ob := .fdct kvs) a1 (fun _ z => by rw [eo] at z; cases z) ⟨o, ks, xs, upd_same, q2, q3, q4.up hE⟩
          have hX : ∀ o u, H a ≠ some (.frz o u) := fun o u z => by have := X1.frz a o u z; rw [hq] at this; cases this
          have hT : ∀ ys, H a ≠ some (.tup ys) := fun ys z => by have := X1.tup a ys z; rw [hq] at this; cases this
          exact k _ ρ1 _ (X1.trans X2) R2 (itr_keys a1 upd_same) ⟨a, a1, hX, hT, hn⟩
        have goT : ∀ o, (∀ o u, X.H₀ a ≠ some (.frz o u)) → H1 a = some (.dT []) → kvs = [] → Q (Itk a o) (upd H1 a (.frz o (.dK []))) := fun o hn hq hk => by
          subst hk
          obtain ⟨R2, X2⟩ := R1.set (o := .frz o (.dK [])) (ob := .fdct []) a1 (fun _ z => by rw [eo] at z; cases z) ⟨o, [], [], upd_same, rfl, rfl, .nil⟩
          have hX : ∀ o u, H a ≠ some (.frz o u) := fun o u z => by have := X1.frz a o u z; rw [hq] at this; cases this
          have hT : ∀ ys, H a ≠ some (.tup ys) := fun ys z => by have := X1.tup a ys z; rw [hq] at this; cases this
          exact k _ ρ1 _ (X1.trans X2) R2 (itr_keys a1 upd_same) ⟨a, a1, hX, hT, hn⟩
        rcases q1 with q1 | ⟨q1, rfl, rfl⟩
        · exact .inr (.inr (.inr (.inl ⟨a, _, rfl, q1, fun o hn => goK o hn q1⟩)))
        · cases kvs with
          | nil => exact .inr (.inr (.inr (.inr (.inr ⟨a, rfl, q1, fun o hn => goT o hn q1 rfl⟩))))
          | cons _ _ => cases q3
      · cases e2
    | fdct kvs =>
      cases e2
      obtain ⟨o, ks, xs, q1, q2, q3, q4⟩ := ro
      exact .inr (.inr (.inr (.inr (.inl ⟨a, o, _, rfl, q1, k _ ρ1 H1 X1 R1 (itr_keys a1 q1) trivial⟩))))
    | ins _ _ => cases e2
  | scr ns =>
    cases e2
    obtain ⟨a, rfl, a1⟩ := d1.of_scr
    exact .inl ⟨a, _, rfl, a1.seq, k _ ρ1 H1 X1 R1 (itr_scr a1) trivial⟩
  | str z =>
    cases e2
    exact .inr (.inr (.inl ⟨z, d1.of_str, k _ ρ1 H1 X1 R1 itr_str trivial⟩))
  | _ => cases e2
def rngD (lo : Int) (n : Nat) : List D := (List.range n).map fun i => D.int (lo + (i : Nat))
def mRng1 (m : M D) : M ItD := fun en S => (m en S).bind fun p => match p.1 with | .int j => if -(2 ^ 62) ≤ j ∧ j < 2 ^ 62 then some ((rngD 0 j.toNat, .no), p.2) else none | _ => none
theorem itr_rng {K : PySem.W.Frag} {ρ0 : List Addr} {H0 : Hp} {lo : Int} {n : Nat} : ItR K ρ0 H0 (Itr lo n) (rngD lo n) .no := by
  intro ρ H S X R g
  refine ⟨fun i d hd => ?_, by show n ≤ _; simp [rngD]⟩
  unfold rngD at hd
  rw [List.getElem?_map] at hd
  cases q : (List.range n)[i]? with
  | none => rw [q] at hd; cases hd
  | some c =>
    rw [q] at hd
    cases hd
    obtain ⟨h1, h2⟩ := List.getElem?_eq_some_iff.mp q
    simp at h1 h2
    subst h2
    refine ⟨h1, fun y H' hy => ?_⟩
    obtain ⟨rfl, rfl⟩ := hy
    exact ⟨Ext.refl, R, .flat_int⟩
theorem si_rng1 {tg : Expr} {p : Pos} {m : M D} (h : SE X a m) (hg : Gl X "range") (hm : X.mg "range" = none) (hs : starEach [a] X.env = [(false, eval a X.env)] := by rfl) : SI X tg (.Call (.Name "range" p) [a] [] pos) (mRng1 m) := by
  refine pi_imp (pi_range1 hg hm (pa_cons h pa_nil (by rw [hs]; rfl)) hs) ?_
  rintro σ H Q ⟨ρ, en, S, r, S', E, R, e, k⟩
  unfold mRng1 at e
  obtain ⟨q, e1, e⟩ := Option.bind_eq_some_iff.mp e
  obtain ⟨d, S1⟩ := q
  cases d with
  | int j =>
    dsimp only at e
    split at e
    · rename_i hj
      cases e
      exact ⟨ρ, en, S, .int j, _, E, R, e1, fun x ρ1 H1 X1 R1 d1 => ⟨j, by rw [d1.of_int], hj.1, hj.2, k _ ρ1 H1 X1 R1 itr_rng trivial⟩⟩
    · cases e
  | _ => cases e
end
end DL
namespace DL
open PySem PySem.Spec PyProof.Rows L2
section
variable {X : Cx} {e a b c : Expr} {es : List Expr} {pos : Pos}
/-! ### a fresh list (own text) -/
def tML (K : PySem.W.Frag) (m : M (List D)) : TE := fun σ H Q => ∃ ρ en S ds S', EnR K ρ H en σ ∧ StR K ρ H S ∧ m en S = some (ds, S') ∧
  ∀ a xs ρ' H', Ext ρ H ρ' H' → StR K ρ' H' S' → H' a = none → DsR K ρ' H' ds xs → Q (.ref a) (upd H' a (.lst xs))
def SL (X : Cx) (e : Expr) (m : M (List D)) : Prop := PE X e (tML X.K m)
theorem sl_q {m : M (List D)} (h : SL X e m) : SQ X e m := by
  refine pe_imp h ?_
  rintro σ H Q ⟨ρ, en, S, ds, S', E, R, e, k⟩
  exact ⟨ρ, en, S, ds, S', E, R, e, fun a xs ρ' H' X1 R1 ha d1 => k a xs ρ' _ (X1.trans (Ext.new ha)) (R1.new ha) (.inl (.of upd_same)) (d1.up (Ext.new ha))⟩
theorem sl_e {m : M (List D)} (h : SL X e m) : SE X e (mKeep m) := by
  refine pe_imp h ?_
  rintro σ H Q ⟨ρ, en, S, v, S', E, R, e, k⟩
  unfold mKeep at e
  obtain ⟨p, e1, e2⟩ := Option.map_eq_some_iff.mp e
  cases e2
  refine ⟨ρ, en, S, p.1, p.2, E, R, e1, fun a xs ρ' H' X1 R1 ha d1 => ?_⟩
  refine k _ (ρ' ++ [a]) _ (X1.trans (Ext.newRef ha)) (R1.push ha ⟨xs, upd_same, d1.up (Ext.newRef ha)⟩) (.ref ?_)
  rw [← R1.len]; simp
section
variable {tg iter elt : Expr} {ifs : List Expr} {scope : Scope} {tgs cn : List Str} {caps : List Nat} {mi : M ItD} {g : TG} {gd : D → En → Option En} {mc : M Bool} {m : M D}
theorem sl_comp (hc : X.calm = true) (sc : CompSc X scope cn caps) (hi : SI X tg iter mi) (hlow : GLow tgs.length g) (hgd : GD X.K g gd)
    (hg : ∀ fp s H C, PG (compCx X scope (tgs ++ cn) fp s H C) tg g) (hf : ∀ fp s H C, SF (compCx X scope (tgs ++ cn) fp s H C) ifs mc) (he : ∀ fp s H C, SE (compCx X scope (tgs ++ cn) fp s H C) elt m)
    (hs : ∀ x, foldedSetIterable iter X.env x = pure x := by intro _; rfl) : SL X (.ListComp elt [⟨tg, iter, ifs, 0⟩] scope pos) (mComp mi tgs.length caps gd mc m) := by
  refine pe_imp (pe_thaw (pe_comp (tt := tMT X.K mc) (te := tM X.K m) hc sc.cell sc.kind sc.names sc.free sc.cap hi hlow hg hf he hs)) ?_
  rintro σ H Q ⟨ρ, en, S, ds, S', E, R, e, k⟩
  exact comp_read hgd (fun _ _ _ h => h) E R e k
end

/-! ### append, pop -/
def mApp (a b : M D) : M D := fun en S => (a en S).bind fun p => (b en p.2).bind fun q => match p.1 with
  | .ref n => match p.2[n]?, q.2[n]? with
    | some (.lst _), some (.lst ds) => if ds.length < sizeLine then some (.non, q.2.set n (.lst (ds ++ [q.1]))) else none
    | _, _ => none
  | _ => none
/-- a list's method: the receiver is a list that stands in the store when the arguments are there, too -/
theorem lst_of {K : PySem.W.Frag} {ρ : List Addr} {H : Hp} {S : Sto} {n : Nat} {a : Addr} {ds : List D} (R : StR K ρ H S) (h : ρ[n]? = some a) (e : S[n]? = some (.lst ds)) : ∃ xs, H a = some (.lst xs) ∧ DsR K ρ H ds xs := by
  obtain ⟨ob, e1, r⟩ := R.obj h
  rw [e] at e1
  cases e1
  exact r
theorem se_append {p : Pos} {ma mb : M D} (ha : SE X a ma) (hb : SE X b mb) (hs : starEach [b] X.env = (false, eval b X.env) :: starEach [] X.env := by rfl)
    (hbase : attributeBase a ("append" : Str) X.env (eval a X.env) = eval a X.env := by rfl)
    (hfew : ((backTo pos (starEach [b] X.env)).all (fun x => !x.1) && (backToKw pos (keywordEach [] X.env)).all (fun x => x.1.isSome)
      && decide ([b].length + ([] : List Keyword).length + (if ([] : List Keyword).isEmpty then 0 else 1) < 30)) = true := by rfl)
    (hline : (p.endLine == pos.line) = true := by rfl) (hplain : (backTo pos (starEach [] X.env)).any (·.1) = false := by rfl) :
    SE X (.Call (.Attribute a "append" p) [b] [] pos) (mApp ma mb) := by
  refine pe_imp (pe_bm PySem.F.plainAttrs_list PySem.F.slot_list_append PySem.F.type_list_append mt_append ha (pa_cons hb pa_nil hs) hbase hfew hline hs hplain) ?_
  rintro σ H Q ⟨ρ, en, S, v, S', E, R, e, k⟩
  unfold mApp at e
  obtain ⟨p, e1, e⟩ := Option.bind_eq_some_iff.mp e
  obtain ⟨q, e2, e⟩ := Option.bind_eq_some_iff.mp e
  obtain ⟨d, S1⟩ := p
  obtain ⟨d2, S2⟩ := q
  refine ⟨ρ, en, S, d, S1, E, R, e1, fun x ρ1 H1 X1 R1 d1 => ?_⟩
  cases d with
  | ref n =>
    dsimp only at e
    split at e
    · rename_i ds0 ds hn0 hn
      split at e
      · rename_i hz
        cases e
        obtain ⟨l, a1, rfl⟩ := d1.of_ref
        obtain ⟨xs0, hx0, _⟩ := lst_of R1 a1 hn0
        refine ⟨.inl ⟨rfl, xs0, .of hx0⟩, ρ1, en, S1, d2, S2, E.up X1, R1, e2, fun y ρ2 H2 X2 R2 dy => ?_⟩
        have a2 := X2.pre n l a1
        obtain ⟨xs, h1, h2⟩ := lst_of R2 a2 hn
        refine ⟨l, xs, y, rfl, rfl, h1, by rw [← h2.length]; exact hz, ?_⟩
        have hd : DsR X.K ρ2 H2 (ds ++ [d2]) (xs ++ [y]) := h2.append (.cons dy .nil)
        have hE : Ext ρ2 H2 ρ2 (upd H2 l (.lst (xs ++ [y]))) := Ext.upd h1 (fun _ z => nomatch z) fun _ _ z => nomatch z
        obtain ⟨R3, X3⟩ := R2.set (o := .lst (xs ++ [y])) (ob := .lst (ds ++ [d2])) a2 (fun _ z => by rw [hn] at z; cases z) ⟨xs ++ [y], upd_same, hd.up hE⟩
        exact k _ ρ2 _ ((X1.trans X2).trans X3) R3 .flat_non
      · cases e
    · cases e
  | _ => cases e
/-! ### {} , a[k] = v, d.get -/
def mNewD : M D := fun _ S => some (.ref S.length, S ++ [.dct []])
theorem se_newD : SE X (.Dict [] [] pos) mNewD := by
  refine pe_imp pe_dnewK ?_
  rintro σ H Q ⟨ρ, en, S, v, S', E, R, e, k⟩
  cases e
  intro p hp
  refine k _ (ρ ++ [p]) _ (Ext.newRef hp) (R.push hp (.inl ⟨[], [], upd_same, rfl, rfl, .nil⟩)) (.ref ?_)
  rw [← R.len]; simp
theorem PSet.or {t t' : TSet} (h : PSet X t) (h' : PSet X t') : PSet X (fun o i v H Q => t o i v H Q ∨ t' o i v H Q) := by
  intro pins s σ H o i v ov iv u Q I ro ri rv q
  rcases q with q | q
  · exact h pins s σ H o i v ov iv u Q I ro ri rv q
  · exact h' pins s σ H o i v ov iv u Q I ro ri rv q
theorem set_dict (hu : X.A.units + 64 < cLine) : PSet X (fun o i v H Q => ∃ a H', o = .ref a ∧ DPutE H a i v H' ∧ Q H') := by
  intro pins s σ H o i v ov iv u Q I ro ri rv h
  obtain ⟨a, H', rfl, g, q⟩ := h
  cases ro
  exact dE_setItem (by omega) I g ri rv fun s' I' => ⟨H', I', q⟩
/-- the store behind a[k] = v -/
def setD (a k v : D) (S : Sto) : Option Sto := match a with
  | .ref n => match S[n]? with
    | some (.lst ds) => (match k with
      | .int i => (ixN ds.length i).map fun j => S.set n (.lst (ds.set j v))
      | _ => none)
    | some (.dct kvs) => if (sameKind kvs k && decide (kvs.length < sizeLine)) = true then some (S.set n (.dct (dput kvs k v))) else none
    | _ => none
  | _ => none
def mSetItem (mv ma mb : M D) : MS := fun en S => (mv en S).bind fun p => (ma en p.2).bind fun q => (mb en q.2).bind fun r => (setD q.1 r.1 p.1 r.2).map fun S' => (.nx, en, S')
theorem DsR.setAt {K : PySem.W.Frag} {ρ : List Addr} {H : Hp} {d : D} {x : V} (h : DR K ρ H d x) : ∀ {ds : List D} {xs : List V} (j : Nat), DsR K ρ H ds xs → DsR K ρ H (ds.set j d) (xs.set j x)
  | [], xs, j, t => by unfold DsR at t; subst t; exact .nil
  | c :: ds, xs, j, t => by
    unfold DsR at t
    obtain ⟨y, r, rfl, t1, t2⟩ := t
    cases j with
    | zero => exact .cons h t2
    | succ j => exact .cons t1 (DsR.setAt h j t2)
theorem ss_setItem {v : Expr} {p1 : Pos} {mv ma mb : M D} (hu : X.A.units + 64 < cLine) (hv : SE X v mv) (ha : SE X a ma) (hb : SE X b mb)
    (hs : swapsWithSole [.Subscript a b p1] v pos.line X.env = pure false := by rfl) (hw : swappedStores [.Subscript a b p1] v X.env = pure none := by rfl)
    (h1 : (assignEach [.Subscript a b p1] X.env).map (·.2) = [assign (.Subscript a b p1) X.env] := by rfl)
    (hq : ∀ v, assign (.Subscript a b p1) X.env v = (do
      let ov ← holding [v] (eval a X.env)
      let iv ← holding [v, ov] (eval b X.env)
      standAt p1
      holding [v, ov, iv] (setItem ov iv v)
      release [v, ov, iv] []) := by intro _; rfl) : SS X (.Assign [.Subscript a b p1] v pos) (mSetItem mv ma mb) := by
  refine ps_imp (ps_asg hv (pg_sub ha hb (PSet.or set_list (set_dict hu)) hq) hs hw h1) ?_
  rintro DD σ H ⟨ρ, en, S, f, en', S', E, R, e, k⟩
  unfold mSetItem at e
  obtain ⟨p, e1, e⟩ := Option.bind_eq_some_iff.mp e
  obtain ⟨q, e2, e⟩ := Option.bind_eq_some_iff.mp e
  obtain ⟨r, e3, e⟩ := Option.bind_eq_some_iff.mp e
  obtain ⟨S3, e4, e5⟩ := Option.map_eq_some_iff.mp e
  cases e5
  refine ⟨ρ, en, S, p.1, p.2, E, R, e1, fun x ρ1 H1 X1 R1 d1 => ⟨ρ1, en, p.2, q.1, q.2, E.up X1, R1, e2, fun y ρ2 H2 X2 R2 d2 => ⟨ρ2, en, q.2, r.1, r.2, (E.up X1).up X2, R2, e3, fun z ρ3 H3 X3 R3 d3 => ?_⟩⟩⟩
  obtain ⟨qd, qS⟩ := q
  obtain ⟨rd, rS⟩ := r
  dsimp only at e4 d2 d3 R3
  have d1' := (d1.up X2).up X3
  have d2' := d2.up X3
  cases qd with
  | ref n =>
    obtain ⟨l, a1, rfl⟩ := d2'.of_ref
    dsimp only [setD] at e4
    split at e4
    · rename_i ds hn
      cases rd with
      | int i =>
        obtain ⟨j, j1, j2⟩ := Option.map_eq_some_iff.mp e4
        subst j2
        obtain ⟨xs, h1, h2⟩ := lst_of R3 a1 hn
        refine .inl ⟨l, xs, i, j, rfl, d3.of_int, h1, by rw [← h2.length]; exact j1, ?_⟩
        have hE : Ext ρ3 H3 ρ3 (upd H3 l (.lst (xs.set j x))) := Ext.upd h1 (fun _ z => nomatch z) fun _ _ z => nomatch z
        obtain ⟨R4, X4⟩ := R3.set (o := .lst (xs.set j x)) (ob := .lst (ds.set j p.1)) a1 (fun _ z => by rw [hn] at z; cases z) ⟨_, upd_same, (DsR.setAt d1' j h2).up hE⟩
        exact k ρ3 _ σ (((X1.trans X2).trans X3).trans X4) R4 (E.up (((X1.trans X2).trans X3).trans X4))
      | _ => cases e4
    · rename_i kvs hn
      split at e4
      · rename_i hc
        cases e4
        rw [Bool.and_eq_true, decide_eq_true_eq] at hc
        obtain ⟨H4, g, R4, X4⟩ := dput_ok R3 a1 hn hc.1 hc.2 d3 d1'
        exact .inr ⟨l, H4, rfl, g, k ρ3 H4 σ (((X1.trans X2).trans X3).trans X4) R4 (E.up (((X1.trans X2).trans X3).trans X4))⟩
      · cases e4
    · cases e4
  | _ => cases e4
/-- d.get(k, x) -/
def mGet2 (ma mb mc : M D) : M D := fun en S => (ma en S).bind fun p => (mb en p.2).bind fun q => (mc en q.2).bind fun r => match p.1 with
  | .ref n => if isDct p.2 n = true then (dctAt r.2 n q.1).map fun kvs => ((dget kvs q.1).getD r.1, r.2) else none
  | _ => none
theorem pe_dgetE {o e f : Expr} {apos cpos : Pos} {td ty tx : TE} (hu : X.A.units + 64 < cLine) (ho : PE X o td) (he : PE X e ty) (hf : PE X f tx) (m : M2 X o "get" apos e f cpos) :
    PE X (.Call (.Attribute o "get" apos) [e, f] [] cpos) (fun σ H Q => td σ H fun x H1 => ∃ a, x = .ref a ∧ IsD H1 a ∧ ty σ H1 fun y H2 => tx σ H2 fun z H3 => ∃ o, DGetE H3 a y o ∧ Q (o.getD z) H3) := by
  intro pins s σ H Q I h
  refine wpAny_Call_method m.base m.few m.line PySem.F.plainAttrs_dict PySem.F.slot_dict_get PySem.F.type_dict_get (thn (ho pins s σ H _ I h) fun u s1 ⟨x, H1, I1, rx, a, ex, d, q1⟩ => ?_)
  subst ex
  obtain rfl : u = Value.ref a := rx
  obtain ⟨t1, t2, _⟩ := isD_at I1 d
  refine ⟨t1, t2, ?_⟩
  rw [m.trees]
  refine Calls.callWith_builtin rfl (Calls.evalArgs_plain (Calls.spliced_cons (thn (he pins s1 σ H1 _ I1 q1) fun iv s2 ⟨y, H2, I2, ry, q2⟩ =>
    Calls.spliced_cons (thn (hf pins s2 σ H2 _ I2 q2) fun fv s3 ⟨z, H3, I3, rz, ov, g, q3⟩ => Calls.spliced_nil ?_))))
  exact dE_get2 (by omega) I3 g ry rz fun w' s4 I4 rw' => ⟨_, H3, I4, rw', q3⟩
theorem se_get2 {apos : Pos} {ma mb mc : M D} (hu : X.A.units + 64 < cLine) (ha : SE X a ma) (hb : SE X b mb) (hc : SE X c mc) (m : M2 X a "get" apos b c pos := by exact ⟨by rfl, by rfl, by rfl, by rfl⟩) :
    SE X (.Call (.Attribute a "get" apos) [b, c] [] pos) (mGet2 ma mb mc) := by
  refine pe_imp (pe_dgetE hu ha hb hc m) ?_
  rintro σ H Q ⟨ρ, en, S, v, S', E, R, e, k⟩
  unfold mGet2 at e
  obtain ⟨p, e1, e⟩ := Option.bind_eq_some_iff.mp e
  obtain ⟨q, e2, e⟩ := Option.bind_eq_some_iff.mp e
  obtain ⟨r, e3, e⟩ := Option.bind_eq_some_iff.mp e
  obtain ⟨pd, pS⟩ := p
  refine ⟨ρ, en, S, pd, pS, E, R, e1, fun x ρ1 H1 X1 R1 d1 => ?_⟩
  cases pd with
  | ref n =>
    dsimp only at e
    split at e
    · rename_i hn0
      obtain ⟨kvs, hn, e⟩ := Option.map_eq_some_iff.mp e
      · cases e
        obtain ⟨l, a1, rfl⟩ := d1.of_ref
        refine ⟨l, rfl, isD_ok R1 a1 hn0, ρ1, en, pS, q.1, q.2, E.up X1, R1, e2, fun y ρ2 H2 X2 R2 d2 => ⟨ρ2, en, q.2, r.1, r.2, (E.up X1).up X2, R2, e3, fun z ρ3 H3 X3 R3 d3 => ?_⟩⟩
        obtain ⟨g1, g2⟩ := dget_ok R3 (X3.pre n l (X2.pre n l a1)) hn (d2.up X3)
        cases hd : dget kvs q.1 with
        | some w =>
          rw [hd] at k
          obtain ⟨x', x1, x2⟩ := g1 w hd
          exact ⟨some x', x1, k _ ρ3 H3 ((X1.trans X2).trans X3) R3 x2⟩
        | none =>
          rw [hd] at k
          exact ⟨none, g2 hd, k _ ρ3 H3 ((X1.trans X2).trans X3) R3 d3⟩
    · cases e
  | _ => cases e
/-! ### tuple(x), list(x) -/
def tupOf : D → Sto → Option (List D)
  | .tup ds, _ => some ds
  | .ref n, S => match S[n]? with | some (.lst ds) => some ds | _ => none
  | .scr ns, _ => some (ns.map D.int)
  | _, _ => none
def mTupV (m : M D) : M D := fun en S => (m en S).bind fun p => (tupOf p.1 p.2).map fun ds => (.tup ds, p.2)
theorem se_tupV {p : Pos} {m : M D} (h : SE X e m) (hg : Gl X "tuple") (hm : X.mg "tuple" = none) (hv : bootBuiltins "tuple" = some (.type "tuple"))
    (he : starEach [e] X.env = (false, eval e X.env) :: starEach [] X.env := by rfl) : SE X (.Call (.Name "tuple" p) [e] [] pos) (mTupV m) := by
  refine pe_imp (pe_callTy call_tuple_of hg hm hv (pa_cons h pa_nil he) (by decide) (by decide) he (by rfl)) ?_
  rintro σ H Q ⟨ρ, en, S, v, S', E, R, e, k⟩
  unfold mTupV at e
  obtain ⟨q, e1, e⟩ := Option.bind_eq_some_iff.mp e
  obtain ⟨ds, e2, e3⟩ := Option.map_eq_some_iff.mp e
  cases e3
  refine ⟨ρ, en, S, q.1, q.2, E, R, e1, fun x ρ1 H1 X1 R1 d1 => ?_⟩
  obtain ⟨d, S1⟩ := q
  dsimp only at e2 d1 R1 k
  cases d with
  | tup es =>
    cases e2
    obtain ⟨a, xs, rfl, a1, a2⟩ := d1.of_tup
    exact ⟨a, xs, rfl, .inr ⟨.of a1, k _ ρ1 H1 X1 R1 d1⟩⟩
  | ref n =>
    obtain ⟨a, a1, rfl⟩ := d1.of_ref
    dsimp only [tupOf] at e2
    split at e2
    · rename_i es hn
      cases e2
      obtain ⟨xs, h1, h2⟩ := lst_of R1 a1 hn
      exact ⟨a, xs, rfl, .inl ⟨.of h1, fun l hl => k _ ρ1 _ (X1.trans (Ext.new hl)) (R1.new hl) (.tup upd_same (h2.up (Ext.new hl)))⟩⟩
    · cases e2
  | scr ns =>
    cases e2
    obtain ⟨a, rfl, a1⟩ := d1.of_scr
    exact ⟨a, _, rfl, .inl ⟨a1.seq, fun l hl => k _ ρ1 _ (X1.trans (Ext.new hl)) (R1.new hl) (.tup upd_same ((DsR.ints ns).up (Ext.new hl)))⟩⟩
  | _ => cases e2
def mTupL (m : M (List D)) : M D := fun en S => (m en S).map fun p => (.tup p.1, p.2)
theorem se_tupL {p : Pos} {m : M (List D)} (h : SL X e m) (hg : Gl X "tuple") (hm : X.mg "tuple" = none) (hv : bootBuiltins "tuple" = some (.type "tuple"))
    (he : starEach [e] X.env = (false, eval e X.env) :: starEach [] X.env := by rfl) : SE X (.Call (.Name "tuple" p) [e] [] pos) (mTupL m) := by
  refine pe_imp (pe_callTy call_tuple_of hg hm hv (pa_cons h pa_nil he) (by decide) (by decide) he (by rfl)) ?_
  rintro σ H Q ⟨ρ, en, S, v, S', E, R, e, k⟩
  unfold mTupL at e
  obtain ⟨q, e1, e2⟩ := Option.map_eq_some_iff.mp e
  cases e2
  refine ⟨ρ, en, S, q.1, q.2, E, R, e1, fun a xs ρ1 H1 X1 R1 ha d1 => ⟨a, xs, rfl, .inl ⟨.of upd_same, fun l hl => ?_⟩⟩⟩
  exact k _ ρ1 _ ((X1.trans (Ext.new ha)).trans (Ext.new hl)) ((R1.new ha).new hl) (.tup upd_same ((d1.up (Ext.new ha)).up (Ext.new hl)))
theorem sl_list {p : Pos} {m : M (List D)} (h : SQ X e m) (hg : Gl X "list") (hm : X.mg "list" = none) (hv : bootBuiltins "list" = some (.type "list"))
    (he : starEach [e] X.env = (false, eval e X.env) :: starEach [] X.env := by rfl) : SL X (.Call (.Name "list" p) [e] [] pos) m := by
  refine pe_imp (pe_callTy call_list_of hg hm hv (pa_cons h pa_nil he) (by decide) (by decide) he (by rfl)) ?_
  rintro σ H Q ⟨ρ, en, S, ds, S', E, R, e, k⟩
  refine ⟨ρ, en, S, ds, S', E, R, e, fun a xs ρ1 H1 X1 R1 hq d1 => ⟨a, xs, rfl, hq, fun l hl => k l xs ρ1 H1 X1 R1 hl d1⟩⟩
end
end DL
namespace DL
open PySem PySem.Spec PyProof.Rows L2
section
variable {X : Cx} {e a b c : Expr} {es : List Expr} {pos : Pos}
/-! ### zip of two tuples (own text) -/
def zipD (xs ys : List D) : List D := (xs.zip ys).map fun p => .tup [p.1, p.2]
def mZip (ma mb : M D) : M ItD := fun en S => (ma en S).bind fun p => (mb en p.2).bind fun q => match p.1, q.1 with
  | .tup xs, .tup ys => some ((zipD xs ys, .no), q.2)
  | _, _ => none
theorem itr_zip {K : PySem.W.Frag} {ρ0 : List Addr} {H0 : Hp} {l1 l2 : Addr} {xs ys : List D} {vs ws : List V} (h1 : H0 l1 = some (.tup vs)) (h2 : H0 l2 = some (.tup ws)) (d1 : DsR K ρ0 H0 xs vs) (d2 : DsR K ρ0 H0 ys ws) :
    ItR K ρ0 H0 (Itz false l1 false l2) (zipD xs ys) .no := by
  intro ρ H S X1 R g
  have t1 : TrS false H l1 vs := X1.tup _ _ h1
  have t2 : TrS false H l2 ws := X1.tup _ _ h2
  have d1 := d1.up X1
  have d2 := d2.up X1
  refine ⟨fun i d hd => ?_, vs, ws, t1, t2, ?_⟩
  · unfold zipD at hd
    rw [List.getElem?_map] at hd
    obtain ⟨q, q1, q2⟩ := Option.map_eq_some_iff.mp hd
    obtain ⟨z1, z2⟩ := List.getElem?_zip_eq_some.mp q1
    obtain ⟨x, x1, x2⟩ := d1.get z1
    obtain ⟨y, y1, y2⟩ := d2.get z2
    refine ⟨⟨vs, ws, x, y, t1, t2, x1, y1⟩, fun v H' hy => ?_⟩
    obtain ⟨p, x', y', rfl, hn, rfl, e1, e2⟩ := hy
    have e1 := e1 _ t1
    have e2 := e2 _ t2
    rw [x1] at e1
    rw [y1] at e2
    cases e1
    cases e2
    subst q2
    exact ⟨Ext.new hn, R.new hn, .tup upd_same ((DsR.cons x2 (.cons y2 .nil)).up (Ext.new hn))⟩
  · have l1 := d1.length
    have l2 := d2.length
    unfold zipD
    rw [List.length_map, List.length_zip]
    omega
theorem si_zip {elts : List Expr} {kt : Nat} {pt p : Pos} {ma mb : M D} (ha : SE X a ma) (hb : SE X b mb) (hg : Gl X "zip") (hm : X.mg "zip" = none) (hv : bootBuiltins "zip" = some (.type "zip"))
    (he : starEach [a, b] X.env = (false, eval a X.env) :: starEach [b] X.env := by rfl) (he2 : starEach [b] X.env = (false, eval b X.env) :: starEach [] X.env := by rfl) :
    SI X (.Tuple elts kt pt) (.Call (.Name "zip" p) [a, b] [] pos) (mZip ma mb) := by
  refine pi_imp (pi_zip hg hm hv (pa_cons ha (pa_cons hb pa_nil he2) he) he (by rw [he2]; rfl)) ?_
  rintro σ H Q ⟨ρ, en, S, r, S', E, R, e, k⟩
  unfold mZip at e
  obtain ⟨p, e1, e⟩ := Option.bind_eq_some_iff.mp e
  obtain ⟨q, e2, e⟩ := Option.bind_eq_some_iff.mp e
  obtain ⟨d, S1⟩ := p
  obtain ⟨d', S2⟩ := q
  refine ⟨ρ, en, S, d, S1, E, R, e1, fun x ρ1 H1 X1 R1 d1 => ⟨ρ1, en, S1, d', S2, E.up X1, R1, e2, fun y ρ2 H2 X2 R2 d2 => ?_⟩⟩
  cases d with
  | tup xs =>
    cases d' with
    | tup ys =>
      cases e
      obtain ⟨l1, vs, rfl, a1, a2⟩ := (d1.up X2).of_tup
      obtain ⟨l2, ws, rfl, b1, b2⟩ := d2.of_tup
      exact ⟨false, l1, vs, false, l2, ws, rfl, a1, b1, k _ ρ2 H2 (X1.trans X2) R2 (itr_zip a1 b1 a2 b2) trivial⟩
    | _ => cases e
  | _ => cases e
/-! ### isinstance by two built-in types -/
theorem kitx_D {pins : List (Addr × Obj)} {σ : L2.St} {H : Hp} {s : Shared} {ρ : List Addr} {S : Sto} {d : D} {x : V} {u : Value} {T : String} (I : Inv X pins σ H s) (R : StR X.K ρ H S) (h : DR X.K ρ H d x) (rx : RelV x u) (e : tyD d S = some T) :
    ∃ Z, PySem.W.KitX X.K u (.type T) Z ∧ Z s.heap ∧ u ≠ .builtin "__main__.__loader__#opaque" := by
  cases d with
  | non => rw [h.of_non] at rx; cases e; cases (show u = Value.none from rx); exact ⟨_, PySem.W.kitx_none, True.intro, fun z => nomatch z⟩
  | bl b => rw [h.of_bl] at rx; cases e; cases (show u = Value.bool b from rx); exact ⟨_, PySem.W.kitx_bool, True.intro, fun z => nomatch z⟩
  | int i => rw [h.of_int] at rx; cases e; obtain ⟨t, q⟩ := (show ∃ t, u = Value.int i t from rx); cases q; exact ⟨_, PySem.W.kitx_int, True.intro, fun z => nomatch z⟩
  | str i => rw [h.of_str] at rx; cases e; obtain ⟨t, q⟩ := (show ∃ t, u = Value.str i t from rx); cases q; exact ⟨_, PySem.W.kitx_str, True.intro, fun z => nomatch z⟩
  | tup ds =>
    obtain ⟨a, xs, rfl, a1, _⟩ := h.of_tup
    cases e
    cases (show u = Value.ref a from rx)
    obtain ⟨its, rv, ⟨o, ho, hc, _⟩, _⟩ := I.tuple (.of a1)
    exact ⟨_, PySem.W.kitx_tuple, ⟨o, ho, hc⟩, fun z => nomatch z⟩
  | ref n =>
    obtain ⟨a, a1, rfl⟩ := h.of_ref
    cases (show u = Value.ref a from rx)
    obtain ⟨ob, eo, ro⟩ := R.obj a1
    dsimp only [tyD] at e
    rw [eo] at e
    cases ob with
    | lst ds =>
      cases e
      obtain ⟨xs, x1, _⟩ := ro
      obtain ⟨_, _, n, _, h1⟩ := (show ObjOk X.prog X.w H s.heap a (.lst xs) from I.hok a _ x1)
      exact ⟨_, PySem.W.kitx_list, ⟨_, h1, rfl⟩, fun z => nomatch z⟩
    | dct kvs =>
      cases e
      have : IsD H a := isD_ok R a1 (by unfold isDct; rw [eo])
      obtain ⟨t1, _⟩ := isD_at I this
      obtain ⟨o, ho, hc⟩ := t1
      exact ⟨_, PySem.W.kitx_dict, ⟨o, ho, hc⟩, fun z => nomatch z⟩
    | fdct _ => cases e
    | ins _ _ => cases e
  | scr ns => cases e
def mIsi2 (C1 C2 : String) (m : M D) : M D := fun en S => (m en S).bind fun p => (tyD p.1 p.2).map fun T => (.bl (isiT T C1 || isiT T C2), p.2)
theorem call_isi2 {C1 C2 : String} (h1 : Isi X.K C1) (h2 : Isi X.K C2) : CallR X (.builtin "isinstance") (fun xs H Q => ∃ x p ρ S d T, xs = [x, .ref p] ∧ H p = some (.tup [.ty C1, .ty C2]) ∧ StR X.K ρ H S ∧ DR X.K ρ H d x ∧ tyD d S = some T ∧ Q (.bl (isiT T C1 || isiT T C2)) H) := by
  intro pins s σ H xs us Q I r h
  obtain ⟨x, p, ρ, S, d, T, rfl, hp, R, dx, ty, q⟩ := h
  obtain ⟨u, w', rfl, ru, rw'⟩ := vals2 r
  cases rw'
  obtain ⟨Z, z1, z2, z3⟩ := kitx_D I R dx ru ty
  obtain ⟨its, rv, ⟨o, ho, hc, n, hd⟩, _⟩ := I.tuple (.of hp)
  obtain ⟨v1, v2, rfl, r1, r2⟩ := vals2 rv
  cases (show v1 = Value.type C1 from r1)
  cases (show v2 = Value.type C2 from r2)
  obtain ⟨oc, od, odt, osl⟩ := o
  dsimp only at hc hd
  subst hc hd
  refine PySem.W.kia_tup z1 I.kIn z2 ho (b := isiT T C1 || isiT T C2) ?_ z3 fun tk => ⟨.bl _, H, I.tok tk, rfl, q⟩
  unfold PySem.W.kitAny
  rw [h1 T (tyD_in ty)]
  cases isiT T C1 with
  | true => rfl
  | false =>
    dsimp only
    unfold PySem.W.kitAny
    rw [h2 T (tyD_in ty)]
    cases isiT T C2 <;> rfl
theorem se_isi2 {p p1 p2 p3 : Pos} {k3 : Nat} {C1 C2 : String} {x1 x2 : Str} {m : M D} (hi1 : Isi X.K C1) (hi2 : Isi X.K C2) (h : SE X a m) (hg : Gl X "isinstance") (hm : X.mg "isinstance" = none) (hv : bootBuiltins "isinstance" = some (.builtin "isinstance"))
    (hg1 : Gl X x1) (hm1 : X.mg x1 = none) (hv1 : bootBuiltins x1 = some (.type C1)) (hg2 : Gl X x2) (hm2 : X.mg x2 = none) (hv2 : bootBuiltins x2 = some (.type C2))
    (hn1 : x1 ≠ "__name__" := by decide) (hd1 : (x1 == ("__debug__" : Str)) = false := by decide) (hn2 : x2 ≠ "__name__" := by decide) (hd2 : (x2 == ("__debug__" : Str)) = false := by decide)
    (he : starEach [a, .Tuple [.Name x1 p1, .Name x2 p2] k3 p3] X.env = (false, eval a X.env) :: starEach [.Tuple [.Name x1 p1, .Name x2 p2] k3 p3] X.env := by rfl)
    (he2 : starEach [.Tuple [.Name x1 p1, .Name x2 p2] k3 p3] X.env = (false, eval (.Tuple [.Name x1 p1, .Name x2 p2] k3 p3) X.env) :: starEach [] X.env := by rfl)
    (hf1 : starEach [.Name x1 p1, .Name x2 p2] X.env = (false, eval (.Name x1 p1) X.env) :: starEach [.Name x2 p2] X.env := by rfl) (hf2 : starEach [.Name x2 p2] X.env = (false, eval (.Name x2 p2) X.env) :: starEach [] X.env := by rfl) :
    SE X (.Call (.Name "isinstance" p) [a, .Tuple [.Name x1 p1, .Name x2 p2] k3 p3] [] pos) (mIsi2 C1 C2 m) := by
  refine pe_imp (pe_callB (call_isi2 (C1 := C1) (C2 := C2) hi1 hi2) hg hm hv (pa_cons h (pa_cons (pe_tup (pa_cons (pe_bltn hg1 hm1 hv1 (show RelV (.ty C1) (.type C1) from rfl) hn1 hd1) (pa_cons (pe_bltn hg2 hm2 hv2 (show RelV (.ty C2) (.type C2) from rfl) hn2 hd2) pa_nil hf2) hf1)) pa_nil he2) he) (by decide) (by decide) he (by rw [he2]; rfl)) ?_
  rintro σ H Q ⟨ρ, en, S, v, S', E, R, e, k⟩
  unfold mIsi2 at e
  obtain ⟨r, e1, e⟩ := Option.bind_eq_some_iff.mp e
  obtain ⟨T, e2, e3⟩ := Option.map_eq_some_iff.mp e
  cases e3
  refine ⟨ρ, en, S, r.1, r.2, E, R, e1, fun x ρ1 H1 X1 R1 d1 => ⟨by show 2 ≤ sizeLine; decide, fun q hq => ⟨x, q, ρ1, r.2, r.1, T, rfl, upd_same, R1.new hq, d1.up (Ext.new hq), e2, k _ ρ1 _ (X1.trans (Ext.new hq)) (R1.new hq) .flat_bl⟩⟩⟩
/-! ### dict(a tuple of pairs) -/
def pairsD : List D → Option (List (D × D))
  | [] => some []
  | .tup [k, v] :: r => if (keyD k).isSome = true then (pairsD r).map fun ps => (k, v) :: ps else none
  | _ => none
def dmerge (kvs : List (D × D)) (ps : List (D × D)) : List (D × D) := ps.foldl (fun acc p => dput acc p.1 p.2) kvs
def mDictP (m : M D) : M D := fun en S => (m en S).bind fun p => match p.1 with
  | .tup ds => if ds.length ≤ sizeLine then (pairsD ds).map fun ps => (.ref p.2.length, p.2 ++ [.dct (dmerge [] ps)]) else none
  | _ => none
theorem pairsD_ok {K : PySem.W.Frag} {ρ : List Addr} {H : Hp} : ∀ {ds : List D} {qs : List (D × D)} {xs : List V}, pairsD ds = some qs → DsR K ρ H ds xs →
    ∃ ps : List (Key × V), xs.length = ps.length ∧ (∀ (j : Nat) k v, ps[j]? = some (k, v) → ∃ p, xs[j]? = some (.ref p) ∧ H p = some (.tup [kV k, v])) ∧ qs.map (fun p => keyD p.1) = ps.map (fun p => some p.1) ∧ DsR K ρ H (qs.map (·.2)) (ps.map (·.2))
  | [], qs, xs, e, h => by
    cases e
    unfold DsR at h
    subst h
    exact ⟨[], rfl, fun j k v z => by simp at z, rfl, .nil⟩
  | d :: ds, qs, xs, e, h => by
    unfold DsR at h
    obtain ⟨x, r, rfl, h1, h2⟩ := h
    unfold pairsD at e
    split at e
    · rename_i heq; cases heq
    · rename_i k v r' heq
      cases heq
      split at e
      · rename_i hk
        obtain ⟨qs', e1, e2⟩ := Option.map_eq_some_iff.mp e
        subst e2
        obtain ⟨ps, p1, p2, p3, p4⟩ := pairsD_ok e1 h2
        obtain ⟨a, us, rfl, a1, a2⟩ := h1.of_tup
        unfold DsR at a2
        obtain ⟨x1, r1, rfl, b1, b2⟩ := a2
        unfold DsR at b2
        obtain ⟨x2, r2, rfl, b3, b4⟩ := b2
        unfold DsR at b4
        subst b4
        obtain ⟨k', hk'⟩ := Option.isSome_iff_exists.mp hk
        have ek := keyD_V hk' b1
        subst ek
        refine ⟨(k', x2) :: ps, by simp [p1], fun j k v z => ?_, by simp [p3, hk'], .cons b3 p4⟩
        cases j with
        | zero =>
          simp at z
          obtain ⟨rfl, rfl⟩ := z
          exact ⟨a, by simp, a1⟩
        | succ j => exact p2 j k v (by simpa using z)
      · cases e
    · cases e
theorem dmerge_ok {K : PySem.W.Frag} {ρ : List Addr} {H : Hp} : ∀ {qs : List (D × D)} {ps : List (Key × V)} {kvs : List (D × D)} {ks : List Key} {xs : List V}, qs.map (fun p => keyD p.1) = ps.map (fun p => some p.1) → DsR K ρ H (qs.map (·.2)) (ps.map (·.2)) →
    kvs.map (fun p => keyD p.1) = ks.map some → ks.length = xs.length → DsR K ρ H (kvs.map (·.2)) xs →
    ∃ (ks' : List Key) (xs' : List V), mergeK (ks.zip xs) ps = ks'.zip xs' ∧ ks'.length = xs'.length ∧ (dmerge kvs qs).map (fun p => keyD p.1) = ks'.map some ∧ DsR K ρ H ((dmerge kvs qs).map (·.2)) xs'
  | [], ps, kvs, ks, xs, h1, h2, h3, h4, h5 => by
    cases ps with
    | nil => exact ⟨ks, xs, rfl, h4, h3, h5⟩
    | cons _ _ => cases h1
  | q :: qs, ps, kvs, ks, xs, h1, h2, h3, h4, h5 => by
    cases ps with
    | nil => cases h1
    | cons p ps =>
      simp only [List.map_cons, List.cons.injEq] at h1
      obtain ⟨g1, g2⟩ := h1
      simp only [List.map_cons] at h2
      unfold DsR at h2
      obtain ⟨x, r, ex, g3, g4⟩ := h2
      cases ex
      obtain ⟨ks', xs', z1, z2, z3, z4⟩ := tab_put keyD g1 (hk_k g1) g3 h3 h4 h5
      obtain ⟨ks2, xs2, w1, w2, w3, w4⟩ := dmerge_ok (kvs := dput kvs q.1 q.2) (ks := ks') (xs := xs') g2 g4 z3 z2 z4
      refine ⟨ks2, xs2, ?_, w2, w3, w4⟩
      rw [← w1, ← z1]
      rfl
theorem se_dictP {p : Pos} {m : M D} (hcalm : X.calm = true) (h : SE X e m) (hg : Gl X "dict") (hm : X.mg "dict" = none) (hv : bootBuiltins "dict" = some (.type "dict"))
    (he : starEach [e] X.env = (false, eval e X.env) :: starEach [] X.env := by rfl) : SE X (.Call (.Name "dict" p) [e] [] pos) (mDictP m) := by
  refine pe_imp (pe_callTy (call_dict_pairs hcalm) hg hm hv (pa_cons h pa_nil he) (by decide) (by decide) he (by rfl)) ?_
  rintro σ H Q ⟨ρ, en, S, v, S', E, R, e, k⟩
  unfold mDictP at e
  obtain ⟨q, e1, e⟩ := Option.bind_eq_some_iff.mp e
  refine ⟨ρ, en, S, q.1, q.2, E, R, e1, fun x ρ1 H1 X1 R1 d1 => ?_⟩
  obtain ⟨d, S1⟩ := q
  dsimp only at e d1 R1 k
  cases d with
  | tup ds =>
    dsimp only at e
    split at e
    · rename_i hz
      obtain ⟨qs, e2, e3⟩ := Option.map_eq_some_iff.mp e
      cases e3
      obtain ⟨a, xs, rfl, a1, a2⟩ := d1.of_tup
      obtain ⟨ps, p1, p2, p3, p4⟩ := pairsD_ok e2 a2
      refine ⟨a, xs, ps, rfl, a1, p1, by rw [← p1, ← a2.length]; exact hz, p2, fun l hl => ?_⟩
      obtain ⟨ks, vs, z1, z2, z3, z4⟩ := dmerge_ok (kvs := []) (ks := []) (xs := []) p3 p4 rfl rfl .nil
      have z1' : mergeK [] ps = ks.zip vs := z1
      refine k _ (ρ1 ++ [l]) _ (X1.trans (Ext.newRef hl)) (R1.push hl (.inl ⟨ks, vs, by rw [upd_same, z1'], z2, z3, z4.up (Ext.newRef hl)⟩)) (.ref ?_)
      rw [← R1.len]; simp
    · cases e
  | _ => cases e
end
end DL
namespace DL
open PySem L2
/-! ### plain facts about runs over data -/
theorem trim_same (S : Sto) (v : D) : trim S (v, S) = (v, S) := by unfold trim; split <;> rfl
theorem trim_push (S G : Sto) (v : D) (h : lowD S.length v = true) : trim S (v, S ++ G) = (v, S) := by
  unfold trim
  rw [if_pos ⟨by simp, h⟩]
theorem compGo_pure {ds0 : List D} {gd : Gd} {cap : En} {g : D → En → Option En} {c : M Bool} {m : M D} {S : Sto} (p : D → Bool) (f : D → D) (hg : GdOk gd ds0 S) :
    ∀ (ds acc : List D), acc.length + ds.length ≤ sizeLine → (∀ d ∈ ds, ∃ en, g d cap = some en ∧ c en S = some (p d, S) ∧ (p d = true → m en S = some (f d, S))) →
      compGo ds0 gd cap g c m ds acc S = some (acc ++ (ds.filter p).map f, S)
  | [], acc, hl, _ => by
    unfold compGo
    rw [if_pos ⟨hg, by simpa using hl⟩]
    simp
  | d :: ds, acc, hl, h => by
    obtain ⟨en, h1, h2, h3⟩ := h d List.mem_cons_self
    rw [List.length_cons] at hl
    unfold compGo
    rw [if_pos ⟨hg, by omega⟩, h1, Option.bind_some, h2, Option.bind_some]
    dsimp only
    cases hp : p d with
    | true =>
      rw [if_pos rfl, h3 hp, Option.bind_some, compGo_pure p f hg ds (acc ++ [f d]) (by rw [List.length_append, List.length_singleton]; omega) fun d' hd' => h d' (List.mem_cons_of_mem _ hd')]
      rw [List.filter_cons_of_pos hp, List.map_cons, List.append_assoc]
      rfl
    | false =>
      rw [if_neg Bool.false_ne_true, compGo_pure p f hg ds acc (by omega) fun d' hd' => h d' (List.mem_cons_of_mem _ hd')]
      rw [List.filter_cons_of_neg (by simp [hp])]
/-- a loop whose turns all go on -/
theorem forGo_inv {ds0 : List D} {g : D → En → Option En} {body : MS} (P : En → Sto → Prop) : ∀ (ds : List D), (∀ d ∈ ds, ∀ en S, P en S → ∃ en1, g d en = some en1 ∧ ∃ en2 S2, body en1 S = some (.nx, en2, S2) ∧ P en2 S2) →
    ∀ en S, P en S → ∃ en' S', forGo ds0 .no g body ds en S = some (.nx, en', S') ∧ P en' S'
  | [], _, en, S, hp => by
    unfold forGo
    rw [if_pos (show GdOk .no ds0 S from trivial)]
    exact ⟨en, S, rfl, hp⟩
  | d :: ds, h, en, S, hp => by
    obtain ⟨en1, h1, en2, S2, h2, h3⟩ := h d List.mem_cons_self en S hp
    unfold forGo
    rw [if_pos (show GdOk .no ds0 S from trivial), h1, Option.bind_some, h2, Option.bind_some]
    exact forGo_inv P ds (fun d' hd' => h d' (List.mem_cons_of_mem _ hd')) en2 S2 h3
theorem gMul_c (c k : Int) (S : Sto) (hk : -(2 ^ 64) < k ∧ k < 2 ^ 64) : gMul (.int c) (.int k) S = some (.int (c * k), S) := if_pos (Or.inr hk)
theorem gMul_c' (c k : Int) (S : Sto) (hk : -(2 ^ 64) < k ∧ k < 2 ^ 64) : gMul (.int k) (.int c) S = some (.int (k * c), S) := if_pos (Or.inl hk)
theorem gMod_c (c k : Int) (S : Sto) (hk : 0 < k) : gMod (.int c) (.int k) S = some (.int (c % k), S) := if_pos (decide_eq_true hk)
theorem atI_ok {α : Type} {xs : List α} {i : Int} (h0 : 0 ≤ i) (h1 : i < xs.length) : ∃ a, a ∈ xs ∧ xs[i.toNat]? = some a ∧ atI xs i = some a := by
  obtain ⟨n, rfl⟩ := Int.eq_ofNat_of_zero_le h0
  have hn : n < xs.length := by omega
  refine ⟨xs[n], List.getElem_mem hn, by simp [hn], atI_nat (by simp [hn])⟩
/-! texts by their signs -/
def cs (x : Str) : List Nat := x.cps.toList
theorem len_cs (x : Str) : x.length = (cs x).length := by simp [Str.length, cs]
theorem cs_append (x y : Str) : cs (x ++ y) = cs x ++ cs y := by
  show (Str.append x y).cps.toList = _
  unfold Str.append
  simp [cs]
theorem cs_join_empty (ys : List Str) : cs (Txt.join (Str.ofString "") ys) = ys.flatMap cs := by
  have e : (Str.ofString "").cps = #[] := by decide +kernel
  have key : ∀ (l : List Str) (acc : Array Nat), (l.foldl (fun acc p => acc ++ (Str.ofString "").cps ++ p.cps) acc).toList = acc.toList ++ l.flatMap cs := by
    intro l
    induction l with
    | nil => intro acc; simp
    | cons p l ih => intro acc; rw [List.foldl_cons, ih, e]; simp [cs]
  unfold Txt.join Builtin.Str.glued
  cases ys with
  | nil => rfl
  | cons y ys => exact key ys y.cps
theorem cs_to (x : Str) (j : Nat) : cs (Txt.slice x none (some (j : Int))) = (cs x).take j := by
  have hcl : (cs x).length = x.cps.toList.length := rfl
  by_cases h : j ≤ (cs x).length
  · have := StrLaws.sliceText_to (x := x) (j := (j : Int)) ⟨by omega, by omega⟩
    show (StrLaws.sliceText x none (some (j : Int))).cps.toList = _
    rw [this]; simp [cs]
  · have hx : x.length = (cs x).length := len_cs x
    have e0 : ∀ v : Nat, x.length ≤ v → Builtin.Str.strSliceIndices none (some (v : Int)) 1 x.length = Builtin.Str.strSliceIndices none none 1 x.length := fun v hv => by
      have a1 : ¬ ((v : Int) < 0) := by omega
      have a3 : min (v : Int) (x.length : Int) = x.length := by omega
      have a4 : max 0 (x.length : Int) = x.length := by omega
      simp [Builtin.Str.strSliceIndices, a1, a3, a4]
    have e1 : Txt.slice x none (some (j : Int)) = Txt.slice x none (some (x.length : Int)) := by
      unfold Txt.slice
      rw [e0 j (by omega), e0 x.length (Nat.le_refl _)]
    have h2 := StrLaws.sliceText_to (x := x) (j := (x.length : Int)) ⟨by omega, by omega⟩
    have e2 : Txt.slice x none (some (x.length : Int)) = StrLaws.sliceText x none (some (x.length : Int)) := rfl
    rw [e1, e2, h2]
    show (List.take _ (List.drop 0 (cs x))).toArray.toList = _
    rw [List.drop_zero, List.take_of_length_le (by omega : (cs x).length ≤ ((x.length : Int) - 0).toNat), List.take_of_length_le (by omega : (cs x).length ≤ j)]
theorem cs_from (x : Str) (i : Nat) (h : i ≤ (cs x).length) : cs (Txt.slice x (some (i : Int)) none) = (cs x).drop i := by
  have hcl : (cs x).length = x.cps.toList.length := rfl
  have h2 := StrLaws.sliceText_from (x := x) (i := (i : Int)) ⟨by omega, by omega⟩
  have e2 : Txt.slice x (some (i : Int)) none = StrLaws.sliceText x (some (i : Int)) none := rfl
  rw [e2, h2]
  show (List.take _ (List.drop (i : Int).toNat (cs x))).toArray.toList = _
  have e3 : ((i : Nat) : Int).toNat = i := by omega
  rw [e3, List.take_of_length_le (by rw [List.length_drop]; omega)]
theorem cs_mul (x : Str) (n : Nat) (hn : 1 ≤ n) : cs (Txt.mul x (n : Int)) = (List.replicate n (cs x)).flatten := by
  have key : ∀ (l : List (Array Nat)) (acc : Array Nat), (l.foldl (· ++ ·) acc).toList = acc.toList ++ (l.map Array.toList).flatten := by
    intro l
    induction l with
    | nil => intro acc; simp
    | cons p l ih => intro acc; rw [List.foldl_cons, ih]; simp
  unfold Txt.mul
  rw [if_neg (by omega)]
  by_cases h : ((n : Int) == 1 || x.length == 0) = true
  · rw [if_pos h]
    rcases Bool.or_eq_true _ _ ▸ h with h | h
    · have : n = 1 := by have := eq_of_beq h; omega
      subst this; simp
    · have h0 : cs x = [] := by
        have := eq_of_beq h
        rw [len_cs] at this
        exact List.length_eq_zero_iff.mp this
      rw [h0]; simp
  · rw [if_neg h]
    exact (key _ _).trans (by simp [cs])
end DL
namespace DL
open PySem PySem.Spec PyProof.Rows L2
section
variable {X : Cx} {e a b c : Expr} {es : List Expr} {pos : Pos}
theorem sv (i : Nat) {x : Str} {pos : Pos} (hN : X.N[i]? = some x := by rfl) (hv : Vis X.env.scope x := by first | exact Or.inl rfl | exact Or.inr (Or.inl rfl) | exact Or.inr (Or.inr rfl)) (hd : (x == ("__debug__" : Str)) = false := by decide)
    (hcd : (x == ("__classdict__" : Str)) = false := by decide) : SE X (.Name x pos) (mVar i) := se_var i (pe_var hN hv hd hcd)
theorem free_in {scope : Scope} (names0 : List (Str × NameKind)) (h0 : X.env.scope.names = names0) (h : ∀ y ∈ scope.names, y.2 = .free → names0.lookup y.1 = some .cell ∨ names0.lookup y.1 = some .free) :
    ∀ y ∈ scope.names, y.2 = .free → X.env.scope.names.lookup y.1 = some .cell ∨ X.env.scope.names.lookup y.1 = some .free := by rw [h0]; exact h
theorem isi_mk {K : PySem.W.Frag} {C : String} (h1 : PySem.W.kitOne K (.type "NoneType") (.type C) = some (isiT "NoneType" C)) (h2 : PySem.W.kitOne K (.type "bool") (.type C) = some (isiT "bool" C)) (h3 : PySem.W.kitOne K (.type "int") (.type C) = some (isiT "int" C))
    (h4 : PySem.W.kitOne K (.type "str") (.type C) = some (isiT "str" C)) (h5 : PySem.W.kitOne K (.type "tuple") (.type C) = some (isiT "tuple" C)) (h6 : PySem.W.kitOne K (.type "list") (.type C) = some (isiT "list" C)) (h7 : PySem.W.kitOne K (.type "dict") (.type C) = some (isiT "dict" C)) : Isi K C := by
  intro T hT
  simp only [List.mem_cons, List.not_mem_nil, or_false] at hT
  rcases hT with rfl | rfl | rfl | rfl | rfl | rfl | rfl
  · exact h1
  · exact h2
  · exact h3
  · exact h4
  · exact h5
  · exact h6
  · exact h7
theorem isi_str (K : PySem.W.Frag) : Isi K "str" := isi_mk (by kernel_rfl) (by kernel_rfl) (by kernel_rfl) (by kernel_rfl) (by kernel_rfl) (by kernel_rfl) (by kernel_rfl)
theorem isi_int (K : PySem.W.Frag) : Isi K "int" := isi_mk (by kernel_rfl) (by kernel_rfl) (by kernel_rfl) (by kernel_rfl) (by kernel_rfl) (by kernel_rfl) (by kernel_rfl)
theorem isi_bool (K : PySem.W.Frag) : Isi K "bool" := isi_mk (by kernel_rfl) (by kernel_rfl) (by kernel_rfl) (by kernel_rfl) (by kernel_rfl) (by kernel_rfl) (by kernel_rfl)
theorem isi_tuple (K : PySem.W.Frag) : Isi K "tuple" := isi_mk (by kernel_rfl) (by kernel_rfl) (by kernel_rfl) (by kernel_rfl) (by kernel_rfl) (by kernel_rfl) (by kernel_rfl)
theorem isi_list (K : PySem.W.Frag) : Isi K "list" := isi_mk (by kernel_rfl) (by kernel_rfl) (by kernel_rfl) (by kernel_rfl) (by kernel_rfl) (by kernel_rfl) (by kernel_rfl)
theorem isi_dict (K : PySem.W.Frag) : Isi K "dict" := isi_mk (by kernel_rfl) (by kernel_rfl) (by kernel_rfl) (by kernel_rfl) (by kernel_rfl) (by kernel_rfl) (by kernel_rfl)
theorem se_join' {p : Pos} {sep : M D} {m : M (List D)} (hs : SE X a sep) (h : SQ X e m) (he : starEach [e] X.env = (false, eval e X.env) :: starEach [] X.env := by rfl)
    (hbase : attributeBase a ("join" : Str) X.env (eval a X.env) = eval a X.env := by rfl)
    (hfew : ((backTo pos (starEach [e] X.env)).all (fun x => !x.1) && (backToKw pos (keywordEach [] X.env)).all (fun x => x.1.isSome)
      && decide ([e].length + ([] : List Keyword).length + (if ([] : List Keyword).isEmpty then 0 else 1) < 30)) = true := by rfl)
    (hline : (p.endLine == pos.line) = true := by rfl) (hplain : (backTo pos (starEach [] X.env)).any (·.1) = false := by rfl) :
    SE X (.Call (.Attribute a "join" p) [e] [] pos) (mJoin sep m) :=
  se_join hs h (pa_cons h pa_nil he) (pe_bm PySem.F.plainAttrs_str PySem.F.slot_str_join PySem.F.type_str_join mt_join hs (pa_cons h pa_nil he) hbase hfew hline he hplain)
end
structure Own (K : PySem.W.Frag) (mg : Str → Option Value) (x : Str) (st : Stmt) (f : Addr) (fd : FuncData) (ps : List Str) : Prop where
  fn : Fun K x x st f fd
  mgf : mg x = some (.ref f)
  b : Binds K fd ps []
theorem fn_none {P : Program} {w : World} {K : PySem.W.Frag} {mg : Str → Option Value} {base : Heap} {k n : Nat} {f : Addr} {fd : FuncData} {ps : List Str} (hn : ps.length = n) : FnOk P w K mg base CX0 k f fd ps (spD K n fun _ _ => none) :=
  ⟨fun vs H Q E h => by rw [h.1, hn], fun A outer s H args us vs Q E _ _ _ _ h => by
    obtain ⟨_, ρ, S, ds, v, S', _, _, e, _⟩ := h
    cases e⟩
/-- the law's head: what is left is that the plain run gives True -/
theorem walk_d {l : PySem.W.OpenLaw} {k : Nat} {q : Program} {loose : List Str} {XP : (Str → Option Value) → Heap → Prop} {YP : World → Heap → Prop} {d : DefRec} {K : Params → PySem.W.Frag} {x : Str} {F : List D → Sto → Option (D × Sto)}
    (hn : l.most = some 63) (hdf : d.params.defaults = []) (hr : Room k callerA)
    (hY : ∀ (w : World) (h : Heap), YP w h → (K w.params).In h)
    (hF : ∀ (w : World) (mg : Str → Option Value) (fa : Addr) (h : Heap), (K w.params).In h → h.Ns mainGlobals mg → mg d.name = some (.ref fa) →
      ∃ fd : FuncData, (∀ (s : Shared) (u : Value), BindsTo s fd ⟨[u], []⟩ [(x, u)]) ∧
        ∀ base : Heap, (K w.params).In base → base.Ns mainGlobals mg → FnOk l.prog w (K w.params) mg base CX0 k fa fd [x] (spD (K w.params) 1 F))
    (hl : ∀ ns : List Int, ns.length ≤ 63 → ∃ S', F [.scr ns] [] = some (.bl true, S')) :
    PySem.W.WalkO q loose XP YP l.row.toRowW d [] (fun f vs => PySem.call f vs) := by
  refine L2.walk_of (n := 63) (k := k) (x := x) (CX := fun _ => CX0) (sp := fun w => spD (K w.params) 1 F) hn (by decide) hdf hr hY hF (fun w H a ns hlen hO hS => ?_) fun _ _ _ _ _ z => z
  obtain ⟨S', e⟩ := hl ns hlen
  have hs : ScrR (K w.params) H a ns := by
    rcases hS with (h | ⟨o, h⟩) | h
    · rcases hO a with z | ⟨o, xs, z⟩
      · rw [h] at z; cases z
      · rw [h] at z; cases z
    · exact .inl ⟨o, h⟩
    · exact .inr h
  refine ⟨rfl, [], [], [.scr ns], .bl true, S', ⟨rfl, fun i j a h => by simp at h, fun n ob h => by simp at h⟩, .cons (by unfold DR; exact ⟨a, rfl, hs⟩) .nil, e, fun z ρ' H' _ _ dz => dz.of_bl⟩
end DL
namespace DL
open PySem L2
/-! ### runs over data, stepped from the head (for simp) -/
section
variable {a b c : M D} {ba bb : M Bool} {sa sb : MS} {ms : M (List D)} {en en' : En} {S S' : Sto} {x y v : D} {g g' : D → D → Sto → Option (D × Sto)} {F : List D → Sto → Option (D × Sto)}
def kSeq (b : MS) : Option (Fl × En × Sto) → Option (Fl × En × Sto)
  | some (.nx, en, S) => b en S
  | r => r
theorem e_seq : mSeq sa sb en S = kSeq sb (sa en S) := by
  unfold mSeq
  cases sa en S with
  | none => rfl
  | some p => obtain ⟨f, e, s⟩ := p; cases f <;> rfl
theorem k_seq : kSeq sb (some (.nx, en, S)) = sb en S := rfl
theorem k_seq_rt : kSeq sb (some (.rt v, en, S)) = some (.rt v, en, S) := rfl
theorem k_seq_bk : kSeq sb (some (.bk, en, S)) = some (.bk, en, S) := rfl
theorem k_seq_ct : kSeq sb (some (.ct, en, S)) = some (.ct, en, S) := rfl
theorem e_nx : mNx en S = some (.nx, en, S) := rfl
theorem e_bk : mBk en S = some (.bk, en, S) := rfl
theorem e_ct : mCt en S = some (.ct, en, S) := rfl
def kAsg (g : D → En → Option En) (en : En) : Option (D × Sto) → Option (Fl × En × Sto)
  | some (v, S) => (g v en).map fun en' => (.nx, en', S)
  | none => none
theorem e_asg {g : D → En → Option En} : mAsg a g en S = kAsg g en (a en S) := by
  unfold mAsg
  cases a en S <;> rfl
theorem k_asg {i : Nat} : kAsg (gN i) en (some (v, S)) = some (.nx, en.set i (some v), S) := rfl
theorem k_asgT {n : Nat} {gs : List D → En → Option En} : kAsg (gT n gs) en (some (v, S)) = (gT n gs v en).map fun en' => (.nx, en', S) := rfl
theorem e_gT {n : Nat} {gs : List D → En → Option En} {ds : List D} (h : ds.length = n) : gT n gs (.tup ds) en = gs ds en := if_pos h
theorem e_gsC {i : Nat} {gs : List D → En → Option En} {ds : List D} : gsCons (gN i) gs (v :: ds) en = gs ds (en.set i (some v)) := rfl
theorem e_gsN : gsNil [] en = some en := rfl
def kRet (en : En) : Option (D × Sto) → Option (Fl × En × Sto)
  | some (v, S) => some (.rt v, en, S)
  | none => none
theorem e_ret : mRet a en S = kRet en (a en S) := by
  unfold mRet
  cases a en S <;> rfl
theorem k_ret : kRet en (some (v, S)) = some (.rt v, en, S) := rfl
theorem e_retN : mRetN en S = some (.rt .non, en, S) := rfl
def kDrop (en : En) : Option (D × Sto) → Option (Fl × En × Sto)
  | some (_, S) => some (.nx, en, S)
  | none => none
theorem e_drop : mDrop a en S = kDrop en (a en S) := by
  unfold mDrop
  cases a en S <;> rfl
theorem k_drop : kDrop en (some (v, S)) = some (.nx, en, S) := rfl
def kIfS (sa sb : MS) (en : En) : Option (Bool × Sto) → Option (Fl × En × Sto)
  | some (c, S) => if c = true then sa en S else sb en S
  | none => none
theorem e_ifS : mIfS ba sa sb en S = kIfS sa sb en (ba en S) := by
  unfold mIfS
  cases ba en S <;> rfl
theorem k_ifS {c : Bool} : kIfS sa sb en (some (c, S)) = if c = true then sa en S else sb en S := rfl
/-! values -/
def kV1 (S : Sto) : Option D → Option (D × Sto)
  | some d => some (d, S)
  | none => none
theorem e_var {i : Nat} : mVar i en S = kV1 S (en[i]?.getD none) := by
  unfold mVar
  cases en[i]?.getD none <;> rfl
theorem k_v1 : kV1 S (some x) = some (x, S) := rfl
theorem e_con : mCon x en S = some (x, S) := rfl
def kOp1 (g : D → D → Sto → Option (D × Sto)) (b : M D) (en : En) : Option (D × Sto) → Option (D × Sto)
  | some (x, S) => (b en S).bind fun q => g x q.1 q.2
  | none => none
def kOp2 (g : D → D → Sto → Option (D × Sto)) (x : D) : Option (D × Sto) → Option (D × Sto)
  | some (y, S) => g x y S
  | none => none
theorem e_op : mOp g a b en S = kOp1 g b en (a en S) := by
  unfold mOp
  cases a en S <;> rfl
theorem k_op1 : kOp1 g b en (some (x, S)) = kOp2 g x (b en S) := by
  show (b en S).bind _ = _
  cases b en S <;> rfl
theorem k_op2 : kOp2 g x (some (y, S)) = g x y S := rfl
def kT : Option (D × Sto) → Option (Bool × Sto)
  | some (.bl b, S) => some (b, S)
  | _ => none
theorem e_T : mT a en S = kT (a en S) := by
  unfold mT
  cases a en S with
  | none => rfl
  | some p => obtain ⟨d, s⟩ := p; cases d <;> rfl
theorem k_T {t : Bool} : kT (some (.bl t, S)) = some (t, S) := rfl
def kTru : Option (D × Sto) → Option (Bool × Sto)
  | some (d, S) => (truD d S).map fun b => (b, S)
  | none => none
theorem e_Tru : mTru a en S = kTru (a en S) := by
  unfold mTru
  cases a en S <;> rfl
theorem k_Tru : kTru (some (v, S)) = (truD v S).map fun b => (b, S) := rfl
theorem k_TruB {t : Bool} : kTru (some (.bl t, S)) = some (t, S) := rfl
def kAnd (b : M Bool) (en : En) : Option (Bool × Sto) → Option (Bool × Sto)
  | some (c, S) => if c = true then b en S else some (false, S)
  | none => none
def kOr (b : M Bool) (en : En) : Option (Bool × Sto) → Option (Bool × Sto)
  | some (c, S) => if c = true then some (true, S) else b en S
  | none => none
def kNot : Option (Bool × Sto) → Option (Bool × Sto)
  | some (c, S) => some (!c, S)
  | none => none
theorem e_and : mAnd ba bb en S = kAnd bb en (ba en S) := by
  unfold mAnd
  cases ba en S <;> rfl
theorem e_or : mOr ba bb en S = kOr bb en (ba en S) := by
  unfold mOr
  cases ba en S <;> rfl
theorem e_not : mNot ba en S = kNot (ba en S) := by
  unfold mNot
  cases ba en S <;> rfl
theorem k_and {c : Bool} : kAnd bb en (some (c, S)) = if c = true then bb en S else some (false, S) := rfl
theorem k_or {c : Bool} : kOr bb en (some (c, S)) = if c = true then some (true, S) else bb en S := rfl
theorem k_not {c : Bool} : kNot (some (c, S)) = some (!c, S) := rfl
def kVAnd (b : M D) (en : En) : Option (D × Sto) → Option (D × Sto)
  | some (d, S) => (truD d S).bind fun c => if c = true then b en S else some (d, S)
  | none => none
def kVOr (b : M D) (en : En) : Option (D × Sto) → Option (D × Sto)
  | some (d, S) => (truD d S).bind fun c => if c = true then some (d, S) else b en S
  | none => none
def kVNot : Option (D × Sto) → Option (D × Sto)
  | some (d, S) => (truD d S).map fun c => (.bl (!c), S)
  | none => none
theorem e_vand : vAnd a b en S = kVAnd b en (a en S) := by
  unfold vAnd
  cases a en S <;> rfl
theorem e_vor : vOr a b en S = kVOr b en (a en S) := by
  unfold vOr
  cases a en S <;> rfl
theorem e_vnot : vNot a en S = kVNot (a en S) := by
  unfold vNot
  cases a en S <;> rfl
theorem k_vand {c : Bool} : kVAnd b en (some (.bl c, S)) = if c = true then b en S else some (.bl false, S) := by cases c <;> rfl
theorem k_vor {c : Bool} : kVOr b en (some (.bl c, S)) = if c = true then some (.bl true, S) else b en S := by cases c <;> rfl
theorem k_vnot {c : Bool} : kVNot (some (.bl c, S)) = some (.bl (!c), S) := rfl
theorem k_vnotL {ds : List D} {n : Nat} (h : S[n]? = some (.lst ds)) : kVNot (some (.ref n, S)) = some (.bl ds.isEmpty, S) := by
  show (truD (.ref n) S).map _ = _
  dsimp only [truD]
  rw [h]
  simp
def kIf (a b : M D) (en : En) : Option (Bool × Sto) → Option (D × Sto)
  | some (c, S) => if c = true then a en S else b en S
  | none => none
theorem e_if : mIf ba a b en S = kIf a b en (ba en S) := by
  unfold mIf
  cases ba en S <;> rfl
theorem k_if {c : Bool} : kIf a b en (some (c, S)) = if c = true then a en S else b en S := rfl
def kCh1 (g g' : D → D → Sto → Option (D × Sto)) (b c : M D) (en : En) : Option (D × Sto) → Option (D × Sto)
  | some (x, S) => (b en S).bind fun q => (g x q.1 q.2).bind fun r => match r.1 with
    | .bl true => (c en r.2).bind fun w => g' q.1 w.1 w.2
    | .bl false => some (.bl false, r.2)
    | _ => none
  | none => none
def kCh2 (g g' : D → D → Sto → Option (D × Sto)) (x : D) (c : M D) (en : En) : Option (D × Sto) → Option (D × Sto)
  | some (y, S) => (g x y S).bind fun r => match r.1 with
    | .bl true => (c en r.2).bind fun w => g' y w.1 w.2
    | .bl false => some (.bl false, r.2)
    | _ => none
  | none => none
def kCh3 (g' : D → D → Sto → Option (D × Sto)) (y : D) (c : M D) (en : En) : Option (D × Sto) → Option (D × Sto)
  | some (.bl t, S) => if t = true then kOp2 g' y (c en S) else some (.bl false, S)
  | _ => none
theorem e_chain : mChain g g' a b c en S = kCh1 g g' b c en (a en S) := by
  unfold mChain
  cases a en S <;> rfl
theorem k_ch1 : kCh1 g g' b c en (some (x, S)) = kCh2 g g' x c en (b en S) := by
  show (b en S).bind _ = _
  cases b en S <;> rfl
theorem k_ch2 : kCh2 g g' x c en (some (y, S)) = kCh3 g' y c en (g x y S) := by
  show (g x y S).bind _ = _
  cases g x y S with
  | none => rfl
  | some r =>
    obtain ⟨d, s⟩ := r
    cases d with
    | bl t =>
      cases t
      · rfl
      · show (c en s).bind _ = kOp2 g' y (c en s)
        cases c en s <;> rfl
    | _ => rfl
theorem k_ch3 {t : Bool} : kCh3 g' y c en (some (.bl t, S)) = if t = true then kOp2 g' y (c en S) else some (.bl false, S) := rfl
/-! arguments, calls -/
theorem e_nil : mNil en S = some ([], S) := rfl
def kCons (r : M (List D)) (en : En) : Option (D × Sto) → Option (List D × Sto)
  | some (x, S) => (r en S).map fun q => (x :: q.1, q.2)
  | none => none
def kCons2 (x : D) : Option (List D × Sto) → Option (List D × Sto)
  | some (xs, S) => some (x :: xs, S)
  | none => none
theorem e_cons : mCons a ms en S = kCons ms en (a en S) := by
  unfold mCons
  cases a en S <;> rfl
theorem k_cons : kCons ms en (some (x, S)) = kCons2 x (ms en S) := by
  show (ms en S).map _ = _
  cases ms en S <;> rfl
theorem k_cons2 {xs : List D} : kCons2 x (some (xs, S)) = some (x :: xs, S) := rfl
def kCall (F : List D → Sto → Option (D × Sto)) : Option (List D × Sto) → Option (D × Sto)
  | some (xs, S) => F xs S
  | none => none
theorem e_call : mCall F ms en S = kCall F (ms en S) := by
  unfold mCall
  cases ms en S <;> rfl
theorem k_call {xs : List D} : kCall F (some (xs, S)) = F xs S := rfl
def kTup : Option (List D × Sto) → Option (D × Sto)
  | some (xs, S) => if xs.length ≤ sizeLine then some (.tup xs, S) else none
  | none => none
theorem e_tup : mTup ms en S = kTup (ms en S) := by
  unfold mTup
  cases ms en S <;> rfl
theorem k_tup {xs : List D} (h : xs.length ≤ sizeLine) : kTup (some (xs, S)) = some (.tup xs, S) := if_pos h
def kLst : Option (List D × Sto) → Option (D × Sto)
  | some (xs, S) => if xs.length ≤ sizeLine then some (.ref S.length, S ++ [.lst xs]) else none
  | none => none
theorem e_lst : mLst ms en S = kLst (ms en S) := by
  unfold mLst
  cases ms en S <;> rfl
theorem k_lst {xs : List D} (h : xs.length ≤ sizeLine) : kLst (some (xs, S)) = some (.ref S.length, S ++ [.lst xs]) := if_pos h
/-! a def's run -/
noncomputable def kRun (S0 : Sto) : Option (Fl × En × Sto) → Option (D × Sto)
  | some (.rt v, _, S) => some (trim S0 (v, S))
  | some (.nx, _, S) => some (trim S0 (.non, S))
  | _ => none
theorem e_run {nN n : Nat} {m : MS} {ds : List D} (h : ds.length = n) : runD nN n m ds S = kRun S (m (startD nN ds) S) := by
  unfold runD
  rw [if_pos h]
  cases m (startD nN ds) S with
  | none => rfl
  | some p => obtain ⟨f, e, s⟩ := p; cases f <;> rfl
theorem k_run_rt : kRun S (some (.rt v, en, S')) = some (trim S (v, S')) := rfl
theorem k_run_nx : kRun S (some (.nx, en, S')) = some (trim S (.non, S')) := rfl
/-! built-ins -/
def kLen : Option (D × Sto) → Option (D × Sto)
  | some (d, S) => (lenD d S).map fun (n : Nat) => (.int n, S)
  | none => none
theorem e_len : mLen a en S = kLen (a en S) := by
  unfold mLen kLen
  cases a en S with
  | none => rfl
  | some p =>
    obtain ⟨d, s⟩ := p
    dsimp only [Option.bind_some]
    cases lenD d s <;> rfl
theorem k_len : kLen (some (x, S)) = (lenD x S).map fun (n : Nat) => (.int n, S) := rfl
theorem k_lenS {z : Str} (h : z.length ≤ sizeLine) : kLen (some (.str z, S)) = some (.int z.length, S) := by
  show (if z.length ≤ sizeLine then some z.length else none).map _ = _
  rw [if_pos h]; rfl
theorem k_lenT {ds : List D} : kLen (some (.tup ds, S)) = some (.int ds.length, S) := rfl
def kIsi (C : String) : Option (D × Sto) → Option (D × Sto)
  | some (d, S) => (tyD d S).map fun T => (.bl (isiT T C), S)
  | none => none
theorem e_isi {C : String} : mIsi C a en S = kIsi C (a en S) := by
  unfold mIsi
  cases a en S <;> rfl
theorem k_isi {C : String} : kIsi C (some (x, S)) = (tyD x S).map fun T => (.bl (isiT T C), S) := rfl
def kBs (f : List Bool → Bool) : Option (List D × Sto) → Option (D × Sto)
  | some (ds, S) => (boolsD ds).map fun bs => (.bl (f bs), S)
  | none => none
theorem e_all : mAll ms en S = kBs (fun bs => bs.all id) (ms en S) := by
  unfold mAll
  cases ms en S <;> rfl
theorem e_any : mAny ms en S = kBs (fun bs => bs.any id) (ms en S) := by
  unfold mAny
  cases ms en S <;> rfl
theorem boolsD_map : ∀ (bs : List Bool), boolsD (bs.map D.bl) = some bs
  | [] => rfl
  | b :: bs => by
    show (boolsD (bs.map D.bl)).map _ = _
    rw [boolsD_map bs]; rfl
theorem k_all {bs : List Bool} : kBs (fun bs => bs.all id) (some (bs.map D.bl, S)) = some (.bl (bs.all id), S) := by
  show (boolsD (bs.map D.bl)).map _ = _
  rw [boolsD_map]; rfl
theorem k_any {bs : List Bool} : kBs (fun bs => bs.any id) (some (bs.map D.bl, S)) = some (.bl (bs.any id), S) := by
  show (boolsD (bs.map D.bl)).map _ = _
  rw [boolsD_map]; rfl
/-! what is walked -/
def kIter : Option (D × Sto) → Option (ItD × Sto)
  | some (d, S) => iterD d S
  | none => none
theorem e_iter : mIter a en S = kIter (a en S) := by
  unfold mIter
  cases a en S <;> rfl
theorem k_iterScr {ns : List Int} : kIter (some (.scr ns, S)) = some ((ns.map D.int, .no), S) := rfl
theorem k_iterT {ds : List D} : kIter (some (.tup ds, S)) = some ((ds, .no), S) := rfl
theorem k_iterS {z : Str} : kIter (some (.str z, S)) = some (((cs z).map fun c => D.str ⟨#[c]⟩, .no), S) := rfl
def kRng : Option (D × Sto) → Option (ItD × Sto)
  | some (.int j, S) => if -(2 ^ 62) ≤ j ∧ j < 2 ^ 62 then some ((rngD 0 j.toNat, .no), S) else none
  | _ => none
theorem e_rng : mRng1 a en S = kRng (a en S) := by
  unfold mRng1
  cases a en S with
  | none => rfl
  | some p => obtain ⟨d, s⟩ := p; cases d <;> rfl
theorem k_rng {j : Int} (h : -(2 ^ 62) ≤ j ∧ j < 2 ^ 62) : kRng (some (.int j, S)) = some ((rngD 0 j.toNat, .no), S) := if_pos h
noncomputable def kFor (g : D → En → Option En) (body : MS) (en : En) : Option (ItD × Sto) → Option (Fl × En × Sto)
  | some (r, S) => thF r.2 (forGo r.1 r.2 g body r.1 en S)
  | none => none
theorem e_for {mi : M ItD} {g : D → En → Option En} : mFor mi g sa en S = kFor g sa en (mi en S) := by
  unfold mFor
  cases mi en S <;> rfl
theorem thF_no {r : Option (Fl × En × Sto)} : thF .no r = r := by cases r <;> rfl
theorem thF_lst {n : Nat} {r : Option (Fl × En × Sto)} : thF (.lst n) r = r := by cases r <;> rfl
theorem thC_no {r : Option (List D × Sto)} : thC .no r = r := by cases r <;> rfl
theorem thC_lst {n : Nat} {r : Option (List D × Sto)} : thC (.lst n) r = r := by cases r <;> rfl
theorem k_forNo {ds : List D} {g : D → En → Option En} : kFor g sa en (some ((ds, .no), S)) = forGo ds .no g sa ds en S := thF_no
theorem k_forLst {ds : List D} {n : Nat} {g : D → En → Option En} : kFor g sa en (some ((ds, .lst n), S)) = forGo ds (.lst n) g sa ds en S := thF_lst
theorem k_forFr {ds : List D} {n : Nat} {kvs : List (D × D)} {th : Bool} {g : D → En → Option En} : kFor g sa en (some ((ds, .fr n kvs th), S)) = thF (.fr n kvs th) (forGo ds (.fr n kvs th) g sa ds en S) := rfl
noncomputable def kComp (nT : Nat) (caps : List Nat) (g : D → En → Option En) (c : M Bool) (m : M D) (en : En) : Option (ItD × Sto) → Option (List D × Sto)
  | some (r, S) => thC r.2 (compGo r.1 r.2 (capEn nT caps en) g c m r.1 [] S)
  | none => none
theorem e_comp {mi : M ItD} {nT : Nat} {caps : List Nat} {g : D → En → Option En} : mComp mi nT caps g ba a en S = kComp nT caps g ba a en (mi en S) := by
  unfold mComp
  cases mi en S <;> rfl
theorem k_compNo {ds : List D} {nT : Nat} {caps : List Nat} {g : D → En → Option En} : kComp nT caps g ba a en (some ((ds, .no), S)) = compGo ds .no (capEn nT caps en) g ba a ds [] S := thC_no
theorem k_compLst {ds : List D} {n : Nat} {nT : Nat} {caps : List Nat} {g : D → En → Option En} : kComp nT caps g ba a en (some ((ds, .lst n), S)) = compGo ds (.lst n) (capEn nT caps en) g ba a ds [] S := thC_lst
theorem k_compFr {ds : List D} {n : Nat} {kvs : List (D × D)} {th : Bool} {nT : Nat} {caps : List Nat} {g : D → En → Option En} : kComp nT caps g ba a en (some ((ds, .fr n kvs th), S)) = thC (.fr n kvs th) (compGo ds (.fr n kvs th) (capEn nT caps en) g ba a ds [] S) := rfl
def kKeep : Option (List D × Sto) → Option (D × Sto)
  | some (ds, S) => some (.ref S.length, S ++ [.lst ds])
  | none => none
theorem e_keep : mKeep ms en S = kKeep (ms en S) := by
  unfold mKeep
  cases ms en S <;> rfl
theorem k_keep {ds : List D} : kKeep (some (ds, S)) = some (.ref S.length, S ++ [.lst ds]) := rfl
def kJoin1 (ms : M (List D)) (en : En) : Option (D × Sto) → Option (D × Sto)
  | some (.str x, S) => (ms en S).bind fun p => (strsD p.1).bind fun ys => if (ys.map (·.length)).sum + ys.length * x.length ≤ 16777216 then some (.str (Txt.join x ys), p.2) else none
  | _ => none
def kJoin2 (x : Str) : Option (List D × Sto) → Option (D × Sto)
  | some (ds, S) => (strsD ds).bind fun ys => if (ys.map (·.length)).sum + ys.length * x.length ≤ 16777216 then some (.str (Txt.join x ys), S) else none
  | none => none
theorem e_join : mJoin a ms en S = kJoin1 ms en (a en S) := by
  unfold mJoin
  cases a en S with
  | none => rfl
  | some p => obtain ⟨d, s⟩ := p; cases d <;> rfl
theorem k_join1 {z : Str} : kJoin1 ms en (some (.str z, S)) = kJoin2 z (ms en S) := by
  show (ms en S).bind _ = _
  cases ms en S <;> rfl
theorem strsD_map : ∀ (ys : List Str), strsD (ys.map D.str) = some ys
  | [] => rfl
  | y :: ys => by
    show (strsD (ys.map D.str)).map _ = _
    rw [strsD_map ys]; rfl
theorem k_join2 {z : Str} {ys : List Str} (h : (ys.map (·.length)).sum + ys.length * z.length ≤ 16777216) : kJoin2 z (some (ys.map D.str, S)) = some (.str (Txt.join z ys), S) := by
  show (strsD (ys.map D.str)).bind _ = _
  rw [strsD_map, Option.bind_some, if_pos h]
def kSl1 (lo hi : M (Option Int)) (en : En) : Option (D × Sto) → Option (D × Sto)
  | some (x, S) => (lo en S).bind fun l => (hi en l.2).bind fun u => slD x l.1 u.1 u.2
  | none => none
def kSl2 (x : D) (hi : M (Option Int)) (en : En) : Option (Option Int × Sto) → Option (D × Sto)
  | some (l, S) => (hi en S).bind fun u => slD x l u.1 u.2
  | none => none
def kSl3 (x : D) (l : Option Int) : Option (Option Int × Sto) → Option (D × Sto)
  | some (u, S) => slD x l u S
  | none => none
theorem e_sl {lo hi : M (Option Int)} : mSl a lo hi en S = kSl1 lo hi en (a en S) := by
  unfold mSl
  cases a en S <;> rfl
theorem k_sl1 {lo hi : M (Option Int)} : kSl1 lo hi en (some (x, S)) = kSl2 x hi en (lo en S) := by
  show (lo en S).bind _ = _
  cases lo en S <;> rfl
theorem k_sl2 {hi : M (Option Int)} {l : Option Int} : kSl2 x hi en (some (l, S)) = kSl3 x l (hi en S) := by
  show (hi en S).bind _ = _
  cases hi en S <;> rfl
theorem k_sl3 {l u : Option Int} : kSl3 x l (some (u, S)) = slD x l u S := rfl
def kPart : Option (D × Sto) → Option (Option Int × Sto)
  | some (.int i, S) => some (some i, S)
  | _ => none
theorem e_part : mPart a en S = kPart (a en S) := by
  unfold mPart
  cases a en S with
  | none => rfl
  | some p => obtain ⟨d, s⟩ := p; cases d <;> rfl
theorem k_part {i : Int} : kPart (some (.int i, S)) = some (some i, S) := rfl
theorem e_noPart : mNoPart en S = some (none, S) := rfl
theorem e_true : mTrue en S = some (true, S) := rfl
end
/-! operations -/
section
variable {S : Sto} {i j : Int} {x y : Str} {p q : Bool}
theorem g_addI : gAdd (.int i) (.int j) S = some (.int (i + j), S) := rfl
theorem g_addS (h : x.length + y.length ≤ sizeLine) : gAdd (.str x) (.str y) S = some (.str (x ++ y), S) := if_pos h
theorem g_addT {xs ys : List D} (h : xs.length + ys.length ≤ sizeLine) : gAdd (.tup xs) (.tup ys) S = some (.tup (xs ++ ys), S) := if_pos h
theorem g_subI : gSub (.int i) (.int j) S = some (.int (i - j), S) := rfl
theorem g_mulR (h : -(2 ^ 64) < j ∧ j < 2 ^ 64) : gMul (.int i) (.int j) S = some (.int (i * j), S) := if_pos (Or.inr h)
theorem g_mulL (h : -(2 ^ 64) < i ∧ i < 2 ^ 64) : gMul (.int i) (.int j) S = some (.int (i * j), S) := if_pos (Or.inl h)
theorem g_mulS {n : Int} (h : 0 ≤ n ∧ n ≤ 1000 ∧ x.length ≤ 1000) : gMul (.str x) (.int n) S = some (.str (Txt.mul x n), S) := if_pos (decide_eq_true h)
theorem g_modI (h : 0 < j) : gMod (.int i) (.int j) S = some (.int (i % j), S) := if_pos (decide_eq_true h)
theorem g_ltI : gLt (.int i) (.int j) S = some (.bl (decide (i < j)), S) := rfl
theorem g_leI : gLe (.int i) (.int j) S = some (.bl (decide (i ≤ j)), S) := rfl
theorem g_leS : gLe (.str x) (.str y) S = some (.bl (!decide (y.cps.toList < x.cps.toList)), S) := rfl
theorem g_gtI : gGt (.int i) (.int j) S = some (.bl (decide (j < i)), S) := rfl
theorem g_geI : gGe (.int i) (.int j) S = some (.bl (decide (j ≤ i)), S) := rfl
theorem g_eqI : gEq (.int i) (.int j) S = some (.bl (decide (i = j)), S) := rfl
theorem g_eqS : gEq (.str x) (.str y) S = some (.bl (decide (x = y)), S) := rfl
theorem g_eqB : gEq (.bl p) (.bl q) S = some (.bl (decide (p = q)), S) := rfl
theorem g_neI : gNe (.int i) (.int j) S = some (.bl (!decide (i = j)), S) := rfl
theorem g_neS : gNe (.str x) (.str y) S = some (.bl (!decide (x = y)), S) := rfl
theorem g_isNotBB : gIsNot (.bl p) (.bl q) S = some (.bl (!(p == q)), S) := rfl
theorem g_isBB : gIs (.bl p) (.bl q) S = some (.bl (p == q), S) := rfl
theorem g_ixT {ds : List D} {k : Nat} {d : D} (h : ds[k]? = some d) : gIx (.tup ds) (.int (k : Nat)) S = some (d, S) := by
  show (atI ds (k : Int)).map _ = _
  rw [atI_nat h]; rfl
section
variable {a b c d e f : D} {l : List D}
theorem g_ix0 : gIx (.tup (a :: l)) (.int 0) S = some (a, S) := g_ixT (k := 0) rfl
theorem g_ix1 : gIx (.tup (a :: b :: l)) (.int 1) S = some (b, S) := g_ixT (k := 1) rfl
theorem g_ix2 : gIx (.tup (a :: b :: c :: l)) (.int 2) S = some (c, S) := g_ixT (k := 2) rfl
theorem g_ix3 : gIx (.tup (a :: b :: c :: d :: l)) (.int 3) S = some (d, S) := g_ixT (k := 3) rfl
theorem g_ix4 : gIx (.tup (a :: b :: c :: d :: e :: l)) (.int 4) S = some (e, S) := g_ixT (k := 4) rfl
theorem g_ix5 : gIx (.tup (a :: b :: c :: d :: e :: f :: l)) (.int 5) S = some (f, S) := g_ixT (k := 5) rfl
end
end
section
variable {ds0 r : List D} {g : D → En → Option En} {body : MS} {en : En} {S : Sto} {d v : D}
noncomputable def kForB (ds0 : List D) (g : D → En → Option En) (body : MS) (r : List D) : Option (Fl × En × Sto) → Option (Fl × En × Sto)
  | some (.nx, en, S) => forGo ds0 .no g body r en S
  | some (.ct, en, S) => forGo ds0 .no g body r en S
  | some (.bk, en, S) => some (.nx, en, S)
  | some (.rt v, en, S) => some (.rt v, en, S)
  | none => none
theorem e_forN : forGo ds0 .no g body [] en S = some (.nx, en, S) := by
  unfold forGo
  exact if_pos trivial
theorem e_forC {i : Nat} : forGo ds0 .no (gN i) body (d :: r) en S = kForB ds0 (gN i) body r (body (en.set i (some d)) S) := by
  rw [forGo]
  rw [if_pos (show GdOk .no ds0 S from trivial)]
  show (body (en.set i (some d)) S).bind _ = _
  cases body (en.set i (some d)) S with
  | none => rfl
  | some p => obtain ⟨f, e, s⟩ := p; cases f <;> rfl
theorem k_forB_nx : kForB ds0 g body r (some (.nx, en, S)) = forGo ds0 .no g body r en S := rfl
theorem k_forB_ct : kForB ds0 g body r (some (.ct, en, S)) = forGo ds0 .no g body r en S := rfl
theorem k_forB_bk : kForB ds0 g body r (some (.bk, en, S)) = some (.nx, en, S) := rfl
theorem k_forB_rt : kForB ds0 g body r (some (.rt v, en, S)) = some (.rt v, en, S) := rfl
end
section
variable {a b c d e f g h i j k l : D} {S : Sto}
theorem k_tup0 : kTup (some (([] : List D), S)) = some (.tup [], S) := k_tup (show 0 ≤ sizeLine by decide)
theorem k_lst0 : kLst (some (([] : List D), S)) = some (.ref S.length, S ++ [.lst []]) := k_lst (show 0 ≤ sizeLine by decide)
theorem k_tup1 : kTup (some ([a], S)) = some (.tup [a], S) := k_tup (show 1 ≤ sizeLine by decide)
theorem k_lst1 : kLst (some ([a], S)) = some (.ref S.length, S ++ [.lst [a]]) := k_lst (show 1 ≤ sizeLine by decide)
theorem k_tup2 : kTup (some ([a, b], S)) = some (.tup [a, b], S) := k_tup (show 2 ≤ sizeLine by decide)
theorem k_lst2 : kLst (some ([a, b], S)) = some (.ref S.length, S ++ [.lst [a, b]]) := k_lst (show 2 ≤ sizeLine by decide)
theorem k_tup3 : kTup (some ([a, b, c], S)) = some (.tup [a, b, c], S) := k_tup (show 3 ≤ sizeLine by decide)
theorem k_lst3 : kLst (some ([a, b, c], S)) = some (.ref S.length, S ++ [.lst [a, b, c]]) := k_lst (show 3 ≤ sizeLine by decide)
theorem k_tup4 : kTup (some ([a, b, c, d], S)) = some (.tup [a, b, c, d], S) := k_tup (show 4 ≤ sizeLine by decide)
theorem k_lst4 : kLst (some ([a, b, c, d], S)) = some (.ref S.length, S ++ [.lst [a, b, c, d]]) := k_lst (show 4 ≤ sizeLine by decide)
theorem k_tup5 : kTup (some ([a, b, c, d, e], S)) = some (.tup [a, b, c, d, e], S) := k_tup (show 5 ≤ sizeLine by decide)
theorem k_lst5 : kLst (some ([a, b, c, d, e], S)) = some (.ref S.length, S ++ [.lst [a, b, c, d, e]]) := k_lst (show 5 ≤ sizeLine by decide)
theorem k_tup6 : kTup (some ([a, b, c, d, e, f], S)) = some (.tup [a, b, c, d, e, f], S) := k_tup (show 6 ≤ sizeLine by decide)
theorem k_lst6 : kLst (some ([a, b, c, d, e, f], S)) = some (.ref S.length, S ++ [.lst [a, b, c, d, e, f]]) := k_lst (show 6 ≤ sizeLine by decide)
theorem k_tup7 : kTup (some ([a, b, c, d, e, f, g], S)) = some (.tup [a, b, c, d, e, f, g], S) := k_tup (show 7 ≤ sizeLine by decide)
theorem k_lst7 : kLst (some ([a, b, c, d, e, f, g], S)) = some (.ref S.length, S ++ [.lst [a, b, c, d, e, f, g]]) := k_lst (show 7 ≤ sizeLine by decide)
theorem k_tup8 : kTup (some ([a, b, c, d, e, f, g, h], S)) = some (.tup [a, b, c, d, e, f, g, h], S) := k_tup (show 8 ≤ sizeLine by decide)
theorem k_lst8 : kLst (some ([a, b, c, d, e, f, g, h], S)) = some (.ref S.length, S ++ [.lst [a, b, c, d, e, f, g, h]]) := k_lst (show 8 ≤ sizeLine by decide)
theorem k_tup9 : kTup (some ([a, b, c, d, e, f, g, h, i], S)) = some (.tup [a, b, c, d, e, f, g, h, i], S) := k_tup (show 9 ≤ sizeLine by decide)
theorem k_lst9 : kLst (some ([a, b, c, d, e, f, g, h, i], S)) = some (.ref S.length, S ++ [.lst [a, b, c, d, e, f, g, h, i]]) := k_lst (show 9 ≤ sizeLine by decide)
theorem k_tup10 : kTup (some ([a, b, c, d, e, f, g, h, i, j], S)) = some (.tup [a, b, c, d, e, f, g, h, i, j], S) := k_tup (show 10 ≤ sizeLine by decide)
theorem k_lst10 : kLst (some ([a, b, c, d, e, f, g, h, i, j], S)) = some (.ref S.length, S ++ [.lst [a, b, c, d, e, f, g, h, i, j]]) := k_lst (show 10 ≤ sizeLine by decide)
theorem k_tup11 : kTup (some ([a, b, c, d, e, f, g, h, i, j, k], S)) = some (.tup [a, b, c, d, e, f, g, h, i, j, k], S) := k_tup (show 11 ≤ sizeLine by decide)
theorem k_lst11 : kLst (some ([a, b, c, d, e, f, g, h, i, j, k], S)) = some (.ref S.length, S ++ [.lst [a, b, c, d, e, f, g, h, i, j, k]]) := k_lst (show 11 ≤ sizeLine by decide)
theorem k_tup12 : kTup (some ([a, b, c, d, e, f, g, h, i, j, k, l], S)) = some (.tup [a, b, c, d, e, f, g, h, i, j, k, l], S) := k_tup (show 12 ≤ sizeLine by decide)
theorem k_lst12 : kLst (some ([a, b, c, d, e, f, g, h, i, j, k, l], S)) = some (.ref S.length, S ++ [.lst [a, b, c, d, e, f, g, h, i, j, k, l]]) := k_lst (show 12 ≤ sizeLine by decide)
end
theorem b_tf : (true == false) = false := rfl
theorem b_ft : (false == true) = false := rfl
theorem b_tt : (true == true) = true := rfl
theorem b_ff : (false == false) = true := rfl
section
variable {a b : Option D} {l m : En} {d e : D} {ds es : List D} {n : Nat} {x y : Option (Fl × En × Sto)} {u v : Option (D × Sto)} {p q : Option (Bool × Sto)}
theorem l_set0 : (a :: l).set 0 b = b :: l := rfl
theorem l_setS : (a :: l).set (n + 1) b = a :: l.set n b := rfl
theorem l_get0 : (a :: l)[0]? = some a := rfl
theorem l_getS : (a :: l)[n + 1]? = l[n]? := List.getElem?_cons_succ
theorem l_getD : (some a).getD none = a := rfl
theorem l_len0 : ([] : List D).length = 0 := rfl
theorem l_lenS : (d :: ds).length = ds.length + 1 := rfl
theorem l_app0 : ([] : List D) ++ ds = ds := rfl
theorem l_appS : (d :: ds) ++ es = d :: (ds ++ es) := rfl
theorem l_appN : ds ++ [] = ds := List.append_nil ds
theorem l_start0 : startD n [] = List.replicate n none := rfl
theorem l_startS : startD (n + 1) (d :: ds) = some d :: startD n ds := by
  unfold startD
  simp
theorem l_capS {caps : List Nat} : capEn (n + 1) caps l = none :: capEn n caps l := rfl
theorem l_capC {j : Nat} {caps : List Nat} : capEn 0 (j :: caps) l = (l[j]?.getD none) :: capEn 0 caps l := rfl
theorem l_capN : capEn 0 [] l = [] := rfl
theorem l_rep0 : List.replicate 0 (none : Option D) = [] := rfl
theorem l_repS : List.replicate (n + 1) (none : Option D) = none :: List.replicate n none := rfl
theorem l_ifS1 : (if True then x else y) = x := if_pos trivial
theorem l_ifS0 : (if False then x else y) = y := if_neg id
theorem l_ifV1 : (if True then u else v) = u := if_pos trivial
theorem l_ifV0 : (if False then u else v) = v := if_neg id
theorem l_ifB1 : (if True then p else q) = p := if_pos trivial
theorem l_ifB0 : (if False then p else q) = q := if_neg id
end
end DL
namespace DL
open PySem L2
/-! ### append, tuple(), dict(), get, zip (stepping) -/
section
variable {a b c : M D} {ms : M (List D)} {en : En} {S : Sto} {x v : D} {ds : List D} {n : Nat}
def kApp2 (n : Nat) : Option (D × Sto) → Option (D × Sto)
  | some (v, S) => match S[n]? with | some (Ob.lst ds) => if ds.length < sizeLine then some (.non, S.set n (Ob.lst (ds ++ [v]))) else none | _ => none
  | none => none
def kApp (b : M D) (en : En) : Option (D × Sto) → Option (D × Sto)
  | some (.ref n, S) => match S[n]? with | some (Ob.lst _) => kApp2 n (b en S) | _ => (b en S).bind fun _ => none
  | some (_, S) => (b en S).bind fun _ => none
  | none => none
theorem e_app : mApp a b en S = kApp b en (a en S) := by
  unfold mApp
  cases a en S with
  | none => rfl
  | some p =>
    obtain ⟨d, S1⟩ := p
    cases d with
    | ref n =>
      show ((b en S1).bind fun q => match S1[n]?, q.2[n]? with | some (Ob.lst _), some (Ob.lst ds) => if ds.length < sizeLine then some (D.non, q.2.set n (Ob.lst (ds ++ [q.1]))) else none | _, _ => none) = _
      cases h : S1[n]? with
      | none => show _ = (match S1[n]? with | some (Ob.lst _) => kApp2 n (b en S1) | _ => (b en S1).bind fun _ => none); rw [h]
      | some ob =>
        show _ = (match S1[n]? with | some (Ob.lst _) => kApp2 n (b en S1) | _ => (b en S1).bind fun _ => none)
        rw [h]
        cases ob with
        | lst l =>
          dsimp only
          cases b en S1 with
          | none => rfl
          | some q =>
            obtain ⟨w, s⟩ := q
            rw [Option.bind_some]
            unfold kApp2
            dsimp only
            cases s[n]? with
            | none => rfl
            | some o => cases o <;> rfl
        | _ => rfl
    | _ => rfl
theorem k_appE {ds : List D} : kApp b en (some (.ref S.length, S ++ [Ob.lst ds])) = kApp2 S.length (b en (S ++ [Ob.lst ds])) := by
  show (match (S ++ [Ob.lst ds])[S.length]? with | some (Ob.lst _) => kApp2 S.length (b en (S ++ [Ob.lst ds])) | _ => (b en (S ++ [Ob.lst ds])).bind fun _ => none) = _
  rw [List.getElem?_concat_length]
theorem c_app2E (h : ds.length < sizeLine) : kApp2 S.length (some (v, S ++ [Ob.lst ds])) = some (.non, S ++ [Ob.lst (ds ++ [v])]) := by
  show (match (S ++ [Ob.lst ds])[S.length]? with | some (Ob.lst ds') => if ds'.length < sizeLine then some (D.non, (S ++ [Ob.lst ds]).set S.length (Ob.lst (ds' ++ [v]))) else none | _ => none) = _
  rw [List.getElem?_concat_length]
  dsimp only
  rw [if_pos h]
  simp
def kTupV : Option (D × Sto) → Option (D × Sto)
  | some (d, S) => (tupOf d S).map fun ds => (.tup ds, S)
  | none => none
theorem e_tupV : mTupV a en S = kTupV (a en S) := by
  unfold mTupV
  cases a en S <;> rfl
theorem k_tupVT : kTupV (some (.tup ds, S)) = some (.tup ds, S) := rfl
theorem c_tupVL (h : S[n]? = some (Ob.lst ds)) : kTupV (some (.ref n, S)) = some (.tup ds, S) := by
  show ((match S[n]? with | some (Ob.lst ds) => some ds | _ => none).map fun ds => (D.tup ds, S)) = _
  rw [h]; rfl
theorem k_tupVE : kTupV (some (.ref S.length, S ++ [Ob.lst ds])) = some (.tup ds, S ++ [Ob.lst ds]) := c_tupVL (List.getElem?_concat_length ..)
def kTupL : Option (List D × Sto) → Option (D × Sto)
  | some (ds, S) => some (.tup ds, S)
  | none => none
theorem e_tupL : mTupL ms en S = kTupL (ms en S) := by
  unfold mTupL
  cases ms en S <;> rfl
theorem k_tupL : kTupL (some (ds, S)) = some (.tup ds, S) := rfl
theorem e_newD : mNewD en S = some (.ref S.length, S ++ [Ob.dct []]) := rfl
def kDictP : Option (D × Sto) → Option (D × Sto)
  | some (.tup ds, S) => if ds.length ≤ sizeLine then (pairsD ds).map fun ps => (.ref S.length, S ++ [Ob.dct (dmerge [] ps)]) else none
  | _ => none
theorem e_dictP : mDictP a en S = kDictP (a en S) := by
  unfold mDictP
  cases a en S with
  | none => rfl
  | some p => obtain ⟨d, s⟩ := p; cases d <;> rfl
theorem c_dictP {ps : List (D × D)} (h : ds.length ≤ sizeLine) (e : pairsD ds = some ps) : kDictP (some (.tup ds, S)) = some (.ref S.length, S ++ [Ob.dct (dmerge [] ps)]) := by
  show (if ds.length ≤ sizeLine then (pairsD ds).map fun ps => (D.ref S.length, S ++ [Ob.dct (dmerge [] ps)]) else none) = _
  rw [if_pos h, e]; rfl
def kIsi2 (C1 C2 : String) : Option (D × Sto) → Option (D × Sto)
  | some (d, S) => (tyD d S).map fun T => (.bl (isiT T C1 || isiT T C2), S)
  | none => none
theorem e_isi2 {C1 C2 : String} : mIsi2 C1 C2 a en S = kIsi2 C1 C2 (a en S) := by
  unfold mIsi2
  cases a en S <;> rfl
def kZip2 (xs : List D) : Option (D × Sto) → Option (ItD × Sto)
  | some (.tup ys, S) => some ((zipD xs ys, .no), S)
  | _ => none
def kZip (b : M D) (en : En) : Option (D × Sto) → Option (ItD × Sto)
  | some (.tup xs, S) => kZip2 xs (b en S)
  | _ => none
theorem e_zip : mZip a b en S = kZip b en (a en S) := by
  unfold mZip
  cases a en S with
  | none => rfl
  | some p =>
    obtain ⟨d, S1⟩ := p
    show ((b en S1).bind _) = _
    cases d with
    | tup xs =>
      show _ = kZip2 xs (b en S1)
      cases b en S1 with
      | none => rfl
      | some q => obtain ⟨w, s⟩ := q; cases w <;> rfl
    | _ => cases b en S1 <;> rfl
theorem k_zip {xs : List D} : kZip b en (some (.tup xs, S)) = kZip2 xs (b en S) := rfl
theorem k_zip2 {xs ys : List D} : kZip2 xs (some (.tup ys, S)) = some ((zipD xs ys, .no), S) := rfl
/-- d.get(k, x), the parts leaving the store as it is -/
theorem get2_ev {kvs : List (D × D)} {k : D} (h1 : a en S = some (.ref n, S)) (h2 : b en S = some (k, S)) (h3 : c en S = some (x, S)) (hd : dctAt S n k = some kvs) : mGet2 a b c en S = some ((dget kvs k).getD x, S) := by
  unfold mGet2
  have hi : isDct S n = true := by
    unfold dctAt at hd
    unfold isDct
    split at hd
    · rfl
    · rfl
    · cases hd
  rw [h1, Option.bind_some, h2, Option.bind_some, h3, Option.bind_some]
  dsimp only
  rw [if_pos hi, hd]
  rfl
theorem ixD_ev {kvs : List (D × D)} {k d : D} (hd : dctAt S n k = some kvs) (hg : dget kvs k = some d) : gIx (.ref n) k S = some (d, S) := by
  have hl : ∀ xs, S[n]? ≠ some (Ob.lst xs) := fun xs z => by
    unfold dctAt at hd
    rw [z] at hd
    cases hd
  show (match S[n]? with | some (Ob.lst xs) => (match k with | .int i => (atI xs i).map fun d => (d, S) | _ => none) | _ => (dctAt S n k).bind fun kvs => (dget kvs k).map fun d => (d, S)) = _
  split
  · rename_i xs q
    exact absurd q (hl xs)
  · rw [hd, Option.bind_some, hg]; rfl
end
end DL
namespace DL
open PySem L2
/-! all stepping lemmas as one -/
theorem EVS : type_of% (And.intro @e_seq (And.intro @k_seq (And.intro @k_seq_rt (And.intro @k_seq_bk (And.intro @k_seq_ct (And.intro @e_nx (And.intro @e_bk (And.intro @e_ct (And.intro @e_asg (And.intro @k_asg (And.intro @k_asgT (And.intro @e_gT (And.intro @e_gsC (And.intro @e_gsN (And.intro @e_ret (And.intro @k_ret (And.intro @e_retN (And.intro @e_drop (And.intro @k_drop (And.intro @e_ifS (And.intro @k_ifS (And.intro @e_var (And.intro @k_v1 (And.intro @e_con (And.intro @e_op (And.intro @k_op1 (And.intro @k_op2 (And.intro @e_T (And.intro @k_T (And.intro @e_Tru (And.intro @k_TruB (And.intro @e_and (And.intro @e_or (And.intro @e_not (And.intro @k_and (And.intro @k_or (And.intro @k_not (And.intro @e_vand (And.intro @e_vor (And.intro @e_vnot (And.intro @k_vand (And.intro @k_vor (And.intro @k_vnot (And.intro @k_vnotL (And.intro @e_if (And.intro @k_if (And.intro @e_chain (And.intro @k_ch1 (And.intro @k_ch2 (And.intro @k_ch3 (And.intro @e_nil (And.intro @e_cons (And.intro @k_cons (And.intro @k_cons2 (And.intro @e_call (And.intro @k_call (And.intro @e_tup (And.intro @e_lst (And.intro @e_run (And.intro @k_run_rt (And.intro @k_run_nx (And.intro @e_len (And.intro @k_lenT (And.intro @e_isi (And.intro @e_all (And.intro @e_any (And.intro @e_iter (And.intro @k_iterScr (And.intro @k_iterT (And.intro @k_iterS (And.intro @e_rng (And.intro @e_for (And.intro @k_forNo (And.intro @k_forLst (And.intro @k_forFr (And.intro @e_comp (And.intro @k_compNo (And.intro @k_compLst (And.intro @k_compFr (And.intro @e_keep (And.intro @k_keep (And.intro @e_join (And.intro @k_join1 (And.intro @e_sl (And.intro @k_sl1 (And.intro @k_sl2 (And.intro @k_sl3 (And.intro @e_part (And.intro @k_part (And.intro @e_noPart (And.intro @e_true (And.intro @g_addI (And.intro @g_subI (And.intro @g_ltI (And.intro @g_leI (And.intro @g_gtI (And.intro @g_geI (And.intro @g_eqI (And.intro @g_eqS (And.intro @g_eqB (And.intro @g_neI (And.intro @g_neS (And.intro @g_isNotBB (And.intro @g_isBB (And.intro @g_ix0 (And.intro @g_ix1 (And.intro @g_ix2 (And.intro @g_ix3 (And.intro @g_ix4 (And.intro @g_ix5 (And.intro @e_forN (And.intro @e_forC (And.intro @k_forB_nx (And.intro @k_forB_ct (And.intro @k_forB_bk (And.intro @k_forB_rt (And.intro @k_tup0 (And.intro @k_lst0 (And.intro @k_tup1 (And.intro @k_lst1 (And.intro @k_tup2 (And.intro @k_lst2 (And.intro @k_tup3 (And.intro @k_lst3 (And.intro @k_tup4 (And.intro @k_lst4 (And.intro @k_tup5 (And.intro @k_lst5 (And.intro @k_tup6 (And.intro @k_lst6 (And.intro @k_tup7 (And.intro @k_lst7 (And.intro @k_tup8 (And.intro @k_lst8 (And.intro @k_tup9 (And.intro @k_lst9 (And.intro @k_tup10 (And.intro @k_lst10 (And.intro @k_tup11 (And.intro @k_lst11 (And.intro @k_tup12 (And.intro @k_lst12 (And.intro @b_tf (And.intro @b_ft (And.intro @b_tt (And.intro @b_ff (And.intro @l_set0 (And.intro @l_setS (And.intro @l_get0 (And.intro @l_getS (And.intro @l_getD (And.intro @l_len0 (And.intro @l_lenS (And.intro @l_app0 (And.intro @l_appS (And.intro @l_appN (And.intro @l_start0 (And.intro @l_startS (And.intro @l_capS (And.intro @l_capC (And.intro @l_capN (And.intro @l_rep0 (And.intro @l_repS (And.intro @l_ifS1 (And.intro @l_ifS0 (And.intro @l_ifV1 (And.intro @l_ifV0 (And.intro @l_ifB1 (And.intro @l_ifB0 (And.intro @e_app (And.intro @k_appE (And.intro @e_tupV (And.intro @k_tupVT (And.intro @k_tupVE (And.intro @e_tupL (And.intro @k_tupL (And.intro @e_newD (And.intro @e_dictP (And.intro @e_isi2 (And.intro @e_zip (And.intro @k_zip (And.intro @k_zip2 (And.intro @trim_same (And.intro @and_true (And.intro @true_and (And.intro @decide_true (And.intro @decide_false (And.intro @Bool.not_true (And.intro @Bool.not_false (And.intro @Bool.false_eq_true (And.intro @Nat.add_zero (And.intro @Nat.zero_add @Nat.sub_zero)))))))))))))))))))))))))))))))))))))))))))))))))))))))))))))))))))))))))))))))))))))))))))))))))))))))))))))))))))))))))))))))))))))))))))))))))))))))))))))))))))))))))))))))))))))))))))))))) := (And.intro @e_seq (And.intro @k_seq (And.intro @k_seq_rt (And.intro @k_seq_bk (And.intro @k_seq_ct (And.intro @e_nx (And.intro @e_bk (And.intro @e_ct (And.intro @e_asg (And.intro @k_asg (And.intro @k_asgT (And.intro @e_gT (And.intro @e_gsC (And.intro @e_gsN (And.intro @e_ret (And.intro @k_ret (And.intro @e_retN (And.intro @e_drop (And.intro @k_drop (And.intro @e_ifS (And.intro @k_ifS (And.intro @e_var (And.intro @k_v1 (And.intro @e_con (And.intro @e_op (And.intro @k_op1 (And.intro @k_op2 (And.intro @e_T (And.intro @k_T (And.intro @e_Tru (And.intro @k_TruB (And.intro @e_and (And.intro @e_or (And.intro @e_not (And.intro @k_and (And.intro @k_or (And.intro @k_not (And.intro @e_vand (And.intro @e_vor (And.intro @e_vnot (And.intro @k_vand (And.intro @k_vor (And.intro @k_vnot (And.intro @k_vnotL (And.intro @e_if (And.intro @k_if (And.intro @e_chain (And.intro @k_ch1 (And.intro @k_ch2 (And.intro @k_ch3 (And.intro @e_nil (And.intro @e_cons (And.intro @k_cons (And.intro @k_cons2 (And.intro @e_call (And.intro @k_call (And.intro @e_tup (And.intro @e_lst (And.intro @e_run (And.intro @k_run_rt (And.intro @k_run_nx (And.intro @e_len (And.intro @k_lenT (And.intro @e_isi (And.intro @e_all (And.intro @e_any (And.intro @e_iter (And.intro @k_iterScr (And.intro @k_iterT (And.intro @k_iterS (And.intro @e_rng (And.intro @e_for (And.intro @k_forNo (And.intro @k_forLst (And.intro @k_forFr (And.intro @e_comp (And.intro @k_compNo (And.intro @k_compLst (And.intro @k_compFr (And.intro @e_keep (And.intro @k_keep (And.intro @e_join (And.intro @k_join1 (And.intro @e_sl (And.intro @k_sl1 (And.intro @k_sl2 (And.intro @k_sl3 (And.intro @e_part (And.intro @k_part (And.intro @e_noPart (And.intro @e_true (And.intro @g_addI (And.intro @g_subI (And.intro @g_ltI (And.intro @g_leI (And.intro @g_gtI (And.intro @g_geI (And.intro @g_eqI (And.intro @g_eqS (And.intro @g_eqB (And.intro @g_neI (And.intro @g_neS (And.intro @g_isNotBB (And.intro @g_isBB (And.intro @g_ix0 (And.intro @g_ix1 (And.intro @g_ix2 (And.intro @g_ix3 (And.intro @g_ix4 (And.intro @g_ix5 (And.intro @e_forN (And.intro @e_forC (And.intro @k_forB_nx (And.intro @k_forB_ct (And.intro @k_forB_bk (And.intro @k_forB_rt (And.intro @k_tup0 (And.intro @k_lst0 (And.intro @k_tup1 (And.intro @k_lst1 (And.intro @k_tup2 (And.intro @k_lst2 (And.intro @k_tup3 (And.intro @k_lst3 (And.intro @k_tup4 (And.intro @k_lst4 (And.intro @k_tup5 (And.intro @k_lst5 (And.intro @k_tup6 (And.intro @k_lst6 (And.intro @k_tup7 (And.intro @k_lst7 (And.intro @k_tup8 (And.intro @k_lst8 (And.intro @k_tup9 (And.intro @k_lst9 (And.intro @k_tup10 (And.intro @k_lst10 (And.intro @k_tup11 (And.intro @k_lst11 (And.intro @k_tup12 (And.intro @k_lst12 (And.intro @b_tf (And.intro @b_ft (And.intro @b_tt (And.intro @b_ff (And.intro @l_set0 (And.intro @l_setS (And.intro @l_get0 (And.intro @l_getS (And.intro @l_getD (And.intro @l_len0 (And.intro @l_lenS (And.intro @l_app0 (And.intro @l_appS (And.intro @l_appN (And.intro @l_start0 (And.intro @l_startS (And.intro @l_capS (And.intro @l_capC (And.intro @l_capN (And.intro @l_rep0 (And.intro @l_repS (And.intro @l_ifS1 (And.intro @l_ifS0 (And.intro @l_ifV1 (And.intro @l_ifV0 (And.intro @l_ifB1 (And.intro @l_ifB0 (And.intro @e_app (And.intro @k_appE (And.intro @e_tupV (And.intro @k_tupVT (And.intro @k_tupVE (And.intro @e_tupL (And.intro @k_tupL (And.intro @e_newD (And.intro @e_dictP (And.intro @e_isi2 (And.intro @e_zip (And.intro @k_zip (And.intro @k_zip2 (And.intro @trim_same (And.intro @and_true (And.intro @true_and (And.intro @decide_true (And.intro @decide_false (And.intro @Bool.not_true (And.intro @Bool.not_false (And.intro @Bool.false_eq_true (And.intro @Nat.add_zero (And.intro @Nat.zero_add @Nat.sub_zero))))))))))))))))))))))))))))))))))))))))))))))))))))))))))))))))))))))))))))))))))))))))))))))))))))))))))))))))))))))))))))))))))))))))))))))))))))))))))))))))))))))))))))))))))))))))))))))))
end DL
namespace DL
open PySem L2
/-! ### comprehensions and loops over lists of one's own -/
section
variable {α : Type} {ds0 : List D} {gd : Gd} {cap : En} {g : D → En → Option En} {c : M Bool} {m : M D} {S : Sto}
theorem comp_typ (xs : List α) (enc : α → D) (p : α → Bool) (f : α → D) (hg : GdOk gd ds0 S) (hl : xs.length ≤ sizeLine) (h : ∀ a ∈ xs, ∃ en, g (enc a) cap = some en ∧ c en S = some (p a, S) ∧ (p a = true → m en S = some (f a, S))) :
    compGo ds0 gd cap g c m (xs.map enc) [] S = some ((xs.filter p).map f, S) := by
  have key : ∀ (l : List α) (acc : List D), acc.length + l.length ≤ sizeLine → (∀ a ∈ l, ∃ en, g (enc a) cap = some en ∧ c en S = some (p a, S) ∧ (p a = true → m en S = some (f a, S))) →
      compGo ds0 gd cap g c m (l.map enc) acc S = some (acc ++ (l.filter p).map f, S) := by
    intro l
    induction l with
    | nil =>
      intro acc hl _
      unfold compGo
      simp only [List.map_nil]
      rw [if_pos ⟨hg, by simpa using hl⟩]
      simp
    | cons a l ih =>
      intro acc hl h
      obtain ⟨en, h1, h2, h3⟩ := h a List.mem_cons_self
      rw [List.length_cons] at hl
      rw [List.map_cons]
      unfold compGo
      rw [if_pos ⟨hg, by omega⟩, h1, Option.bind_some, h2, Option.bind_some]
      dsimp only
      cases hp : p a with
      | true =>
        rw [if_pos rfl, h3 hp, Option.bind_some, ih (acc ++ [f a]) (by rw [List.length_append, List.length_singleton]; omega) fun d' hd' => h d' (List.mem_cons_of_mem _ hd')]
        rw [List.filter_cons_of_pos hp, List.map_cons, List.append_assoc]
        rfl
      | false =>
        rw [if_neg Bool.false_ne_true, ih acc (by omega) fun d' hd' => h d' (List.mem_cons_of_mem _ hd')]
        rw [List.filter_cons_of_neg (by simp [hp])]
  simpa using key xs [] (by simpa using hl) h
/-- no condition -/
theorem comp_all (xs : List α) (enc : α → D) (f : α → D) (hg : GdOk gd ds0 S) (hl : xs.length ≤ sizeLine) (h : ∀ a ∈ xs, ∃ en, g (enc a) cap = some en ∧ m en S = some (f a, S)) :
    compGo ds0 gd cap g mTrue m (xs.map enc) [] S = some (xs.map f, S) := by
  have := comp_typ (c := mTrue) xs enc (fun _ => true) f hg hl (fun a ha => by
    obtain ⟨en, h1, h2⟩ := h a ha
    exact ⟨en, h1, rfl, fun _ => h2⟩)
  rw [List.filter_eq_self.mpr fun _ _ => rfl] at this
  exact this
theorem gdOk_none {ds : List D} {S : Sto} : GdOk .no ds S := trivial
theorem rngD_map (n : Nat) : rngD 0 n = (List.range n).map fun i => D.int (i : Nat) := by
  unfold rngD
  simp
/-- a loop over written things of which every turn goes on, with an invariant -/
theorem forGo_typ {body : MS} (xs : List α) (enc : α → D) (P : List α → En → Sto → Prop) (h : ∀ pre a post en S, xs = pre ++ a :: post → P pre en S → ∃ en1, g (enc a) en = some en1 ∧ ∃ en2 S2, body en1 S = some (.nx, en2, S2) ∧ P (pre ++ [a]) en2 S2)
    (hg : ∀ pre en S, P pre en S → GdOk gd ds0 S) {en : En} {S : Sto} (h0 : P [] en S) : ∃ en' S', forGo ds0 gd g body (xs.map enc) en S = some (.nx, en', S') ∧ P xs en' S' := by
  have key : ∀ (post pre : List α) en S, xs = pre ++ post → P pre en S → ∃ en' S', forGo ds0 gd g body (post.map enc) en S = some (.nx, en', S') ∧ P xs en' S' := by
    intro post
    induction post with
    | nil =>
      intro pre en S e hp
      unfold forGo
      simp only [List.map_nil]
      rw [if_pos (hg pre en S hp)]
      rw [List.append_nil] at e
      exact ⟨en, S, rfl, e ▸ hp⟩
    | cons a post ih =>
      intro pre en S e hp
      obtain ⟨en1, h1, en2, S2, h2, h3⟩ := h pre a post en S e hp
      rw [List.map_cons]
      unfold forGo
      rw [if_pos (hg pre en S hp), h1, Option.bind_some, h2, Option.bind_some]
      exact ih (pre ++ [a]) en2 S2 (by rw [e, List.append_assoc]; rfl) h3
  exact key xs [] en S rfl h0
end
/-! walking a dict -/
theorem iter_dict {S : Sto} {n : Nat} {kvs : List (D × D)} (hS : S[n]? = some (.dct kvs)) (hk : (kvs.all fun p => (keyD p.1).isSome) = true) : kIter (some (.ref n, S)) = some ((kvs.map (·.1), .fr n kvs true), S.set n (.fdct kvs)) := by
  show iterD (.ref n) S = _
  dsimp only [iterD]
  rw [hS]
  dsimp only
  rw [if_pos hk]
theorem set_back {S : Sto} {n : Nat} {o o' : Ob} (h : S[n]? = some o) : (S.set n o').set n o = S := by
  rw [List.set_set]
  apply List.ext_getElem?
  intro i
  rw [List.getElem?_set]
  by_cases hi : n = i
  · subst hi
    rw [if_pos rfl, h, if_pos (List.getElem?_eq_some_iff.mp h).1]
  · rw [if_neg hi]
theorem comp_dict {α : Type} {S : Sto} {n : Nat} {kvs : List (D × D)} {nT : Nat} {caps : List Nat} {en : En} {g : D → En → Option En} {m : M D} (hS : S[n]? = some (.dct kvs)) (hk : (kvs.all fun p => (keyD p.1).isSome) = true)
    (xs : List α) (enc : α → D) (hx : kvs.map (·.1) = xs.map enc) (f : α → D) (hl : xs.length ≤ sizeLine) (h : ∀ a ∈ xs, ∃ en', g (enc a) (capEn nT caps en) = some en' ∧ m en' (S.set n (.fdct kvs)) = some (f a, S.set n (.fdct kvs))) :
    kComp nT caps g mTrue m en (kIter (some (.ref n, S))) = some (xs.map f, S) := by
  have hn := (List.getElem?_eq_some_iff.mp hS).1
  have hg : (S.set n (.fdct kvs))[n]? = some (.fdct kvs) := by rw [List.getElem?_set_self hn]
  rw [iter_dict hS hk, k_compFr, hx, comp_all xs enc f (show GdOk (.fr n kvs true) (xs.map enc) _ from hg) hl h]
  show (thawS (.fr n kvs true) (S.set n (.fdct kvs))).map (fun S' => (xs.map f, S')) = _
  unfold thawS
  dsimp only
  rw [hg]
  dsimp only
  rw [set_back hS]
  rfl
/-! texts -/
theorem cs_mk (l : List Nat) : cs ⟨l.toArray⟩ = l := by simp [cs]
theorem mk_cs (x : Str) : (⟨(cs x).toArray⟩ : Str) = x := by cases x; simp [cs]
theorem str_ext {x y : Str} (h : cs x = cs y) : x = y := by rw [← mk_cs x, ← mk_cs y, h]
theorem lt_one (a b : Nat) : ([a] < [b]) ↔ a < b := by
  constructor
  · intro h
    cases h with
    | rel h => exact h
    | cons h => cases h
  · exact fun h => .rel h
end DL
namespace K02
open PySem PySem.Spec PyProof.Rows L2 DL
def top (i : Nat) : Stmt := PySem.Challenge.pw_twinshelves_k02_marks_within.main.body.getD i (.Pass ⟨0, 0, 0, 0⟩)
abbrev s_is_within : Stmt := top 1
abbrev s_has_heard : Stmt := top 2
abbrev s_L_cell : Stmt := top 4
abbrev s_L_mix : Stmt := top 5
abbrev s_L_which : Stmt := top 6
abbrev s_L_same : Stmt := top 7
abbrev s_L_known : Stmt := top 8
abbrev s_law : Stmt := top 9
theorem nd0 : (["mark", "known"] : List Str).Nodup := by decide +kernel
theorem nd1 : (["heard", "mark"] : List Str).Nodup := by decide +kernel
theorem nd2 : (["known", "other"] : List Str).Nodup := by decide +kernel
theorem nd3 : (["_law_script", "_law_k"] : List Str).Nodup := by decide +kernel
theorem nd4 : (["_law_cell_here", "_law_prime", "_law_many"] : List Str).Nodup := by decide +kernel
theorem nd5 : (["_law_cell_here"] : List Str).Nodup := by decide +kernel
theorem nd6 : (["_law_found", "_law_due"] : List Str).Nodup := by decide +kernel
theorem nd7 : (["_law_one", "_law_other"] : List Str).Nodup := by decide +kernel
theorem nd8 : (["_law_cell_here", "_law_which_here", "_law_found", "_law_house", "_law_many"] : List Str).Nodup := by decide +kernel
theorem nd9 : (["_law_script", "_law_k", "_law_cell_here", "_law_one", "_law_other", "_law_counts", "_law_house", "_law_most", "_law_count", "_law_theirs", "_law_due", "_law_back", "_law_at"] : List Str).Nodup := by decide +kernel
theorem nd10 : (["_law_house", "_law_counts", "_law_theirs"] : List Str).Nodup := by decide +kernel
theorem boot_all' : bootBuiltins "all" = some (.builtin "all") := by decide +kernel
theorem boot_any' : bootBuiltins "any" = some (.builtin "any") := by decide +kernel
theorem boot_bool' : bootBuiltins "bool" = some (.type "bool") := by decide +kernel
theorem boot_dict' : bootBuiltins "dict" = some (.type "dict") := by decide +kernel
theorem boot_int' : bootBuiltins "int" = some (.type "int") := by decide +kernel
theorem boot_isinstance' : bootBuiltins "isinstance" = some (.builtin "isinstance") := by decide +kernel
theorem boot_len' : bootBuiltins "len" = some (.builtin "len") := by decide +kernel
theorem boot_str' : bootBuiltins "str" = some (.type "str") := by decide +kernel
theorem boot_tuple' : bootBuiltins "tuple" = some (.type "tuple") := by decide +kernel
theorem boot_zip' : bootBuiltins "zip" = some (.type "zip") := by decide +kernel
structure Txt (K : PySem.W.Frag) (mg : Str → Option Value) : Prop where
  n_all : mg "all" = none
  n_any : mg "any" = none
  n_bool : mg "bool" = none
  n_dict : mg "dict" = none
  n_int : mg "int" = none
  n_isinstance : mg "isinstance" = none
  n_len : mg "len" = none
  n_range : mg "range" = none
  n_str : mg "str" = none
  n_tuple : mg "tuple" = none
  n_zip : mg "zip" = none
/-! the defs as plain runs -/
noncomputable def e_is_within_0 : M D := (vAnd (mOp gEq (mOp gIx (mVar 0) (mCon (D.int (0)))) (mOp gIx (mVar 1) (mCon (D.int (0))))) (mOp gGe (mOp gIx (mVar 0) (mCon (D.int (1)))) (mOp gIx (mVar 1) (mCon (D.int (1))))))
noncomputable abbrev m_is_within : MS := (mRet (mAny (mComp (mIter (mVar 1)) 1 [0] (gN 0) mTrue e_is_within_0)))
noncomputable def F_is_within : List D → Sto → Option (D × Sto) := runD 2 2 m_is_within
noncomputable def e_has_heard_0 : M D := (mCall F_is_within (mCons (mVar 0) (mCons (mVar 1) mNil)))
noncomputable abbrev m_has_heard : MS := (mRet (mAll (mComp (mIter (mVar 1)) 1 [0] (gN 0) mTrue e_has_heard_0)))
noncomputable def F_has_heard : List D → Sto → Option (D × Sto) := runD 2 2 m_has_heard
noncomputable abbrev m_L_cell : MS := (mSeq (mIfS (mT (mOp gLt (mVar 1) (mLen (mVar 0)))) (mRet (mOp gIx (mVar 0) (mVar 1))) mNx) (mRet (mCon (D.int (0)))))
noncomputable def F_L_cell : List D → Sto → Option (D × Sto) := runD 2 2 m_L_cell
noncomputable abbrev m_L_mix : MS := (mRet (mOp gMod (mOp gMod (mOp gMul (mVar 0) (mCon (D.int (48271)))) (mVar 1)) (mVar 2)))
noncomputable def F_L_mix : List D → Sto → Option (D × Sto) := runD 3 3 m_L_mix
noncomputable abbrev m_L_which : MS := (mRet (mTup (mCons (mCall F_L_mix (mCons (mVar 0) (mCons (mCon (D.int (9871))) (mCons (mCon (D.int (6))) mNil)))) (mCons (mOp gAdd (mOp gAdd (mCon (D.int (1))) (mCall F_L_mix (mCons (mVar 0) (mCons (mCon (D.int (9859))) (mCons (mCon (D.int (4))) mNil))))) (mOp gMul (mCon (D.int (9))) (mOp gMod (mVar 0) (mCon (D.int (2)))))) mNil))))
noncomputable def F_L_which : List D → Sto → Option (D × Sto) := runD 1 1 m_L_which
noncomputable abbrev m_L_same (Fr : List D → Sto → Option (D × Sto)) : MS := (mSeq (mIfS (mTru (mIsi "tuple" (mVar 1))) (mSeq (mIfS (mOr (mNot (mTru (mIsi "tuple" (mVar 0)))) (mT (mOp gNe (mLen (mVar 0)) (mLen (mVar 1))))) (mRet (mCon (D.bl false))) mNx) (mRet (mAll (mComp (mZip (mVar 0) (mVar 1)) 2 [] (gT 2 (gsCons (gN 0) (gsCons (gN 1) gsNil))) mTrue (mCall Fr (mCons (mVar 0) (mCons (mVar 1) mNil))))))) mNx) (mSeq (mIfS (mT (mOp gIs (mVar 1) (mCon D.non))) (mRet (mOp gIs (mVar 0) (mCon D.non))) mNx) (mSeq (mIfS (mOr (mTru (mIsi "bool" (mVar 1))) (mTru (mIsi "bool" (mVar 0)))) (mRet (vAnd (mIsi "bool" (mVar 1)) (vAnd (mIsi "bool" (mVar 0)) (mOp gEq (mVar 0) (mVar 1))))) mNx) (mRet (vAnd (mIsi2 "int" "str" (mVar 0)) (mOp gEq (mVar 0) (mVar 1)))))))
noncomputable def F_L_same : Nat → List D → Sto → Option (D × Sto)
  | 0 => fun _ _ => none
  | k + 1 => runD 2 2 (m_L_same (F_L_same k))
noncomputable def b_L_known_0 : MS := (mSeq (mAsg (mCall F_L_mix (mCons (mOp gAdd (mVar 0) (mOp gMul (mCon (D.int (31))) (mVar 3))) (mCons (mCon (D.int (9907))) (mCons (mCon (D.int (3))) mNil)))) (gN 4)) (mSeq (mIfS (mT (mOp gEq (mVar 3) (mOp gIx (mVar 1) (mCon (D.int (0)))))) (mAsg (mOp gAdd (mVar 4) (mOp gIx (mVar 1) (mCon (D.int (1))))) (gN 4)) mNx) (mIfS (mT (mOp gGt (mVar 4) (mCon (D.int (0))))) (mDrop (mApp (mVar 2) (mTup (mCons (mVar 3) (mCons (mVar 4) mNil))))) mNx)))
noncomputable abbrev m_L_known : MS := (mSeq (mAsg (mLst mNil) (gN 2)) (mSeq (mFor (mRng1 (mCon (D.int (6)))) (gN 3) b_L_known_0) (mRet (mTupV (mVar 2)))))
noncomputable def F_L_known : List D → Sto → Option (D × Sto) := runD 5 2 m_L_known
noncomputable def b_law_0 : MS := (mSeq (mIfS (mAnd (mT (mOp gGt (mVar 8) (mCon (D.int (0))))) (mAnd (mT (mOp gLe (mVar 8) (mVar 7))) (mT (mOp gIsNot (mCall F_is_within (mCons (mTup (mCons (mVar 6) (mCons (mVar 8) mNil))) (mCons (mVar 3) mNil))) (mCon (D.bl true)))))) (mRet (mCon (D.bl false))) mNx) (mIfS (mAnd (mT (mOp gGt (mVar 8) (mVar 7))) (mT (mOp gIsNot (mCall F_is_within (mCons (mTup (mCons (mVar 6) (mCons (mVar 8) mNil))) (mCons (mVar 3) mNil))) (mCon (D.bl false))))) (mRet (mCon (D.bl false))) mNx))
noncomputable def b_law_1 : MS := (mSeq (mAsg (mGet2 (mVar 5) (mVar 6) (mCon (D.int (0)))) (gN 7)) (mFor (mIter (mTup (mCons (mCon (D.int (1))) (mCons (mOp gSub (mVar 7) (mCon (D.int (1)))) (mCons (mVar 7) (mCons (mOp gAdd (mVar 7) (mCon (D.int (1)))) (mCons (mOp gAdd (mVar 7) (mCon (D.int (9)))) mNil))))))) (gN 8) b_law_0))
noncomputable def e_law_0 : M D := (mOp gLe (mOp gIx (mVar 2) (mVar 0)) (mGet2 (mVar 1) (mVar 0) (mCon (D.int (0)))))
noncomputable def e_law_1 : M D := (mOp gLe (mOp gIx (mVar 1) (mVar 0)) (mGet2 (mVar 2) (mVar 0) (mCon (D.int (0)))))
noncomputable def b_law_2 : MS := (mSeq (mAsg (mCall F_L_cell (mCons (mVar 0) (mCons (mVar 1) mNil))) (gN 2)) (mSeq (mAsg (mCall F_L_known (mCons (mVar 2) (mCons (mCall F_L_which (mCons (mVar 2) mNil)) mNil))) (gN 3)) (mSeq (mAsg (mCall F_L_known (mCons (mOp gAdd (mVar 2) (mCon (D.int (5)))) (mCons (mCall F_L_which (mCons (mCall F_L_cell (mCons (mVar 0) (mCons (mOp gAdd (mVar 1) (mCon (D.int (1)))) mNil))) mNil)) mNil))) (gN 4)) (mSeq (mAsg (mDictP (mVar 3)) (gN 5)) (mSeq (mFor (mRng1 (mCon (D.int (6)))) (gN 6) b_law_1) (mSeq (mAsg (mDictP (mVar 4)) (gN 9)) (mSeq (mAsg (mAll (mComp (mIter (mVar 9)) 1 [5, 9] (gN 0) mTrue e_law_0)) (gN 10)) (mSeq (mAsg (mAll (mComp (mIter (mVar 5)) 1 [5, 9] (gN 0) mTrue e_law_1)) (gN 11)) (mSeq (mIfS (mNot (mTru (mCall (F_L_same 12) (mCons (mTup (mCons (mCall F_has_heard (mCons (mVar 3) (mCons (mVar 4) mNil))) (mCons (mCall F_has_heard (mCons (mVar 4) (mCons (mVar 3) mNil))) mNil))) (mCons (mTup (mCons (mVar 10) (mCons (mVar 11) mNil))) mNil))))) (mRet (mCon (D.bl false))) mNx) (mSeq (mIfS (mOr (mT (mOp gIsNot (mCall F_has_heard (mCons (mVar 3) (mCons (mVar 3) mNil))) (mCon (D.bl true)))) (mOr (mT (mOp gIsNot (mCall F_has_heard (mCons (mVar 3) (mCons (mTup mNil) mNil))) (mCon (D.bl true)))) (mT (mOp gIsNot (mCall F_has_heard (mCons (mTup mNil) (mCons (mVar 3) mNil))) (mCon (D.bl false)))))) (mRet (mCon (D.bl false))) mNx) (mSeq (mAsg (mCall F_L_mix (mCons (mVar 2) (mCons (mCon (D.int (9811))) (mCons (mLen (mVar 3)) mNil)))) (gN 12)) (mSeq (mAsg (mOp gIx (mVar 3) (mVar 12)) (gT 2 (gsCons (gN 6) (gsCons (gN 7) gsNil)))) (mSeq (mIfS (mT (mOp gIsNot (mCall F_has_heard (mCons (mOp gAdd (mOp gAdd (mSl (mVar 3) mNoPart (mPart (mVar 12))) (mTup (mCons (mTup (mCons (mVar 6) (mCons (mOp gAdd (mVar 7) (mCon (D.int (1)))) mNil))) mNil))) (mSl (mVar 3) (mPart (mOp gAdd (mVar 12) (mCon (D.int (1))))) mNoPart)) (mCons (mVar 3) mNil))) (mCon (D.bl true)))) (mRet (mCon (D.bl false))) mNx) (mIfS (mT (mOp gIsNot (mCall F_has_heard (mCons (mVar 3) (mCons (mOp gAdd (mOp gAdd (mSl (mVar 3) mNoPart (mPart (mVar 12))) (mTup (mCons (mTup (mCons (mVar 6) (mCons (mOp gAdd (mVar 7) (mCon (D.int (1)))) mNil))) mNil))) (mSl (mVar 3) (mPart (mOp gAdd (mVar 12) (mCon (D.int (1))))) mNoPart)) mNil))) (mCon (D.bl false)))) (mRet (mCon (D.bl false))) mNx))))))))))))))
noncomputable abbrev m_law : MS := (mSeq (mFor (mRng1 (mCon (D.int (3)))) (gN 1) b_law_2) (mRet (mCon (D.bl true))))
noncomputable def F_law : List D → Sto → Option (D × Sto) := runD 13 1 m_law
/-! the defs keep to them -/
section
variable {P : Program} {w : World} {K : PySem.W.Frag} {mg : Str → Option Value} {base : Heap}
theorem sc_is_within : FnScope ["mark", "known"] ["mark", "known"] (defScope s_is_within) := ⟨rfl, rfl, rfl, nd0, rfl, by decide +kernel, by decide +kernel⟩
theorem ok_is_within {f_is_within : Addr} {fd_is_within : FuncData} (T : Txt K mg) (O_is_within : Own K mg "is_within" s_is_within f_is_within fd_is_within ["mark", "known"]) : FnOk P w K mg base CX0 1 f_is_within fd_is_within ["mark", "known"] (spD K 2 F_is_within) :=
  fn_d (k := 0) O_is_within.fn sc_is_within rfl rfl fun cdv A outer s H E hr => (sb_one (ss_ret (se_any rfl (sq_comp (tgs := ["heard"]) (cn := ["mark"]) (caps := [0]) rfl ⟨by decide +kernel, rfl, by decide +kernel, free_in (defScope s_is_within).names rfl (by decide +kernel), ⟨⟨rfl, .inl rfl, rfl⟩, trivial⟩⟩ (si_of (sv 1)) (glow_name (by decide)) gd_name (fun _ _ _ _ => (pg_name (i := 0) nd1 rfl (Or.inl rfl))) (fun _ _ _ _ => sf_nil) (fun _ _ _ _ => (se_and (se_cmp (opd_eq (hu64 hr)) (se_ix (hu64 hr) (sv 0) se_int) (se_ix (hu64 hr) (sv 1) se_int) (nomark _)) (se_one (se_cmp opd_ge (se_ix (hu64 hr) (sv 0) se_int) (se_ix (hu64 hr) (sv 1) se_int) (nomark _)))))) rfl T.n_any boot_any')))
theorem sc_has_heard : FnScope ["known", "other"] ["known", "other"] (defScope s_has_heard) := ⟨rfl, rfl, rfl, nd2, rfl, by decide +kernel, by decide +kernel⟩
theorem ok_has_heard {f_has_heard : Addr} {fd_has_heard : FuncData} (T : Txt K mg) (O_has_heard : Own K mg "has_heard" s_has_heard f_has_heard fd_has_heard ["known", "other"]) {f_is_within : Addr} {fd_is_within : FuncData} (O_is_within : Own K mg "is_within" s_is_within f_is_within fd_is_within ["mark", "known"]) (G_is_within : FnOk P w K mg base CX0 1 f_is_within fd_is_within ["mark", "known"] (spD K 2 F_is_within)) : FnOk P w K mg base CX0 2 f_has_heard fd_has_heard ["known", "other"] (spD K 2 F_has_heard) :=
  fn_d (k := 1) O_has_heard.fn sc_has_heard rfl rfl fun cdv A outer s H E hr => (sb_one (ss_ret (se_all rfl (sq_comp (tgs := ["mark"]) (cn := ["known"]) (caps := [0]) rfl ⟨by decide +kernel, rfl, by decide +kernel, free_in (defScope s_has_heard).names rfl (by decide +kernel), ⟨⟨rfl, .inl rfl, rfl⟩, trivial⟩⟩ (si_of (sv 1)) (glow_name (by decide)) gd_name (fun _ _ _ _ => (pg_name (i := 0) nd0 rfl (Or.inl rfl))) (fun _ _ _ _ => sf_nil) (fun _ _ _ _ => (se_call G_is_within (hr.mono (by omega)) rfl O_is_within.mgf O_is_within.fn.kp O_is_within.b (sa_cons (sv 0) (sa_cons (sv 1) sa_nil)) (len_cons (len_cons len_nil))))) rfl T.n_all boot_all')))
theorem sc_L_cell : FnScope ["_law_script", "_law_k"] ["_law_script", "_law_k"] (defScope s_L_cell) := ⟨rfl, rfl, rfl, nd3, rfl, by decide +kernel, by decide +kernel⟩
theorem ok_L_cell {f_L_cell : Addr} {fd_L_cell : FuncData} (T : Txt K mg) (O_L_cell : Own K mg "_law_cell" s_L_cell f_L_cell fd_L_cell ["_law_script", "_law_k"]) : FnOk P w K mg base CX0 1 f_L_cell fd_L_cell ["_law_script", "_law_k"] (spD K 2 F_L_cell) :=
  fn_d (k := 0) O_L_cell.fn sc_L_cell rfl rfl fun cdv A outer s H E hr => (sb_cons (ss_if (st_cmp (opd_lt (hu64 hr)) (sv 1) (se_len (sv 0) rfl T.n_len boot_len') (nomark _)) (sb_one (ss_ret (se_ix (hu64 hr) (sv 0) (sv 1)))) sb_nil)
      (sb_one (ss_ret se_int)))
theorem sc_L_mix : FnScope ["_law_cell_here", "_law_prime", "_law_many"] ["_law_cell_here", "_law_prime", "_law_many"] (defScope s_L_mix) := ⟨rfl, rfl, rfl, nd4, rfl, by decide +kernel, by decide +kernel⟩
theorem ok_L_mix {f_L_mix : Addr} {fd_L_mix : FuncData} (T : Txt K mg) (O_L_mix : Own K mg "_law_mix" s_L_mix f_L_mix fd_L_mix ["_law_cell_here", "_law_prime", "_law_many"]) : FnOk P w K mg base CX0 1 f_L_mix fd_L_mix ["_law_cell_here", "_law_prime", "_law_many"] (spD K 3 F_L_mix) :=
  fn_d (k := 0) O_L_mix.fn sc_L_mix rfl rfl fun cdv A outer s H E hr => (sb_one (ss_ret (se_op opd_mod (se_op opd_mod (se_op opd_mul (sv 0) se_int) (sv 1)) (sv 2))))
theorem sc_L_which : FnScope ["_law_cell_here"] ["_law_cell_here"] (defScope s_L_which) := ⟨rfl, rfl, rfl, nd5, rfl, by decide +kernel, by decide +kernel⟩
theorem ok_L_which {f_L_which : Addr} {fd_L_which : FuncData} (T : Txt K mg) (O_L_which : Own K mg "_law_which" s_L_which f_L_which fd_L_which ["_law_cell_here"]) {f_L_mix : Addr} {fd_L_mix : FuncData} (O_L_mix : Own K mg "_law_mix" s_L_mix f_L_mix fd_L_mix ["_law_cell_here", "_law_prime", "_law_many"]) (G_L_mix : FnOk P w K mg base CX0 1 f_L_mix fd_L_mix ["_law_cell_here", "_law_prime", "_law_many"] (spD K 3 F_L_mix)) : FnOk P w K mg base CX0 2 f_L_which fd_L_which ["_law_cell_here"] (spD K 1 F_L_which) :=
  fn_d (k := 1) O_L_which.fn sc_L_which rfl rfl fun cdv A outer s H E hr => (sb_one (ss_ret (se_tup (sa_cons (se_call G_L_mix (hr.mono (by omega)) rfl O_L_mix.mgf O_L_mix.fn.kp O_L_mix.b (sa_cons (sv 0) (sa_cons se_int (sa_cons se_int sa_nil))) (len_cons (len_cons (len_cons len_nil)))) (sa_cons (se_op opd_add (se_op opd_add se_int (se_call G_L_mix (hr.mono (by omega)) rfl O_L_mix.mgf O_L_mix.fn.kp O_L_mix.b (sa_cons (sv 0) (sa_cons se_int (sa_cons se_int sa_nil))) (len_cons (len_cons (len_cons len_nil))))) (se_op opd_mul se_int (se_op opd_mod (sv 0) se_int))) sa_nil)))))
theorem sc_L_same : FnScope ["_law_found", "_law_due"] ["_law_found", "_law_due"] (defScope s_L_same) := ⟨rfl, rfl, rfl, nd6, rfl, by decide +kernel, by decide +kernel⟩
theorem ok_L_same {f_L_same : Addr} {fd_L_same : FuncData} (T : Txt K mg) (O_L_same : Own K mg "_law_same" s_L_same f_L_same fd_L_same ["_law_found", "_law_due"]) : ∀ k : Nat, FnOk P w K mg base CX0 (k + 1) f_L_same fd_L_same ["_law_found", "_law_due"] (spD K 2 (F_L_same k))
  | 0 => fn_none rfl
  | k + 1 => by
    have Gr := ok_L_same T O_L_same k
    exact fn_d O_L_same.fn sc_L_same rfl rfl fun cdv A outer s H E hr => (sb_cons (ss_if (st_truth (se_isi (isi_tuple _) (sv 1) rfl T.n_isinstance boot_isinstance' rfl T.n_tuple boot_tuple')) (sb_cons (ss_if (st_w (sw_or (st_not (st_truth (se_isi (isi_tuple _) (sv 0) rfl T.n_isinstance boot_isinstance' rfl T.n_tuple boot_tuple'))) (sw_or1 (st_cmp (opd_ne (hu64 hr)) (se_len (sv 0) rfl T.n_len boot_len') (se_len (sv 1) rfl T.n_len boot_len') (nomark _))))) (sb_one (ss_ret se_bl)) sb_nil)
      (sb_one (ss_ret (se_all rfl (sq_comp (tgs := ["_law_one", "_law_other"]) (cn := []) (caps := []) rfl ⟨by decide +kernel, rfl, by decide +kernel, free_in (defScope s_L_same).names rfl (by decide +kernel), trivial⟩ (si_zip (sv 0) (sv 1) rfl T.n_zip boot_zip') (glow_tup (gslow_cons (glow_name (by decide)) (gslow_cons (glow_name (by decide)) gslow_nil gmono_name gmono_nil) gmono_name (gmono_cons gmono_name gmono_nil))) (gd_tup (gsd_cons gd_name (gsd_cons gd_name gsd_nil))) (fun _ _ _ _ => (pg_tup rfl (pgs_cons (pg_name (i := 0) nd7 rfl (Or.inl rfl)) (pgs_cons (pg_name (i := 1) nd7 rfl (Or.inl rfl)) pgs_nil)))) (fun _ _ _ _ => sf_nil) (fun _ _ _ _ => (se_call Gr (hr.mono (by omega)) rfl O_L_same.mgf O_L_same.fn.kp O_L_same.b (sa_cons (sv 0) (sa_cons (sv 1) sa_nil)) (len_cons (len_cons len_nil))))) rfl T.n_all boot_all')))) sb_nil)
      (sb_cons (ss_if (st_cmp opd_is (sv 1) se_non (nomark _)) (sb_one (ss_ret (se_cmp opd_is (sv 0) se_non (nomark _)))) sb_nil)
      (sb_cons (ss_if (st_w (sw_or (st_truth (se_isi (isi_bool _) (sv 1) rfl T.n_isinstance boot_isinstance' rfl T.n_bool boot_bool')) (sw_or1 (st_truth (se_isi (isi_bool _) (sv 0) rfl T.n_isinstance boot_isinstance' rfl T.n_bool boot_bool'))))) (sb_one (ss_ret (se_and (se_isi (isi_bool _) (sv 1) rfl T.n_isinstance boot_isinstance' rfl T.n_bool boot_bool') (se_and (se_isi (isi_bool _) (sv 0) rfl T.n_isinstance boot_isinstance' rfl T.n_bool boot_bool') (se_one (se_cmp (opd_eq (hu64 hr)) (sv 0) (sv 1) (nomark _))))))) sb_nil)
      (sb_one (ss_ret (se_and (se_isi2 (isi_int _) (isi_str _) (sv 0) rfl T.n_isinstance boot_isinstance' rfl T.n_int boot_int' rfl T.n_str boot_str') (se_one (se_cmp (opd_eq (hu64 hr)) (sv 0) (sv 1) (nomark _)))))))))
theorem sc_L_known : FnScope ["_law_cell_here", "_law_which_here", "_law_found", "_law_house", "_law_many"] ["_law_cell_here", "_law_which_here"] (defScope s_L_known) := ⟨rfl, rfl, rfl, nd8, rfl, by decide +kernel, by decide +kernel⟩
theorem ok_L_known {f_L_known : Addr} {fd_L_known : FuncData} (T : Txt K mg) (O_L_known : Own K mg "_law_known" s_L_known f_L_known fd_L_known ["_law_cell_here", "_law_which_here"]) {f_L_mix : Addr} {fd_L_mix : FuncData} (O_L_mix : Own K mg "_law_mix" s_L_mix f_L_mix fd_L_mix ["_law_cell_here", "_law_prime", "_law_many"]) (G_L_mix : FnOk P w K mg base CX0 1 f_L_mix fd_L_mix ["_law_cell_here", "_law_prime", "_law_many"] (spD K 3 F_L_mix)) : FnOk P w K mg base CX0 2 f_L_known fd_L_known ["_law_cell_here", "_law_which_here"] (spD K 2 F_L_known) :=
  fn_d (k := 1) O_L_known.fn sc_L_known rfl rfl fun cdv A outer s H E hr => (sb_cons (ss_set (i := 2) nd8 rfl (Or.inl rfl) (se_lst sa_nil))
      (sb_cons (ss_for PassesOwn.never rfl (si_rng1 se_int rfl T.n_range) (pg_name (i := 3) nd8 rfl (Or.inl rfl)) gd_name (sb_cons (ss_set (i := 4) nd8 rfl (Or.inl rfl) (se_call G_L_mix (hr.mono (by omega)) rfl O_L_mix.mgf O_L_mix.fn.kp O_L_mix.b (sa_cons (se_op opd_add (sv 0) (se_op opd_mul se_int (sv 3))) (sa_cons se_int (sa_cons se_int sa_nil))) (len_cons (len_cons (len_cons len_nil)))))
      (sb_cons (ss_if (st_cmp (opd_eq (hu64 hr)) (sv 3) (se_ix (hu64 hr) (sv 1) se_int) (nomark _)) (sb_one (ss_set (i := 4) nd8 rfl (Or.inl rfl) (se_op opd_add (sv 4) (se_ix (hu64 hr) (sv 1) se_int)))) sb_nil)
      (sb_one (ss_if (st_cmp opd_gt (sv 4) se_int (nomark _)) (sb_one (ss_expr (se_append (sv 2) (se_tup (sa_cons (sv 3) (sa_cons (sv 4) sa_nil)))))) sb_nil)))))
      (sb_one (ss_ret (se_tupV (sv 2) rfl T.n_tuple boot_tuple')))))
theorem sc_law : FnScope ["_law_script", "_law_k", "_law_cell_here", "_law_one", "_law_other", "_law_counts", "_law_house", "_law_most", "_law_count", "_law_theirs", "_law_due", "_law_back", "_law_at"] ["_law_script"] (defScope s_law) := ⟨rfl, rfl, rfl, nd9, rfl, by decide +kernel, by decide +kernel⟩
theorem ok_law {f_law : Addr} {fd_law : FuncData} (T : Txt K mg) (O_law : Own K mg "law" s_law f_law fd_law ["_law_script"]) {f_is_within : Addr} {fd_is_within : FuncData} (O_is_within : Own K mg "is_within" s_is_within f_is_within fd_is_within ["mark", "known"]) (G_is_within : FnOk P w K mg base CX0 1 f_is_within fd_is_within ["mark", "known"] (spD K 2 F_is_within)) {f_has_heard : Addr} {fd_has_heard : FuncData} (O_has_heard : Own K mg "has_heard" s_has_heard f_has_heard fd_has_heard ["known", "other"]) (G_has_heard : FnOk P w K mg base CX0 2 f_has_heard fd_has_heard ["known", "other"] (spD K 2 F_has_heard)) {f_L_cell : Addr} {fd_L_cell : FuncData} (O_L_cell : Own K mg "_law_cell" s_L_cell f_L_cell fd_L_cell ["_law_script", "_law_k"]) (G_L_cell : FnOk P w K mg base CX0 1 f_L_cell fd_L_cell ["_law_script", "_law_k"] (spD K 2 F_L_cell)) {f_L_mix : Addr} {fd_L_mix : FuncData} (O_L_mix : Own K mg "_law_mix" s_L_mix f_L_mix fd_L_mix ["_law_cell_here", "_law_prime", "_law_many"]) (G_L_mix : FnOk P w K mg base CX0 1 f_L_mix fd_L_mix ["_law_cell_here", "_law_prime", "_law_many"] (spD K 3 F_L_mix)) {f_L_which : Addr} {fd_L_which : FuncData} (O_L_which : Own K mg "_law_which" s_L_which f_L_which fd_L_which ["_law_cell_here"]) (G_L_which : FnOk P w K mg base CX0 2 f_L_which fd_L_which ["_law_cell_here"] (spD K 1 F_L_which)) {f_L_same : Addr} {fd_L_same : FuncData} (O_L_same : Own K mg "_law_same" s_L_same f_L_same fd_L_same ["_law_found", "_law_due"]) (G_L_same : FnOk P w K mg base CX0 13 f_L_same fd_L_same ["_law_found", "_law_due"] (spD K 2 (F_L_same 12))) {f_L_known : Addr} {fd_L_known : FuncData} (O_L_known : Own K mg "_law_known" s_L_known f_L_known fd_L_known ["_law_cell_here", "_law_which_here"]) (G_L_known : FnOk P w K mg base CX0 2 f_L_known fd_L_known ["_law_cell_here", "_law_which_here"] (spD K 2 F_L_known)) : FnOk P w K mg base CX0 14 f_law fd_law ["_law_script"] (spD K 1 F_law) :=
  fn_d (k := 13) O_law.fn sc_law rfl rfl fun cdv A outer s H E hr => (sb_cons (ss_for PassesOwn.never rfl (si_rng1 se_int rfl T.n_range) (pg_name (i := 1) nd9 rfl (Or.inl rfl)) gd_name (sb_cons (ss_set (i := 2) nd9 rfl (Or.inl rfl) (se_call G_L_cell (hr.mono (by omega)) rfl O_L_cell.mgf O_L_cell.fn.kp O_L_cell.b (sa_cons (sv 0) (sa_cons (sv 1) sa_nil)) (len_cons (len_cons len_nil))))
      (sb_cons (ss_set (i := 3) nd9 rfl (Or.inl rfl) (se_call G_L_known (hr.mono (by omega)) rfl O_L_known.mgf O_L_known.fn.kp O_L_known.b (sa_cons (sv 2) (sa_cons (se_call G_L_which (hr.mono (by omega)) rfl O_L_which.mgf O_L_which.fn.kp O_L_which.b (sa_cons (sv 2) sa_nil) (len_cons len_nil)) sa_nil)) (len_cons (len_cons len_nil))))
      (sb_cons (ss_set (i := 4) nd9 rfl (Or.inl rfl) (se_call G_L_known (hr.mono (by omega)) rfl O_L_known.mgf O_L_known.fn.kp O_L_known.b (sa_cons (se_op opd_add (sv 2) se_int) (sa_cons (se_call G_L_which (hr.mono (by omega)) rfl O_L_which.mgf O_L_which.fn.kp O_L_which.b (sa_cons (se_call G_L_cell (hr.mono (by omega)) rfl O_L_cell.mgf O_L_cell.fn.kp O_L_cell.b (sa_cons (sv 0) (sa_cons (se_op opd_add (sv 1) se_int) sa_nil)) (len_cons (len_cons len_nil))) sa_nil) (len_cons len_nil)) sa_nil)) (len_cons (len_cons len_nil))))
      (sb_cons (ss_set (i := 5) nd9 rfl (Or.inr rfl) (se_dictP rfl (sv 3) rfl T.n_dict boot_dict'))
      (sb_cons (ss_for PassesOwn.never rfl (si_rng1 se_int rfl T.n_range) (pg_name (i := 6) nd9 rfl (Or.inl rfl)) gd_name (sb_cons (ss_set (i := 7) nd9 rfl (Or.inl rfl) (se_get2 (hu64 hr) (sv 5) (sv 6) se_int))
      (sb_one (ss_for PassesOwn.never rfl (si_of (se_tup (sa_cons se_int (sa_cons (se_op opd_sub (sv 7) se_int) (sa_cons (sv 7) (sa_cons (se_op opd_add (sv 7) se_int) (sa_cons (se_op opd_add (sv 7) se_int) sa_nil))))))) (pg_name (i := 8) nd9 rfl (Or.inl rfl)) gd_name (sb_cons (ss_if (st_w (sw_and (st_cmp opd_gt (sv 8) se_int (nomark _)) (sw_and (st_cmp opd_le (sv 8) (sv 7) (nomark _)) (sw_and1 (st_cmp opd_isNot (se_call G_is_within (hr.mono (by omega)) rfl O_is_within.mgf O_is_within.fn.kp O_is_within.b (sa_cons (se_tup (sa_cons (sv 6) (sa_cons (sv 8) sa_nil))) (sa_cons (sv 3) sa_nil)) (len_cons (len_cons len_nil))) se_bl (nomark _)))))) (sb_one (ss_ret se_bl)) sb_nil)
      (sb_one (ss_if (st_w (sw_and (st_cmp opd_gt (sv 8) (sv 7) (nomark _)) (sw_and1 (st_cmp opd_isNot (se_call G_is_within (hr.mono (by omega)) rfl O_is_within.mgf O_is_within.fn.kp O_is_within.b (sa_cons (se_tup (sa_cons (sv 6) (sa_cons (sv 8) sa_nil))) (sa_cons (sv 3) sa_nil)) (len_cons (len_cons len_nil))) se_bl (nomark _))))) (sb_one (ss_ret se_bl)) sb_nil)))))))
      (sb_cons (ss_set (i := 9) nd9 rfl (Or.inr rfl) (se_dictP rfl (sv 4) rfl T.n_dict boot_dict'))
      (sb_cons (ss_set (i := 10) nd9 rfl (Or.inl rfl) (se_all rfl (sq_comp (tgs := ["_law_house"]) (cn := ["_law_counts", "_law_theirs"]) (caps := [5, 9]) rfl ⟨by decide +kernel, rfl, by decide +kernel, free_in (defScope s_law).names rfl (by decide +kernel), ⟨⟨rfl, .inl rfl, rfl⟩, ⟨⟨rfl, .inl rfl, rfl⟩, trivial⟩⟩⟩ (si_of (sv 9)) (glow_name (by decide)) gd_name (fun _ _ _ _ => (pg_name (i := 0) nd10 rfl (Or.inl rfl))) (fun _ _ _ _ => sf_nil) (fun _ _ _ _ => (se_cmp opd_le (se_ix (hu64 hr) (sv 2) (sv 0)) (se_get2 (hu64 hr) (sv 1) (sv 0) se_int) (nomark _)))) rfl T.n_all boot_all'))
      (sb_cons (ss_set (i := 11) nd9 rfl (Or.inl rfl) (se_all rfl (sq_comp (tgs := ["_law_house"]) (cn := ["_law_counts", "_law_theirs"]) (caps := [5, 9]) rfl ⟨by decide +kernel, rfl, by decide +kernel, free_in (defScope s_law).names rfl (by decide +kernel), ⟨⟨rfl, .inl rfl, rfl⟩, ⟨⟨rfl, .inl rfl, rfl⟩, trivial⟩⟩⟩ (si_of (sv 5)) (glow_name (by decide)) gd_name (fun _ _ _ _ => (pg_name (i := 0) nd10 rfl (Or.inl rfl))) (fun _ _ _ _ => sf_nil) (fun _ _ _ _ => (se_cmp opd_le (se_ix (hu64 hr) (sv 1) (sv 0)) (se_get2 (hu64 hr) (sv 2) (sv 0) se_int) (nomark _)))) rfl T.n_all boot_all'))
      (sb_cons (ss_if (st_not (st_truth (se_call G_L_same (hr.mono (by omega)) rfl O_L_same.mgf O_L_same.fn.kp O_L_same.b (sa_cons (se_tup (sa_cons (se_call G_has_heard (hr.mono (by omega)) rfl O_has_heard.mgf O_has_heard.fn.kp O_has_heard.b (sa_cons (sv 3) (sa_cons (sv 4) sa_nil)) (len_cons (len_cons len_nil))) (sa_cons (se_call G_has_heard (hr.mono (by omega)) rfl O_has_heard.mgf O_has_heard.fn.kp O_has_heard.b (sa_cons (sv 4) (sa_cons (sv 3) sa_nil)) (len_cons (len_cons len_nil))) sa_nil))) (sa_cons (se_tup (sa_cons (sv 10) (sa_cons (sv 11) sa_nil))) sa_nil)) (len_cons (len_cons len_nil))))) (sb_one (ss_ret se_bl)) sb_nil)
      (sb_cons (ss_if (st_w (sw_or (st_cmp opd_isNot (se_call G_has_heard (hr.mono (by omega)) rfl O_has_heard.mgf O_has_heard.fn.kp O_has_heard.b (sa_cons (sv 3) (sa_cons (sv 3) sa_nil)) (len_cons (len_cons len_nil))) se_bl (nomark _)) (sw_or (st_cmp opd_isNot (se_call G_has_heard (hr.mono (by omega)) rfl O_has_heard.mgf O_has_heard.fn.kp O_has_heard.b (sa_cons (sv 3) (sa_cons (se_tup sa_nil) sa_nil)) (len_cons (len_cons len_nil))) se_bl (nomark _)) (sw_or1 (st_cmp opd_isNot (se_call G_has_heard (hr.mono (by omega)) rfl O_has_heard.mgf O_has_heard.fn.kp O_has_heard.b (sa_cons (se_tup sa_nil) (sa_cons (sv 3) sa_nil)) (len_cons (len_cons len_nil))) se_bl (nomark _)))))) (sb_one (ss_ret se_bl)) sb_nil)
      (sb_cons (ss_set (i := 12) nd9 rfl (Or.inl rfl) (se_call G_L_mix (hr.mono (by omega)) rfl O_L_mix.mgf O_L_mix.fn.kp O_L_mix.b (sa_cons (sv 2) (sa_cons se_int (sa_cons (se_len (sv 3) rfl T.n_len boot_len') sa_nil))) (len_cons (len_cons (len_cons len_nil)))))
      (sb_cons (ss_asg (se_ix (hu64 hr) (sv 3) (sv 12)) (pg_tup rfl (pgs_cons (pg_name (i := 6) nd9 rfl (Or.inl rfl)) (pgs_cons (pg_name (i := 7) nd9 rfl (Or.inl rfl)) pgs_nil))) (gd_tup (gsd_cons gd_name (gsd_cons gd_name gsd_nil))))
      (sb_cons (ss_if (st_cmp opd_isNot (se_call G_has_heard (hr.mono (by omega)) rfl O_has_heard.mgf O_has_heard.fn.kp O_has_heard.b (sa_cons (se_op opd_add (se_op opd_add (se_slice (sv 3) so_none (so_some (sv 12))) (se_tup (sa_cons (se_tup (sa_cons (sv 6) (sa_cons (se_op opd_add (sv 7) se_int) sa_nil))) sa_nil))) (se_slice (sv 3) (so_some (se_op opd_add (sv 12) se_int)) so_none)) (sa_cons (sv 3) sa_nil)) (len_cons (len_cons len_nil))) se_bl (nomark _)) (sb_one (ss_ret se_bl)) sb_nil)
      (sb_one (ss_if (st_cmp opd_isNot (se_call G_has_heard (hr.mono (by omega)) rfl O_has_heard.mgf O_has_heard.fn.kp O_has_heard.b (sa_cons (sv 3) (sa_cons (se_op opd_add (se_op opd_add (se_slice (sv 3) so_none (so_some (sv 12))) (se_tup (sa_cons (se_tup (sa_cons (sv 6) (sa_cons (se_op opd_add (sv 7) se_int) sa_nil))) sa_nil))) (se_slice (sv 3) (so_some (se_op opd_add (sv 12) se_int)) so_none)) sa_nil)) (len_cons (len_cons len_nil))) se_bl (nomark _)) (sb_one (ss_ret se_bl)) sb_nil))))))))))))))))
      (sb_one (ss_ret se_bl)))
end
/-! the top -/
theorem all_mk {l : PySem.W.OpenLaw} {w : World} {K : PySem.W.Frag} {h : Heap} {mg : Str → Option Value} {fa : Addr} (X : K.In h) (G : h.Ns mainGlobals mg) (hfa : mg "law" = some (.ref fa))
    {od0 an0 : Option Addr} {sl0 : Array (Option Value)} {oc0 kV0 dc0 pm0 cd0 ct0 : Value} {f0 : Addr}
    {od1 an1 : Option Addr} {sl1 : Array (Option Value)} {oc1 kV1 dc1 pm1 cd1 ct1 : Value} {f1 : Addr}
    {od2 an2 : Option Addr} {sl2 : Array (Option Value)} {oc2 kV2 dc2 pm2 cd2 ct2 : Value} {f2 : Addr}
    {od3 an3 : Option Addr} {sl3 : Array (Option Value)} {oc3 kV3 dc3 pm3 cd3 ct3 : Value} {f3 : Addr}
    {od4 an4 : Option Addr} {sl4 : Array (Option Value)} {oc4 kV4 dc4 pm4 cd4 ct4 : Value} {f4 : Addr}
    {od5 an5 : Option Addr} {sl5 : Array (Option Value)} {oc5 kV5 dc5 pm5 cd5 ct5 : Value} {f5 : Addr}
    {od6 an6 : Option Addr} {sl6 : Array (Option Value)} {oc6 kV6 dc6 pm6 cd6 ct6 : Value} {f6 : Addr}
    {od7 an7 : Option Addr} {sl7 : Array (Option Value)} {oc7 kV7 dc7 pm7 cd7 ct7 : Value} {f7 : Addr}
    (a0 : PySem.W.nsIn K mainGlobals "is_within" = some (some (.ref f0))) (l0 : K.lookup f0 = some ⟨oc0, od0, .func (PySem.W.fnOf "is_within" "is_within" (defArgs s_is_within) (defBody s_is_within) (defScope s_is_within) .none kV0 dc0 pm0 an0 cd0 ct0), sl0⟩) (c0 : PySem.W.codeIn K cd0 "is_within" = true) (k0 : PySem.W.keepIn K (.ref f0) = true)
    (a1 : PySem.W.nsIn K mainGlobals "has_heard" = some (some (.ref f1))) (l1 : K.lookup f1 = some ⟨oc1, od1, .func (PySem.W.fnOf "has_heard" "has_heard" (defArgs s_has_heard) (defBody s_has_heard) (defScope s_has_heard) .none kV1 dc1 pm1 an1 cd1 ct1), sl1⟩) (c1 : PySem.W.codeIn K cd1 "has_heard" = true) (k1 : PySem.W.keepIn K (.ref f1) = true)
    (a2 : PySem.W.nsIn K mainGlobals "_law_cell" = some (some (.ref f2))) (l2 : K.lookup f2 = some ⟨oc2, od2, .func (PySem.W.fnOf "_law_cell" "_law_cell" (defArgs s_L_cell) (defBody s_L_cell) (defScope s_L_cell) .none kV2 dc2 pm2 an2 cd2 ct2), sl2⟩) (c2 : PySem.W.codeIn K cd2 "_law_cell" = true) (k2 : PySem.W.keepIn K (.ref f2) = true)
    (a3 : PySem.W.nsIn K mainGlobals "_law_mix" = some (some (.ref f3))) (l3 : K.lookup f3 = some ⟨oc3, od3, .func (PySem.W.fnOf "_law_mix" "_law_mix" (defArgs s_L_mix) (defBody s_L_mix) (defScope s_L_mix) .none kV3 dc3 pm3 an3 cd3 ct3), sl3⟩) (c3 : PySem.W.codeIn K cd3 "_law_mix" = true) (k3 : PySem.W.keepIn K (.ref f3) = true)
    (a4 : PySem.W.nsIn K mainGlobals "_law_which" = some (some (.ref f4))) (l4 : K.lookup f4 = some ⟨oc4, od4, .func (PySem.W.fnOf "_law_which" "_law_which" (defArgs s_L_which) (defBody s_L_which) (defScope s_L_which) .none kV4 dc4 pm4 an4 cd4 ct4), sl4⟩) (c4 : PySem.W.codeIn K cd4 "_law_which" = true) (k4 : PySem.W.keepIn K (.ref f4) = true)
    (a5 : PySem.W.nsIn K mainGlobals "_law_same" = some (some (.ref f5))) (l5 : K.lookup f5 = some ⟨oc5, od5, .func (PySem.W.fnOf "_law_same" "_law_same" (defArgs s_L_same) (defBody s_L_same) (defScope s_L_same) .none kV5 dc5 pm5 an5 cd5 ct5), sl5⟩) (c5 : PySem.W.codeIn K cd5 "_law_same" = true) (k5 : PySem.W.keepIn K (.ref f5) = true)
    (a6 : PySem.W.nsIn K mainGlobals "_law_known" = some (some (.ref f6))) (l6 : K.lookup f6 = some ⟨oc6, od6, .func (PySem.W.fnOf "_law_known" "_law_known" (defArgs s_L_known) (defBody s_L_known) (defScope s_L_known) .none kV6 dc6 pm6 an6 cd6 ct6), sl6⟩) (c6 : PySem.W.codeIn K cd6 "_law_known" = true) (k6 : PySem.W.keepIn K (.ref f6) = true)
    (a7 : PySem.W.nsIn K mainGlobals "law" = some (some (.ref f7))) (l7 : K.lookup f7 = some ⟨oc7, od7, .func (PySem.W.fnOf "law" "law" (defArgs s_law) (defBody s_law) (defScope s_law) .none kV7 dc7 pm7 an7 cd7 ct7), sl7⟩) (c7 : PySem.W.codeIn K cd7 "law" = true) (k7 : PySem.W.keepIn K (.ref f7) = true)
    (z_all : PySem.W.nsIn K mainGlobals "all" = some none)
    (z_any : PySem.W.nsIn K mainGlobals "any" = some none)
    (z_bool : PySem.W.nsIn K mainGlobals "bool" = some none)
    (z_dict : PySem.W.nsIn K mainGlobals "dict" = some none)
    (z_int : PySem.W.nsIn K mainGlobals "int" = some none)
    (z_isinstance : PySem.W.nsIn K mainGlobals "isinstance" = some none)
    (z_len : PySem.W.nsIn K mainGlobals "len" = some none)
    (z_range : PySem.W.nsIn K mainGlobals "range" = some none)
    (z_str : PySem.W.nsIn K mainGlobals "str" = some none)
    (z_tuple : PySem.W.nsIn K mainGlobals "tuple" = some none)
    (z_zip : PySem.W.nsIn K mainGlobals "zip" = some none) :
    ∃ fd : FuncData, (∀ (s : Shared) (v : Value), BindsTo s fd ⟨[v], []⟩ [("_law_script", v)]) ∧ ∀ base : Heap, K.In base → base.Ns mainGlobals mg → FnOk l.prog w K mg base CX0 14 fa fd ["_law_script"] (spD K 1 F_law) := by
  have e := hfa.symm.trans (PySem.W.mg_of X G a7)
  cases e
  have T : Txt K mg := ⟨PySem.W.mg_none_of X G z_all, PySem.W.mg_none_of X G z_any, PySem.W.mg_none_of X G z_bool, PySem.W.mg_none_of X G z_dict, PySem.W.mg_none_of X G z_int, PySem.W.mg_none_of X G z_isinstance, PySem.W.mg_none_of X G z_len, PySem.W.mg_none_of X G z_range, PySem.W.mg_none_of X G z_str, PySem.W.mg_none_of X G z_tuple, PySem.W.mg_none_of X G z_zip⟩
  have Fn0 := fun_mk (st := s_is_within) l0 c0 k0
  have O_is_within : Own K mg "is_within" s_is_within _ _ ["mark", "known"] := ⟨Fn0, PySem.W.mg_of X G a0, Fn0.binds (ps := ["mark", "known"]) fun _ _ _ _ _ _ us hl => match us, hl with | [_, _], _ => rfl⟩
  have Fn1 := fun_mk (st := s_has_heard) l1 c1 k1
  have O_has_heard : Own K mg "has_heard" s_has_heard _ _ ["known", "other"] := ⟨Fn1, PySem.W.mg_of X G a1, Fn1.binds (ps := ["known", "other"]) fun _ _ _ _ _ _ us hl => match us, hl with | [_, _], _ => rfl⟩
  have Fn2 := fun_mk (st := s_L_cell) l2 c2 k2
  have O_L_cell : Own K mg "_law_cell" s_L_cell _ _ ["_law_script", "_law_k"] := ⟨Fn2, PySem.W.mg_of X G a2, Fn2.binds (ps := ["_law_script", "_law_k"]) fun _ _ _ _ _ _ us hl => match us, hl with | [_, _], _ => rfl⟩
  have Fn3 := fun_mk (st := s_L_mix) l3 c3 k3
  have O_L_mix : Own K mg "_law_mix" s_L_mix _ _ ["_law_cell_here", "_law_prime", "_law_many"] := ⟨Fn3, PySem.W.mg_of X G a3, Fn3.binds (ps := ["_law_cell_here", "_law_prime", "_law_many"]) fun _ _ _ _ _ _ us hl => match us, hl with | [_, _, _], _ => rfl⟩
  have Fn4 := fun_mk (st := s_L_which) l4 c4 k4
  have O_L_which : Own K mg "_law_which" s_L_which _ _ ["_law_cell_here"] := ⟨Fn4, PySem.W.mg_of X G a4, Fn4.binds (ps := ["_law_cell_here"]) fun _ _ _ _ _ _ us hl => match us, hl with | [_], _ => rfl⟩
  have Fn5 := fun_mk (st := s_L_same) l5 c5 k5
  have O_L_same : Own K mg "_law_same" s_L_same _ _ ["_law_found", "_law_due"] := ⟨Fn5, PySem.W.mg_of X G a5, Fn5.binds (ps := ["_law_found", "_law_due"]) fun _ _ _ _ _ _ us hl => match us, hl with | [_, _], _ => rfl⟩
  have Fn6 := fun_mk (st := s_L_known) l6 c6 k6
  have O_L_known : Own K mg "_law_known" s_L_known _ _ ["_law_cell_here", "_law_which_here"] := ⟨Fn6, PySem.W.mg_of X G a6, Fn6.binds (ps := ["_law_cell_here", "_law_which_here"]) fun _ _ _ _ _ _ us hl => match us, hl with | [_, _], _ => rfl⟩
  have Fn7 := fun_mk (st := s_law) l7 c7 k7
  have O_law : Own K mg "law" s_law _ _ ["_law_script"] := ⟨Fn7, PySem.W.mg_of X G a7, Fn7.binds (ps := ["_law_script"]) fun _ _ _ _ _ _ us hl => match us, hl with | [_], _ => rfl⟩
  refine ⟨PySem.W.fnOf "law" "law" (defArgs s_law) (defBody s_law) (defScope s_law) .none kV7 dc7 pm7 an7 cd7 ct7, fun s v => .of_eq rfl, fun base _ _ => ?_⟩
  have G_is_within := ok_is_within (P := l.prog) (w := w) (base := base) T O_is_within
  have G_has_heard := ok_has_heard (P := l.prog) (w := w) (base := base) T O_has_heard O_is_within G_is_within
  have G_L_cell := ok_L_cell (P := l.prog) (w := w) (base := base) T O_L_cell
  have G_L_mix := ok_L_mix (P := l.prog) (w := w) (base := base) T O_L_mix
  have G_L_which := ok_L_which (P := l.prog) (w := w) (base := base) T O_L_which O_L_mix G_L_mix
  have G_L_same := ok_L_same (P := l.prog) (w := w) (base := base) T O_L_same 12
  have G_L_known := ok_L_known (P := l.prog) (w := w) (base := base) T O_L_known O_L_mix G_L_mix
  exact ok_law T O_law O_is_within G_is_within O_has_heard G_has_heard O_L_cell G_L_cell O_L_mix G_L_mix O_L_which G_L_which O_L_same G_L_same O_L_known G_L_known
end K02
namespace K02
open PySem L2 DL
theorem mix_ev {c p m : Int} {S : Sto} (hp : 0 < p) (hm : 0 < m) : F_L_mix [.int c, .int p, .int m] S = some (.int (c * 48271 % p % m), S) := by
  unfold F_L_mix
  simp only [EVS, Nat.reduceAdd, Nat.reduceSub, Nat.reduceLT, Nat.reduceLeDiff, Int.reduceLT, Int.reduceLE, Int.reduceNeg, Int.reducePow, Int.reduceToNat, ↓reduceIte, reduceCtorEq, List.map_cons, List.map_nil, Option.map_some, g_mulR, g_modI, hp, hm]
theorem cell_ev (ns : List Int) (k : Nat) : ∃ c : Int, ∀ S, F_L_cell [.scr ns, .int k] S = some (.int c, S) := by
  by_cases h : k < ns.length
  · refine ⟨ns[k], fun S => ?_⟩
    unfold F_L_cell
    simp only [EVS, Nat.reduceAdd, Nat.reduceSub, Nat.reduceLT, Nat.reduceLeDiff, Int.reduceLT, Int.reduceLE, Int.reduceNeg, Int.reducePow, Int.reduceToNat, ↓reduceIte, reduceCtorEq, List.map_cons, List.map_nil, Option.map_some, k_len, lenD, Int.ofNat_lt, h, gIx, atI_nat (List.getElem?_eq_getElem h)]
  · refine ⟨0, fun S => ?_⟩
    unfold F_L_cell
    simp only [EVS, Nat.reduceAdd, Nat.reduceSub, Nat.reduceLT, Nat.reduceLeDiff, Int.reduceLT, Int.reduceLE, Int.reduceNeg, Int.reducePow, Int.reduceToNat, ↓reduceIte, reduceCtorEq, List.map_cons, List.map_nil, Option.map_some, k_len, lenD, Int.ofNat_lt, h]
/-! marks as pairs -/
abbrev Mk := Int × Int
def enc (p : Mk) : D := .tup [.int p.1, .int p.2]
def encP (p : Mk) : D × D := (.int p.1, .int p.2)
def within (ms : List Mk) (q : Mk) : Bool := ms.any fun p => decide (p.1 = q.1) && decide (q.2 ≤ p.2)
theorem any_id {α : Type} (f : α → Bool) (l : List α) : (l.map f).any id = l.any f := by rw [List.any_map]; rfl
theorem all_id {α : Type} (f : α → Bool) (l : List α) : (l.map f).all id = l.all f := by rw [List.all_map]; rfl
theorem within_ev {h n : Int} {ms : List Mk} {S : Sto} (hl : ms.length ≤ sizeLine) : F_is_within [.tup [.int h, .int n], .tup (ms.map enc)] S = some (.bl (within ms (h, n)), S) := by
  unfold F_is_within
  simp only [EVS, Nat.reduceAdd, Nat.reduceSub, Nat.reduceLT, Nat.reduceLeDiff, Int.reduceLT, Int.reduceLE, Int.reduceNeg, Int.reducePow, Int.reduceToNat, ↓reduceIte, reduceCtorEq, List.map_cons, List.map_nil, Option.map_some]
  rw [comp_all ms enc (fun p => D.bl (decide (p.1 = h) && decide (n ≤ p.2))) gdOk_none hl fun p hp => ⟨_, rfl, ?_⟩]
  · have e : ms.map (fun p => D.bl (decide (p.1 = h) && decide (n ≤ p.2))) = (ms.map fun p => (decide (p.1 = h) && decide (n ≤ p.2))).map D.bl := by rw [List.map_map]; rfl
    rw [e, k_any, any_id]
    simp only [EVS, Nat.reduceAdd, Nat.reduceSub, Nat.reduceLT, Nat.reduceLeDiff, Int.reduceLT, Int.reduceLE, Int.reduceNeg, Int.reducePow, Int.reduceToNat, ↓reduceIte, reduceCtorEq, List.map_cons, List.map_nil, Option.map_some, within]
  · simp only [e_is_within_0, EVS, Nat.reduceAdd, Nat.reduceSub, Nat.reduceLT, Nat.reduceLeDiff, Int.reduceLT, Int.reduceLE, Int.reduceNeg, Int.reducePow, Int.reduceToNat, ↓reduceIte, reduceCtorEq, List.map_cons, List.map_nil, Option.map_some, enc]
    by_cases q : p.1 = h <;> simp [q]
theorem heard_ev {ms os : List Mk} {S : Sto} (hl : ms.length ≤ sizeLine) (ho : os.length ≤ sizeLine) : F_has_heard [.tup (ms.map enc), .tup (os.map enc)] S = some (.bl (os.all (within ms)), S) := by
  unfold F_has_heard
  simp only [EVS, Nat.reduceAdd, Nat.reduceSub, Nat.reduceLT, Nat.reduceLeDiff, Int.reduceLT, Int.reduceLE, Int.reduceNeg, Int.reducePow, Int.reduceToNat, ↓reduceIte, reduceCtorEq, List.map_cons, List.map_nil, Option.map_some]
  rw [comp_all os enc (fun p => D.bl (within ms p)) gdOk_none ho fun p hp => ⟨_, rfl, ?_⟩]
  · have e : os.map (fun p => D.bl (within ms p)) = (os.map (within ms)).map D.bl := by rw [List.map_map]; rfl
    rw [e, k_all, all_id]
    simp only [EVS, Nat.reduceAdd, Nat.reduceSub, Nat.reduceLT, Nat.reduceLeDiff, Int.reduceLT, Int.reduceLE, Int.reduceNeg, Int.reducePow, Int.reduceToNat, ↓reduceIte, reduceCtorEq, List.map_cons, List.map_nil, Option.map_some]
  · simp only [e_has_heard_0, EVS, Nat.reduceAdd, Nat.reduceSub, Nat.reduceLT, Nat.reduceLeDiff, Int.reduceLT, Int.reduceLE, Int.reduceNeg, Int.reducePow, Int.reduceToNat, ↓reduceIte, reduceCtorEq, List.map_cons, List.map_nil, Option.map_some, enc]
    exact within_ev hl
theorem which_ev (c : Int) : ∃ w : Nat, ∃ n : Int, w < 6 ∧ 1 ≤ n ∧ ∀ S, F_L_which [.int c] S = some (.tup [.int w, .int n], S) := by
  have a0 := Int.emod_nonneg (c * 48271 % 9871) (b := 6) (by decide)
  have a1 := Int.emod_lt_of_pos (c * 48271 % 9871) (b := 6) (by decide)
  have b0 := Int.emod_nonneg (c * 48271 % 9859) (b := 4) (by decide)
  have c0 := Int.emod_nonneg c (b := 2) (by decide)
  obtain ⟨w, hw⟩ := Int.eq_ofNat_of_zero_le a0
  refine ⟨w, 1 + c * 48271 % 9859 % 4 + 9 * (c % 2), by omega, by omega, fun S => ?_⟩
  unfold F_L_which
  simp only [EVS, Nat.reduceAdd, Nat.reduceSub, Nat.reduceLT, Nat.reduceLeDiff, Int.reduceLT, Int.reduceLE, Int.reduceNeg, Int.reducePow, Int.reduceToNat, ↓reduceIte, reduceCtorEq, List.map_cons, List.map_nil, Option.map_some, mix_ev, g_modI, g_mulL, hw, show (0 : Int) < 9871 by decide, show (0 : Int) < 9859 by decide, show (0 : Int) < 6 by decide, show (0 : Int) < 4 by decide, show (0 : Int) < 2 by decide]
/-! the marks that are known -/
def kn (f : Nat → Int) (l : List Nat) : List Mk := (l.filter fun h => decide (0 < f h)).map fun h : Nat => ((h : Int), f h)
theorem kn_len (f : Nat → Int) (l : List Nat) : (kn f l).length ≤ l.length := by unfold kn; rw [List.length_map]; exact List.length_filter_le ..
theorem kn_snoc (f : Nat → Int) (l : List Nat) (h : Nat) : kn f (l ++ [h]) = if 0 < f h then kn f l ++ [((h : Int), f h)] else kn f l := by
  unfold kn
  rw [List.filter_append, List.map_append]
  by_cases q : 0 < f h <;> simp [q]
theorem low_enc (n : Nat) (ms : List Mk) : lowD n (D.tup (ms.map enc)) = true := by
  unfold lowD
  induction ms with
  | nil => unfold lowDs; rfl
  | cons p ms ih =>
    rw [List.map_cons]
    unfold lowDs
    rw [ih, Bool.and_true]
    unfold enc lowD lowDs lowD lowDs lowD lowDs
    rfl
theorem known_ev (c : Int) (w : Nat) (n : Int) (hw : w < 6) (hn : 1 ≤ n) : ∃ f : Nat → Int, (∀ h, 0 ≤ f h) ∧ 0 < f w ∧ ∀ S, F_L_known [.int c, .tup [.int w, .int n]] S = some (.tup ((kn f (List.range 6)).map enc), S) := by
  refine ⟨fun h => (c + 31 * (h : Int)) * 48271 % 9907 % 3 + (if h = w then n else 0), fun h => ?_, ?_, fun S => ?_⟩
  · have := Int.emod_nonneg ((c + 31 * (h : Int)) * 48271 % 9907) (b := 3) (by decide)
    dsimp only
    split <;> omega
  · have := Int.emod_nonneg ((c + 31 * (w : Int)) * 48271 % 9907) (b := 3) (by decide)
    dsimp only
    rw [if_pos rfl]
    omega
  · generalize hf : (fun h : Nat => (c + 31 * (h : Int)) * 48271 % 9907 % 3 + (if h = w then n else 0)) = f
    have hfx : ∀ h : Nat, f h = (c + 31 * (h : Int)) * 48271 % 9907 % 3 + (if h = w then n else 0) := fun h => by rw [← hf]
    have hS0 : ∀ S : Sto, lowD S.length (D.tup ((kn f (List.range 6)).map enc)) = true := fun S => low_enc _ _
    let P : List Nat → En → Sto → Prop := fun pre en S' => ∃ x3 x4, en = [some (.int c), some (.tup [.int w, .int n]), some (.ref S.length), x3, x4] ∧ S' = S ++ [.lst ((kn f pre).map enc)]
    have step : ∀ (pre : List Nat) (k : Nat) (post : List Nat) (en : En) (S1 : Sto), List.range 6 = pre ++ k :: post → P pre en S1 → ∃ en1, gN 3 (D.int (k : Nat)) en = some en1 ∧ ∃ en2 S2, b_L_known_0 en1 S1 = some (.nx, en2, S2) ∧ P (pre ++ [k]) en2 S2 := by
      intro pre k post en S1 hpre hP
      obtain ⟨x3, x4, rfl, rfl⟩ := hP
      refine ⟨_, rfl, ?_⟩
      have hlen : (kn f pre).length < sizeLine := by
        have h1 := kn_len f pre
        have h2 := congrArg List.length hpre
        simp at h2
        exact Nat.lt_of_le_of_lt (show (kn f pre).length ≤ 6 by omega) (by decide)
      have hfk := hfx k
      have q1 : (0 : Int) < 9907 := by decide
      have q2 : (0 : Int) < 3 := by decide
      by_cases hk : k = w
      · subst hk
        rw [if_pos rfl] at hfk
        by_cases hp : 0 < f k
        · refine ⟨[some (.int c), some (.tup [.int (k : Nat), .int n]), some (.ref S.length), some (.int (k : Nat)), some (.int (f k))], _, ?_, _, _, rfl, rfl⟩
          rw [kn_snoc, if_pos hp, List.map_append]
          simp only [b_L_known_0, EVS, Nat.reduceAdd, Nat.reduceSub, Nat.reduceLT, Nat.reduceLeDiff, Int.reduceLT, Int.reduceLE, Int.reduceNeg, Int.reducePow, Int.reduceToNat, ↓reduceIte, reduceCtorEq, List.map_cons, List.map_nil, Option.map_some, g_mulL, mix_ev, q1, q2, ← hfk, hp, c_app2E, List.length_map, hlen] <;> rfl
        · refine ⟨[some (.int c), some (.tup [.int (k : Nat), .int n]), some (.ref S.length), some (.int (k : Nat)), some (.int (f k))], _, ?_, _, _, rfl, rfl⟩
          rw [kn_snoc, if_neg hp]
          simp only [b_L_known_0, EVS, Nat.reduceAdd, Nat.reduceSub, Nat.reduceLT, Nat.reduceLeDiff, Int.reduceLT, Int.reduceLE, Int.reduceNeg, Int.reducePow, Int.reduceToNat, ↓reduceIte, reduceCtorEq, List.map_cons, List.map_nil, Option.map_some, g_mulL, mix_ev, q1, q2, ← hfk, hp] <;> rfl
      · have hk' : ¬ ((k : Nat) : Int) = (w : Int) := fun z => hk (by omega)
        rw [if_neg hk, Int.add_zero] at hfk
        by_cases hp : 0 < f k
        · refine ⟨[some (.int c), some (.tup [.int w, .int n]), some (.ref S.length), some (.int (k : Nat)), some (.int (f k))], _, ?_, _, _, rfl, rfl⟩
          rw [kn_snoc, if_pos hp, List.map_append]
          simp only [b_L_known_0, EVS, Nat.reduceAdd, Nat.reduceSub, Nat.reduceLT, Nat.reduceLeDiff, Int.reduceLT, Int.reduceLE, Int.reduceNeg, Int.reducePow, Int.reduceToNat, ↓reduceIte, reduceCtorEq, List.map_cons, List.map_nil, Option.map_some, g_mulL, mix_ev, q1, q2, ← hfk, hk', hp, c_app2E, List.length_map, hlen] <;> rfl
        · refine ⟨[some (.int c), some (.tup [.int w, .int n]), some (.ref S.length), some (.int (k : Nat)), some (.int (f k))], _, ?_, _, _, rfl, rfl⟩
          rw [kn_snoc, if_neg hp]
          simp only [b_L_known_0, EVS, Nat.reduceAdd, Nat.reduceSub, Nat.reduceLT, Nat.reduceLeDiff, Int.reduceLT, Int.reduceLE, Int.reduceNeg, Int.reducePow, Int.reduceToNat, ↓reduceIte, reduceCtorEq, List.map_cons, List.map_nil, Option.map_some, g_mulL, mix_ev, q1, q2, ← hfk, hk', hp] <;> rfl
    obtain ⟨en', S', e, x3, x4, e2, e3⟩ := forGo_typ (g := gN 3) (ds0 := rngD 0 6) (gd := .no) (body := b_L_known_0) (List.range 6) (fun k => D.int (k : Nat)) P step (fun _ _ _ _ => trivial)
      (en := [some (.int c), some (.tup [.int w, .int n]), some (.ref S.length), none, none]) (S := S ++ [.lst []]) ⟨_, _, rfl, rfl⟩
    rw [← rngD_map] at e
    unfold F_L_known
    have h6 : Int.toNat 6 = 6 := rfl
    simp only [EVS, Nat.reduceAdd, Nat.reduceSub, Nat.reduceLT, Nat.reduceLeDiff, Int.reduceLT, Int.reduceLE, Int.reduceNeg, Int.reducePow, Int.reduceToNat, ↓reduceIte, reduceCtorEq, List.map_cons, List.map_nil, Option.map_some, k_rng (show -(2 ^ 62) ≤ (6 : Int) ∧ (6 : Int) < 2 ^ 62 by decide), h6, e]
    subst e2 e3
    simp only [EVS, Nat.reduceAdd, Nat.reduceSub, Nat.reduceLT, Nat.reduceLeDiff, Int.reduceLT, Int.reduceLE, Int.reduceNeg, Int.reducePow, Int.reduceToNat, ↓reduceIte, reduceCtorEq, List.map_cons, List.map_nil, Option.map_some]
    rw [trim_push _ _ _ (hS0 S)]
/-! plain facts -/
theorem within_kn (f : Nat → Int) (h : Nat) (h6 : h < 6) (n : Int) : within (kn f (List.range 6)) ((h : Int), n) = (decide (0 < f h) && decide (n ≤ f h)) := by
  rw [Bool.eq_iff_iff]
  unfold within kn
  simp only [List.any_map, List.any_eq_true, List.mem_filter, List.mem_range, decide_eq_true_eq, Function.comp, Bool.and_eq_true]
  constructor
  · rintro ⟨a, ⟨_, h2⟩, h3, h4⟩
    have : a = h := by omega
    subst this
    exact ⟨h2, h4⟩
  · rintro ⟨h1, h2⟩
    exact ⟨h, ⟨h6, h1⟩, rfl, h2⟩
theorem mem_kn {f : Nat → Int} {p : Mk} (hp : p ∈ kn f (List.range 6)) : ∃ h : Nat, h < 6 ∧ 0 < f h ∧ p = ((h : Int), f h) := by
  unfold kn at hp
  obtain ⟨h, h1, rfl⟩ := List.mem_map.mp hp
  rw [List.mem_filter] at h1
  exact ⟨h, by simpa using h1.1, by simpa using h1.2, rfl⟩
theorem nodup_kn (f : Nat → Int) : ((kn f (List.range 6)).map (·.1)).Nodup := by
  unfold kn
  rw [List.map_map]
  have h1 : ((List.range 6).filter fun h => decide (0 < f h)).Nodup := List.Pairwise.filter _ List.nodup_range
  exact List.Pairwise.map _ (fun a b hab z => hab (Int.ofNat.inj z)) h1
theorem pairs_enc (ms : List Mk) : pairsD (ms.map enc) = some (ms.map encP) := by
  induction ms with
  | nil => rfl
  | cons p ms ih =>
    rw [List.map_cons, List.map_cons]
    show (if (keyD (D.int p.1)).isSome = true then (pairsD (ms.map enc)).map fun ps => (D.int p.1, D.int p.2) :: ps else none) = _
    rw [if_pos (show (keyD (D.int p.1)).isSome = true from rfl), ih]
    rfl
theorem kEq_int (a b : Int) : kEq (.int a) (.int b) = decide (a = b) := by
  unfold kEq keyD
  dsimp only
  rw [Bool.eq_iff_iff]
  simp
theorem dput_new (ms : List Mk) (h n : Int) (hn : h ∉ ms.map (·.1)) : dput (ms.map encP) (.int h) (.int n) = (ms ++ [(h, n)]).map encP := by
  unfold dput
  rw [if_neg, List.map_append]
  · rfl
  · rw [List.any_map, List.any_eq_true]
    rintro ⟨p, p1, p2⟩
    have p3 : kEq (.int p.1) (.int h) = true := p2
    rw [kEq_int, decide_eq_true_eq] at p3
    exact hn (List.mem_map.mpr ⟨p, p1, p3⟩)
theorem dmerge_enc : ∀ (ms acc : List Mk), ((acc ++ ms).map (·.1)).Nodup → dmerge (acc.map encP) (ms.map encP) = (acc ++ ms).map encP
  | [], acc, _ => by rw [List.append_nil]; rfl
  | p :: ms, acc, h => by
    have e : acc ++ p :: ms = (acc ++ [p]) ++ ms := by rw [List.append_assoc]; rfl
    show dmerge (dput (acc.map encP) (.int p.1) (.int p.2)) (ms.map encP) = _
    have hn : p.1 ∉ acc.map (·.1) := by
      rw [List.map_append, List.map_cons, List.nodup_append] at h
      intro z
      exact h.2.2 _ z p.1 List.mem_cons_self rfl
    rw [dput_new acc p.1 p.2 hn, dmerge_enc ms (acc ++ [p]) (by rw [← e]; exact h), e]
theorem dict_enc {ms : List Mk} {S : Sto} (hl : ms.length ≤ sizeLine) (hn : (ms.map (·.1)).Nodup) : kDictP (some (.tup (ms.map enc), S)) = some (.ref S.length, S ++ [.dct (ms.map encP)]) := by
  rw [c_dictP (by simpa using hl) (pairs_enc ms), show ([] : List (D × D)) = ([] : List Mk).map encP from rfl, dmerge_enc ms [] (by simpa using hn)]
  rfl
theorem dget_mem : ∀ {ms : List Mk} {h n : Int}, (ms.map (·.1)).Nodup → (h, n) ∈ ms → dget (ms.map encP) (.int h) = some (.int n)
  | [], _, _, _, z => by cases z
  | p :: ms, h, n, hn, hm => by
    unfold dget
    rw [List.map_cons, List.find?_cons]
    have e : kEq (encP p).1 (.int h) = decide (p.1 = h) := kEq_int _ _
    rw [List.map_cons, List.nodup_cons] at hn
    by_cases q : p.1 = h
    · rw [e, decide_eq_true q]
      rcases List.mem_cons.mp hm with z | z
      · rw [← z]; rfl
      · exact absurd (List.mem_map.mpr ⟨_, z, q.symm⟩) hn.1
    · rw [e, decide_eq_false q]
      rcases List.mem_cons.mp hm with z | z
      · rw [← z] at q; exact absurd rfl q
      · exact dget_mem hn.2 z
theorem dget_none : ∀ {ms : List Mk} {h : Int}, h ∉ ms.map (·.1) → dget (ms.map encP) (.int h) = none
  | [], _, _ => rfl
  | p :: ms, h, hn => by
    unfold dget
    rw [List.map_cons, List.mem_cons, not_or] at hn
    rw [List.map_cons, List.find?_cons]
    have e : kEq (encP p).1 (.int h) = decide (p.1 = h) := kEq_int _ _
    rw [e, decide_eq_false (fun z => hn.1 z.symm)]
    exact dget_none hn.2
theorem dget_kn (f : Nat → Int) (hf : ∀ h, 0 ≤ f h) (h : Nat) (h6 : h < 6) : (dget ((kn f (List.range 6)).map encP) (.int h)).getD (.int 0) = .int (f h) := by
  by_cases q : 0 < f h
  · rw [dget_mem (nodup_kn f) (n := f h)]
    · rfl
    · unfold kn
      exact List.mem_map.mpr ⟨h, by simp [h6, q], rfl⟩
  · rw [dget_none]
    · have := hf h
      show D.int 0 = D.int (f h)
      rw [show f h = 0 by omega]
    · intro z
      obtain ⟨p, p1, p2⟩ := List.mem_map.mp z
      obtain ⟨h', _, a2, rfl⟩ := mem_kn p1
      have : h' = h := Int.ofNat.inj p2
      subst this
      exact q a2
theorem keys_enc (ms : List Mk) : ((ms.map encP).all fun p => (keyD p.1).isSome) = true := by
  rw [List.all_map, List.all_eq_true]
  intro p _
  rfl
theorem dctAt_d {S : Sto} {n : Nat} {ms : List Mk} {h : Int} (e : S[n]? = some (.dct (ms.map encP))) : dctAt S n (.int h) = some (ms.map encP) := by
  unfold dctAt
  rw [e]
  dsimp only
  rw [if_pos]
  show ((ms.map encP).all fun p => (keyD p.1).isSome) = true
  exact keys_enc ms
theorem dctAt_f {S : Sto} {n : Nat} {ms : List Mk} {h : Int} (e : S[n]? = some (.fdct (ms.map encP))) : dctAt S n (.int h) = some (ms.map encP) := by
  unfold dctAt
  rw [e]
  exact if_pos rfl
theorem all_kn {f g : Nat → Int} : (kn g (List.range 6)).all (within (kn f (List.range 6))) = (kn g (List.range 6)).all fun p => decide (p.2 ≤ f p.1.toNat) := by
  rw [Bool.eq_iff_iff, List.all_eq_true, List.all_eq_true]
  constructor
  · intro h p hp
    have h1 := h p hp
    obtain ⟨a, a1, a2, rfl⟩ := mem_kn hp
    rw [within_kn f a a1] at h1
    simp only [Bool.and_eq_true, decide_eq_true_eq] at h1
    simp [h1.2]
  · intro h p hp
    have h1 := h p hp
    obtain ⟨a, a1, a2, rfl⟩ := mem_kn hp
    rw [within_kn f a a1]
    simp only [Int.toNat_natCast, decide_eq_true_eq] at h1
    simp only [Bool.and_eq_true, decide_eq_true_eq]
    omega
theorem within_self {ms : List Mk} {p : Mk} (h : p ∈ ms) : within ms p = true := by
  unfold within
  rw [List.any_eq_true]
  exact ⟨p, h, by simp⟩
theorem all_self (ms : List Mk) : ms.all (within ms) = true := by
  rw [List.all_eq_true]
  exact fun p hp => within_self hp
theorem raised {ms : List Mk} {a : Nat} {h n : Int} (e : ms[a]? = some (h, n)) : ms.all (within (ms.take a ++ [(h, n + 1)] ++ ms.drop (a + 1))) = true := by
  rw [List.all_eq_true]
  intro p hp
  have hs : ms = ms.take a ++ (h, n) :: ms.drop (a + 1) := by
    obtain ⟨h1, h2⟩ := List.getElem?_eq_some_iff.mp e
    rw [← h2, ← List.drop_eq_getElem_cons h1, List.take_append_drop]
  rw [hs] at hp
  rcases List.mem_append.mp hp with z | z
  · exact within_self (List.mem_append.mpr (.inl (List.mem_append.mpr (.inl z))))
  · rcases List.mem_cons.mp z with z | z
    · subst z
      unfold within
      rw [List.any_eq_true]
      refine ⟨(h, n + 1), by simp, ?_⟩
      simp only [Bool.and_eq_true, decide_eq_true_eq]
      exact ⟨trivial, by omega⟩
    · exact within_self (List.mem_append.mpr (.inr z))
theorem not_raised {ms : List Mk} {a : Nat} {h n : Int} (hn : (ms.map (·.1)).Nodup) (e : ms[a]? = some (h, n)) : (ms.take a ++ [(h, n + 1)] ++ ms.drop (a + 1)).all (within ms) = false := by
  rw [List.all_eq_false]
  refine ⟨(h, n + 1), by simp, ?_⟩
  unfold within
  rw [List.any_eq_true]
  rintro ⟨p, p1, p2⟩
  simp only [Bool.and_eq_true, decide_eq_true_eq] at p2
  have m1 : (h, n) ∈ ms := List.mem_of_getElem? e
  have d1 := dget_mem hn m1
  have d2 := dget_mem hn (show (h, p.2) ∈ ms by rw [← p2.1]; exact p1)
  rw [d1] at d2
  injection d2 with d2
  injection d2 with d2
  omega
end K02
namespace K02
open PySem L2 DL
theorem i1 (b : Bool) (S : Sto) : kIsi "tuple" (some (.bl b, S)) = some (.bl false, S) := rfl
theorem i2 (l : List D) (S : Sto) : kIsi "tuple" (some (.tup l, S)) = some (.bl true, S) := rfl
theorem i3 (b : Bool) (S : Sto) : kIsi "bool" (some (.bl b, S)) = some (.bl true, S) := rfl
theorem i4 (b : Bool) (S : Sto) : gIs (.bl b) .non S = some (.bl false, S) := rfl
theorem same_b (k : Nat) (b : Bool) (S : Sto) : F_L_same (k + 1) [.bl b, .bl b] S = some (.bl true, S) := by
  unfold F_L_same
  simp only [m_L_same, EVS, Nat.reduceAdd, Nat.reduceSub, Nat.reduceLT, Nat.reduceLeDiff, Int.reduceLT, Int.reduceLE, Int.reduceNeg, Int.reducePow, Int.reduceToNat, ↓reduceIte, reduceCtorEq, List.map_cons, List.map_nil, Option.map_some, i1, i3, i4]
theorem same_ev (k : Nat) (a b : Bool) (S : Sto) : F_L_same (k + 2) [.tup [.bl a, .bl b], .tup [.bl a, .bl b]] S = some (.bl true, S) := by
  show runD 2 2 (m_L_same (F_L_same (k + 1))) _ S = _
  simp only [m_L_same, EVS, Nat.reduceAdd, Nat.reduceSub, Nat.reduceLT, Nat.reduceLeDiff, Int.reduceLT, Int.reduceLE, Int.reduceNeg, Int.reducePow, Int.reduceToNat, ↓reduceIte, reduceCtorEq, List.map_cons, List.map_nil, Option.map_some, i2, List.length_cons, List.length_nil]
  have hz : zipD [D.bl a, D.bl b] [D.bl a, D.bl b] = [a, b].map fun x => D.tup [.bl x, .bl x] := rfl
  rw [hz, comp_all [a, b] (fun x => D.tup [.bl x, .bl x]) (fun _ => D.bl true) gdOk_none (show 2 ≤ sizeLine by decide) fun x hx => ⟨_, rfl, ?_⟩]
  · have e : [a, b].map (fun _ => D.bl true) = ([a, b].map fun _ => true).map D.bl := by rw [List.map_map]; rfl
    rw [e, k_all]
    simp only [EVS, Nat.reduceAdd, Nat.reduceSub, Nat.reduceLT, Nat.reduceLeDiff, Int.reduceLT, Int.reduceLE, Int.reduceNeg, Int.reducePow, Int.reduceToNat, ↓reduceIte, reduceCtorEq, List.map_cons, List.map_nil, Option.map_some]
    rfl
  · simp only [EVS, Nat.reduceAdd, Nat.reduceSub, Nat.reduceLT, Nat.reduceLeDiff, Int.reduceLT, Int.reduceLE, Int.reduceNeg, Int.reducePow, Int.reduceToNat, ↓reduceIte, reduceCtorEq, List.map_cons, List.map_nil, Option.map_some]
    exact same_b k x S
section
variable {f g : Nat → Int} {S : Sto}
abbrev R6 : List Nat := List.range 6
theorem len_kn (f : Nat → Int) : (kn f R6).length ≤ sizeLine := Nat.le_trans (kn_len f R6) (by decide)
/-- one count of one house -/
theorem b0_ev (hf : ∀ h, 0 ≤ f h) (h : Nat) (h6 : h < 6) (n : Int) {x0 x1 x2 x4 x5 x9 x10 x11 x12 : Option D} :
    b_law_0 [x0, x1, x2, some (.tup ((kn f R6).map enc)), x4, x5, some (.int (h : Nat)), some (.int (f h)), some (.int n), x9, x10, x11, x12] S
      = some (.nx, [x0, x1, x2, some (.tup ((kn f R6).map enc)), x4, x5, some (.int (h : Nat)), some (.int (f h)), some (.int n), x9, x10, x11, x12], S) := by
  have hw := within_kn f h h6 n
  have hfh := hf h
  by_cases c1 : 0 < n
  · by_cases c2 : n ≤ f h
    · have c3 : ¬ f h < n := by omega
      have c4 : 0 < f h := by omega
      simp only [c2, c4, decide_true, Bool.and_true] at hw
      simp only [b_law_0, EVS, Nat.reduceAdd, Nat.reduceSub, Nat.reduceLT, Nat.reduceLeDiff, Int.reduceLT, Int.reduceLE, Int.reduceNeg, Int.reducePow, Int.reduceToNat, ↓reduceIte, reduceCtorEq, List.map_cons, List.map_nil, Option.map_some, c1, c2, c3, within_ev (len_kn f), hw]
    · have c3 : f h < n := by omega
      simp only [c2, decide_false, Bool.and_false] at hw
      simp only [b_law_0, EVS, Nat.reduceAdd, Nat.reduceSub, Nat.reduceLT, Nat.reduceLeDiff, Int.reduceLT, Int.reduceLE, Int.reduceNeg, Int.reducePow, Int.reduceToNat, ↓reduceIte, reduceCtorEq, List.map_cons, List.map_nil, Option.map_some, c1, c2, c3, within_ev (len_kn f), hw]
  · by_cases c3 : f h < n
    · omega
    · simp only [b_law_0, EVS, Nat.reduceAdd, Nat.reduceSub, Nat.reduceLT, Nat.reduceLeDiff, Int.reduceLT, Int.reduceLE, Int.reduceNeg, Int.reducePow, Int.reduceToNat, ↓reduceIte, reduceCtorEq, List.map_cons, List.map_nil, Option.map_some, c1, c3]
/-- one house -/
theorem b1_ev (hf : ∀ h, 0 ≤ f h) (h : Nat) (h6 : h < 6) {n5 : Nat} (h5 : S[n5]? = some (.dct ((kn f R6).map encP))) {x0 x1 x2 x4 x7 x8 x9 x10 x11 x12 : Option D} :
    ∃ y7 y8, b_law_1 [x0, x1, x2, some (.tup ((kn f R6).map enc)), x4, some (.ref n5), some (.int (h : Nat)), x7, x8, x9, x10, x11, x12] S
      = some (.nx, [x0, x1, x2, some (.tup ((kn f R6).map enc)), x4, some (.ref n5), some (.int (h : Nat)), y7, y8, x9, x10, x11, x12], S) := by
  have hd := dget_kn f hf h h6
  have hg := get2_ev (a := mVar 5) (b := mVar 6) (c := mCon (D.int 0)) (en := [x0, x1, x2, some (.tup ((kn f R6).map enc)), x4, some (.ref n5), some (.int (h : Nat)), x7, x8, x9, x10, x11, x12]) (S := S) rfl rfl rfl (dctAt_d h5)
  rw [hd] at hg
  refine ⟨some (.int (f h)), some (.int (f h + 9)), ?_⟩
  unfold b_law_1
  rw [e_seq, e_asg, hg]
  simp only [EVS, Nat.reduceAdd, Nat.reduceSub, Nat.reduceLT, Nat.reduceLeDiff, Int.reduceLT, Int.reduceLE, Int.reduceNeg, Int.reducePow, Int.reduceToNat, ↓reduceIte, reduceCtorEq, List.map_cons, List.map_nil, Option.map_some, b0_ev hf h h6]
/-- all houses -/
theorem b1_all (hf : ∀ h, 0 ≤ f h) {n5 : Nat} (h5 : S[n5]? = some (.dct ((kn f R6).map encP))) {x0 x1 x2 x4 x6 x7 x8 x9 x10 x11 x12 : Option D} :
    ∃ y6 y7 y8, forGo (rngD 0 6) .no (gN 6) b_law_1 (rngD 0 6) [x0, x1, x2, some (.tup ((kn f R6).map enc)), x4, some (.ref n5), x6, x7, x8, x9, x10, x11, x12] S
      = some (.nx, [x0, x1, x2, some (.tup ((kn f R6).map enc)), x4, some (.ref n5), y6, y7, y8, x9, x10, x11, x12], S) := by
  let P : List Nat → En → Sto → Prop := fun _ en S' => S' = S ∧ ∃ y6 y7 y8, en = [x0, x1, x2, some (.tup ((kn f R6).map enc)), x4, some (.ref n5), y6, y7, y8, x9, x10, x11, x12]
  have step : ∀ (pre : List Nat) (k : Nat) (post : List Nat) (en : En) (S1 : Sto), List.range 6 = pre ++ k :: post → P pre en S1 → ∃ en1, gN 6 (D.int (k : Nat)) en = some en1 ∧ ∃ en2 S2, b_law_1 en1 S1 = some (.nx, en2, S2) ∧ P (pre ++ [k]) en2 S2 := by
    intro pre k post en S1 hpre hP
    obtain ⟨rfl, y6, y7, y8, rfl⟩ := hP
    have h6 : k < 6 := by
      have : k ∈ List.range 6 := by rw [hpre]; simp
      simpa using this
    obtain ⟨z7, z8, e⟩ := b1_ev hf k h6 h5 (x0 := x0) (x1 := x1) (x2 := x2) (x4 := x4) (x7 := y7) (x8 := y8) (x9 := x9) (x10 := x10) (x11 := x11) (x12 := x12)
    exact ⟨_, rfl, _, _, e, rfl, _, _, _, rfl⟩
  obtain ⟨en', S', e, rfl, y6, y7, y8, rfl⟩ := forGo_typ (g := gN 6) (ds0 := rngD 0 6) (gd := .no) (body := b_law_1) (List.range 6) (fun k => D.int (k : Nat)) P step (fun _ _ _ _ => trivial) (S := S) ⟨rfl, x6, x7, x8, rfl⟩
  rw [← rngD_map] at e
  exact ⟨y6, y7, y8, e⟩
/-- what is due -/
theorem keys_kn (f : Nat → Int) : ((kn f R6).map encP).map (·.1) = (kn f R6).map fun p => D.int p.1 := by rw [List.map_map]; rfl
theorem due_ev (hf : ∀ h, 0 ≤ f h) {n5 n9 : Nat} (h5 : S[n5]? = some (.dct ((kn f R6).map encP))) (h9 : S[n9]? = some (.dct ((kn g R6).map encP))) (hne : n5 ≠ n9) {m : M D} {en : En} {caps : List Nat} {y1 y2 : D}
    (hcap : capEn 1 caps en = [none, some y1, some y2])
    (hm : ∀ (h n : Int) (S' : Sto) (b : Bool), gIx (.ref n9) (.int h) S' = some (.int n, S') → dctAt S' n5 (.int h) = some ((kn f R6).map encP) → gLe (.int n) ((dget ((kn f R6).map encP) (.int h)).getD (.int 0)) S' = some (.bl b, S') → m [some (.int h), some y1, some y2] S' = some (.bl b, S')) :
    kBs (fun bs => bs.all id) (kComp 1 caps (gN 0) mTrue m en (kIter (some (.ref n9, S)))) = some (.bl ((kn g R6).all (within (kn f R6))), S) := by
  rw [comp_dict h9 (keys_enc _) (kn g R6) (fun p => D.int p.1) (keys_kn g) (fun p => D.bl (decide (p.2 ≤ f p.1.toNat))) (len_kn g) fun p hp => ⟨_, rfl, ?_⟩]
  · have e : (kn g R6).map (fun p => D.bl (decide (p.2 ≤ f p.1.toNat))) = ((kn g R6).map fun p => decide (p.2 ≤ f p.1.toNat)).map D.bl := by rw [List.map_map]; rfl
    rw [e, k_all, all_id, all_kn]
  · obtain ⟨a, a1, a2, rfl⟩ := mem_kn hp
    have hn9 := (List.getElem?_eq_some_iff.mp h9).1
    rw [hcap]
    refine hm _ (g a) _ _ (ixD_ev (dctAt_f (ms := kn g R6) (by rw [List.getElem?_set_self hn9])) (dget_mem (nodup_kn g) hp)) (dctAt_d (by rw [List.getElem?_set_ne (Ne.symm hne)]; exact h5)) ?_
    have hd := dget_kn f hf a a1
    rw [hd]
    rfl
end
end K02
namespace K02
open PySem L2 DL
def Sh (ns : List Int) (en : En) : Prop := ∃ x1 x2 x3 x4 x5 x6 x7 x8 x9 x10 x11 x12, en = [some (.scr ns), x1, x2, x3, x4, x5, x6, x7, x8, x9, x10, x11, x12]
theorem sl1 {ms : List Mk} {a : Nat} {S : Sto} (h : a < ms.length) : slD (.tup (ms.map enc)) none (some (a : Int)) S = some (.tup ((ms.take a).map enc), S) := by
  have hl : (ms.map enc).length = ms.length := List.length_map ..
  dsimp only [slD]
  rw [if_neg (by rw [HT.sIx_nat, hl]; omega)]
  unfold cutD
  rw [HT.sIx_nat, HT.sIx_none, hl, List.drop_zero, List.map_take, show min a ms.length - 0 = a by omega]
theorem sl2 {ms : List Mk} {a : Nat} {S : Sto} (h : a < ms.length) : slD (.tup (ms.map enc)) (some ((a : Int) + 1)) none S = some (.tup ((ms.drop (a + 1)).map enc), S) := by
  have hl : (ms.map enc).length = ms.length := List.length_map ..
  have e : ((a : Int) + 1) = ((a + 1 : Nat) : Int) := rfl
  rw [e]
  dsimp only [slD]
  rw [if_neg (by rw [HT.sIx_nat, hl]; omega)]
  unfold cutD
  rw [HT.sIx_nat, HT.sIx_none, hl, List.map_drop, show min (a + 1) ms.length = a + 1 by omega, List.take_of_length_le (by rw [List.length_drop, hl]; omega)]
theorem sz8 : 8 ≤ sizeLine := by decide
theorem turn (ns : List Int) (k : Nat) {en : En} {S : Sto} (he : Sh ns en) : ∃ en' S', b_law_2 (en.set 1 (some (.int (k : Nat)))) S = some (.nx, en', S') ∧ Sh ns en' := by
  obtain ⟨x1, x2, x3, x4, x5, x6, x7, x8, x9, x10, x11, x12, rfl⟩ := he
  obtain ⟨c, hc⟩ := cell_ev ns k
  obtain ⟨c2, hc2⟩ := cell_ev ns (k + 1)
  have hc2' : ∀ S, F_L_cell [.scr ns, .int ((k : Int) + 1)] S = some (.int c2, S) := fun S => hc2 S
  obtain ⟨w, n, hw, hn, hwh⟩ := which_ev c
  obtain ⟨w2, n2, hw2, hn2, hwh2⟩ := which_ev c2
  obtain ⟨f, hf, hfw, hkf⟩ := known_ev c w n hw hn
  obtain ⟨g, hg, hgw, hkg⟩ := known_ev (c + 5) w2 n2 hw2 hn2
  have d1 : ∀ S, kDictP (some (.tup ((kn f R6).map enc), S)) = some (.ref S.length, S ++ [.dct ((kn f R6).map encP)]) := fun S => dict_enc (len_kn f) (nodup_kn f)
  have d2 : ∀ S, kDictP (some (.tup ((kn g R6).map enc), S)) = some (.ref S.length, S ++ [.dct ((kn g R6).map encP)]) := fun S => dict_enc (len_kn g) (nodup_kn g)
  have h6 : Int.toNat 6 = 6 := rfl
  obtain ⟨y6, y7, y8, e1⟩ := b1_all hf (S := S ++ [.dct ((kn f R6).map encP)]) (n5 := S.length) (List.getElem?_concat_length ..) (x0 := some (.scr ns)) (x1 := some (.int (k : Nat))) (x2 := some (.int c)) (x4 := some (.tup ((kn g R6).map enc))) (x6 := x6) (x7 := x7) (x8 := x8) (x9 := x9) (x10 := x10) (x11 := x11) (x12 := x12)
  generalize hS2 : S ++ [Ob.dct ((kn f R6).map encP)] ++ [Ob.dct ((kn g R6).map encP)] = S2
  have h5 : S2[S.length]? = some (.dct ((kn f R6).map encP)) := by rw [← hS2]; simp
  have h9 : S2[(S ++ [Ob.dct ((kn f R6).map encP)]).length]? = some (.dct ((kn g R6).map encP)) := by rw [← hS2, List.getElem?_concat_length]
  generalize hn9 : (S ++ [Ob.dct ((kn f R6).map encP)]).length = n9 at h9
  have hne : S.length ≠ n9 := by rw [← hn9]; simp
  generalize hn5 : S.length = n5 at h5 hne
  have u1 := due_ev hf h5 h9 hne (m := e_law_0) (caps := [5, 9]) (en := [some (.scr ns), some (.int (k : Nat)), some (.int c), some (.tup ((kn f R6).map enc)), some (.tup ((kn g R6).map enc)), some (.ref n5), y6, y7, y8, some (.ref n9), x10, x11, x12]) (y1 := .ref n5) (y2 := .ref n9) rfl
    (fun h n S' b q1 q2 q3 => by
      have q := get2_ev (a := mVar 1) (b := mVar 0) (c := mCon (D.int 0)) (en := [some (.int h), some (.ref n5), some (.ref n9)]) (S := S') rfl rfl rfl q2
      simp only [e_law_0, EVS, Nat.reduceAdd, Nat.reduceSub, Nat.reduceLT, Nat.reduceLeDiff, Int.reduceLT, Int.reduceLE, Int.reduceNeg, Int.reducePow, Int.reduceToNat, ↓reduceIte, reduceCtorEq, List.map_cons, List.map_nil, Option.map_some, q1, q, q3])
  have u2 := due_ev hg h9 h5 hne.symm (m := e_law_1) (caps := [5, 9]) (en := [some (.scr ns), some (.int (k : Nat)), some (.int c), some (.tup ((kn f R6).map enc)), some (.tup ((kn g R6).map enc)), some (.ref n5), y6, y7, y8, some (.ref n9), some (.bl ((kn g R6).all (within (kn f R6)))), x11, x12]) (y1 := .ref n5) (y2 := .ref n9) rfl
    (fun h n S' b q1 q2 q3 => by
      have q := get2_ev (a := mVar 2) (b := mVar 0) (c := mCon (D.int 0)) (en := [some (.int h), some (.ref n5), some (.ref n9)]) (S := S') rfl rfl rfl q2
      simp only [e_law_1, EVS, Nat.reduceAdd, Nat.reduceSub, Nat.reduceLT, Nat.reduceLeDiff, Int.reduceLT, Int.reduceLE, Int.reduceNeg, Int.reducePow, Int.reduceToNat, ↓reduceIte, reduceCtorEq, List.map_cons, List.map_nil, Option.map_some, q1, q, q3])
  have hs : ∀ a b S, F_L_same 12 [.tup [.bl a, .bl b], .tup [.bl a, .bl b]] S = some (.bl true, S) := fun a b S => same_ev 10 a b S
  have hm : ((w : Int), f w) ∈ kn f R6 := by
    unfold kn
    exact List.mem_map.mpr ⟨w, by simp [hw, hfw], rfl⟩
  have hlt : 0 < (kn f R6).length := List.length_pos_of_mem hm
  have hh0 : ∀ S, F_has_heard [.tup ((kn f R6).map enc), .tup []] S = some (.bl true, S) := fun S => heard_ev (os := []) (len_kn f) (Nat.zero_le _)
  have hh1 : ∀ S, F_has_heard [.tup [], .tup ((kn f R6).map enc)] S = some (.bl false, S) := fun S => by
    have := heard_ev (ms := []) (os := kn f R6) (S := S) (Nat.zero_le _) (len_kn f)
    rw [show (kn f R6).all (within []) = false by rw [List.all_eq_false]; exact ⟨_, hm, by unfold within; simp⟩] at this
    exact this
  have hL : (0 : Int) < ((kn f R6).length : Int) := by omega
  have a0 := Int.emod_nonneg (c * 48271 % 9811) (b := ((kn f R6).length : Int)) (by omega)
  have a1 := Int.emod_lt_of_pos (c * 48271 % 9811) (b := ((kn f R6).length : Int)) (by omega)
  obtain ⟨a, ea⟩ : ∃ a : Nat, c * 48271 % 9811 % ((kn f R6).length : Int) = (a : Int) := ⟨_, (Int.toNat_of_nonneg a0).symm⟩
  have ha : a < (kn f R6).length := by omega
  obtain ⟨⟨h, m⟩, hp⟩ : ∃ p, (kn f R6)[a]? = some p := ⟨_, List.getElem?_eq_getElem ha⟩
  have hix : ∀ S, gIx (.tup ((kn f R6).map enc)) (.int (a : Int)) S = some (.tup [.int h, .int m], S) := fun S => g_ixT (by rw [List.getElem?_map, hp]; rfl)
  have l6 : (kn f R6).length ≤ 6 := kn_len f R6
  have z8 := sz8
  have g1 : ∀ S, gAdd (.tup (((kn f R6).take a).map enc)) (.tup [.tup [.int h, .int (m + 1)]]) S = some (.tup (((kn f R6).take a ++ [(h, m + 1)]).map enc), S) := fun S => by
    rw [g_addT, List.map_append]
    · rfl
    · rw [List.length_map, List.length_take]
      show _ + 1 ≤ sizeLine
      omega
  have g2 : ∀ S, gAdd (.tup (((kn f R6).take a ++ [(h, m + 1)]).map enc)) (.tup (((kn f R6).drop (a + 1)).map enc)) S = some (.tup (((kn f R6).take a ++ [(h, m + 1)] ++ (kn f R6).drop (a + 1)).map enc), S) := fun S => by
    rw [g_addT, ← List.map_append]
    rw [List.length_map, List.length_map, List.length_append, List.length_take, List.length_drop]
    show _ + 1 + _ ≤ sizeLine
    omega
  have lnew : ((kn f R6).take a ++ [(h, m + 1)] ++ (kn f R6).drop (a + 1)).length ≤ sizeLine := by
    rw [List.length_append, List.length_append, List.length_take, List.length_drop]
    show _ + 1 + _ ≤ sizeLine
    omega
  simp only [b_law_2, EVS, Nat.reduceAdd, Nat.reduceSub, Nat.reduceLT, Nat.reduceLeDiff, Int.reduceLT, Int.reduceLE, Int.reduceNeg, Int.reducePow, Int.reduceToNat, ↓reduceIte, reduceCtorEq, List.map_cons, List.map_nil, Option.map_some, hc, hwh, hkf, hc2', hwh2, hkg, d1, k_rng (show -(2 ^ 62) ≤ (6 : Int) ∧ (6 : Int) < 2 ^ 62 by decide), h6, e1, d2]
  simp only [hS2, hn9, hn5]
  simp only [EVS, Nat.reduceAdd, Nat.reduceSub, Nat.reduceLT, Nat.reduceLeDiff, Int.reduceLT, Int.reduceLE, Int.reduceNeg, Int.reducePow, Int.reduceToNat, ↓reduceIte, reduceCtorEq, List.map_cons, List.map_nil, Option.map_some, u1, u2, heard_ev (len_kn f) (len_kn g), heard_ev (len_kn g) (len_kn f), hs, heard_ev (len_kn f) (len_kn f), all_self, hh0, hh1, List.length_map, mix_ev, show (0 : Int) < 9811 by decide, hL, ea, hix]
  simp only [EVS, Nat.reduceAdd, Nat.reduceSub, Nat.reduceLT, Nat.reduceLeDiff, Int.reduceLT, Int.reduceLE, Int.reduceNeg, Int.reducePow, Int.reduceToNat, ↓reduceIte, reduceCtorEq, List.map_cons, List.map_nil, Option.map_some, sl1 ha, sl2 ha, g1, g2, heard_ev lnew (len_kn f), raised hp, heard_ev (len_kn f) lnew, not_raised (nodup_kn f) hp]
  exact ⟨_, _, rfl, _, _, _, _, _, _, _, _, _, _, _, _, rfl⟩
theorem law_true (ns : List Int) (_ : ns.length ≤ 63) : ∃ S', F_law [.scr ns] [] = some (.bl true, S') := by
  unfold F_law
  have h0 : Sh ns [some (.scr ns), none, none, none, none, none, none, none, none, none, none, none, none] := ⟨_, _, _, _, _, _, _, _, _, _, _, _, rfl⟩
  obtain ⟨en', S', e, _⟩ := forGo_typ (g := gN 1) (ds0 := rngD 0 3) (gd := .no) (body := b_law_2) (List.range 3) (fun k => D.int (k : Nat)) (fun _ en _ => Sh ns en)
    (fun _ k _ en S _ hP => ⟨_, rfl, turn ns k hP⟩) (fun _ _ _ _ => trivial) (S := []) h0
  rw [← rngD_map] at e
  have h3 : Int.toNat 3 = 3 := rfl
  simp only [EVS, Nat.reduceAdd, Nat.reduceSub, Nat.reduceLT, Nat.reduceLeDiff, Int.reduceLT, Int.reduceLE, Int.reduceNeg, Int.reducePow, Int.reduceToNat, ↓reduceIte, reduceCtorEq, List.map_cons, List.map_nil, Option.map_some, k_rng (show -(2 ^ 62) ≤ (3 : Int) ∧ (3 : Int) < 2 ^ 62 by decide), h3, e]
  exact ⟨_, rfl⟩
end K02
open PySem PySem.W PyProof.Rows
set_option maxRecDepth 100000 in
set_option maxHeartbeats 0 in
theorem PySem.Challenge.cw_twinshelves_k02_marks_within_holds : PySem.Challenge.rw_twinshelves_k02_marks_within.Holds := by
  w_on; o_law; k_head; (case hw => w_witness2)
  k_fill
  refine DL.walk_d (l := PySem.Challenge.rw_twinshelves_k02_marks_within) (F := K02.F_law) (k := 14) (x := "_law_script") rfl rfl ⟨rfl, by decide, by decide⟩ (fun w h Y => PySem.W.kIn_of Y) ?F K02.law_true
  case F =>
    intro w mg fa h KX G hmg
    refine' K02.all_mk KX G hmg ?a0 ?l0 ?c0 ?k0 ?a1 ?l1 ?c1 ?k1 ?a2 ?l2 ?c2 ?k2 ?a3 ?l3 ?c3 ?k3 ?a4 ?l4 ?c4 ?k4 ?a5 ?l5 ?c5 ?k5 ?a6 ?l6 ?c6 ?k6 ?a7 ?l7 ?c7 ?k7 ?z_all ?z_any ?z_bool ?z_dict ?z_int ?z_isinstance ?z_len ?z_range ?z_str ?z_tuple ?z_zip
    (case a0 => k_is)
    (case l0 => k_is)
    (case c0 => k_is)
    (case k0 => k_is)
    (case a1 => k_is)
    (case l1 => k_is)
    (case c1 => k_is)
    (case k1 => k_is)
    (case a2 => k_is)
    (case l2 => k_is)
    (case c2 => k_is)
    (case k2 => k_is)
    (case a3 => k_is)
    (case l3 => k_is)
    (case c3 => k_is)
    (case k3 => k_is)
    (case a4 => k_is)
    (case l4 => k_is)
    (case c4 => k_is)
    (case k4 => k_is)
    (case a5 => k_is)
    (case l5 => k_is)
    (case c5 => k_is)
    (case k5 => k_is)
    (case a6 => k_is)
    (case l6 => k_is)
    (case c6 => k_is)
    (case k6 => k_is)
    (case a7 => k_is)
    (case l7 => k_is)
    (case c7 => k_is)
    (case k7 => k_is)
    (case z_all => k_is)
    (case z_any => k_is)
    (case z_bool => k_is)
    (case z_dict => k_is)
    (case z_int => k_is)
    (case z_isinstance => k_is)
    (case z_len => k_is)
    (case z_range => k_is)
    (case z_str => k_is)
    (case z_tuple => k_is)
    (case z_zip => k_is)
