import PyProof.Rows.All
import Wide.All
import OpenK.AllK
import Wide.FinOn
import Lean
import PyProof.EqAt
import PyProof.EqKinds
import PyProof.TupleCall
import PySem.Challenge.RW_twinshelves_k06_names_and_quarrels
set_option Elab.async false
set_option linter.all false
set_option maxRecDepth 100000
namespace L2
open PySem PySem.Spec PyProof.Rows
abbrev Key := Sum Int Str
def keyIs : Key → Value → Bool
 | .inl k, v => Value.isInt k v
 | .inr x, v => Value.isStrOf x v
def keyH (w : World) : Key → Int
 | .inl k => hashInt k
 | .inr x => hashStr w x
theorem keyIs_shape : ∀ {k : Key} {v : Value}, keyIs k v = true → (∃ i t, k = Sum.inl i ∧ v = Value.int i t) ∨ (∃ x t, k = Sum.inr x ∧ v = Value.str x t)
 | .inl i, v, h => by
  obtain ⟨t, e⟩ := Value.isInt_shape (k := i) (v := v) h
  exact .inl ⟨i, t, rfl, e⟩
 | .inr x, v, h => by
  obtain ⟨t, e⟩ := Value.isStrOf_shape (x := x) (v := v) h
  exact .inr ⟨x, t, rfl, e⟩
theorem keyIs_int (i : Int) (t : Tok) : keyIs (.inl i) (.int i t) = true := by simp [keyIs, Value.isInt]
theorem keyIs_str (x : Str) (t : Tok) : keyIs (.inr x) (.str x t) = true := by simp [keyIs, Value.isStrOf]
theorem key_ll (a b : Int) : decide ((Sum.inl a : Key) = Sum.inl b) = (a == b) := by
 by_cases e : a = b
 ·subst e; simp
 ·have h : ¬ (Sum.inl a : Key) = Sum.inl b := fun q => e (Sum.inl.inj q)
  rw [decide_eq_false h]
  exact (beq_eq_false_iff_ne.mpr e).symm
theorem key_rr (a b : Str) : decide ((Sum.inr a : Key) = Sum.inr b) = decide (a = b) := by
 by_cases e : a = b
 ·subst e; simp
 ·have h : ¬ (Sum.inr a : Key) = Sum.inr b := fun q => e (Sum.inr.inj q)
  rw [decide_eq_false h, decide_eq_false e]
theorem key_lr (a : Int) (b : Str) : decide ((Sum.inl a : Key) = Sum.inr b) = false := decide_eq_false (fun q => nomatch q)
theorem key_rl (a : Str) (b : Int) : decide ((Sum.inr a : Key) = Sum.inl b) = false := decide_eq_false (fun q => nomatch q)
def mixKind (prog : Program) (w : World) : PySem.KeyKind prog w Key where
 is := keyIs
 hash := keyH w
 inj := fun v a b ha hb => by
  rcases keyIs_shape ha with ⟨i, t, rfl, rfl⟩ | ⟨x, t, rfl, rfl⟩
  ·rcases keyIs_shape hb with ⟨j, u, rfl, e⟩ | ⟨y, u, rfl, e⟩
   ·injection e with e1 _; rw [e1]
   ·exact nomatch e
  ·rcases keyIs_shape hb with ⟨j, u, rfl, e⟩ | ⟨y, u, rfl, e⟩
   ·exact nomatch e
   ·injection e with e1 _; rw [e1]
 byValue := fun k v h => by
  rcases keyIs_shape h with ⟨i, t, rfl, rfl⟩ | ⟨x, t, rfl, rfl⟩ <;> rfl
 pyHash := fun hv h => by
  rcases keyIs_shape hv with ⟨i, t, rfl, rfl⟩ | ⟨x, t, rfl, rfl⟩
  ·exact wpAny_pyHash_int h
  ·exact wpAny_pyHash_str h
 eqBool := fun hu hv h => by
  rcases keyIs_shape hu with ⟨i, t, rfl, rfl⟩ | ⟨x, t, rfl, rfl⟩
  ·rcases keyIs_shape hv with ⟨j, u, rfl, rfl⟩ | ⟨y, u, rfl, rfl⟩
   ·rw [key_ll] at h; exact wpAny_eqBool_int h
   ·rw [key_lr] at h; exact SeqAt.EqAt.int_str i t y u _ _ _ _ h
  ·rcases keyIs_shape hv with ⟨j, u, rfl, rfl⟩ | ⟨y, u, rfl, rfl⟩
   ·rw [key_rl] at h; exact SeqAt.EqAt.str_int x t j u _ _ _ _ h
   ·rw [key_rr] at h; exact wpAny_eqBool_str h
 «strs» := fun k x t v h => by
  rcases keyIs_shape h with ⟨i, u, rfl, e⟩ | ⟨y, u, rfl, e⟩
  ·exact nomatch e
  ·injection e with e1 _
   subst e1
   cases v <;> rfl
theorem mixKind_int (prog : Program) (w : World) (i : Int) (t : Tok) : (mixKind prog w).is (.inl i) (.int i t) = true := keyIs_int i t
theorem mixKind_str (prog : Program) (w : World) (x : Str) (t : Tok) : (mixKind prog w).is (.inr x) (.str x t) = true := keyIs_str x t
end L2
namespace L2
open PySem PySem.Spec PyProof.Rows
inductive V where
 | non | bl (b : Bool) | int (i : Int) | str (x : Str) | byt (b : Array UInt8) | flt (b : UInt64) | ref (a : Addr) | ty (n : String)
 deriving DecidableEq
def RelV : V → Value → Prop
 | .non, u => u = Value.none
 | .bl b, u => u = Value.bool b
 | .int i, u => ∃ t, u = Value.int i t
 | .str x, u => ∃ t, u = Value.str x t
 | .byt b, u => ∃ t, u = Value.bytes b t
 | .flt b, u => ∃ t, u = Value.float b t
 | .ref a, u => u = Value.ref a
 | .ty n, u => u = Value.type n
abbrev Vals : List V → List Value → Prop := Paired RelV
theorem Vals.length {xs : List V} {us : List Value} (r : Vals xs us) : xs.length = us.length := Paired.length r
theorem Vals.get : ∀ {xs : List V} {us : List Value} {i : Nat} {x : V}, Vals xs us → xs[i]? = some x → ∃ u, us[i]? = some u ∧ RelV x u
 | _, _, _, _, .nil, e => by simp at e
 | _, _, 0, _, .cons r _, e => by simp at e; subst e; exact ⟨_, rfl, r⟩
 | _, _, i + 1, x, .cons _ t, e => by
  obtain ⟨u, h1, h2⟩ := Vals.get (i := i) (x := x) t (by simpa using e)
  exact ⟨u, by simpa using h1, h2⟩
theorem Vals.set {x : V} {u : Value} (r : RelV x u) : ∀ {xs : List V} {us : List Value} (i : Nat), Vals xs us → Vals (xs.set i x) (us.set i u)
 | _, _, _, .nil => .nil
 | _, _, 0, .cons _ t => .cons r t
 | _, _, i + 1, .cons q t => .cons q (Vals.set r i t)
theorem Vals.append : ∀ {xs ys : List V} {us ws : List Value}, Vals xs us → Vals ys ws → Vals (xs ++ ys) (us ++ ws)
 | _, _, _, _, .nil, s => s
 | _, _, _, _, .cons r t, s => .cons r (Vals.append t s)
theorem Vals.take : ∀ {xs : List V} {us : List Value} (n : Nat), Vals xs us → Vals (xs.take n) (us.take n)
 | _, _, 0, _ => .nil
 | _, _, _ + 1, .nil => .nil
 | _, _, n + 1, .cons r t => .cons r (Vals.take n t)
theorem Vals.drop : ∀ {xs : List V} {us : List Value} (n : Nat), Vals xs us → Vals (xs.drop n) (us.drop n)
 | _, _, 0, r => r
 | _, _, _ + 1, .nil => .nil
 | _, _, n + 1, .cons _ t => Vals.drop n t
def RelO : Option V → Option Value → Prop
 | some v, some u => RelV v u
 | none, none => True
 | _, _ => False
def KV {κ : Type} : List (κ × V) → List (κ × Value) → Prop := Paired fun (p : κ × V) (q : κ × Value) => p.1 = q.1 ∧ RelV p.2 q.2
def kV : Key → V
 | .inl i => .int i
 | .inr x => .str x
inductive HO where
 /-- a list -/
 | lst (xs : List V)
 /-- a tuple (never changes) -/
 | tup (xs : List V)
 /-- a dict whose keys are ints and texts; one whose keys are tuples of ints and texts (the empty one is both) -/
 | dK (kvs : List (Key × V)) | dT (kvs : List (List Key × V))
 /-- a set of ints: its members, its size -/
 | set (S : Int → Bool) (n : Nat)
 /-- an instance of the class at C, its dict at dx, its attributes -/
 | ins (C dx : Addr) (fs : List (Str × V))
 /-- the dict of the instance at x -/
 | own (x : Addr)
 /-- the dict of an exception -/
 | xd (fs : List (Str × V))
 /-- a bound method, f of x -/
 | met (f x : Addr)
 /-- a range object lo, lo + 1, .. below hi -/
 | rng (lo hi : Int)
 /-- a thing that is known to the object (the script; a dict while a loop walks it): read, never written while it is so -/
 | frz (o : Obj) (u : HO)
 /-- a code object's table -/
 | tbl (ps : Array Value)
 /-- any other thing, by what is true of its one object (a def of one's own: SetO a S n := HO.ext fun h => ..) -/
 | ext (φ : Heap → Prop)
abbrev Hp := Addr → Option HO
def upd (H : Hp) (a : Addr) (o : HO) : Hp := fun b => if b = a then some o else H b
theorem upd_same {H : Hp} {a : Addr} {o : HO} : upd H a o a = some o := by unfold upd; rw [if_pos rfl]
theorem upd_ne {H : Hp} {a b : Addr} {o : HO} (h : b ≠ a) : upd H a o b = H b := by unfold upd; rw [if_neg h]
theorem upd_upd {H : Hp} {a : Addr} {o u : HO} : upd (upd H a o) a u = upd H a u := by
 funext b; unfold upd; split <;> rfl
theorem ne_of {H : Hp} {a b : Addr} {o u : HO} (h : H a = some o) (h' : H b = some u) (d : o ≠ u) : a ≠ b := by
 intro e; subst e; rw [h] at h'; exact d (Option.some.inj h')
theorem ne_of_none {H : Hp} {a b : Addr} {o : HO} (h : H a = some o) (h' : H b = none) : a ≠ b := by
 intro e; subst e; rw [h] at h'; cases h'
def TupO (h : Heap) (a : Addr) (items : Array Value) : Prop := IsTup h a items ∧ ∃ o, h.get? a = some o ∧ o.dict = none
theorem TupO.new (h : Heap) (items : Array Value) : TupO (h.push { cls := .type "tuple", data := .seq items }) h.objs.size items := ⟨IsTup.new h items, _, Heap.get?_push_size _ rfl, rfl⟩
section
variable (P : Program) (w : World)
def ObjOk (H : Hp) (h : Heap) (a : Addr) : HO → Prop
 | .lst xs => xs.length ≤ sizeLine ∧ ∃ (its : List Value) (n : Nat), Vals xs its ∧ h.get? a = some { cls := .type "list", data := .seq its.toArray n }
 | .tup xs => xs.length ≤ sizeLine ∧ ∃ its : List Value, Vals xs its ∧ TupO h a its.toArray
 | .dK kvs => kvs.length ≤ sizeLine ∧ (a == sysModules) = false ∧ ∃ vs, KV kvs vs ∧ h.DictOf (mixKind P w) a vs
 | .dT kvs => kvs.length ≤ sizeLine ∧ (a == sysModules) = false ∧ ∃ xs : List (List Key × Addr × Value),
   Paired (fun (p : List Key × V) (q : List Key × Addr × Value) => p.1 = q.1 ∧ H q.2.1 = some (.tup (p.1.map kV)) ∧ RelV p.2 q.2.2) kvs xs ∧
   ∃ o es ep, h.get? a = some o ∧ o.ExactDict ∧ o.data = .dict es ep ∧ es.toList = xs.map (entryOfKey (tupleKind (mixKind P w))) ∧ (xs.map (·.1)).Nodup
 | .set S n => h.SetOf (intKind P w) a S n
 | .ins C dx fs => H dx = some (.own a) ∧ fs.length ≤ 1000 ∧ dx ≠ a ∧ h.get? a = some (PySem.W.instObj C dx) ∧
   ∃ mA, h.Ns1 dx mA ∧ (∀ f, RelO (fs.lookup f) (mA f)) ∧ PySem.Within mA (fs.map (·.1))
 | .own _ => ∃ o, h.get? a = some o
 | .xd fs => ∃ mA, h.Ns1 a mA ∧ ∀ f, RelO (fs.lookup f) (mA f)
 | .rng lo hi => ∃ t u v, h.get? a = some { cls := .type "range", data := .fields #[.int lo t, .int hi u, .int 1 v] }
 | .frz o u => h.get? a = some o ∧ ObjOk H h a u
 | .tbl ps => h.get? a = some { cls := .none, data := .fields ps }
 | .met f x => h.get? a = some (PySem.W.methodObj (.ref f) (.ref x))
 | .ext φ => φ h ∧ (∃ o, h.get? a = some o) ∧ ∀ h1 h2 : Heap, φ h1 → (∀ o, h1.get? a = some o → h2.get? a = some o) → φ h2
def HOk (H : Hp) (h : Heap) : Prop := ∀ a o, H a = some o → ObjOk P w H h a o
end
section
variable {P : Program} {w : World} {H H' : Hp} {h h' : Heap} {a : Addr} {o : HO}
theorem ObjOk.lt (x : ObjOk P w H h a o) : a < h.objs.size := by
 cases o with
 | lst xs => obtain ⟨_, _, _, _, e⟩ := x; exact Heap.lt_size e
 | tup xs => obtain ⟨_, _, _, p⟩ := x; exact p.1.lt
 | dK kvs => obtain ⟨_, _, _, _, o, _, _, e, _⟩ := x; exact Heap.lt_size e
 | dT kvs => obtain ⟨_, _, _, _, o, _, _, e, _⟩ := x; exact Heap.lt_size e
 | set S n => obtain ⟨o, _, _, _, e, _⟩ := x; exact Heap.lt_size e
 | ins C dx fs => obtain ⟨_, _, _, e, _⟩ := x; exact Heap.lt_size e
 | own y => obtain ⟨_, e⟩ := x; exact Heap.lt_size e
 | xd fs => obtain ⟨_, ⟨_, _, _, e, _⟩, _⟩ := x; exact Heap.lt_size e
 | rng lo hi => obtain ⟨_, _, _, e⟩ := x; exact Heap.lt_size e
 | frz ob u => obtain ⟨e, _⟩ := x; exact Heap.lt_size e
 | tbl ps => exact Heap.lt_size (show h.get? a = some _ from x)
 | met f y => exact Heap.lt_size (show h.get? a = some _ from x)
 | ext φ => obtain ⟨_, ⟨_, e⟩, _⟩ := x; exact Heap.lt_size e
theorem Paired.mapP {α β : Type} {F G : α → β → Prop} : ∀ {l₁ : List α} {l₂ : List β}, Paired F l₁ l₂ → (∀ a b, F a b → G a b) → Paired G l₁ l₂
 | _, _, .nil, _ => .nil
 | _, _, .cons r t, f => .cons (f _ _ r) (Paired.mapP t f)
theorem ObjOk.stay (x : ObjOk P w H h a o) (k : ∀ b u, (b = a ∨ H b = some (.own a)) → h.get? b = some u → h'.get? b = some u)
  (ho : ∀ b, H b = some (.own a) → H' b = some (.own a)) (ht : ∀ b xs, H b = some (.tup xs) → H' b = some (.tup xs)) : ObjOk P w H' h' a o := by
 induction o with
 | lst xs => obtain ⟨z, its, n, r, e⟩ := x; exact ⟨z, its, n, r, k _ _ (.inl rfl) e⟩
 | tup xs => obtain ⟨z, its, r, ⟨ob, e, c⟩, ob2, e2, c2⟩ := x; exact ⟨z, its, r, ⟨ob, k _ _ (.inl rfl) e, c⟩, ob2, k _ _ (.inl rfl) e2, c2⟩
 | dK kvs => obtain ⟨z, y, vs, r, ob, es, ep, e, c⟩ := x; exact ⟨z, y, vs, r, ob, es, ep, k _ _ (.inl rfl) e, c⟩
 | dT kvs =>
  obtain ⟨z, y, xs, r, ob, es, ep, e, c⟩ := x
  exact ⟨z, y, xs, Paired.mapP r fun p q z => ⟨z.1, ht _ _ z.2.1, z.2.2⟩, ob, es, ep, k _ _ (.inl rfl) e, c⟩
 | set S n => obtain ⟨ob, es, ep, t, e, c⟩ := x; exact ⟨ob, es, ep, t, k _ _ (.inl rfl) e, c⟩
 | ins C dx fs =>
  obtain ⟨d, z, ne, e, mA, ⟨od, es, ep, e2, c⟩, r⟩ := x
  exact ⟨ho _ d, z, ne, k _ _ (.inl rfl) e, mA, ⟨od, es, ep, k _ _ (.inr d) e2, c⟩, r⟩
 | own y => obtain ⟨ob, e⟩ := x; exact ⟨ob, k _ _ (.inl rfl) e⟩
 | xd fs => obtain ⟨mA, ⟨od, es, ep, e, c⟩, r⟩ := x; exact ⟨mA, ⟨od, es, ep, k _ _ (.inl rfl) e, c⟩, r⟩
 | rng lo hi => obtain ⟨t, u, v, e⟩ := x; exact ⟨t, u, v, k _ _ (.inl rfl) e⟩
 | frz ob u ih => obtain ⟨e, q⟩ := x; exact ⟨k _ _ (.inl rfl) e, ih q⟩
 | tbl ps =>
  have e : h.get? a = some { cls := .none, data := .fields ps } := x
  show h'.get? a = some { cls := .none, data := .fields ps }
  exact k a _ (.inl rfl) e
 | met f y =>
  have e : h.get? a = some (PySem.W.methodObj (.ref f) (.ref y)) := x
  show h'.get? a = some (PySem.W.methodObj (.ref f) (.ref y))
  exact k a _ (.inl rfl) e
 | ext φ => obtain ⟨p, ⟨o, e⟩, st⟩ := x; exact ⟨st _ _ p fun o q => k _ _ (.inl rfl) q, ⟨o, k _ _ (.inl rfl) e⟩, st⟩
theorem HOk.lt (x : HOk P w H h) (e : H a = some o) : a < h.objs.size := (x a o e).lt
theorem HOk.fresh (x : HOk P w H h) (e : h.objs.size ≤ a) : H a = none := by
 cases q : H a with
 | none => rfl
 | some u => exact absurd (Nat.lt_of_lt_of_le (x.lt q) e) (Nat.lt_irrefl _)
theorem HOk.kept (x : HOk P w H h) (k : ∀ b u, h.get? b = some u → h'.get? b = some u) : HOk P w H h' := fun a o e =>
 (x a o e).stay (fun b u _ q => k b u q) (fun _ q => q) fun _ _ q => q
theorem HOk.laid (x : HOk P w H h) (k : ∀ b u, h.get? b = some u → h'.get? b = some u) (hp : h.objs.size ≤ a) (new : ObjOk P w (upd H a o) h' a o) : HOk P w (upd H a o) h' := fun b u e => by
 have hn := x.fresh hp
 by_cases hb : b = a
 ·subst hb; rw [upd_same] at e; cases e; exact new
 ·rw [upd_ne hb] at e
  exact (x b u e).stay (fun c v _ q => k c v q) (fun c q => by rw [upd_ne (ne_of_none q hn)]; exact q) fun c xs q => by rw [upd_ne (ne_of_none q hn)]; exact q
end
def Rd (H : Hp) (a : Addr) (u : HO) : Prop := H a = some u ∨ ∃ o, H a = some (.frz o u)
theorem Rd.of {H : Hp} {a : Addr} {u : HO} (h : H a = some u) : Rd H a u := .inl h
theorem Rd.ok {P : Program} {w : World} {H : Hp} {h : Heap} {a : Addr} {u : HO} (r : Rd H a u) (x : HOk P w H h) : ObjOk P w H h a u := by
 rcases r with r | ⟨o, r⟩
 ·exact x a u r
 ·obtain ⟨_, q⟩ := x a _ r
  exact q
def Mut : Option HO → Prop
 | some (.lst _) => True
 | some (.dK _) => True
 | some (.dT _) => True
 | some (.set _ _) => True
 | some (.ins _ _ _) => True
 | some (.ext _) => True
 | _ => False
section
variable {P : Program} {w : World} {H : Hp} {h h' : Heap} {x e : Addr} {o' : HO}
theorem HOk.write (ok : HOk P w H h) (mu : Mut (H x)) (he : e = x ∨ H e = some (.own x)) (k : ∀ b u, b ≠ e → h.get? b = some u → h'.get? b = some u) (heo : ∃ u, h'.get? e = some u)
  (new : ObjOk P w (upd H x o') h' x o') : HOk P w (upd H x o') h' := fun b u q => by
 have nown : ∀ c y, H c = some (.own y) → c ≠ x := fun c y r z => by subst z; rw [r] at mu; exact mu
 have ntup : ∀ c xs, H c = some (.tup xs) → c ≠ x := fun c xs r z => by subst z; rw [r] at mu; exact mu
 by_cases hb : b = x
 ·subst hb; rw [upd_same] at q; cases q; exact new
 ·rw [upd_ne hb] at q
  by_cases hbe : b = e
  ·have q' : H b = some (.own x) := by
    rcases he with z | z
    ·exact absurd (hbe.trans z) hb
    ·rw [hbe]; exact z
   rw [q] at q'; cases q'
   obtain ⟨v, hv⟩ := heo
   exact ⟨v, by rw [hbe]; exact hv⟩
  ·refine (ok b u q).stay (fun c v hc r => k c v ?_ r) (fun c r => by rw [upd_ne (nown c b r)]; exact r) fun c xs r => by rw [upd_ne (ntup c xs r)]; exact r
   rcases hc with rfl | hc
   ·exact hbe
   ·rintro rfl
    rcases he with z | z
    ·exact nown c b hc z
    ·rw [hc] at z; cases z; exact hb rfl
end
structure Un (fs ex : List Addr) (H H' : Hp) (h h' : Heap) : Prop where
 keep : ∀ b o, h.get? b = some o → H b = none → b ∉ fs → b ∉ ex → h'.get? b = some o
 slot : ∀ b o, h.get? b = some o → H b = none → b ∈ fs → b ∉ ex → ∃ sl, h'.get? b = some { o with slots := sl }
 free : ∀ b o, h.get? b = some o → H b = none → b ∉ ex → H' b = none
 there : ∀ b o, h.get? b = some o → b ∉ ex → ∃ o', h'.get? b = some o'
 tups : ∀ b xs, H b = some (.tup xs) → H' b = some (.tup xs)
 frzs : ∀ b o u, H b = some (.frz o u) → H' b = some (.frz o u)
 tbls : ∀ b ps, H b = some (.tbl ps) → ∃ more, H' b = some (.tbl (ps ++ more))
section
variable {fs fs' ex ex' : List Addr} {H H1 H2 : Hp} {h h1 h2 h' : Heap} {a x e : Addr} {o : HO}
theorem Un.any (u : Un fs ex H H1 h h1) {b : Addr} {ob : Obj} (q : h.get? b = some ob) (n : H b = none) (hx : b ∉ ex) : ∃ sl, h1.get? b = some { ob with slots := sl } := by
 by_cases hb : b ∈ fs
 ·exact u.slot b ob q n hb hx
 ·exact ⟨ob.slots, u.keep b ob q n hb hx⟩
theorem Un.trans (a : Un fs ex H H1 h h1) (b : Un fs ex H1 H2 h1 h2) : Un fs ex H H2 h h2 where
 keep := fun c ob q n hc hx => b.keep c ob (a.keep c ob q n hc hx) (a.free c ob q n hx) hc hx
 slot := fun c ob q n hc hx => by
  obtain ⟨sl, e1⟩ := a.slot c ob q n hc hx
  obtain ⟨sl', e2⟩ := b.slot c _ e1 (a.free c ob q n hx) hc hx
  exact ⟨sl', e2⟩
 free := fun c ob q n hx => by
  obtain ⟨o', e1⟩ := a.there c ob q hx
  exact b.free c o' e1 (a.free c ob q n hx) hx
 there := fun c ob q hx => by
  obtain ⟨o', e1⟩ := a.there c ob q hx
  exact b.there c o' e1 hx
 tups := fun c xs q => b.tups c xs (a.tups c xs q)
 frzs := fun c ob xs q => b.frzs c ob xs (a.frzs c ob xs q)
 tbls := fun c ps q => by
  obtain ⟨m1, e1⟩ := a.tbls c ps q
  obtain ⟨m2, e2⟩ := b.tbls c _ e1
  exact ⟨m1 ++ m2, by rw [e2, Array.append_assoc]⟩
theorem Un.kept (k : ∀ b u, h.get? b = some u → h'.get? b = some u) : Un fs ex H H h h' :=
 ⟨fun b ob q _ _ _ => k b ob q, fun b ob q _ _ _ => ⟨ob.slots, k b ob q⟩, fun _ _ _ n _ => n, fun b ob q _ => ⟨ob, k b ob q⟩, fun _ _ q => q, fun _ _ _ q => q, fun _ ps q => ⟨#[], by rw [q]; simp⟩⟩
theorem Un.refl : Un fs ex H H h h := Un.kept fun _ _ q => q
theorem Un.laid (k : ∀ b u, h.get? b = some u → h'.get? b = some u) (hp : h.objs.size ≤ a) (hn : H a = none) : Un fs ex H (upd H a o) h h' where
 keep := fun b u q _ _ _ => k b u q
 slot := fun b u q _ _ _ => ⟨u.slots, k b u q⟩
 free := fun b u q n _ => by rw [upd_ne (Nat.ne_of_lt (Nat.lt_of_lt_of_le (Heap.lt_size q) hp))]; exact n
 there := fun b u q _ => ⟨u, k b u q⟩
 tups := fun b xs q => by rw [upd_ne (ne_of_none q hn)]; exact q
 frzs := fun b u xs q => by rw [upd_ne (ne_of_none q hn)]; exact q
 tbls := fun b ps q => ⟨#[], by rw [upd_ne (ne_of_none q hn), q]; simp⟩
theorem Un.write (mu : Mut (H x)) (he : e = x ∨ H e = some (.own x)) (k : ∀ b u, b ≠ e → h.get? b = some u → h'.get? b = some u) (heo : ∃ u, h'.get? e = some u) : Un fs ex H (upd H x o) h h' := by
 have hx : ∀ b, H b = none → b ≠ x := fun b n z => by subst z; rw [n] at mu; exact mu
 have hb : ∀ b, H b = none → b ≠ e := fun b n z => by
  subst z
  rcases he with r | r
  ·exact hx b n r
  ·rw [n] at r; cases r
 have hm : ∀ b u, H b = some u → ¬ Mut (some u) → b ≠ x := fun b u q nm z => by subst z; rw [q] at mu; exact nm mu
 refine ⟨fun b u q n _ _ => k b u (hb b n) q, fun b u q n _ _ => ⟨u.slots, k b u (hb b n) q⟩, fun b u q n _ => by rw [upd_ne (hx b n)]; exact n, fun b u q _ => ?_,
  fun b xs q => by rw [upd_ne (hm b _ q fun z => z)]; exact q, fun b u xs q => by rw [upd_ne (hm b _ q fun z => z)]; exact q, fun b ps q => ⟨#[], by rw [upd_ne (hm b _ q fun z => z), q]; simp⟩⟩
 by_cases hbe : b = e
 ·subst hbe; exact heo
 ·exact ⟨u, k b u hbe q⟩
theorem Un.mono (u : Un fs ex H H1 h h1) (hs : ∀ b ∈ fs, b ∈ fs') (hx : ∀ b ∈ ex, b ∈ ex') : Un fs' ex' H H1 h h1 :=
 ⟨fun b ob q n hb he => u.keep b ob q n (fun z => hb (hs b z)) fun z => he (hx b z), fun _ _ q n _ he => u.any q n fun z => he (hx _ z), fun b ob q n he => u.free b ob q n fun z => he (hx b z), fun b ob q he => u.there b ob q fun z => he (hx b z), u.tups, u.frzs, u.tbls⟩
end
def trk (h : Heap) (H : Hp) : List Addr := (List.range h.objs.size).filter fun a => (H a).isSome
def hidT (h : Heap) (H : Hp) : Heap := PySem.W.hideAll h (trk h H)
theorem hidT_size (h : Heap) (H : Hp) : (hidT h H).objs.size = h.objs.size := PySem.W.hideAll_size _ _
theorem hidT_get {h : Heap} {H : Hp} {b : Addr} {o : Obj} (e : h.get? b = some o) (n : H b = none) : (hidT h H).get? b = some o :=
 PySem.W.hideAll_get _ e fun hm => by
  have q : (H b).isSome = true := (List.mem_filter.mp hm).2
  rw [n] at q; simp at q
theorem of_hidT {h : Heap} {H : Hp} {b : Addr} {o : Obj} (e : (hidT h H).get? b = some o) : h.get? b = some o ∧ H b = none := by
 have e' : h.get? b = some o := PySem.W.of_hideAll (trk h H) e
 refine ⟨e', ?_⟩
 cases q : H b with
 | none => rfl
 | some x =>
  have hm : b ∈ trk h H := List.mem_filter.mpr ⟨List.mem_range.mpr (Heap.lt_size e'), by simp [q]⟩
  have z : (hidT h H).get? b = none := PySem.W.hideAll_none (trk h H) hm
  rw [z] at e; cases e
def allNews (g h : Heap) (L : Addr) : List (Addr × Obj) := (List.range h.objs.size).filterMap fun a => if a = L ∨ (g.get? a).isSome = true then none else (h.get? a).map fun o => (a, o)
def rest (g h : Heap) (L d : Addr) : List (Addr × Obj) := (allNews g h L).filter fun p => decide (p.1 ≠ d)
end L2
namespace L2
open PySem PySem.Spec PyProof.Rows
structure Mod (K : PySem.W.Frag) (mg : Str → Option Value) (base : Heap) : Prop where
 kin : K.In base
 glob : base.Ns mainGlobals mg
 blt : ∃ mb, base.Ns builtinsNs mb ∧ ∀ x : Str, x ≠ "__name__" → mb x = bootBuiltins x
 nolimit : base.NoLimit
structure Cx where
 prog : Program
 w : World
 K : PySem.W.Frag
 mg : Str → Option Value
 base : Heap
 A : Around
 N : List Str
 s₀ : Shared
 H₀ : Hp
 env : Env
 outer : List Env
 stack : List Env
 ex : List Addr
 fn : Str → Bool
 calm : Bool
 pn : List (Addr × Obj)
 xe : Value → Shared → Prop
def frs (l : List Env) : List Addr := l.filterMap (·.frame)
abbrev Cx.fs (X : Cx) : List Addr := frs X.outer
def Vis (sc : Scope) (x : Str) : Prop := sc.names.lookup x = some .local ∨ sc.names.lookup x = some .cell ∨ sc.names.lookup x = some .free
def Loc (sc : Scope) (x : Str) : Prop := sc.names.lookup x = some .local ∨ sc.names.lookup x = some .cell
def Look (env : Env) (h : Heap) (m : Str → Option Value) (x : Str) (u : Value) : Prop :=
 (env.kindOf x = some .local ∧ m x = some u) ∨ ((env.kindOf x = some .cell ∨ env.kindOf x = some .free) ∧ ∃ c, env.cells.lookup x = some c ∧ h.IsCell c (some u))
structure Cx.Ok (X : Cx) : Prop where
 mod : Mod X.K X.mg X.base
 kind : X.env.scope.kind = .function
 glob : X.env.globals = mainGlobals
 blt : X.env.builtins = builtinsNs
 above : X.s₀.heap.objs.size ≤ X.env.locals
 inj : ∀ x y c, X.env.cells.lookup x = some c → X.env.cells.lookup y = some c → x = y
 has : ∀ x, (X.env.kindOf x = some .cell ∨ X.env.kindOf x = some .free) → ∃ c, X.env.cells.lookup x = some c
 cab : ∀ x c, X.fn x = true → X.env.cells.lookup x = some c → X.s₀.heap.objs.size ≤ c
 hd : X.calm = true → X.A.handled = none
 frames : X.A.frames = some X.stack
 stk : X.stack = X.outer ∨ (X.stack = X.env :: X.outer ∧ X.env.frame = some X.env.locals)
 exf : ∀ b ∈ X.ex, b ≠ X.env.locals ∧ ∀ x c, X.env.cells.lookup x = some c → c ≠ b
 bs : ∀ b o, X.base.get? b = some o → X.s₀.heap.get? b = some o ∧ X.H₀ b = none
 bsz : X.base.objs.size ≤ X.s₀.heap.objs.size
 noex : ∀ b o, X.base.get? b = some o → b ∉ X.ex
 exfs : ∀ b ∈ X.ex, b ∉ X.fs
 funs : X.s₀.heap.FunFrames X.base X.outer
 frf : ∀ b ∈ X.fs, X.H₀ b = none
structure Inv (X : Cx) (pins : List (Addr × Obj)) (σ : List (Option V)) (H : Hp) (s : Shared) : Prop where
 ok : X.Ok
 os : s.os = X.s₀.os
 bare : AllBare s.gens
 base : Un X.fs X.ex X.H₀ H X.s₀.heap s.heap
 loc : ∃ m, s.heap.Ns X.env.locals m ∧ ∀ (i : Nat) (x : Str) (v : V), X.N[i]? = some x → σ[i]? = some (some v) → Vis X.env.scope x → ∃ u, RelV v u ∧ Look X.env s.heap m x u
 cell : ∀ x c, X.env.cells.lookup x = some c → ∃ v, s.heap.IsCell c v
 free : H X.env.locals = none
 freeC : ∀ x c, X.env.cells.lookup x = some c → H c = none
 pin : ∀ p ∈ X.pn ++ pins, s.heap.get? p.1 = some p.2 ∧ H p.1 = none ∧ p.1 ≠ X.env.locals ∧ p.1 ∉ X.fs ∧ ∀ v, p.2.data ≠ .cell v
 hok : HOk X.prog X.w H s.heap
 len : σ.length = X.N.length
section
variable {X : Cx} {pins : List (Addr × Obj)} {σ : List (Option V)} {H H' : Hp} {s : Shared} {h' : Heap}
theorem Cx.Ok.nofr (ok : X.Ok) {b : Addr} {o : Obj} (e : X.base.get? b = some o) : b ∉ X.fs := fun hb => by
 have := (ok.funs.mem hb).1
 rw [e] at this; cases this
theorem Inv.bs (I : Inv X pins σ H s) : ∀ b o, X.base.get? b = some o → s.heap.get? b = some o ∧ H b = none := fun b o e =>
 ⟨I.base.keep b o (I.ok.bs b o e).1 (I.ok.bs b o e).2 (I.ok.nofr e) (I.ok.noex b o e), I.base.free b o (I.ok.bs b o e).1 (I.ok.bs b o e).2 (I.ok.noex b o e)⟩
theorem Inv.bk (I : Inv X pins σ H s) : ∀ b o, X.base.get? b = some o → s.heap.get? b = some o := fun b o e => (I.bs b o e).1
theorem Inv.mod (I : Inv X pins σ H s) : Mod X.K X.mg X.base := I.ok.mod
theorem Inv.kIn (I : Inv X pins σ H s) : X.K.In s.heap := I.ok.mod.kin.keeps I.bk
theorem Inv.nolimit (I : Inv X pins σ H s) : s.heap.NoLimit := I.ok.mod.nolimit.keeps I.bk
theorem Inv.fr (I : Inv X pins σ H s) : ∃ m, Fr X.base X.env.locals s.heap m :=
 let ⟨m, hn, _⟩ := I.loc
 ⟨m, hn, I.bk, Nat.le_trans I.ok.bsz I.ok.above⟩
theorem Inv.lt (I : Inv X pins σ H s) : X.env.locals < s.heap.objs.size := let ⟨_, hn, _⟩ := I.loc; hn.lt
theorem Inv.sz (I : Inv X pins σ H s) : X.s₀.heap.objs.size ≤ s.heap.objs.size := Nat.le_trans I.ok.above (Nat.le_of_lt I.lt)
theorem Inv.nofs (I : Inv X pins σ H s) {a : Addr} (h : s.heap.objs.size ≤ a) : a ∉ X.fs := fun hb => by
 obtain ⟨_, o, ho, _⟩ := I.ok.funs.mem hb
 exact absurd (Nat.lt_of_lt_of_le (Heap.lt_size ho) (Nat.le_trans I.sz h)) (Nat.lt_irrefl _)
theorem Inv.cne (I : Inv X pins σ H s) : ∀ x c, X.env.cells.lookup x = some c → c ≠ X.env.locals := fun x c e z => by
 obtain ⟨v, o, ho, hd⟩ := I.cell x c e
 obtain ⟨m, ⟨o', es, ep, ho', hd', _⟩, _⟩ := I.loc
 rw [z, ho'] at ho; cases ho; rw [hd'] at hd; cases hd
theorem Inv.funs (I : Inv X pins σ H s) : s.heap.FunFrames X.base X.outer := by
 have all : ∀ (l : List Env), (∀ b ∈ frs l, b ∈ X.fs) → X.s₀.heap.FunFrames X.base l → s.heap.FunFrames X.base l := by
  intro l
  induction l with
  | nil => intro _ _; trivial
  | cons env r ih =>
   intro hs hl
   obtain ⟨hk, ⟨L, o, hf, hn, ho, hd⟩, hr⟩ := hl
   have hL : L ∈ X.fs := hs L (by unfold frs; rw [List.filterMap_cons, hf]; exact List.mem_cons_self)
   obtain ⟨sl, e⟩ := I.base.slot L o ho (I.ok.frf L hL) hL fun z => I.ok.exfs L z hL
   exact ⟨hk, ⟨L, _, hf, hn, e, hd⟩, ih (fun b hb => hs b (by unfold frs; rw [List.filterMap_cons, hf]; exact List.mem_cons_of_mem _ hb)) hr⟩
 exact all X.outer (fun _ hb => hb) I.ok.funs
theorem Inv.stack (I : Inv X pins σ H s) : s.heap.FunFrames X.base X.stack := by
 rcases I.ok.stk with e | ⟨e, hf⟩
 ·rw [e]; exact I.funs
 ·rw [e]
  obtain ⟨m, hn, _⟩ := I.loc
  refine .cons (by rw [I.ok.kind]; decide) hf hn ?_ I.funs
  exact Heap.get?_none_of_le (Nat.le_trans I.ok.bsz I.ok.above)
theorem Inv.stkSub (I : Inv X pins σ H s) : ∀ b ∈ frs X.stack, b ∈ X.env.locals :: X.fs := fun b hb => by
 rcases I.ok.stk with e | ⟨e, hf⟩
 ·rw [e] at hb; exact List.mem_cons_of_mem _ hb
 ·rw [e] at hb
  unfold frs at hb
  rw [List.filterMap_cons, hf] at hb
  exact hb
theorem Inv.stkFree (I : Inv X pins σ H s) : ∀ b ∈ frs X.stack, H b = none := fun b hb => by
 rcases List.mem_cons.mp (I.stkSub b hb) with e | hb
 ·rw [e]; exact I.free
 ·obtain ⟨_, o, ho, _⟩ := I.ok.funs.mem hb
  exact I.base.free b o ho (I.ok.frf b hb) fun z => I.ok.exfs b z hb
theorem Inv.step {g' : Array GenState} {t' : Nat} {d' : Drawn} {ch : List Addr} (I : Inv X pins σ H s)
  (hch : ∀ b ∈ ch, (b ∈ X.ex ∨ X.s₀.heap.objs.size ≤ b) ∧ b ≠ X.env.locals ∧ (∀ x c, X.env.cells.lookup x = some c → c ≠ b) ∧ ∀ p ∈ X.pn ++ pins, p.1 ≠ b)
  (keep : ∀ b o, b ≠ X.env.locals → b ∉ X.fs → b ∉ ch → s.heap.get? b = some o → H b = none → h'.get? b = some o)
  (slot : ∀ b o, b ≠ X.env.locals → b ∈ X.fs → b ∉ ch → s.heap.get? b = some o → H b = none → ∃ sl, h'.get? b = some { o with slots := sl }) (free : ∀ b o, b ∉ ch → s.heap.get? b = some o → H b = none → H' b = none)
  (there : ∀ b o, b ∉ ch → s.heap.get? b = some o → ∃ o', h'.get? b = some o')
  (tups : ∀ b xs, H b = some (.tup xs) → H' b = some (.tup xs)) (frzs : ∀ b o u, H b = some (.frz o u) → H' b = some (.frz o u)) (tbls : ∀ b ps, H b = some (.tbl ps) → ∃ more, H' b = some (.tbl (ps ++ more)))
  (ns : ∀ m, s.heap.Ns X.env.locals m → h'.Ns X.env.locals m) (hok : HOk X.prog X.w H' h') (hg : AllBare g') :
  Inv X pins σ H' { s with heap := h', gens := g', drawn := d', toks := t' } := by
 have neL : ∀ b o, X.s₀.heap.get? b = some o → b ≠ X.env.locals := fun b o e => Nat.ne_of_lt (Nat.lt_of_lt_of_le (Heap.lt_size e) I.ok.above)
 have neC : ∀ b o, X.s₀.heap.get? b = some o → b ∉ X.ex → b ∉ ch := fun b o e hx hb => by
  rcases (hch b hb).1 with z | z
  ·exact hx z
  ·exact absurd (Nat.lt_of_lt_of_le (Heap.lt_size e) z) (Nat.lt_irrefl _)
 have cellK : ∀ x c, X.env.cells.lookup x = some c → ∀ v, s.heap.IsCell c v → h'.IsCell c v := fun x c e v ⟨o, ho, hd⟩ => by
  have nch : c ∉ ch := fun z => (hch c z).2.2.1 x c e rfl
  by_cases hc : c ∈ X.fs
  ·obtain ⟨sl, q⟩ := slot c o (I.cne x c e) hc nch ho (I.freeC x c e)
   exact ⟨_, q, hd⟩
  ·exact ⟨o, keep c o (I.cne x c e) hc nch ho (I.freeC x c e), hd⟩
 refine ⟨I.ok, I.os, hg, ⟨fun b o e n hb hx => ?_, fun b o e n hb hx => ?_, fun b o e n hx => ?_, fun b o e hx => ?_, fun b xs e => tups b xs (I.base.tups b xs e), fun b o xs e => frzs b o xs (I.base.frzs b o xs e), fun b ps e => ?_⟩, ?_, fun x c e => ?_, ?_, fun x c e => ?_, fun p hp => ?_, hok, I.len⟩
 ·exact keep b o (neL b o e) hb (neC b o e hx) (I.base.keep b o e n hb hx) (I.base.free b o e n hx)
 ·obtain ⟨sl, e1⟩ := I.base.slot b o e n hb hx
  obtain ⟨sl', e2⟩ := slot b _ (neL b o e) hb (neC b o e hx) e1 (I.base.free b o e n hx)
  exact ⟨sl', e2⟩
 ·obtain ⟨o', e1⟩ := I.base.there b o e hx
  exact free b o' (neC b o e hx) e1 (I.base.free b o e n hx)
 ·obtain ⟨o', e1⟩ := I.base.there b o e hx
  exact there b o' (neC b o e hx) e1
 ·obtain ⟨m1, e1⟩ := I.base.tbls b ps e
  obtain ⟨m2, e2⟩ := tbls b _ e1
  exact ⟨m1 ++ m2, by rw [e2, Array.append_assoc]⟩
 ·obtain ⟨m, hn, hl⟩ := I.loc
  refine ⟨m, ns m hn, fun i x v e1 e2 e3 => ?_⟩
  obtain ⟨u, r, l⟩ := hl i x v e1 e2 e3
  refine ⟨u, r, ?_⟩
  rcases l with l | ⟨k, c, e, z⟩
  ·exact .inl l
  ·exact .inr ⟨k, c, e, cellK x c e _ z⟩
 ·obtain ⟨v, z⟩ := I.cell x c e
  exact ⟨v, cellK x c e v z⟩
 ·obtain ⟨m, ⟨o, _, _, ho, _⟩, _⟩ := I.loc
  exact free _ o (fun z => (hch _ z).2.1 rfl) ho I.free
 ·obtain ⟨v, o, ho, hd⟩ := I.cell x c e
  exact free c o (fun z => (hch c z).2.2.1 x c e rfl) ho (I.freeC x c e)
 ·obtain ⟨e, n, ne, nf, d⟩ := I.pin p hp
  have nch : p.1 ∉ ch := fun z => (hch p.1 z).2.2.2 p hp rfl
  exact ⟨keep p.1 p.2 ne nf nch e n, free p.1 p.2 nch e n, ne, nf, d⟩
theorem Inv.un {t' : Nat} (I : Inv X pins σ H s) (u : Un X.fs [] H H' s.heap h') (hok : HOk X.prog X.w H' h') : Inv X pins σ H' { s with heap := h', toks := t' } := by
 obtain ⟨m, ⟨o, es, ep, ho, r⟩, _⟩ := id I.loc
 obtain ⟨sl, hL⟩ := u.any ho I.free (by simp)
 exact I.step (g' := s.gens) (d' := s.drawn) (ch := []) (fun _ z => nomatch z) (fun b o _ hb _ e n => u.keep b o e n hb (by simp)) (fun b o _ hb _ e n => u.slot b o e n hb (by simp)) (fun b o _ e n => u.free b o e n (by simp)) (fun b o _ e => u.there b o e (by simp)) u.tups u.frzs u.tbls (fun m' hm => by
  obtain ⟨o', es', ep', ho', r'⟩ := hm
  rw [ho] at ho'; cases ho'
  exact ⟨_, es', ep', hL, r'⟩) hok I.bare
theorem Inv.call {g' : Array GenState} {t' : Nat} {d' : Drawn} {ch : List Addr} (I : Inv X pins σ H s) (u : Un (frs X.stack) ch H H' s.heap h') (hok : HOk X.prog X.w H' h') (hg : AllBare g')
  (hch : ∀ b ∈ ch, (b ∈ X.ex ∨ X.s₀.heap.objs.size ≤ b) ∧ b ≠ X.env.locals ∧ (∀ x c, X.env.cells.lookup x = some c → c ≠ b) ∧ ∀ p ∈ X.pn ++ pins, p.1 ≠ b) :
  Inv X pins σ H' { s with heap := h', gens := g', drawn := d', toks := t' } := by
 obtain ⟨m, ⟨o, es, ep, ho, r⟩, _⟩ := id I.loc
 obtain ⟨sl, hL⟩ := u.any ho I.free fun z => (hch _ z).2.1 rfl
 exact I.step (ch := ch) hch (fun b o hL hb hc e n => u.keep b o e n (fun z => (List.mem_cons.mp (I.stkSub b z)).elim hL hb) hc) (fun b o _ _ hc e n => u.any e n hc) (fun b o hc e n => u.free b o e n hc) (fun b o hc e => u.there b o e hc) u.tups u.frzs u.tbls (fun m' hm => by
  obtain ⟨o', es', ep', ho', r'⟩ := hm
  rw [ho] at ho'; cases ho'
  exact ⟨_, es', ep', hL, r'⟩) hok hg
theorem Inv.turned {t' : Nat} {it : Addr} (I : Inv X pins σ H s) (k : ∀ b o, b ≠ it → s.heap.get? b = some o → h'.get? b = some o) (hn : H it = none) (hL : it ≠ X.env.locals)
  (h1 : it ∈ X.ex ∨ X.s₀.heap.objs.size ≤ it) (h2 : ∀ x c, X.env.cells.lookup x = some c → c ≠ it) (h3 : ∀ p ∈ X.pn ++ pins, p.1 ≠ it) : Inv X pins σ H { s with heap := h', toks := t' } := by
 have nit : ∀ b u, H b = some u → b ≠ it := fun b u e z => by rw [z, hn] at e; cases e
 refine I.step (g' := s.gens) (d' := s.drawn) (ch := [it]) (fun b hb => ?_) (fun b o _ _ hc e _ => k b o (fun z => hc (by simp [z])) e) (fun b o _ _ hc e _ => ⟨o.slots, k b o (fun z => hc (by simp [z])) e⟩) (fun _ _ _ _ n => n)
  (fun b o hc e => ⟨o, k b o (fun z => hc (by simp [z])) e⟩) (fun _ _ e => e) (fun _ _ _ e => e) (fun b ps e => ⟨#[], by rw [e]; simp⟩) (fun m hm => ?_) (fun b u e => ?_) I.bare
 ·have e : b = it := by simpa using hb
  subst e
  exact ⟨h1, hL, h2, h3⟩
 ·obtain ⟨o, es, ep, ho, r⟩ := hm
  exact ⟨o, es, ep, k _ o (Ne.symm hL) ho, r⟩
 ·refine (I.hok b u e).stay (fun c v hc q => k c v ?_ q) (fun _ q => q) fun _ _ q => q
  rcases hc with z | z
  ·rw [z]; exact nit b u e
  ·exact nit c _ z
theorem Inv.tok (I : Inv X pins σ H s) (t : Nat) : Inv X pins σ H { s with toks := t } := I.un (h' := s.heap) (t' := t) Un.refl I.hok
theorem Inv.kept {t' : Nat} (I : Inv X pins σ H s) (k : ∀ b u, s.heap.get? b = some u → h'.get? b = some u) : Inv X pins σ H { s with heap := h', toks := t' } := I.un (Un.kept k) (I.hok.kept k)
theorem Inv.laid {a : Addr} {o : HO} {t' : Nat} (I : Inv X pins σ H s) (k : ∀ b u, s.heap.get? b = some u → h'.get? b = some u) (hp : s.heap.objs.size ≤ a) (new : ObjOk X.prog X.w (upd H a o) h' a o) :
  Inv X pins σ (upd H a o) { s with heap := h', toks := t' } := I.un (Un.laid k hp (I.hok.fresh hp)) (I.hok.laid k hp new)
theorem Inv.write {x e : Addr} {o : HO} {t' : Nat} (I : Inv X pins σ H s) (mu : Mut (H x)) (he : e = x ∨ H e = some (.own x)) (k : ∀ b u, b ≠ e → s.heap.get? b = some u → h'.get? b = some u) (heo : ∃ u, h'.get? e = some u)
  (new : ObjOk X.prog X.w (upd H x o) h' x o) : Inv X pins σ (upd H x o) { s with heap := h', toks := t' } := I.un (Un.write mu he k heo) (I.hok.write mu he k heo new)
theorem Inv.weak {σ' : List (Option V)} (I : Inv X pins σ H s) (hl : σ'.length = σ.length) (w : ∀ (i : Nat) v, σ'[i]? = some (some v) → σ[i]? = some (some v)) : Inv X pins σ' H s :=
 ⟨I.ok, I.os, I.bare, I.base, let ⟨m, hn, hl'⟩ := I.loc; ⟨m, hn, fun i x v e1 e2 e3 => hl' i x v e1 (w i v e2) e3⟩, I.cell, I.free, I.freeC, I.pin, I.hok, hl.trans I.len⟩
theorem Inv.pins_of {pins' : List (Addr × Obj)} (I : Inv X pins σ H s) (h : ∀ p ∈ pins', s.heap.get? p.1 = some p.2 ∧ H p.1 = none ∧ p.1 ≠ X.env.locals ∧ p.1 ∉ X.fs ∧ ∀ v, p.2.data ≠ .cell v) : Inv X pins' σ H s :=
 ⟨I.ok, I.os, I.bare, I.base, I.loc, I.cell, I.free, I.freeC, fun p hp => (List.mem_append.mp hp).elim (fun z => I.pin p (List.mem_append_left _ z)) (h p), I.hok, I.len⟩
theorem nodup_ix {N : List Str} (hN : N.Nodup) {i j : Nat} {x : Str} (a : N[i]? = some x) (b : N[j]? = some x) : i = j := by
 obtain ⟨h1, e1⟩ := List.getElem?_eq_some_iff.mp a
 obtain ⟨h2, e2⟩ := List.getElem?_eq_some_iff.mp b
 exact (List.getElem_inj hN).mp (e1.trans e2.symm)
theorem store_ok2 {M : Model} {A : Around} {E : Value → Shared → Prop} {i : Nat} {x : Str} {v : V} {u : Value} {Q : Unit → Shared → Prop} (I : Inv X pins σ H s) (hN : X.N.Nodup) (hi : X.N[i]? = some x) (hx : Loc X.env.scope x) (r : RelV v u)
  (h : ∀ s', Inv X pins (σ.set i (some v)) H s' → (∃ a, Heap.SameBut a s.heap s'.heap ∧ (a = X.env.locals ∨ X.env.cells.lookup x = some a)) → Q () s') (hf : X.fn x = true ∨ X.env.scope.names.lookup x = some .local := by first | exact .inl rfl | exact .inr rfl | assumption) : wpAny M A (storeName X.env x u) Q E s := by
 obtain ⟨m, hn, hl⟩ := id I.loc
 have hcls : (X.env.scope.kind == .class || (X.env.scope.kind == .module && X.env.locals != X.env.globals)) = false := by rw [I.ok.kind]; rfl
 have hiσ : i < σ.length := by rw [I.len]; exact (List.getElem?_eq_some_iff.mp hi).1
 have cne := I.cne
 have tracked : ∀ {a : Addr} {h' : Heap}, (∃ o, s.heap.get? a = some o ∧ H a = none) → Heap.SameBut a s.heap h' → HOk X.prog X.w H h' := fun {a h'} ha hs b ob e => by
  obtain ⟨_, _, hfree⟩ := ha
  refine (I.hok b ob e).stay (fun c w' hc q => (hs.2 c ?_).trans q) (fun _ q => q) fun _ _ q => q
  rintro rfl
  rcases hc with rfl | hc
  ·rw [hfree] at e; cases e
  ·rw [hfree] at hc; cases hc
 rcases hx with hk | hk
 ·refine wpAny_storeName_local hk hn (fun h' hn' hs => ?_) hcls
  obtain ⟨oL, _, _, hoL, _⟩ := id hn
  refine h _ ⟨I.ok, I.os, I.bare, ⟨fun b o e n hb hx => ?_, fun b o e n hb hx => ?_, I.base.free, fun b o e hx => ?_, I.base.tups, I.base.frzs, I.base.tbls⟩, ⟨_, hn', fun j y v' e1 e2 e3 => ?_⟩, fun y c e => ?_, I.free, I.freeC, fun p hp => ?_, tracked ⟨oL, hoL, I.free⟩ hs, by simpa using I.len⟩ ⟨_, hs, .inl rfl⟩
  ·exact (hs.2 b (Nat.ne_of_lt (Nat.lt_of_lt_of_le (Heap.lt_size e) I.ok.above))).trans (I.base.keep b o e n hb hx)
  ·obtain ⟨sl, e1⟩ := I.base.slot b o e n hb hx
   exact ⟨sl, (hs.2 b (Nat.ne_of_lt (Nat.lt_of_lt_of_le (Heap.lt_size e) I.ok.above))).trans e1⟩
  ·obtain ⟨o', e1⟩ := I.base.there b o e hx
   exact ⟨o', (hs.2 b (Nat.ne_of_lt (Nat.lt_of_lt_of_le (Heap.lt_size e) I.ok.above))).trans e1⟩
  ·by_cases hj : j = i
   ·subst hj
    rw [hi] at e1; cases e1
    rw [List.getElem?_set_self hiσ] at e2
    cases e2
    exact ⟨u, r, .inl ⟨hk, by simp⟩⟩
   ·rw [List.getElem?_set_ne (Ne.symm hj)] at e2
    obtain ⟨u', r', q⟩ := hl j y v' e1 e2 e3
    refine ⟨u', r', ?_⟩
    rcases q with ⟨k, e⟩ | ⟨k, c, e, z⟩
    ·refine .inl ⟨k, ?_⟩
     have : y ≠ x := fun e => hj (nodup_ix hN e1 (e ▸ hi))
     simp [this, e]
    ·exact .inr ⟨k, c, e, z.sameBut hs (cne y c e)⟩
  ·obtain ⟨w', z⟩ := I.cell y c e
   exact ⟨w', z.sameBut hs (cne y c e)⟩
  ·obtain ⟨e, n, ne, nf, d⟩ := I.pin p hp
   exact ⟨(hs.2 p.1 ne).trans e, n, ne, nf, d⟩
 ·have hfn : X.fn x = true := by
   rcases hf with z | z
   ·exact z
   ·rw [z] at hk; cases hk
  obtain ⟨c, hc⟩ := I.ok.has x (.inl hk)
  obtain ⟨w', z⟩ := I.cell x c hc
  refine wpAny_storeName_cell I.ok.kind hk hc z (fun h' hc' hs => ?_)
  obtain ⟨oc, hoc, hocd⟩ := id z
  refine h { s with heap := h' } ⟨I.ok, I.os, I.bare, ⟨fun b o e n hb hx => ?_, fun b o e n hb hx => ?_, I.base.free, fun b o e hx => ?_, I.base.tups, I.base.frzs, I.base.tbls⟩, ⟨m, hn.sameBut hs (Ne.symm (cne x c hc)), fun j y v' e1 e2 e3 => ?_⟩, fun y c' e => ?_, I.free, I.freeC, fun p hp => ?_, tracked ⟨oc, hoc, I.freeC x c hc⟩ hs, by simpa using I.len⟩ ⟨c, hs, .inr hc⟩
  ·exact (hs.2 b (Nat.ne_of_lt (Nat.lt_of_lt_of_le (Heap.lt_size e) (I.ok.cab x c hfn hc)))).trans (I.base.keep b o e n hb hx)
  ·obtain ⟨sl, e1⟩ := I.base.slot b o e n hb hx
   exact ⟨sl, (hs.2 b (Nat.ne_of_lt (Nat.lt_of_lt_of_le (Heap.lt_size e) (I.ok.cab x c hfn hc)))).trans e1⟩
  ·obtain ⟨o', e1⟩ := I.base.there b o e hx
   exact ⟨o', (hs.2 b (Nat.ne_of_lt (Nat.lt_of_lt_of_le (Heap.lt_size e) (I.ok.cab x c hfn hc)))).trans e1⟩
  ·by_cases hj : j = i
   ·subst hj
    rw [hi] at e1; cases e1
    rw [List.getElem?_set_self hiσ] at e2
    cases e2
    exact ⟨u, r, .inr ⟨.inl hk, c, hc, hc'⟩⟩
   ·rw [List.getElem?_set_ne (Ne.symm hj)] at e2
    obtain ⟨u', r', q⟩ := hl j y v' e1 e2 e3
    refine ⟨u', r', ?_⟩
    rcases q with q | ⟨k, c', e, z'⟩
    ·exact .inl q
    ·refine .inr ⟨k, c', e, z'.sameBut hs ?_⟩
     rintro rfl
     exact hj (nodup_ix hN e1 (I.ok.inj _ _ _ e hc ▸ hi))
  ·by_cases hcc : c' = c
   ·subst hcc; exact ⟨_, hc'⟩
   ·obtain ⟨w2, z2⟩ := I.cell y c' e
    exact ⟨w2, z2.sameBut hs hcc⟩
  ·obtain ⟨e, n, ne, nf, d⟩ := I.pin p hp
   refine ⟨(hs.2 p.1 ?_).trans e, n, ne, nf, d⟩
   intro q
   rw [q, hoc] at e
   have q' : oc = p.2 := Option.some.inj e
   exact d w' (by rw [← q']; exact hocd)
theorem store_ok {M : Model} {A : Around} {E : Value → Shared → Prop} {i : Nat} {x : Str} {v : V} {u : Value} {Q : Unit → Shared → Prop} (I : Inv X pins σ H s) (hN : X.N.Nodup) (hi : X.N[i]? = some x) (hx : Loc X.env.scope x) (r : RelV v u)
  (h : ∀ s', Inv X pins (σ.set i (some v)) H s' → Q () s') (hf : X.fn x = true ∨ X.env.scope.names.lookup x = some .local := by first | exact .inl rfl | exact .inr rfl | assumption) : wpAny M A (storeName X.env x u) Q E s :=
 store_ok2 I hN hi hx r (fun s' I' _ => h s' I') hf
theorem Inv.call' {s' : Shared} {ch : List Addr} (I : Inv X pins σ H s) (ho : s'.os = s.os) (u : Un (frs X.stack) ch H H' s.heap s'.heap) (hok : HOk X.prog X.w H' s'.heap) (hg : AllBare s'.gens)
  (hch : ∀ b ∈ ch, (b ∈ X.ex ∨ X.s₀.heap.objs.size ≤ b) ∧ b ≠ X.env.locals ∧ (∀ x c, X.env.cells.lookup x = some c → c ≠ b) ∧ ∀ p ∈ X.pn ++ pins, p.1 ≠ b) : Inv X pins σ H' s' := by
 obtain ⟨h', g', d', t', o'⟩ := s'
 have e : o' = s.os := ho
 subst e
 exact I.call (g' := g') (t' := t') (d' := d') u hok hg hch
end
abbrev XK := Value → Option Addr → Hp → Prop
abbrev St := List (Option V)
abbrev VK := V → Hp → Prop
abbrev TE := St → Hp → VK → Prop
abbrev TT := St → Hp → (Bool → Hp → Prop) → Prop
abbrev TA := St → Hp → (List V → Hp → Prop) → Prop
structure Ends where
 nx : St → Hp → Prop
 rt : VK
 bk : St → Hp → Prop := fun _ _ => False
 ct : St → Hp → Prop := fun _ _ => False
abbrev TS := Ends → St → Hp → Prop
def EP (X : Cx) (pins : List (Addr × Obj)) (σ : St) (Q : VK) (u : Value) (s' : Shared) : Prop := ∃ v H', Inv X pins σ H' s' ∧ RelV v u ∧ Q v H'
def TP (X : Cx) (pins : List (Addr × Obj)) (σ : St) (Q : Bool → Hp → Prop) (b : Bool) (s' : Shared) : Prop := ∃ H', Inv X pins σ H' s' ∧ Q b H'
def AP (X : Cx) (pins : List (Addr × Obj)) (σ : St) (Q : List V → Hp → Prop) (us : List Value) (s' : Shared) : Prop := ∃ vs H', Inv X pins σ H' s' ∧ Vals vs us ∧ Q vs H'
def SP (X : Cx) (pins : List (Addr × Obj)) (D : Ends) (f : Flow) (s' : Shared) : Prop :=
 match f with
 | .next => ∃ σ' H', Inv X pins σ' H' s' ∧ D.nx σ' H'
 | .brk => ∃ σ' H', Inv X pins σ' H' s' ∧ D.bk σ' H'
 | .cont => ∃ σ' H', Inv X pins σ' H' s' ∧ D.ct σ' H'
 | .ret u => ∃ v σ' H', Inv X pins σ' H' s' ∧ RelV v u ∧ D.rt v H'
def PE (X : Cx) (e : Expr) (t : TE) : Prop :=
 ∀ (pins : List (Addr × Obj)) (s : Shared) (σ : St) (H : Hp) (Q : VK), Inv X pins σ H s → t σ H Q → wpAny (model X.prog X.w) X.A (eval e X.env) (EP X pins σ Q) X.xe s
def PT (X : Cx) (e : Expr) (t : TT) : Prop :=
 ∀ (pins : List (Addr × Obj)) (s : Shared) (σ : St) (H : Hp) (Q : Bool → Hp → Prop), Inv X pins σ H s → t σ H Q → wpAny (model X.prog X.w) X.A (isTrue e X.env (eval e X.env)) (TP X pins σ Q) X.xe s
def PW (X : Cx) (e : Expr) (t : TT) : Prop :=
 ∀ (whole : Sem Value) (pins : List (Addr × Obj)) (s : Shared) (σ : St) (H : Hp) (Q : Bool → Hp → Prop), Inv X pins σ H s → t σ H Q → wpAny (model X.prog X.w) X.A (isTrue e X.env whole) (TP X pins σ Q) X.xe s
theorem PW.pt {X : Cx} {e : Expr} {t : TT} (h : PW X e t) : PT X e t := h _
def PA (X : Cx) (es : List Expr) (t : TA) : Prop :=
 ∀ (pos : Pos) (pins : List (Addr × Obj)) (s : Shared) (σ : St) (H : Hp) (Q : List V → Hp → Prop), Inv X pins σ H s → t σ H Q → wpAny (model X.prog X.w) X.A (spliced (backTo pos (starEach es X.env))) (AP X pins σ Q) X.xe s
def PS (X : Cx) (st : Stmt) (t : TS) : Prop :=
 ∀ (pins : List (Addr × Obj)) (s : Shared) (σ : St) (H : Hp) (D : Ends), Inv X pins σ H s → t D σ H → wpAny (model X.prog X.w) X.A (exec st X.env) (SP X pins D) X.xe s
def PSs (X : Cx) (st : List Stmt) (t : TS) : Prop :=
 ∀ (pins : List (Addr × Obj)) (s : Shared) (σ : St) (H : Hp) (D : Ends), Inv X pins σ H s → t D σ H → wpAny (model X.prog X.w) X.A (execs st X.env) (SP X pins D) X.xe s
theorem thn {α : Type} {t : Sem α} {Q Q' : α → Shared → Prop} {M : Model} {A : Around} {E : Value → Shared → Prop} {s : Shared} (h : wpAny M A t Q E s) (hQ : ∀ a s, Q a s → Q' a s) : wpAny M A t Q' E s := wpAny_mono h hQ fun _ _ x => x
end L2
namespace L2
open PySem PySem.Spec PyProof.Rows
section
variable {X : Cx}
def tVar (i : Nat) : TE := fun σ H Q => ∃ v, σ[i]? = some (some v) ∧ Q v H
def tC (v : V) : TE := fun _ H Q => Q v H
theorem pe_var {i : Nat} {x : Str} {pos : Pos} (hN : X.N[i]? = some x) (hv : Vis X.env.scope x) (hd : (x == ("__debug__" : Str)) = false := by decide) (hcd : (x == ("__classdict__" : Str)) = false := by decide) : PE X (.Name x pos) (tVar i) := by
 intro pins s σ H Q I h
 obtain ⟨v, e, h⟩ := h
 obtain ⟨m, hn, hl⟩ := I.loc
 obtain ⟨u, r, l⟩ := hl i x v hN e hv
 have fin : EP X pins σ Q u s := ⟨v, H, I, r, h⟩
 rcases l with ⟨hk, hm⟩ | ⟨hk, c, hc, hcell⟩
 ·exact wpAny_Name (wpAny_loadName_local I.ok.kind hk hn hm fin) hd
 ·rcases hk with hk | hk
  ·exact wpAny_Name (wpAny_loadName_cell I.ok.kind hk hc hcell fin) hd
  ·exact wpAny_Name (wpAny_loadName_free I.ok.kind hk hc hcell fin hcd) hd
theorem pe_int {i j pos} : PE X (.Constant (.int i) j pos) (tC (.int i)) := fun _ _ _ H _ I h => wpAny_Constant_int ⟨.int i, H, I.tok _, ⟨_, rfl⟩, h⟩
theorem pe_bl {b j pos} : PE X (.Constant (.bool b) j pos) (tC (.bl b)) := fun _ _ _ H _ I h => Constant_bool ⟨.bl b, H, I, rfl, h⟩
theorem pe_non {j pos} : PE X (.Constant .none j pos) (tC .non) := fun _ _ _ H _ I h => Constant_none ⟨.non, H, I, rfl, h⟩
theorem pe_str {x j pos} : PE X (.Constant (.str x) j pos) (tC (.str x)) := fun _ _ _ H _ I h => Calls.Constant_str ⟨.str x, H, I.tok _, ⟨_, rfl⟩, h⟩
def Gl (X : Cx) (x : Str) : Prop := X.env.kindOf x = some .globalImplicit
theorem ld_glob {E : Value → Shared → Prop} {pins : List (Addr × Obj)} {s : Shared} {σ : St} {H : Hp} {x : Str} {u : Value} {pos : Pos} {Q : Value → Shared → Prop} (I : Inv X pins σ H s) (hg : Gl X x) (hm : X.mg x = some u) (h : Q u s)
  (hd : (x == ("__debug__" : Str)) = false := by decide) : wpAny (model X.prog X.w) X.A (eval (.Name x pos) X.env) Q E s :=
 Calls.Name_function_global I.ok.kind hg (Calls.loadGlobal_global (by rw [I.ok.glob]; exact I.mod.glob.keeps I.bk) hm h) hd
theorem ld_blt {E : Value → Shared → Prop} {pins : List (Addr × Obj)} {s : Shared} {σ : St} {H : Hp} {x : Str} {u : Value} {pos : Pos} {Q : Value → Shared → Prop} (I : Inv X pins σ H s) (hg : Gl X x) (hm : X.mg x = none) (hv : bootBuiltins x = some u) (h : Q u s)
  (hn : x ≠ "__name__" := by decide) (hd : (x == ("__debug__" : Str)) = false := by decide) : wpAny (model X.prog X.w) X.A (eval (.Name x pos) X.env) Q E s := by
 obtain ⟨mb, h1, h2⟩ := I.mod.blt
 exact Calls.Name_function_global I.ok.kind hg (Calls.loadGlobal_builtin (by rw [I.ok.glob]; exact I.mod.glob.keeps I.bk) hm (by rw [I.ok.blt]; exact h1.keeps I.bk) ((h2 x hn).trans hv) h) hd
theorem pe_bltn {x : Str} {v : V} {u : Value} {pos : Pos} (hg : Gl X x) (hm : X.mg x = none) (hv : bootBuiltins x = some u) (r : RelV v u) (hn : x ≠ "__name__" := by decide) (hd : (x == ("__debug__" : Str)) = false := by decide) : PE X (.Name x pos) (tC v) :=
 fun _ _ _ H _ I h => ld_blt I hg hm hv ⟨v, H, I, r, h⟩ hn hd
variable {a b : Expr} {ta tb : TE} {pos : Pos}
variable {tA tB' : TT} {rest : List Expr}
def tAnd (t u : TT) : TT := fun σ H Q => t σ H fun c H1 => if c = true then u σ H1 Q else Q false H1
def tOr (t u : TT) : TT := fun σ H Q => t σ H fun c H1 => if c = true then Q true H1 else u σ H1 Q
def tNot (t : TT) : TT := fun σ H Q => t σ H fun c H1 => Q (!c) H1
theorem pw_and1 (ha : PT X a tA) : PW X (.BoolOp .And [a] pos) tA := by
 intro wh pins s σ H Q I h
 refine isTrue_and (thn (ha pins s σ H Q I h) fun c s1 e => ?_)
 cases c with
 | true => exact isTrue_and_nil e
 | false => exact e
theorem pw_or1 (ha : PT X a tA) : PW X (.BoolOp .Or [a] pos) tA := by
 intro wh pins s σ H Q I h
 refine isTrue_or (thn (ha pins s σ H Q I h) fun c s1 e => ?_)
 cases c with
 | false => exact isTrue_or_nil e
 | true => exact e
theorem pw_and (ha : PT X a tA) (hb : PW X (.BoolOp .And (b :: rest) pos) tB') : PW X (.BoolOp .And (a :: b :: rest) pos) (tAnd tA tB') := by
 intro wh pins s σ H Q I h
 refine isTrue_and (thn (ha pins s σ H _ I h) fun c s1 ⟨H1, I1, q1⟩ => ?_)
 cases c with
 | true => exact hb wh pins s1 σ H1 Q I1 q1
 | false => exact ⟨H1, I1, q1⟩
theorem pw_or (ha : PT X a tA) (hb : PW X (.BoolOp .Or (b :: rest) pos) tB') : PW X (.BoolOp .Or (a :: b :: rest) pos) (tOr tA tB') := by
 intro wh pins s σ H Q I h
 refine isTrue_or (thn (ha pins s σ H _ I h) fun c s1 ⟨H1, I1, q1⟩ => ?_)
 cases c with
 | true => exact ⟨H1, I1, q1⟩
 | false => exact hb wh pins s1 σ H1 Q I1 q1
theorem pt_not (ha : PT X a tA) : PT X (.UnaryOp .Not a pos) (tNot tA) := by
 intro pins s σ H Q I h
 exact isTrue_not (ha pins s σ H (fun c H1 => Q (!c) H1) I h)
theorem pe_one {op} {t : TE} (h : PE X a t) : PE X (.BoolOp op [a] pos) t := fun pins s σ H Q I hw => BoolOp_one (h pins s σ H Q I hw)
end
end L2
namespace L2
open PySem PySem.Spec PyProof.Rows
def SqL (K : PySem.W.Frag) (H : Hp) (a : Addr) (xs : List V) : Prop :=
 Rd H a (.lst xs) ∨
  ∃ (o : Obj) (its : Array Value) (n : Nat), K.lookup a = some o ∧ o.cls = .type "list" ∧ o.dict = none ∧ o.data = .seq its n ∧ its.size ≤ sizeLine ∧ Vals xs its.toList
def SqT (K : PySem.W.Frag) (H : Hp) (a : Addr) (xs : List V) : Prop :=
 Rd H a (.tup xs) ∨
  ∃ (o : Obj) (its : Array Value) (n : Nat), K.lookup a = some o ∧ o.cls = .type "tuple" ∧ o.data = .seq its n ∧ its.size ≤ sizeLine ∧ Vals xs its.toList
def absV : Value → Option V
 | .none => some .non
 | .bool b => some (.bl b)
 | .int i _ => some (.int i)
 | .str x _ => some (.str x)
 | .bytes b _ => some (.byt b)
 | .float b _ => some (.flt b)
 | .ref a => some (.ref a)
 | .type n => some (.ty n)
 | _ => none
theorem RelV.abs {x : V} {u : Value} (r : RelV x u) : absV u = some x := by
 cases x with
 | non => cases r; rfl
 | bl _ => cases r; rfl
 | int _ => obtain ⟨t, rfl⟩ := r; rfl
 | str _ => obtain ⟨t, rfl⟩ := r; rfl
 | byt _ => obtain ⟨t, rfl⟩ := r; rfl
 | flt _ => obtain ⟨t, rfl⟩ := r; rfl
 | ref _ => cases r; rfl
 | ty _ => cases r; rfl
theorem RelV.inj {x y : V} {u : Value} (r : RelV x u) (q : RelV y u) : x = y := Option.some.inj (r.abs.symm.trans q.abs)
theorem Vals.inj : ∀ {xs ys : List V} {us : List Value}, Vals xs us → Vals ys us → xs = ys
 | _, _, _, .nil, .nil => rfl
 | _, _, _, .cons r t, .cons r' t' => by rw [r.inj r', Vals.inj t t']
section
variable {X : Cx} {pins : List (Addr × Obj)} {σ : St} {H : Hp} {s : Shared} {a : Addr} {xs ys : List V}
theorem SqL.of {K : PySem.W.Frag} (h : H a = some (.lst xs)) : SqL K H a xs := .inl (.inl h)
theorem SqT.of {K : PySem.W.Frag} (h : H a = some (.tup xs)) : SqT K H a xs := .inl (.inl h)
theorem Inv.list (I : Inv X pins σ H s) (h : SqL X.K H a xs) : ∃ its : List Value, Vals xs its ∧ PlainL s.heap a its.toArray ∧ xs.length ≤ sizeLine := by
 rcases h with h | ⟨o, its, n, hk, hc, hd, hs, hz, r⟩
 ·obtain ⟨z, its, n, r, e⟩ := h.ok I.hok
  exact ⟨its, r, ⟨_, n, e, rfl, rfl, rfl⟩, z⟩
 ·refine ⟨its.toList, r, ⟨o, n, I.kIn a o hk, hc, hd, by simpa using hs⟩, ?_⟩
  have e := r.length
  simp only [Array.length_toList] at e
  omega
theorem Inv.tuple (I : Inv X pins σ H s) (h : SqT X.K H a xs) : ∃ its : List Value, Vals xs its ∧ IsTup s.heap a its.toArray ∧ xs.length ≤ sizeLine := by
 rcases h with h | ⟨o, its, n, hk, hc, hs, hz, r⟩
 ·obtain ⟨z, its, r, p⟩ := h.ok I.hok
  exact ⟨its, r, p.1, z⟩
 ·refine ⟨its.toList, r, ⟨o, I.kIn a o hk, hc, n, by simpa using hs⟩, ?_⟩
  have e := r.length
  simp only [Array.length_toList] at e
  omega
theorem Inv.list_inj (I : Inv X pins σ H s) (h : SqL X.K H a xs) (h' : SqL X.K H a ys) : xs = ys := by
 obtain ⟨its, r, ⟨o, n, e, _, _, d⟩, _⟩ := I.list h
 obtain ⟨its', r', ⟨o', n', e', _, _, d'⟩, _⟩ := I.list h'
 rw [e] at e'; cases e'
 rw [d] at d'
 injection d' with d1 _
 have : its = its' := by simpa using congrArg Array.toList d1
 subst this
 exact r.inj r'
theorem Inv.tuple_inj (I : Inv X pins σ H s) (h : SqT X.K H a xs) (h' : SqT X.K H a ys) : xs = ys := by
 obtain ⟨its, r, ⟨o, e, _, n, d⟩, _⟩ := I.tuple h
 obtain ⟨its', r', ⟨o', e', _, n', d'⟩, _⟩ := I.tuple h'
 rw [e] at e'; cases e'
 rw [d] at d'
 injection d' with d1 _
 have : its = its' := by simpa using congrArg Array.toList d1
 subst this
 exact r.inj r'
end
abbrev Cx.wish (X : Cx) (E : Value → Shared → Prop) : Cx := { X with xe := E }
abbrev Cx.nox (X : Cx) : Cx := X.wish fun _ _ => False
theorem Cx.Ok.wish {X : Cx} (ok : X.Ok) (E : Value → Shared → Prop) : (X.wish E).Ok :=
 ⟨ok.mod, ok.kind, ok.glob, ok.blt, ok.above, ok.inj, ok.has, ok.cab, ok.hd, ok.frames, ok.stk, ok.exf, ok.bs, ok.bsz, ok.noex, ok.exfs, ok.funs, ok.frf⟩
theorem Cx.Ok.unwish {X : Cx} {E : Value → Shared → Prop} (ok : (X.wish E).Ok) : X.Ok :=
 ⟨ok.mod, ok.kind, ok.glob, ok.blt, ok.above, ok.inj, ok.has, ok.cab, ok.hd, ok.frames, ok.stk, ok.exf, ok.bs, ok.bsz, ok.noex, ok.exfs, ok.funs, ok.frf⟩
section
variable {X : Cx} {pins : List (Addr × Obj)} {σ : St} {H : Hp} {s : Shared} {E : Value → Shared → Prop}
theorem Inv.wish (I : Inv X pins σ H s) (E : Value → Shared → Prop) : Inv (X.wish E) pins σ H s := ⟨I.ok.wish E, I.os, I.bare, I.base, I.loc, I.cell, I.free, I.freeC, I.pin, I.hok, I.len⟩
theorem Inv.unwish (I : Inv (X.wish E) pins σ H s) : Inv X pins σ H s := ⟨I.ok.unwish, I.os, I.bare, I.base, I.loc, I.cell, I.free, I.freeC, I.pin, I.hok, I.len⟩
theorem SP.unwish {D : Ends} {f : Flow} {s' : Shared} (h : SP (X.wish E) pins D f s') : SP X pins D f s' := by
 cases f with
 | next => obtain ⟨σ', H', I, q⟩ := h; exact ⟨σ', H', I.unwish, q⟩
 | brk => obtain ⟨σ', H', I, q⟩ := h; exact ⟨σ', H', I.unwish, q⟩
 | cont => obtain ⟨σ', H', I, q⟩ := h; exact ⟨σ', H', I.unwish, q⟩
 | ret u => obtain ⟨v, σ', H', I, r, q⟩ := h; exact ⟨v, σ', H', I.unwish, r, q⟩
theorem PE.nox {e : Expr} {t : TE} (h : PE X.nox e t) : PE X e t := fun pins s σ H Q I hw =>
 wpAny_mono (h pins s σ H Q (I.wish _) hw) (fun _ _ ⟨v, H', I', r, q⟩ => ⟨v, H', I'.unwish, r, q⟩) fun _ _ z => False.elim z
theorem PT.nox {e : Expr} {t : TT} (h : PT X.nox e t) : PT X e t := fun pins s σ H Q I hw =>
 wpAny_mono (h pins s σ H Q (I.wish _) hw) (fun _ _ ⟨H', I', q⟩ => ⟨H', I'.unwish, q⟩) fun _ _ z => False.elim z
theorem PSs.nox {st : List Stmt} {t : TS} (h : PSs X.nox st t) : PSs X st t := fun pins s σ H D I hw =>
 wpAny_mono (h pins s σ H D (I.wish _) hw) (fun _ _ q => q.unwish) fun _ _ z => False.elim z
end
section
variable {X : Cx} {st : Stmt} {rest : List Stmt} {t u : TS} {e : Expr} {te : TE} {pos : Pos}
def tNext : TS := fun D σ H => D.nx σ H
def tSeq (t u : TS) : TS := fun D σ H => t { D with nx := u D } σ H
theorem pss_nil : PSs X [] tNext := fun _ _ σ H _ I h => wpAny_execs_nil ⟨σ, H, I, h⟩
theorem pss_cons (h1 : PS X st t) (h2 : PSs X rest u) : PSs X (st :: rest) (tSeq t u) := by
 intro pins s σ H D I h
 refine wpAny_execs_cons (thn (h1 pins s σ H { D with nx := u D } I h) fun f s1 q => ?_)
 cases f with
 | next =>
  obtain ⟨σ', H', I', q⟩ := q
  exact h2 pins s1 σ' H' D I' q
 | ret v => exact q
 | brk => exact q
 | cont => exact q
theorem pss_one (h1 : PS X st t) : PSs X [st] t := by
 intro pins s σ H D I h
 refine wpAny_execs_cons (thn (h1 pins s σ H D I h) fun f s1 q => ?_)
 cases f with
 | next => exact wpAny_execs_nil q
 | ret v => exact q
 | brk => exact q
 | cont => exact q
theorem Inv.quiet {pins : List (Addr × Obj)} {σ : St} {H : Hp} {s : Shared} (I : Inv X pins σ H s) : interactive X.env = false := by simp [interactive, I.ok.kind]
def tDrop (te : TE) : TS := fun D σ H => te σ H fun _ H1 => D.nx σ H1
theorem ps_expr (he : PE X e te) (hs : swapsWith e none pos.line X.env = pure false := by rfl) : PS X (.Expr e pos) (tDrop te) := by
 intro pins s σ H D I h
 exact wpAny_Expr_any (thn (he pins s σ H _ I h) fun v s1 ⟨x, H1, I1, r1, q1⟩ => ⟨σ, H1, I1, q1⟩) I.quiet hs
def tRet (te : TE) : TS := fun D σ H => te σ H D.rt
theorem ps_ret (he : PE X e te) : PS X (.Return (some e) pos) (tRet te) := by
 intro pins s σ H D I h
 exact wpAny_Return_some (thn (he pins s σ H _ I h) fun v s1 ⟨x, H1, I1, r1, q1⟩ => ⟨x, σ, H1, I1, r1, q1⟩)
def tIfS (c : TT) (t u : TS) : TS := fun D σ H => c σ H fun b H1 => if b = true then t D σ H1 else u D σ H1
theorem ps_if {c : Expr} {a b : List Stmt} {tc : TT} (hc : PT X c tc) (ha : PSs X a t) (hb : PSs X b u) : PS X (.If c a b pos) (tIfS tc t u) := by
 intro pins s σ H D I h
 refine wpAny_If (thn (hc pins s σ H _ I h) fun d s1 ⟨H1, I1, q1⟩ => ?_)
 cases d with
 | true => exact ha pins s1 σ H1 D I1 q1
 | false => exact hb pins s1 σ H1 D I1 q1
end
abbrev TG := V → St → Hp → (St → Hp → Prop) → Prop
abbrev TGs := List V → St → Hp → (St → Hp → Prop) → Prop
def PG (X : Cx) (target : Expr) (t : TG) : Prop :=
 ∀ (pins : List (Addr × Obj)) (s : Shared) (σ : St) (H : Hp) (v : V) (u : Value) (Q : St → Hp → Prop), Inv X pins σ H s → RelV v u → t v σ H Q →
  wpAny (model X.prog X.w) X.A (assign target X.env u) (fun _ s' => ∃ σ' H', Inv X pins σ' H' s' ∧ Q σ' H') X.xe s
def PGs (X : Cx) (ts : List Expr) (t : TGs) : Prop :=
 ∀ (pins : List (Addr × Obj)) (s : Shared) (σ : St) (H : Hp) (vs : List V) (us : List Value) (Q : St → Hp → Prop), Inv X pins σ H s → Vals vs us → t vs σ H Q →
  wpAny (model X.prog X.w) X.A (assignInOrder ((assignEach ts X.env).map (·.2)) us) (fun _ s' => ∃ σ' H', Inv X pins σ' H' s' ∧ Q σ' H') X.xe s
abbrev TSet := V → V → V → Hp → (Hp → Prop) → Prop
def PSet (X : Cx) (t : TSet) : Prop :=
 ∀ (pins : List (Addr × Obj)) (s : Shared) (σ : St) (H : Hp) (o i v : V) (ov iv u : Value) (Q : Hp → Prop), Inv X pins σ H s → RelV o ov → RelV i iv → RelV v u → t o i v H Q →
  wpAny (model X.prog X.w) X.A (setItem ov iv u) (fun _ s' => ∃ H', Inv X pins σ H' s' ∧ Q H') X.xe s
section
variable {X : Cx} {pos : Pos}
def gName (i : Nat) : TG := fun v σ H Q => Q (σ.set i (some v)) H
theorem pg_name {i : Nat} {x : Str} (hN : X.N.Nodup) (hi : X.N[i]? = some x) (hx : Loc X.env.scope x) (hf : X.fn x = true ∨ X.env.scope.names.lookup x = some .local := by first | exact .inl rfl | exact .inr rfl | assumption) : PG X (.Name x pos) (gName i) := by
 intro pins s σ H v u Q I r h
 exact wpAny_assign_Name (store_ok I hN hi hx r (fun s' I' => ⟨_, H, I', h⟩) hf)
def gNil : TGs := fun vs σ H Q => vs = [] ∧ Q σ H
def gCons (t : TG) (u : TGs) : TGs := fun vs σ H Q => ∃ v r, vs = v :: r ∧ t v σ H fun σ' H' => u r σ' H' Q
theorem pgs_nil : PGs X [] gNil := by
 intro pins s σ H vs us Q I r h
 obtain ⟨e, h⟩ := h
 subst e
 cases r
 exact assignInOrder_nil ⟨σ, H, I, h⟩
theorem pgs_cons {e : Expr} {es : List Expr} {t : TG} {u : TGs} (h1 : PG X e t) (h2 : PGs X es u)
  (hs : (assignEach (e :: es) X.env).map (·.2) = assign e X.env :: (assignEach es X.env).map (·.2) := by rfl) : PGs X (e :: es) (gCons t u) := by
 intro pins s σ H vs us Q I r h
 obtain ⟨v, vr, e1, h⟩ := h
 subst e1
 cases r with
 | cons r rr =>
  rw [hs]
  refine assignInOrder_cons (thn (h1 pins s σ H _ _ _ I r h) fun _ s1 ⟨σ1, H1, I1, q1⟩ => ?_)
  exact h2 pins s1 σ1 H1 _ _ Q I1 rr q1
def gTup (K : PySem.W.Frag) (n : Nat) (t : TGs) : TG := fun v σ H Q => ∃ a xs, v = .ref a ∧ SqT K H a xs ∧ xs.length = n ∧ t xs σ H Q
theorem pg_tup {es : List Expr} {k : Nat} {t : TGs} {n : Nat} (hc : X.calm = true) (h : PGs X es t)
  (hn : (assignEach es X.env).length = n := by rfl) (hst : (assignEach es X.env).findIdx? (·.1) = none := by rfl) : PG X (.Tuple es k pos) (gTup X.K n t) := by
 intro pins s σ H v u Q I r hw
 obtain ⟨a, xs, e1, hq, hl, hw⟩ := hw
 subst e1
 cases r
 obtain ⟨its, rv, ht, hz⟩ := I.tuple hq
 refine assign_Tuple_tuple (I.ok.hd hc) ht (by simp [hn, ← hl, rv.length]) hst fun h' hx => ?_
 have I1 : Inv X pins σ H { s with heap := h' } := I.kept (t' := s.toks) fun b o e => hx b o (Nat.ne_of_lt (Heap.lt_size e)) e
 exact h pins _ σ H xs _ Q I1 (by simpa using rv) hw
def gSub (to ti : TE) (t : TSet) : TG := fun v σ H Q => to σ H fun o H1 => ti σ H1 fun i H2 => t o i v H2 fun H3 => Q σ H3
theorem pg_sub {o i : Expr} {to ti : TE} {t : TSet} (ho : PE X o to) (hi : PE X i ti) (hs : PSet X t)
  (ha : ∀ v, assign (.Subscript o i pos) X.env v = (do
   let ov ← holding [v] (eval o X.env)
   let iv ← holding [v, ov] (eval i X.env)
   standAt pos
   holding [v, ov, iv] (setItem ov iv v)
   release [v, ov, iv] []) := by intro _; rfl) : PG X (.Subscript o i pos) (gSub to ti t) := by
 intro pins s σ H v u Q I r h
 rw [ha]
 refine wpAny_bind (wpAny_holding (thn (ho pins s σ H _ I h) fun ov s1 ⟨x, H1, I1, r1, q1⟩ => ?_))
 refine wpAny_bind (wpAny_holding (thn (hi pins s1 σ H1 _ I1 q1) fun iv s2 ⟨y, H2, I2, r2, q2⟩ => ?_))
 refine wpAny_bind (wpAny_standAt (wpAny_bind (wpAny_holding (thn (hs pins s2 σ H2 x y v ov iv u _ I2 r1 r2 r q2) fun _ s3 ⟨H3, I3, q3⟩ => ?_))))
 exact wpAny_release ⟨σ, H3, I3, q3⟩
def tAsg (te : TE) (g : TG) : TS := fun D σ H => te σ H fun x H1 => g x σ H1 D.nx
theorem ps_asg {tg e : Expr} {te : TE} {g : TG} (he : PE X e te) (hg : PG X tg g) (hs : swapsWithSole [tg] e pos.line X.env = pure false := by rfl) (hw : swappedStores [tg] e X.env = pure none := by rfl)
  (h1 : (assignEach [tg] X.env).map (·.2) = [assign tg X.env] := by rfl) : PS X (.Assign [tg] e pos) (tAsg te g) := by
 intro pins s σ H D I h
 refine wpAny_Assign_stores (thn (he pins s σ H _ I h) fun v s1 ⟨x, H1, I1, r1, q1⟩ => ?_) hs hw
 rw [h1]
 exact thn (hg pins s1 σ H1 x v _ I1 r1 q1) fun _ s2 q => q
theorem ps_set {i : Nat} {x : Str} {e : Expr} {te : TE} {pos' : Pos} (hN : X.N.Nodup) (hi : X.N[i]? = some x) (hx : Loc X.env.scope x) (he : PE X e te) (hs : swapsWith e (some (.Name x pos')) pos.line X.env = pure false := by rfl) (hf : X.fn x = true ∨ X.env.scope.names.lookup x = some .local := by first | exact .inl rfl | exact .inr rfl | assumption) :
  PS X (.Assign [.Name x pos'] e pos) (tAsg te (gName i)) := by
 intro pins s σ H D I h
 refine wpAny_Assign_Name (thn (he pins s σ H _ I h) fun v s1 ⟨y, H1, I1, r1, q1⟩ => ?_) hs
 exact store_ok I1 hN hi hx r1 (fun s2 I2 => ⟨_, H1, I2, q1⟩) hf
end
section
variable {X : Cx} {pos : Pos}
end
structure It where
 go : Nat → Hp → Prop
 yld : Nat → Hp → V → Hp → Prop
 stop : Nat → Hp → Prop
def FpOk (X : Cx) (pins : List (Addr × Obj)) (H : Hp) (b : Addr) : Prop :=
 H b = none ∧ b ≠ X.env.locals ∧ b ∉ X.fs ∧ (b ∈ X.ex ∨ X.s₀.heap.objs.size ≤ b) ∧ (∀ x c, X.env.cells.lookup x = some c → c ≠ b) ∧ ∀ p ∈ X.pn ++ pins, p.1 ≠ b
theorem Inv.fpOk {X : Cx} {pins : List (Addr × Obj)} {σ : St} {H H' : Hp} {s : Shared} {b : Addr} (I : Inv X pins σ H s) (hb : s.heap.objs.size ≤ b) (hn : H' b = none) : FpOk X pins H' b := by
 refine ⟨hn, Nat.ne_of_gt (Nat.lt_of_lt_of_le I.lt hb), I.nofs hb, .inr (Nat.le_trans I.sz hb), fun x c e z => ?_, fun p hp z => ?_⟩
 ·obtain ⟨v, q⟩ := I.cell x c e
  exact absurd (Nat.lt_of_lt_of_le q.lt (by rw [z]; exact hb)) (Nat.lt_irrefl _)
 ·exact absurd (Nat.lt_of_lt_of_le (Heap.lt_size (I.pin p hp).1) (by rw [z]; exact hb)) (Nat.lt_irrefl _)
structure Turn (P : Program) (w : World) (K : PySem.W.Frag) (tg : Expr) (J : It) (fp : List Addr) (it : Addr) (tn : Nat → Heap → Prop) : Prop where
 mem : it ∈ fp
 obj : ∀ i h, tn i h → ∀ b ∈ fp, ∃ o, h.get? b = some o ∧ ∀ v, o.data ≠ .cell v
 keep : ∀ i h h', tn i h → (∀ b ∈ fp, ∀ o, h.get? b = some o → h'.get? b = some o) → tn i h'
 item : ∀ (X : Cx), X.prog = P → X.w = w → X.K = K → X.calm = true → ∀ (i : Nat) (pins : List (Addr × Obj)) (s : Shared) (σ : St) (H : Hp) (E : Value → Shared → Prop), Inv X pins σ H s → (∀ b ∈ fp, FpOk X pins H b) → tn i s.heap → J.go i H →
  wpAny (model P w) X.A (pyNext (.ref it)) (fun r s1 => ∃ u, r = some u ∧
   wpAny (model P w) X.A (letOwnedTupleGo tg (.ref it) u) (fun _ s2 => ∃ x H', Inv X pins σ H' s2 ∧ RelV x u ∧ J.yld i H x H' ∧ tn (i + 1) s2.heap ∧ ∀ b ∈ fp, H' b = none) E s1) E s
 done : ∀ (X : Cx), X.prog = P → X.w = w → X.K = K → X.calm = true → ∀ (i : Nat) (pins : List (Addr × Obj)) (s : Shared) (σ : St) (H : Hp) (E : Value → Shared → Prop), Inv X pins σ H s → (∀ b ∈ fp, FpOk X pins H b) → tn i s.heap → J.stop i H →
  wpAny (model P w) X.A (pyNext (.ref it)) (fun r s1 => r = none ∧ Inv X pins σ H s1) E s
 self : ∀ (A : Around) (i : Nat) (s : Shared) (Q : Value → Shared → Prop) (E : Value → Shared → Prop), tn i s.heap → Q (.ref it) s → wpAny (model P w) A (pyIter (.ref it)) Q E s
abbrev TI := St → Hp → (It → Hp → Prop) → Prop
def PIE (X : Cx) (pins : List (Addr × Obj)) (σ : St) (tg : Expr) (R : It → Hp → Prop) (itv : Value) (s2 : Shared) : Prop :=
 ∃ (it : Addr) (fp : List Addr) (tn : Nat → Heap → Prop) (J : It) (H' : Hp), itv = .ref it ∧ Inv X pins σ H' s2 ∧ Turn X.prog X.w X.K tg J fp it tn ∧ tn 0 s2.heap ∧ (∀ b ∈ fp, FpOk X pins H' b) ∧ R J H'
def PI (X : Cx) (tg iter : Expr) (wi : TI) : Prop :=
 ∀ (pins : List (Addr × Obj)) (s : Shared) (σ : St) (H : Hp) (R : It → Hp → Prop), Inv X pins σ H s → wi σ H R →
  wpAny (model X.prog X.w) X.A (eval iter X.env) (fun v s1 => wpAny (model X.prog X.w) X.A (pyIter v) (PIE X pins σ tg R) X.xe s1) X.xe s
theorem go_of {M : Model} {A : Around} {E : Value → Shared → Prop} {s : Shared} {tg : Expr} {it : Addr} {u : Value} {o : Obj} {n : String} {vs : Array Value} {Q : Unit → Shared → Prop} (ho : s.heap.get? it = some o) (hc : o.cls = .type n) (hd : o.data = .fields vs)
  (hn : ["enumerate", "zip", "dict_itemiterator", "dict_reverseitemiterator", "odict_iterator", "itertools.zip_longest", "itertools.pairwise"].contains n = false) (hQ : Q () s) : wpAny M A (letOwnedTupleGo tg (.ref it) u) Q E s := by
 unfold letOwnedTupleGo
 cases tg <;> first
  | exact wpAny_pure hQ
  | (cases u <;> first
     | exact wpAny_pure hQ
     | (refine wpAny_bind (wpAny_load ho ?_)
        rw [hc, hd]
        show wpAny M A (if (["enumerate", "zip", "dict_itemiterator", "dict_reverseitemiterator", "odict_iterator", "itertools.zip_longest", "itertools.pairwise"].contains n && vs[0]? == some (rawInt _)) = true then _ else _) Q E s
        rw [if_neg (by intro h; rw [hn, Bool.false_and] at h; cases h)]
        exact wpAny_pure hQ))
def Itl (K : PySem.W.Frag) (a : Addr) : It :=
 ⟨fun i H => ∃ xs x, SqL K H a xs ∧ xs[i]? = some x, fun i H x H' => H' = H ∧ ∀ xs, SqL K H a xs → xs[i]? = some x, fun i H => ∃ xs, SqL K H a xs ∧ xs.length ≤ i⟩
def Itt (K : PySem.W.Frag) (a : Addr) : It :=
 ⟨fun i H => ∃ xs x, SqT K H a xs ∧ xs[i]? = some x, fun i H x H' => H' = H ∧ ∀ xs, SqT K H a xs → xs[i]? = some x, fun i H => ∃ xs, SqT K H a xs ∧ xs.length ≤ i⟩
def Itr (lo : Int) (n : Nat) : It := ⟨fun i _ => i < n, fun i H x H' => H' = H ∧ x = .int (lo + i), fun i _ => n ≤ i⟩
theorem turn_list {P : Program} {w : World} {K : PySem.W.Frag} {tg : Expr} (a it : Addr) : Turn P w K tg (Itl K a) [it] it (fun i h => h.IsListIter it a i) where
 mem := by simp
 obj := fun i h st b hb => by
  have e : b = it := by simpa using hb
  subst e
  obtain ⟨o, e, c, d⟩ := st
  exact ⟨o, e, fun v z => by rw [d] at z; cases z⟩
 keep := fun i h h' st k => st.at fun o e => k it (by simp) o e
 item := by
  intro X hP hw hK hc i pins s σ H E I hf st hg
  subst hP hw hK
  obtain ⟨xs, x, hq, hx⟩ := hg
  obtain ⟨its, rv, p, hz⟩ := I.list hq
  obtain ⟨u, hu, ru⟩ := rv.get hx
  obtain ⟨f0, f1, f2, f3, f4, f5⟩ := hf it (by simp)
  refine wpAny_pyNext_list_item st p.isList (x := u) (by simpa using hu) fun h' st' sb => ?_
  have I1 : Inv X pins σ H { s with heap := h' } := I.turned (t' := s.toks) (fun b o hb e => (sb.2 b hb).trans e) f0 f1 f3 f4 f5
  obtain ⟨o, e, c, d⟩ := id st'
  exact ⟨u, rfl, go_of (s := { s with heap := h' }) e c d (by decide) ⟨x, H, I1, ru, ⟨rfl, fun ys hy => by rw [I.list_inj hy hq]; exact hx⟩, st', fun b hb => (hf b hb).1⟩⟩
 done := by
  intro X hP hw hK hc i pins s σ H E I hf st hg
  subst hP hw hK
  obtain ⟨xs, hq, hx⟩ := hg
  obtain ⟨its, rv, p, hz⟩ := I.list hq
  obtain ⟨f0, f1, f2, f3, f4, f5⟩ := hf it (by simp)
  have hl := rv.length
  exact wpAny_pyNext_list_end (I.ok.hd hc) st p.isList (by simp; omega) fun h' eb => ⟨rfl, I.turned (t' := s.toks) (fun b o hb e => eb b o hb e) f0 f1 f3 f4 f5⟩
 self := fun _ _ _ _ _ st h => wpAny_pyIter_listiter st h
theorem turn_tuple {P : Program} {w : World} {K : PySem.W.Frag} {tg : Expr} (a it : Addr) : Turn P w K tg (Itt K a) [it] it (fun i h => h.IsTupleIter it a i) where
 mem := by simp
 obj := fun i h st b hb => by
  have e : b = it := by simpa using hb
  subst e
  obtain ⟨o, e, c, d⟩ := st
  exact ⟨o, e, fun v z => by rw [d] at z; cases z⟩
 keep := fun i h h' st k => st.at fun o e => k it (by simp) o e
 item := by
  intro X hP hw hK hc i pins s σ H E I hf st hg
  subst hP hw hK
  obtain ⟨xs, x, hq, hx⟩ := hg
  obtain ⟨its, rv, p, hz⟩ := I.tuple hq
  obtain ⟨u, hu, ru⟩ := rv.get hx
  obtain ⟨f0, f1, f2, f3, f4, f5⟩ := hf it (by simp)
  refine wpAny_pyNext_tuple_item st (show s.heap.IsTuple a its.toArray from p) (x := u) (by simpa using hu) fun h' st' sb => ?_
  have I1 : Inv X pins σ H { s with heap := h' } := I.turned (t' := s.toks) (fun b o hb e => (sb.2 b hb).trans e) f0 f1 f3 f4 f5
  obtain ⟨o, e, c, d⟩ := id st'
  exact ⟨u, rfl, go_of (s := { s with heap := h' }) e c d (by decide) ⟨x, H, I1, ru, ⟨rfl, fun ys hy => by rw [I.tuple_inj hy hq]; exact hx⟩, st', fun b hb => (hf b hb).1⟩⟩
 done := by
  intro X hP hw hK hc i pins s σ H E I hf st hg
  subst hP hw hK
  obtain ⟨xs, hq, hx⟩ := hg
  obtain ⟨its, rv, p, hz⟩ := I.tuple hq
  obtain ⟨f0, f1, f2, f3, f4, f5⟩ := hf it (by simp)
  have hl := rv.length
  exact wpAny_pyNext_tuple_end (I.ok.hd hc) st (show s.heap.IsTuple a its.toArray from p) (by simp; omega) fun h' eb => ⟨rfl, I.turned (t' := s.toks) (fun b o hb e => eb b o hb e) f0 f1 f3 f4 f5⟩
 self := fun _ _ _ _ _ st h => wpAny_pyIter_tupleiter st h
theorem turn_range {P : Program} {w : World} {K : PySem.W.Frag} {tg : Expr} (it : Addr) (lo : Int) (n : Nat) : Turn P w K tg (Itr lo n) [it] it (fun i h => IsRangeIter h it (lo + (i : Nat) * 1) ((n : Int) - (i : Nat)) 1) where
 mem := by simp
 obj := fun i h st b hb => by
  have e : b = it := by simpa using hb
  subst e
  exact ⟨_, st, fun v z => by
   have z' : Data.fields _ = Data.cell v := z
   cases z'⟩
 keep := fun i h h' st k => k it (by simp) _ st
 item := by
  intro X hP hw hK hc i pins s σ H E I hf st hg
  subst hP hw hK
  obtain ⟨f0, f1, f2, f3, f4, f5⟩ := hf it (by simp)
  have W := Walks.range (prog := X.prog) (w := X.w) (I.ok.hd hc) it lo 1 n
  refine W.item i s _ _ hg st fun v h' tk hv st' kk => ?_
  obtain ⟨t, rfl⟩ := hv
  have I1 : Inv X pins σ H { s with heap := h', toks := tk } := I.turned (fun b o hb e => kk b o (by simpa using hb) e) f0 f1 f3 f4 f5
  refine ⟨_, rfl, go_of (s := { s with heap := h', toks := tk }) (n := "range_iterator") st' rfl rfl (by decide) ⟨.int (lo + i), H, I1, ⟨t, ?_⟩, ⟨rfl, rfl⟩, st', fun b hb => (hf b hb).1⟩⟩
  rw [Int.mul_one]
 done := by
  intro X hP hw hK hc i pins s σ H E I hf st hg
  subst hP hw hK
  obtain ⟨f0, f1, f2, f3, f4, f5⟩ := hf it (by simp)
  exact wpAny_pyNext_range_end (I.ok.hd hc) st (by have : n ≤ i := hg; omega) fun h' eb => ⟨rfl, I.turned (t' := s.toks) (fun b o hb e => eb b o hb e) f0 f1 f3 f4 f5⟩
 self := fun _ _ _ _ _ st h => wpAny_pyIter_rangeiter st h
end L2
namespace L2
open PySem PySem.Spec PyProof.Rows
section
variable {X : Cx} {tg : Expr}
theorem range_it {pins : List (Addr × Obj)} {σ : St} {H : Hp} {s : Shared} {R : It → Hp → Prop} {E : Value → Shared → Prop} {lo hi : Int} {t u v : Tok} {tk : Nat} (I : Inv X pins σ H s) (h1 : -(2 ^ 62) ≤ lo) (h2 : lo < 2 ^ 62) (h3 : -(2 ^ 62) ≤ hi) (h4 : hi < 2 ^ 62)
  (q : R (Itr lo (hi - lo).toNat) H) : wpAny (model X.prog X.w) X.A (pyIter (.ref s.heap.objs.size)) (PIE X pins σ tg R) E { s with heap := s.heap.push { cls := .type "range", data := .fields #[.int lo t, .int hi u, .int 1 v] }, toks := tk } := by
 refine wpAny_pyIter_range (IsRange.new ..) (small_one h1 h2 h3 h4) ?_
 have I1 : Inv X pins σ H { s with heap := s.heap.push { cls := .type "range", data := .fields #[.int lo t, .int hi u, .int 1 v] }, toks := tk } := I.kept fun b o e => Heap.get?_push_of_some _ e
 refine ⟨(s.heap.push { cls := .type "range", data := .fields #[.int lo t, .int hi u, .int 1 v] }).objs.size, [(s.heap.push { cls := .type "range", data := .fields #[.int lo t, .int hi u, .int 1 v] }).objs.size], _, _, H, rfl,
  I1.kept (t' := tk) fun b o e => Heap.get?_push_of_some _ e, turn_range _ lo (hi - lo).toNat, ?_, fun b hb => ?_, q⟩
 ·have e1 : lo + ((0 : Nat) : Int) * 1 = lo := by simp
  have e2 : (((hi - lo).toNat : Nat) : Int) - ((0 : Nat) : Int) = Builtin.Range.rangeSize lo hi 1 := by rw [rangeSize_one]; split <;> omega
  show IsRangeIter _ _ (lo + ((0 : Nat) : Int) * 1) ((((hi - lo).toNat : Nat) : Int) - ((0 : Nat) : Int)) 1
  rw [e1, e2]
  exact Heap.get?_push_size _ rfl
 ·have e : b = (s.heap.push { cls := .type "range", data := .fields #[.int lo t, .int hi u, .int 1 v] }).objs.size := by simpa using hb
  subst e
  exact I1.fpOk (Nat.le_refl _) (I1.hok.fresh (Nat.le_refl _))
def iRng1 (ta : TA) : TI := fun σ H R => ta σ H fun vs H1 => ∃ j : Int, vs = [.int j] ∧ -(2 ^ 62) ≤ j ∧ j < 2 ^ 62 ∧ R (Itr 0 j.toNat) H1
theorem pi_range1 {a : Expr} {ta : TA} {p pos : Pos} (hg : Gl X "range") (hm : X.mg "range" = none) (ha : PA X [a] ta) (hs : starEach [a] X.env = [(false, eval a X.env)] := by rfl) : PI X tg (.Call (.Name "range" p) [a] [] pos) (iRng1 ta) := by
 intro pins s σ H R I h
 refine Call_ (ld_blt I hg hm boot_range (PyProof.Rows.callWith_type1 (thn (ha pos pins s σ H _ I h) fun us s1 ⟨vs, H1, I1, r1, q1⟩ => ?_) hs rfl))
 obtain ⟨j, e, q1, q2, q⟩ := q1
 subst e
 cases r1 with
 | cons r rr =>
  cases rr
  obtain ⟨t, rfl⟩ := r
  exact call_range_1 (range_it I1 (by omega) (by omega) q1 q2 (by simpa using q))
def tFor (wi : TI) (g : TG) (tb : TS) : TS := fun D σ H => wi σ H fun J H1 => ∃ W : Nat → Nat → St → Hp → Prop, (∃ m, W 0 m σ H1) ∧ ∀ i m σ H, W i m σ H →
 (J.stop i H ∧ D.nx σ H) ∨ (J.go i H ∧ ∃ N : St → Hp → Prop, (∀ σ' H', N σ' H' → ∃ m', m' < m ∧ W (i + 1) m' σ' H') ∧ ∀ x H', J.yld i H x H' → g x σ H' fun σ2 H2 => tb { D with nx := N, ct := N, bk := D.nx } σ2 H2)
def pinsAt (fp : List Addr) (h : Heap) : List (Addr × Obj) := fp.filterMap fun b => (h.get? b).map fun o => (b, o)
theorem mem_pinsAt {fp : List Addr} {h : Heap} {b : Addr} {o : Obj} (hb : b ∈ fp) (e : h.get? b = some o) : (b, o) ∈ pinsAt fp h := List.mem_filterMap.mpr ⟨b, hb, by rw [e]; rfl⟩
theorem of_pinsAt {fp : List Addr} {h : Heap} {p : Addr × Obj} (hp : p ∈ pinsAt fp h) : p.1 ∈ fp ∧ h.get? p.1 = some p.2 := by
 obtain ⟨b, hb, e⟩ := List.mem_filterMap.mp hp
 cases q : h.get? b with
 | none => rw [q] at e; cases e
 | some o =>
  rw [q] at e
  have e' : (b, o) = p := Option.some.inj e
  subst e'
  exact ⟨hb, q⟩
theorem Inv.pinned {pins : List (Addr × Obj)} {σ : St} {H : Hp} {s : Shared} {fp : List Addr} (I : Inv X pins σ H s) (hf : ∀ b ∈ fp, FpOk X pins H b) (ho : ∀ b ∈ fp, ∃ o, s.heap.get? b = some o ∧ ∀ v, o.data ≠ .cell v) : Inv X (pins ++ pinsAt fp s.heap) σ H s :=
 I.pins_of fun p hp => (List.mem_append.mp hp).elim (fun z => I.pin p (List.mem_append_right _ z)) fun z => by
  obtain ⟨hb, e⟩ := of_pinsAt z
  obtain ⟨f0, f1, f2, _⟩ := hf p.1 hb
  obtain ⟨o, e', d⟩ := ho p.1 hb
  rw [e] at e'; cases e'
  exact ⟨e, f0, f1, f2, d⟩
theorem Inv.unpinned {pins pl : List (Addr × Obj)} {σ : St} {H : Hp} {s : Shared} (I : Inv X (pins ++ pl) σ H s) : Inv X pins σ H s := I.pins_of fun p hp => I.pin p (List.mem_append_right _ (List.mem_append_left _ hp))
theorem ps_for {iter : Expr} {body : List Stmt} {wi : TI} {g : TG} {tb : TS} {pos : Pos} (hp : PassesOwn (model X.prog X.w) X.A X.env X.xe) (hc : X.calm = true) (hi : PI X tg iter wi) (hg : PG X tg g) (hb : PSs X body tb)
  (hs : ∀ x, foldedSetIterable iter X.env x = pure x := by intro _; rfl) : PS X (.For tg iter body [] pos) (tFor wi g tb) := by
 intro pins s σ H D I h
 refine wpAny_For (thn (hi pins s σ H _ I h) fun v s1 h1 => thn h1 fun itv s2 h2 => ?_) hs
 obtain ⟨it, fp, tn, J, H2, e, I2, T, st2, f2, W, ⟨m0, w0⟩, turn⟩ := h2
 subst e
 -- what stays true of the iterator's objects through the loop
 have stat : ∀ {H' : Hp}, (∀ b ∈ fp, H' b = none) → ∀ b ∈ fp, FpOk X pins H' b := fun hn b hb => ⟨hn b hb, (f2 b hb).2⟩
 refine codeAny_forLoop_any (fun n s' => ∃ i σ' H', Inv X pins σ' H' s' ∧ tn i s'.heap ∧ (∀ b ∈ fp, H' b = none) ∧ W i n σ' H') ?_ m0 ⟨0, σ, H2, I2, st2, fun b hb => (f2 b hb).1, w0⟩
 rintro n s3 ⟨i, σ3, H3, I3, st3, fr3, w3⟩
 rcases turn i n σ3 H3 w3 with ⟨stop, qn⟩ | ⟨go, N, hN, step⟩
 ·refine wpAny_passesOwn hp (thn (T.done X rfl rfl rfl hc i pins s3 σ3 H3 X.xe I3 (stat fr3) st3 stop) fun r s4 ⟨hr, I4⟩ => ?_)
  subst hr
  exact wpAny_execs_nil ⟨σ3, H3, I4, qn⟩
 ·refine wpAny_passesOwn hp (thn (T.item X rfl rfl rfl hc i pins s3 σ3 H3 X.xe I3 (stat fr3) st3 go) fun r s4 ⟨u, hr, h4⟩ => ?_)
  subst hr
  refine wpAny_passesOwn hp (thn h4 fun _ s5 ⟨x, H5, I5, r5, y5, st5, fr5⟩ => ?_)
  have I5' := I5.pinned (stat fr5) (T.obj _ _ st5)
  refine wpAny_passesOwn hp (thn (hg _ s5 σ3 H5 x u _ I5' r5 (step x H5 y5)) fun _ s6 ⟨σ6, H6, I6, q6⟩ => ?_)
  refine wpAny_passesOwn hp (thn (hb _ s6 σ6 H6 _ I6 q6) fun f s7 q7 => ?_)
  have again : ∀ {σ7 : St} {H7 : Hp}, Inv X (pins ++ pinsAt fp s5.heap) σ7 H7 s7 → N σ7 H7 → ∃ m, m < n ∧ ∃ i σ' H', Inv X pins σ' H' s7 ∧ tn i s7.heap ∧ (∀ b ∈ fp, H' b = none) ∧ W i m σ' H' := fun {σ7 H7} I7 n7 => by
   obtain ⟨m', hm, w7⟩ := hN σ7 H7 n7
   refine ⟨m', hm, i + 1, σ7, H7, I7.unpinned, T.keep _ _ _ st5 fun b hb o e => (I7.pin (b, o) (List.mem_append_right _ (List.mem_append_right _ (mem_pinsAt hb e)))).1, fun b hb => ?_, w7⟩
   obtain ⟨o, e, d⟩ := T.obj _ _ st5 b hb
   exact (I7.pin (b, o) (List.mem_append_right _ (List.mem_append_right _ (mem_pinsAt hb e)))).2.1
  cases f with
  | next => obtain ⟨σ7, H7, I7, n7⟩ := q7; exact again I7 n7
  | cont => obtain ⟨σ7, H7, I7, n7⟩ := q7; exact again I7 n7
  | brk => obtain ⟨σ7, H7, I7, q7⟩ := q7; exact ⟨σ7, H7, I7.unpinned, q7⟩
  | ret v => obtain ⟨x7, σ7, H7, I7, r7, q7⟩ := q7; exact ⟨x7, σ7, H7, I7.unpinned, r7, q7⟩
end
end L2
namespace L2
open PySem PySem.Spec PyProof.Rows
abbrev R2 := V → V → Hp → VK → Prop
def OpR (X : Cx) (f : Value → Value → Sem Value) (r : R2) : Prop :=
 ∀ (pins : List (Addr × Obj)) (s : Shared) (σ : St) (H : Hp) (x y : V) (v u : Value) (Q : VK), Inv X pins σ H s → RelV x v → RelV y u → r x y H Q →
  wpAny (model X.prog X.w) X.A (f v u) (EP X pins σ Q) X.xe s
def UnR (X : Cx) (f : Value → Sem Value) (r : V → Hp → VK → Prop) : Prop :=
 ∀ (pins : List (Addr × Obj)) (s : Shared) (σ : St) (H : Hp) (x : V) (v : Value) (Q : VK), Inv X pins σ H s → RelV x v → r x H Q →
  wpAny (model X.prog X.w) X.A (f v) (EP X pins σ Q) X.xe s
def CallR (X : Cx) (f : Value) (r : List V → Hp → VK → Prop) : Prop :=
 ∀ (pins : List (Addr × Obj)) (s : Shared) (σ : St) (H : Hp) (xs : List V) (us : List Value) (Q : VK), Inv X pins σ H s → Vals xs us → r xs H Q →
  wpAny (model X.prog X.w) X.A (call f us) (EP X pins σ Q) X.xe s
def TruR (X : Cx) (r : V → Hp → (Bool → Hp → Prop) → Prop) : Prop :=
 ∀ (pins : List (Addr × Obj)) (s : Shared) (σ : St) (H : Hp) (x : V) (v : Value) (Q : Bool → Hp → Prop), Inv X pins σ H s → RelV x v → r x H Q →
  wpAny (model X.prog X.w) X.A (truthy v) (TP X pins σ Q) X.xe s
def tOp (r : R2) (ta tb : TE) : TE := fun σ H Q => ta σ H fun x H1 => tb σ H1 fun y H2 => r x y H2 Q
def tUn (r : V → Hp → VK → Prop) (ta : TE) : TE := fun σ H Q => ta σ H fun x H1 => r x H1 Q
def rI (C : Int → Int → Prop) (g : Int → Int → V) : R2 := fun x y H Q => ∃ i j, x = .int i ∧ y = .int j ∧ C i j ∧ Q (g i j) H
def rI0 (g : Int → Int → V) : R2 := fun x y H Q => ∃ i j, x = .int i ∧ y = .int j ∧ Q (g i j) H
def rU (g : Int → V) : V → Hp → VK → Prop := fun x H Q => ∃ i, x = .int i ∧ Q (g i) H
section
variable {X : Cx} {a b c : Expr} {ta tb tc : TE} {pos : Pos}
theorem binT (ha : PE X a ta) (hb : PE X b tb) {pins : List (Addr × Obj)} {s : Shared} {σ : St} {H : Hp} {R : V → V → Hp → Prop} (I : Inv X pins σ H s)
  (h : ta σ H fun x H1 => tb σ H1 fun y H2 => R x y H2) {Q : Value → Shared → Prop} {f : Value → Value → Sem Value}
  (hf : ∀ v u s2 x y H2, Inv X pins σ H2 s2 → RelV x v → RelV y u → R x y H2 → wpAny (model X.prog X.w) X.A (f v u) Q X.xe s2) :
  wpAny (model X.prog X.w) X.A (eval a X.env) (fun v s₁ => wpAny (model X.prog X.w) X.A (eval b X.env) (fun u s₂ => wpAny (model X.prog X.w) X.A (f v u) Q X.xe s₂) X.xe s₁) X.xe s := by
 refine thn (ha pins s σ H _ I h) fun v s1 ⟨x, H1, I1, r1, q1⟩ => ?_
 refine thn (hb pins s1 σ H1 _ I1 q1) fun u s2 ⟨y, H2, I2, r2, q2⟩ => ?_
 exact hf v u s2 x y H2 I2 r1 r2 q2
theorem pe_op {op : Operator} {r : R2} (ho : OpR X (binaryOp op) r) (ha : PE X a ta) (hb : PE X b tb) : PE X (.BinOp a op b pos) (tOp r ta tb) := by
 intro pins s σ H Q I h
 exact wpAny_BinOp (binT ha hb I h fun v u s2 x y H2 I2 rx ry q => ho pins s2 σ H2 x y v u Q I2 rx ry q)
theorem pe_un {op : UnaryOp} {r : V → Hp → VK → Prop} (ho : UnR X (unaryOp op) r) (ha : PE X a ta) : PE X (.UnaryOp op a pos) (tUn r ta) := by
 intro pins s σ H Q I h
 exact UnaryOp_ (thn (ha pins s σ H _ I h) fun v s1 ⟨x, H1, I1, r1, q1⟩ => ho pins s1 σ H1 x v Q I1 r1 q1)
theorem opI {f : Value → Value → Sem Value} {C : Int → Int → Prop} {g : Int → Int → Int}
  (rule : ∀ (i j : Int) (t u : Tok) (s : Shared) (Q : Value → Shared → Prop) (E : Value → Shared → Prop), C i j → Q (.int (g i j) s.toks) { s with toks := s.toks + 1 } → wpAny (model X.prog X.w) X.A (f (.int i t) (.int j u)) Q E s) :
  OpR X f (rI C fun i j => .int (g i j)) := by
 intro pins s σ H x y v u Q I rx ry h
 obtain ⟨i, j, rfl, rfl, hc, q⟩ := h
 obtain ⟨t, rfl⟩ := rx
 obtain ⟨t', rfl⟩ := ry
 exact rule i j t t' s _ _ hc ⟨.int (g i j), H, I.tok _, ⟨_, rfl⟩, q⟩
theorem opI0 {f : Value → Value → Sem Value} {g : Int → Int → Int}
  (rule : ∀ (i j : Int) (t u : Tok) (s : Shared) (Q : Value → Shared → Prop) (E : Value → Shared → Prop), Q (.int (g i j) s.toks) { s with toks := s.toks + 1 } → wpAny (model X.prog X.w) X.A (f (.int i t) (.int j u)) Q E s) :
  OpR X f (rI0 fun i j => .int (g i j)) := by
 intro pins s σ H x y v u Q I rx ry h
 obtain ⟨i, j, rfl, rfl, q⟩ := h
 obtain ⟨t, rfl⟩ := rx
 obtain ⟨t', rfl⟩ := ry
 exact rule i j t t' s _ _ ⟨.int (g i j), H, I.tok _, ⟨_, rfl⟩, q⟩
theorem opB0 {f : Value → Value → Sem Value} {g : Int → Int → Bool}
  (rule : ∀ (i j : Int) (t u : Tok) (s : Shared) (Q : Value → Shared → Prop) (E : Value → Shared → Prop), Q (.bool (g i j)) s → wpAny (model X.prog X.w) X.A (f (.int i t) (.int j u)) Q E s) :
  OpR X f (rI0 fun i j => .bl (g i j)) := by
 intro pins s σ H x y v u Q I rx ry h
 obtain ⟨i, j, rfl, rfl, q⟩ := h
 obtain ⟨t, rfl⟩ := rx
 obtain ⟨t', rfl⟩ := ry
 exact rule i j t t' s _ _ ⟨.bl (g i j), H, I, rfl, q⟩
def CMul (i j : Int) : Prop := (-(2 ^ 64) < i ∧ i < 2 ^ 64) ∨ (-(2 ^ 64) < j ∧ j < 2 ^ 64)
theorem CMul.ok {i j : Int} (h : CMul i j) : IntMulOk i j := by
 rcases h with ⟨h1, h2⟩ | ⟨h1, h2⟩
 ·exact .of_left (intBits_le_64 h1 h2)
 ·exact .of_right (intBits_le_64 h1 h2)
theorem op_add : OpR X (binaryOp .Add) (rI0 fun i j => .int (i + j)) := opI0 fun _ _ _ _ _ _ _ q => add_int q
theorem op_mul : OpR X (binaryOp .Mult) (rI CMul fun i j => .int (i * j)) := opI fun _ _ _ _ _ _ _ hc q => mul_int q hc.ok
theorem op_mod : OpR X (binaryOp .Mod) (rI (fun _ j => 0 < j) fun i j => .int (i % j)) := opI fun i j _ _ _ _ _ hc q => by
 have h1 : (0 : Int) < j := hc
 exact mod_int' (by omega) (by rw [Int.fmod_eq_emod_of_nonneg i (by omega)]; exact q)
theorem unI {f : Value → Sem Value} {g : Int → Int}
  (rule : ∀ (i : Int) (t : Tok) (s : Shared) (Q : Value → Shared → Prop) (E : Value → Shared → Prop), Q (.int (g i) s.toks) { s with toks := s.toks + 1 } → wpAny (model X.prog X.w) X.A (f (.int i t)) Q E s) :
  UnR X f (rU fun i => .int (g i)) := by
 intro pins s σ H x v Q I rx h
 obtain ⟨i, rfl, q⟩ := h
 obtain ⟨t, rfl⟩ := rx
 exact rule i t s _ _ ⟨.int (g i), H, I.tok _, ⟨_, rfl⟩, q⟩
theorem un_neg : UnR X (unaryOp .USub) (rU fun i => .int (-i)) := unI fun _ _ _ _ _ q => neg_int q
end
section
variable {X : Cx} {a b c : Expr} {ta tb tc : TE} {pos : Pos}
theorem fin_bl {pins : List (Addr × Obj)} {σ : St} {H : Hp} {s : Shared} {Q : VK} {k k' : Bool} (I : Inv X pins σ H s) (q : Q (.bl k) H) (e : k = k') : EP X pins σ Q (.bool k') s := by
 subst e
 exact ⟨.bl k, H, I, rfl, q⟩
theorem op_gt : OpR X (compareOp .Gt) (rI0 fun i j => .bl (decide (j < i))) := opB0 fun _ _ _ _ _ _ _ q => gt_int q
theorem op_isN : OpR X (compareOp .Is) (fun x y H Q => y = .non ∧ Q (.bl (decide (x = .non))) H) := by
 intro pins s σ H x y v u Q I rx ry h
 obtain ⟨rfl, q⟩ := h
 cases ry
 refine is_none_gen (fin_bl I q ?_)
 cases x <;> first
  | (cases rx; rfl)
  | (obtain ⟨t, rfl⟩ := rx; rfl)
theorem OpR.or {f : Value → Value → Sem Value} {r r' : R2} (h : OpR X f r) (h' : OpR X f r') : OpR X f (fun x y H Q => r x y H Q ∨ r' x y H Q) := by
 intro pins s σ H x y v u Q I rx ry q
 rcases q with q | q
 ·exact h pins s σ H x y v u Q I rx ry q
 ·exact h' pins s σ H x y v u Q I rx ry q
theorem nomark (b : Expr) {op : CmpOp} (h : op ≠ .In := by decide) (h2 : op ≠ .NotIn := by decide) : behindInMarks op b = false := by
 have e1 : (op == CmpOp.In) = false := by cases op <;> first | rfl | exact absurd rfl h
 have e2 : (op == CmpOp.NotIn) = false := by cases op <;> first | rfl | exact absurd rfl h2
 cases b <;> simp [behindInMarks, e1, e2]
theorem pe_cmpR {op : CmpOp} {r : R2} (ho : OpR X (compareOp op) r) (ha : PE X a ta) (hb : PE X b tb) (hm : behindInMarks op b = false) : PE X (.Compare a [op] [b] pos) (tOp r ta tb) := by
 intro pins s σ H Q I h
 exact wpAny_Compare1 (binT ha hb I h fun v u s2 x y H2 I2 rx ry q => ho pins s2 σ H2 x y v u Q I2 rx ry q) hm
def tTest (t : TE) : TT := fun σ H Q => t σ H fun x H' => ∃ k, x = .bl k ∧ Q k H'
theorem pt_cmpR {op : CmpOp} {r : R2} (ho : OpR X (compareOp op) r) (ha : PE X a ta) (hb : PE X b tb) (hm : behindInMarks op b = false) : PT X (.Compare a [op] [b] pos) (tTest (tOp r ta tb)) := by
 intro pins s σ H Q I h
 refine wpAny_isTrue_Compare1 (thn (ha pins s σ H _ I h) fun v s1 ⟨x, H1, I1, r1, q1⟩ => thn (hb pins s1 σ H1 _ I1 q1) fun u s2 ⟨y, H2, I2, r2, q2⟩ =>
  thn (ho pins s2 σ H2 x y v u _ I2 r1 r2 q2) fun c s3 ⟨z, H3, I3, r3, k, e, q3⟩ => ?_) hm
 subst e
 cases r3
 exact wpAny_truthy_bool ⟨H3, I3, q3⟩
def TruV (K : PySem.W.Frag) (x : V) (H : Hp) (k : Bool) : Prop :=
 match x with
 | .non => k = false
 | .bl b => k = b
 | .int i => k = (i != 0)
 | .str y => y.length ≤ sizeLine ∧ k = ((y.length : Int) != 0)
 | .byt y => y.size ≤ sizeLine ∧ k = ((y.size : Int) != 0)
 | .ref p => (∃ xs, SqL K H p xs ∧ k = !xs.isEmpty) ∨ (∃ xs, SqT K H p xs ∧ k = !xs.isEmpty) ∨ ∃ kvs, H p = some (.dK kvs) ∧ k = !kvs.isEmpty
 | _ => False
theorem isEmpty_kv {κ : Type} {kvs : List (κ × V)} {vs : List (κ × Value)} (r : KV kvs vs) : (!vs.isEmpty) = !kvs.isEmpty := by
 cases r <;> rfl
theorem isEmpty_of {xs : List V} {its : List Value} (r : Vals xs its) : (!its.toArray.isEmpty) = !xs.isEmpty := by
 cases r <;> simp
theorem line63 : (sizeLine : Nat) < 2 ^ 63 := by rw [sizeLine_eq]; decide
theorem tru_ok : TruR X (fun x H Q => ∃ k, TruV X.K x H k ∧ Q k H) := by
 intro pins s σ H x v Q I rx h
 obtain ⟨k, e, q⟩ := h
 have hl := line63
 have hs : sizeLine = 16777216 := sizeLine_eq
 cases x with
 | non =>
  cases rx
  have e' : k = false := e
  subst e'
  exact truthy_none ⟨H, I, q⟩
 | bl b =>
  cases rx
  have e' : k = b := e
  subst e'
  exact wpAny_truthy_bool ⟨H, I, q⟩
 | int i =>
  obtain ⟨t, rfl⟩ := rx
  have e' : k = (i != 0) := e
  subst e'
  exact PySem.P.truthy_int ⟨H, I, q⟩
 | str y =>
  obtain ⟨t, rfl⟩ := rx
  obtain ⟨hy, e'⟩ : y.length ≤ sizeLine ∧ k = ((y.length : Int) != 0) := e
  subst e'
  exact PySem.P.truthy_str (by omega) ⟨H, I.tok _, q⟩
 | byt y =>
  obtain ⟨t, rfl⟩ := rx
  obtain ⟨hy, e'⟩ : y.size ≤ sizeLine ∧ k = ((y.size : Int) != 0) := e
  subst e'
  exact PySem.W.truthy_bytes (by omega) ⟨H, I.tok _, q⟩
 | ref p =>
  cases rx
  have e' : (∃ xs, SqL X.K H p xs ∧ k = !xs.isEmpty) ∨ (∃ xs, SqT X.K H p xs ∧ k = !xs.isEmpty) ∨ ∃ kvs, H p = some (.dK kvs) ∧ k = !kvs.isEmpty := e
  rcases e' with ⟨xs, hx, e'⟩ | ⟨xs, hx, e'⟩ | ⟨kvs, hx, e'⟩
  ·subst e'
   obtain ⟨its, r, pl, hz⟩ := I.list hx
   have hlen := r.length
   exact wpAny_truthy_list pl.isList (by simp only [List.size_toArray]; omega) ⟨H, I.tok _, by rw [isEmpty_of r]; exact q⟩
  ·subst e'
   obtain ⟨its, r, pl, hz⟩ := I.tuple hx
   have hlen := r.length
   exact truthy_tuple pl (by simp only [List.size_toArray]; omega) ⟨H, I.tok _, by rw [isEmpty_of r]; exact q⟩
  ·subst e'
   obtain ⟨hz, hS, vs, r, m⟩ : kvs.length ≤ sizeLine ∧ (p == sysModules) = false ∧ ∃ vs, KV kvs vs ∧ s.heap.DictOf (mixKind X.prog X.w) p vs := I.hok p _ hx
   have hlen : kvs.length = vs.length := Paired.length r
   exact wpAny_truthy_dict hS m (by omega) ⟨H, I.tok _, by rw [isEmpty_kv r]; exact q⟩
 | _ => exact (show False from e).elim
theorem op_add_str : OpR X (binaryOp .Add) (fun x y H Q => ∃ i j, x = .str i ∧ y = .str j ∧ i.length + j.length ≤ sizeLine ∧ Q (.str (i ++ j)) H) := by
 intro pins s σ H x y v u Q I rx ry h
 obtain ⟨i, j, rfl, rfl, hz, q⟩ := h
 obtain ⟨t, rfl⟩ := rx
 obtain ⟨t', rfl⟩ := ry
 exact add_str (fun t' tk => ⟨.str (i ++ j), H, I.tok _, ⟨_, rfl⟩, q⟩) hz
theorem vals1 {x : V} {us : List Value} (r : Vals [x] us) : ∃ u, us = [u] ∧ RelV x u := by
 cases r with
 | cons r1 r2 => cases r2; exact ⟨_, rfl, r1⟩
theorem vals2 {x y : V} {us : List Value} (r : Vals [x, y] us) : ∃ u w', us = [u, w'] ∧ RelV x u ∧ RelV y w' := by
 cases r with
 | cons r1 r2 =>
  cases r2 with
  | cons r3 r4 => cases r4; exact ⟨_, _, rfl, r1, r3⟩
end
end L2
namespace L2
open PySem PySem.Spec PyProof.Rows
structure ObjM (h : Heap) (x dx C : Addr) (mA : Str → Option Value) : Prop where
 obj : h.get? x = some (PySem.W.instObj C dx)
 ns : h.Ns1 dx mA
 ne : dx ≠ x
theorem lookIn_ns {h : Heap} {dx : Addr} {mA : Str → Option Value} (n : h.Ns1 dx mA) : ∃ od, h.get? dx = some od ∧ ∀ name, PySem.W.lookIn name od = some (mA name) := by
 obtain ⟨o, es, ep, ho, hd, hk, _, hm⟩ := n
 refine ⟨o, ho, fun name => ?_⟩
 have e := hm name
 unfold nsFind findBy at e
 rw [← Array.find?_toList] at e
 unfold PySem.W.lookIn
 rw [hd]
 dsimp only
 split
 ·rename_i y q
  rw [q] at e
  exact congrArg some e
 ·rename_i q
  rw [q] at e
  have a : es.toList.any (·.refKey) = false := by
   rw [List.any_eq_false]
   intro y hy
   obtain ⟨z, t, hkey⟩ := hk y (Array.mem_toList_iff.mp hy)
   simp [DictEntry.refKey, hkey]
  have a' : ¬ es.toList.any (·.refKey) = true := by rw [a]; exact Bool.false_ne_true
  rw [if_neg a']
  exact congrArg some e
theorem ObjM.look {h : Heap} {x dx C : Addr} {mA : Str → Option Value} (I : ObjM h x dx C mA) : ∃ od, PySem.W.InstAt h x (PySem.W.instObj C dx) C (some od) ∧ ∀ name, PySem.W.lookIn name od = some (mA name) :=
 let ⟨od, ho, hl⟩ := lookIn_ns I.ns
 ⟨od, ⟨I.obj, rfl, rfl, ho⟩, hl⟩
section
variable {prog : Program} {w : World} {A : Around} {E : Value → Shared → Prop} {s : Shared} {K : PySem.W.Frag} {x dx C f : Addr} {mA : Str → Option Value} {name : Str} {v : Value}
end
theorem RelO.some_of {v : V} {o : Option Value} (r : RelO (some v) o) : ∃ u, o = some u ∧ RelV v u := by
 cases o with
 | none => exact (show False from r).elim
 | some u => exact ⟨u, rfl, r⟩
section
variable {P : Program} {w : World} {H H' : Hp} {h h' : Heap} {a C dx : Addr} {fs fs' : List (Str × V)}
theorem ins_get (hok : HOk P w H h) (e : H a = some (.ins C dx fs)) : ∃ mA, ObjM h a dx C mA ∧ (∀ f, RelO (fs.lookup f) (mA f)) ∧ PySem.Within mA (fs.map (·.1)) ∧ fs.length ≤ 1000 ∧ H dx = some (.own a) := by
 obtain ⟨d, z, ne, ob, mA, n, r, q⟩ := (show ObjOk P w H h a (.ins C dx fs) from hok a _ e)
 exact ⟨mA, ⟨ob, n, ne⟩, r, q, z, d⟩
end
structure Cls (K : PySem.W.Frag) (C : Addr) : Prop where
 pg : PySem.W.plainGet K C Str.empty = true
 hd : PySem.W.hasDictIn K C = true
 po : PySem.W.plainOver K C = true
 sa : PySem.W.findIn K (.ref C) "__setattr__" = some (some (.builtin "object.__setattr__"))
theorem Cls.get {K : PySem.W.Frag} {C : Addr} (c : Cls K C) (f : Str) : PySem.W.plainGet K C f = true := c.pg
structure Con (K : PySem.W.Frag) (C : Addr) (f : Str) (v : V) (u : Value) : Prop where
 at_ : PySem.W.findIn K (.ref C) f = some (some u)
 rel : RelV v u
 get : PySem.W.specialIn K u "__get__" = some none
 cp : PySem.W.copiedNames.contains f = false
structure Meth (K : PySem.W.Frag) (C : Addr) (m : Str) (f : Addr) : Prop where
 at_ : PySem.W.findIn K (.ref C) m = some (some (.ref f))
 fn : PySem.W.isFn K (.ref f) = true
 kp : PySem.W.keepIn K (.ref f) = true
section
variable {X : Cx} {pins : List (Addr × Obj)} {σ : St} {H : Hp} {s : Shared} {a C dx : Addr} {fs : List (Str × V)} {f : Str} {v : V} {A : Around} {E : Value → Shared → Prop}
theorem Inv.made (I : Inv X pins σ H s) : Inv X pins σ (upd (upd H s.heap.objs.size (.own (s.heap.objs.size + 1))) (s.heap.objs.size + 1) (.ins C s.heap.objs.size []))
  { s with heap := (s.heap.push PySem.W.emptyDict).push (PySem.W.instObj C s.heap.objs.size) } := by
 have e1 : (s.heap.push PySem.W.emptyDict).get? s.heap.objs.size = some PySem.W.emptyDict := Heap.get?_push_size s.heap rfl
 have e2 : ((s.heap.push PySem.W.emptyDict).push (PySem.W.instObj C s.heap.objs.size)).get? (s.heap.objs.size + 1) = some (PySem.W.instObj C s.heap.objs.size) := by
  have := Heap.get?_push_size (s.heap.push PySem.W.emptyDict) (o := PySem.W.instObj C s.heap.objs.size) rfl
  rwa [Heap.size_push] at this
 have e3 : (s.heap.push PySem.W.emptyDict).Ns s.heap.objs.size (fun _ => none) := ⟨PySem.W.emptyDict, #[], _, e1, rfl, (fun e he => absurd he (by simp)), fun _ => rfl⟩
 have I1 := I.laid (a := s.heap.objs.size) (o := .own (s.heap.objs.size + 1)) (h' := s.heap.push PySem.W.emptyDict) (t' := s.toks) (fun b u q => Heap.get?_push_of_some _ q) (Nat.le_refl _) ⟨_, e1⟩
 refine I1.laid (a := s.heap.objs.size + 1) (o := .ins C s.heap.objs.size []) (t' := s.toks) (fun b u q => Heap.get?_push_of_some _ q) (Nat.le_of_eq (Heap.size_push _ _)) ?_
 have ne : s.heap.objs.size ≠ s.heap.objs.size + 1 := Nat.ne_of_lt (Nat.lt_succ_self _)
 refine ⟨by rw [upd_ne ne, upd_same], Nat.zero_le _, ne, e2, fun _ => none, (Heap.Ns1.of_empty e3).at fun o q => Heap.get?_push_of_some _ q, fun _ => True.intro, fun y hy => absurd rfl hy⟩
end
section
variable {X : Cx} {o e value : Expr} {f : Str} {pos pos' tpos : Pos} {ta tv : TE}
end
section
variable {X : Cx} {pins : List (Addr × Obj)} {σ : St} {H : Hp} {s : Shared} {A : Around} {E : Value → Shared → Prop} {Q : Value → Shared → Prop} {c : Value} {b : Bool}
inductive TyOf (K : PySem.W.Frag) (H : Hp) : V → Value → Prop where
 | non : TyOf K H .non (.type "NoneType")
 | bl (x : Bool) : TyOf K H (.bl x) (.type "bool")
 | int (i : Int) : TyOf K H (.int i) (.type "int")
 | str (x : Str) : TyOf K H (.str x) (.type "str")
 | flt (x : UInt64) : TyOf K H (.flt x) (.type "float")
 | lst {a : Addr} {xs : List V} (e : H a = some (.lst xs)) : TyOf K H (.ref a) (.type "list")
 | frz {a : Addr} {o : Obj} {xs : List V} (e : H a = some (.frz o (.lst xs))) : TyOf K H (.ref a) (.type "list")
 | tup {a : Addr} {xs : List V} (e : H a = some (.tup xs)) : TyOf K H (.ref a) (.type "tuple")
 | dK {a : Addr} {kvs : List (Key × V)} (e : H a = some (.dK kvs)) : TyOf K H (.ref a) (.type "dict")
 | dT {a : Addr} {kvs : List (List Key × V)} (e : H a = some (.dT kvs)) : TyOf K H (.ref a) (.type "dict")
 | ins {a C dx : Addr} {fs : List (Str × V)} (e : H a = some (.ins C dx fs)) (cl : Cls K C) (ha : PySem.W.findIn K (.ref C) "__class__" = some (some (.builtin "object.__class__")))
   (hn : PySem.W.specialIn K (.builtin "object.__class__") "__get__" = some (some (.builtin "getset_descriptor.__get__"))) (htk : PySem.W.takesIn K (.builtin "object.__class__") = some true)
   (hm : PySem.W.mroIn K C (.type "object") = some true) : TyOf K H (.ref a) (.ref C)
theorem isinst_ok {x : V} {u t : Value} (I : Inv X pins σ H s) (rx : RelV x u) (ty : TyOf X.K H x t) (e : PySem.W.kitOne X.K t c = some b) (h : ∀ tk, Q (.bool b) { s with toks := tk }) :
  wpAny (model X.prog X.w) A (call (.builtin "isinstance") [u, c]) Q E s := by
 cases ty with
 | non => cases (show u = Value.none from rx); exact PySem.W.kia_one PySem.W.kitx_none I.kIn True.intro e (fun z => nomatch z) h
 | bl y => cases (show u = Value.bool y from rx); exact PySem.W.kia_one PySem.W.kitx_bool I.kIn True.intro e (fun z => nomatch z) h
 | int i => obtain ⟨t, q⟩ := (show ∃ t, u = Value.int i t from rx); cases q; exact PySem.W.kia_one PySem.W.kitx_int I.kIn True.intro e (fun z => nomatch z) h
 | str y => obtain ⟨t, q⟩ := (show ∃ t, u = Value.str y t from rx); cases q; exact PySem.W.kia_one PySem.W.kitx_str I.kIn True.intro e (fun z => nomatch z) h
 | flt y => obtain ⟨t, q⟩ := (show ∃ t, u = Value.float y t from rx); cases q; exact PySem.W.kia_one PySem.W.kitx_float I.kIn True.intro e (fun z => nomatch z) h
 | @lst a xs ea =>
  cases (show u = Value.ref a from rx)
  obtain ⟨_, _, n, _, h1⟩ := (show ObjOk X.prog X.w H s.heap a (.lst xs) from I.hok a _ ea)
  exact PySem.W.kia_one PySem.W.kitx_list I.kIn ⟨_, h1, rfl⟩ e (fun z => nomatch z) h
 | @frz a ob xs ea =>
  cases (show u = Value.ref a from rx)
  obtain ⟨_, _, _, n, _, h1⟩ := (show ObjOk X.prog X.w H s.heap a (.frz ob (.lst xs)) from I.hok a _ ea)
  exact PySem.W.kia_one PySem.W.kitx_list I.kIn ⟨_, h1, rfl⟩ e (fun z => nomatch z) h
 | @tup a xs ea =>
  cases (show u = Value.ref a from rx)
  obtain ⟨_, _, _, p⟩ := (show ObjOk X.prog X.w H s.heap a (.tup xs) from I.hok a _ ea)
  obtain ⟨⟨o, h1, h2, _⟩, _⟩ := p
  exact PySem.W.kia_one PySem.W.kitx_tuple I.kIn ⟨o, h1, h2⟩ e (fun z => nomatch z) h
 | @dK a kvs ea =>
  cases (show u = Value.ref a from rx)
  obtain ⟨_, _, vs, _, p⟩ := (show ObjOk X.prog X.w H s.heap a (.dK kvs) from I.hok a _ ea)
  obtain ⟨o, es, ep, h1, h2, _⟩ := p
  exact PySem.W.kia_one PySem.W.kitx_dict I.kIn ⟨o, h1, h2.1⟩ e (fun z => nomatch z) h
 | @dT a kvs ea =>
  cases (show u = Value.ref a from rx)
  obtain ⟨_, _, xs, _, o, es, ep, h1, h2, _⟩ := (show ObjOk X.prog X.w H s.heap a (.dT kvs) from I.hok a _ ea)
  exact PySem.W.kia_one PySem.W.kitx_dict I.kIn ⟨o, h1, h2.1⟩ e (fun z => nomatch z) h
 | @ins a C dx fs ea cl ha hn htk hm =>
  cases (show u = Value.ref a from rx)
  obtain ⟨mA, O, _⟩ := ins_get I.hok ea
  obtain ⟨od, J, _⟩ := O.look
  exact PySem.W.kia_one (PySem.W.kitx_own (cl.get _) cl.hd ha hn htk hm) I.kIn J e (fun z => nomatch z) h
end
end L2
namespace L2
open PySem PySem.Spec PyProof.Rows
structure Room (k : Nat) (A : Around) : Prop where
 hd : A.handled = none
 dp : A.depth + 3 * k + 5 < recursionLimit
 un : A.units + 16 * k + 200 < cLine
theorem Room.mono {j k : Nat} {A : Around} (r : Room k A) (h : j ≤ k) : Room j A := ⟨r.hd, by have := r.dp; omega, by have := r.un; omega⟩
theorem Room.deeper {k : Nat} {A : Around} (r : Room (k + 1) A) (env : Env) : Room k (A.deeper env) :=
 ⟨r.hd, by have := r.dp; show A.depth + 1 + 3 * k + 5 < _; omega, by have := r.un; show A.units + 3 + 16 * k + 200 < _; omega⟩
theorem Room.in1 {k : Nat} {A : Around} (r : Room (k + 1) A) : Room k A.in1 :=
 ⟨r.hd, by have := r.dp; show A.depth + 3 * k + 5 < _; omega, by have := r.un; show A.units + 1 + 16 * k + 200 < _; omega⟩
theorem Room.depth {k : Nat} {A : Around} (r : Room k A) : A.depth < recursionLimit := by have := r.dp; omega
theorem Room.units {k : Nat} {A : Around} (r : Room k A) : A.units + 64 < cLine := by have := r.un; omega
def tNil : TA := fun _ H Q => Q [] H
def tCons (ta : TE) (tr : TA) : TA := fun σ H Q => ta σ H fun x H1 => tr σ H1 fun xs H2 => Q (x :: xs) H2
section
variable {X : Cx} {e : Expr} {es : List Expr} {te : TE} {t : TA} {pos : Pos}
theorem pa_nil : PA X [] tNil := fun _ _ _ _ H Q I h => Calls.spliced_nil ⟨[], H, I, .nil, h⟩
theorem pa_cons (ha : PE X e te) (hr : PA X es t) (hs : starEach (e :: es) X.env = (false, eval e X.env) :: starEach es X.env := by rfl) : PA X (e :: es) (tCons te t) := by
 intro pos pins s σ H Q I h
 rw [hs]
 show wpAny _ _ (spliced ((false, eval e X.env) :: backTo pos (starEach es X.env))) _ _ s
 refine Calls.spliced_cons (thn (ha pins s σ H _ I h) fun u s1 ⟨x, H1, I1, r1, q1⟩ => ?_)
 exact thn (hr pos pins s1 σ H1 _ I1 q1) fun us s2 ⟨xs, H2, I2, r2, q2⟩ => ⟨x :: xs, H2, I2, .cons r1 r2, q2⟩
def tTup (t : TA) : TE := fun σ H Q => t σ H fun xs H1 => xs.length ≤ sizeLine ∧ ∀ p, H1 p = none → Q (.ref p) (upd H1 p (.tup xs))
def tLst (t : TA) : TE := fun σ H Q => t σ H fun xs H1 => xs.length ≤ sizeLine ∧ ∀ p, H1 p = none → Q (.ref p) (upd H1 p (.lst xs))
theorem pe_tup {x1} (h : PA X es t) : PE X (.Tuple es x1 pos) (tTup t) := by
 intro pins s σ H Q I hq
 refine wpAny_Tuple_spliced (thn (h pos pins s σ H _ I hq) fun us s1 ⟨xs, H1, I1, r, z, q⟩ => ⟨by rw [← r.length]; exact z, ?_⟩)
 have hf : H1 s1.heap.objs.size = none := I1.hok.fresh (Nat.le_refl _)
 refine ⟨.ref s1.heap.objs.size, upd H1 s1.heap.objs.size (.tup xs), I1.laid (t' := s1.toks) (fun b u e => Heap.get?_push_of_some _ e) (Nat.le_refl _) ?_, rfl, q _ hf⟩
 exact ⟨z, us, r, TupO.new _ _⟩
theorem pe_lst (h : PA X es t) : PE X (.List es pos) (tLst t) := by
 intro pins s σ H Q I hq
 refine wpAny_List_spliced (thn (h pos pins s σ H _ I hq) fun us s1 ⟨xs, H1, I1, r, z, q⟩ => ⟨by rw [← r.length]; exact z, ?_⟩)
 have hf : H1 s1.heap.objs.size = none := I1.hok.fresh (Nat.le_refl _)
 refine ⟨.ref s1.heap.objs.size, upd H1 s1.heap.objs.size (.lst xs), I1.laid (t' := s1.toks) (fun b u e => Heap.get?_push_of_some _ e) (Nat.le_refl _) ?_, rfl, q _ hf⟩
 exact ⟨z, us, 0, r, Heap.get?_push_size _ rfl⟩
end
abbrev Sp := List V → Hp → VK → XK → Prop
abbrev CXT := List Env → Hp → Shared → XK → Value → Shared → Prop
structure Env0 (P : Program) (w : World) (K : PySem.W.Frag) (mg : Str → Option Value) (base : Heap) (A : Around) (outer : List Env) (s : Shared) (H : Hp) : Prop where
 frames : A.frames = some outer
 mod : Mod K mg base
 bs : ∀ b o, base.get? b = some o → s.heap.get? b = some o ∧ H b = none
 bsz : base.objs.size ≤ s.heap.objs.size
 funs : s.heap.FunFrames base outer
 frf : ∀ b ∈ frs outer, H b = none
 hok : HOk P w H s.heap
 bare : AllBare s.gens
def CE (outer : List Env) (P : Program) (w : World) (H : Hp) (s : Shared) (Q : VK) (u : Value) (s' : Shared) : Prop :=
 ∃ v H', s'.os = s.os ∧ AllBare s'.gens ∧ Un (frs outer) [] H H' s.heap s'.heap ∧ HOk P w H' s'.heap ∧ RelV v u ∧ Q v H'
def CR (CX : CXT) (outer : List Env) (P : Program) (w : World) (H : Hp) (s : Shared) (Q : VK) (E : XK) (r : Result) (s' : Shared) : Prop :=
 match r with
 | .ok (.ret u) => CE outer P w H s Q u s'
 | .ok _ => False
 | .error e => CX outer H s E e s'
structure FnOk (P : Program) (w : World) (K : PySem.W.Frag) (mg : Str → Option Value) (base : Heap) (CX : CXT) (k : Nat) (f : Addr) (fd : FuncData) (ps : List Str) (sp : Sp) : Prop where
 len : ∀ vs H Q E, sp vs H Q E → vs.length = ps.length
 run : ∀ (A : Around) (outer : List Env) (s : Shared) (H : Hp) (args : Args) (us : List Value) (vs : List V) (Q : VK) (E : XK), Room k A → Env0 P w K mg base A outer s H → BindsTo s fd args (ps.zip us) → Vals vs us → sp vs H Q E →
  codeAny (model P w) A (.call (.ref f) args) (CR CX outer P w H s Q E) s
theorem FnOk.mono {P : Program} {w : World} {K : PySem.W.Frag} {mg : Str → Option Value} {base : Heap} {CX : CXT} {j k : Nat} {f : Addr} {fd : FuncData} {ps : List Str} {sp : Sp} (F : FnOk P w K mg base CX j f fd ps sp) (h : j ≤ k) :
  FnOk P w K mg base CX k f fd ps sp := ⟨F.len, fun A outer s H args us vs Q E hr => F.run A outer s H args us vs Q E (hr.mono h)⟩
theorem FnOk.imp {P : Program} {w : World} {K : PySem.W.Frag} {mg : Str → Option Value} {base : Heap} {CX : CXT} {k : Nat} {f : Addr} {fd : FuncData} {ps : List Str} {sp sp' : Sp} (F : FnOk P w K mg base CX k f fd ps sp)
  (h : ∀ vs H Q E, sp' vs H Q E → sp vs H Q E) : FnOk P w K mg base CX k f fd ps sp' :=
 ⟨fun vs H Q E q => F.len vs H Q E (h _ _ _ _ q), fun A outer s H args us vs Q E hr he hb hv hs => F.run A outer s H args us vs Q E hr he hb hv (h _ _ _ _ hs)⟩
theorem Env0.in1 {P : Program} {w : World} {K : PySem.W.Frag} {mg : Str → Option Value} {base : Heap} {A : Around} {outer : List Env} {s : Shared} {H : Hp} (e : Env0 P w K mg base A outer s H) :
  Env0 P w K mg base A.in1 outer s H := ⟨e.frames, e.mod, e.bs, e.bsz, e.funs, e.frf, e.hok, e.bare⟩
section
variable {X : Cx} {pins : List (Addr × Obj)} {σ : St} {H : Hp} {s s' : Shared}
theorem Inv.env0 (I : Inv X pins σ H s) : Env0 X.prog X.w X.K X.mg X.base X.A X.stack s H :=
 ⟨I.ok.frames, I.ok.mod, I.bs, Nat.le_trans I.ok.bsz I.sz, I.stack, I.stkFree, I.hok, I.bare⟩
theorem Inv.after {Q : VK} {u : Value} (I : Inv X pins σ H s) (h : CE X.stack X.prog X.w H s Q u s') : EP X pins σ Q u s' := by
 obtain ⟨v, H', os, bare, un, hok, r, q⟩ := h
 obtain ⟨hh, g, d, t, os'⟩ := s'
 obtain rfl : os' = s.os := os
 exact ⟨v, H', I.call (h' := hh) (g' := g) (d' := d) (t' := t) (ch := []) un hok bare (fun b z => absurd z (by simp)), r, q⟩
end
def tCall (sp : Sp) (dvs : List V) (E : XK) (t : TA) : TE := fun σ H Q => t σ H fun vs H1 => sp (vs ++ dvs) H1 Q E
def Binds (K : PySem.W.Frag) (fd : FuncData) (ps : List Str) (ds : List Value) : Prop :=
 ∀ (s : Shared) (us : List Value), K.In s.heap → (us ++ ds).length = ps.length → BindsTo s fd ⟨us, []⟩ (ps.zip (us ++ ds))
theorem Binds.all {K : PySem.W.Frag} {fd : FuncData} {ps : List Str} (h : ∀ us : List Value, us.length = ps.length → bindArgs fd ⟨us, []⟩ = pure (ps.zip us)) : Binds K fd ps [] := fun s us _ hl => by
 rw [List.append_nil] at hl ⊢
 exact .of_eq (h us hl)
def Passes (CX : CXT) (X : Cx) (E : XK) : Prop := ∀ (pins : List (Addr × Obj)) (σ : St) (H : Hp) (s : Shared) (e : Value) (s' : Shared), Inv X pins σ H s → CX X.stack H s E e s' → X.xe e s'
section
variable {X : Cx} {CX : CXT} {k : Nat} {f C : Addr} {fd : FuncData} {ps : List Str} {sp : Sp} {dvs : List V} {ds : List Value} {E : XK} {x m : Str} {p pos apos : Pos} {e o : Expr} {es : List Expr} {ta : TE} {t : TA}
theorem run_fn {pins : List (Addr × Obj)} {σ : St} {H : Hp} {s : Shared} {Q : VK} {us : List Value} {vs : List V} (F : FnOk X.prog X.w X.K X.mg X.base CX k f fd ps sp) (hr : Room k X.A) (hb : Binds X.K fd ps ds) (hd : Vals dvs ds) (hx : Passes CX X E)
  (I : Inv X pins σ H s) (r : Vals vs us) (h : sp (vs ++ dvs) H Q E) : wpAny (model X.prog X.w) X.A (call (.ref f) us) (EP X pins σ Q) X.xe s := by
 have r2 : Vals (vs ++ dvs) (us ++ ds) := r.append hd
 have hl : (us ++ ds).length = ps.length := by rw [← r2.length]; exact F.len _ _ _ _ h
 refine wpAny_call (codeAny_mono (F.run X.A X.stack s H ⟨us, []⟩ (us ++ ds) (vs ++ dvs) Q E hr I.env0 (hb s us I.kIn hl) r2 h) fun r s' hq => ?_)
 cases r with
 | error e => exact hx pins σ H s e s' I hq
 | ok fl =>
  cases fl with
  | ret u => exact I.after hq
  | next => exact False.elim hq
  | brk => exact False.elim hq
  | cont => exact False.elim hq
theorem pe_call (F : FnOk X.prog X.w X.K X.mg X.base CX k f fd ps sp) (hr : Room k X.A) (hg : Gl X x) (hm : X.mg x = some (.ref f)) (hk : PySem.W.keepIn X.K (.ref f) = true) (hb : Binds X.K fd ps ds) (hd : Vals dvs ds) (hx : Passes CX X E)
  (ha : PA X (e :: es) t) (hdb : (x == ("__debug__" : Str)) = false := by decide) (he : starEach (e :: es) X.env = (false, eval e X.env) :: starEach es X.env := by rfl) (hpl : (backTo pos (starEach es X.env)).any (·.1) = false := by rfl) :
  PE X (.Call (.Name x p) (e :: es) [] pos) (tCall sp dvs E t) := by
 intro pins s σ H Q I h
 refine wpAny_Call_Name_kw (ld_glob I hg hm ?_ hdb)
 refine PySem.W.callWith_K (h₀ := X.base) I.ok.mod.kin hk (thn (ha pos pins s σ H _ I h) fun us s1 ⟨vs, H1, I1, r, q⟩ => ⟨I1.kIn, ?_⟩) he hpl
 exact run_fn F hr hb hd hx I1 r q
structure Mk (K : PySem.W.Frag) (C f : Addr) : Prop where
 makes : PySem.W.makesIn K C = true
 init : PySem.W.findIn K (.ref C) "__init__" = some (some (.ref f))
 fn : PySem.W.isFn K (.ref f) = true
 kp : PySem.W.keepIn K (.ref C) = true
end
def PK (X : Cx) (kws : List Keyword) (t : TA) : Prop :=
 ∀ (pos : Pos) (pins : List (Addr × Obj)) (s : Shared) (σ : St) (H : Hp) (Q : List V → Hp → Prop), Inv X pins σ H s → t σ H Q → wpAny (model X.prog X.w) X.A (evalAll ((backToKw pos (keywordEach kws X.env)).map (·.2))) (AP X pins σ Q) X.xe s
section
variable {X : Cx} {CX : CXT} {k : Nat} {f C : Addr} {fd : FuncData} {ps ks : List Str} {sp : Sp} {E : XK} {x m : Str} {p pos apos kpos : Pos} {e o : Expr} {es : List Expr} {kws : List Keyword} {te ta : TE} {t tk : TA} {nm : Option Str}
theorem pk_nil : PK X [] tNil := fun _ _ _ _ H Q I h => wpAny_evalAll_nil ⟨[], H, I, .nil, h⟩
theorem pk_cons (ha : PE X e te) (hr : PK X kws t) : PK X (⟨nm, e, kpos⟩ :: kws) (tCons te t) := by
 intro pos pins s σ H Q I h
 show wpAny _ _ (evalAll ((do let v ← eval e X.env; standAt pos; pure v) :: (backToKw pos (keywordEach kws X.env)).map (·.2))) _ _ s
 refine wpAny_evalAll_cons (wpAny_bind (thn (ha pins s σ H _ I h) fun u s1 ⟨x, H1, I1, r1, q1⟩ => wpAny_bind (wpAny_standAt (wpAny_pure ?_))))
 exact thn (hr pos pins s1 σ H1 _ I1 q1) fun us s2 ⟨xs, H2, I2, r2, q2⟩ => ⟨x :: xs, H2, I2, .cons r1 r2, q2⟩
structure KBinds (K : PySem.W.Frag) (fd : FuncData) (ps ks : List Str) (g : List Value → List Value → List Value) (gV : List V → List V → List V) : Prop where
 to : ∀ (s : Shared) (us ws : List Value), K.In s.heap → (g us ws).length = ps.length → BindsTo s fd ⟨us, ks.zip ws⟩ (ps.zip (g us ws))
 rel : ∀ {vs : List V} {us : List Value} {zs : List V} {ws : List Value}, Vals vs us → Vals zs ws → Vals (gV vs zs) (g us ws)
variable {g : List Value → List Value → List Value} {gV : List V → List V → List V}
end
structure FnScope (N P : List Str) (sc : Scope) : Prop where
 kind : sc.kind = .function
 co : sc.isCoroutine = false
 gen : sc.isGenerator = false
 nd : N.Nodup
 pre : N.take P.length = P
 par : ∀ x ∈ P, sc.names.lookup x = some .local ∨ sc.names.lookup x = some .cell
 nofree : ∀ y ∈ sc.names, y.2 ≠ .free
theorem bindL_out {kindOf : Str → Option NameKind} {x : Str} : ∀ {binds : List (Str × Value)} {m : Str → Option Value}, (∀ v, (x, v) ∉ binds) → bindL kindOf binds m x = m x
 | [], _, _ => rfl
 | (n, v) :: r, m, h => by
  unfold bindL
  rw [bindL_out fun w hw => h w (List.mem_cons_of_mem _ hw)]
  split
  ·have : x ≠ n := by rintro rfl; exact h v List.mem_cons_self
   simp [this]
  ·rfl
theorem bindC_out {kindOf : Str → Option NameKind} {x : Str} : ∀ {binds : List (Str × Value)} {m : Str → Option Value}, (∀ v, (x, v) ∉ binds) → bindC kindOf binds m x = m x
 | [], _, _ => rfl
 | (n, v) :: r, m, h => by
  unfold bindC
  rw [bindC_out fun w hw => h w (List.mem_cons_of_mem _ hw)]
  split
  ·rfl
  ·have : x ≠ n := by rintro rfl; exact h v List.mem_cons_self
   simp [this]
theorem bindL_get {kindOf : Str → Option NameKind} {x : Str} {v : Value} : ∀ {P : List Str} {vs : List Value} {i : Nat} {m : Str → Option Value}, P.Nodup → P[i]? = some x → vs[i]? = some v → kindOf x = some .local →
  bindL kindOf (P.zip vs) m x = some v
 | [], _, _, _, _, h, _, _ => by simp at h
 | _ :: _, [], _, _, _, _, h, _ => by simp at h
 | p :: P, w :: vs, 0, m, nd, h1, h2, hk => by
  simp at h1 h2; subst h1; subst h2
  show bindL kindOf ((p, w) :: P.zip vs) m p = _
  unfold bindL
  rw [bindL_out fun v hv => (List.nodup_cons.mp nd).1 (List.of_mem_zip hv).1, if_pos hk]
  simp
 | p :: P, w :: vs, i + 1, m, nd, h1, h2, hk => by
  show bindL kindOf ((p, w) :: P.zip vs) m x = _
  unfold bindL
  exact bindL_get (i := i) (List.nodup_cons.mp nd).2 (by simpa using h1) (by simpa using h2) hk
theorem bindC_get {kindOf : Str → Option NameKind} {x : Str} {v : Value} : ∀ {P : List Str} {vs : List Value} {i : Nat} {m : Str → Option Value}, P.Nodup → P[i]? = some x → vs[i]? = some v → kindOf x ≠ some .local →
  bindC kindOf (P.zip vs) m x = some v
 | [], _, _, _, _, h, _, _ => by simp at h
 | _ :: _, [], _, _, _, _, h, _ => by simp at h
 | p :: P, w :: vs, 0, m, nd, h1, h2, hk => by
  simp at h1 h2; subst h1; subst h2
  show bindC kindOf ((p, w) :: P.zip vs) m p = _
  unfold bindC
  rw [bindC_out fun v hv => (List.nodup_cons.mp nd).1 (List.of_mem_zip hv).1, if_neg hk]
  simp
 | p :: P, w :: vs, i + 1, m, nd, h1, h2, hk => by
  show bindC kindOf ((p, w) :: P.zip vs) m x = _
  unfold bindC
  exact bindC_get (i := i) (List.nodup_cons.mp nd).2 (by simpa using h1) (by simpa using h2) hk
def start (N : List Str) (vs : List V) : St := vs.map some ++ List.replicate (N.length - vs.length) none
def cxOf (CX : CXT) (P : Program) (w : World) (K : PySem.W.Frag) (mg : Str → Option Value) (base : Heap) (N : List Str) (qual : Str) (scope : Scope) (f : Addr) (cd : Value) (A : Around) (outer : List Env) (s : Shared) (H : Hp) (E : XK) : Cx where
 prog := P
 w := w
 K := K
 mg := mg
 base := base
 A := A.deeper (envOfC qual scope s.heap.objs.size f cd)
 N := N
 s₀ := s
 H₀ := H
 env := envOfC qual scope s.heap.objs.size f cd
 outer := outer
 stack := envOfC qual scope s.heap.objs.size f cd :: outer
 ex := []
 calm := true
 fn := fun _ => true
 pn := []
 xe := fun e s' => wpAny (model P w) (A.deeper (envOfC qual scope s.heap.objs.size f cd)) (leaving (envOfC qual scope s.heap.objs.size f cd) e) (fun _ s'' => CX outer H s E e s'') (fun e' s'' => CX outer H s E e' s'') s'
theorem cell_has {sc : Scope} {n : Nat} {x : Str} (h : sc.names.lookup x = some .cell) : ∃ c, (cellsFrom n sc.names []).lookup x = some c := by
 have q := PySem.W.cellsFrom_some sc.names n [] (.inl h)
 exact Option.isSome_iff_exists.mp q
theorem inv_start {CX : CXT} {P : Program} {w : World} {K : PySem.W.Frag} {mg : Str → Option Value} {base : Heap} {N ps : List Str} {qual : Str} {scope : Scope} {f : Addr} {cd : Value} {A : Around} {outer : List Env} {s s1 : Shared} {H : Hp} {E : XK} {us : List Value} {vs : List V}
  (S : FnScope N ps scope) (hd : A.handled = none) (e0 : Env0 P w K mg base A outer s H) (hl : vs.length = ps.length) (r : Vals vs us)
  (x : InCallC s s.heap.objs.size (bindL (envOfC qual scope s.heap.objs.size f cd).kindOf (ps.zip us) fun _ => none) (cellsFrom (s.heap.objs.size + 1) scope.names []) (bindC (envOfC qual scope s.heap.objs.size f cd).kindOf (ps.zip us) fun _ => none) s1) :
  Inv (cxOf CX P w K mg base N qual scope f cd A outer s H E) [] (start N vs) H s1 := by
 have hpl : ps.length ≤ N.length := by have := congrArg List.length S.pre; rw [List.length_take] at this; omega
 obtain ⟨h1, tk, rfl, hk⟩ := x.done
 have noA : ∀ b : Addr, b ∉ (cxOf CX P w K mg base N qual scope f cd A outer s H E).ex := fun b z => absurd (show b ∈ ([] : List Addr) from z) (by simp)
 refine ⟨⟨e0.mod, S.kind, rfl, rfl, Nat.le_refl _, fun y z c h1 h2 => ?_, fun y hy => ?_, fun y c _ h => ?_, fun _ => hd, Around.frames_deeper e0.frames, .inr ⟨rfl, rfl⟩, fun b z => absurd z (noA b), e0.bs, e0.bsz, fun b _ _ => noA b, fun b z => absurd z (noA b), e0.funs, e0.frf⟩,
  rfl, e0.bare, Un.kept hk, ⟨_, x.toInCall.ns, fun i y v h1 h2 h3 => ?_⟩, fun y c h => ⟨_, x.cell y c h⟩, e0.hok.fresh (Nat.le_refl _), fun y c h => ?_, fun p hp => absurd (show p ∈ ([] : List (Addr × Obj)) from hp) (by simp), e0.hok.kept hk, ?_⟩
 ·exact name_of_addr x.apart (PySem.mem_of_lookup h1) (PySem.mem_of_lookup h2)
 ·have hy : scope.names.lookup y = some .cell ∨ scope.names.lookup y = some .free := hy
  rcases hy with hy | hy
  ·exact cell_has hy
  ·exact absurd rfl (S.nofree _ (PySem.mem_of_lookup hy))
 ·exact Nat.le_of_lt (x.above y c (PySem.mem_of_lookup h))
 ·have hi : i < vs.length := by
   unfold start at h2
   by_cases hi : i < vs.length
   ·exact hi
   ·rw [List.getElem?_append_right (by simpa using hi)] at h2
    rw [List.getElem?_replicate] at h2
    split at h2 <;> cases h2
  have ha : vs[i]? = some v := by
   unfold start at h2
   rw [List.getElem?_append_left (by simpa using hi), List.getElem?_map] at h2
   cases e : vs[i]? with
   | none => rw [e] at h2; cases h2
   | some a => rw [e] at h2; cases h2; rfl
  obtain ⟨u, hu, rv⟩ := r.get ha
  have hp : ps[i]? = some y := by
   rw [← S.pre, List.getElem?_take_of_lt (by omega)]; exact h1
  have ndP : ps.Nodup := by rw [← S.pre]; exact S.nd.sublist (List.take_sublist _ _)
  refine ⟨u, rv, ?_⟩
  rcases S.par y (List.mem_of_getElem? hp) with k | k
  ·exact .inl ⟨k, bindL_get ndP hp hu k⟩
  ·obtain ⟨c, e⟩ := cell_has (n := s.heap.objs.size + 1) k
   refine .inr ⟨.inl k, c, e, ?_⟩
   have q := x.cell y c e
   rw [bindC_get ndP hp hu (by show scope.names.lookup y ≠ _; rw [k]; decide)] at q
   exact q
 ·exact e0.hok.fresh (Nat.le_of_lt (x.above y c (PySem.mem_of_lookup h)))
 ·unfold start
  show _ = N.length
  rw [List.length_append, List.length_map, List.length_replicate]
  omega
theorem fn_of {CX : CXT} {P : Program} {w : World} {K : PySem.W.Frag} {mg : Str → Option Value} {base : Heap} {k : Nat} {f : Addr} {name qual : Str} {params : Arguments} {body : List Stmt} {scope : Scope} {dV kV doc pm cdv ct oc : Value} {an od : Option Addr}
  {osl : Array (Option Value)} {N ps : List Str} {sp : Sp} (lk : K.lookup f = some ⟨oc, od, .func (PySem.W.fnOf name qual params body scope dV kV doc pm an cdv ct), osl⟩) (hcd : PySem.W.codeIn K cdv qual = true) (S : FnScope N ps scope)
  (len : ∀ vs H Q E, sp vs H Q E → vs.length = ps.length)
  (hbody : ∀ (A : Around) (outer : List Env) (s : Shared) (H : Hp) (vs : List V) (Q : VK) (E : XK), Room k (A.deeper (envOfC qual scope s.heap.objs.size f cdv)) → sp vs H Q E →
   ∃ t, PSs (cxOf CX P w K mg base N qual scope f cdv A outer s H E) body t ∧ t { nx := fun _ H' => Q .non H', rt := Q } (start N vs) H) :
  FnOk P w K mg base CX (k + 1) f (PySem.W.fnOf name qual params body scope dV kV doc pm an cdv ct) ps sp := by
 refine ⟨len, fun A outer s H args us vs Q E hr e0 hb r hsp => ?_⟩
 have hl := len _ _ _ _ hsp
 have KX : K.In s.heap := e0.mod.kin.keeps fun b o e => (e0.bs b o e).1
 have lim : s.heap.NoLimit := e0.mod.nolimit.keeps fun b o e => (e0.bs b o e).1
 have hkind : ∀ y ∈ ps.zip us, scope.names.lookup y.1 = some .local ∨ (scope.names.lookup y.1 = some .cell ∧ ((cellsFrom (s.heap.objs.size + 1) scope.names []).lookup y.1).isSome = true) := fun ⟨n, v⟩ hy => by
  rcases S.par n (List.of_mem_zip hy).1 with q | q
  ·exact .inl q
  ·exact .inr ⟨q, PySem.W.cellsFrom_some _ _ _ (.inl q)⟩
 refine codeAny_call_function hr.depth (KX _ _ lk) rfl S.co S.gen rfl (PySem.W.codeRec_of KX hcd) (hb _ _ _ _ ?_)
 refine wpAny_newFunctionEnv_cells S.kind hkind fun env he s1 x => ?_
 subst he
 refine ⟨lim.keeps x.toInCall.keep, codeAny_func ?_⟩
 obtain ⟨t, ht, hq⟩ := hbody A outer s H vs Q E (hr.deeper _) hsp
 have I : Inv (cxOf CX P w K mg base N qual scope f cdv A outer s H E) [] (start N vs) H s1 := inv_start S hr.hd e0 hl r x
 refine wpAny_mono (ht [] s1 (start N vs) H _ I hq) (fun fl s' hs => ?_) fun e s' hs => hs
 have fin : ∀ {σ' : St} {H' : Hp} {v : V} {u : Value}, Inv (cxOf CX P w K mg base N qual scope f cdv A outer s H E) [] σ' H' s' → RelV v u → Q v H' → CE outer P w H s Q u s' :=
  fun {σ' H' v u} J rv q => ⟨v, H', J.os, J.bare, J.base, J.hok, rv, q⟩
 cases fl with
 | ret u =>
  obtain ⟨v, σ', H', J, rv, q⟩ := hs
  exact fin J rv q
 | next =>
  obtain ⟨σ', H', J, q⟩ := hs
  exact fin (v := V.non) (u := Value.none) J rfl q
 | brk =>
  obtain ⟨_, _, _, q⟩ := hs
  exact False.elim q
 | cont =>
  obtain ⟨_, _, _, q⟩ := hs
  exact False.elim q
end L2
namespace L2
open PySem PySem.Spec PyProof.Rows
section
variable {X : Cx} {x : Str} {p pos : Pos} {e : Expr} {es : List Expr} {t : TA} {id T : String} {r : List V → Hp → VK → Prop}
def tCB (r : List V → Hp → VK → Prop) (t : TA) : TE := fun σ H Q => t σ H fun vs H1 => r vs H1 Q
theorem pe_callB (hc : CallR X (.builtin id) r) (hg : Gl X x) (hm : X.mg x = none) (hv : bootBuiltins x = some (.builtin id)) (ha : PA X (e :: es) t) (hn : x ≠ "__name__" := by decide) (hdb : (x == ("__debug__" : Str)) = false := by decide)
  (he : starEach (e :: es) X.env = (false, eval e X.env) :: starEach es X.env := by rfl) (hpl : (backTo pos (starEach es X.env)).any (·.1) = false := by rfl) : PE X (.Call (.Name x p) (e :: es) [] pos) (tCB r t) := by
 intro pins s σ H Q I h
 refine wpAny_Call_Name_kw (ld_blt I hg hm hv ?_ hn hdb)
 exact PyProof.Rows.callWith_builtin1 (thn (ha pos pins s σ H _ I h) fun us s1 ⟨vs, H1, I1, r1, q1⟩ => hc pins s1 σ H1 vs us Q I1 r1 q1) he hpl
theorem pe_callTy (hc : CallR X (.type T) r) (hg : Gl X x) (hm : X.mg x = none) (hv : bootBuiltins x = some (.type T)) (ha : PA X (e :: es) t) (hn : x ≠ "__name__" := by decide) (hdb : (x == ("__debug__" : Str)) = false := by decide)
  (he : starEach (e :: es) X.env = (false, eval e X.env) :: starEach es X.env := by rfl) (hpl : (backTo pos (starEach es X.env)).any (·.1) = false := by rfl) : PE X (.Call (.Name x p) (e :: es) [] pos) (tCB r t) := by
 intro pins s σ H Q I h
 refine wpAny_Call_Name_kw (ld_blt I hg hm hv ?_ hn hdb)
 exact PyProof.Rows.callWith_type1 (thn (ha pos pins s σ H _ I h) fun us s1 ⟨vs, H1, I1, r1, q1⟩ => hc pins s1 σ H1 vs us Q I1 r1 q1) he hpl
end
end L2
namespace HT
open PySem PyProof.Rows
section
open PySem.SeqAt
open PySem.AutoSeq1 (wpAny_loadPart')
open PySem.MeetsSeq PySem.MeetsSeq2 PySem.MeetsSeq3
end
section
variable {prog : Program} {w : World} {A : Around} {E : Value → Shared → Prop} {s : Shared}
theorem cat_tup {t b : Addr} {vs ws : List Value} {Q : Value → Shared → Prop} (ht : IsTup s.heap t vs.toArray) (hb : IsTup s.heap b ws.toArray) (hv : vs ≠ [])
  (h1 : ws = [] → Q (.ref t) s) (h2 : ws ≠ [] → Q (.ref s.heap.objs.size) { s with heap := s.heap.push { cls := .type "tuple", data := .seq (vs ++ ws).toArray } })
  (hsz : vs.length + ws.length ≤ sizeLine) : wpAny (model prog w) A (binaryOp .Add (.ref t) (.ref b)) Q E s := by
 obtain ⟨⟨cls, dd, data, sl⟩, ho, hc, n, hd⟩ := id ht
 obtain ⟨⟨cls2, dd2, data2, sl2⟩, ho2, hc2, n2, hd2⟩ := id hb
 simp only at hc hd hc2 hd2
 subst hc hd hc2 hd2
 have e : vs.toArray ++ ws.toArray = (vs ++ ws).toArray := by simp
 by_cases hw : ws = []
 ·exact concat_meets ⟨_, ho, rfl⟩ ⟨_, ho2, rfl⟩ noFill_tuple_add seq_tuple_add PySem.F.slot_tuple_add PySem.F.entry_tuple_add (PySem.F.args_tuple_add_2 _ _)
   (tuple_addW1 t b vs.toArray ws.toArray n n2 dd dd2 sl sl2 (by simpa using hv) (by simp [hw])) ⟨ho, ho2, h1 hw⟩
 ·refine concat_meets ⟨_, ho, rfl⟩ ⟨_, ho2, rfl⟩ noFill_tuple_add seq_tuple_add PySem.F.slot_tuple_add PySem.F.entry_tuple_add (PySem.F.args_tuple_add_2 _ _)
   (tuple_addW2 t b vs.toArray ws.toArray n n2 dd dd2 sl sl2 (by simpa using hv) (by simpa using hw) (by rw [List.size_toArray, List.size_toArray]; exact hsz)) ⟨ho, ho2, ?_⟩
  rw [e]
  exact h2 hw
def sIx (n d : Nat) : Option Int → Nat
 | none => d
 | some v => if v < 0 then (v + (n : Int)).toNat else min v.toNat n
theorem sIx_none (n d : Nat) : sIx n d none = d := rfl
theorem sIx_nat (n d k : Nat) : sIx n d (some (k : Int)) = min k n := by
 show (if (k : Int) < 0 then ((k : Int) + (n : Int)).toNat else min (k : Int).toNat n) = min k n
 rw [if_neg (by omega), Int.toNat_natCast]
theorem sIx_le (n d : Nat) (hd : d ≤ n) (o : Option Int) : sIx n d o ≤ n := by
 cases o with
 | none => exact hd
 | some v =>
  show (if v < 0 then (v + (n : Int)).toNat else min v.toNat n) ≤ n
  by_cases hv : v < 0
  ·rw [if_pos hv]; omega
  ·rw [if_neg hv]; exact Nat.min_le_right _ _
theorem clip_eq (v : Int) (n d : Nat) : (if v < 0 then max (v + (n : Int)) 0 else min v (n : Int)) = ((sIx n d (some v) : Nat) : Int) := by
 show (if v < 0 then max (v + (n : Int)) 0 else min v (n : Int)) = (((if v < 0 then (v + (n : Int)).toNat else min v.toNat n) : Nat) : Int)
 by_cases hv : v < 0
 ·simp only [if_pos hv]; omega
 ·simp only [if_neg hv]; omega
theorem adjust_gen (lo hi : Option Int) (n : Nat) : Builtin.Slice.sliceAdjust lo hi 1 (n : Int) = (((sIx n 0 lo : Nat) : Int), ((sIx n n hi : Nat) : Int)) := by
 have h1 : ¬ ((1 : Int) < 0) := by omega
 unfold Builtin.Slice.sliceAdjust
 simp only [h1, if_false]
 refine Prod.ext ?_ ?_
 ·cases lo with
  | none => rfl
  | some v => exact clip_eq v n 0
 ·cases hi with
  | none => rfl
  | some v => exact clip_eq v n n
theorem places_gen (i j : Nat) : Builtin.Slice.slicePlaces (i : Int) (j : Int) 1 = j - i := by
 unfold Builtin.Slice.slicePlaces
 have h1 : (1 : Int) > 0 := by omega
 simp only [h1, if_true, Int.ediv_one]
 split <;> omega
theorem slicePart_ {v : Value} {o : Option Int} {Q : Option Int → Shared → Prop} (p : IsPart v o) (h : Q o s) : wpAny (model prog w) A (Builtin.Slice.slicePartIndex v) Q E s := by
 cases p with
 | none => exact slicePart_none h
 | int i t => exact slicePart_int h
theorem sliceApplied_gen {sl : Addr} {vl vu : Value} {lo hi : Option Int} {n : Nat} {Q : Int × Int × Nat → Shared → Prop} (hs : s.heap.IsSliceOf sl vl vu .none) (pl : IsPart vl lo) (pu : IsPart vu hi)
  (h : Q (((sIx n 0 lo : Nat) : Int), 1, sIx n n hi - sIx n 0 lo) s) : wpAny (model prog w) A (Builtin.Slice.sliceApplied (.ref sl) (pure (n : Int))) Q E s := by
 obtain ⟨os, hos, hcs, hds⟩ := id hs
 unfold Builtin.Slice.sliceApplied Builtin.Slice.sliceFields
 refine wpAny_bind (wpAny_bind (wpAny_field hos hds (x := vl) rfl (wpAny_bind (wpAny_field hos hds (x := vu) rfl (wpAny_bind (wpAny_field hos hds (x := .none) rfl (wpAny_pure ?_)))))))
 refine wpAny_bind (slicePart_none ?_)
 show wpAny _ _ (if ((1 : Int) == 0) = true then _ else _) _ _ s
 rw [if_neg (by decide)]
 refine wpAny_bind (slicePart_ pl (wpAny_bind (slicePart_ pu (wpAny_bind (wpAny_pure ?_)))))
 show wpAny _ _ (match Builtin.Slice.sliceAdjust lo hi 1 (n : Int) with | (lo, hi) => pure (lo, (1 : Int), Builtin.Slice.slicePlaces lo hi 1)) _ _ s
 rw [adjust_gen lo hi n]
 show wpAny _ _ (pure (((sIx n 0 lo : Nat) : Int), (1 : Int), Builtin.Slice.slicePlaces ((sIx n 0 lo : Nat) : Int) ((sIx n n hi : Nat) : Int) 1)) _ _ s
 rw [places_gen]
 exact wpAny_pure h
theorem pick_gen (xs : Array Value) (i k : Nat) : ((List.range k).filterMap fun (m : Nat) => xs[((i : Int) + (m : Int) * 1).toNat]?).toArray = ((xs.toList.drop i).take k).toArray := by
 have e : (fun (m : Nat) => xs[((i : Int) + (m : Int) * 1).toNat]?) = fun m => xs[i + m]? := by
  funext m
  have : ((i : Int) + (m : Int) * 1).toNat = i + m := by omega
  rw [this]
 rw [e]
 have := pick_run xs i k
 rw [List.filterMap_map] at this
 have e2 : ((fun x => xs[x]?) ∘ fun x => i + x) = fun m => xs[i + m]? := rfl
 rw [e2] at this
 rw [this]
theorem getItem_tuple_cut {t sl : Addr} {items : Array Value} {vl vu : Value} {lo hi : Option Int} {Q : Value → Shared → Prop} (ht : IsTup s.heap t items) (hs : s.heap.IsSliceOf sl vl vu .none) (pl : IsPart vl lo) (pu : IsPart vu hi)
  (hw : ¬ (sIx items.size 0 lo = 0 ∧ sIx items.size items.size hi = items.size))
  (h : Q (.ref s.heap.objs.size) { s with heap := s.heap.push { cls := .type "tuple", data := .seq ((items.toList.drop (sIx items.size 0 lo)).take (sIx items.size items.size hi - sIx items.size 0 lo)).toArray } })
  (hsz : items.size ≤ sizeLine) : wpAny (model prog w) A (getItem (.ref t) (.ref sl)) Q E s := by
 have htake : sizeOk (.seq ((items.toList.drop (sIx items.size 0 lo)).take (sIx items.size items.size hi - sIx items.size 0 lo)).toArray) := by
  show ((items.toList.drop (sIx items.size 0 lo)).take (sIx items.size items.size hi - sIx items.size 0 lo)).toArray.size ≤ sizeLine
  rw [List.size_toArray, List.length_take, List.length_drop, Array.length_toList]
  omega
 have hj : sIx items.size items.size hi ≤ items.size := sIx_le _ _ (Nat.le_refl _) hi
 obtain ⟨os, hos, hcs, hds⟩ := id hs
 have hTs : s.TypeIs (.ref sl) "slice" := ⟨os, hos, hcs⟩
 unfold getItem
 try with_reducible refine wpAny_holding ?_
 first | refine wpAny_bind (wpAny_pure ?_) | skip
 refine wpAny_bind (wpAny_sequenceKey ht.typeIs (by decide) ?_)
 refine wpAny_bind (wpAny_callSpecial?_slot (name := Str.ofString "__getitem__") ht.typeIs PyProof.Rows.slot_tuple_getitem
  (wpAny_call_entry PyProof.Rows.slot_tuple_getitem ht.typeIs entry_tuple_getitem ?_ (args_tuple_getitem _ _)))
 show wpAny _ _ (Builtin.Tuple.tupleItemsOf (.ref t) >>= _) _ _ s
 refine wpAny_bind (tupleItemsOf_ ht ?_)
 refine wpAny_bind (wpAny_typeOf hTs ?_)
 rw [if_pos (by decide)]
 refine wpAny_bind (sliceApplied_gen hs pl pu ?_)
 have hno : ¬ ((((sIx items.size 0 lo : Nat) : Int) == 0 && (1 : Int) == 1 && (sIx items.size items.size hi - sIx items.size 0 lo) == items.size) = true) := by
  intro q
  rw [Bool.and_eq_true, Bool.and_eq_true] at q
  have q1 : ((sIx items.size 0 lo : Nat) : Int) = 0 := eq_of_beq q.1.1
  have q2 : sIx items.size items.size hi - sIx items.size 0 lo = items.size := eq_of_beq q.2
  exact hw ⟨by omega, by omega⟩
 show wpAny _ _ (if (((sIx items.size 0 lo : Nat) : Int) == 0 && (1 : Int) == 1 && (sIx items.size items.size hi - sIx items.size 0 lo) == items.size) = true then _ else _) _ _ s
 rw [if_neg hno, pick_gen]
 first
  | exact wpAny_bind (m := Builtin.Tuple.tupleExact _) (wpAny_newObj_type (wpAny_pure ⟨_, rfl, wpAny_pure h⟩) htake)
  | exact wpAny_bind (m := Builtin.Tuple.tupleExact _) (wpAny_newObj_type (wpAny_bind (wpAny_pure (wpAny_pure ⟨_, rfl, wpAny_pure h⟩))) htake)
  | exact wpAny_bind (wpAny_bind (m := Builtin.Tuple.tupleExact _) (wpAny_newObj_type (wpAny_pure (wpAny_pure ⟨_, rfl, wpAny_pure h⟩)) htake))
  | exact wpAny_bind (wpAny_bind (m := Builtin.Tuple.tupleExact _) (wpAny_newObj_type (wpAny_pure ⟨_, rfl, wpAny_pure h⟩) htake))
end
end HT
namespace L2
open PySem PySem.Spec PyProof.Rows
abbrev TO := St → Hp → (Option Int → Hp → Prop) → Prop
def PO (X : Cx) (e : Option Expr) (t : TO) : Prop :=
 ∀ (pins : List (Addr × Obj)) (s : Shared) (σ : St) (H : Hp) (Q : Option Int → Hp → Prop), Inv X pins σ H s → t σ H Q →
  wpAny (model X.prog X.w) X.A (evalPart e X.env) (fun u s' => ∃ o H', Inv X pins σ H' s' ∧ IsPart u o ∧ Q o H') X.xe s
def tNoPart : TO := fun _ H Q => Q none H
def tPart (t : TE) : TO := fun σ H Q => t σ H fun x H1 => ∃ i, x = .int i ∧ Q (some i) H1
section
variable {X : Cx} {e : Expr} {te : TE} {lo hi : Option Expr} {tl th : TO} {pos p2 : Pos}
theorem po_none : PO X none tNoPart := by
 intro pins s σ H Q I h
 rw [evalPart_none]
 exact wpAny_pure ⟨none, H, I, .none, h⟩
theorem po_some (h : PE X e te) : PO X (some e) (tPart te) := by
 intro pins s σ H Q I hw
 rw [evalPart_some]
 refine thn (h pins s σ H _ I hw) fun u s1 ⟨x, H1, I1, r1, q1⟩ => ?_
 obtain ⟨i, rfl, q⟩ := q1
 obtain ⟨t, rfl⟩ := r1
 exact ⟨some i, H1, I1, .int i t, q⟩
def SlR (X : Cx) (r : V → Option Int → Option Int → Hp → VK → Prop) : Prop :=
 ∀ (pins : List (Addr × Obj)) (s : Shared) (σ : St) (H : Hp) (x : V) (v vl vu : Value) (lo hi : Option Int) (sl : Addr) (Q : VK), Inv X pins σ H s → RelV x v → s.heap.IsSliceOf sl vl vu .none → IsPart vl lo → IsPart vu hi → r x lo hi H Q →
  ∃ T id, typeLookup (.type T) "__getitem__" = pure (some (.builtin id)) ∧ s.TypeIs v T ∧ wpAny (model X.prog X.w) X.A (getItem v (.ref sl)) (EP X pins σ Q) X.xe s
theorem SlR.or {r r' : V → Option Int → Option Int → Hp → VK → Prop} (h : SlR X r) (h' : SlR X r') : SlR X (fun x lo hi H Q => r x lo hi H Q ∨ r' x lo hi H Q) := by
 intro pins s σ H x v vl vu lo hi sl Q I rx hs pl pu q
 rcases q with q | q
 ·exact h pins s σ H x v vl vu lo hi sl Q I rx hs pl pu q
 ·exact h' pins s σ H x v vl vu lo hi sl Q I rx hs pl pu q
def tSl (r : V → Option Int → Option Int → Hp → VK → Prop) (te : TE) (tl th : TO) : TE := fun σ H Q => te σ H fun x H1 => tl σ H1 fun l H2 => th σ H2 fun u H3 => r x l u H3 Q
theorem pe_slice {r : V → Option Int → Option Int → Hp → VK → Prop} (hr : SlR X r) (he : PE X e te) (hl : PO X lo tl) (hu : PO X hi th) : PE X (.Subscript e (.Slice lo hi none p2) pos) (tSl r te tl th) := by
 intro pins s σ H Q I h
 refine Subscript_ (thn (he pins s σ H _ I h) fun v s1 ⟨x, H1, I1, r1, q1⟩ => ?_)
 refine wpAny_Slice (thn (hl pins s1 σ H1 _ I1 q1) fun vl s2 ⟨l, H2, I2, pl, q2⟩ => thn (hu pins s2 σ H2 _ I2 q2) fun vu s3 ⟨u, H3, I3, pu, q3⟩ => ?_)
 rw [evalPart_none]
 refine wpAny_pure ?_
 have I4 : Inv X pins σ H3 { s3 with heap := s3.heap.push { cls := .type "slice", data := .fields #[vl, vu, .none] } } := I3.kept (t' := s3.toks) fun b ob q => Heap.get?_push_of_some _ q
 obtain ⟨T, id, hT, ht, hg⟩ := hr pins { s3 with heap := s3.heap.push { cls := .type "slice", data := .fields #[vl, vu, .none] } } σ H3 x v vl vu l u s3.heap.objs.size Q I4 r1 (Heap.IsSliceOf.new ..) pl pu q3
 show wpAny (model X.prog X.w) X.A (subscriptTail e (.Slice lo hi none p2) v (.ref s3.heap.objs.size)) (EP X pins σ Q) X.xe { s3 with heap := s3.heap.push { cls := .type "slice", data := .fields #[vl, vu, .none] } }
 exact tail_any (ops := [.ref s3.heap.objs.size, v]) ht hT hg (by with_unfolding_all rfl)
def cutV (xs : List V) (lo hi : Option Int) : List V := (xs.drop (HT.sIx xs.length 0 lo)).take (HT.sIx xs.length xs.length hi - HT.sIx xs.length 0 lo)
theorem cutV_length (xs : List V) (lo hi : Option Int) : (cutV xs lo hi).length ≤ xs.length := by
 unfold cutV
 rw [List.length_take, List.length_drop]
 omega
def rSlT (K : PySem.W.Frag) : V → Option Int → Option Int → Hp → VK → Prop := fun x lo hi H Q => ∃ a xs, x = .ref a ∧ SqT K H a xs ∧
 ¬ (HT.sIx xs.length 0 lo = 0 ∧ HT.sIx xs.length xs.length hi = xs.length) ∧ ∀ p, H p = none → Q (.ref p) (upd H p (.tup (cutV xs lo hi)))
theorem sl_tup : SlR X (rSlT X.K) := by
 intro pins s σ H x v vl vu lo hi sl Q I rx hs pl pu h
 obtain ⟨a, xs, rfl, hx, hw, q⟩ := h
 cases rx
 obtain ⟨its, r, ht, hz⟩ := I.tuple hx
 have hlen : its.toArray.size = xs.length := by rw [List.size_toArray]; exact r.length.symm
 refine ⟨"tuple", _, PyProof.Rows.slot_tuple_getitem.lookup, ht.typeIs, ?_⟩
 refine HT.getItem_tuple_cut ht hs pl pu (by rw [hlen]; exact hw) ?_ (by rw [hlen]; exact hz)
 rw [hlen]
 refine ⟨.ref s.heap.objs.size, _, I.laid (t' := s.toks) (o := .tup (cutV xs lo hi)) (fun b ob q => Heap.get?_push_of_some _ q) (Nat.le_refl _) ?_, rfl, q _ (I.hok.fresh (Nat.le_refl _))⟩
 exact ⟨Nat.le_trans (cutV_length xs lo hi) hz, _, (r.drop (HT.sIx xs.length 0 lo)).take (HT.sIx xs.length xs.length hi - HT.sIx xs.length 0 lo), TupO.new _ _⟩
def rCatT (K : PySem.W.Frag) : R2 := fun x y H Q => ∃ a b xs ys, x = .ref a ∧ y = .ref b ∧ SqT K H a xs ∧ SqT K H b ys ∧ xs ≠ [] ∧ xs.length + ys.length ≤ sizeLine ∧
 (ys = [] → Q (.ref a) H) ∧ (ys ≠ [] → ∀ p, H p = none → Q (.ref p) (upd H p (.tup (xs ++ ys))))
theorem Vals.nil_iff {xs : List V} {us : List Value} (r : Vals xs us) : us = [] ↔ xs = [] := by
 cases r with
 | nil => simp
 | cons _ _ => simp
theorem op_catT : OpR X (binaryOp .Add) (rCatT X.K) := by
 intro pins s σ H x y v u Q I rx ry h
 obtain ⟨a, b, xs, ys, rfl, rfl, ha, hb, hx, hz, q1, q2⟩ := h
 cases rx
 cases ry
 obtain ⟨its, r1, p1, _⟩ := I.tuple ha
 obtain ⟨its2, r2, p2, _⟩ := I.tuple hb
 refine HT.cat_tup p1 p2 (fun z => hx (r1.nil_iff.mp z)) (fun z => ⟨.ref a, H, I, rfl, q1 (r2.nil_iff.mp z)⟩) (fun z => ?_) (by rw [← r1.length, ← r2.length]; exact hz)
 refine ⟨.ref s.heap.objs.size, _, I.laid (t' := s.toks) (o := .tup (xs ++ ys)) (fun b ob q => Heap.get?_push_of_some _ q) (Nat.le_refl _) ?_, rfl, q2 (fun w => z (r2.nil_iff.mpr w)) _ (I.hok.fresh (Nat.le_refl _))⟩
 exact ⟨by rw [List.length_append]; exact hz, _, r1.append r2, TupO.new _ _⟩
end
end L2
namespace L2
open PySem PySem.Spec PyProof.Rows
def ixN (n : Nat) (i : Int) : Option Nat := if 0 ≤ i then (if i < n then some i.toNat else none) else if -(n : Int) ≤ i then some (i + n).toNat else none
def atI {α : Type} (xs : List α) (i : Int) : Option α := (ixN xs.length i).bind fun j => xs[j]?
theorem ixN_seq {n : Nat} {i : Int} {j : Nat} (h : ixN n i = some j) : seqIndex? i n = some j ∧ j < n ∧ -(n : Int) ≤ i ∧ i < n := by
 unfold ixN at h
 by_cases h0 : 0 ≤ i
 ·rw [if_pos h0] at h
  by_cases h1 : i < n
  ·rw [if_pos h1] at h
   have e : i.toNat = j := Option.some.inj h
   exact ⟨by rw [seqIndex_of h0 h1, e], by omega, by omega, h1⟩
  ·rw [if_neg h1] at h; cases h
 ·rw [if_neg h0] at h
  by_cases h1 : -(n : Int) ≤ i
  ·rw [if_pos h1] at h
   have e : (i + n).toNat = j := Option.some.inj h
   exact ⟨by rw [seqIndex_neg (by omega) h1, e], by omega, h1, by omega⟩
  ·rw [if_neg h1] at h; cases h
theorem atI_get {α : Type} {xs : List α} {i : Int} {v : α} (h : atI xs i = some v) : ∃ j, seqIndex? i xs.length = some j ∧ xs[j]? = some v ∧ j < xs.length ∧ -(xs.length : Int) ≤ i ∧ i < xs.length := by
 unfold atI at h
 cases e : ixN xs.length i with
 | none => rw [e] at h; cases h
 | some j =>
  rw [e] at h
  obtain ⟨h1, h2, h3, h4⟩ := ixN_seq e
  exact ⟨j, h1, h, h2, h3, h4⟩
theorem atI_nat {α : Type} {xs : List α} {j : Nat} {v : α} (h : xs[j]? = some v) : atI xs (j : Int) = some v := by
 have hj : j < xs.length := (List.getElem?_eq_some_iff.mp h).1
 have e : ixN xs.length (j : Int) = some j := by
  unfold ixN
  rw [if_pos (by omega), if_pos (by omega)]; simp
 unfold atI; rw [e]; exact h
def PlainIx (b : Expr) : Prop := ∀ o i, subscripted b false o i = operate [o, i] (getItem o i)
def IxR (X : Cx) (r : R2) : Prop :=
 ∀ (value slice : Expr) (pins : List (Addr × Obj)) (s : Shared) (σ : St) (H : Hp) (x y : V) (v u : Value) (Q : VK), Inv X pins σ H s → RelV x v → RelV y u → r x y H Q →
  subscripted slice false v u = operate [v, u] (getItem v u) → wpAny (model X.prog X.w) X.A (subscriptTail value slice v u) (EP X pins σ Q) X.xe s
def MtR (X : Cx) (id : String) (r : V → List V → Hp → VK → Prop) : Prop :=
 ∀ (pins : List (Addr × Obj)) (s : Shared) (σ : St) (H : Hp) (x : V) (xs : List V) (v : Value) (us : List Value) (Q : VK), Inv X pins σ H s → RelV x v → Vals xs us → r x xs H Q →
  wpAny (model X.prog X.w) X.A (call (.builtin id) (v :: us)) (EP X pins σ Q) X.xe s
section
variable {X : Cx} {a b : Expr} {ta tb : TE} {pos : Pos}
theorem IxR.or {r r' : R2} (h : IxR X r) (h' : IxR X r') : IxR X (fun x y H Q => r x y H Q ∨ r' x y H Q) := by
 intro value slice pins s σ H x y v u Q I rx ry q hs
 rcases q with q | q
 ·exact h value slice pins s σ H x y v u Q I rx ry q hs
 ·exact h' value slice pins s σ H x y v u Q I rx ry q hs
theorem MtR.or {id : String} {r r' : V → List V → Hp → VK → Prop} (h : MtR X id r) (h' : MtR X id r') : MtR X id (fun x xs H Q => r x xs H Q ∨ r' x xs H Q) := by
 intro pins s σ H x xs v us Q I rx rs q
 rcases q with q | q
 ·exact h pins s σ H x xs v us Q I rx rs q
 ·exact h' pins s σ H x xs v us Q I rx rs q
theorem pe_ix {r : R2} (hr : IxR X r) (ha : PE X a ta) (hb : PE X b tb) (hs : PlainIx b) : PE X (.Subscript a b pos) (tOp r ta tb) := by
 intro pins s σ H Q I h
 exact Subscript_ (binT ha hb I h fun v u s2 x y H2 I2 rx ry q => hr a b pins s2 σ H2 x y v u Q I2 rx ry q (hs _ _))
def rIxL (K : PySem.W.Frag) : R2 := fun x y H Q => ∃ p xs i v, x = .ref p ∧ y = .int i ∧ SqL K H p xs ∧ atI xs i = some v ∧ Q v H
def rIxT (K : PySem.W.Frag) : R2 := fun x y H Q => ∃ p xs i v, x = .ref p ∧ y = .int i ∧ SqT K H p xs ∧ atI xs i = some v ∧ Q v H
def rIxS : R2 := fun x y H Q => ∃ z i c, x = .str z ∧ y = .int i ∧ z.length ≤ sizeLine ∧ atI z.cps.toList i = some c ∧ Q (.str ⟨#[c]⟩) H
theorem ix_list : IxR X (rIxL X.K) := by
 intro value slice pins s σ H x y v u Q I rx ry h hs
 obtain ⟨p, xs, i, z, rfl, rfl, hq, he, q⟩ := h
 cases rx
 obtain ⟨t, rfl⟩ := ry
 obtain ⟨its, r, pl, hz⟩ := I.list hq
 obtain ⟨j, h1, h2, h3, h4, h5⟩ := atI_get he
 obtain ⟨w, ew, rw'⟩ := r.get h2
 have hl := r.length
 have hn := line63
 have fin : EP X pins σ Q w s := ⟨z, H, I, rw', q⟩
 by_cases h0 : 0 ≤ i
 ·have hj : i.toNat = j := by
   rw [seqIndex_of h0 h5] at h1
   exact Option.some.inj h1
  exact item_listR pl.isList h0 (by omega) (by rw [hj]; simpa using ew) fin hs
 ·have hj : (i + (its.toArray.size : Int)).toNat = j := by
   rw [seqIndex_neg (by omega) h4] at h1
   rw [List.size_toArray, ← hl]
   exact Option.some.inj h1
  exact subscriptTail_builtinR (x := w) pl.isList.typeIs slot_list_getitem.lookup
   (wpAny_getItem_list_neg (Q := fun r s' => r = w ∧ EP X pins σ Q r s') pl.isList (by omega) (by rw [List.size_toArray] <;> omega) (by omega) (by rw [hj]; simpa using ew) ⟨rfl, fin⟩) hs
theorem ix_tup : IxR X (rIxT X.K) := by
 intro value slice pins s σ H x y v u Q I rx ry h hs
 obtain ⟨p, xs, i, z, rfl, rfl, hq, he, q⟩ := h
 cases rx
 obtain ⟨t, rfl⟩ := ry
 obtain ⟨its, r, pl, hz⟩ := I.tuple hq
 obtain ⟨j, h1, h2, h3, h4, h5⟩ := atI_get he
 obtain ⟨w, ew, rw'⟩ := r.get h2
 have hl := r.length
 have hn := line63
 have fin : EP X pins σ Q w s := ⟨z, H, I, rw', q⟩
 exact subscriptTail_builtinR (x := w) pl.typeIs slot_tuple_getitem.lookup
  (getItem_tuple (j := j) (Q := fun r s' => r = w ∧ EP X pins σ Q r s') pl (by omega) (by omega) (by rw [List.size_toArray, ← hl]; exact h1) (by simpa using ew) ⟨rfl, fin⟩) hs
theorem ix_str : IxR X rIxS := by
 intro value slice pins s σ H x y v u Q I rx ry h hs
 obtain ⟨z, i, c, rfl, rfl, hz, he, q⟩ := h
 obtain ⟨t, rfl⟩ := rx
 obtain ⟨t', rfl⟩ := ry
 obtain ⟨j, h1, h2, h3, h4, h5⟩ := atI_get he
 have hl : z.cps.toList.length = z.length := by simp [Str.length]
 rw [hl] at h1 h4 h5
 have hn := line63
 exact tail_any (typeIs_str s z t) slot_str_getitem.lookup (getItem_str (c := c) (by
  have e1 : decide (i < -(2 ^ 63 : Int)) = false := decide_eq_false (by omega)
  have e2 : decide (i ≥ 2 ^ 63) = false := decide_eq_false (by omega)
  rw [e1, e2, Bool.or_false]) (by rw [h1]; simpa using h2) ⟨.str ⟨#[c]⟩, H, I.tok _, ⟨_, rfl⟩, q⟩) hs
def rIx (K : PySem.W.Frag) : R2 := fun x y H Q => rIxL K x y H Q ∨ rIxT K x y H Q ∨ rIxS x y H Q
theorem ix_seq : IxR X (rIx X.K) := ix_list.or (ix_tup.or ix_str)
theorem mapSeq_set (its : List Value) (n j : Nat) (u : Value) : Obj.mapSeq (·.setIfInBounds j u) { cls := .type "list", data := .seq its.toArray n } = { cls := .type "list", data := .seq (its.set j u).toArray n } := by
 simp [Obj.mapSeq]
theorem Inv.lst {pins : List (Addr × Obj)} {σ : St} {H : Hp} {s : Shared} {p : Addr} {xs : List V} (I : Inv X pins σ H s) (h : H p = some (.lst xs)) :
  ∃ (its : List Value) (n : Nat), Vals xs its ∧ s.heap.get? p = some { cls := .type "list", data := .seq its.toArray n } ∧ xs.length ≤ sizeLine := by
 obtain ⟨z, its, n, r, e⟩ := I.hok p _ h
 exact ⟨its, n, r, e, z⟩
theorem Inv.lstUpd {pins : List (Addr × Obj)} {σ : St} {H : Hp} {s : Shared} {p : Addr} {xs ys : List V} {its its' : List Value} {n n' : Nat} {f : Obj → Obj} (I : Inv X pins σ H s) (h : H p = some (.lst xs))
  (ho : s.heap.get? p = some { cls := .type "list", data := .seq its.toArray n }) (hf : f { cls := .type "list", data := .seq its.toArray n } = { cls := .type "list", data := .seq its'.toArray n' }) (r : Vals ys its') (hz : ys.length ≤ sizeLine) (t : Nat) :
  Inv X pins σ (upd H p (.lst ys)) { s with heap := s.heap.update p f, toks := t } := by
 have e : (s.heap.update p f).get? p = some { cls := .type "list", data := .seq its'.toArray n' } := by
  rw [Heap.get?_update_self f ho (by rw [hf] <;> rfl), hf]
 refine I.write (x := p) (e := p) (by rw [h]; trivial) (.inl rfl) (fun b u hb q => (Heap.get?_update_other _ _ (Ne.symm hb)).trans q) ⟨_, e⟩ ?_
 exact ⟨hz, its', n', r, e⟩
def rSetL : V → V → V → Hp → (Hp → Prop) → Prop := fun o i v H Q => ∃ p xs k j, o = .ref p ∧ i = .int k ∧ H p = some (.lst xs) ∧ ixN xs.length k = some j ∧ Q (upd H p (.lst (xs.set j v)))
theorem set_list : PSet X rSetL := by
 intro pins s σ H o i v ov iv u Q I ro ri rv h
 obtain ⟨p, xs, k, j, rfl, rfl, hp, hj, q⟩ := h
 cases ro
 obtain ⟨t, rfl⟩ := ri
 obtain ⟨its, n, r, ho, hz⟩ := I.lst hp
 obtain ⟨h1, h2, h3, h4⟩ := ixN_seq hj
 have hl := r.length
 have hn := line63
 have I' : Inv X pins σ (upd H p (.lst (xs.set j v))) { s with heap := s.heap.update p (Obj.mapSeq (·.setIfInBounds j u)) } :=
  I.lstUpd hp ho (mapSeq_set its n j u) (r.set rv j) (by rw [List.length_set]; exact hz) s.toks
 by_cases h0 : 0 ≤ k
 ·have hk : k.toNat = j := by
   rw [seqIndex_of h0 h4] at h1
   exact Option.some.inj h1
  exact PySem.W.ki_setAt ho h0 (by omega) (by rw [List.size_toArray, ← hl]; exact h4) (by rw [hk]; exact ⟨_, I', q⟩)
 ·have hk : (k + (its.toArray.size : Int)).toNat = j := by
   rw [seqIndex_neg (by omega) h3] at h1
   rw [List.size_toArray, ← hl]
   exact Option.some.inj h1
  exact PySem.W.ki_setBack ho (by omega) (by rw [List.size_toArray, ← hl]; exact h3) (by omega) (by rw [hk]; exact ⟨_, I', q⟩)
theorem slice_bounds (lo hi : Option Int) (n : Nat) : (sliceBounds lo hi none n).1 = ((HT.sIx n 0 lo : Nat) : Int) ∧ (sliceBounds lo hi none n).2.1 = ((HT.sIx n n hi : Nat) : Int) ∧ (sliceBounds lo hi none n).2.2 = 1 := by
 refine ⟨?_, ?_, rfl⟩
 ·cases lo with
  | none => simp [sliceBounds, HT.sIx]
  | some i =>
   simp only [sliceBounds, HT.sIx, Option.getD_none, show (1 : Int) > 0 by decide, if_true]
   by_cases h : i < 0
   ·simp only [h, if_true] <;> omega
   ·simp only [h, if_false] <;> omega
 ·cases hi with
  | none => simp [sliceBounds, HT.sIx]
  | some i =>
   simp only [sliceBounds, HT.sIx, Option.getD_none, show (1 : Int) > 0 by decide, if_true]
   by_cases h : i < 0
   ·simp only [h, if_true] <;> omega
   ·simp only [h, if_false] <;> omega
theorem slicePick_cut (its : List Value) (lo hi : Option Int) : slicePick its.toArray lo hi none = ((its.drop (HT.sIx its.length 0 lo)).take (HT.sIx its.length its.length hi - HT.sIx its.length 0 lo)).toArray := by
 obtain ⟨h1, h2, h3⟩ := slice_bounds lo hi its.toArray.size
 unfold slicePick
 rw [h1, h2, h3]
 simp only [sliceRange_one, pick_run, List.size_toArray] <;> rfl
def rSlL (K : PySem.W.Frag) : V → Option Int → Option Int → Hp → VK → Prop := fun x lo hi H Q => ∃ a xs, x = .ref a ∧ SqL K H a xs ∧ ∀ p, H p = none → Q (.ref p) (upd H p (.lst (cutV xs lo hi)))
theorem sl_list : SlR X (rSlL X.K) := by
 intro pins s σ H x v vl vu lo hi sl Q I rx hs pl pu h
 obtain ⟨a, xs, rfl, hx, q⟩ := h
 cases rx
 obtain ⟨its, r, ht, hz⟩ := I.list hx
 have hlen := r.length
 refine ⟨"list", _, slot_list_getitem.lookup, ht.isList.typeIs, ?_⟩
 refine wpAny_getItem_list_slice ht.isList hs pl pu .none (by simp) ?_ (by rw [List.size_toArray] <;> omega)
 rw [slicePick_cut, ← hlen]
 refine ⟨.ref s.heap.objs.size, _, I.laid (t' := s.toks) (o := .lst (cutV xs lo hi)) (fun b ob q => Heap.get?_push_of_some _ q) (Nat.le_refl _) ?_, rfl, q _ (I.hok.fresh (Nat.le_refl _))⟩
 exact ⟨Nat.le_trans (cutV_length xs lo hi) hz, _, 0, (r.drop (HT.sIx xs.length 0 lo)).take (HT.sIx xs.length xs.length hi - HT.sIx xs.length 0 lo), Heap.get?_push_size _ rfl⟩
theorem call_len_seq : CallR X (.builtin "len") (fun xs H Q => ∃ p ys, xs = [.ref p] ∧ (SqL X.K H p ys ∨ SqT X.K H p ys) ∧ Q (.int ys.length) H) := by
 intro pins s σ H xs us Q I r h
 obtain ⟨p, ys, rfl, hq, q⟩ := h
 obtain ⟨u, rfl, rx⟩ := vals1 r
 cases rx
 have hn := line63
 rcases hq with hq | hq
 ·obtain ⟨its, r', pl, hz⟩ := I.list hq
  have hlen := r'.length
  exact Calls.call_len_list pl.isList (by simp only [List.size_toArray] <;> omega) ⟨.int ys.length, H, I.tok _, ⟨s.toks + 1, by rw [List.size_toArray, hlen]⟩, q⟩
 ·obtain ⟨its, r', pl, hz⟩ := I.tuple hq
  have hlen := r'.length
  exact len_tuple pl (by simp only [List.size_toArray] <;> omega) ⟨.int ys.length, H, I.tok _, ⟨s.toks + 1, by rw [List.size_toArray, hlen]⟩, q⟩
theorem call_len_str : CallR X (.builtin "len") (fun xs H Q => ∃ z, xs = [.str z] ∧ z.length ≤ sizeLine ∧ Q (.int z.length) H) := by
 intro pins s σ H xs us Q I r h
 obtain ⟨z, rfl, hz, q⟩ := h
 obtain ⟨u, rfl, t, rfl⟩ := vals1 r
 have hn := line63
 exact len_str (by omega) ⟨.int z.length, H, I.tok _, ⟨_, rfl⟩, q⟩
theorem CallR.or {f : Value} {r r' : List V → Hp → VK → Prop} (h : CallR X f r) (h' : CallR X f r') : CallR X f (fun xs H Q => r xs H Q ∨ r' xs H Q) := by
 intro pins s σ H xs us Q I rs q
 rcases q with q | q
 ·exact h pins s σ H xs us Q I rs q
 ·exact h' pins s σ H xs us Q I rs q
theorem call_list_of : CallR X (.type "list") (fun xs H Q => ∃ p ys, xs = [.ref p] ∧ (SqL X.K H p ys ∨ SqT X.K H p ys) ∧ ∀ l, H l = none → Q (.ref l) (upd H l (.lst ys))) := by
 intro pins s σ H xs us Q I r h
 obtain ⟨p, ys, rfl, hq, q⟩ := h
 obtain ⟨u, rfl, rx⟩ := vals1 r
 cases rx
 have fin : ∀ (its : List Value), Vals ys its → ys.length ≤ sizeLine → ∀ (h' : Heap) (c' : Nat), (∀ b o', s.heap.get? b = some o' → h'.get? b = some o') →
   h'.get? s.heap.objs.size = some { cls := .type "list", dict := none, data := .seq its.toArray c', slots := #[] } → EP X pins σ Q (.ref s.heap.objs.size) { s with heap := h' } := fun its r' hz h' c' kp e =>
  ⟨.ref s.heap.objs.size, _, I.laid (t' := s.toks) kp (Nat.le_refl _) (show ObjOk X.prog X.w _ h' _ (.lst ys) from ⟨hz, its, c', r', e⟩), rfl, q _ (I.hok.fresh (Nat.le_refl _))⟩
 rcases hq with hq | hq
 ·obtain ⟨its, r', pl, hz⟩ := I.list hq
  have hlen := r'.length
  obtain ⟨o, ho, hc, n, hd⟩ := pl.isList
  exact call_list_seq p (.inl rfl) ho hc hd (fun h' c' kp e => fin its r' hz h' c' kp e) (by simp only [List.size_toArray] <;> omega)
 ·obtain ⟨its, r', pl, hz⟩ := I.tuple hq
  have hlen := r'.length
  obtain ⟨o, ho, hc, n, hd⟩ := pl
  exact call_list_seq p (.inr rfl) ho hc hd (fun h' c' kp e => fin its r' hz h' c' kp e) (by simp only [List.size_toArray] <;> omega)
theorem call_tuple_of : CallR X (.type "tuple") (fun xs H Q => ∃ p ys, xs = [.ref p] ∧ ((SqL X.K H p ys ∧ ∀ l, H l = none → Q (.ref l) (upd H l (.tup ys))) ∨ (SqT X.K H p ys ∧ Q (.ref p) H))) := by
 intro pins s σ H xs us Q I r h
 obtain ⟨p, ys, rfl, h⟩ := h
 obtain ⟨u, rfl, rx⟩ := vals1 r
 cases rx
 rcases h with ⟨hq, q⟩ | ⟨hq, q⟩
 ·obtain ⟨its, r', pl, hz⟩ := I.list hq
  have hlen := r'.length
  refine call_tuple_list pl.isList (fun h' kp => ?_) (by simp only [List.size_toArray] <;> omega)
  have I1 : Inv X pins σ H { s with heap := h' } := I.kept (t' := s.toks) kp
  have I2 : Inv X pins σ (upd H h'.objs.size (.tup ys)) { s with heap := h'.push { cls := .type "tuple", data := .seq its.toArray } } :=
   I1.laid (t' := s.toks) (fun b o e => Heap.get?_push_of_some _ e) (Nat.le_refl _) (show ObjOk X.prog X.w _ _ _ (.tup ys) from ⟨hz, its, r', TupO.new _ _⟩)
  exact ⟨.ref h'.objs.size, _, I2, rfl, q _ (I1.hok.fresh (Nat.le_refl _))⟩
 ·obtain ⟨its, r', pl, hz⟩ := I.tuple hq
  exact call_tuple_same pl ⟨.ref p, H, I, rfl, q⟩
def tyV (K : PySem.W.Frag) (T : String) (x : V) (H : Hp) : Prop := match x with
 | .str _ => T = "str"
 | .int _ => T = "int"
 | .ref p => (T = "list" ∧ ∃ xs, SqL K H p xs) ∨ (T = "tuple" ∧ ∃ o, K.lookup p = some o ∧ o.cls = .type "tuple" ∧ o.dict = none) ∨
   (T = "dict" ∧ ((∃ kvs, H p = some (.dK kvs)) ∨ ∃ kvs, H p = some (.dT kvs))) ∨ (T = "set" ∧ ∃ S n, H p = some (.set S n))
 | _ => False
theorem tyV_is {pins : List (Addr × Obj)} {σ : St} {H : Hp} {s : Shared} {T : String} {x : V} {v : Value} (I : Inv X pins σ H s) (r : RelV x v) (ty : tyV X.K T x H) :
  s.TypeIs v T ∧ ∀ a, v = .ref a → ∃ ob, s.heap.get? a = some ob ∧ ob.dict = none := by
 cases x with
 | str z =>
  obtain ⟨t, rfl⟩ := r
  cases (show T = "str" from ty)
  exact ⟨typeIs_str s z t, fun _ e => nomatch e⟩
 | int i =>
  obtain ⟨t, rfl⟩ := r
  cases (show T = "int" from ty)
  exact ⟨typeIs_int s i t, fun _ e => nomatch e⟩
 | ref p =>
  cases r
  rcases ty with ⟨rfl, xs, hq⟩ | ⟨rfl, o, hk, hc, hd⟩ | ⟨rfl, hk⟩ | ⟨rfl, S, n, hk⟩
  ·obtain ⟨its, _, pl, _⟩ := I.list hq
   refine ⟨pl.isList.typeIs, fun a e => ?_⟩
   cases e
   obtain ⟨o, n, e, c, hd, _⟩ := pl
   exact ⟨o, e, hd⟩
  ·refine ⟨⟨o, I.kIn p o hk, hc⟩, fun a e => ?_⟩
   cases e
   exact ⟨o, I.kIn _ o hk, hd⟩
  ·have z : ∃ o, s.heap.get? p = some o ∧ o.ExactDict := by
    rcases hk with ⟨kvs, hk⟩ | ⟨kvs, hk⟩
    ·obtain ⟨_, _, _, _, o, _, _, e, ex, _⟩ := I.hok p _ hk
     exact ⟨o, e, ex⟩
    ·obtain ⟨_, _, _, _, o, _, _, e, ex, _⟩ := I.hok p _ hk
     exact ⟨o, e, ex⟩
   obtain ⟨o, e, ex⟩ := z
   refine ⟨⟨o, e, ex.1⟩, fun a e2 => ?_⟩
   cases e2
   exact ⟨o, e, ex.2.1⟩
  ·obtain ⟨o, _, _, _, e, ex, _⟩ := I.hok p _ hk
   refine ⟨⟨o, e, ex.1⟩, fun a e2 => ?_⟩
   cases e2
   exact ⟨o, e, ex.2.1⟩
 | _ => exact False.elim ty
def tBM (K : PySem.W.Frag) (T : String) (r : V → List V → Hp → VK → Prop) (to : TE) (t : TA) : TE := fun σ H Q => to σ H fun x H1 => tyV K T x H1 ∧ t σ H1 fun xs H2 => r x xs H2 Q
variable {o e : Expr} {es : List Expr} {to : TE} {t : TA} {name : Str} {apos cpos : Pos} {T id : String} {r : V → List V → Hp → VK → Prop}
theorem pe_bm (pa : PlainAttrs T) (slot : Slot T name id) (hty : typeOf (.builtin id) = pure (.type "method_descriptor")) (hm : MtR X id r) (ho : PE X o to) (ha : PA X (e :: es) t)
  (hbase : attributeBase o name X.env (eval o X.env) = eval o X.env := by rfl)
  (hfew : ((backTo cpos (starEach (e :: es) X.env)).all (fun x => !x.1) && (backToKw cpos (keywordEach [] X.env)).all (fun x => x.1.isSome)
   && decide ((e :: es).length + ([] : List Keyword).length + (if ([] : List Keyword).isEmpty then 0 else 1) < 30)) = true := by rfl)
  (hline : (apos.endLine == cpos.line) = true := by rfl) (hs : starEach (e :: es) X.env = (false, eval e X.env) :: starEach es X.env := by rfl) (hplain : (backTo cpos (starEach es X.env)).any (·.1) = false := by rfl) :
  PE X (.Call (.Attribute o name apos) (e :: es) [] cpos) (tBM X.K T r to t) := by
 intro pins s σ H Q I h
 refine wpAny_Call_method_late hbase hfew hline rfl (thn (ho pins s σ H _ I h) fun v s1 ⟨x, H1, I1, r1, ty, q1⟩ => ?_)
 obtain ⟨h1, h2⟩ := tyV_is I1 r1 ty
 refine ⟨T, id, pa, slot, hty, h1, h2, ?_⟩
 have hA := ha cpos pins s1 σ H1 _ I1 q1
 rw [hs] at hA ⊢
 refine Calls.callWith_builtin (by show (false || (backTo cpos (starEach es X.env)).any (·.1)) = false; rw [hplain] <;> rfl) (Calls.evalArgs_plain ?_)
 exact thn hA fun us s2 ⟨vs, H2, I2, r2, q2⟩ => hm pins s2 σ H2 x vs v us Q I2 r1 r2 q2
/- xs.append(e), list.index on a module's tuple .. are MtR facts of 06m -/
end
end L2
namespace L2
open PySem PySem.Spec PyProof.Rows
def MtM (X : Cx) (id : String) (r : V → List V → Hp → VK → Prop) : Prop :=
 ∀ (pins : List (Addr × Obj)) (s : Shared) (σ : St) (H : Hp) (x : V) (xs : List V) (v : Value) (us : List Value) (Q : VK), Inv X pins σ H s → RelV x v → Vals xs us → r x xs H Q →
  wpAny (model X.prog X.w) X.A (call (.builtin id) (v :: us)) (EP X pins σ Q) X.xe s
theorem Vals.one : ∀ {x : V} {us : List Value}, Vals [x] us → ∃ u, us = [u] ∧ RelV x u
 | _, _, .cons r .nil => ⟨_, rfl, r⟩
section
variable {X : Cx} {pins : List (Addr × Obj)} {σ : St} {H : Hp} {s : Shared} {l b : Addr} {xs ys zs : List V}
theorem Inv.lset {its its' : List Value} {n : Nat} {f : Array Value → Array Value} {t' : Nat} (I : Inv X pins σ H s) (hH : H l = some (.lst xs))
  (e : s.heap.get? l = some { cls := .type "list", data := .seq its.toArray n }) (hf : f its.toArray = its'.toArray) (hv : Vals ys its') (hz : ys.length ≤ sizeLine) :
  Inv X pins σ (upd H l (.lst ys)) { s with heap := s.heap.update l (Obj.mapSeq f), toks := t' } := by
 have q := PySem.IsL.update e f
 rw [hf] at q
 refine I.write (x := l) (e := l) (by rw [hH]; exact trivial) (.inl rfl) (fun b' u hb hu => (Heap.get?_update_other s.heap (Obj.mapSeq f) (Ne.symm hb)).trans hu) ⟨_, q⟩ ?_
 exact ⟨hz, its', _, hv, q⟩
theorem Inv.lnew {its : List Value} {t' : Nat} (I : Inv X pins σ H s) (hv : Vals ys its) (hz : ys.length ≤ sizeLine) :
  Inv X pins σ (upd H s.heap.objs.size (.lst ys)) { s with heap := s.heap.push { cls := .type "list", data := .seq its.toArray }, toks := t' } :=
 I.laid (fun _ _ q => Heap.get?_push_of_some _ q) (Nat.le_refl _) ⟨hz, its, 0, hv, Heap.get?_push_size _ rfl⟩
theorem Inv.fresh (I : Inv X pins σ H s) : H s.heap.objs.size = none := I.hok.fresh (Nat.le_refl _)
theorem Inv.lstM (I : Inv X pins σ H s) (hH : H l = some (.lst xs)) : xs.length ≤ sizeLine ∧ ∃ (its : List Value) (n : Nat), Vals xs its ∧ xs.length = its.length ∧ s.heap.get? l = some { cls := .type "list", data := .seq its.toArray n } := by
 obtain ⟨z, its, n, r, e⟩ := I.hok l _ hH
 exact ⟨z, its, n, r, r.length, e⟩
end
section
variable {X : Cx}
def rAppend : V → List V → Hp → VK → Prop := fun x vs H Q => ∃ l xs y, x = .ref l ∧ vs = [y] ∧ H l = some (.lst xs) ∧ xs.length < sizeLine ∧ Q .non (upd H l (.lst (xs ++ [y])))
theorem mt_append : MtM X "list.append" rAppend := by
 intro pins s σ H x vs v us Q I rx rv h
 obtain ⟨l, xs, y, rfl, rfl, hH, hz, q⟩ := h
 cases rx
 obtain ⟨u, rfl, ru⟩ := rv.one
 obtain ⟨z, its, n, r, hl, e⟩ := I.lstM hH
 refine call_meets F.slot_list_append ⟨_, e, rfl⟩ F.entry_list_append (F.args_list_append_2 _ _) (PySem.list_append l its.toArray n u (by rw [List.size_toArray]; omega)) ⟨e, ?_⟩
 refine ⟨.non, _, I.lset (its' := its ++ [u]) hH e (by simp) (r.append (.cons ru .nil)) ?_, rfl, q⟩
 rw [List.length_append, List.length_singleton]
 omega
def rCat : R2 := fun x y H Q => ∃ l b xs zs, x = .ref l ∧ y = .ref b ∧ H l = some (.lst xs) ∧ H b = some (.lst zs) ∧ xs.length + zs.length ≤ sizeLine ∧ ∀ p, H p = none → Q (.ref p) (upd H p (.lst (xs ++ zs)))
theorem op_cat : OpR X (binaryOp .Add) rCat := by
 intro pins s σ H x y v u Q I rx ry h
 obtain ⟨l, b, xs, zs, rfl, rfl, hH, hB, hz, q⟩ := h
 cases rx
 cases ry
 obtain ⟨z, its, n, r, hl, e⟩ := I.lstM hH
 obtain ⟨z2, its2, n2, r2, hl2, e2⟩ := I.lstM hB
 refine PySem.P.add_list e e2 ?_ (by rw [List.size_toArray, List.size_toArray]; omega)
 have ea : its.toArray ++ its2.toArray = (its ++ its2).toArray := by simp
 rw [ea]
 exact ⟨.ref _, _, I.lnew (t' := s.toks) (r.append r2) (by rw [List.length_append]; omega), rfl, q _ I.fresh⟩
end
section
variable {prog : Program} {w : World} {A : Around} {E : Value → Shared → Prop} {s : Shared}
end
section
variable {X : Cx}
end
end L2
namespace L2
open PySem PySem.Spec PyProof.Rows
section
variable {κ : Type} [DecidableEq κ]
def valV (kvs : List (κ × V)) (k : κ) : Option V := (kvs.find? fun kv => decide (kv.1 = k)).map (·.2)
def putK (kvs : List (κ × V)) (k : κ) (v : V) : List (κ × V) :=
 if (kvs.any fun kv => decide (kv.1 = k)) = true then kvs.map (fun kv => if kv.1 = k then (kv.1, v) else kv) else kvs ++ [(k, v)]
def dropK (kvs : List (κ × V)) (k : κ) : List (κ × V) := kvs.filter fun kv => decide (kv.1 ≠ k)
theorem valV_pos {p : κ × V} {r : List (κ × V)} {k : κ} (e : p.1 = k) : valV (p :: r) k = some p.2 := by simp [valV, List.find?_cons, e]
theorem valV_neg {p : κ × V} {r : List (κ × V)} {k : κ} (e : ¬ p.1 = k) : valV (p :: r) k = valV r k := by simp [valV, List.find?_cons, e]
theorem valV_any (k : κ) : ∀ kvs : List (κ × V), (kvs.any fun kv => decide (kv.1 = k)) = (valV kvs k).isSome
 | [] => rfl
 | p :: r => by
  rw [List.any_cons]
  by_cases e : p.1 = k
  ·simp only [valV_pos e, decide_eq_true e, Bool.true_or, Option.isSome_some]
  ·rw [valV_neg e, decide_eq_false e, Bool.false_or]; exact valV_any k r
theorem length_putK (kvs : List (κ × V)) (k : κ) (v : V) : (putK kvs k v).length ≤ kvs.length + 1 := by
 unfold putK
 split
 ·rw [List.length_map]; omega
 ·rw [List.length_append, List.length_cons, List.length_nil]; omega
theorem RelO.isSome_eq {o : Option V} {u : Option Value} (r : RelO o u) : o.isSome = u.isSome := by
 cases o with
 | none => cases u with
  | none => rfl
  | some _ => exact (show False from r).elim
 | some _ => cases u with
  | none => exact (show False from r).elim
  | some _ => rfl
theorem RelO.getD {o : Option V} {u : Option Value} {d : V} {d' : Value} (r : RelO o u) (rd : RelV d d') : RelV (o.getD d) (u.getD d') := by
 cases o with
 | none => cases u with
  | none => exact rd
  | some _ => exact (show False from r).elim
 | some _ => cases u with
  | none => exact (show False from r).elim
  | some _ => exact r
theorem KV.val {kvs : List (κ × V)} {vs : List (κ × Value)} (r : KV kvs vs) (k : κ) : RelO (valV kvs k) (valueAt vs k) := by
 unfold KV at r
 induction r with
 | nil => exact True.intro
 | @cons p q ps qs h t ih =>
  obtain ⟨h1, h2⟩ := h
  by_cases e : p.1 = k
  ·have e' : q.1 = k := h1.symm.trans e
   have b : valueAt (q :: qs) k = some q.2 := by simp [valueAt, List.find?_cons, e']
   rw [valV_pos e, b]; exact h2
  ·have e' : ¬ q.1 = k := fun z => e (h1.trans z)
   have b : valueAt (q :: qs) k = valueAt qs k := by simp [valueAt, List.find?_cons, e']
   rw [valV_neg e, b]; exact ih
theorem KV.any {kvs : List (κ × V)} {vs : List (κ × Value)} (r : KV kvs vs) (k : κ) : (kvs.any fun kv => decide (kv.1 = k)) = vs.any fun kv => decide (kv.1 = k) := by
 unfold KV at r
 induction r with
 | nil => rfl
 | cons h t ih => rw [List.any_cons, List.any_cons, ih, h.1]
theorem KV.repl {kvs : List (κ × V)} {vs : List (κ × Value)} (r : KV kvs vs) (k : κ) {y : V} {u : Value} (ry : RelV y u) :
  KV (kvs.map fun kv => if kv.1 = k then (kv.1, y) else kv) (vs.map fun kv => if kv.1 = k then (kv.1, u) else kv) := by
 unfold KV at r ⊢
 induction r with
 | nil => exact .nil
 | @cons p q ps qs h t ih =>
  rw [List.map_cons, List.map_cons]
  refine .cons ?_ ih
  obtain ⟨h1, h2⟩ := h
  by_cases e : p.1 = k
  ·rw [if_pos e, if_pos (h1.symm.trans e)]; exact ⟨h1, ry⟩
  ·rw [if_neg e, if_neg (fun z => e (h1.trans z))]; exact ⟨h1, h2⟩
theorem KV.put {kvs : List (κ × V)} {vs : List (κ × Value)} (r : KV kvs vs) (k : κ) {y : V} {u : Value} (ry : RelV y u) : KV (putK kvs k y) (stored vs k u) := by
 unfold putK stored
 rw [r.any k]
 by_cases e : (vs.any fun kv => decide (kv.1 = k)) = true
 ·rw [if_pos e, if_pos e]; exact r.repl k ry
 ·rw [if_neg e, if_neg e]; exact Paired.snoc r ⟨rfl, ry⟩
theorem KV.drop {kvs : List (κ × V)} {vs : List (κ × Value)} (r : KV kvs vs) (k : κ) : KV (dropK kvs k) (without vs k) := by
 unfold KV at r ⊢
 unfold dropK without
 induction r with
 | nil => exact .nil
 | @cons p q ps qs h t ih =>
  obtain ⟨h1, h2⟩ := h
  rw [List.filter_cons, List.filter_cons]
  by_cases e : p.1 = k
  ·have a : ¬ decide (p.1 ≠ k) = true := by simp [e]
   have b : ¬ decide (q.1 ≠ k) = true := by simp [h1.symm.trans e]
   rw [if_neg a, if_neg b]; exact ih
  ·have e' : ¬ q.1 = k := fun z => e (h1.trans z)
   have a : decide (p.1 ≠ k) = true := by simp [e]
   have b : decide (q.1 ≠ k) = true := by simp [e']
   rw [if_pos a, if_pos b]; exact .cons ⟨h1, h2⟩ ih
theorem KV.length {kvs : List (κ × V)} {vs : List (κ × Value)} (r : KV kvs vs) : kvs.length = vs.length := Paired.length r
end
theorem kV_is {P : Program} {w : World} {k : Key} {u : Value} (r : RelV (kV k) u) : (mixKind P w).is k u = true := by
 cases k with
 | inl i => obtain ⟨t, e⟩ := (show ∃ t, u = Value.int i t from r); subst e; exact mixKind_int P w i t
 | inr x => obtain ⟨t, e⟩ := (show ∃ t, u = Value.str x t from r); subst e; exact mixKind_str P w x t
theorem items_are {P : Program} {w : World} : ∀ {ks : List Key} {us : List Value}, Vals (ks.map kV) us → ItemsAre (mixKind P w) ks us
 | [], _, r => by rw [List.map_nil] at r; cases r; exact .nil
 | k :: ks, _, r => by
  rw [List.map_cons] at r
  cases r with
  | cons h t => exact .cons (kV_is h) (items_are t)
abbrev KT (H : Hp) : List (List Key × V) → List (List Key × Addr × Value) → Prop := Paired fun p q => p.1 = q.1 ∧ H q.2.1 = some (.tup (p.1.map kV)) ∧ RelV p.2 q.2.2
theorem KT.val {H : Hp} {kvs : List (List Key × V)} {xs : List (List Key × Addr × Value)} (r : KT H kvs xs) (k : List Key) : RelO (valV kvs k) ((atKey xs k).map (·.2)) := by
 induction r with
 | nil => exact True.intro
 | @cons p q ps qs h t ih =>
  obtain ⟨h1, _, h2⟩ := h
  by_cases e : p.1 = k
  ·have e' : q.1 = k := h1.symm.trans e
   have b : atKey (q :: qs) k = some q.2 := by simp [atKey, List.find?_cons, e']
   rw [valV_pos e, b]; exact h2
  ·have e' : ¬ q.1 = k := fun z => e (h1.trans z)
   have b : atKey (q :: qs) k = atKey qs k := by simp [atKey, List.find?_cons, e']
   rw [valV_neg e, b]; exact ih
theorem KT.repl {H : Hp} {kvs : List (List Key × V)} {xs : List (List Key × Addr × Value)} (r : KT H kvs xs) (k : List Key) {y : V} {u : Value} (ry : RelV y u) :
  KT H (kvs.map fun kv => if kv.1 = k then (kv.1, y) else kv) (xs.map (putAt k u)) := by
 induction r with
 | nil => exact .nil
 | @cons p q ps qs h t ih =>
  rw [List.map_cons, List.map_cons]
  refine .cons ?_ ih
  obtain ⟨h1, h2, h3⟩ := h
  unfold putAt
  by_cases e : p.1 = k
  ·rw [if_pos e, if_pos (h1.symm.trans e)]; exact ⟨h1, h2, ry⟩
  ·rw [if_neg e, if_neg (fun z => e (h1.trans z))]; exact ⟨h1, h2, h3⟩
theorem KT.put {H : Hp} {kvs : List (List Key × V)} {xs : List (List Key × Addr × Value)} (r : KT H kvs xs) (k : List Key) {b : Addr} {y : V} {u : Value} (hb : H b = some (.tup (k.map kV))) (ry : RelV y u) :
  KT H (putK kvs k y) (storedH xs k b u) := by
 have e : (kvs.any fun kv => decide (kv.1 = k)) = (atKey xs k).isSome := by
  rw [valV_any, (r.val k).isSome_eq, Option.isSome_map]
 unfold putK storedH
 rw [e]
 by_cases q : (atKey xs k).isSome = true
 ·rw [if_pos q, if_pos q]; exact r.repl k ry
 ·rw [if_neg q, if_neg q]; exact Paired.snoc r ⟨rfl, hb, ry⟩
theorem KT.keeps {H H' : Hp} {kvs : List (List Key × V)} {xs : List (List Key × Addr × Value)} (r : KT H kvs xs) (ht : ∀ b ys, H b = some (.tup ys) → H' b = some (.tup ys)) : KT H' kvs xs :=
 Paired.mapP r fun _ _ z => ⟨z.1, ht _ _ z.2.1, z.2.2⟩
section
variable {P : Program} {w : World} {H : Hp} {h : Heap} {a : Addr}
theorem rd_of {u : HO} (ok : HOk P w H h) (e : Rd H a u) : ObjOk P w H h a u := e.ok ok
theorem dk_rd {kvs : List (Key × V)} (ok : HOk P w H h) (e : Rd H a (.dK kvs)) : kvs.length ≤ sizeLine ∧ (a == sysModules) = false ∧ ∃ vs, KV kvs vs ∧ h.DictOf (mixKind P w) a vs :=
 show ObjOk P w H h a (.dK kvs) from rd_of ok e
theorem dk_of {kvs : List (Key × V)} (ok : HOk P w H h) (e : H a = some (.dK kvs)) : kvs.length ≤ sizeLine ∧ (a == sysModules) = false ∧ ∃ vs, KV kvs vs ∧ h.DictOf (mixKind P w) a vs := dk_rd ok (.inl e)
theorem key_of {ks : List Key} (ok : HOk P w H h) (e : H a = some (.tup (ks.map kV))) : (tupleKind (mixKind P w)).is h ks a := by
 obtain ⟨_, its, r, ⟨o, h1, h2, n, h3⟩, _⟩ := (show ObjOk P w H h a (.tup (ks.map kV)) from ok a _ e)
 exact ⟨o, its.toArray, n, h1, h2, h3, by simpa using items_are r⟩
theorem dt_rd {kvs : List (List Key × V)} (ok : HOk P w H h) (e : Rd H a (.dT kvs)) : kvs.length ≤ sizeLine ∧ (a == sysModules) = false ∧
  ∃ xs, KT H kvs xs ∧ h.DictOfH (tupleKind (mixKind P w)) a xs := by
 obtain ⟨z, y, xs, r, o, es, ep, h1, h2, h3, h4, h5⟩ := (show ObjOk P w H h a (.dT kvs) from rd_of ok e)
 refine ⟨z, y, xs, r, o, es, ep, h1, h2, h3, h4, fun x hx => ?_, h5⟩
 have all : ∀ {l : List (List Key × V)} {m : List (List Key × Addr × Value)}, KT H l m → ∀ x ∈ m, (tupleKind (mixKind P w)).is h x.1 x.2.1 := by
  intro l m q
  induction q with
  | nil => intro x hx; exact nomatch hx
  | @cons p q ps qs hq t ih =>
   intro x hx
   rcases List.mem_cons.mp hx with e | hx
   ·subst e
    exact key_of ok (by rw [← hq.1]; exact hq.2.1)
   ·exact ih x hx
 exact all r x hx
theorem dt_of {kvs : List (List Key × V)} (ok : HOk P w H h) (e : H a = some (.dT kvs)) : kvs.length ≤ sizeLine ∧ (a == sysModules) = false ∧
  ∃ xs, KT H kvs xs ∧ h.DictOfH (tupleKind (mixKind P w)) a xs := dt_rd ok (.inl e)
end
def DGet (H : Hp) (a : Addr) (y : V) (r : Option V) : Prop :=
 (∃ kvs k, Rd H a (.dK kvs) ∧ y = kV k ∧ r = valV kvs k) ∨ ∃ kvs k b, Rd H a (.dT kvs) ∧ y = .ref b ∧ H b = some (.tup (k.map kV)) ∧ r = valV kvs k
def DPut (H : Hp) (a : Addr) (y v : V) (H' : Hp) : Prop :=
 (∃ kvs k, H a = some (.dK kvs) ∧ y = kV k ∧ kvs.length < sizeLine ∧ H' = upd H a (.dK (putK kvs k v))) ∨
 ∃ kvs k b, H a = some (.dT kvs) ∧ y = .ref b ∧ H b = some (.tup (k.map kV)) ∧ kvs.length < sizeLine ∧ H' = upd H a (.dT (putK kvs k v))
section
variable {X : Cx} {pins : List (Addr × Obj)} {σ : St} {H : Hp} {s : Shared} {a : Addr} {y v : V} {u r : Value} {o : Option V} {A : Around} {E : Value → Shared → Prop}
theorem Inv.big (I : Inv X pins σ H s) : sysModules < s.heap.objs.size := by
 have h : mainGlobals < s.heap.objs.size := (I.mod.glob.keeps I.bk).lt
 exact Nat.lt_trans (by decide) h
theorem d_getItem {Q : Value → Shared → Prop} (hu : A.units + 1 < cLine) (I : Inv X pins σ H s) (g : DGet H a y (some v)) (ry : RelV y u) (h : ∀ w' s', Inv X pins σ H s' → RelV v w' → Q w' s') :
  wpAny (model X.prog X.w) A (getItem (.ref a) u) Q E s := by
 rcases g with ⟨kvs, k, e, ey, l⟩ | ⟨kvs, k, b, e, ey, eb, l⟩
 ·subst ey
  obtain ⟨z, hd, vs, rel, dd⟩ := dk_rd I.hok e
  obtain ⟨w', hw, rw'⟩ := RelO.some_of (v := v) (o := valueAt vs k) (by rw [l]; exact rel.val k)
  exact wpAny_getItem_of (kV_is ry) dd.mapOf hw (h w' _ (I.tok _) rw')
 ·subst ey
  cases (show u = Value.ref b from ry)
  obtain ⟨z, hd, xs, rel, dd⟩ := dt_rd I.hok e
  obtain ⟨w', hw, rw'⟩ := RelO.some_of (v := v) (o := (atKey xs k).map (·.2)) (by rw [l]; exact rel.val k)
  obtain ⟨p, hp, hp2⟩ := Option.map_eq_some_iff.mp hw
  refine wpAny_getItem_heap (tupleKind_room_in1 hu) (key_of I.hok eb) dd hp ?_
  rw [hp2]
  exact h w' _ (I.tok _) rw'
theorem d_notIn {Q : Value → Shared → Prop} (hu : A.units + 1 < cLine) (I : Inv X pins σ H s) (g : DGet H a y o) (ry : RelV y u) (h : ∀ s', Inv X pins σ H s' → Q (.bool (!o.isSome)) s') :
  wpAny (model X.prog X.w) A (compareOp .NotIn u (.ref a)) Q E s := by
 rcases g with ⟨kvs, k, e, ey, l⟩ | ⟨kvs, k, b, e, ey, eb, l⟩
 ·subst ey
  obtain ⟨z, hd, vs, rel, dd⟩ := dk_rd I.hok e
  refine wpAny_notIn_of (kV_is ry) hd dd.mapOf ?_
  rw [← (rel.val k).isSome_eq, ← l]
  exact h _ (I.tok _)
 ·subst ey
  cases (show u = Value.ref b from ry)
  obtain ⟨z, hd, xs, rel, dd⟩ := dt_rd I.hok e
  refine wpAny_notIn_heap (tupleKind_room_in1 hu) (key_of I.hok eb) hd dd ?_
  have q := (rel.val k).isSome_eq
  rw [Option.isSome_map] at q
  rw [← q, ← l]
  exact h _ (I.tok _)
theorem d_write {h' : Heap} {t' : Nat} {ob : HO} (I : Inv X pins σ H s) (mu : Mut (H a)) (hs : Heap.SameBut a s.heap h') (he : ∃ q, h'.get? a = some q) (new : ObjOk X.prog X.w (upd H a ob) h' a ob) :
  Inv X pins σ (upd H a ob) { s with heap := h', toks := t' } :=
 I.write (x := a) (e := a) mu (.inl rfl) (fun b q hb z => (hs.2 b hb).trans z) he new
theorem dk_new {P : Program} {w : World} {H' : Hp} {h' : Heap} {kvs : List (Key × V)} {vs : List (Key × Value)} (z : kvs.length ≤ sizeLine) (hd : (a == sysModules) = false) (rel : KV kvs vs) (dd : h'.DictOf (mixKind P w) a vs) :
  ObjOk P w H' h' a (.dK kvs) := ⟨z, hd, vs, rel, dd⟩
theorem d_setItem {H' : Hp} {Q : Unit → Shared → Prop} (hu : A.units + 1 < cLine) (I : Inv X pins σ H s) (g : DPut H a y v H') (ry : RelV y u) (rv : RelV v r) (h : ∀ s', Inv X pins σ H' s' → Q () s') :
  wpAny (model X.prog X.w) A (setItem (.ref a) u r) Q E s := by
 rcases g with ⟨kvs, k, e, ey, l, eH⟩ | ⟨kvs, k, b, e, ey, eb, l, eH⟩
 ·subst ey eH
  obtain ⟨z, hd, vs, rel, dd⟩ := dk_of I.hok e
  have hz : vs.length ≤ sizeLine := by rw [← rel.length]; exact z
  have hl : (putK kvs k v).length ≤ sizeLine := by have := length_putK kvs k v; omega
  refine wpAny_setItem_pairs (hsz := hz) (kV_is ry) dd fun h' dd' hs => h _ ?_
  have he : ∃ q, h'.get? a = some q := let ⟨q, _, _, hq, _⟩ := dd'; ⟨q, hq⟩
  exact d_write I (by rw [e]; exact True.intro) hs he (dk_new hl hd (rel.put k rv) dd')
 ·subst ey eH
  cases (show u = Value.ref b from ry)
  obtain ⟨z, hd, xs, rel, dd⟩ := dt_of I.hok e
  have hz : xs.length ≤ sizeLine := by rw [← Paired.length rel]; exact z
  have hl : (putK kvs k v).length ≤ sizeLine := by have := length_putK kvs k v; omega
  refine wpAny_setItem_heap (hsz := hz) (tupleKind_room_in1 hu) (key_of I.hok eb) dd fun h' dd' hs => h _ ?_
  obtain ⟨q, es, ep, hq, h2, h3, h4, _, h5⟩ := dd'
  refine d_write I (by rw [e]; exact True.intro) hs ⟨q, hq⟩ ⟨hl, hd, _, (rel.put k eb rv).keeps fun c ys ec => ?_, q, es, ep, hq, h2, h3, h4, h5⟩
  rw [upd_ne (ne_of ec e (fun z => nomatch z))]
  exact ec
end
section
variable {X : Cx} {pins : List (Addr × Obj)} {σ : St} {H : Hp} {s : Shared} {a : Addr} {kvs : List (Key × V)} {k : Key} {u : Value} {A : Around} {E : Value → Shared → Prop}
theorem d_len {Q : Value → Shared → Prop} (I : Inv X pins σ H s) (e : Rd H a (.dK kvs)) (h : ∀ t s', Inv X pins σ H s' → Q (.int kvs.length t) s') : wpAny (model X.prog X.w) A (call (.builtin "len") [.ref a]) Q E s := by
 obtain ⟨z, hd, vs, rel, dd⟩ := dk_rd I.hok e
 refine call_len_dict hd dd (by rw [← rel.length]; rw [sizeLine_eq] at z; omega) ?_
 rw [← rel.length]
 exact h _ _ (I.tok _)
theorem d_truth {Q : Bool → Shared → Prop} (I : Inv X pins σ H s) (e : Rd H a (.dK kvs)) (h : ∀ s', Inv X pins σ H s' → Q (!kvs.isEmpty) s') : wpAny (model X.prog X.w) A (truthy (.ref a)) Q E s := by
 obtain ⟨z, hd, vs, rel, dd⟩ := dk_rd I.hok e
 refine wpAny_truthy_dict hd dd (by rw [← rel.length]; rw [sizeLine_eq] at z; omega) ?_
 have q : kvs.isEmpty = vs.isEmpty := by cases rel <;> rfl
 rw [← q]
 exact h _ (I.tok _)
end
theorem dict_typeIs {X : Cx} {pins : List (Addr × Obj)} {σ : St} {H : Hp} {s : Shared} {a : Addr} {y : V} {o : Option V} (I : Inv X pins σ H s) (g : DGet H a y o) : s.TypeIs (.ref a) "dict" := by
 rcases g with ⟨kvs, k, e, _, _⟩ | ⟨kvs, k, b, e, _, _, _⟩
 ·obtain ⟨_, _, vs, _, dd⟩ := dk_rd I.hok e
  exact dd.typeIs
 ·obtain ⟨_, _, xs, _, dd⟩ := dt_rd I.hok e
  exact dd.typeIs
section
variable {X : Cx} {o i e value : Expr} {pos pos' tpos : Pos} {td ty tv : TE}
end
theorem dk_empty {P : Program} {w : World} {H : Hp} (h : Heap) (hb : sysModules < h.objs.size) : ObjOk P w H (h.push { cls := .type "dict", data := .dict #[] }) h.objs.size (.dK []) :=
 ⟨Nat.zero_le _, beq_eq_false_iff_ne.mpr (Ne.symm (Nat.ne_of_lt hb)), [], .nil, Heap.DictOf.new h⟩
def tDNewK : TE := fun _ H Q => ∀ p, H p = none → Q (.ref p) (upd H p (.dK []))
section
variable {X : Cx} {pos : Pos}
theorem pe_dnewK : PE X (.Dict [] [] pos) tDNewK := fun pins s σ H Q I h =>
 wpAny_Dict_empty ⟨.ref s.heap.objs.size, _, I.laid (a := s.heap.objs.size) (o := .dK []) (t' := s.toks) (fun _ _ q => Heap.get?_push_of_some _ q) (Nat.le_refl _) (dk_empty s.heap I.big), rfl, h _ (I.hok.fresh (Nat.le_refl _))⟩
end
structure M1 (X : Cx) (o : Expr) (m : Str) (apos : Pos) (e : Expr) (cpos : Pos) : Prop where
 base : attributeBase o m X.env (eval o X.env) = eval o X.env
 few : ((backTo cpos (starEach [e] X.env)).all (fun x => !x.1) && (backToKw cpos (keywordEach [] X.env)).all (fun x => x.1.isSome)
  && decide (([e] : List Expr).length + ([] : List Keyword).length + (if ([] : List Keyword).isEmpty then 0 else 1) < 30)) = true
 line : (apos.endLine == cpos.line) = true
 trees : backTo cpos (starEach [e] X.env) = [(false, eval e X.env)]
structure M2 (X : Cx) (o : Expr) (m : Str) (apos : Pos) (e f : Expr) (cpos : Pos) : Prop where
 base : attributeBase o m X.env (eval o X.env) = eval o X.env
 few : ((backTo cpos (starEach [e, f] X.env)).all (fun x => !x.1) && (backToKw cpos (keywordEach [] X.env)).all (fun x => x.1.isSome)
  && decide (([e, f] : List Expr).length + ([] : List Keyword).length + (if ([] : List Keyword).isEmpty then 0 else 1) < 30)) = true
 line : (apos.endLine == cpos.line) = true
 trees : backTo cpos (starEach [e, f] X.env) = [(false, eval e X.env), (false, eval f X.env)]
def IsD (H : Hp) (a : Addr) : Prop := (∃ kvs, Rd H a (.dK kvs)) ∨ ∃ kvs, Rd H a (.dT kvs)
theorem isD_at {X : Cx} {pins : List (Addr × Obj)} {σ : St} {H : Hp} {s : Shared} {a : Addr} (I : Inv X pins σ H s) (d : IsD H a) :
  s.TypeIs (.ref a) "dict" ∧ (∀ b, Value.ref a = .ref b → ∃ ob, s.heap.get? b = some ob ∧ ob.dict = none) ∧ (a == sysModules) = false := by
 rcases d with ⟨kvs, e⟩ | ⟨kvs, e⟩
 ·obtain ⟨_, hd, vs, _, dd⟩ := dk_rd I.hok e
  refine ⟨dd.typeIs, fun b q => ?_, hd⟩
  cases q
  obtain ⟨ob, _, _, h1, h2, _⟩ := dd
  exact ⟨ob, h1, h2.2.1⟩
 ·obtain ⟨_, hd, xs, _, dd⟩ := dt_rd I.hok e
  refine ⟨dd.typeIs, fun b q => ?_, hd⟩
  cases q
  obtain ⟨ob, _, _, h1, h2, _⟩ := dd
  exact ⟨ob, h1, h2.2.1⟩
section
variable {X : Cx} {pins : List (Addr × Obj)} {σ : St} {H : Hp} {s : Shared} {a : Addr} {y d : V} {u r : Value} {o : Option V} {A : Around} {E : Value → Shared → Prop}
end
section
variable {X : Cx} {o e f : Expr} {apos cpos : Pos} {td ty tx : TE}
end
section
variable {X : Cx} {pins : List (Addr × Obj)} {σ : St} {H : Hp} {s : Shared} {a : Addr} {kvs : List (Key × V)} {A : Around} {E : Value → Shared → Prop}
end
section
variable {X : Cx} {pins : List (Addr × Obj)} {σ : St} {H : Hp} {s : Shared} {a : Addr} {y : V} {u : Value} {A : Around} {E : Value → Shared → Prop}
end
end L2
namespace Att
open PySem PySem.W PySem.Calls PyProof.Rows
theorem ints_of_wellAll {P : Params} {h : Heap} : ∀ (ns : List Int) (vs : List Value), WellAll P h vs (ns.map WData.int) → IntsAre vs ns := by
 intro ns
 induction ns with
 | nil =>
  intro vs w
  rw [List.map_nil] at w
  cases w
  exact .nil
 | cons n ns ih =>
  intro vs w
  rw [List.map_cons] at w
  cases w with
  | cons a b =>
   cases a
   exact .cons _ _ (ih _ b)
theorem script_of {l : OpenLaw} {n : Nat} (hn : l.most = some n) {P : Params} {h : Heap} {args : List WData} {vals : List Value}
  (hpre : l.row.toRowW.claim.pre args = true) (hwl : WellAll P h vals args) :
  ∃ a vs ns, vals = [Value.ref a] ∧ args = [WData.list (ns.map WData.int)] ∧ h.get? a = some { cls := .type "list", data := .seq vs.toArray } ∧ IntsAre vs ns ∧ ns.length ≤ n := by
 have hsh : WShape.hasAll [] args [.list .int] = true := (pre_splitW hpre).1
 have hc : l.pre.holds [] { args := args } = true := (pre_splitW hpre).2
 obtain ⟨d, r, rfl, h1, h2⟩ := hasAllW_cons hsh
 obtain rfl := hasAllW_nil h2
 obtain ⟨xs, rfl, h3⟩ := hasW_list h1
 obtain ⟨ns, rfl⟩ := items_int h3
 have hlen : ns.length ≤ n := by
  unfold OpenLaw.pre at hc
  have h4 : (WTm.not (.lt (.lit (.int (n : Int))) (.len (.arg 0)))).holds [] { args := [.list (ns.map .int)] } = true := by
   have h4 := (holds_andW hc).1
   rw [hn] at h4
   exact h4
  have h5 := condW_of h4 (w_not (w_lt w_lit (w_len_list (w_arg rfl))))
  rw [List.length_map] at h5
  refine Nat.le_of_not_lt fun q => ?_
  have q' : (n : Int) < ((ns.length : Nat) : Int) := by omega
  first
   | (rw [decide_eq_true q'] at h5; exact absurd h5 (by decide))
   | (simp at h5; omega)
 cases hwl with
 | cons w1 w2 =>
  cases w2
  cases w1 with
  | list ho hall => exact ⟨_, _, ns, rfl, rfl, ho, ints_of_wellAll ns _ hall, hlen⟩
theorem post_true (l : OpenLaw) (args : List WData) : l.row.toRowW.claim.post args (.bool true) args = true :=
 postW_of (r := l.row.toRowW) (X := (true == true))
  (show WShape.has [] (.bool true) .bool = true by first | rfl | decide | simp [WShape.has, WShape.arms, WShape.armsAll])
  (show (WTm.eq .res (.lit (.bool true))).value [] { args := args, res := some (.bool true), after := args } = some (.bool (true == true)) from w_eq_bool (w_res rfl) w_lit) rfl
theorem attach_call {l : OpenLaw} {n : Nat} {q : Program} {loose : List Str} {XP : (Str → Option Value) → Heap → Prop} {YP : World → Heap → Prop} {d : DefRec}
  (hn : l.most = some n) (hdf : d.params.defaults = [])
  (call : ∀ (w : World) (s₀ s₁ : Shared) (mg mb : Str → Option Value) (fa : Addr) (o : Obj) (pm cd doc : Value) (a : Addr) (vs : List Value) (ns : List Int),
   Ground q loose [] XP w s₀ mg mb s₁.heap → YP w s₁.heap →
   s₁.heap.get? fa = some o → o.data = .func (docDef d.name d.params d.body d.scope pm cd doc) → s₁.heap.CodeRec cd d.name → mg d.name = some (.ref fa) →
   s₁.heap.get? a = some { cls := .type "list", data := .seq vs.toArray } → IntsAre vs ns → ns.length ≤ n → s₁.gens = #[] →
   codeAny (model l.prog w) callerA (.call (.ref fa) ⟨[.ref a], []⟩) (fun r s' => r = .ok (.ret (.bool true)) ∧ OldK s₁.heap s'.heap ∧ s'.os = s₁.os ∧ AllBare s'.gens) s₁) :
  WalkO q loose XP YP l.row.toRowW d [] (fun f vs => PySem.call f vs) := by
 intro w s₀ s₁ mg mb G Y fa o pm cd doc dV kV ho hd hcd hD hmg hg args vals as hpre hlay hrd hwl hlo
 obtain rfl : dV = .none := Dflts.none hD hdf
 obtain rfl : kV = .none := Dflts.noKw hD
 obtain ⟨a, vs, ns, rfl, rfl, hobj, hints, hlen⟩ := script_of hn hpre hwl
 refine enter_call (codeAny_mono (call w s₀ s₁ mg mb fa o pm cd doc a vs ns G Y ho (fd_plain hd) hcd hmg hobj hints hlen hg) fun r s' hq => ?_)
 obtain ⟨rfl, h2, h3, h4⟩ := hq
 exact ⟨.inl ⟨.bool true, .bool true, [], rfl, fun _ => rfl, .bool true, post_true l _, fun _ => ⟨List.Pairwise.nil, fun _ hm => (nomatch hm)⟩⟩, h2, h3, h4⟩
section
variable {prog : Program} {w : World} {A : Around} {E : Value → Shared → Prop} {s : Shared} {K : Frag}
end
end Att
namespace L2
open PySem PySem.Spec PyProof.Rows
theorem vals_ints : ∀ {vs : List Value} {ns : List Int}, IntsAre vs ns → Vals (ns.map V.int) vs
 | _, _, .nil => .nil
 | _, _, .cons n t h => .cons ⟨t, rfl⟩ (vals_ints h)
def Only (H : Hp) : Prop := ∀ b, H b = none ∨ ∃ o xs, H b = some (.frz o (.lst xs))
theorem law_call {P : Program} {w : World} {K : PySem.W.Frag} {mg mb : Str → Option Value} {CX : CXT} {k : Nat} {fa a : Addr} {fd : FuncData} {x : Str} {sp : Sp} {s₁ : Shared} {vs : List Value} {ns : List Int}
  (KX : K.In s₁.heap) (hns : s₁.heap.Ns mainGlobals mg) (hb : s₁.heap.Ns builtinsNs mb) (hbb : ∀ x : Str, x ≠ "__name__" → mb x = bootBuiltins x) (hlim : s₁.heap.NoLimit) (hg : s₁.gens = #[])
  (ha : s₁.heap.get? a = some { cls := .type "list", data := .seq vs.toArray }) (hi : IntsAre vs ns) (hl : ns.length ≤ sizeLine) (hr : Room k callerA)
  (F : ∀ base : Heap, K.In base → base.Ns mainGlobals mg → FnOk P w K mg base CX k fa fd [x] sp) (hbind : ∀ (s : Shared) (u : Value), BindsTo s fd ⟨[u], []⟩ [(x, u)])
  (hsp : ∀ H : Hp, Only H → SqL K H a (ns.map V.int) → sp [.ref a] H (fun v _ => v = .bl true) fun _ _ _ => False)
  (hCX : ∀ H e s', CX [] H s₁ (fun _ _ _ => False) e s' → False) :
  codeAny (model P w) callerA (.call (.ref fa) ⟨[.ref a], []⟩) (fun r s' => r = .ok (.ret (.bool true)) ∧ OldK s₁.heap s'.heap ∧ s'.os = s₁.os ∧ AllBare s'.gens) s₁ := by
 have rv := vals_ints hi
 have lenV := hi.length
 -- from an abstract heap in which nothing but the script may be tracked
 have core : ∀ H : Hp, Only H → SqL K H a (ns.map V.int) → HOk P w H s₁.heap → (∀ b, H b ≠ none → b = a) → (H a ≠ none → K.lookup a = none) →
   codeAny (model P w) callerA (.call (.ref fa) ⟨[.ref a], []⟩) (fun r s' => r = .ok (.ret (.bool true)) ∧ OldK s₁.heap s'.heap ∧ s'.os = s₁.os ∧ AllBare s'.gens) s₁ := by
  intro H hO hS hok hA hK
  have base_of : ∀ {b : Addr} {o : Obj}, s₁.heap.get? b = some o → H b = none → (hidT s₁.heap H).get? b = some o := fun e n => hidT_get e n
  have noA : ∀ {b : Addr} {o : Obj} {es : Array DictEntry} {ep : Nat}, s₁.heap.get? b = some o → o.data = .dict es ep → H b = none := fun {b o es ep} e d => by
   cases q : H b with
   | none => rfl
   | some u =>
    have e' : b = a := hA b (by rw [q]; simp)
    subst e'
    rw [ha] at e; cases e
    have d' : Data.seq vs.toArray _ = Data.dict es ep := d
    cases d'
  have nsK : ∀ {b : Addr} {m : Str → Option Value}, s₁.heap.Ns b m → (hidT s₁.heap H).Ns b m := fun {b m} ⟨o, es, ep, e, d, r⟩ => ⟨o, es, ep, base_of e (noA e d), d, r⟩
  have hKb : K.In (hidT s₁.heap H) := fun b o e => base_of (KX b o e) (by
   cases q : H b with
   | none => rfl
   | some u =>
    have e' : b = a := hA b (by rw [q]; simp)
    subst e'
    rw [hK (by rw [q]; simp)] at e; cases e)
  have hM : Mod K mg (hidT s₁.heap H) := ⟨hKb, nsK hns, ⟨mb, nsK hb, hbb⟩, let ⟨mc, h1, h2⟩ := hlim; ⟨mc, nsK h1, h2⟩⟩
  have e0 : Env0 P w K mg (hidT s₁.heap H) callerA [] s₁ H := ⟨rfl, hM, fun b o e => of_hidT e, Nat.le_of_eq (hidT_size _ _), trivial, fun b hb => absurd (show b ∈ ([] : List Addr) from hb) (by simp), hok, .of_eq hg⟩
  refine codeAny_mono ((F _ hKb (nsK hns)).run callerA [] s₁ H ⟨[.ref a], []⟩ [.ref a] [.ref a] _ _ hr e0 (hbind s₁ (.ref a)) (.cons rfl .nil) (hsp H hO hS)) fun r s' h => ?_
  cases r with
  | error e => exact (hCX H e s' h).elim
  | ok fl =>
   cases fl with
   | next => exact False.elim h
   | brk => exact False.elim h
   | cont => exact False.elim h
   | ret u =>
    obtain ⟨v, H', os, bare, un, hok', r', q⟩ := h
    have q' : v = .bl true := q
    subst q'
    obtain rfl : u = Value.bool true := r'
    refine ⟨rfl, OldK.of_keep fun b o e => ?_, os, bare⟩
    cases q : H b with
    | none => exact un.keep b o e q (by intro z; exact absurd (show b ∈ ([] : List Addr) from z) (by simp)) (by simp)
    | some u =>
     rcases hO b with z | ⟨ob, xs, z⟩
     ·rw [q] at z; cases z
     ·have z2 := un.frzs b ob _ z
      obtain ⟨e1, _⟩ := hok b _ z
      obtain ⟨e2, _⟩ := hok' b _ z2
      rw [e] at e1; cases e1
      exact e2
 cases hk : K.lookup a with
 | some o =>
  -- the script is one of the module's own objects
  have e := KX a o hk
  rw [ha] at e
  cases e
  refine core (fun _ => none) (fun _ => .inl rfl) (.inr ⟨_, vs.toArray, _, hk, rfl, rfl, rfl, by rw [List.size_toArray, lenV]; exact hl, by simpa using rv⟩) (fun b u z => by have z' : (none : Option HO) = some u := z; cases z') (fun b z => absurd rfl z) fun z => absurd rfl z
 | none =>
  refine core (fun b => if b = a then some (.frz { cls := .type "list", data := .seq vs.toArray } (.lst (ns.map V.int))) else none) (fun b => ?_) (.inl (.inr ⟨{ cls := .type "list", data := .seq vs.toArray }, if_pos rfl⟩)) (fun b u z => ?_) (fun b z => ?_) fun _ => hk
  ·by_cases hb : b = a
   ·exact .inr ⟨_, _, if_pos hb⟩
   ·exact .inl (if_neg hb)
  ·by_cases hb : b = a
   ·have z' := (if_pos hb).symm.trans z
    cases z'
    subst hb
    exact ⟨ha, by rw [List.length_map]; exact hl, vs, _, rv, ha⟩
   ·have z' := (if_neg hb).symm.trans z
    cases z'
  ·by_cases hb : b = a
   ·exact hb
   ·exact absurd (if_neg hb) z
end L2
namespace L2
open PySem PySem.Spec PyProof.Rows
theorem walk_of {l : PySem.W.OpenLaw} {n k : Nat} {q : Program} {loose : List Str} {XP : (Str → Option Value) → Heap → Prop} {YP : World → Heap → Prop} {d : DefRec} {K : Params → PySem.W.Frag} {CX : World → CXT} {sp : World → Sp} {x : Str}
  (hn : l.most = some n) (hn2 : n ≤ sizeLine) (hdf : d.params.defaults = []) (hr : Room k callerA)
  (hY : ∀ (w : World) (h : Heap), YP w h → (K w.params).In h)
  (F : ∀ (w : World) (mg : Str → Option Value) (fa : Addr) (h : Heap), (K w.params).In h → h.Ns mainGlobals mg → mg d.name = some (.ref fa) →
   ∃ fd : FuncData, (∀ (s : Shared) (u : Value), BindsTo s fd ⟨[u], []⟩ [(x, u)]) ∧
    ∀ base : Heap, (K w.params).In base → base.Ns mainGlobals mg → FnOk l.prog w (K w.params) mg base (CX w) k fa fd [x] (sp w))
  (hsp : ∀ (w : World) (H : Hp) (a : Addr) (ns : List Int), ns.length ≤ n → Only H → SqL (K w.params) H a (ns.map V.int) → sp w [.ref a] H (fun v _ => v = .bl true) fun _ _ _ => False)
  (hCX : ∀ (w : World) (H : Hp) (s : Shared) (e : Value) (s' : Shared), CX w [] H s (fun _ _ _ => False) e s' → False) :
  PySem.W.WalkO q loose XP YP l.row.toRowW d [] (fun f vs => PySem.call f vs) := by
 refine Att.attach_call hn hdf fun w s₀ s₁ mg mb fa o pm cd doc a vs ns G Y ho hd hcd hmg hobj hints hlen hg => ?_
 have KX := hY w _ Y
 obtain ⟨fd, hb, hF⟩ := F w mg fa _ KX G.T.g hmg
 exact law_call KX G.T.g G.T.b G.T.builtins G.T.nolimit hg hobj hints (Nat.le_trans hlen hn2) hr hF hb (fun H hO hS => hsp w H a ns hlen hO hS) fun H e s' => hCX w H s₁ e s'
end L2
/- THE LAST THEOREM (shape; LID, My.* are yours):
 My.Adr: a structure of the addresses that your layer names (classes, functions); My.Txt K t: a structure (Prop) of the equations over K;
 My.txt_mk : {K} {implicit addresses ..} (e1 : nsIn K mainGlobals "law" = some (some (.ref f))) (e2 : K.lookup f = some ⟨oc, od, .func (fnOf "law" "law" params body scope dV kV doc pm an cdv ct), sl⟩) (e3 : codeIn K cdv "law" = true) .. : ∃ t, My.Txt K t
set_option maxRecDepth 100000 in
set_option maxHeartbeats 0 in
(the tactic k_is has no namespace: write k_is) -/
namespace L2
open PySem PySem.Spec PyProof.Rows
def defArgs (s : Stmt) : Arguments := match s with
 | .FunctionDef _ a _ _ _ _ _ _ _ _ => a
 | _ => { posonlyargs := [], args := [], vararg := none, kwonlyargs := [], kw_defaults := [], kwarg := none, defaults := [] }
def defBody (s : Stmt) : List Stmt := match s with
 | .FunctionDef _ _ b _ _ _ _ _ _ _ => b
 | _ => []
def defScope (s : Stmt) : Scope := match s with
 | .FunctionDef _ _ _ _ _ _ sc _ _ _ => sc
 | _ => { kind := .function, names := [], isGenerator := false, isCoroutine := false }
abbrev CX0 : CXT := fun _ _ _ _ _ _ => False
abbrev E0 : XK := fun _ _ _ => False
theorem pass0 {X : Cx} : Passes CX0 X E0 := fun _ _ _ _ _ _ _ h => h.elim
structure Fun (K : PySem.W.Frag) (x qual : Str) (st : Stmt) (f : Addr) (fd : FuncData) : Prop where
 ex : ∃ (oc : Value) (od : Option Addr) (kV doc pm : Value) (an : Option Addr) (cdv ct : Value) (osl : Array (Option Value)),
  fd = PySem.W.fnOf x qual (defArgs st) (defBody st) (defScope st) .none kV doc pm an cdv ct ∧ K.lookup f = some ⟨oc, od, .func fd, osl⟩ ∧ PySem.W.codeIn K cdv qual = true
 kp : PySem.W.keepIn K (.ref f) = true
section
variable {P : Program} {w : World} {K : PySem.W.Frag} {mg : Str → Option Value} {base : Heap}
theorem Fun.ok {x qual : Str} {st : Stmt} {f : Addr} {fd : FuncData} {N ps : List Str} {k : Nat} {sp : Sp} (F : Fun K x qual st f fd) (S : FnScope N ps (defScope st)) (len : ∀ vs H Q E, sp vs H Q E → vs.length = ps.length)
  (hbody : ∀ (cdv : Value) (A : Around) (outer : List Env) (s : Shared) (H : Hp) (vs : List V) (Q : VK) (E : XK), Room k (A.deeper (envOfC qual (defScope st) s.heap.objs.size f cdv)) → sp vs H Q E →
   ∃ t, PSs (cxOf CX0 P w K mg base N qual (defScope st) f cdv A outer s H E).nox (defBody st) t ∧ t { nx := fun _ H' => Q .non H', rt := Q } (start N vs) H) : FnOk P w K mg base CX0 (k + 1) f fd ps sp := by
 obtain ⟨oc, od, kV, doc, pm, an, cdv, ct, osl, rfl, lk, hcd⟩ := F.ex
 refine fn_of lk hcd S len fun A outer s H vs Q E hr hsp => ?_
 obtain ⟨t, h, q⟩ := hbody cdv A outer s H vs Q E hr hsp
 exact ⟨t, h.nox, q⟩
theorem Fun.binds {x qual : Str} {st : Stmt} {f : Addr} {fd : FuncData} {ps : List Str} (F : Fun K x qual st f fd)
  (h : ∀ (kV doc pm : Value) (an : Option Addr) (cdv ct : Value) (us : List Value), us.length = ps.length → bindArgs (PySem.W.fnOf x qual (defArgs st) (defBody st) (defScope st) .none kV doc pm an cdv ct) ⟨us, []⟩ = pure (ps.zip us)) : Binds K fd ps [] := by
 obtain ⟨oc, od, kV, doc, pm, an, cdv, ct, osl, rfl, lk, hcd⟩ := F.ex
 exact .all (h kV doc pm an cdv ct)
theorem fun_mk {x qual : Str} {st : Stmt} {f : Addr} {oc : Value} {od an : Option Addr} {osl : Array (Option Value)} {kV doc pm cdv ct : Value} (l : K.lookup f = some ⟨oc, od, .func (PySem.W.fnOf x qual (defArgs st) (defBody st) (defScope st) .none kV doc pm an cdv ct), osl⟩)
  (c : PySem.W.codeIn K cdv qual = true) (k : PySem.W.keepIn K (.ref f) = true) : Fun K x qual st f (PySem.W.fnOf x qual (defArgs st) (defBody st) (defScope st) .none kV doc pm an cdv ct) := ⟨⟨oc, od, kV, doc, pm, an, cdv, ct, osl, rfl, l, c⟩, k⟩
end
section
variable {X : Cx}
end
def Same (H H' : Hp) : Prop := ∀ b o, H b = some o → H' b = some o
theorem Same.refl (H : Hp) : Same H H := fun _ _ h => h
theorem Same.trans {H H1 H2 : Hp} (a : Same H H1) (b : Same H1 H2) : Same H H2 := fun c o h => b c o (a c o h)
theorem Same.free {H H' : Hp} (e : Same H H') {l : Addr} (h : H' l = Option.none) : H l = Option.none := by
 cases q : H l with
 | none => rfl
 | some o =>
  rw [e l o q] at h
  cases h
theorem Same.seq {K : PySem.W.Frag} {H H' : Hp} {a : Addr} {xs : List V} (e : Same H H') (h : SqL K H a xs) : SqL K H' a xs := by
 rcases h with (h | ⟨o, h⟩) | h
 ·exact .inl (.inl (e _ _ h))
 ·exact .inl (.inr ⟨o, e _ _ h⟩)
 ·exact .inr h
end L2
set_option maxHeartbeats 4000000
namespace L2
open PySem PySem.Spec PyProof.Rows
theorem forIn_yield_g {α β : Type} {f : α → β → Sem (ForInStep β)} (g : α → β → β) : ∀ (l : List α) (c : β), (∀ x ∈ l, ∀ c, f x c = pure (.yield (g x c))) →
  forIn l c f = pure (l.foldl (fun c x => g x c) c)
 | [], _, _ => rfl
 | x :: l, c, h => by
  rw [List.forIn_cons, h x List.mem_cons_self, pure_bind]
  exact forIn_yield_g g l _ fun y hy => h y (List.mem_cons_of_mem _ hy)
def clStep (env : Env) (cs : List (Str × Addr)) (p : Str × NameKind) : List (Str × Addr) :=
 if p.2 == .free then (p.1, (env.cells.lookup p.1).getD 0) :: cs else cs
def clOf (scope : Scope) (env : Env) : List (Str × Addr) := scope.names.foldl (clStep env) []
theorem cl_mem {env : Env} {x : Str} {c : Addr} : ∀ (l : List (Str × NameKind)) (acc : List (Str × Addr)), (x, c) ∈ l.foldl (clStep env) acc →
  (x, c) ∈ acc ∨ ((x, NameKind.free) ∈ l ∧ c = (env.cells.lookup x).getD 0)
 | [], _, h => .inl h
 | p :: l, acc, h => by
  rcases cl_mem l _ h with q | ⟨q, e⟩
  ·unfold clStep at q
   by_cases hp : p.2 == .free
   ·rw [if_pos hp] at q
    rcases List.mem_cons.mp q with q | q
    ·have e1 : x = p.1 := congrArg Prod.fst q
     have e2 : c = (env.cells.lookup p.1).getD 0 := congrArg Prod.snd q
     have e3 : p.2 = .free := by simpa using hp
     refine .inr ⟨?_, by rw [e1]; exact e2⟩
     have e4 : p = (x, NameKind.free) := by rw [e1, ← e3]
     rw [e4]
     exact List.mem_cons_self
    ·exact .inl q
   ·rw [if_neg hp] at q
    exact .inl q
  ·exact .inr ⟨List.mem_cons_of_mem _ q, e⟩
theorem cl_keeps {env : Env} {p : Str × Addr} : ∀ (l : List (Str × NameKind)) (acc : List (Str × Addr)), p ∈ acc → p ∈ l.foldl (clStep env) acc
 | [], _, h => h
 | q :: l, acc, h => by
  refine cl_keeps l _ ?_
  unfold clStep
  split
  ·exact List.mem_cons_of_mem _ h
  ·exact h
theorem cl_has {env : Env} {x : Str} : ∀ (l : List (Str × NameKind)) (acc : List (Str × Addr)), (x, NameKind.free) ∈ l → ∃ c, (x, c) ∈ l.foldl (clStep env) acc
 | [], _, h => by cases h
 | p :: l, acc, h => by
  rcases List.mem_cons.mp h with h | h
  ·subst h
   refine ⟨(env.cells.lookup x).getD 0, cl_keeps l _ ?_⟩
   unfold clStep
   rw [if_pos (by rfl)]
   exact List.mem_cons_self
  ·exact cl_has l _ h
theorem lookup_of_mem {x : Str} {c : Addr} : ∀ {l : List (Str × Addr)}, (x, c) ∈ l → ∃ c', l.lookup x = some c'
 | [], h => by cases h
 | p :: l, h => by
  obtain ⟨n, a⟩ := p
  rw [List.lookup_cons]
  cases hx : x == n with
  | true => exact ⟨a, rfl⟩
  | false =>
   rcases List.mem_cons.mp h with h | h
   ·have e : x = n := congrArg Prod.fst h
    rw [e] at hx
    simp at hx
   ·exact lookup_of_mem h
def ClHas (scope : Scope) (env : Env) : Prop := ∀ x, (x, NameKind.free) ∈ scope.names → ∃ c, env.cells.lookup x = some c
theorem cl_lookup {scope : Scope} {env : Env} (h : ClHas scope env) {x : Str} {c : Addr} (e : (clOf scope env).lookup x = some c) : (x, NameKind.free) ∈ scope.names ∧ env.cells.lookup x = some c := by
 rcases cl_mem scope.names [] (PySem.mem_of_lookup e) with q | ⟨q, r⟩
 ·cases q
 ·obtain ⟨c', hc⟩ := h x q
  rw [hc] at r
  exact ⟨q, by rw [hc, r]; rfl⟩
theorem cl_some {scope : Scope} {env : Env} (h : ClHas scope env) {x : Str} (q : (x, NameKind.free) ∈ scope.names) : ∃ c, (clOf scope env).lookup x = some c ∧ env.cells.lookup x = some c := by
 obtain ⟨c, hc⟩ := cl_has (env := env) scope.names [] q
 obtain ⟨c', h'⟩ := lookup_of_mem hc
 exact ⟨c', h', (cl_lookup h h').2⟩
theorem closure_ok {scope : Scope} {env : Env} (h : ClHas scope env) : closureFor scope env = pure (clOf scope env) := by
 unfold closureFor clOf
 dsimp only
 rw [forIn_yield_g (fun p cs => clStep env cs p) scope.names [] (fun p hp cs => by
  obtain ⟨n, k⟩ := p
  show (if (k == NameKind.free) = true then _ else _) = _
  by_cases hk : (k == NameKind.free) = true
  ·have e : k = .free := by simpa using hk
   obtain ⟨c, hc⟩ := h n (e ▸ hp)
   have e2 : cellOf env n = pure c := by unfold cellOf; rw [hc]
   rw [if_pos hk, e2]
   show _ = pure (ForInStep.yield (clStep env cs (n, k)))
   unfold clStep
   rw [if_pos hk, hc]
   rfl
  ·rw [if_neg hk]
   show _ = pure (ForInStep.yield (clStep env cs (n, k)))
   unfold clStep
   rw [if_neg hk])]
 rfl
theorem relabel_free {env : Env} : ∀ {names : List (Str × NameKind)} {x : Str}, names.lookup x = some .free →
  (names.map fun (n, k) => if (k == NameKind.free && env.scope.kind == .function && env.kindOf n == some .cell) then (n, NameKind.cell) else (n, k)).lookup x = some .free ∨
  (names.map fun (n, k) => if (k == NameKind.free && env.scope.kind == .function && env.kindOf n == some .cell) then (n, NameKind.cell) else (n, k)).lookup x = some .cell
 | [], _, h => by simp at h
 | (n, k) :: r, x, h => by
  have ih := @relabel_free env r x
  rw [List.map_cons]
  dsimp only
  cases hx : x == n with
  | true =>
   simp only [List.lookup_cons, hx] at h
   cases h
   by_cases hc : (NameKind.free == NameKind.free && env.scope.kind == .function && env.kindOf n == some .cell) = true
   ·right
    show List.lookup x ((if _ then _ else _) :: _) = _
    rw [if_pos hc]; simp only [List.lookup_cons, hx]
   ·left
    show List.lookup x ((if _ then _ else _) :: _) = _
    rw [if_neg hc]; simp only [List.lookup_cons, hx]
  | false =>
   simp only [List.lookup_cons, hx] at h
   by_cases hc : (k == NameKind.free && env.scope.kind == .function && env.kindOf n == some .cell) = true
   ·have e : (if (k == NameKind.free && env.scope.kind == .function && env.kindOf n == some .cell) = true then (n, NameKind.cell) else (n, k)) = (n, NameKind.cell) := if_pos hc
    rw [e]; simp only [List.lookup_cons, hx]; exact ih h
   ·have e : (if (k == NameKind.free && env.scope.kind == .function && env.kindOf n == some .cell) = true then (n, NameKind.cell) else (n, k)) = (n, k) := if_neg hc
    rw [e]; simp only [List.lookup_cons, hx]; exact ih h
theorem relabel_back {env : Env} : ∀ {names : List (Str × NameKind)} {x : Str}, (∀ p ∈ names, p.2 ≠ .cell) →
  ((names.map fun (n, k) => if (k == NameKind.free && env.scope.kind == .function && env.kindOf n == some .cell) then (n, NameKind.cell) else (n, k)).lookup x = some .cell ∨
  (names.map fun (n, k) => if (k == NameKind.free && env.scope.kind == .function && env.kindOf n == some .cell) then (n, NameKind.cell) else (n, k)).lookup x = some .free) → (x, NameKind.free) ∈ names
 | [], _, _, h => by simp at h
 | (n, k) :: r, x, hc0, h => by
  have ih := @relabel_back env r x (fun p hp => hc0 p (List.mem_cons_of_mem _ hp))
  rw [List.map_cons] at h
  dsimp only at h
  have key : ∀ K2 : NameKind, (K2 = .cell ∨ K2 = .free) → List.lookup x ((if (k == NameKind.free && env.scope.kind == .function && env.kindOf n == some .cell) = true then (n, NameKind.cell) else (n, k)) ::
    (r.map fun (n, k) => if (k == NameKind.free && env.scope.kind == .function && env.kindOf n == some .cell) then (n, NameKind.cell) else (n, k))) = some K2 → (x, NameKind.free) ∈ (n, k) :: r := by
   intro K2 hK2 hl
   cases hx : x == n with
   | true =>
    have exn : x = n := by simpa using hx
    by_cases hc : (k == NameKind.free && env.scope.kind == .function && env.kindOf n == some .cell) = true
    ·have hk : k = .free := by
      have := (Bool.and_eq_true _ _ ▸ (Bool.and_eq_true _ _ ▸ hc).1).1
      simpa using this
     rw [exn, hk]; exact List.mem_cons_self
    ·rw [if_neg hc] at hl
     simp only [List.lookup_cons, hx] at hl
     have hk : k = K2 := Option.some.inj hl
     rcases hK2 with q | q
     ·exact absurd (hk.trans q) (hc0 (n, k) List.mem_cons_self)
     ·rw [exn, hk.trans q]; exact List.mem_cons_self
   | false =>
    refine List.mem_cons_of_mem _ (ih ?_)
    by_cases hc : (k == NameKind.free && env.scope.kind == .function && env.kindOf n == some .cell) = true
    ·rw [if_pos hc] at hl
     simp only [List.lookup_cons, hx] at hl
     rcases hK2 with q | q
     ·exact .inl (q ▸ hl)
     ·exact .inr (q ▸ hl)
    ·rw [if_neg hc] at hl
     simp only [List.lookup_cons, hx] at hl
     rcases hK2 with q | q
     ·exact .inl (q ▸ hl)
     ·exact .inr (q ▸ hl)
  rcases h with h | h
  ·exact key .cell (.inl rfl) h
  ·exact key .free (.inr rfl) h
def compCx (X : Cx) (scope : Scope) (N : List Str) (fp : List Addr) (s₂ : Shared) (H₂ : Hp) (C : Addr) : Cx where
 prog := X.prog
 w := X.w
 K := X.K
 mg := X.mg
 base := X.base
 A := X.A
 N := N
 s₀ := s₂
 H₀ := H₂
 env := compEnvC scope (clOf scope X.env) C X.env
 outer := X.stack
 stack := X.stack
 ex := fp
 fn := fun _ => false
 calm := X.calm
 pn := []
 xe := fun _ _ => False
def CapOk (X : Cx) (scope : Scope) : List Str → List Nat → Prop
 | [], [] => True
 | x :: xs, j :: js => (X.N[j]? = some x ∧ (X.env.scope.names.lookup x = some .cell ∨ X.env.scope.names.lookup x = some .free) ∧ scope.names.lookup x = some .free) ∧ CapOk X scope xs js
 | _, _ => False
def capSt (nT : Nat) (caps : List Nat) (σ : St) : St := List.replicate nT none ++ caps.map fun j => (σ[j]?).getD none
theorem CapOk.len {X : Cx} {scope : Scope} : ∀ {xs : List Str} {js : List Nat}, CapOk X scope xs js → xs.length = js.length
 | [], [], _ => rfl
 | _ :: _, _ :: _, h => by simp only [List.length_cons]; rw [CapOk.len h.2]
 | [], _ :: _, h => h.elim
 | _ :: _, [], h => h.elim
theorem CapOk.get {X : Cx} {scope : Scope} : ∀ {xs : List Str} {js : List Nat} {k : Nat} {x : Str} {j : Nat}, CapOk X scope xs js → xs[k]? = some x → js[k]? = some j →
  X.N[j]? = some x ∧ (X.env.scope.names.lookup x = some .cell ∨ X.env.scope.names.lookup x = some .free) ∧ scope.names.lookup x = some .free
 | [], _, _, _, _, _, h, _ => by simp at h
 | _ :: _, [], _, _, _, h, _, _ => h.elim
 | _ :: _, _ :: _, 0, _, _, h, h1, h2 => by
  simp at h1 h2; subst h1; subst h2; exact h.1
 | _ :: _, _ :: _, k + 1, _, _, h, h1, h2 => CapOk.get (k := k) h.2 (by simpa using h1) (by simpa using h2)
def PF (X : Cx) (ifs : List Expr) (t : TT) : Prop :=
 ∀ (pins : List (Addr × Obj)) (s : Shared) (σ : St) (H : Hp) (Q : Bool → Hp → Prop), Inv X pins σ H s → t σ H Q →
  wpAny (model X.prog X.w) X.A (forIn ifs true fun c r => if r = true then do let ok ← isTrue c X.env (eval c X.env); pure (ForInStep.yield ok) else pure (ForInStep.yield r)) (TP X pins σ Q) X.xe s
def tTrue : TT := fun _ H Q => Q true H
theorem pf_nil {X : Cx} : PF X [] tTrue := fun _ _ _ H _ I h => wpAny_tests_nil ⟨H, I, h⟩
theorem pf_one {X : Cx} {c : Expr} {t : TT} (h : PT X c t) : PF X [c] t := fun pins s σ H Q I q => wpAny_tests_one (h pins s σ H Q I q)
theorem codeAny_compLoop_any {prog : Program} {w : World} {A : Around} {R : Result → Shared → Prop} {s : Shared} {elt target iter : Expr} {ifs : List Expr} {scope : Scope} {pos : Pos} {it acc : Value} {env : Env} (I : Nat → Shared → Prop)
  (turn : ∀ n s, I n s → wpAny (model prog w) A (pyNext it) (fun r s₁ => match r with
   | none => R (.ok .next) s₁
   | some v => wpAny (model prog w) A (letOwnedTupleGo target it v) (fun _ s₀ => wpAny (model prog w) A (assign target env v) (fun _ s₂ =>
     wpAny (model prog w) A (forIn ifs true fun c r => if r = true then do let ok ← isTrue c env (eval c env); pure (ForInStep.yield ok) else pure (ForInStep.yield r)) (fun ok s₃ =>
      if ok = true then wpAny (model prog w) A (eval elt env) (fun x s₄ =>
       wpAny (model prog w) A (call (.builtin "list.append") [acc, x]) (fun _ s₅ => ∃ m, m < n ∧ I m s₅) (fun _ _ => False) s₄) (fun _ _ => False) s₃
      else ∃ m, m < n ∧ I m s₃) (fun _ _ => False) s₂) (fun _ _ => False) s₀) (fun _ _ => False) s₁) (fun _ _ => False) s)
  (n : Nat) (h : I n s) :
  codeAny (model prog w) A (.compLoop (.ListComp elt [⟨target, iter, ifs, 0⟩] scope pos) 0 it acc env) R s := by
 refine codeAny_loop rfl I (fun n s hI => ?_) n h
 show wpAny _ A ((compTurn (.ListComp elt [⟨target, iter, ifs, 0⟩] scope pos) 0 it acc env).onRaise (fun x => do noteFrame x env; theTreesLotGoes x)) _ _ s
 refine wpAny_noted ?_
 rw [compTurn_list]
 refine wpAny_bind (wpAny_standAt (wpAny_bind (wpAny_mono (turn n s hI) (fun r s₁ h₁ => ?_) fun _ _ h' => h'.elim)))
 cases r with
 | none => exact wpAny_pure h₁
 | some v =>
  refine wpAny_bind (wpAny_mono h₁ (fun _ s₀ h₀ => ?_) fun _ _ h' => h'.elim)
  refine wpAny_bind (wpAny_mono h₀ (fun _ s₂ h₂ => wpAny_bind (wpAny_mono h₂ (fun ok s₃ h₃ => ?_) fun _ _ h' => h'.elim)) fun _ _ h' => h'.elim)
  cases ok with
  | false => exact wpAny_pure ⟨rfl, h₃⟩
  | true =>
   exact wpAny_bind (wpAny_bind (wpAny_mono h₃ (fun x s₄ h₄ => wpAny_bind (wpAny_mono h₄ (fun _ s₅ h₅ => wpAny_pure (wpAny_pure ⟨rfl, h₅⟩)) fun _ _ h' => h'.elim)) fun _ _ h' => h'.elim))
theorem HOk.track {P : Program} {w : World} {H : Hp} {h : Heap} {a : Addr} {o : HO} (x : HOk P w H h) (hn : H a = none) (new : ObjOk P w (upd H a o) h a o) : HOk P w (upd H a o) h := fun b u e => by
 by_cases hb : b = a
 ·subst hb; rw [upd_same] at e; cases e; exact new
 ·rw [upd_ne hb] at e
  exact (x b u e).stay (fun c v _ q => q) (fun c q => by rw [upd_ne (ne_of_none q hn)]; exact q) fun c xs q => by rw [upd_ne (ne_of_none q hn)]; exact q
theorem HOk.but {P : Program} {w : World} {H : Hp} {h h' : Heap} {a : Addr} (x : HOk P w H h) (hn : H a = none) (k : ∀ b o, b ≠ a → h.get? b = some o → h'.get? b = some o) : HOk P w H h' := fun b u e => by
 refine (x b u e).stay (fun c v hc q => k c v ?_ q) (fun _ q => q) fun _ _ q => q
 rintro rfl
 rcases hc with z | z
 ·rw [← z, hn] at e; cases e
 ·rw [hn] at z; cases z
abbrev lobj (its : List Value) (n : Nat) : Obj := { cls := .type "list", data := .seq its.toArray n }
def CompW (J : It) (cap : St) (g : TG) (tt : TT) (te : TE) (Fin : List V → Hp → Prop) (H : Hp) : Prop :=
 ∃ W : Nat → Nat → List V → Hp → Prop, (∃ m, W 0 m [] H) ∧ ∀ i m ys H, W i m ys H →
  (J.stop i H ∧ ys.length ≤ sizeLine ∧ Fin ys H) ∨ (J.go i H ∧ ys.length ≤ sizeLine ∧ ∀ x H', J.yld i H x H' → g x cap H' fun σ2 H2 => tt σ2 H2 fun b H3 =>
   if b = true then te σ2 H3 fun v H4 => ∃ m', m' < m ∧ W (i + 1) m' (ys ++ [v]) H4 else ∃ m', m' < m ∧ W (i + 1) m' ys H3)
def GLow (n : Nat) (g : TG) : Prop := ∀ v σ H Q, g v σ H Q → g v σ H fun σ' H' => (∀ j, n ≤ j → σ'[j]? = σ[j]?) ∧ Q σ' H'
def GsLow (n : Nat) (g : TGs) : Prop := ∀ v σ H Q, g v σ H Q → g v σ H fun σ' H' => (∀ j, n ≤ j → σ'[j]? = σ[j]?) ∧ Q σ' H'
theorem glow_name {n i : Nat} (h : i < n) : GLow n (gName i) := fun v σ H Q q => ⟨fun j hj => List.getElem?_set_ne (by omega), q⟩
theorem gslow_nil {n : Nat} : GsLow n gNil := fun vs σ H Q q => ⟨q.1, fun _ _ => rfl, q.2⟩
theorem gslow_cons {n : Nat} {t : TG} {u : TGs} (h1 : GLow n t) (h2 : GsLow n u) (mono : ∀ v σ H Q Q', (∀ σ' H', Q σ' H' → Q' σ' H') → t v σ H Q → t v σ H Q') (mono2 : ∀ v σ H Q Q', (∀ σ' H', Q σ' H' → Q' σ' H') → u v σ H Q → u v σ H Q') : GsLow n (gCons t u) := fun vs σ H Q q => by
 obtain ⟨v, r, e, q⟩ := q
 refine ⟨v, r, e, mono v σ H _ _ (fun σ' H' z => ?_) (h1 v σ H _ q)⟩
 exact mono2 r σ' H' _ _ (fun σ2 H2 y => ⟨fun j hj => (y.1 j hj).trans (z.1 j hj), y.2⟩) (h2 r σ' H' _ z.2)
theorem glow_tup {K : PySem.W.Frag} {n k : Nat} {t : TGs} (h : GsLow n t) : GLow n (gTup K k t) := fun v σ H Q q => by
 obtain ⟨a, xs, e, h1, h2, q⟩ := q
 exact ⟨a, xs, e, h1, h2, h xs σ H Q q⟩
theorem gmono_name {i : Nat} : ∀ v σ H Q Q', (∀ σ' H', Q σ' H' → Q' σ' H') → gName i v σ H Q → gName i v σ H Q' := fun _ _ _ _ _ h q => h _ _ q
theorem gmono_nil : ∀ v σ H Q Q', (∀ σ' H', Q σ' H' → Q' σ' H') → gNil v σ H Q → gNil v σ H Q' := fun _ _ _ _ _ h q => ⟨q.1, h _ _ q.2⟩
theorem gmono_cons {t : TG} {u : TGs} (mono : ∀ v σ H Q Q', (∀ σ' H', Q σ' H' → Q' σ' H') → t v σ H Q → t v σ H Q') (mono2 : ∀ v σ H Q Q', (∀ σ' H', Q σ' H' → Q' σ' H') → u v σ H Q → u v σ H Q') :
  ∀ v σ H Q Q', (∀ σ' H', Q σ' H' → Q' σ' H') → gCons t u v σ H Q → gCons t u v σ H Q' := fun vs σ H Q Q' h q => by
 obtain ⟨v, r, e, q⟩ := q
 exact ⟨v, r, e, mono v σ H _ _ (fun σ' H' z => mono2 r σ' H' _ _ h z) q⟩
section
variable {X : Cx} {pins : List (Addr × Obj)} {σ : St} {H₂ : Hp} {s₂ : Shared} {scope : Scope} {tg iter elt : Expr} {ifs : List Expr} {pos : Pos} {nT : Nat} {tgs caps_n : List Str} {caps : List Nat}
theorem comp_block (I : Inv X pins σ H₂ s₂) {it : Addr} {fp : List Addr} {tn : Nat → Heap → Prop} {J : It} (T : Turn X.prog X.w X.K tg J fp it tn) (st0 : tn 0 s₂.heap) (hfp : ∀ b ∈ fp, FpOk X pins H₂ b)
  (hc : X.calm = true) (hcell : ∀ y ∈ scope.names, y.2 ≠ .cell) (hkind : scope.kind = .function) (hcl : ClHas scope X.env) (hcap : CapOk X scope caps_n caps)
  {g : TG} {tt : TT} {te : TE} (hlow : GLow tgs.length g) (hg : ∀ s H C, PG (compCx X scope (tgs ++ caps_n) fp s H C) tg g) (hf : ∀ s H C, PF (compCx X scope (tgs ++ caps_n) fp s H C) ifs tt) (he : ∀ s H C, PE (compCx X scope (tgs ++ caps_n) fp s H C) elt te)
  {Fin : List V → Hp → Prop} (hw : CompW J (capSt tgs.length caps σ) g tt te Fin H₂) {RR : Value → Addr → Result → Shared → Prop}
  (hRR : ∀ (D C : Addr) (ys : List V) (its : List Value) (n : Nat) (H3 : Hp) (s3 : Shared), s₂.heap.objs.size ≤ D → s₂.heap.objs.size ≤ C → D ≠ C → Inv (compCx X scope (tgs ++ caps_n) fp s₂ H₂ C) [(D, lobj its n)] (capSt tgs.length caps σ) H3 s3 → Vals ys its → ys.length ≤ sizeLine → Fin ys H3 → RR (.ref D) C (.ok .next) s3)
  {E : Value → Shared → Prop} :
  wpAny (model X.prog X.w) X.A (newList []) (fun acc s₃ => wpAny (model X.prog X.w) X.A (newFunctionEnv scope X.env.globals (clOf scope X.env) [] X.env.qual none .none (some X.env)) (fun cenv s₄ =>
   codeAny (model X.prog X.w) X.A (.compStart (.ListComp elt [⟨tg, iter, ifs, 0⟩] scope pos) 0 (.ref it) acc { cenv with scope := relabel scope X.env }) (RR acc cenv.locals) s₄) E s₃) E s₂ := by
 refine wpAny_newObj_type (wpAny_newFunctionEnv hcell (by intro y hy; simp at hy) (fun h₁ hns₁ hsb₁ => ?_) hkind)
 dsimp only at hns₁ hsb₁ ⊢
 generalize hH2 : s₂.heap.push { cls := .type "list", dict := none, data := .seq ([] : List Value).toArray } = HP at hns₁ hsb₁ ⊢
 have hC : HP.objs.size = s₂.heap.objs.size + 1 := by rw [← hH2, Heap.size_push]
 have hDC : s₂.heap.objs.size ≠ HP.objs.size := by rw [hC]; exact Nat.ne_of_lt (Nat.lt_succ_self _)
 have hCle : s₂.heap.objs.size ≤ HP.objs.size := by rw [hC]; exact Nat.le_succ _
 have below : ∀ b, b < s₂.heap.objs.size → b ≠ HP.objs.size ∧ b ≠ s₂.heap.objs.size := fun b hb => ⟨by rw [hC]; exact Nat.ne_of_lt (Nat.lt_succ_of_lt hb), Nat.ne_of_lt hb⟩
 have old : ∀ b o, s₂.heap.get? b = some o → h₁.get? b = some o := fun b o e => hsb₁.extBut b o (below b (Heap.lt_size e)).1 (Heap.get?_push_of_some _ (hH2 ▸ Heap.get?_push_of_some _ e))
 have hacc : h₁.get? s₂.heap.objs.size = some (lobj [] 0) := hsb₁.extBut _ _ hDC (Heap.get?_push_of_some _ (hH2 ▸ Heap.get?_push_size _ rfl))
 have fpl : ∀ b ∈ fp, b < s₂.heap.objs.size := fun b hb => by
  obtain ⟨o, e, _⟩ := T.obj 0 _ st0 b hb
  exact Heap.lt_size e
 have stkl : ∀ b ∈ frs X.stack, b < s₂.heap.objs.size := fun b hb => by
  obtain ⟨_, o, ho, _⟩ := I.stack.mem hb
  exact Heap.lt_size ho
 -- the block's context
 have ok : (compCx X scope (tgs ++ caps_n) fp s₂ H₂ HP.objs.size).Ok := by
  refine ⟨I.ok.mod, hkind, I.ok.glob, I.ok.blt, hCle, fun x y c h1 h2 => I.ok.inj x y c (cl_lookup hcl h1).2 (cl_lookup hcl h2).2, fun x hx => ?_, fun x c h _ => (nomatch h), I.ok.hd, I.ok.frames, .inl rfl,
   fun b hb => ⟨(below b (fpl b hb)).1, fun x c h => (hfp b hb).2.2.2.2.1 x c (cl_lookup hcl h).2⟩, I.bs, Nat.le_trans I.ok.bsz I.sz, fun b o e hb => ?_, fun b hb z => ?_, I.stack, I.stkFree⟩
  ·obtain ⟨c, h1, _⟩ := cl_some hcl (relabel_back (env := X.env) hcell hx)
   exact ⟨c, h1⟩
  ·obtain ⟨_, _, _, h4, _⟩ := hfp b hb
   rcases h4 with h4 | h4
   ·exact I.ok.noex b o e h4
   ·exact absurd (Nat.lt_of_lt_of_le (Heap.lt_size (I.ok.bs b o e).1) h4) (Nat.lt_irrefl _)
  ·obtain ⟨_, h2, h3, _⟩ := hfp b hb
   rcases List.mem_cons.mp (I.stkSub b z) with q | q
   ·exact h2 q
   ·exact h3 q
 have I0 : ∀ tk, Inv (compCx X scope (tgs ++ caps_n) fp s₂ H₂ HP.objs.size) [(s₂.heap.objs.size, lobj [] 0)] (capSt tgs.length caps σ) H₂ { s₂ with heap := h₁, toks := tk } := by
  intro tk
  refine ⟨ok, rfl, I.bare, Un.kept old, ⟨_, hns₁, fun i x v e1 e2 e3 => ?_⟩, fun x c h => ?_, I.hok.fresh hCle, fun x c h => I.freeC x c (cl_lookup hcl h).2, fun p hp => ?_, I.hok.kept old, ?_⟩
  ·unfold capSt at e2
   have hi : tgs.length ≤ i := by
    by_cases hi : i < tgs.length
    ·rw [List.getElem?_append_left (by simpa using hi), List.getElem?_replicate] at e2
     split at e2 <;> cases e2
    ·exact Nat.le_of_not_lt hi
   rw [List.getElem?_append_right (by simpa using hi), List.length_replicate, List.getElem?_map] at e2
   have e1' : caps_n[i - tgs.length]? = some x := by
    have e1'' : (tgs ++ caps_n)[i]? = some x := e1
    rw [List.getElem?_append_right hi] at e1''
    exact e1''
   cases ej : caps[i - tgs.length]? with
   | none => rw [ej] at e2; cases e2
   | some j =>
    rw [ej] at e2
    obtain ⟨n1, n2, n3⟩ := hcap.get e1' ej
    have es : σ[j]? = some (some v) := by
     have e2' : (σ[j]?).getD none = some v := Option.some.inj e2
     cases q : σ[j]? with
     | none => rw [q] at e2'; cases e2'
     | some z => rw [q] at e2'; rw [show z = some v from e2']
    obtain ⟨m, hn, hl⟩ := I.loc
    obtain ⟨u, ru, lk⟩ := hl j x v n1 es (.inr n2)
    refine ⟨u, ru, ?_⟩
    rcases lk with ⟨k1, _⟩ | ⟨_, c, k1, k2⟩
    ·have k1' : X.env.scope.names.lookup x = some .local := k1
     rcases n2 with n2 | n2
     ·rw [n2] at k1'; cases k1'
     ·rw [n2] at k1'; cases k1'
    ·obtain ⟨c', h1, h2⟩ := cl_some hcl (PySem.mem_of_lookup n3)
     rw [k1] at h2; cases h2
     refine .inr ⟨?_, c, h1, k2.keeps old⟩
     rcases relabel_free (env := X.env) n3 with q | q
     ·exact .inr q
     ·exact .inl q
  ·obtain ⟨v, z⟩ := I.cell x c (cl_lookup hcl h).2
   exact ⟨v, z.keeps old⟩
  ·have e : p = (s₂.heap.objs.size, lobj [] 0) := by simpa [compCx] using hp
   subst e
   exact ⟨hacc, I.hok.fresh (Nat.le_refl _), hDC, fun z => Nat.lt_irrefl _ (stkl _ z), fun v z => (nomatch z)⟩
  ·unfold capSt
   show _ = (tgs ++ caps_n).length
   rw [List.length_append, List.length_replicate, List.length_map, List.length_append, hcap.len]
 obtain ⟨W, ⟨m0, w0⟩, turn⟩ := hw
 have st1 : tn 0 h₁ := T.keep 0 _ _ st0 fun b _ o e => old b o e
 have loop : ∀ tk, codeAny (model X.prog X.w) X.A (.compLoop (.ListComp elt [⟨tg, iter, ifs, 0⟩] scope pos) 0 (.ref it) (.ref s₂.heap.objs.size) (compEnvC scope (clOf scope X.env) HP.objs.size X.env))
   (RR (.ref s₂.heap.objs.size) HP.objs.size) { s₂ with heap := h₁, toks := tk } := by
  intro tk
  have stat : ∀ {pins' : List (Addr × Obj)} {H' : Hp}, (∀ p ∈ pins', p.1 ∉ fp) → (∀ b ∈ fp, H' b = none) → ∀ b ∈ fp, FpOk (compCx X scope (tgs ++ caps_n) fp s₂ H₂ HP.objs.size) pins' H' b := fun {pins' H'} hp hn b hb =>
   ⟨hn b hb, (below b (fpl b hb)).1, ok.exfs b hb, .inl hb, fun x c h => (hfp b hb).2.2.2.2.1 x c (cl_lookup hcl h).2, fun p hp' z => hp p (by simpa [compCx] using hp') (z ▸ hb)⟩
  have offD : ∀ (its : List Value) (n : Nat), ∀ p ∈ [(s₂.heap.objs.size, lobj its n)], p.1 ∉ fp := fun its n p hp z => by
   have e : p = (s₂.heap.objs.size, lobj its n) := by simpa using hp
   rw [e] at z
   exact Nat.lt_irrefl _ (fpl _ z)
  refine codeAny_compLoop_any (fun n s' => ∃ i ys its k H', Inv (compCx X scope (tgs ++ caps_n) fp s₂ H₂ HP.objs.size) [(s₂.heap.objs.size, lobj its k)] (capSt tgs.length caps σ) H' s' ∧ Vals ys its ∧ tn i s'.heap ∧ (∀ b ∈ fp, H' b = none) ∧ W i n ys H') ?_ m0
   ⟨0, [], [], 0, H₂, I0 tk, .nil, st1, fun b hb => (hfp b hb).1, w0⟩
  rintro n s3 ⟨i, ys, its, k, H3, I3, rv, st3, fr3, w3⟩
  rcases turn i n ys H3 w3 with ⟨stop, hz, fin⟩ | ⟨go, hz, step⟩
  ·refine thn (T.done (compCx X scope (tgs ++ caps_n) fp s₂ H₂ HP.objs.size) rfl rfl rfl hc i _ s3 _ H3 (fun _ _ => False) I3 (stat (offD _ _) fr3) st3 stop) fun r s4 ⟨hr, I4⟩ => ?_
   subst hr
   exact hRR _ _ ys its k H3 s4 (Nat.le_refl _) hCle hDC I4 rv hz fin
  ·refine thn (T.item (compCx X scope (tgs ++ caps_n) fp s₂ H₂ HP.objs.size) rfl rfl rfl hc i _ s3 _ H3 (fun _ _ => False) I3 (stat (offD _ _) fr3) st3 go) fun r s4 ⟨u, hr, h4⟩ => ?_
   subst hr
   refine thn h4 fun _ s5 ⟨x, H5, I5, r5, y5, st5, fr5⟩ => ?_
   have I5' := I5.pinned (stat (offD _ _) fr5) (T.obj _ _ st5)
   refine thn (hg s₂ H₂ HP.objs.size _ s5 _ H5 x u _ I5' r5 (hlow _ _ _ _ (step x H5 y5))) fun _ s6 ⟨σ6, H6, I6, keep6, q6⟩ => ?_
   refine thn (hf s₂ H₂ HP.objs.size _ s6 σ6 H6 _ I6 q6) fun b s7 ⟨H7, I7, q7⟩ => ?_
   have len6 : σ6.length = (capSt tgs.length caps σ).length := I6.len.trans I5.len.symm
   -- what stays of the iterator's objects
   have itk : ∀ {σ' : St} {H' : Hp} {s' : Shared}, Inv (compCx X scope (tgs ++ caps_n) fp s₂ H₂ HP.objs.size) ([(s₂.heap.objs.size, lobj its k)] ++ pinsAt fp s5.heap) σ' H' s' → tn (i + 1) s'.heap ∧ ∀ b ∈ fp, H' b = none := fun {σ' H' s'} I' => by
    refine ⟨T.keep _ _ _ st5 fun b hb o e => (I'.pin (b, o) (List.mem_append_right _ (List.mem_append_right _ (mem_pinsAt hb e)))).1, fun b hb => ?_⟩
    obtain ⟨o, e, d⟩ := T.obj _ _ st5 b hb
    exact (I'.pin (b, o) (List.mem_append_right _ (List.mem_append_right _ (mem_pinsAt hb e)))).2.1
   -- the captured names' slots
   have slots : ∀ (j : Nat) v, (capSt tgs.length caps σ)[j]? = some (some v) → σ6[j]? = some (some v) := fun j v e => by
    by_cases hj : tgs.length ≤ j
    ·rw [keep6 j hj]; exact e
    ·unfold capSt at e
     rw [List.getElem?_append_left (by simpa using hj), List.getElem?_replicate] at e
     split at e <;> cases e
   cases b with
   | false =>
    rw [if_neg Bool.false_ne_true]
    rw [if_neg Bool.false_ne_true] at q7
    obtain ⟨m', hm, w7⟩ := q7
    obtain ⟨t7, f7⟩ := itk I7
    exact ⟨m', hm, i + 1, ys, its, k, H7, (I7.unpinned (pins := [(s₂.heap.objs.size, lobj its k)])).weak len6.symm slots, rv, t7, f7, w7⟩
   | true =>
    rw [if_pos rfl]
    rw [if_pos rfl] at q7
    refine thn (he s₂ H₂ HP.objs.size _ s7 σ6 H7 _ I7 q7) fun xv s8 ⟨y, H8, I8, r8, m', hm, w8⟩ => ?_
    obtain ⟨t8, f8⟩ := itk I8
    have I8' : Inv (compCx X scope (tgs ++ caps_n) fp s₂ H₂ HP.objs.size) [(s₂.heap.objs.size, lobj its k)] (capSt tgs.length caps σ) H8 s8 := (I8.unpinned (pins := [(s₂.heap.objs.size, lobj its k)])).weak len6.symm slots
    obtain ⟨eD, nD, neD, nfD, dD⟩ := I8'.pin (s₂.heap.objs.size, lobj its k) (List.mem_append_right _ (by simp))
    have hlen : its.toArray.size ≤ sizeLine := by rw [List.size_toArray, ← rv.length]; exact hz
    refine append_at (its := its.toArray) (n := k) eD (fun h9 sb9 e9 => ?_) hlen
    have I9 : Inv (compCx X scope (tgs ++ caps_n) fp s₂ H₂ HP.objs.size) [] (capSt tgs.length caps σ) H8 { s8 with heap := h9 } :=
     (I8'.pins_of (pins' := []) (fun p hp => by cases hp)).turned (t' := s8.toks) (it := s₂.heap.objs.size) (fun b o hb e => sb9.extBut b o hb e) nD neD (.inr (Nat.le_refl _)) (fun x c h z => by
      obtain ⟨v, q⟩ := I.cell x c (cl_lookup hcl h).2
      exact absurd q.lt (by rw [z]; exact Nat.lt_irrefl _)) (fun p hp => by
       have hp' : p ∈ ([] : List (Addr × Obj)) := by simpa [compCx] using hp
       cases hp')
    have e9' : h9.get? s₂.heap.objs.size = some (lobj (its ++ [xv]) (k + 1)) := by
     rw [e9]; simp [lobj]
    refine ⟨m', hm, i + 1, ys ++ [y], its ++ [xv], k + 1, H8, I9.pins_of (fun p hp => ?_), rv.append (.cons r8 .nil), T.keep _ _ _ t8 fun b hb o e => sb9.extBut b o (Nat.ne_of_lt (fpl b hb)) e, f8, w8⟩
    have ep : p = (s₂.heap.objs.size, lobj (its ++ [xv]) (k + 1)) := by simpa using hp
    subst ep
    exact ⟨e9', nD, neD, nfD, fun v z => (nomatch z)⟩
 exact codeAny_compStart_list (loop _) (T.self X.A 0 _ _ _ st1 (loop _))
theorem comp_end (I : Inv X pins σ H₂ s₂) {fp : List Addr} (hfp : ∀ b ∈ fp, FpOk X pins H₂ b) {D C : Addr} {ys : List V} {its : List Value} {n : Nat} {H3 : Hp} {s3 : Shared} {N' : List Str} {σ' : St} {h4 : Heap} (hD : s₂.heap.objs.size ≤ D) (hC : s₂.heap.objs.size ≤ C) (hDC : D ≠ C)
  (I3 : Inv (compCx X scope N' fp s₂ H₂ C) [(D, lobj its n)] σ' H3 s3) (rv : Vals ys its) (hz : ys.length ≤ sizeLine) (hs : Heap.SameBut C s3.heap h4) : Inv X pins σ (upd H3 D (.lst ys)) { s3 with heap := h4 } := by
 obtain ⟨eD, nD, neD, nfD, dD⟩ := I3.pin (D, lobj its n) (List.mem_append_right _ (by simp))
 have eD4 : h4.get? D = some (lobj its n) := hs.extBut D _ hDC eD
 have lt : ∀ b o, s₂.heap.get? b = some o → b ≠ C ∧ b ≠ D := fun b o e => ⟨Nat.ne_of_lt (Nat.lt_of_lt_of_le (Heap.lt_size e) hC), Nat.ne_of_lt (Nat.lt_of_lt_of_le (Heap.lt_size e) hD)⟩
 refine I.call' (ch := fp) I3.os ?_ ?_ I3.bare (fun b hb => ⟨(hfp b hb).2.2.2.1, (hfp b hb).2.1, (hfp b hb).2.2.2.2.1, (hfp b hb).2.2.2.2.2⟩)
 ·have u := I3.base
  refine ⟨fun b o e nb hb hx => hs.extBut b o (lt b o e).1 (u.keep b o e nb hb hx), fun b o e nb hb hx => ?_, fun b o e nb hx => ?_, fun b o e hx => ?_, fun b xs e => ?_, fun b o xs e => ?_, fun b ps e => ?_⟩
  ·obtain ⟨sl, q⟩ := u.slot b o e nb hb hx
   exact ⟨sl, hs.extBut b _ (lt b o e).1 q⟩
  ·rw [upd_ne (lt b o e).2]; exact u.free b o e nb hx
  ·obtain ⟨o', q⟩ := u.there b o e hx
   exact ⟨o', hs.extBut b _ (lt b o e).1 q⟩
  ·have q := u.tups b xs e
   rw [upd_ne (ne_of_none q nD)]; exact q
  ·have q := u.frzs b o xs e
   rw [upd_ne (ne_of_none q nD)]; exact q
  ·obtain ⟨more, q⟩ := u.tbls b ps e
   exact ⟨more, by rw [upd_ne (ne_of_none q nD)]; exact q⟩
 ·refine HOk.track (I3.hok.but I3.free fun b o hb e => hs.extBut b o hb e) nD ?_
  exact ⟨hz, its, n, rv, eD4⟩
def tComp (wi : TI) (nT : Nat) (caps : List Nat) (g : TG) (tt : TT) (te : TE) : TE := fun σ H Q => wi σ H fun J H1 => CompW J (capSt nT caps σ) g tt te (fun ys H3 => ∀ D, H3 D = none → Q (.ref D) (upd H3 D (.lst ys))) H1
theorem pe_comp {wi : TI} {g : TG} {tt : TT} {te : TE} (hc : X.calm = true) (hcell : ∀ y ∈ scope.names, y.2 ≠ .cell) (hkind : scope.kind = .function) (hnames : ∀ y ∈ scope.names, y.2 = .local → scope.names.lookup y.1 = some .local)
  (hfree : ∀ y ∈ scope.names, y.2 = .free → X.env.scope.names.lookup y.1 = some .cell ∨ X.env.scope.names.lookup y.1 = some .free) (hcap : CapOk X scope caps_n caps) (hi : PI X tg iter wi) (hlow : GLow tgs.length g)
  (hg : ∀ fp s H C, PG (compCx X scope (tgs ++ caps_n) fp s H C) tg g) (hf : ∀ fp s H C, PF (compCx X scope (tgs ++ caps_n) fp s H C) ifs tt) (he : ∀ fp s H C, PE (compCx X scope (tgs ++ caps_n) fp s H C) elt te)
  (hs : ∀ x, foldedSetIterable iter X.env x = pure x := by intro _; rfl) : PE X (.ListComp elt [⟨tg, iter, ifs, 0⟩] scope pos) (tComp wi tgs.length caps g tt te) := by
 intro pins s σ H Q I h
 have hcl : ClHas scope X.env := fun x hx => I.ok.has x (hfree _ hx rfl)
 rw [eval_ListComp]
 refine wpAny_comprehension_free (use := none) rfl hs (closure_ok hcl) hkind hnames (thn (hi pins s σ H _ I h) fun v s1 h1 => thn h1 fun itv s2 h2 => ?_)
 obtain ⟨it, fp, tn, J, H2, e, I2, T, st2, f2, hw⟩ := h2
 subst e
 refine comp_block I2 T st2 f2 hc hcell hkind hcl hcap hlow (hg fp) (hf fp) (he fp) hw (RR := fun acc C => compPost (model X.prog X.w) X.A X.xe none (EP X pins σ Q) acc C) ?_
 intro D C ys its n H3 s3 hD hC hDC I3 rv hz fin
 obtain ⟨m, hn, _⟩ := I3.loc
 refine ⟨m, hn, fun h' hs' => ?_⟩
 obtain ⟨eD, nD, _⟩ := I3.pin (D, lobj its n) (List.mem_append_right _ (by simp))
 exact ⟨.ref D, _, comp_end I2 f2 hD hC hDC I3 rv hz hs', rfl, fin D nD⟩
end
end L2
namespace L2
open PySem PySem.Spec PyProof.Rows
section
variable {prog : Program} {w : World} {κ : Type} [DecidableEq κ] {kd : HeapKind prog w κ} {A : Around} {E : Value → Shared → Prop} {s : Shared} {a : Addr} {tab : List (κ × Addr × Value)}
theorem lenT_meets (ns : (a == sysModules) = false) : MeetsIn prog w (Builtin.«dict.__len__» ⟨[.ref a], []⟩) (fun _ R s => ∃ tab, s.heap.DictOfH kd a tab ∧ R (.ok (.ret (.int tab.length s.toks))) { s with toks := s.toks + 1 }) :=
 .of_wp fun _ R s ⟨tab, ⟨o, es, ep, ho, _, hdat, he, _, _⟩, h⟩ => by
  have hz : es.size = tab.length := by simpa using congrArg List.length he
  refine wpAny_bind (m := dictSize a) (wpAny_bind (wpAny_dictEntries ho hdat (wpAny_pure (wpAny_bind (m := Builtin.Dict.pendingCount a) (wpAny_pendingCount_other ns (wpAny_ret_mkInt ?_))))))
  rw [Nat.add_zero, hz]; exact h
theorem lenT_body {Q : Value → Shared → Prop} (ns : (a == sysModules) = false) (hm : s.heap.DictOfH kd a tab) (fit : (tab.length : Int) < 2 ^ 63) (h : Q (.int tab.length (s.toks + 1)) { s with toks := s.toks + 1 + 1 }) :
  wpAny (model prog w) A (Builtin.«len» ⟨[.ref a], []⟩) (fun fin s' => ∃ r, fin = .done (.ret r) ∧ Q r s') E s := by
 unfold Builtin.«len»
 refine wpAny_bind (m := oneArg "len" _) (wpAny_pure (wpAny_bind (m := callSpecial? (.ref a) (Str.ofString "__len__")) (wpAny_callSpecial?_slot (name := Str.ofString "__len__") hm.typeIs F.slot_dict_len ?_)))
 refine call_meetsIn F.slot_dict_len hm.typeIs F.entry_dict_len (F.args_dict_len_1 _) (lenT_meets ns) ⟨tab, hm, wpAny_bind (wpAny_holding (wpAny_pure (wpAny_bind (wpAny_letGo ?_))))⟩
 have n1 : ¬ ((tab.length : Nat) : Int) < 0 := by omega
 have n2 : ¬ ((tab.length : Nat) : Int) ≥ 2 ^ 63 := by omega
 show wpAny _ _ (if ((tab.length : Nat) : Int) < 0 then _ else _) _ _ _
 rw [if_neg n1]
 show wpAny _ _ (if ((tab.length : Nat) : Int) ≥ 2 ^ 63 then _ else _) _ _ _
 rw [if_neg n2]
 exact wpAny_bind (wpAny_mkInt (wpAny_pure (show ∃ r, _ from ⟨_, rfl, h⟩)))
theorem call_len_heap {Q : Value → Shared → Prop} (ns : (a == sysModules) = false) (hm : s.heap.DictOfH kd a tab) (fit : (tab.length : Int) < 2 ^ 63) (h : Q (.int tab.length (s.toks + 1)) { s with toks := s.toks + 1 + 1 }) :
  wpAny (model prog w) A (call (.builtin "len") [.ref a]) Q E s := Calls.call_function_entry kind_len plain_len entry_len (args_len1 _) (lenT_body ns hm fit h)
theorem truthy_heap {Q : Bool → Shared → Prop} (ns : (a == sysModules) = false) (hm : s.heap.DictOfH kd a tab) (fit : (tab.length : Int) < 2 ^ 63) (h : Q (!tab.isEmpty) { s with toks := s.toks + 1 + 1 }) :
  wpAny (model prog w) A (truthy (.ref a)) Q E s := by
 have ne : ((tab.length : Int) != 0) = !tab.isEmpty := by cases tab <;> simp <;> omega
 have run : wpAny (model prog w) A (runValue (.builtin "len" ⟨[.ref a], []⟩)) (fun r s' => r = .int tab.length (s.toks + 1) ∧ Q (!tab.isEmpty) s') E s := by
  refine wpAny_runValue (codeAny_builtin entry_len (by
   rw [Around.under_plainId plain_len _]
   exact wpAny_mono (lenT_body (Q := fun r s' => r = .int tab.length (s.toks + 1) ∧ Q (!tab.isEmpty) s') ns hm fit ⟨rfl, h⟩) (fun _ _ q => by obtain ⟨_, e, q⟩ := q; subst e; exact q) fun _ _ z => z))
 unfold truthy
 first
  | refine wpAny_bind (wpAny_callSpecial?_none (name := Str.ofString "__bool__") hm.typeIs noBool_dict (wpAny_bind (wpAny_specialOf (name := Str.ofString "__len__") hm.typeIs F.slot_dict_len.lookup ?_)))
  | refine wpAny_bind (wpAny_pure (wpAny_bind (wpAny_callSpecial?_none (name := Str.ofString "__bool__") hm.typeIs noBool_dict (wpAny_bind (wpAny_specialOf (name := Str.ofString "__len__") hm.typeIs F.slot_dict_len.lookup ?_)))))
  | refine wpAny_bind (wpAny_pure (wpAny_bind (wpAny_callSpecial?_none (name := Str.ofString "__bool__") hm.typeIs noBool_dict (wpAny_bind (wpAny_pure (wpAny_bind (wpAny_specialOf (name := Str.ofString "__len__") hm.typeIs F.slot_dict_len.lookup ?_)))))))
 first
  | exact wpAny_bind (wpAny_mono run (fun _ _ q => by rw [q.1]; exact wpAny_pure (ne ▸ q.2)) fun _ _ z => z)
  | exact wpAny_bind (wpAny_pure (wpAny_bind (wpAny_mono run (fun _ _ q => by rw [q.1]; exact wpAny_pure (ne ▸ q.2)) fun _ _ z => z)))
end
section
variable {X : Cx}
def TruV' (K : PySem.W.Frag) (x : V) (H : Hp) (k : Bool) : Prop := TruV K x H k ∨ (∃ p kvs, x = .ref p ∧ Rd H p (.dT kvs) ∧ k = !kvs.isEmpty) ∨ ∃ p kvs, x = .ref p ∧ Rd H p (.dK kvs) ∧ k = !kvs.isEmpty
theorem tru_ok' : TruR X (fun x H Q => ∃ k, TruV' X.K x H k ∧ Q k H) := by
 intro pins s σ H x v Q I rx h
 obtain ⟨k, e, q⟩ := h
 rcases e with e | ⟨p, kvs, rfl, hx, rfl⟩ | ⟨p, kvs, rfl, hx, rfl⟩
 ·exact tru_ok pins s σ H x v Q I rx ⟨k, e, q⟩
 ·cases rx
  obtain ⟨hz, hS, xs, r, m⟩ := dt_rd I.hok hx
  have hlen : kvs.length = xs.length := Paired.length r
  have hs : sizeLine = 16777216 := sizeLine_eq
  refine truthy_heap hS m (by omega) ⟨H, I.tok _, ?_⟩
  have : (!xs.isEmpty) = !kvs.isEmpty := by cases r <;> rfl
  rw [this]; exact q
 ·cases rx
  exact d_truth I hx fun s' I' => ⟨H, I', q⟩
theorem pt_truth' {a : Expr} {ta : TE} (ha : PE X a ta) (he : ∀ whole, isTrue a X.env whole = (do let v ← whole; standAt a.pos; holding [v] (truthy v))) :
  PT X a (fun σ H Q => ta σ H fun x H' => ∃ k, TruV' X.K x H' k ∧ Q k H') := by
 intro pins s σ H Q I h
 exact isTrue_plain (thn (ha pins s σ H _ I h) fun v s1 ⟨x, H1, I1, r1, q1⟩ => tru_ok' pins s1 σ H1 x v Q I1 r1 q1) (he _)
end
end L2
namespace L2
open PySem PySem.Spec PyProof.Rows
section
variable {P : Program} {w : World} {H : Hp} {h : Heap} {a : Addr}
theorem dk_nil_t (x : ObjOk P w H h a (.dK [])) : ObjOk P w H h a (.dT []) := by
 obtain ⟨z, hd, vs, rel, o, es, ep, h1, h2, h3, h4, h5, h6⟩ := (show (_ : Nat) ≤ sizeLine ∧ (a == sysModules) = false ∧ ∃ vs, KV [] vs ∧ h.DictOf (mixKind P w) a vs from x)
 cases rel
 have he : es.toList = [] := List.length_eq_zero_iff.mp h5.length
 exact ⟨Nat.zero_le _, hd, [], .nil, o, es, ep, h1, h2, h3, by rw [he]; rfl, List.nodup_nil⟩
theorem dt_nil_k (x : ObjOk P w H h a (.dT [])) : ObjOk P w H h a (.dK []) := by
 obtain ⟨z, hd, xs, rel, o, es, ep, h1, h2, h3, h4, h5⟩ := x
 cases rel
 have he : es.toList = [] := by rw [h4]; rfl
 refine ⟨Nat.zero_le _, hd, [], .nil, o, es, ep, h1, h2, h3, fun e hm => ?_, ?_, List.nodup_nil⟩
 ·have : e ∈ es.toList := Array.mem_toList_iff.mpr hm
  rw [he] at this
  cases this
 ·rw [he]; exact .nil
end
section
variable {X : Cx} {pins : List (Addr × Obj)} {σ : St} {H : Hp} {s : Shared} {a : Addr} {y v : V} {u r : Value} {o : Option V} {A : Around} {E : Value → Shared → Prop}
theorem Inv.view {o' : HO} (I : Inv X pins σ H s) (mu : Mut (H a)) (he : ∃ q, s.heap.get? a = some q) (f : ObjOk X.prog X.w (upd H a o') s.heap a o') : Inv X pins σ (upd H a o') s :=
 d_write (h' := s.heap) (t' := s.toks) (ob := o') I mu ⟨rfl, fun _ _ => rfl⟩ he f
theorem dk_get {P : Program} {w : World} {H : Hp} {h : Heap} {a : Addr} {kvs : List (Key × V)} (x : ObjOk P w H h a (.dK kvs)) : ∃ q, h.get? a = some q := by
 obtain ⟨_, _, vs, _, o, _, _, h1, _⟩ := x
 exact ⟨o, h1⟩
theorem dt_get {P : Program} {w : World} {H : Hp} {h : Heap} {a : Addr} {kvs : List (List Key × V)} (x : ObjOk P w H h a (.dT kvs)) : ∃ q, h.get? a = some q := by
 obtain ⟨_, _, xs, _, o, _, _, h1, _⟩ := x
 exact ⟨o, h1⟩
theorem Inv.asT (I : Inv X pins σ H s) (e : H a = some (.dK [])) : Inv X pins σ (upd H a (.dT [])) s := by
 have ok := I.hok a _ e
 refine I.view (by rw [e]; exact True.intro) (dk_get ok) ?_
 obtain ⟨z, hd, xs, rel, r⟩ := dk_nil_t ok
 cases rel
 exact ⟨z, hd, [], .nil, r⟩
theorem Inv.asK (I : Inv X pins σ H s) (e : H a = some (.dT [])) : Inv X pins σ (upd H a (.dK [])) s := by
 have ok := I.hok a _ e
 refine I.view (by rw [e]; exact True.intro) (dt_get ok) ?_
 obtain ⟨z, hd, vs, r⟩ := dt_nil_k ok
 exact ⟨z, hd, vs, r⟩
theorem Inv.back {o : HO} (I : Inv X pins σ (upd H a o) s) (e : H a = some (.dK []) ∨ H a = some (.dT [])) (ho : o = .dK [] ∨ o = .dT []) : Inv X pins σ H s := by
 have eH : ∀ o', H a = some o' → upd (upd H a o) a o' = H := fun o' h => by
  rw [upd_upd]
  funext b
  unfold upd
  by_cases hb : b = a
  ·rw [if_pos hb, hb, h]
  ·rw [if_neg hb]
 rcases e with e | e <;> rcases ho with rfl | rfl
 ·have hu : upd H a (.dK []) = H := by rw [← upd_upd (o := .dK [])]; exact eH _ e
  rw [hu] at I; exact I
 ·have := I.asK upd_same
  rw [eH _ e] at this; exact this
 ·have := I.asT upd_same
  rw [eH _ e] at this; exact this
 ·have hu : upd H a (.dT []) = H := by rw [← upd_upd (o := .dT [])]; exact eH _ e
  rw [hu] at I; exact I
def DGetE (H : Hp) (a : Addr) (y : V) (r : Option V) : Prop := DGet H a y r ∨
 ((H a = some (.dK []) ∧ ∃ (k : List Key) (b : Addr), y = .ref b ∧ H b = some (.tup (k.map kV)) ∧ r = none) ∨ (H a = some (.dT []) ∧ ∃ k : Key, y = kV k ∧ r = none))
theorem DGetE.view (I : Inv X pins σ H s) (g : DGetE H a y o) : ∃ H', Inv X pins σ H' s ∧ DGet H' a y o ∧ ∀ s', Inv X pins σ H' s' → Inv X pins σ H s' := by
 rcases g with g | ⟨e, k, b, ey, eb, er⟩ | ⟨e, k, ey, er⟩
 ·exact ⟨H, I, g, fun _ h => h⟩
 ·subst ey er
  have hb : b ≠ a := ne_of eb e (fun z => nomatch z)
  exact ⟨_, I.asT e, .inr ⟨[], k, b, .inl upd_same, rfl, by rw [upd_ne hb]; exact eb, rfl⟩, fun s' h => h.back (.inl e) (.inr rfl)⟩
 ·subst ey er
  exact ⟨_, I.asK e, .inl ⟨[], k, .inl upd_same, rfl, rfl⟩, fun s' h => h.back (.inr e) (.inl rfl)⟩
theorem DGetE.ofSome {x : V} (g : DGetE H a y (some x)) : DGet H a y (some x) := by
 rcases g with g | ⟨_, _, _, _, _, h⟩ | ⟨_, _, _, h⟩
 ·exact g
 ·cases h
 ·cases h
theorem dE_notIn {Q : Value → Shared → Prop} (hu : A.units + 1 < cLine) (I : Inv X pins σ H s) (g : DGetE H a y o) (ry : RelV y u) (h : ∀ s', Inv X pins σ H s' → Q (.bool (!o.isSome)) s') :
  wpAny (model X.prog X.w) A (compareOp .NotIn u (.ref a)) Q E s := by
 obtain ⟨H', I', g', back⟩ := g.view I
 exact d_notIn hu I' g' ry fun s' I1 => h s' (back s' I1)
def DPutE (H : Hp) (a : Addr) (y v : V) (H' : Hp) : Prop := DPut H a y v H' ∨
 ((H a = some (.dK []) ∧ ∃ (k : List Key) (b : Addr), y = .ref b ∧ H b = some (.tup (k.map kV)) ∧ H' = upd H a (.dT [(k, v)])) ∨ (H a = some (.dT []) ∧ ∃ k : Key, y = kV k ∧ H' = upd H a (.dK [(k, v)])))
theorem dE_setItem {H' : Hp} {Q : Unit → Shared → Prop} (hu : A.units + 1 < cLine) (I : Inv X pins σ H s) (g : DPutE H a y v H') (ry : RelV y u) (rv : RelV v r) (h : ∀ s', Inv X pins σ H' s' → Q () s') :
  wpAny (model X.prog X.w) A (setItem (.ref a) u r) Q E s := by
 have hz : 0 < sizeLine := by decide
 rcases g with g | ⟨e, k, b, ey, eb, er⟩ | ⟨e, k, ey, er⟩
 ·exact d_setItem hu I g ry rv h
 ·subst ey er
  have hb : b ≠ a := ne_of eb e (fun z => nomatch z)
  refine d_setItem hu (I.asT e) (.inr ⟨[], k, b, upd_same, rfl, by rw [upd_ne hb]; exact eb, hz, rfl⟩) ry rv ?_
  rw [upd_upd]
  exact h
 ·subst ey er
  refine d_setItem hu (I.asK e) (.inl ⟨[], k, upd_same, rfl, hz, rfl⟩) ry rv ?_
  rw [upd_upd]
  exact h
end
end L2
namespace L2
open PySem PySem.Spec PyProof.Rows
section
variable {X : Cx} {pins : List (Addr × Obj)} {σ : St} {H : Hp} {s : Shared}
theorem Inv.turnedL {h' : Heap} {t' : Nat} {ch : List Addr} (I : Inv X pins σ H s) (hf : ∀ b ∈ ch, FpOk X pins H b) (k : ∀ b o, b ∉ ch → s.heap.get? b = some o → h'.get? b = some o) : Inv X pins σ H { s with heap := h', toks := t' } := by
 have nit : ∀ b u, H b = some u → b ∉ ch := fun b u e z => by rw [(hf b z).1] at e; cases e
 have nL : X.env.locals ∉ ch := fun z => (hf _ z).2.1 rfl
 refine I.step (g' := s.gens) (d' := s.drawn) (ch := ch) (fun b hb => ?_) (fun b o _ _ hc e _ => k b o hc e) (fun b o _ _ hc e _ => ⟨o.slots, k b o hc e⟩) (fun _ _ _ _ n => n)
  (fun b o hc e => ⟨o, k b o hc e⟩) (fun _ _ e => e) (fun _ _ _ e => e) (fun b ps e => ⟨#[], by rw [e]; simp⟩) (fun m hm => ?_) (fun b u e => ?_) I.bare
 ·obtain ⟨_, f1, _, f3, f4, f5⟩ := hf b hb
  exact ⟨f3, f1, f4, f5⟩
 ·obtain ⟨o, es, ep, ho, r⟩ := hm
  exact ⟨o, es, ep, k _ o nL ho, r⟩
 ·refine (I.hok b u e).stay (fun c v hc q => k c v ?_ q) (fun _ q => q) fun _ _ q => q
  rcases hc with z | z
  ·rw [z]; exact nit b u e
  ·exact nit c _ z
end
section
variable {prog : Program} {w : World} {A : Around} {E : Value → Shared → Prop} {s : Shared}
theorem draw_tuple (hh : A.handled = none) (it l : Addr) (hne : l ≠ it) (items : Array Value) :
  Draws prog w A it [it, l] items.size (fun i v => items[i]? = some v) (fun i h => h.IsTupleIter it l i ∧ h.IsTuple l items) where
 live := fun _ _ ⟨⟨o, ho, _⟩, _⟩ => ⟨o, ho⟩
 frame := fun _ _ _ ⟨⟨o, ho, r⟩, ⟨ol, hol, r'⟩⟩ hk => ⟨⟨o, hk it List.mem_cons_self o ho, r⟩, ⟨ol, hk l (List.mem_cons_of_mem _ List.mem_cons_self) ol hol, r'⟩⟩
 item := fun i s Q E hi st hQ => by
  obtain ⟨it1, ht⟩ := st
  obtain ⟨o, ho, hc, hd⟩ := id it1
  obtain ⟨ol, hol, hcl, nl, hdl⟩ := id ht
  have hx : items[i]? = some items[i] := Array.getElem?_eq_getElem hi
  unfold Builtin.SmallTypes.nextOf
  refine wpAny_bind (wpAny_callSpecial?_slot (name := Str.ofString "__next__") it1.typeIs F.slot_tuple_iterator_next (wpAny_call_entry F.slot_tuple_iterator_next it1.typeIs F.entry_tuple_iterator_next ?_ (F.args_tuple_iterator_next_1 _)))
  refine wpAny_bind (m := field (.ref it) 0) (wpAny_field ho hd (x := .ref l) rfl ?_)
  dsimp only
  rw [if_neg (show ¬ (Value.ref l == Value.none) = true from Bool.false_ne_true)]
  refine wpAny_bind (m := field (.ref it) 1) (wpAny_field ho hd (x := .int i 0) rfl (wpAny_bind (m := seqItems? (.ref l)) (wpAny_seqItems hol hdl ?_)))
  simp only [Int.toNat_natCast, hx]
  refine wpAny_bind (wpAny_setField ho hd (by simp) (wpAny_pure ⟨_, rfl, wpAny_pure ?_⟩))
  have sb := Heap.SameBut.update s.heap it (Obj.mapFields (·.setIfInBounds 1 (rawInt ((i : Int) + 1))))
  refine hQ _ _ s.toks hx ⟨⟨_, Heap.get?_update_self _ ho (Obj.isFreed_of_fields (Obj.data_mapFields hd _)), (Obj.cls_mapFields ..).trans hc, by rw [Obj.data_mapFields hd]; simp [rawInt]⟩, ?_⟩ sb
  exact ht.extBut sb.extBut hne
 done := fun s Q E st hE => by
  obtain ⟨it1, ht⟩ := st
  obtain ⟨o, ho, hc, hd⟩ := id it1
  obtain ⟨ol, hol, hcl, nl, hdl⟩ := id ht
  have hx : items[items.size]? = none := by simp
  unfold Builtin.SmallTypes.nextOf
  refine wpAny_bind (wpAny_callSpecial?_slot (name := Str.ofString "__next__") it1.typeIs F.slot_tuple_iterator_next (wpAny_call_entry F.slot_tuple_iterator_next it1.typeIs F.entry_tuple_iterator_next ?_ (F.args_tuple_iterator_next_1 _)))
  refine wpAny_bind (m := field (.ref it) 0) (wpAny_field ho hd (x := .ref l) rfl ?_)
  dsimp only
  rw [if_neg (show ¬ (Value.ref l == Value.none) = true from Bool.false_ne_true)]
  refine wpAny_bind (m := field (.ref it) 1) (wpAny_field ho hd (x := .int items.size 0) rfl (wpAny_bind (m := seqItems? (.ref l)) (wpAny_seqItems hol hdl ?_)))
  simp only [Int.toNat_natCast, hx]
  refine wpAny_bind (wpAny_rule (wpAny_bind (wpAny_setField ho hd (by simp) (wpAny_bind (m := newExc (.type "StopIteration") []) ?_))))
  unfold newExc newTuple
  refine wpAny_bind (wpAny_newObj_type (wpAny_bind (m := firstArgMember _ _) (wpAny_of_eq (a := Value.none) (by first | rfl | (simp only [firstArgMember]; rfl)) (wpAny_newObj_type ?_ (by size_fits)))) (by size_fits))
  unfold raiseNew
  refine wpAny_bind (wpAny_handled ?_)
  first | rw [show A.in1.handled = none from hh] | rw [hh]
  exact wpAny_bind (wpAny_pure (wpAny_throw (hE _ _ (((Heap.SameBut.update ..).extBut.push _).push _) ⟨_, Heap.get?_push_size _ rfl, rfl⟩)))
structure ZAp (z TI TO i1 i2 : Addr) (fp1 fp2 : List Addr) : Prop where
 a1 : TI ≠ z
 a2 : TO ≠ z
 a3 : i1 ≠ z
 a4 : i2 ≠ z
 a5 : TI ≠ TO
 a6 : TI ≠ i1
 a7 : TI ≠ i2
 a8 : TO ≠ i1
 a9 : TO ≠ i2
 b1 : i1 ≠ i2
 b2 : z ∉ fp1
 b3 : z ∉ fp2
 b4 : TO ∉ fp1
 b5 : TO ∉ fp2
 b6 : i1 ∉ fp2
 b7 : i2 ∉ fp1
theorem notIn_ne {b : Addr} {fp : List Addr} (h : b ∉ fp) : ∀ c ∈ fp, c ≠ b := fun c hc z => h (z ▸ hc)
theorem dpast {it : Addr} {fp : List Addr} {n i : Nat} {P : Nat → Value → Prop} {St : Nat → Heap → Prop} {b : Addr} {h h' : Heap} (D : Draws prog w A it fp n P St) (st : St i h) (sb : Heap.SameBut b h h') (hb : b ∉ fp) : St i h' :=
 D.frame i h h' st fun c hc o e => sb.extBut c o (notIn_ne hb c hc) e
section
variable {z TI TO i1 i2 : Addr} {fp1 fp2 : List Addr} {n1 n2 k : Nat} {P1 P2 : Nat → Value → Prop} {St1 St2 : Nat → Heap → Prop} {a b : Value}
theorem zipD_item {Q : Value → Shared → Prop} (D1 : Draws prog w A i1 fp1 n1 P1 St1) (D2 : Draws prog w A i2 fp2 n2 P2 St2) (Z : ZAp z TI TO i1 i2 fp1 fp2) (hz : IsZip s.heap z TI TO .none) (hTI : IsPair s.heap TI (.ref i1) (.ref i2)) (hTO : IsPair s.heap TO a b)
  (st1 : St1 k s.heap) (st2 : St2 k s.heap) (k1 : k < n1) (k2 : k < n2)
  (hQ : ∀ x y h' tk, P1 k x → P2 k y → IsZip h' z TI TO (rawInt s.heap.objs.size) → IsPair h' TO x y → St1 (k + 1) h' → St2 (k + 1) h' → IsPair h' s.heap.objs.size x y → h'.objs.size = s.heap.objs.size + 1 →
   (∀ c o, c ∉ [z, TO, i1, i2] → s.heap.get? c = some o → h'.get? c = some o) → Q (.ref s.heap.objs.size) { s with heap := h', toks := tk }) :
  wpAny (model prog w) A (Builtin.«zip.__next__» ⟨[.ref z], []⟩) (fun fin s' => ∃ v, fin = .done (.ret v) ∧ Q v s') E s := by
 refine wpAny_bind (m := field (.ref z) 2) (wpAny_field hz rfl (x := .bool false) rfl (wpAny_bind (m := field (.ref z) 3) (wpAny_field hz rfl (x := .ref TI) rfl (wpAny_bind (wpAny_seqItems hTI rfl ?_)))))
 refine wpAny_bind (m := Builtin.SmallTypes.ownedTupleIsFree (.ref z)) ?_
 unfold Builtin.SmallTypes.ownedTupleIsFree
 refine wpAny_bind (wpAny_field hz rfl (x := .none) rfl (wpAny_pure ?_))
 simp only [if_true]
 refine wpAny_bind (wpAny_rule (wpAny_bind (wpAny_field hz rfl (x := .ref TO) rfl (wpAny_bind (wpAny_setField_rec hz (by simp) fun g1 hz1 sb1 => wpAny_bind ?_)))))
 have hz1' : IsZip g1 z TI TO .ellipsis := hz1
 simp only [List.zipIdx_cons, List.zipIdx_nil, List.forIn_cons, List.forIn_nil]
 refine wpAny_bind (wpAny_bind (wpAny_onRaise (wpAny_bind (m := Builtin.SmallTypes.nextOf (.ref i1)) ?_)))
 refine D1.item k _ _ _ k1 (dpast D1 st1 sb1 Z.b2) fun x g2 t2 hx st1' sb2 => wpAny_pure ?_
 have to2 : IsPair g2 TO a b := sb2.extBut _ _ Z.a8 (sb1.extBut _ _ Z.a2 hTO)
 refine wpAny_bind (wpAny_seqItems to2 rfl (wpAny_bind (wpAny_updateSeq_pair to2 fun g3 to3 sb3 => wpAny_bind (wpAny_letGo (wpAny_pure ?_)))))
 have to3' : IsPair g3 TO x b := to3
 refine wpAny_bind (wpAny_bind (wpAny_onRaise (wpAny_bind (m := Builtin.SmallTypes.nextOf (.ref i2)) ?_)))
 refine D2.item k _ _ _ k2 (dpast D2 (dpast D2 (dpast D2 st2 sb1 Z.b3) sb2 Z.b6) sb3 Z.b5) fun y g4 t4 hy st2' sb4 => wpAny_pure ?_
 have to4 : IsPair g4 TO x b := sb4.extBut _ _ Z.a9 to3'
 refine wpAny_bind (wpAny_seqItems to4 rfl (wpAny_bind (wpAny_updateSeq_pair to4 fun g5 to5 sb5 => wpAny_bind (wpAny_letGo (wpAny_pure (wpAny_pure ?_))))))
 have to5' : IsPair g5 TO x y := to5
 refine wpAny_bind (wpAny_seqItems to5' rfl (wpAny_bind (wpAny_newTuple ?_)))
 have size5 : g5.objs.size = s.heap.objs.size := by rw [sb5.1, sb4.1, sb3.1, sb2.1, sb1.1]
 have z5 : IsZip g5 z TI TO .ellipsis := sb5.extBut _ _ Z.a2.symm (sb4.extBut _ _ Z.a4.symm (sb3.extBut _ _ Z.a2.symm (sb2.extBut _ _ Z.a3.symm hz1')))
 have kept5 : ∀ c o, c ∉ [z, TO, i1, i2] → s.heap.get? c = some o → g5.get? c = some o := fun c o hc e => by
  simp only [List.mem_cons, List.not_mem_nil, or_false, not_or] at hc
  exact sb5.extBut _ _ hc.2.1 (sb4.extBut _ _ hc.2.2.2 (sb3.extBut _ _ hc.2.1 (sb2.extBut _ _ hc.2.2.1 (sb1.extBut _ _ hc.1 e))))
 have s15 : St1 (k + 1) g5 := dpast D1 (dpast D1 (dpast D1 st1' sb3 Z.b4) sb4 Z.b7) sb5 Z.b4
 have s25 : St2 (k + 1) g5 := dpast D2 st2' sb5 Z.b5
 have ltz : z < g5.objs.size := Heap.lt_size z5
 refine wpAny_bind (m := Builtin.SmallTypes.ownedTupleHandOut (.ref z) (.ref g5.objs.size)) ?_
 unfold Builtin.SmallTypes.ownedTupleHandOut
 have z6 : IsZip (g5.push { cls := .type "tuple", data := .seq #[x, y] }) z TI TO .ellipsis := Heap.get?_push_of_some _ z5
 refine wpAny_bind (wpAny_setField_rec z6 (by simp) fun g7 z7 sb7 => ?_)
 have z7' : IsZip g7 z TI TO (rawInt g5.objs.size) := z7
 refine wpAny_setField_rec z7' (by simp) fun g8 z8 sb8 => ?_
 have z8' : IsZip g8 z TI TO (rawInt g5.objs.size) := z8
 have up8 : ∀ c o, c ≠ z → g5.get? c = some o → g8.get? c = some o := fun c o hc e => sb8.extBut _ _ hc (sb7.extBut _ _ hc (Heap.get?_push_of_some _ e))
 have new8 : IsPair g8 g5.objs.size x y := sb8.extBut _ _ (Nat.ne_of_gt ltz) (sb7.extBut _ _ (Nat.ne_of_gt ltz) (Heap.get?_push_size _ rfl))
 have size8 : g8.objs.size = g5.objs.size + 1 := by rw [sb8.1, sb7.1, Heap.size_push]
 rw [size5] at z8' new8 size8
 refine wpAny_pure ⟨_, rfl, ?_⟩
 show Q (.ref g5.objs.size) _
 rw [size5]
 exact hQ x y g8 _ hx hy z8' (up8 _ _ Z.a2 to5') (D1.frame _ _ _ s15 fun c hc o e => up8 c o (notIn_ne Z.b2 c hc) e) (D2.frame _ _ _ s25 fun c hc o e => up8 c o (notIn_ne Z.b3 c hc) e) new8 size8
  fun c o hc e => up8 c o (fun q => hc (by simp [q])) (kept5 c o hc e)
theorem zipD_end {Q : PySem.Fin → Shared → Prop} (D1 : Draws prog w A i1 fp1 n1 P1 St1) (D2 : Draws prog w A i2 fp2 n2 P2 St2) (Z : ZAp z TI TO i1 i2 fp1 fp2) (hz : IsZip s.heap z TI TO .none) (hTI : IsPair s.heap TI (.ref i1) (.ref i2)) (hTO : IsPair s.heap TO a b)
  (st1 : St1 k s.heap) (st2 : St2 k s.heap) (hk : k = n1 ∨ (k < n1 ∧ k = n2))
  (hE : ∀ h' e tk, (∀ c o, c ∉ [z, TO, i1, i2] → s.heap.get? c = some o → h'.get? c = some o) → (∃ o, h'.get? e = some o ∧ o.cls = .type "StopIteration") → E (.ref e) { s with heap := h', toks := tk }) :
  wpAny (model prog w) A (Builtin.«zip.__next__» ⟨[.ref z], []⟩) Q E s := by
 refine wpAny_bind (m := field (.ref z) 2) (wpAny_field hz rfl (x := .bool false) rfl (wpAny_bind (m := field (.ref z) 3) (wpAny_field hz rfl (x := .ref TI) rfl (wpAny_bind (wpAny_seqItems hTI rfl ?_)))))
 refine wpAny_bind (m := Builtin.SmallTypes.ownedTupleIsFree (.ref z)) ?_
 unfold Builtin.SmallTypes.ownedTupleIsFree
 refine wpAny_bind (wpAny_field hz rfl (x := .none) rfl (wpAny_pure ?_))
 simp only [if_true]
 refine wpAny_bind (wpAny_rule (wpAny_bind (wpAny_field hz rfl (x := .ref TO) rfl (wpAny_bind (wpAny_setField_rec hz (by simp) fun g1 hz1 sb1 => wpAny_bind ?_)))))
 have hz1' : IsZip g1 z TI TO .ellipsis := hz1
 simp only [List.zipIdx_cons, List.zipIdx_nil, List.forIn_cons, List.forIn_nil]
 refine wpAny_bind (wpAny_bind (wpAny_onRaise (wpAny_bind (m := Builtin.SmallTypes.nextOf (.ref i1)) ?_)))
 have fin : ∀ {g : Heap} {e : Addr} {tk : Nat}, IsZip g z TI TO .ellipsis → (∀ c o, c ∉ [z, TO, i1, i2] → s.heap.get? c = some o → g.get? c = some o) → (∃ o, g.get? e = some o ∧ o.cls = .type "StopIteration") →
   ∀ (h' : Heap), Heap.SameBut z g h' → E (.ref e) { s with heap := h', toks := tk } := by
  intro g e tk gz gk ⟨oe, he, ce⟩ h' sb
  have ez : e ≠ z := fun q => by subst q; rw [gz] at he; cases he; simp at ce
  exact hE h' e tk (fun c o hc q => sb.extBut _ _ (fun r => hc (by simp [r])) (gk c o hc q)) ⟨oe, sb.extBut _ _ ez he, ce⟩
 rcases hk with rfl | ⟨k1, rfl⟩
 ·refine D1.done _ _ _ (dpast D1 st1 sb1 Z.b2) fun g2 e sb2 he => ?_
  have z2 : IsZip g2 z TI TO .ellipsis := sb2 _ _ Z.a3.symm hz1'
  refine wpAny_setField_rec z2 (by simp) fun g3 _ sb3 => fin z2 (fun c o hc q => ?_) he g3 sb3
  simp only [List.mem_cons, List.not_mem_nil, or_false, not_or] at hc
  exact sb2 _ _ hc.2.2.1 (sb1.extBut _ _ hc.1 q)
 ·refine D1.item k _ _ _ k1 (dpast D1 st1 sb1 Z.b2) fun x g2 t2 hx st1' sb2 => wpAny_pure ?_
  have to2 : IsPair g2 TO a b := sb2.extBut _ _ Z.a8 (sb1.extBut _ _ Z.a2 hTO)
  refine wpAny_bind (wpAny_seqItems to2 rfl (wpAny_bind (wpAny_updateSeq_pair to2 fun g3 to3 sb3 => wpAny_bind (wpAny_letGo (wpAny_pure ?_)))))
  refine wpAny_bind (wpAny_bind (wpAny_onRaise (wpAny_bind (m := Builtin.SmallTypes.nextOf (.ref i2)) ?_)))
  refine D2.done _ _ _ (dpast D2 (dpast D2 (dpast D2 st2 sb1 Z.b3) sb2 Z.b6) sb3 Z.b5) fun g4 e sb4 he => ?_
  have z4 : IsZip g4 z TI TO .ellipsis := sb4 _ _ Z.a4.symm (sb3.extBut _ _ Z.a2.symm (sb2.extBut _ _ Z.a3.symm hz1'))
  refine wpAny_setField_rec z4 (by simp) fun g5 _ sb5 => fin z4 (fun c o hc q => ?_) he g5 sb5
  simp only [List.mem_cons, List.not_mem_nil, or_false, not_or] at hc
  exact sb4 _ _ hc.2.2.2 (sb3.extBut _ _ hc.2.1 (sb2.extBut _ _ hc.2.2.1 (sb1.extBut _ _ hc.1 q)))
theorem nextZ_item {Q : Option Value → Shared → Prop} (D1 : Draws prog w A.in1 i1 fp1 n1 P1 St1) (D2 : Draws prog w A.in1 i2 fp2 n2 P2 St2) (Z : ZAp z TI TO i1 i2 fp1 fp2) (hz : IsZip s.heap z TI TO .none) (hTI : IsPair s.heap TI (.ref i1) (.ref i2)) (hTO : IsPair s.heap TO a b)
  (st1 : St1 k s.heap) (st2 : St2 k s.heap) (k1 : k < n1) (k2 : k < n2)
  (hQ : ∀ x y h' tk, P1 k x → P2 k y → IsZip h' z TI TO (rawInt s.heap.objs.size) → IsPair h' TO x y → St1 (k + 1) h' → St2 (k + 1) h' → IsPair h' s.heap.objs.size x y → h'.objs.size = s.heap.objs.size + 1 →
   (∀ c o, c ∉ [z, TO, i1, i2] → s.heap.get? c = some o → h'.get? c = some o) → Q (some (.ref s.heap.objs.size)) { s with heap := h', toks := tk }) :
  wpAny (model prog w) A (pyNext (.ref z)) Q E s := by
 have hT : s.TypeIs (.ref z) "zip" := ⟨_, hz, rfl⟩
 unfold pyNext
 refine wpAny_bind (wpAny_attempt (wpAny_callSpecial?_slot (name := Str.ofString "__next__") hT F.slot_zip_next (wpAny_call_entry F.slot_zip_next hT F.entry_zip_next ?_ (F.args_zip_next_1 _))))
 exact zipD_item D1 D2 Z hz hTI hTO st1 st2 k1 k2 fun x y h' tk c1 c2 c3 c4 c5 c6 c7 c8 c9 => wpAny_pure (hQ x y h' tk c1 c2 c3 c4 c5 c6 c7 c8 c9)
theorem nextZ_end {Q : Option Value → Shared → Prop} (D1 : Draws prog w A.in1 i1 fp1 n1 P1 St1) (D2 : Draws prog w A.in1 i2 fp2 n2 P2 St2) (Z : ZAp z TI TO i1 i2 fp1 fp2) (hz : IsZip s.heap z TI TO .none) (hTI : IsPair s.heap TI (.ref i1) (.ref i2)) (hTO : IsPair s.heap TO a b)
  (st1 : St1 k s.heap) (st2 : St2 k s.heap) (hk : k = n1 ∨ (k < n1 ∧ k = n2)) (hQ : ∀ h' tk, (∀ c o, c ∉ [z, TO, i1, i2] → s.heap.get? c = some o → h'.get? c = some o) → Q none { s with heap := h', toks := tk }) :
  wpAny (model prog w) A (pyNext (.ref z)) Q E s := by
 have hT : s.TypeIs (.ref z) "zip" := ⟨_, hz, rfl⟩
 unfold pyNext
 refine wpAny_bind (wpAny_attempt (wpAny_callSpecial?_slot (name := Str.ofString "__next__") hT F.slot_zip_next (wpAny_call_entry F.slot_zip_next hT F.entry_zip_next ?_ (F.args_zip_next_1 _))))
 refine zipD_end D1 D2 Z hz hTI hTO st1 st2 hk fun h' e tk kp ⟨o, ho, hc⟩ => ?_
 exact wpAny_bind (wpAny_isInstance (T := "StopIteration") (b := true) ⟨o, ho, hc⟩ isSubtype_stop (wpAny_pure (hQ h' tk kp)))
end
def seqCls : Bool → String
 | true => "list_iterator"
 | false => "tuple_iterator"
def SeqI (sk : Bool) (h : Heap) (it l : Addr) (k : Nat) : Prop := match sk with | true => h.IsListIter it l k | false => h.IsTupleIter it l k
def SeqO (sk : Bool) (h : Heap) (l : Addr) (items : Array Value) : Prop := match sk with | true => h.IsList l items | false => h.IsTuple l items
theorem draw_seq (sk : Bool) (hh : A.handled = none) (it l : Addr) (hne : l ≠ it) (items : Array Value) : Draws prog w A it [it, l] items.size (fun i v => items[i]? = some v) (fun i h => SeqI sk h it l i ∧ SeqO sk h l items) := by
 cases sk
 ·exact draw_tuple hh it l hne items
 ·exact PySem.Draws.list hh it l hne items
theorem iter_seq (sk : Bool) {l : Addr} {items : Array Value} {Q : Value → Shared → Prop} (hl : SeqO sk s.heap l items) (hQ : Q (.ref s.heap.objs.size) { s with heap := s.heap.push { cls := .type (seqCls sk), data := .fields #[.ref l, .int 0 0] } }) :
  wpAny (model prog w) A (pyIter (.ref l)) Q E s := by
 cases sk
 ·exact wpAny_pyIter_tuple hl hQ
 ·exact wpAny_pyIter_list hl hQ
theorem SeqO.push {sk : Bool} {h : Heap} {l : Addr} {items : Array Value} (x : SeqO sk h l items) (o : Obj) : SeqO sk (h.push o) l items := by
 cases sk
 ·obtain ⟨q, e, r⟩ := x
  exact ⟨q, Heap.get?_push_of_some _ e, r⟩
 ·exact Heap.IsList.push x _
theorem SeqI.new {sk : Bool} {h : Heap} {it l : Addr} (e : h.get? it = some { cls := .type (seqCls sk), data := .fields #[.ref l, .int 0 0] }) : SeqI sk h it l 0 := by
 cases sk
 ·exact ⟨_, e, rfl, rfl⟩
 ·exact ⟨_, e, rfl, rfl⟩
def zh (h : Heap) (c1 c2 : Bool) (l1 l2 : Addr) : Heap :=
 ((((h.push { cls := .type (seqCls c1), data := .fields #[.ref l1, .int 0 0] }).push { cls := .type (seqCls c2), data := .fields #[.ref l2, .int 0 0] }).push { cls := .type "tuple", data := .seq #[.ref h.objs.size, .ref (h.objs.size + 1)] }).push
  { cls := .type "tuple", data := .seq #[.none, .none] }).push { cls := .type "zip", data := .fields #[.none, .bool false, .bool false, .ref (h.objs.size + 2), .ref (h.objs.size + 3)] }
theorem zh_new (c1 c2 : Bool) (l1 l2 : Addr) (xs ys : Array Value) :
  Meets (Builtin.«zip.__new__» ⟨[.type "zip", .ref l1, .ref l2], []⟩) (fun _ R s => SeqO c1 s.heap l1 xs ∧ SeqO c2 s.heap l2 ys ∧ R (.ok (.ret (.ref (s.heap.objs.size + 4)))) { s with heap := zh s.heap c1 c2 l1 l2 }) :=
 .of_wp fun prog w A R s h => by
  obtain ⟨hp, g, d, tk, os⟩ := s
  obtain ⟨q1, q2, h⟩ := h
  have hsub := PySem.sub_zip
  have q1' : SeqO c1 (Shared.heap ⟨hp, g, d, tk, os⟩) l1 xs := q1
  have q2' : SeqO c2 (Shared.heap ⟨hp.push { cls := .type (seqCls c1), data := .fields #[.ref l1, .int 0 0] }, g, d, tk, os⟩) l2 ys := SeqO.push q2 _
  wp_walk using iter_seq c1 q1', iter_seq c2 q2'
  refine ⟨_, rfl, ?_⟩
  simp only [Heap.size_push] at h ⊢
  unfold zh at h
  exact h
end
end L2
namespace L2
open PySem PySem.Spec PyProof.Rows
theorem push_at {h : Heap} {o : Obj} {n : Nat} (e : h.objs.size = n) (f : o.isFreed = false) : (h.push o).get? n = some o := by rw [← e]; exact Heap.get?_push_size _ f
theorem zh_at (h : Heap) (c1 c2 : Bool) (l1 l2 : Addr) : IsZip (zh h c1 c2 l1 l2) (h.objs.size + 4) (h.objs.size + 2) (h.objs.size + 3) .none ∧ IsPair (zh h c1 c2 l1 l2) (h.objs.size + 2) (.ref h.objs.size) (.ref (h.objs.size + 1)) ∧
  IsPair (zh h c1 c2 l1 l2) (h.objs.size + 3) .none .none ∧ (zh h c1 c2 l1 l2).get? h.objs.size = some { cls := .type (seqCls c1), data := .fields #[.ref l1, .int 0 0] } ∧ (zh h c1 c2 l1 l2).get? (h.objs.size + 1) = some { cls := .type (seqCls c2), data := .fields #[.ref l2, .int 0 0] } ∧
  ∀ b o, h.get? b = some o → (zh h c1 c2 l1 l2).get? b = some o := by
 unfold zh
 have up : ∀ {h : Heap} {o p : Obj} {b : Addr}, h.get? b = some o → (h.push p).get? b = some o := fun e => Heap.get?_push_of_some _ e
 exact ⟨push_at (by simp [Heap.size_push]) rfl, up (up (push_at (by simp [Heap.size_push]) rfl)), up (push_at (by simp [Heap.size_push]) rfl), up (up (up (up (push_at rfl rfl)))), up (up (up (push_at (by simp [Heap.size_push]) rfl))), fun b o e => up (up (up (up (up e))))⟩
section
variable {prog : Program} {w : World} {A : Around} {E : Value → Shared → Prop} {s : Shared}
theorem call_zipS {c1 c2 : Bool} {l1 l2 : Addr} {xs ys : Array Value} {Q : Value → Shared → Prop} (h1 : SeqO c1 s.heap l1 xs) (h2 : SeqO c2 s.heap l2 ys)
  (h : Q (.ref (s.heap.objs.size + 4)) { s with heap := zh s.heap c1 c2 l1 l2 }) : wpAny (model prog w) A (call (.type "zip") [.ref l1, .ref l2]) Q E s := by
 refine callType_new F.called_zip (by decide) (F.typeCall_zip_2 _ _) (F.newCall_zip_2 _ _) (fun obj => F.args_object_init_3 obj _ _) F.entry_zip_new (zh_new c1 c2 l1 l2 xs ys) ⟨h1, h2, ?_⟩
 exact ⟨⟨_, (zh_at s.heap c1 c2 l1 l2).1, rfl⟩, h⟩
end
def TrS (c : Bool) (H : Hp) (l : Addr) (xs : List V) : Prop := match c with | true => H l = some (.lst xs) | false => H l = some (.tup xs)
theorem TrS.one {c : Bool} {H : Hp} {l : Addr} {xs ys : List V} (h : TrS c H l xs) (h' : TrS c H l ys) : xs = ys := by
 cases c
 ·have h1 : H l = some (.tup xs) := h
  have h2 : H l = some (.tup ys) := h'
  rw [h1] at h2; cases h2; rfl
 ·have h1 : H l = some (.lst xs) := h
  have h2 : H l = some (.lst ys) := h'
  rw [h1] at h2; cases h2; rfl
theorem TrS.ne {c : Bool} {H : Hp} {l b : Addr} {xs : List V} (h : TrS c H l xs) (hb : H b = none) : l ≠ b := by
 cases c
 ·exact ne_of_none (show H l = some (.tup xs) from h) hb
 ·exact ne_of_none (show H l = some (.lst xs) from h) hb
theorem TrS.so {X : Cx} {pins : List (Addr × Obj)} {σ : St} {H : Hp} {s : Shared} {c : Bool} {l : Addr} {xs : List V} (I : Inv X pins σ H s) (h : TrS c H l xs) : ∃ its : List Value, Vals xs its ∧ SeqO c s.heap l its.toArray ∧ xs.length ≤ sizeLine := by
 cases c
 ·exact I.tuple (.of h)
 ·obtain ⟨its, r, pl, z⟩ := I.list (.of h)
  exact ⟨its, r, pl.isList, z⟩
def Itz (c1 : Bool) (l1 : Addr) (c2 : Bool) (l2 : Addr) : It :=
 ⟨fun i H => ∃ xs ys x y, TrS c1 H l1 xs ∧ TrS c2 H l2 ys ∧ xs[i]? = some x ∧ ys[i]? = some y,
 fun i H v H' => ∃ p x y, v = .ref p ∧ H p = none ∧ H' = upd H p (.tup [x, y]) ∧ (∀ xs, TrS c1 H l1 xs → xs[i]? = some x) ∧ (∀ ys, TrS c2 H l2 ys → ys[i]? = some y),
 fun i H => ∃ xs ys, TrS c1 H l1 xs ∧ TrS c2 H l2 ys ∧ (i = xs.length ∨ (i < xs.length ∧ i = ys.length))⟩
structure ZD (z TI TO i1 i2 : Addr) : Prop where
 a1 : TI ≠ z
 a2 : TO ≠ z
 a3 : i1 ≠ z
 a4 : i2 ≠ z
 a5 : TI ≠ TO
 a6 : TI ≠ i1
 a7 : TI ≠ i2
 a8 : TO ≠ i1
 a9 : TO ≠ i2
 b1 : i1 ≠ i2
theorem ZD.ap {z TI TO i1 i2 l1 l2 : Addr} (d : ZD z TI TO i1 i2) (h1 : ∀ b ∈ [z, TI, TO, i1, i2], l1 ≠ b) (h2 : ∀ b ∈ [z, TI, TO, i1, i2], l2 ≠ b) : ZAp z TI TO i1 i2 [i1, l1] [i2, l2] := by
 simp only [List.mem_cons, List.not_mem_nil, or_false, forall_eq_or_imp, forall_eq] at h1 h2
 obtain ⟨p1, p2, p3, p4, p5⟩ := h1
 obtain ⟨q1, q2, q3, q4, q5⟩ := h2
 have no : ∀ {a b c : Addr}, a ≠ b → a ≠ c → a ∉ [b, c] := fun x y z => by
  simp only [List.mem_cons, List.not_mem_nil, or_false] at z
  rcases z with z | z
  ·exact x z
  ·exact y z
 exact ⟨d.a1, d.a2, d.a3, d.a4, d.a5, d.a6, d.a7, d.a8, d.a9, d.b1, no d.a3.symm p1.symm, no d.a4.symm q1.symm, no d.a8 p3.symm, no d.a9 q3.symm, no d.b1 q4.symm, no d.b1.symm p5.symm⟩
theorem pairOk {P : Program} {w : World} {H : Hp} {h : Heap} {p : Addr} {x y : V} {u v : Value} (e : IsPair h p u v) (rx : RelV x u) (ry : RelV y v) : ObjOk P w H h p (.tup [x, y]) :=
 ⟨by show 2 ≤ sizeLine; decide, [u, v], .cons rx (.cons ry .nil), ⟨⟨_, e, rfl, _, rfl⟩, _, e, rfl⟩⟩
theorem turn_zip {P : Program} {w : World} {K : PySem.W.Frag} {elts : List Expr} {kt : Nat} {pt : Pos} {c1 c2 : Bool} {l1 l2 z TI TO i1 i2 : Addr} (d : ZD z TI TO i1 i2) :
  Turn P w K (.Tuple elts kt pt) (Itz c1 l1 c2 l2) [z, TI, TO, i1, i2] z (fun i h => IsZip h z TI TO .none ∧ IsPair h TI (.ref i1) (.ref i2) ∧ (∃ a b, IsPair h TO a b) ∧ SeqI c1 h i1 l1 i ∧ SeqI c2 h i2 l2 i) where
 mem := by simp
 obj := fun i h st b hb => by
  obtain ⟨hz, hTI, ⟨a, b', hTO⟩, s1, s2⟩ := st
  have seq : ∀ {c : Bool} {it l : Addr} {k : Nat}, SeqI c h it l k → ∃ o, h.get? it = some o ∧ ∀ v, o.data ≠ .cell v := fun {c it l k} q => by
   cases c
   ·obtain ⟨o, e, _, q⟩ := q
    exact ⟨o, e, fun v z => by rw [q] at z; cases z⟩
   ·obtain ⟨o, e, _, q⟩ := q
    exact ⟨o, e, fun v z => by rw [q] at z; cases z⟩
  simp only [List.mem_cons, List.not_mem_nil, or_false] at hb
  rcases hb with rfl | rfl | rfl | rfl | rfl
  ·exact ⟨_, hz, fun v q => nomatch q⟩
  ·exact ⟨_, hTI, fun v q => nomatch q⟩
  ·exact ⟨_, hTO, fun v q => nomatch q⟩
  ·exact seq s1
  ·exact seq s2
 keep := fun i h h' st k => by
  obtain ⟨hz, hTI, ⟨a, b', hTO⟩, s1, s2⟩ := st
  have seq : ∀ {c : Bool} {it l : Addr} {k : Nat}, (∀ o, h.get? it = some o → h'.get? it = some o) → SeqI c h it l k → SeqI c h' it l k := fun {c it l k} kp q => by
   cases c
   ·obtain ⟨o, e, q⟩ := q
    exact ⟨o, kp o e, q⟩
   ·obtain ⟨o, e, q⟩ := q
    exact ⟨o, kp o e, q⟩
  exact ⟨k z (by simp) _ hz, k TI (by simp) _ hTI, ⟨a, b', k TO (by simp) _ hTO⟩, seq (k i1 (by simp)) s1, seq (k i2 (by simp)) s2⟩
 item := by
  intro X hP hw hK hc i pins s σ H E I hf st hg
  subst hP hw hK
  obtain ⟨xs, ys, x, y, t1, t2, hx, hy⟩ := hg
  obtain ⟨hz, hTI, ⟨a, b', hTO⟩, s1, s2⟩ := st
  obtain ⟨its1, r1, o1, _⟩ := t1.so I
  obtain ⟨its2, r2, o2, _⟩ := t2.so I
  have n1 : ∀ b ∈ [z, TI, TO, i1, i2], l1 ≠ b := fun b hb => t1.ne (hf b hb).1
  have n2 : ∀ b ∈ [z, TI, TO, i1, i2], l2 ≠ b := fun b hb => t2.ne (hf b hb).1
  have hh : X.A.in1.handled = none := I.ok.hd hc
  have D1 := draw_seq (prog := X.prog) (w := X.w) c1 hh i1 l1 (n1 i1 (by simp)) its1.toArray
  have D2 := draw_seq (prog := X.prog) (w := X.w) c2 hh i2 l2 (n2 i2 (by simp)) its2.toArray
  have lx : i < its1.toArray.size := by rw [List.size_toArray, ← r1.length]; exact (List.getElem?_eq_some_iff.mp hx).1
  have ly : i < its2.toArray.size := by rw [List.size_toArray, ← r2.length]; exact (List.getElem?_eq_some_iff.mp hy).1
  refine nextZ_item D1 D2 (d.ap n1 n2) hz hTI hTO ⟨s1, o1⟩ ⟨s2, o2⟩ lx ly fun u v h' tk p1 p2 z' to' st1 st2 new size kept => ?_
  obtain ⟨u', eu, ru⟩ := r1.get hx
  obtain ⟨v', ev, rv⟩ := r2.get hy
  have hu : u = u' := by
   have : its1.toArray[i]? = some u := p1
   rw [List.getElem?_toArray, eu] at this
   exact (Option.some.inj this).symm
  have hv : v = v' := by
   have : its2.toArray[i]? = some v := p2
   rw [List.getElem?_toArray, ev] at this
   exact (Option.some.inj this).symm
  subst hu hv
  refine ⟨_, rfl, wpAny_letOwnedTupleGo_zip (s := { s with heap := h', toks := tk }) z' fun h'' z'' sb => ?_⟩
  have kp : ∀ b o, b ∉ [z, TI, TO, i1, i2] → s.heap.get? b = some o → h''.get? b = some o := fun b o hb e => by
   simp only [List.mem_cons, List.not_mem_nil, or_false, not_or] at hb
   exact sb.extBut b o hb.1 (kept b o (by simp only [List.mem_cons, List.not_mem_nil, or_false, not_or]; exact ⟨hb.1, hb.2.2.1, hb.2.2.2.1, hb.2.2.2.2⟩) e)
  have hn : H s.heap.objs.size = none := I.hok.fresh (Nat.le_refl _)
  have zlt : z < s.heap.objs.size := Heap.lt_size hz
  have lt : ∀ b ∈ [z, TI, TO, i1, i2], b < s.heap.objs.size := fun b hb => by
   have seq : ∀ {c : Bool} {it l : Addr} {k : Nat}, SeqI c s.heap it l k → it < s.heap.objs.size := fun {c it l k} q => by
    cases c
    ·obtain ⟨o, e, _⟩ := q; exact Heap.lt_size e
    ·obtain ⟨o, e, _⟩ := q; exact Heap.lt_size e
   simp only [List.mem_cons, List.not_mem_nil, or_false] at hb
   rcases hb with rfl | rfl | rfl | rfl | rfl
   ·exact zlt
   ·exact Heap.lt_size hTI
   ·exact Heap.lt_size hTO
   ·exact seq s1
   ·exact seq s2
  have new' : IsPair h'' s.heap.objs.size u v := sb.extBut _ _ (Nat.ne_of_gt zlt) new
  have keepTI : IsPair h'' TI (.ref i1) (.ref i2) := sb.extBut _ _ d.a1 (kept TI _ (by simp only [List.mem_cons, List.not_mem_nil, or_false, not_or]; exact ⟨d.a1, d.a5, d.a6, d.a7⟩) hTI)
  have seq : ∀ {c : Bool} {it l : Addr} {k : Nat}, it ≠ z → SeqI c h' it l k → SeqI c h'' it l k := fun {c it l k} ne q => by
   cases c
   ·obtain ⟨o, e, q⟩ := q
    exact ⟨o, sb.extBut _ _ ne e, q⟩
   ·obtain ⟨o, e, q⟩ := q
    exact ⟨o, sb.extBut _ _ ne e, q⟩
  refine ⟨.ref s.heap.objs.size, upd H s.heap.objs.size (.tup [x, y]), ?_, rfl, ⟨_, x, y, rfl, hn, rfl, fun ws h => ?_, fun ws h => ?_⟩, ⟨z'', keepTI, ⟨_, _, sb.extBut _ _ d.a2 to'⟩, seq d.a3 st1.1, seq d.a4 st2.1⟩, fun b hb => ?_⟩
  ·have I1 : Inv X pins σ (upd H s.heap.objs.size (.tup [x, y])) { s with heap := s.heap.push { cls := .type "tuple", data := .seq #[u, v] } } :=
    I.laid (t' := s.toks) (fun b o e => Heap.get?_push_of_some _ e) (Nat.le_refl _) (pairOk (Heap.get?_push_size _ rfl) ru rv)
   have fin : (∀ b ∈ [z, TI, TO, i1, i2], FpOk X pins (upd H s.heap.objs.size (.tup [x, y])) b) → (∀ b o, b ∉ [z, TI, TO, i1, i2] → (s.heap.push { cls := .type "tuple", data := .seq #[u, v] }).get? b = some o → h''.get? b = some o) →
     Inv X pins σ (upd H s.heap.objs.size (.tup [x, y])) { s with heap := h'', toks := tk } := fun a1 a2 => Inv.turnedL (s := { s with heap := s.heap.push { cls := .type "tuple", data := .seq #[u, v] } }) (h' := h'') (t' := tk) (ch := [z, TI, TO, i1, i2]) I1 a1 a2
   refine fin (fun b hb => ?_) fun b o hb e => ?_
   ·obtain ⟨f0, f⟩ := hf b hb
    exact ⟨by rw [upd_ne (Nat.ne_of_lt (lt b hb))]; exact f0, f⟩
   ·by_cases q : b = s.heap.objs.size
    ·subst q
     rw [Heap.get?_push_size _ rfl] at e
     cases e
     exact new'
    ·rw [Heap.get?_push_ne _ _ _ q] at e
     exact kp b o hb e
  ·rw [h.one t1]; exact hx
  ·rw [h.one t2]; exact hy
  ·rw [upd_ne (Nat.ne_of_lt (lt b hb))]; exact (hf b hb).1
 done := by
  intro X hP hw hK hc i pins s σ H E I hf st hg
  subst hP hw hK
  obtain ⟨xs, ys, t1, t2, hend⟩ := hg
  obtain ⟨hz, hTI, ⟨a, b', hTO⟩, s1, s2⟩ := st
  obtain ⟨its1, r1, o1, _⟩ := t1.so I
  obtain ⟨its2, r2, o2, _⟩ := t2.so I
  have n1 : ∀ b ∈ [z, TI, TO, i1, i2], l1 ≠ b := fun b hb => t1.ne (hf b hb).1
  have n2 : ∀ b ∈ [z, TI, TO, i1, i2], l2 ≠ b := fun b hb => t2.ne (hf b hb).1
  have hh : X.A.in1.handled = none := I.ok.hd hc
  have D1 := draw_seq (prog := X.prog) (w := X.w) c1 hh i1 l1 (n1 i1 (by simp)) its1.toArray
  have D2 := draw_seq (prog := X.prog) (w := X.w) c2 hh i2 l2 (n2 i2 (by simp)) its2.toArray
  refine nextZ_end D1 D2 (d.ap n1 n2) hz hTI hTO ⟨s1, o1⟩ ⟨s2, o2⟩ (by rw [List.size_toArray, List.size_toArray, ← r1.length, ← r2.length]; exact hend) fun h' tk kept => ⟨rfl, I.turnedL hf fun b o hb e => ?_⟩
  simp only [List.mem_cons, List.not_mem_nil, or_false, not_or] at hb
  exact kept b o (by simp only [List.mem_cons, List.not_mem_nil, or_false, not_or]; exact ⟨hb.1, hb.2.2.1, hb.2.2.2.1, hb.2.2.2.2⟩) e
 self := fun _ _ _ _ _ st h => wpAny_pyIter_zip st.1 h
section
variable {X : Cx} {e1 e2 : Expr} {te1 te2 : TE} {p pos : Pos}
def iZip (ta : TA) : TI := fun σ H R => ta σ H fun vs H1 => ∃ c1 l1 xs c2 l2 ys, vs = [.ref l1, .ref l2] ∧ TrS c1 H1 l1 xs ∧ TrS c2 H1 l2 ys ∧ R (Itz c1 l1 c2 l2) H1
theorem pi_zip {elts : List Expr} {kt : Nat} {pt : Pos} {ta : TA} (hg : Gl X "zip") (hm : X.mg "zip" = none) (hv : bootBuiltins "zip" = some (.type "zip")) (ha : PA X [e1, e2] ta)
  (he : starEach [e1, e2] X.env = (false, eval e1 X.env) :: starEach [e2] X.env := by rfl) (hpl : (backTo pos (starEach [e2] X.env)).any (·.1) = false := by rfl) :
  PI X (.Tuple elts kt pt) (.Call (.Name "zip" p) [e1, e2] [] pos) (iZip ta) := by
 intro pins s σ H R I h
 refine wpAny_Call_Name_kw (ld_blt I hg hm hv ?_ (by decide) (by decide))
 refine PyProof.Rows.callWith_type1 (thn (ha pos pins s σ H _ I h) fun us s1 ⟨vs, H1, I1, r1, c1, l1, xs, c2, l2, ys, ev, t1, t2, q⟩ => ?_) he hpl
 subst ev
 obtain ⟨u1, u2, rfl, ru1, ru2⟩ := vals2 r1
 cases ru1
 cases ru2
 obtain ⟨its1, _, o1, _⟩ := t1.so I1
 obtain ⟨its2, _, o2, _⟩ := t2.so I1
 refine call_zipS o1 o2 ?_
 obtain ⟨z1, z2, z3, z4, z5, z6⟩ := zh_at s1.heap c1 c2 l1 l2
 refine wpAny_pyIter_zip (s := { s1 with heap := zh s1.heap c1 c2 l1 l2 }) z1 ?_
 have ne : ∀ {a b : Nat}, a ≠ b → s1.heap.objs.size + a ≠ s1.heap.objs.size + b := fun h q => h (Nat.add_left_cancel q)
 refine ⟨_, _, _, _, H1, rfl, I1.kept (t' := s1.toks) z6, turn_zip (c1 := c1) (l1 := l1) (c2 := c2) (l2 := l2) ⟨ne (by decide), ne (by decide), ne (a := 0) (by decide), ne (by decide), ne (by decide), ne (b := 0) (by decide), ne (by decide), ne (b := 0) (by decide), ne (by decide), ne (a := 0) (by decide)⟩, ⟨z1, z2, ⟨_, _, z3⟩, .new z4, .new z5⟩, fun b hb => ?_, q⟩
 have hb' : s1.heap.objs.size ≤ b := by
  simp only [List.mem_cons, List.not_mem_nil, or_false] at hb
  rcases hb with rfl | rfl | rfl | rfl | rfl <;> omega
 exact I1.fpOk hb' (I1.hok.fresh hb')
end
end L2
namespace L2
open PySem PySem.Spec PyProof.Rows
theorem kV_rel {k : Key} {u : Value} (h : keyIs k u = true) : RelV (kV k) u := by
 rcases keyIs_shape h with ⟨i, t, rfl, rfl⟩ | ⟨x, t, rfl, rfl⟩
 ·exact ⟨t, rfl⟩
 ·exact ⟨t, rfl⟩
def Itk (a : Addr) (o : Obj) : It :=
 ⟨fun i H => ∃ (kvs : List (Key × V)) (k : Key) (v : V), H a = some (.frz o (.dK kvs)) ∧ kvs[i]? = some (k, v),
 fun i H x H' => H' = H ∧ ∀ kvs : List (Key × V), H a = some (.frz o (.dK kvs)) → ∃ k v, kvs[i]? = some (k, v) ∧ x = kV k,
 fun i H => ∃ kvs : List (Key × V), H a = some (.frz o (.dK kvs)) ∧ i = kvs.length⟩
theorem frz_at {X : Cx} {pins : List (Addr × Obj)} {σ : St} {H : Hp} {s : Shared} {a : Addr} {o : Obj} {kvs : List (Key × V)} (I : Inv X pins σ H s) (e : H a = some (.frz o (.dK kvs))) {es : Array DictEntry} {ep : Nat} (hd : o.data = .dict es ep) :
  ∃ vs : List (Key × Value), KV kvs vs ∧ s.heap.DictAt (mixKind X.prog X.w) a vs ep ∧ es.size = vs.length := by
 obtain ⟨h1, _, _, vs, r, o', es', ep', h2, h3, h4, h5, h6, h7⟩ := (show ObjOk X.prog X.w H s.heap a (.frz o (.dK kvs)) from I.hok a _ e)
 rw [h1] at h2
 cases h2
 rw [hd] at h4
 cases h4
 exact ⟨vs, r, ⟨o, es, h1, h3, hd, h5, h6, h7⟩, by rw [← h6.length]; simp⟩
theorem KV.get {κ : Type} {kvs : List (κ × V)} {vs : List (κ × Value)} (r : KV kvs vs) : ∀ {i : Nat} {k : κ} {v : V}, kvs[i]? = some (k, v) → ∃ u, vs[i]? = some (k, u) ∧ RelV v u := by
 unfold KV at r
 induction r with
 | nil => intro i k v e; simp at e
 | @cons p q ps qs h t ih =>
  intro i k v e
  cases i with
  | zero =>
   simp at e
   subst e
   have h1 : k = q.1 := h.1
   exact ⟨q.2, by rw [h1]; rfl, h.2⟩
  | succ i => simpa using ih (by simpa using e)
theorem turn_keys {P : Program} {w : World} {K : PySem.W.Frag} {tg : Expr} {a it : Addr} {o : Obj} {es : Array DictEntry} {ep : Nat} (hd : o.data = .dict es ep) : Turn P w K tg (Itk a o) [it] it (fun i h => h.IsKeyIter it a i es.size ep) where
 mem := by simp
 obj := fun i h st b hb => by
  have e : b = it := by simpa using hb
  subst e
  obtain ⟨q, e, _, d⟩ := st
  exact ⟨q, e, fun v z => by rw [d] at z; cases z⟩
 keep := fun i h h' st k => st.at fun q e => k it (by simp) q e
 item := by
  intro X hP hw hK hc i pins s σ H E I hf st hg
  subst hP hw hK
  obtain ⟨kvs, k, v, e, hx⟩ := hg
  obtain ⟨vs, r, hm, hz⟩ := frz_at I e hd
  obtain ⟨u, hu, _⟩ := r.get hx
  obtain ⟨f0, f1, f2, f3, f4, f5⟩ := hf it (by simp)
  rw [hz] at st
  refine wpAny_pyNext_dict_item st hm hu fun key h' hk st' sb => ?_
  have I1 : Inv X pins σ H { s with heap := h' } := I.turned (t' := s.toks) (fun b q hb e => (sb.2 b hb).trans e) f0 f1 f3 f4 f5
  obtain ⟨q, eq, c, d⟩ := id st'
  refine ⟨key, rfl, go_of (s := { s with heap := h' }) eq c d (by decide) ⟨kV k, H, I1, kV_rel hk, ⟨rfl, fun kvs' e' => ?_⟩, by rw [hz]; exact st', fun b hb => (hf b hb).1⟩⟩
  rw [e] at e'
  cases e'
  exact ⟨k, v, hx, rfl⟩
 done := by
  intro X hP hw hK hc i pins s σ H E I hf st hg
  subst hP hw hK
  obtain ⟨kvs, e, hx⟩ := hg
  obtain ⟨vs, r, hm, hz⟩ := frz_at I e hd
  obtain ⟨f0, f1, f2, f3, f4, f5⟩ := hf it (by simp)
  rw [hz] at st
  exact wpAny_pyNext_dict_end (I.ok.hd hc) st hm (by rw [hx, r.length]; simp) fun h' eb => ⟨rfl, I.turned (t' := s.toks) (fun b q hb e => eb b q hb e) f0 f1 f3 f4 f5⟩
 self := fun _ _ _ _ _ st h => wpAny_pyIter_keyiter st h
section
variable {X : Cx} {pins : List (Addr × Obj)} {σ : St} {H : Hp} {s : Shared} {a : Addr} {kvs : List (Key × V)} {tg : Expr} {E : Value → Shared → Prop} {R : It → Hp → Prop}
theorem Inv.freeze (I : Inv X pins σ H s) (e : H a = some (.dK kvs)) : ∃ (o : Obj) (es : Array DictEntry) (ep : Nat), o.data = .dict es ep ∧ Inv X pins σ (upd H a (.frz o (.dK kvs))) s := by
 obtain ⟨z, hS, vs, r, o, es, ep, h1, h2, h3, h4⟩ := (show ObjOk X.prog X.w H s.heap a (.dK kvs) from I.hok a _ e)
 refine ⟨o, es, ep, h3, I.view (by rw [e]; exact True.intro) ⟨o, h1⟩ ⟨h1, z, hS, vs, r, o, es, ep, h1, h2, h3, h4⟩⟩
theorem piv_frz {o : Obj} (I : Inv X pins σ H s) (e : H a = some (.frz o (.dK kvs))) (q : R (Itk a o) H) : wpAny (model X.prog X.w) X.A (pyIter (.ref a)) (PIE X pins σ tg R) E s := by
 obtain ⟨h1, _, hS, _, _, o', es, ep, h2, _, hd, _⟩ := (show ObjOk X.prog X.w H s.heap a (.frz o (.dK kvs)) from I.hok a _ e)
 rw [h1] at h2
 cases h2
 obtain ⟨vs, r, hm, hz⟩ := frz_at I e hd
 refine wpAny_pyIter_dict hS hm ?_
 refine ⟨s.heap.objs.size, [s.heap.objs.size], _, _, H, rfl, I.kept (t' := s.toks) fun b o e => Heap.get?_push_of_some _ e, turn_keys (a := a) hd, ⟨_, Heap.get?_push_size _ rfl, rfl, by rw [hz]; rfl⟩, fun b hb => ?_, q⟩
 have eb : b = s.heap.objs.size := by simpa using hb
 subst eb
 exact I.fpOk (Nat.le_refl _) (I.hok.fresh (Nat.le_refl _))
theorem Inv.notFrz (I : Inv X pins σ H s) (e : H a = some (.dK kvs)) : ∀ o u, X.H₀ a ≠ some (.frz o u) := fun o u z => by
 have := I.base.frzs a o u z
 rw [e] at this
 cases this
theorem piv_dict (I : Inv X pins σ H s) (e : H a = some (.dK kvs)) (q : ∀ o, (∀ o u, X.H₀ a ≠ some (.frz o u)) → R (Itk a o) (upd H a (.frz o (.dK kvs)))) : wpAny (model X.prog X.w) X.A (pyIter (.ref a)) (PIE X pins σ tg R) E s := by
 obtain ⟨o, es, ep, hd, I'⟩ := I.freeze e
 exact piv_frz I' upd_same (q o (I.notFrz e))
end
end L2
namespace L2
open PySem PySem.Spec PyProof.Rows
section
variable {prog : Program} {w : World} {A : Around} {E : Value → Shared → Prop} {s : Shared}
end
namespace DP
end DP
section
variable {X : Cx} {pins : List (Addr × Obj)} {σ : St} {A : Around}
end
end L2
namespace KS
open PySem PySem.W PyProof.Rows
def ev {α : Type} (lt : Nat → Nat → Bool) : KasT α → α
 | .ret a => a
 | .ask i j k => ev lt (k (lt i j))
theorem ev_bind {α β : Type} (lt : Nat → Nat → Bool) (f : α → KasT β) : ∀ t : KasT α, ev lt (t.bind f) = ev lt (f (ev lt t))
 | .ret _ => rfl
 | .ask i j k => ev_bind lt f (k (lt i j))
def Rg {α : Type} (n : Nat) : KasT α → Prop
 | .ret _ => True
 | .ask i j k => i < n ∧ j < n ∧ ∀ b, Rg n (k b)
theorem rg_bind {α β : Type} {n : Nat} {f : α → KasT β} : ∀ {t : KasT α}, Rg n t → (∀ a, Rg n (f a)) → Rg n (t.bind f)
 | .ret a, _, h => h a
 | .ask i j k, ⟨h1, h2, h3⟩, h => ⟨h1, h2, fun b => rg_bind (h3 b) h⟩
def Out {α : Type} (P : α → Prop) : KasT α → Prop
 | .ret a => P a
 | .ask _ _ k => ∀ b, Out P (k b)
theorem rg_bindO {α β : Type} {n : Nat} {P : α → Prop} {f : α → KasT β} : ∀ {t : KasT α}, Rg n t → Out P t → (∀ a, P a → Rg n (f a)) → Rg n (t.bind f)
 | .ret a, _, o, h => h a o
 | .ask i j k, ⟨h1, h2, h3⟩, o, h => ⟨h1, h2, fun b => rg_bindO (h3 b) (o b) h⟩
theorem out_bind {α β : Type} {P : α → Prop} {P' : β → Prop} {f : α → KasT β} : ∀ {t : KasT α}, Out P t → (∀ a, P a → Out P' (f a)) → Out P' (t.bind f)
 | .ret a, o, h => h a o
 | .ask i j k, o, h => fun b => out_bind (o b) h
def Al (n : Nat) (p : Array Nat) : Prop := ∀ x ∈ p, x < n
theorem Al.get {n : Nat} {p : Array Nat} (h : Al n p) (hn : 0 < n) (k : Nat) : p.getD k 0 < n := by
 by_cases hk : k < p.size
 ·have e : p.getD k 0 = p[k] := by simp [Array.getD, hk]
  rw [e]
  exact h _ (Array.getElem_mem hk)
 ·have e : p.getD k 0 = 0 := by simp [Array.getD, hk]
  rw [e]; exact hn
theorem Al.perm {n : Nat} {p q : Array Nat} (h : Al n p) (hp : q.Perm p) : Al n q := fun x hx => h x (hp.mem_iff.mp hx)
theorem Al.rev {n : Nat} {p : Array Nat} (h : Al n p) (i j : Nat) : Al n (kas_rev p i j) := h.perm (mirror_perm _ _ _ _)
theorem Al.bub {n : Nat} {p : Array Nat} (h : Al n p) (i j : Nat) : Al n (bubble p i j) := h.perm (bubble_perm _ _ _)
section
variable {n : Nat} (hn : 0 < n)
include hn
theorem rg_asc {p : Array Nat} (h : Al n p) : ∀ f k, Rg n (kas_asc p f k)
 | 0, _ => trivial
 | f + 1, k => ⟨h.get hn _, h.get hn _, fun b => by
  cases b
  ·exact rg_asc h f (k + 1)
  ·exact trivial⟩
theorem rg_desc : ∀ f {p : Array Nat} (_ : Al n p) k q, Rg n (kas_desc f p k q)
 | 0, _, _, _, _ => trivial
 | f + 1, p, h, k, q => ⟨h.get hn _, h.get hn _, fun b => by
  cases b
  ·refine ⟨h.get hn _, h.get hn _, fun b => ?_⟩
   cases b
   ·exact rg_desc f h (k + 1) (q + 1)
   ·exact trivial
  ·show Rg n (if q > 0 then kas_desc f (kas_rev p (k - (q + 1)) k) (k + 1) 0 else kas_desc f p (k + 1) 0)
   split
   ·exact rg_desc f (h.rev _ _) _ _
   ·exact rg_desc f h _ _⟩
theorem out_desc : ∀ f {p : Array Nat} (_ : Al n p) k q, Out (fun r => Al n r.1) (kas_desc f p k q)
 | 0, _, h, _, _ => h
 | f + 1, p, h, k, q => fun b => by
  cases b
  ·intro b
   cases b
   ·exact out_desc f h (k + 1) (q + 1)
   ·exact h
  ·show Out _ (if q > 0 then kas_desc f (kas_rev p (k - (q + 1)) k) (k + 1) 0 else kas_desc f p (k + 1) 0)
   split
   ·exact out_desc f (h.rev _ _) _ _
   ·exact out_desc f h _ _
theorem rg_tail3 {p : Array Nat} (h : Al n p) (a b : Nat) : Rg n (kas_tail3 a b p) := rg_bind (rg_asc hn (h.rev _ _) _ _) fun _ => trivial
theorem out_any {α : Type} {P : α → Prop} (h : ∀ a, P a) : ∀ t : KasT α, Out P t
 | .ret a => h a
 | .ask i j k => fun b => out_any h (k b)
theorem out_tail3 {p : Array Nat} (h : Al n p) (a b : Nat) : Out (fun r => Al n r.2) (kas_tail3 a b p) := out_bind (P := fun _ => True) (out_any hn (fun _ => trivial) _) fun _ _ => h.rev _ _
theorem rg_descPart {p : Array Nat} (h : Al n p) (a b : Nat) : Rg n (kas_descPart a b p) := rg_bindO (rg_desc hn _ h _ _) (out_desc hn _ h _ _) fun r hr => by
 split
 ·exact rg_tail3 hn (hr.rev _ _) _ _
 ·exact rg_tail3 hn hr _ _
theorem out_descPart {p : Array Nat} (h : Al n p) (a b : Nat) : Out (fun r => Al n r.2) (kas_descPart a b p) := out_bind (out_desc hn _ h _ _) fun r hr => by
 split
 ·exact out_tail3 hn (Al.rev hr _ _) _ _
 ·exact out_tail3 hn hr _ _
theorem rg_count {p : Array Nat} (h : Al n p) (a : Nat) : Rg n (kas_count a p) := rg_bind (rg_asc hn h _ _) fun m => by
 split
 ·exact trivial
 ·split
  ·refine ⟨h.get hn _, h.get hn _, fun b => ?_⟩
   cases b
   ·exact rg_descPart hn (h.rev _ _) _ _
   ·exact trivial
  ·exact rg_descPart hn h _ _
theorem out_count {p : Array Nat} (h : Al n p) (a : Nat) : Out (fun r => Al n r.2) (kas_count a p) := out_bind (P := fun _ => True) (out_any hn (fun _ => trivial) _) fun m _ => by
 split
 ·exact h
 ·split
  ·intro b
   cases b
   ·exact out_descPart hn (h.rev _ _) _ _
   ·exact h
  ·exact out_descPart hn h _ _
theorem rg_place {p : Array Nat} (h : Al n p) (k : Nat) : ∀ f l r, Rg n (kas_place p k f l r)
 | 0, _, _ => trivial
 | f + 1, l, r => by
  unfold kas_place
  split
  ·exact trivial
  ·refine ⟨h.get hn _, h.get hn _, fun b => ?_⟩
   cases b
   ·exact rg_place h k f _ _
   ·exact rg_place h k f _ _
theorem rg_bin : ∀ f {p : Array Nat} (_ : Al n p) k, Rg n (kas_bin f p k)
 | 0, _, _, _ => trivial
 | f + 1, p, h, k => rg_bind (rg_place hn h k _ _ _) fun _ => rg_bin f (h.bub _ _) _
end
theorem al_range (n : Nat) : Al n (List.toArray (List.range n)) := fun x hx => by simpa using hx
theorem rg_sort {n : Nat} (hn : 0 < n) : Rg n (kas_sort n) := rg_bindO (rg_count hn (al_range n) _) (out_count hn (al_range n) _) fun r hr => by
 split
 ·exact rg_bin hn _ hr _
 ·exact trivial
structure Ord (lt : Nat → Nat → Bool) : Prop where
 irr : ∀ i, lt i i = false
 tr : ∀ i j k, lt j i = false → lt k j = false → lt k i = false
 as : ∀ i j, lt i j = true → lt j i = false
section
variable {lt : Nat → Nat → Bool} (O : Ord lt) {p q : Array Nat}
abbrev le (lt : Nat → Nat → Bool) (i j : Nat) : Prop := lt j i = false
theorem Ord.lt_le (O : Ord lt) {i j k : Nat} (h1 : lt i j = true) (h2 : le lt j k) : lt i k = true := by
 cases h : lt i k
 ·have := O.tr j k i h2 h
  rw [h1] at this
  cases this
 ·rfl
def So (lt : Nat → Nat → Bool) (p : Array Nat) (n : Nat) : Prop := ∀ i j, i ≤ j → j < n → le lt (p.getD i 0) (p.getD j 0)
def De (lt : Nat → Nat → Bool) (p : Array Nat) (n : Nat) : Prop := ∀ i j, i ≤ j → j < n → le lt (p.getD j 0) (p.getD i 0)
theorem getD_rev {p : Array Nat} {i j : Nat} (hj : j ≤ p.size) (k : Nat) : (kas_rev p i j).getD k 0 = if i ≤ k ∧ k < j then p.getD (i + j - 1 - k) 0 else p.getD k 0 := by
 have := getElem?_mirror_all (xs := p) (i := i) hj k
 simp only [Array.getD_eq_getD_getElem?]
 unfold kas_rev
 rw [this]
 split <;> rfl
include O
theorem asc_ok : ∀ f n, 1 ≤ n → So lt p n → n ≤ ev lt (kas_asc p f n) ∧ ev lt (kas_asc p f n) ≤ n + f ∧ So lt p (ev lt (kas_asc p f n)) ∧ (ev lt (kas_asc p f n) < n + f → lt (p.getD (ev lt (kas_asc p f n)) 0) (p.getD (ev lt (kas_asc p f n) - 1) 0) = true)
 | 0, n, _, h => ⟨Nat.le_refl _, Nat.le_refl _, h, fun z => absurd z (Nat.lt_irrefl _)⟩
 | f + 1, n, h1, h => by
  show n ≤ ev lt (if lt (p.getD n 0) (p.getD (n - 1) 0) = true then KasT.ret n else kas_asc p f (n + 1)) ∧ ev lt (if lt (p.getD n 0) (p.getD (n - 1) 0) = true then KasT.ret n else kas_asc p f (n + 1)) ≤ n + (f + 1) ∧ So lt p (ev lt (if lt (p.getD n 0) (p.getD (n - 1) 0) = true then KasT.ret n else kas_asc p f (n + 1))) ∧ (ev lt (if lt (p.getD n 0) (p.getD (n - 1) 0) = true then KasT.ret n else kas_asc p f (n + 1)) < n + (f + 1) → lt (p.getD (ev lt (if lt (p.getD n 0) (p.getD (n - 1) 0) = true then KasT.ret n else kas_asc p f (n + 1))) 0) (p.getD (ev lt (if lt (p.getD n 0) (p.getD (n - 1) 0) = true then KasT.ret n else kas_asc p f (n + 1)) - 1) 0) = true)
  by_cases c : lt (p.getD n 0) (p.getD (n - 1) 0) = true
  ·rw [if_pos c]
   exact ⟨Nat.le_refl _, Nat.le_add_right _ _, h, fun _ => c⟩
  ·rw [if_neg c]
   have h' : So lt p (n + 1) := fun i j hij hj => by
    by_cases q : j < n
    ·exact h i j hij q
    ·have ej : j = n := by omega
     subst ej
     by_cases q2 : i = j
     ·rw [q2]; exact O.irr _
     ·exact O.tr _ _ _ (h i (j - 1) (by omega) (by omega)) (by simpa using c)
   obtain ⟨a, b, c, d⟩ := asc_ok f (n + 1) (by omega) h'
   exact ⟨by omega, by omega, c, fun z => d (by omega)⟩
omit O in
theorem De.eqv {n : Nat} (O : Ord lt) (h : De lt p n) (e : ∀ k, k < n → le lt (q.getD k 0) (p.getD k 0) ∧ le lt (p.getD k 0) (q.getD k 0)) : De lt q n := fun i j hij hj =>
 O.tr _ _ _ (e j hj).1 (O.tr _ _ _ (h i j hij hj) (e i (by omega)).2)
omit O in
theorem So.ofDe {n : Nat} (h : De lt p n) (hn : n ≤ p.size) : So lt (kas_rev p 0 n) n := fun i j hij hj => by
 rw [getD_rev hn, getD_rev hn, if_pos (by omega), if_pos (by omega)]
 exact h (0 + n - 1 - j) (0 + n - 1 - i) (by omega) (by omega)
def Run (lt : Nat → Nat → Bool) (p : Array Nat) (n q : Nat) : Prop := q + 1 ≤ n ∧ ∀ i, n - (q + 1) ≤ i → i < n → le lt (p.getD i 0) (p.getD (n - 1) 0) ∧ le lt (p.getD (n - 1) 0) (p.getD i 0)
omit O in
theorem run_rev {n k : Nat} (O : Ord lt) (h : Run lt p n k) (hn : n ≤ p.size) : ∀ i, i < p.size → le lt ((kas_rev p (n - (k + 1)) n).getD i 0) (p.getD i 0) ∧ le lt (p.getD i 0) ((kas_rev p (n - (k + 1)) n).getD i 0) := fun i hi => by
 rw [getD_rev hn]
 by_cases c : n - (k + 1) ≤ i ∧ i < n
 ·rw [if_pos c]
  have a := h.2 (n - (k + 1) + n - 1 - i) (by omega) (by omega)
  have b := h.2 i c.1 c.2
  exact ⟨O.tr _ _ _ a.1 b.2, O.tr _ _ _ b.1 a.2⟩
 ·rw [if_neg c]
  exact ⟨O.irr _, O.irr _⟩
def DP (lt : Nat → Nat → Bool) (p : Array Nat) (a b : Nat) (r : Array Nat × Nat × Nat) : Prop := r.1.size = p.size ∧ r.1.Perm p ∧ a ≤ r.2.1 ∧ r.2.1 ≤ b ∧ De lt r.1 r.2.1 ∧ Run lt r.1 r.2.1 r.2.2
theorem desc_ok : ∀ f (p : Array Nat) n k, De lt p n → Run lt p n k → n + f ≤ p.size → DP lt p n (n + f) (ev lt (kas_desc f p n k))
 | 0, p, n, k, h, r, hz => ⟨rfl, .refl _, Nat.le_refl _, Nat.le_refl _, h, r⟩
 | f + 1, p, n, k, h, r, hz => by
  have h1 := r.1
  have step : ∀ (p1 : Array Nat) (k1 : Nat), p1.size = p.size → p1.Perm p → De lt p1 (n + 1) → Run lt p1 (n + 1) k1 → DP lt p n (n + (f + 1)) (ev lt (kas_desc f p1 (n + 1) k1)) := fun p1 k1 s1 pm d1 r1 => by
   obtain ⟨a, b, c, d, e, g⟩ := desc_ok f p1 (n + 1) k1 d1 r1 (by omega)
   exact ⟨a.trans s1, b.trans pm, by omega, by omega, e, g⟩
  show DP lt p n (n + (f + 1)) (ev lt (if lt (p.getD n 0) (p.getD (n - 1) 0) = true then (if k > 0 then kas_desc f (kas_rev p (n - (k + 1)) n) (n + 1) 0 else kas_desc f p (n + 1) 0)
   else .ask (p.getD (n - 1) 0) (p.getD n 0) fun d => if d = true then .ret (p, n, k) else kas_desc f p (n + 1) (k + 1)))
  have run0 : ∀ p1 : Array Nat, Run lt p1 (n + 1) 0 := fun p1 => ⟨by omega, fun i a b => by
   have : i = n := by omega
   subst this
   exact ⟨O.irr _, O.irr _⟩⟩
  have more : ∀ p1 : Array Nat, De lt p1 n → p1.getD n 0 = p.getD n 0 → le lt (p.getD n 0) (p1.getD (n - 1) 0) → De lt p1 (n + 1) := fun p1 d1 e1 l1 i j hij hj => by
   by_cases c : j < n
   ·exact d1 i j hij c
   ·have ej : j = n := by omega
    subst ej
    by_cases c2 : i = j
    ·rw [c2]; exact O.irr _
    ·rw [e1]
     exact O.tr _ _ _ l1 (d1 i (j - 1) (by omega) (by omega))
  by_cases c : lt (p.getD n 0) (p.getD (n - 1) 0) = true
  ·rw [if_pos c]
   by_cases ck : k > 0
   ·rw [if_pos ck]
    have rr := run_rev O r (by omega)
    refine step _ 0 (mirror_size _ _ _ _) (mirror_perm _ _ _ _) (more _ (h.eqv O fun i hi => rr i (by omega)) ?_ ?_) (run0 _)
    ·rw [getD_rev (by omega), if_neg (by omega)]
    ·exact O.tr _ _ _ (O.as _ _ c) (rr (n - 1) (by omega)).2
   ·rw [if_neg ck]
    exact step p 0 rfl (.refl _) (more p h rfl (O.as _ _ c)) (run0 _)
  ·rw [if_neg c]
   show DP lt p n (n + (f + 1)) (ev lt (if lt (p.getD (n - 1) 0) (p.getD n 0) = true then .ret (p, n, k) else kas_desc f p (n + 1) (k + 1)))
   by_cases d : lt (p.getD (n - 1) 0) (p.getD n 0) = true
   ·rw [if_pos d]
    exact ⟨rfl, .refl _, Nat.le_refl _, Nat.le_add_right _ _, h, r⟩
   ·rw [if_neg d]
    have c' : le lt (p.getD (n - 1) 0) (p.getD n 0) := by simpa using c
    have d' : le lt (p.getD n 0) (p.getD (n - 1) 0) := by simpa using d
    refine step p (k + 1) rfl (.refl _) (more p h rfl d') ⟨by omega, fun i a b => ?_⟩
    by_cases ci : i = n
    ·subst ci; exact ⟨O.irr _, O.irr _⟩
    ·have z := r.2 i (by omega) (by omega)
     exact ⟨O.tr _ _ _ z.1 c', O.tr _ _ _ d' z.2⟩
def CP (lt : Nat → Nat → Bool) (p : Array Nat) (b : Nat) (r : Nat × Array Nat) : Prop := r.2.size = p.size ∧ r.2.Perm p ∧ 1 ≤ r.1 ∧ r.1 ≤ b ∧ So lt r.2 r.1
theorem tail3_ok {n b : Nat} (h : De lt p n) (h1 : 1 ≤ n) (hb : n ≤ b) (hz : b ≤ p.size) : CP lt p b (ev lt (kas_tail3 n b p)) := by
 unfold kas_tail3
 rw [ev_bind]
 obtain ⟨x, y, z, _⟩ := asc_ok O (p := kas_rev p 0 n) (b - n) n h1 (So.ofDe h (by omega))
 exact ⟨mirror_size _ _ _ _, mirror_perm _ _ _ _, by show 1 ≤ ev lt _; omega, by show ev lt _ ≤ b; omega, z⟩
theorem descPart_ok {n b : Nat} (h : De lt p (n + 1)) (hb : n + 1 ≤ b) (hz : b ≤ p.size) : CP lt p b (ev lt (kas_descPart n b p)) := by
 unfold kas_descPart
 rw [ev_bind]
 obtain ⟨a, c, d, e, f, g⟩ := desc_ok O (b - (n + 1)) p (n + 1) 0 h ⟨by omega, fun i x y => by
  have : i = n + 1 - 1 := by omega
  subst this
  exact ⟨O.irr _, O.irr _⟩⟩ (by omega)
 generalize ev lt (kas_desc (b - (n + 1)) p (n + 1) 0) = r at *
 split
 ·have rr := run_rev O g (by omega)
  obtain ⟨x1, x2, x3, x4, x5⟩ := tail3_ok O (p := kas_rev r.1 (r.2.1 - (r.2.2 + 1)) r.2.1) (n := r.2.1) (b := b) (f.eqv O fun i hi => rr i (by omega)) (by omega) (by omega) (by unfold kas_rev; rw [mirror_size]; omega)
  exact ⟨x1.trans ((mirror_size _ _ _ _).trans a), x2.trans ((mirror_perm _ _ _ _).trans c), x3, x4, x5⟩
 ·obtain ⟨x1, x2, x3, x4, x5⟩ := tail3_ok O (p := r.1) (n := r.2.1) (b := b) f (by omega) (by omega) (by omega)
  exact ⟨x1.trans a, x2.trans c, x3, x4, x5⟩
theorem count_ok (hz : 1 ≤ p.size) : CP lt p p.size (ev lt (kas_count p.size p)) := by
 unfold kas_count
 rw [ev_bind]
 obtain ⟨x, y, z, w⟩ := asc_ok O (p := p) (p.size - 1) 1 (Nat.le_refl _) fun i j hij hj => by
  have h1 : i = 0 := by omega
  have h2 : j = 0 := by omega
  subst h1 h2
  exact O.irr _
 generalize ev lt (kas_asc p (p.size - 1) 1) = n at *
 split
 ·exact ⟨rfl, .refl _, x, by show n ≤ p.size; omega, z⟩
 ·rename_i hne
  have hne' : n ≠ p.size := fun e => hne (by rw [e]; exact beq_self_eq_true _)
  have wl := w (by omega)
  split
  ·show CP lt p p.size (ev lt (if lt (p.getD 0 0) (p.getD (n - 1) 0) = true then .ret (n, p) else kas_descPart n p.size (kas_rev p 0 n)))
   by_cases c : lt (p.getD 0 0) (p.getD (n - 1) 0) = true
   ·rw [if_pos c]
    exact ⟨rfl, .refl _, x, by show n ≤ _; omega, z⟩
   ·rw [if_neg c]
    have c' : le lt (p.getD (n - 1) 0) (p.getD 0 0) := by simpa using c
    have all : ∀ i j, i < n → j < n → le lt (p.getD i 0) (p.getD j 0) := fun i j hi hj => O.tr _ _ _ (z i (n - 1) (by omega) (by omega)) (O.tr _ _ _ c' (z 0 j (by omega) hj))
    have hd : De lt (kas_rev p 0 n) (n + 1) := fun i j hij hj => by
     rw [getD_rev (by omega), getD_rev (by omega)]
     by_cases cj : j < n
     ·rw [if_pos (by omega), if_pos (by omega)]
      exact all _ _ (by omega) (by omega)
     ·have ej : j = n := by omega
      subst ej
      rw [if_neg (by omega)]
      by_cases ci : i = j
      ·rw [if_neg (by omega), ci]; exact O.irr _
      ·rw [if_pos (by omega)]
       exact O.tr _ _ _ (O.as _ _ wl) (all _ _ (by omega) (by omega))
    obtain ⟨x1, x2, x3, x4, x5⟩ := descPart_ok O (p := kas_rev p 0 n) (n := n) (b := p.size) hd (by omega) (by unfold kas_rev; rw [mirror_size]; exact Nat.le_refl _)
    exact ⟨x1.trans (mirror_size _ _ _ _), x2.trans (mirror_perm _ _ _ _), x3, x4, x5⟩
  ·have en : n = 1 := by omega
   subst en
   refine descPart_ok O (fun i j hij hj => ?_) (by omega) (Nat.le_refl _)
   by_cases ci : i = j
   ·rw [ci]; exact O.irr _
   ·have h1 : i = 0 := by omega
    have h2 : j = 1 := by omega
    subst h1 h2
    exact O.as _ _ wl
theorem place_ok {k : Nat} (hs : So lt p k) : ∀ f l r, l ≤ r → r ≤ k → r - l ≤ f → (∀ i, i < l → le lt (p.getD i 0) (p.getD k 0)) → (∀ i, r ≤ i → i < k → lt (p.getD k 0) (p.getD i 0) = true) →
  ∃ m, ev lt (kas_place p k f l r) = m ∧ m ≤ k ∧ (∀ i, i < m → le lt (p.getD i 0) (p.getD k 0)) ∧ ∀ i, m ≤ i → i < k → lt (p.getD k 0) (p.getD i 0) = true
 | 0, l, r, h1, h2, h3, a, b => ⟨l, rfl, by omega, a, fun i x y => b i (by omega) y⟩
 | f + 1, l, r, h1, h2, h3, a, b => by
  unfold kas_place
  split
  ·exact ⟨l, rfl, by omega, a, fun i x y => b i (by omega) y⟩
  ·rename_i hlr
   show ∃ m, ev lt (if lt (p.getD k 0) (p.getD ((l + r) / 2) 0) = true then kas_place p k f l ((l + r) / 2) else kas_place p k f ((l + r) / 2 + 1) r) = m ∧ _
   by_cases c : lt (p.getD k 0) (p.getD ((l + r) / 2) 0) = true
   ·rw [if_pos c]
    refine place_ok hs f l ((l + r) / 2) (by omega) (by omega) (by omega) a fun i x y => ?_
    exact O.lt_le c (hs _ _ x y)
   ·rw [if_neg c]
    refine place_ok hs f ((l + r) / 2 + 1) r (by omega) h2 (by omega) (fun i x => ?_) b
    exact O.tr _ _ _ (hs i ((l + r) / 2) (by omega) (by omega)) (by simpa using c)
omit O in
theorem getD_bub {p : Array Nat} {k d : Nat} (hk : k < p.size) (hd : d ≤ k) (i : Nat) : (bubble p k d).getD i 0 = if i = k - d then p.getD k 0 else if k - d < i ∧ i ≤ k then p.getD (i - 1) 0 else p.getD i 0 := by
 have := getElem?_bubble (xs := p) hk d hd i
 simp only [Array.getD_eq_getD_getElem?]
 rw [this]
 split
 ·rfl
 ·split <;> rfl
theorem bin_ok : ∀ f (p : Array Nat) k, So lt p k → k + f ≤ p.size → (ev lt (kas_bin f p k)).Perm p ∧ So lt (ev lt (kas_bin f p k)) (k + f)
 | 0, p, k, h, _ => ⟨.refl _, h⟩
 | f + 1, p, k, h, hz => by
  show (ev lt ((kas_place p k k 0 k).bind fun l => kas_bin f (bubble p k (k - l)) (k + 1))).Perm p ∧ So lt (ev lt ((kas_place p k k 0 k).bind fun l => kas_bin f (bubble p k (k - l)) (k + 1))) (k + (f + 1))
  rw [ev_bind]
  obtain ⟨m, e, hm, a, b⟩ := place_ok O h k 0 k (Nat.zero_le _) (Nat.le_refl _) (by omega) (fun i x => by omega) (fun i x y => by omega)
  rw [e]
  have hs : So lt (bubble p k (k - m)) (k + 1) := fun i j hij hj => by
   rw [getD_bub (by omega) (by omega), getD_bub (by omega) (by omega)]
   by_cases i1 : i = k - (k - m)
   ·rw [if_pos i1]
    by_cases j1 : j = k - (k - m)
    ·rw [if_pos j1]; exact O.irr _
    ·rw [if_neg j1, if_pos (by omega)]
     exact O.as _ _ (b (j - 1) (by omega) (by omega))
   ·rw [if_neg i1]
    by_cases i2 : k - (k - m) < i ∧ i ≤ k
    ·rw [if_pos i2, if_neg (by omega), if_pos (by omega)]
     exact h (i - 1) (j - 1) (by omega) (by omega)
    ·rw [if_neg i2]
     by_cases j1 : j = k - (k - m)
     ·rw [if_pos j1]
      exact a i (by omega)
     ·rw [if_neg j1]
      by_cases j2 : k - (k - m) < j ∧ j ≤ k
      ·rw [if_pos j2]
       exact h i (j - 1) (by omega) (by omega)
      ·rw [if_neg j2]
       exact h i j hij (by omega)
  obtain ⟨x, y⟩ := bin_ok f (bubble p k (k - m)) (k + 1) hs (by rw [bubble_size]; omega)
  exact ⟨x.trans (bubble_perm _ _ _), by rw [show k + (f + 1) = k + 1 + f by omega]; exact y⟩
theorem sort_ok {n : Nat} (hn : 1 ≤ n) : (ev lt (kas_sort n)).Perm (List.toArray (List.range n)) ∧ So lt (ev lt (kas_sort n)) n := by
 unfold kas_sort
 rw [ev_bind]
 have hz : (List.toArray (List.range n)).size = n := by simp
 obtain ⟨a, b, c, d, e⟩ := count_ok O (p := List.toArray (List.range n)) (by omega)
 rw [hz] at a b c d e
 generalize ev lt (kas_count n (List.toArray (List.range n))) = r at *
 split
 ·obtain ⟨x, y⟩ := bin_ok O (n - max r.1 1) r.2 (max r.1 1) (by rw [show max r.1 1 = r.1 by omega]; exact e) (by omega)
  exact ⟨x.trans b, by rw [show max r.1 1 + (n - max r.1 1) = n by omega] at y; exact y⟩
 ·have : r.1 = n := by omega
  exact ⟨b, by show So lt r.2 n; rw [← this]; exact e⟩
end
end KS
namespace L2
open PySem PySem.Spec PyProof.Rows
def RawAt (h : Heap) (d : Addr) (es : Array DictEntry) (ep : Nat) : Prop := ∃ o, h.get? d = some o ∧ o.ExactDict ∧ o.data = .dict es ep
theorem RawAt.ty {s : Shared} {d : Addr} {es : Array DictEntry} {ep : Nat} (h : RawAt s.heap d es ep) : s.TypeIs (.ref d) "dict" := let ⟨o, h1, h2, _⟩ := h; ⟨o, h1, h2.1⟩
theorem RawAt.keep {h h' : Heap} {d : Addr} {es : Array DictEntry} {ep : Nat} (x : RawAt h d es ep) (k : ∀ o, h.get? d = some o → h'.get? d = some o) : RawAt h' d es ep := let ⟨o, h1, r⟩ := x; ⟨o, k o h1, r⟩
section
variable {prog : Program} {w : World} {A : Around} {E : Value → Shared → Prop} {s : Shared} {it d : Addr} {es : Array DictEntry} {ep i : Nat}
theorem raw_iter {Q : Value → Shared → Prop} (hd : (d == sysModules) = false) (hm : RawAt s.heap d es ep)
  (q : Q (.ref s.heap.objs.size) { s with heap := s.heap.push { cls := .type "dict_keyiterator", data := .fields #[.ref d, .int 0 0, .int es.size 0, .int ep 0] } }) : wpAny (model prog w) A (pyIter (.ref d)) Q E s := by
 obtain ⟨o, ho, hc, hdat⟩ := id hm
 refine wpAny_pyIter_slot hm.ty PySem.F.slot_dict_iter (wpAny_call_entry PySem.F.slot_dict_iter hm.ty PySem.F.entry_dict_iter ?_ (PySem.F.args_dict_iter_1 _))
 unfold Builtin.«dict.__iter__» Builtin.Dict.dictSlotNone
 refine wpAny_bind (wpAny_bind (wpAny_notOrdered_dict hm.ty (wpAny_pure ?_)))
 show wpAny _ _ (Builtin.Dict.showsAll d >>= _) _ _ s
 unfold Builtin.Dict.showsAll
 rw [hd]
 refine wpAny_bind (wpAny_pure (wpAny_bind (wpAny_dictEntries ho hdat (wpAny_bind (wpAny_dictEpoch ho hdat ?_)))))
 exact wpAny_bind (wpAny_newObj_type (wpAny_pure ⟨_, rfl, "dict_keyiterator", _, ⟨_, Heap.get?_push_size _ rfl, rfl⟩, PySem.F.slot_dict_keyiterator_next.lookup, by simpa [rawInt] using q⟩))
theorem raw_next {e : DictEntry} {Q : Option Value → Shared → Prop} (hit : s.heap.IsKeyIter it d i es.size ep) (hm : RawAt s.heap d es ep) (hx : es[i]? = some e)
  (q : ∀ h', h'.IsKeyIter it d (i + 1) es.size ep → Heap.SameBut it s.heap h' → Q (some e.key) { s with heap := h' }) : wpAny (model prog w) A (pyNext (.ref it)) Q E s := by
 obtain ⟨o, ho, hc, hd⟩ := id hit
 obtain ⟨od, hod, hcd, hdd⟩ := id hm
 have hlt : i < es.size := (Array.getElem?_eq_some_iff.mp hx).1
 have hown : Builtin.Dict_items.ownsTuple "dict_keyiterator" = false := by decide
 unfold pyNext
 refine wpAny_bind (wpAny_attempt (wpAny_callSpecial?_slot (name := Str.ofString "__next__") hit.typeIs PySem.F.slot_dict_keyiterator_next (wpAny_call_entry PySem.F.slot_dict_keyiterator_next hit.typeIs PySem.F.entry_dict_keyiterator_next ?_ (PySem.F.args_dict_keyiterator_next_1 _))))
 refine wpAny_bind (wpAny_pure (wpAny_bind (wpAny_bind ?_)))
 first | refine wpAny_bind (wpAny_typeNameOfWhole_keyiter hit.typeIs (wpAny_pure (wpAny_bind (wpAny_fieldsOf ho hd ?_)))) | refine wpAny_bind (wpAny_typeNameOf_keyiter hit.typeIs (wpAny_pure (wpAny_bind (wpAny_fieldsOf ho hd ?_))))
 simp only [hown, Bool.false_eq_true, if_false]
 show wpAny _ _ (if (Value.ref d == Value.none) = true then _ else _) _ _ s
 rw [if_neg (show ¬ ((Value.ref d == Value.none) = true) from Bool.false_ne_true)]
 refine wpAny_bind (wpAny_pure (wpAny_bind (wpAny_dictEntries hod hdd ?_)))
 rw [if_neg (by simp)]
 refine wpAny_bind (wpAny_pure (wpAny_bind (wpAny_dictEpoch hod hdd ?_)))
 rw [if_neg (by simp)]
 refine wpAny_pure ?_
 simp only [show ¬ ((i : Int) < 0) from by omega, if_false, Int.toNat_natCast, hx]
 refine wpAny_bind ?_
 first | refine wpAny_bind (wpAny_typeNameOfWhole_keyiter hit.typeIs (wpAny_pure (wpAny_bind (wpAny_isOneOf_keyiter hit.typeIs ?_)))) | refine wpAny_bind (wpAny_typeNameOf_keyiter hit.typeIs (wpAny_pure (wpAny_bind (wpAny_isOneOf_keyiter hit.typeIs ?_))))
 show wpAny _ _ (setField (.ref it) 1 (rawInt ((i : Int) + 1)) >>= _) _ _ s
 have hit' : (s.heap.update it (Obj.mapFields (·.setIfInBounds 1 (rawInt ((i : Int) + 1))))).IsKeyIter it d (i + 1) es.size ep :=
  ⟨_, Heap.get?_update_self _ ho (Obj.isFreed_of_fields (Obj.data_mapFields hd _)), (Obj.cls_mapFields ..).trans hc, by rw [Obj.data_mapFields hd]; simp [rawInt]⟩
 refine wpAny_bind (wpAny_setField ho hd (by simp) (wpAny_bind (wpAny_holding ?_)))
 refine wpAny_bind (wpAny_isOneOf_keyiter (s := { s with heap := s.heap.update it (Obj.mapFields (·.setIfInBounds 1 (rawInt ((i : Int) + 1)))) }) hit'.typeIs ?_)
 show wpAny _ _ (pure e.key) _ _ _
 exact wpAny_pure (wpAny_pure ⟨_, rfl, wpAny_pure (q _ hit' (Heap.SameBut.update ..))⟩)
theorem raw_end {Q : Option Value → Shared → Prop} (hh : A.handled = none) (hit : s.heap.IsKeyIter it d es.size es.size ep) (hm : RawAt s.heap d es ep) (q : ∀ h', Heap.ExtBut it s.heap h' → Q none { s with heap := h' }) : wpAny (model prog w) A (pyNext (.ref it)) Q E s := by
 obtain ⟨o, ho, hc, hd⟩ := id hit
 obtain ⟨od, hod, hcd, hdd⟩ := id hm
 have hown : Builtin.Dict_items.ownsTuple "dict_keyiterator" = false := by decide
 have hx : es[es.size]? = none := by simp
 unfold pyNext
 refine wpAny_bind (wpAny_attempt (wpAny_callSpecial?_slot (name := Str.ofString "__next__") hit.typeIs PySem.F.slot_dict_keyiterator_next (wpAny_call_entry PySem.F.slot_dict_keyiterator_next hit.typeIs PySem.F.entry_dict_keyiterator_next ?_ (PySem.F.args_dict_keyiterator_next_1 _))))
 refine wpAny_bind (wpAny_pure (wpAny_bind (wpAny_bind ?_)))
 first | refine wpAny_bind (wpAny_typeNameOfWhole_keyiter hit.typeIs (wpAny_pure (wpAny_bind (wpAny_fieldsOf ho hd ?_)))) | refine wpAny_bind (wpAny_typeNameOf_keyiter hit.typeIs (wpAny_pure (wpAny_bind (wpAny_fieldsOf ho hd ?_))))
 simp only [hown, Bool.false_eq_true, if_false]
 show wpAny _ _ (if (Value.ref d == Value.none) = true then _ else _) _ _ s
 rw [if_neg (show ¬ ((Value.ref d == Value.none) = true) from Bool.false_ne_true)]
 refine wpAny_bind (wpAny_pure (wpAny_bind (wpAny_dictEntries hod hdd ?_)))
 rw [if_neg (by simp)]
 refine wpAny_bind (wpAny_pure (wpAny_bind (wpAny_dictEpoch hod hdd ?_)))
 rw [if_neg (by simp)]
 refine wpAny_pure ?_
 simp only [show ¬ ((es.size : Int) < 0) from by omega, if_false, Int.toNat_natCast, hx]
 refine wpAny_bind ?_
 first | refine wpAny_bind (wpAny_typeNameOfWhole_keyiter hit.typeIs (wpAny_pure ?_)) | refine wpAny_bind (wpAny_typeNameOf_keyiter hit.typeIs (wpAny_pure ?_))
 show wpAny _ _ (setField (.ref it) 0 .none >>= _) _ _ s
 refine wpAny_bind (wpAny_setField ho hd (by simp) ?_)
 show wpAny _ _ (newExc (.type "StopIteration") [] >>= _) _ _ _
 refine wpAny_bind ?_
 simp only [newExc, newTuple]
 refine wpAny_bind (wpAny_newObj_type (wpAny_bind (m := firstArgMember _ _) (wpAny_of_eq (a := Value.none) (by first | rfl | (simp only [firstArgMember]; rfl)) (wpAny_newObj_type ?_ (by size_fits)))) (by size_fits))
 simp only [raiseNew]
 refine wpAny_bind (wpAny_handled ?_)
 rw [show A.in1.handled = none from hh]
 refine wpAny_bind (wpAny_pure (wpAny_throw ?_))
 refine wpAny_bind (wpAny_isInstance (T := "StopIteration") (b := true) ⟨_, Heap.get?_push_size _ rfl, rfl⟩ isSubtype_stop ?_)
 exact wpAny_pure (q _ (((Heap.SameBut.update ..).extBut.push _).push _))
theorem raw_walk (hh : A.handled = none) (I d : Addr) (hne : d ≠ I) (es : Array DictEntry) (ep : Nat) :
  Walks prog w A I [I, d] [I] es.size (fun i v => ∃ e, es[i]? = some e ∧ v = e.key) (fun i h => h.IsKeyIter I d i es.size ep ∧ RawAt h d es ep) where
 sub := fun b hb => by simp at hb; simp [hb]
 frame := fun _ _ _ st hk => ⟨st.1.at fun o e => hk I (by simp) o e, st.2.keep fun o e => hk d (by simp) o e⟩
 item := fun i s Q E hi st hQ => by
  have hx : es[i]? = some es[i] := Array.getElem?_eq_getElem hi
  refine raw_next st.1 st.2 hx fun h' hit' hs' => ?_
  exact hQ es[i].key h' s.toks ⟨_, hx, rfl⟩ ⟨hit', st.2.keep fun o e => hs'.extBut d o hne e⟩ fun b o hb e => hs'.extBut b o (fun h => hb (by simp [h])) e
 done := fun s Q E st hQ => raw_end hh st.1 st.2 fun h' he' => hQ h' s.toks fun b o hb e => he' b o (fun h => hb (by simp [h])) e
 self := fun _ _ _ _ st hQ => wpAny_pyIter_keyiter st.1 hQ
theorem raw_src (lo : (d == sysModules) = false) : PySem.W.KdlSrc prog w "dict" d d es.size (fun i v => ∃ e, es[i]? = some e ∧ v = e.key) (fun h => RawAt h d es ep) where
 type := fun _ hm => hm.ty
 there := fun _ hm => let ⟨_, ho, _⟩ := hm; ⟨Heap.lt_size ho, Heap.lt_size ho⟩
 keep := fun _ _ hm hk => hm.keep fun o e => hk d (.inl rfl) o e
 notList := by decide
 notTuple := by decide
 hint := fun _ _ _ _ hm hq => PySem.W.kdl_hint_dict hm.ty hq
 iter := fun _ _ hh hm => ⟨_, _, (fun _ _ hq => raw_iter lo hm hq), raw_walk hh _ d (let ⟨_, ho, _⟩ := hm; Nat.ne_of_lt (Heap.lt_size ho)) es ep, ⟨⟨_, Heap.get?_push_size _ rfl, rfl, rfl⟩, hm.keep fun o e => Heap.get?_push_of_some _ e⟩⟩
end
section
variable {X : Cx} {pins : List (Addr × Obj)} {σ : St} {H : Hp} {s : Shared} {a : Addr}
theorem keys_dT {kvs : List (List Key × V)} (I : Inv X pins σ H s) (e : H a = some (.dT kvs)) : (a == sysModules) = false ∧ kvs.length ≤ sizeLine ∧ ∃ es ep bs, RawAt s.heap a es ep ∧ es.size = kvs.length ∧ bs.length = kvs.length ∧ (∀ (i : Nat) (e : DictEntry), es[i]? = some e → ∃ b : Addr, bs[i]? = some b ∧ e.key = Value.ref b) ∧ Paired (fun (p : List Key × V) (b : Addr) => H b = some (.tup (p.1.map kV))) kvs bs := by
 obtain ⟨z, hS, xs, r, o, es, ep, h1, h2, h3, h4, _⟩ := (show ObjOk X.prog X.w H s.heap a (.dT kvs) from I.hok a _ e)
 have hl : kvs.length = xs.length := Paired.length r
 have hes : es.size = xs.length := by have := congrArg List.length h4; simpa using this
 refine ⟨hS, z, es, ep, xs.map (·.2.1), ⟨o, h1, h2, h3⟩, by omega, by rw [List.length_map]; omega, fun i e he => ?_, ?_⟩
 ·have : es.toList[i]? = some e := by rw [Array.getElem?_toList]; exact he
  rw [h4, List.getElem?_map] at this
  obtain ⟨x, x1, x2⟩ := Option.map_eq_some_iff.mp this
  exact ⟨x.2.1, by rw [List.getElem?_map, x1]; rfl, by rw [← x2]; rfl⟩
 ·clear hes h4 hl
  have : ∀ {l : List (List Key × V)} {m : List (List Key × Addr × Value)}, Paired (fun (p : List Key × V) (q : List Key × Addr × Value) => p.1 = q.1 ∧ H q.2.1 = some (.tup (p.1.map kV)) ∧ RelV p.2 q.2.2) l m → Paired (fun (p : List Key × V) (b : Addr) => H b = some (.tup (p.1.map kV))) l (m.map (·.2.1)) := by
   intro l m h
   induction h with
   | nil => exact .nil
   | cons h t ih => exact .cons h.2.1 ih
  exact this r
theorem dk_raw {P : Program} {w : World} {h : Heap} {kvs : List (Key × V)} (x : ObjOk P w H h a (.dK kvs)) : (a == sysModules) = false ∧ kvs.length ≤ sizeLine ∧ ∃ es ep, RawAt h a es ep ∧ es.size = kvs.length ∧ ∀ (i : Nat) (e : DictEntry), es[i]? = some e → ∃ k v, kvs[i]? = some (k, v) ∧ RelV (kV k) e.key := by
 obtain ⟨z, hS, vs, r, o, es, ep, h1, h2, h3, h4, h5, _⟩ := x
 have hl : kvs.length = vs.length := r.length
 have hes : es.size = vs.length := by rw [← h5.length]; simp
 refine ⟨hS, z, es, ep, ⟨o, h1, h2, h3⟩, by omega, fun i e he => ?_⟩
 have hi : i < es.size := (Array.getElem?_eq_some_iff.mp he).1
 have hv : vs[i]? = some (vs[i]'(by omega)) := List.getElem?_eq_getElem _
 have hk := (h5.get? (e := e) (by rw [Array.getElem?_toList]; exact he) hv).1
 have key : ∀ {l : List (Key × V)} {m : List (Key × Value)}, KV l m → ∀ {i : Nat} {q : Key × Value}, m[i]? = some q → ∃ v, l[i]? = some (q.1, v) := by
  intro l m hh
  unfold KV at hh
  induction hh with
  | nil => intro i q e; simp at e
  | @cons p q' ps qs h t ih =>
   intro i q e
   cases i with
   | zero =>
    simp at e
    subst e
    have h1 : p.1 = q'.1 := h.1
    exact ⟨p.2, by simp [← h1]⟩
   | succ i => simpa using ih (by simpa using e)
 obtain ⟨v, hv2⟩ := key r hv
 exact ⟨_, v, hv2, kV_rel hk⟩
end
end L2
namespace HT
open PySem PySem.Spec PyProof.Rows L2
section
variable {prog : Program} {w : World} {A : Around} {E : Value → Shared → Prop} {s : Shared}
theorem getItem_tuple_all {t sl : Addr} {items : Array Value} {vl vu : Value} {lo hi : Option Int} {Q : Value → Shared → Prop} (ht : IsTup s.heap t items) (hs : s.heap.IsSliceOf sl vl vu .none) (pl : IsPart vl lo) (pu : IsPart vu hi)
  (hw : sIx items.size 0 lo = 0 ∧ sIx items.size items.size hi = items.size) (h : Q (.ref t) s) : wpAny (model prog w) A (getItem (.ref t) (.ref sl)) Q E s := by
 obtain ⟨os, hos, hcs, hds⟩ := id hs
 have hTs : s.TypeIs (.ref sl) "slice" := ⟨os, hos, hcs⟩
 unfold getItem
 try with_reducible refine wpAny_holding ?_
 first | refine wpAny_bind (wpAny_pure ?_) | skip
 refine wpAny_bind (wpAny_sequenceKey ht.typeIs (by decide) ?_)
 refine wpAny_bind (wpAny_callSpecial?_slot (name := Str.ofString "__getitem__") ht.typeIs PyProof.Rows.slot_tuple_getitem
  (wpAny_call_entry PyProof.Rows.slot_tuple_getitem ht.typeIs entry_tuple_getitem ?_ (args_tuple_getitem _ _)))
 show wpAny _ _ (Builtin.Tuple.tupleItemsOf (.ref t) >>= _) _ _ s
 refine wpAny_bind (tupleItemsOf_ ht ?_)
 refine wpAny_bind (wpAny_typeOf hTs ?_)
 rw [if_pos (by decide)]
 refine wpAny_bind (sliceApplied_gen hs pl pu ?_)
 have hyes : (((sIx items.size 0 lo : Nat) : Int) == 0 && (1 : Int) == 1 && (sIx items.size items.size hi - sIx items.size 0 lo) == items.size) = true := by
  rw [hw.1, hw.2]; simp
 show wpAny _ _ (if (((sIx items.size 0 lo : Nat) : Int) == 0 && (1 : Int) == 1 && (sIx items.size items.size hi - sIx items.size 0 lo) == items.size) = true then _ else _) _ _ s
 rw [if_pos hyes]
 refine wpAny_bind (m := Builtin.Tuple.tupleIsExact (.ref t)) (wpAny_bind (wpAny_typeOf ht.typeIs (wpAny_pure ?_)))
 rw [if_pos (by decide)]
 first
  | exact wpAny_bind (wpAny_rule (wpAny_bind (wpAny_pure (wpAny_pure ⟨_, rfl, wpAny_pure h⟩))))
  | exact wpAny_bind (wpAny_rule (wpAny_pure ⟨_, rfl, wpAny_pure h⟩))
end
end HT
namespace L2
open PySem PySem.Spec PyProof.Rows
section
variable {X : Cx}
def rSlA (K : PySem.W.Frag) : V → Option Int → Option Int → Hp → VK → Prop := fun x lo hi H Q => ∃ a xs, x = .ref a ∧ SqT K H a xs ∧
 (HT.sIx xs.length 0 lo = 0 ∧ HT.sIx xs.length xs.length hi = xs.length) ∧ Q (.ref a) H
theorem sl_tupA : SlR X (rSlA X.K) := by
 intro pins s σ H x v vl vu lo hi sl Q I rx hs pl pu h
 obtain ⟨a, xs, rfl, hx, hw, q⟩ := h
 cases rx
 obtain ⟨its, r, ht, hz⟩ := I.tuple hx
 have hlen : its.toArray.size = xs.length := by rw [List.size_toArray]; exact r.length.symm
 refine ⟨"tuple", _, PyProof.Rows.slot_tuple_getitem.lookup, ht.typeIs, ?_⟩
 exact HT.getItem_tuple_all ht hs pl pu (by rw [hlen]; exact hw) ⟨.ref a, H, I, rfl, q⟩
end
end L2
namespace L2
open PySem PySem.Spec PyProof.Rows
theorem args_min_d (a v : Value) : argsOk "min" ⟨[a], [(Str.ofString "default", v)]⟩ := by unfold argsOk; kernel_rfl
theorem thn2 {M : Model} {A : Around} {E : Value → Shared → Prop} {s : Shared} {α : Type} {m : Sem α} {Q Q' : α → Shared → Prop} (h : wpAny M A m Q E s) (k : ∀ a s', Q a s' → Q' a s') : wpAny M A m Q' E s := wpAny_mono h k fun _ _ e => e
abbrev dfl (d : Value) : List (Str × Value) := [(Str.ofString "default", d)]
section
variable {prog : Program} {w : World} {A : Around} {d : Value}
theorem minD_go {R : Result → Shared → Prop} {I S : Addr} {fp wr : List Addr} {n : Nat} {P : Nat → Value → Prop} {St : Nat → Heap → Prop} (W : Walks prog w A.in1 I fp wr n P St) (lt : Nat → Nat → Bool) (hc : CmpOf prog w A.in1 .Lt P lt) (off : S ∉ fp) (r : Nat) :
  ∀ (i : Nat) (s : Shared) (v : Value) (q : Nat), n = i + 1 + r → St (i + 1) s.heap → P (argBest lt i) v → s.heap.get? S = some { cls := .type "list", dict := none, data := .seq #[v, v] q, slots := #[] } →
   (∀ u g tk, P (argBest lt (n - 1)) u → (∀ b o, b ∉ wr → b ≠ S → s.heap.get? b = some o → g.get? b = some o) → R (.ok (.ret u)) { s with heap := g, toks := tk }) →
   codeAny (model prog w) A (.builtin "min.loop" ⟨[.ref I, .none, .ref S], dfl d⟩) R s := by
 have offw : S ∉ wr := fun z => off (W.sub _ z)
 have nm : (toString "min" ++ toString ".loop" : String) = "min.loop" := by decide
 induction r with
 | zero =>
  intro i s v q hn st hv hS out
  refine codeAny_builtin PySem.F.entry_min_loop ?_
  rw [Around.under_plainId PySem.F.plain_min_loop _]
  refine wpAny_bind (m := seqItems? (.ref S)) (wpAny_seqItems hS rfl ?_)
  refine wpAny_bind (m := tryCatch (pyNext (.ref I)) _) (wpAny_tryCatch (W.done s _ _ ((show i + 1 = n by omega) ▸ st) fun g tk keep => ?_))
  refine wpAny_bind (m := updateSeq S (fun _ => #[])) (wpAny_updateSeq (keep S _ offw hS) rfl (wpAny_bind (wpAny_letGo (wpAny_pure ?_))))
  exact out v _ tk (by rw [show n - 1 = i by omega]; exact hv) fun b o h1 h2 e => (Heap.get?_update_other _ _ (Ne.symm h2)).trans (keep b o h1 e)
 | succ r ih =>
  intro i s v q hn st hv hS out
  refine codeAny_builtin PySem.F.entry_min_loop ?_
  rw [Around.under_plainId PySem.F.plain_min_loop _]
  refine wpAny_bind (m := seqItems? (.ref S)) (wpAny_seqItems hS rfl ?_)
  refine wpAny_bind (m := tryCatch (pyNext (.ref I)) _) (wpAny_tryCatch (W.item (i + 1) s _ _ (by omega) st fun u g tk hu st' keep => ?_))
  have hS' := keep S _ offw hS
  refine wpAny_bind (m := tryCatch (holding [u, u] (richCompare .Lt u v >>= _)) _) (wpAny_tryCatch (wpAny_holding (wpAny_bind (hc (i + 1) (argBest lt i) u v _ _ _ hu hv ?_))))
  refine wpAny_bind (wpAny_holding (wpAny_truthy_bool (wpAny_bind (wpAny_letGo (wpAny_pure ?_)))))
  by_cases hb : lt (i + 1) (argBest lt i) = true
  ·rw [hb, if_pos rfl]
   refine wpAny_bind (wpAny_updateSeq hS' rfl (wpAny_bind (wpAny_letGo ?_)))
   rw [nm]
   have key := ih (i + 1) { s with heap := g.update S (Obj.mapSeq fun _ => #[u, u]), toks := tk } u _ (by omega) (W.frame _ _ _ st' fun b hbf o e => (Heap.get?_update_other _ _ (fun z : S = b => off (z ▸ hbf))).trans e)
    (by rw [show argBest lt (i + 1) = i + 1 from if_pos hb]; exact hu) (Heap.get?_update_self _ hS' rfl) fun u' g' tk' h1 h2 => out u' g' tk' h1 fun b o h3 h4 e => h2 b o h3 h4 ((Heap.get?_update_other _ _ (Ne.symm h4)).trans (keep b o h3 e))
   exact wpAny_pure ⟨plainId_quiet PySem.F.plain_min_loop _, key⟩
  ·rw [Bool.not_eq_true] at hb
   rw [hb, if_neg Bool.false_ne_true]
   refine wpAny_bind (wpAny_letGo ?_)
   rw [nm]
   have key := ih (i + 1) { s with heap := g, toks := tk } v q (by omega) st' (by rw [show argBest lt (i + 1) = argBest lt i from if_neg (by rw [hb]; exact Bool.false_ne_true)]; exact hv) hS' fun u' g' tk' h1 h2 => out u' g' tk' h1 fun b o h3 h4 e => h2 b o h3 h4 (keep b o h3 e)
   exact wpAny_pure ⟨plainId_quiet PySem.F.plain_min_loop _, key⟩
theorem minD_first {R : Result → Shared → Prop} {I S : Addr} {fp wr : List Addr} {n : Nat} {P : Nat → Value → Prop} {St : Nat → Heap → Prop} {s : Shared} {q : Nat} (W : Walks prog w A.in1 I fp wr n P St) (lt : Nat → Nat → Bool) (hc : CmpOf prog w A.in1 .Lt P lt) (off : S ∉ fp) (st : St 0 s.heap)
  (hS : s.heap.get? S = some { cls := .type "list", dict := none, data := .seq #[] q, slots := #[] })
  (none : n = 0 → ∀ g tk, (∀ b o, b ∉ wr → b ≠ S → s.heap.get? b = some o → g.get? b = some o) → R (.ok (.ret d)) { s with heap := g, toks := tk })
  (out : 0 < n → ∀ u g tk, P (argBest lt (n - 1)) u → (∀ b o, b ∉ wr → b ≠ S → s.heap.get? b = some o → g.get? b = some o) → R (.ok (.ret u)) { s with heap := g, toks := tk }) :
  codeAny (model prog w) A (.builtin "min.loop" ⟨[.ref I, .none, .ref S], dfl d⟩) R s := by
 have offw : S ∉ wr := fun z => off (W.sub _ z)
 have nm : (toString "min" ++ toString ".loop" : String) = "min.loop" := by decide
 refine codeAny_builtin PySem.F.entry_min_loop ?_
 rw [Around.under_plainId PySem.F.plain_min_loop _]
 refine wpAny_bind (m := seqItems? (.ref S)) (wpAny_seqItems hS rfl ?_)
 by_cases h0 : n = 0
 ·refine wpAny_bind (m := tryCatch (pyNext (.ref I)) _) (wpAny_tryCatch (W.done s _ _ (h0 ▸ st) fun g tk keep => ?_))
  refine wpAny_bind (m := rule _) (wpAny_rule (wpAny_pure ?_))
  exact none h0 g tk fun b o h1 _ e => keep b o h1 e
 ·have hn : 0 < n := Nat.pos_of_ne_zero h0
  refine wpAny_bind (m := tryCatch (pyNext (.ref I)) _) (wpAny_tryCatch (W.item 0 s _ _ hn st fun u g tk hu st' keep => ?_))
  have hS' := keep S _ offw hS
  refine wpAny_bind (m := updateSeq S (fun _ => #[u, u])) (wpAny_updateSeq hS' rfl ?_)
  rw [nm]
  have key := minD_go (d := d) W lt hc off (n - 1) 0 { s with heap := g.update S (Obj.mapSeq fun _ => #[u, u]), toks := tk } u _ (by omega) (W.frame _ _ _ st' fun b hbf o e => (Heap.get?_update_other _ _ (fun z : S = b => off (z ▸ hbf))).trans e) hu (Heap.get?_update_self _ hS' rfl)
   fun u' g' tk' h1 h2 => out hn u' g' tk' h1 fun b o h3 h4 e => h2 b o h3 h4 ((Heap.get?_update_other _ _ (Ne.symm h4)).trans (keep b o h3 e))
  exact wpAny_pure ⟨plainId_quiet PySem.F.plain_min_loop _, key⟩
theorem call_minD {E : Value → Shared → Prop} {s : Shared} {x : Value} {Q : Value → Shared → Prop}
  (h : wpAny (model prog w) A.in1 (pyIter x) (fun it s2 => ∃ I fp wr n P St lt, it = .ref I ∧ Walks prog w A.in1 I fp wr n P St ∧ St 0 s2.heap ∧ (∀ b ∈ fp, b < s2.heap.objs.size) ∧ CmpOf prog w A.in1 .Lt P lt ∧
   (n = 0 → ∀ g tk, (∀ b o, b ∉ wr → s2.heap.get? b = some o → g.get? b = some o) → Q d { s2 with heap := g, toks := tk }) ∧
   (0 < n → ∀ u g tk, P (argBest lt (n - 1)) u → (∀ b o, b ∉ wr → s2.heap.get? b = some o → g.get? b = some o) → Q u { s2 with heap := g, toks := tk })) E s) :
  wpAny (model prog w) A (call (.builtin "min") [x] (dfl d)) Q E s := by
 have nm : (toString "min" ++ toString ".loop" : String) = "min.loop" := by decide
 refine kmb_tree PySem.F.kind_min PySem.F.plain_min PySem.F.entry_min (args_min_d _ _) ?_
 refine wpAny_bind (m := Builtin.Builtins.bindParams "min" ["key", "default"] 0 ⟨[], dfl d⟩) (wpAny_of_eq (show Builtin.Builtins.bindParams "min" ["key", "default"] 0 ⟨[], dfl d⟩ = pure [none, some d] from rfl) (wpAny_bind (wpAny_pure ?_)))
 refine wpAny_bind (thn2 h fun it s2 h2 => ?_)
 obtain ⟨I, fp, wr, n, P, St, lt, rfl, W, st, hf, hc, h3, h4⟩ := h2
 refine wpAny_bind (wpAny_newObj_type ?_)
 rw [nm]
 refine wpAny_pure ⟨plainId_quiet PySem.F.plain_min_loop _, minD_first W lt hc (S := s2.heap.objs.size) (fun z => Nat.lt_irrefl _ (hf _ z)) (W.frame _ _ _ st fun b _ o e => Heap.get?_push_of_some _ e) (Heap.get?_push_size _ rfl) (fun z g tk keep => ?_) fun z u g tk hu keep => ?_⟩
 ·exact h3 z g tk fun b o h1 e => keep b o h1 (Nat.ne_of_lt (Heap.lt_size e)) (Heap.get?_push_of_some _ e)
 ·exact h4 z u g tk hu fun b o h1 e => keep b o h1 (Nat.ne_of_lt (Heap.lt_size e)) (Heap.get?_push_of_some _ e)
end
end L2
namespace L2
open PySem PySem.Spec PyProof.Rows
def ledOf (w : World) : Bool := !w.params.followText "set-order"
theorem set_new_led {prog : Program} {w : World} {A : Around} {E : Value → Shared → Prop} {s : Shared} (a : Value) {Q1 : Value → Shared → Prop}
  (h : Q1 (.ref s.heap.objs.size) { s with heap := s.heap.push { cls := .type "set", dict := none, data := .set #[] 0 (.fresh 0 0 (ledOf w)) } }) :
  codeAny (model prog w) A (.call (.builtin "set.__new__") ⟨[.type "set", a], []⟩) (wants Q1 E) s := by
 refine codeAny_of_tree (wpAny_bind (m := checkBuiltinCall "set.__new__" ⟨[.type "set", a], []⟩) (wpAny_of_eq (PySem.F.newCall_set_1 a) (wpAny_pure ⟨plainId_quiet PySem.F.plain_set_new _, codeAny_builtin PySem.F.entry_set_new ?_⟩)))
 rw [Around.under_plainId PySem.F.plain_set_new _]
 unfold Builtin.«set.__new__» Builtin.Frozenset.newClass
 have z := sub_set_self
 obtain ⟨hp, g, d, tk, os⟩ := s
 dsimp only
 wp_walk
 refine wpAny_askSetting (wpAny_pure ?_)
 dsimp only [newObj]
 exact wpAny_bind (wpAny_alloc (wpAny_pure (wpAny_pure h)))
section
variable {prog : Program} {w : World} {A : Around} {J : Nat → Heap → Prop}
def AddsAt (prog : Program) (w : World) (A : Around) (S : Addr) (J : Nat → Heap → Prop) (P : Nat → Value → Prop) : Prop :=
 ∀ (i : Nat) (v : Value) (s : Shared) (E : Value → Shared → Prop) (Q : Bool → Shared → Prop), P i v → J i s.heap → (∀ b h' tk, Heap.SameBut S s.heap h' → J (i + 1) h' → Q b { s with heap := h', toks := tk }) → wpAny (model prog w) A (setAdd S v) Q E s
theorem setG_loop {R : Result → Shared → Prop} {I S : Addr} {fp wr : List Addr} {n : Nat} {P : Nat → Value → Prop} {St : Nat → Heap → Prop} (W : Walks prog w A.in1 I fp wr n P St) (off : S ∉ fp)
  (fr : ∀ i h h', J i h → (∀ b o, b ∉ wr → h.get? b = some o → h'.get? b = some o) → J i h') (add : AddsAt prog w A.in1 S J P) (r : Nat) :
  ∀ (i : Nat) (s : Shared), n = i + r → St i s.heap → J i s.heap → (∀ h' tk, (∀ b o, b ∉ wr → b ≠ S → s.heap.get? b = some o → h'.get? b = some o) → J n h' → R (.ok (.ret .none)) { s with heap := h', toks := tk }) →
   codeAny (model prog w) A (.builtin "set.update.loop" ⟨[.ref S, .ref I], []⟩) R s := by
 induction r with
 | zero =>
  intro i s hn st hj out
  refine codeAny_builtin PyProof.Rows.F.entry_set_update_loop ?_
  rw [Around.under_plainId PyProof.Rows.F.plain_set_update_loop _]
  refine wpAny_bind (m := pyNext (.ref I)) (W.done s _ _ ((show i = n by omega) ▸ st) fun h' tk keep => ?_)
  exact wpAny_pure (out h' tk (fun b o h1 _ e => keep b o h1 e) ((show i = n by omega) ▸ fr i _ _ hj fun b o h1 e => keep b o h1 e))
 | succ r ih =>
  intro i s hn st hj out
  refine codeAny_builtin PyProof.Rows.F.entry_set_update_loop ?_
  rw [Around.under_plainId PyProof.Rows.F.plain_set_update_loop _]
  refine wpAny_bind (m := pyNext (.ref I)) (W.item i s _ _ (by omega) st fun v h' tk hv st' keep => ?_)
  refine wpAny_bind (m := holding [v] (setAdd S v)) (wpAny_holding (add i v _ _ _ hv (fr i _ _ hj fun b o h1 e => keep b o h1 e) fun bb h2 tk2 sb hj2 => ?_))
  refine wpAny_pure ⟨plainId_quiet PyProof.Rows.F.plain_set_update_loop _, ih (i + 1) _ (by omega) (W.frame _ _ _ st' fun b hb o e => ?_) hj2 fun h3 tk3 k3 j3 => ?_⟩
  ·exact (sb.2 b (fun z => off (z ▸ hb))).trans e
  ·exact out h3 tk3 (fun b o h1 h2' e => k3 b o h1 h2' ((sb.2 b h2').trans (keep b o h1 e))) j3
set_option maxHeartbeats 3200000 in
theorem call_setG {E : Value → Shared → Prop} {s : Shared} {l : Addr} {items : Array Value} {Q : Value → Shared → Prop} (hh : A.handled = none) (hl : s.heap.IsList l items)
  (fr : ∀ i h h', J i h → (∀ b o, b ∉ [(s.heap.objs.size + 1)] → h.get? b = some o → h'.get? b = some o) → J i h')
  (j0 : ∀ h : Heap, (∀ b o, s.heap.get? b = some o → h.get? b = some o) → h.get? s.heap.objs.size = some { cls := .type "set", dict := none, data := .set #[] 0 (.fresh 0 0 (ledOf w)) } → J 0 h)
  (add : ∀ B : Around, B.units ≤ A.units + 20 → B.handled = none → AddsAt prog w B s.heap.objs.size J (fun i v => items[i]? = some v))
  (h : ∀ h' tk, J items.size h' → (∀ b o, b < s.heap.objs.size → s.heap.get? b = some o → h'.get? b = some o) → Q (.ref s.heap.objs.size) { s with heap := h', toks := tk }) :
  wpAny (model prog w) A (call (.type "set") [.ref l]) Q E s := by
 obtain ⟨c, tl, hmro⟩ := PySem.F.called_set.mro
 have y1 := PySem.F.called_set.made
 have y2 := PySem.F.called_set.sub
 refine wpAny_call (codeAny_of_tree ?_)
 show wpAny _ _ (callAny (.type "set") _) _ _ _
 refine wpAny_pure ⟨Code.quiet_builtin _ (by decide +kernel), codeAny_builtin PySem.F.entry_type_call ?_⟩
 rw [Around.under_plain (weight_type_call_type "set" [.ref l] []) rfl]
 have y3 := PySem.F.called_set.notType
 have y4 := PySem.F.called_set.canCreate
 have y5 := PySem.F.typeCall_set_1 (.ref l)
 repeat (any_goals (first | assumption | wp_step))
 refine codeAny_mono (set_new_led (.ref l) (E := E) (Q1 := fun ob s1 => ob = .ref s.heap.objs.size ∧ s1 = { s with heap := s.heap.push { cls := .type "set", dict := none, data := .set #[] 0 (.fresh 0 0 (ledOf w)) } }) ⟨rfl, rfl⟩) fun r s1 hr => ?_
 cases r with
 | error e => exact hr
 | ok fl =>
  cases fl with
  | ret ob =>
   obtain ⟨rfl, rfl⟩ := hr
   generalize hH1 : s.heap.push { cls := .type "set", dict := none, data := .set #[] 0 (.fresh 0 0 (ledOf w)) } = H1
   have z1 : H1.objs.size = s.heap.objs.size + 1 := by rw [← hH1, Heap.size_push]
   have k1 : ∀ b o, s.heap.get? b = some o → H1.get? b = some o := fun b o e => by rw [← hH1]; exact Heap.get?_push_of_some _ e
   have hS : H1.get? s.heap.objs.size = some { cls := .type "set", dict := none, data := .set #[] 0 (.fresh 0 0 (ledOf w)) } := by rw [← hH1]; exact Heap.get?_push_size _ rfl
   have hT : Shared.TypeIs { s with heap := H1 } (.ref s.heap.objs.size) "set" := ⟨_, hS, rfl⟩
   have y6 := PySem.F.called_set.init.lookup
   have y7 := PySem.F.called_set.init.bind (.ref s.heap.objs.size)
   repeat (any_goals (first | assumption | wp_step))
   refine codeAny_mono (codeAny_call_builtin (R := wants (fun r s2 => r = .none ∧ ∃ h' tk, s2 = { s with heap := h', toks := tk } ∧ J items.size h' ∧ (∀ b o, b < s.heap.objs.size → s.heap.get? b = some o → h'.get? b = some o)) E) PySem.F.called_set.init.plain PySem.F.entry_set_init (check_set_init_1 hT ?_)) fun r2 s2 hr2 => ?_
   ·obtain ⟨ol, hol, hcl, nl, hdl⟩ := id hl
    obtain ⟨ocls, odict, odata, oslots⟩ := ol
    simp only at hcl hdl
    subst hcl; subst hdl
    have hol1 := k1 l _ hol
    have w1 := PySem.F.sub_list_set
    have w2 := PySem.F.sub_list_frozenset
    have w3 : (Value.type "list" == Value.type "dict") = false := by decide
    have hl1 : H1.IsList l items := ⟨_, hol1, rfl, nl, rfl⟩
    unfold Builtin.«set.__init__» noKeywords Builtin.Frozenset.updateFrom
    generalize hPI : pyIter = PI
    wp_walk
    subst hPI
    refine wpAny_pyIter_list hl1 ?_
    refine wpAny_bind (wpAny_runValue ?_)
    have lz : l < s.heap.objs.size := Heap.lt_size hol
    have a1 : l ≠ H1.objs.size := by rw [z1]; exact Nat.ne_of_lt (Nat.lt_succ_of_lt lz)
    have a2 : s.heap.objs.size ∉ [H1.objs.size, l] := by
     simp only [List.mem_cons, List.not_mem_nil, or_false, not_or]
     exact ⟨by rw [z1]; exact Nat.ne_of_lt (Nat.lt_succ_self _), Nat.ne_of_gt lz⟩
    refine setG_loop (J := J) (Walks.list (by simp [hh]) _ l a1 items) a2 (by rw [z1]; exact fr) (add _ ?_ ?_) (items.size - 0) 0 _ (by omega) ⟨⟨_, Heap.get?_push_size _ rfl, rfl, rfl⟩, hl1.push _⟩ (j0 _ (fun b o e => Heap.get?_push_of_some _ (k1 b o e)) (Heap.get?_push_of_some _ hS)) fun h' tk keep hj => ?_
    ·show A.in1.in1.in1.units ≤ A.units + 20
     simp only [Around.in1_units]
     omega
    ·simp [hh]
    ·refine wpAny_pure (wpAny_pure ⟨rfl, h', tk, rfl, hj, fun b o hb e => keep b o ?_ (Nat.ne_of_lt hb) (Heap.get?_push_of_some _ (k1 b o e))⟩)
     simp only [List.mem_cons, List.not_mem_nil, or_false]
     rw [z1]
     exact Nat.ne_of_lt (Nat.lt_succ_of_lt hb)
   ·cases r2 with
    | error e => exact hr2
    | ok fl2 =>
     cases fl2 with
     | ret r =>
      obtain ⟨rfl, h', tk, rfl, hj, hk⟩ := hr2
      repeat (any_goals (first | assumption | wp_step))
      exact h _ _ hj hk
     | _ => exact hr2.elim
  | _ => exact hr.elim
end
end L2
namespace L2
open PySem PySem.Spec PyProof.Rows
def dN {K : Type} [DecidableEq K] (val : Nat → K) : Nat → Nat
 | 0 => 0
 | i + 1 => if val i ∈ (List.range i).map val then dN val i else dN val i + 1
theorem dN_le {K : Type} [DecidableEq K] (val : Nat → K) : ∀ i, dN val i ≤ i
 | 0 => Nat.le_refl _
 | i + 1 => by
  have := dN_le val i
  unfold dN
  split <;> omega
section
variable {prog : Program} {w : World} {B : Around} {K : Type} [DecidableEq K]
theorem addsK (knd : KeyKind prog w K) (S : Addr) (items : Array Value) (val : Nat → K) (hv : ∀ i v, items[i]? = some v → knd.is (val i) v = true ∧ v.scannable = true) (hn : items.size + 1 < scanBound) :
  AddsAt prog w B S (fun i h => h.SetOf knd S (fun k => decide (k ∈ (List.range i).map val)) (dN val i)) (fun i v => items[i]? = some v) := by
 intro i v s E Q hp hj out
 obtain ⟨h1, h2⟩ := hv i v hp
 have hi : i < items.size := (Array.getElem?_eq_some_iff.mp hp).1
 unfold setAdd
 refine wpAny_holding (wpAny_bind (knd.pyHash h1 ?_))
 refine wpAny_setAddHashed_of (knd := knd) (s := { s with toks := s.toks + 1 }) h1 h2 hj (by have := dN_le val i; omega) fun h' sb hS => ?_
 refine out _ h' _ sb ?_
 have e1 : (fun k' => decide (k' ∈ (List.range i).map val) || decide (k' = val i)) = fun k' => decide (k' ∈ (List.range (i + 1)).map val) := by
  funext k'
  rw [List.range_succ, List.map_append, Bool.eq_iff_iff]
  simp only [Bool.or_eq_true, decide_eq_true_eq, List.mem_append, List.map_cons, List.map_nil, List.mem_singleton]
 have e2 : (if decide (val i ∈ (List.range i).map val) = true then dN val i else dN val i + 1) = dN val (i + 1) := by
  conv => rhs; unfold dN
  simp only [decide_eq_true_eq]
 rw [e1, e2] at hS
 exact hS
theorem setOf_keep {knd : KeyKind prog w K} {S : Addr} {f : K → Bool} {n : Nat} {h h' : Heap} (hS : h.SetOf knd S f n) (k : ∀ o, h.get? S = some o → h'.get? S = some o) : h'.SetOf knd S f n := by
 obtain ⟨o, es, ep, t, ho, rest⟩ := hS
 exact ⟨o, es, ep, t, k o ho, rest⟩
theorem call_setK {A : Around} {E : Value → Shared → Prop} {s : Shared} {l : Addr} {items : Array Value} {Q : Value → Shared → Prop} (knd : KeyKind prog w K) (val : Nat → K) (hh : A.handled = none) (hl : s.heap.IsList l items)
  (hv : ∀ i v, items[i]? = some v → knd.is (val i) v = true ∧ v.scannable = true) (hn : items.size + 1 < scanBound)
  (h : ∀ h' tk, h'.SetOf knd s.heap.objs.size (fun k => decide (k ∈ (List.range items.size).map val)) (dN val items.size) → (∀ b o, b < s.heap.objs.size → s.heap.get? b = some o → h'.get? b = some o) → Q (.ref s.heap.objs.size) { s with heap := h', toks := tk }) :
  wpAny (model prog w) A (call (.type "set") [.ref l]) Q E s := by
 refine call_setG (J := fun i h => h.SetOf knd s.heap.objs.size (fun k => decide (k ∈ (List.range i).map val)) (dN val i)) hh hl (fun i h h' hj k => setOf_keep hj fun o e => k _ o ?_ e) (fun h k e => ?_) (fun B _ _ => addsK knd _ items val hv hn) h
 ·simp only [List.mem_cons, List.not_mem_nil, or_false]
  exact Nat.ne_of_lt (Nat.lt_succ_self _)
 ·exact SetOf_congr (knd := knd) ((setObjOf_fresh (knd := knd) (ledOf w)).setOf e (by unfold scanBound; omega)) (fun _ => by simp) rfl
end
end L2
namespace DL
open PySem PySem.Spec PyProof.Rows L2
inductive D where
 | non
 | bl (b : Bool)
 | int (i : Int)
 | str (x : Str)
 | tup (xs : List D)
 | ref (n : Nat)
 | scr (ns : List Int)
 deriving Inhabited
inductive Ob where
 | lst (xs : List D)
 | dct (kvs : List (D × D))
 | fdct (kvs : List (D × D))
 | ins (C : Str) (fs : List (Str × D))
 deriving Inhabited
abbrev Sto := List Ob
abbrev En := List (Option D)
abbrev M (α : Type) := En → Sto → Option (α × Sto)
inductive Fl where
 | nx | rt (d : D) | bk | ct
abbrev MS := En → Sto → Option (Fl × En × Sto)
def ScrR (K : PySem.W.Frag) (H : Hp) (a : Addr) (ns : List Int) : Prop :=
 (∃ o, H a = some (.frz o (.lst (ns.map V.int)))) ∨
  ∃ (o : Obj) (its : Array Value) (n : Nat), K.lookup a = some o ∧ o.cls = .type "list" ∧ o.dict = none ∧ o.data = .seq its n ∧ its.size ≤ sizeLine ∧ Vals (ns.map V.int) its.toList
theorem ScrR.seq {K : PySem.W.Frag} {H : Hp} {a : Addr} {ns : List Int} (h : ScrR K H a ns) : SqL K H a (ns.map V.int) := by
 rcases h with ⟨o, h⟩ | h
 ·exact .inl (.inr ⟨o, h⟩)
 ·exact .inr h
mutual
def DR (K : PySem.W.Frag) (ρ : List Addr) (H : Hp) : D → V → Prop
 | .non, v => v = .non
 | .bl b, v => v = .bl b
 | .int i, v => v = .int i
 | .str x, v => v = .str x
 | .tup ds, v => ∃ a xs, v = .ref a ∧ H a = some (.tup xs) ∧ DsR K ρ H ds xs
 | .ref n, v => ∃ a, ρ[n]? = some a ∧ v = .ref a
 | .scr ns, v => ∃ a, v = .ref a ∧ ScrR K H a ns
def DsR (K : PySem.W.Frag) (ρ : List Addr) (H : Hp) : List D → List V → Prop
 | [], xs => xs = []
 | d :: ds, xs => ∃ x r, xs = x :: r ∧ DR K ρ H d x ∧ DsR K ρ H ds r
end
structure Ext (ρ : List Addr) (H : Hp) (ρ' : List Addr) (H' : Hp) : Prop where
 pre : ∀ (n : Nat) a, ρ[n]? = some a → ρ'[n]? = some a
 tup : ∀ a xs, H a = some (.tup xs) → H' a = some (.tup xs)
 frz : ∀ a o u, H a = some (.frz o u) → H' a = some (.frz o u)
theorem Ext.refl {ρ : List Addr} {H : Hp} : Ext ρ H ρ H := ⟨fun _ _ h => h, fun _ _ h => h, fun _ _ _ h => h⟩
theorem Ext.trans {ρ ρ1 ρ2 : List Addr} {H H1 H2 : Hp} (a : Ext ρ H ρ1 H1) (b : Ext ρ1 H1 ρ2 H2) : Ext ρ H ρ2 H2 :=
 ⟨fun n x h => b.pre n x (a.pre n x h), fun x xs h => b.tup x xs (a.tup x xs h), fun x o u h => b.frz x o u (a.frz x o u h)⟩
theorem Ext.new {ρ : List Addr} {H : Hp} {p : Addr} {o : HO} (hp : H p = none) : Ext ρ H ρ (upd H p o) :=
 ⟨fun _ _ h => h, fun a xs h => by rw [upd_ne (ne_of_none h hp)]; exact h, fun a u xs h => by rw [upd_ne (ne_of_none h hp)]; exact h⟩
theorem Ext.newRef {ρ : List Addr} {H : Hp} {p : Addr} {o : HO} (hp : H p = none) : Ext ρ H (ρ ++ [p]) (upd H p o) :=
 ⟨fun n a h => by rw [List.getElem?_append_left (List.getElem?_eq_some_iff.mp h).1]; exact h, (Ext.new (ρ := ρ) hp).tup, (Ext.new (ρ := ρ) hp).frz⟩
theorem Ext.upd {ρ : List Addr} {H : Hp} {p : Addr} {o o' : HO} (hp : H p = some o) (h1 : ∀ xs, o ≠ .tup xs) (h2 : ∀ ob u, o ≠ .frz ob u) : Ext ρ H ρ (L2.upd H p o') :=
 ⟨fun _ _ h => h, fun a xs h => by rw [upd_ne (ne_of h hp (Ne.symm (h1 xs)))]; exact h, fun a ob u h => by rw [upd_ne (ne_of h hp (Ne.symm (h2 ob u)))]; exact h⟩
structure Ext0 (ρ : List Addr) (H : Hp) (ρ' : List Addr) (H' : Hp) : Prop where
 pre : ∀ (n : Nat) a, ρ[n]? = some a → ρ'[n]? = some a
 tup : ∀ a xs, H a = some (.tup xs) → H' a = some (.tup xs)
 lst : ∀ a o xs, H a = some (.frz o (.lst xs)) → H' a = some (.frz o (.lst xs))
theorem Ext.weak {ρ ρ' : List Addr} {H H' : Hp} (e : Ext ρ H ρ' H') : Ext0 ρ H ρ' H' := ⟨e.pre, e.tup, fun a o xs h => e.frz a o _ h⟩
section
variable {K : PySem.W.Frag} {ρ ρ' : List Addr} {H H' : Hp}
theorem ScrR.mono {a : Addr} {ns : List Int} (e : Ext0 ρ H ρ' H') (h : ScrR K H a ns) : ScrR K H' a ns := by
 rcases h with ⟨o, h⟩ | h
 ·exact .inl ⟨o, e.lst _ _ _ h⟩
 ·exact .inr h
mutual
theorem DR.mono (e : Ext0 ρ H ρ' H') : ∀ (d : D) (v : V), DR K ρ H d v → DR K ρ' H' d v
 | .non, v, h => by unfold DR at h ⊢; exact h
 | .bl b, v, h => by unfold DR at h ⊢; exact h
 | .int i, v, h => by unfold DR at h ⊢; exact h
 | .str x, v, h => by unfold DR at h ⊢; exact h
 | .tup ds, v, h => by
  unfold DR at h ⊢
  obtain ⟨a, xs, h1, h2, h3⟩ := h
  exact ⟨a, xs, h1, e.tup a xs h2, DsR.mono e ds xs h3⟩
 | .ref n, v, h => by
  unfold DR at h ⊢
  obtain ⟨a, h1, h2⟩ := h
  exact ⟨a, e.pre n a h1, h2⟩
 | .scr ns, v, h => by
  unfold DR at h ⊢
  obtain ⟨a, h1, h2⟩ := h
  exact ⟨a, h1, h2.mono e⟩
theorem DsR.mono (e : Ext0 ρ H ρ' H') : ∀ (ds : List D) (xs : List V), DsR K ρ H ds xs → DsR K ρ' H' ds xs
 | [], xs, h => by unfold DsR at h ⊢; exact h
 | d :: ds, xs, h => by
  unfold DsR at h ⊢
  obtain ⟨x, r, h1, h2, h3⟩ := h
  exact ⟨x, r, h1, DR.mono e d x h2, DsR.mono e ds r h3⟩
end
theorem DR.up {d : D} {v : V} (h : DR K ρ H d v) (e : Ext ρ H ρ' H') : DR K ρ' H' d v := DR.mono e.weak d v h
theorem DsR.up {ds : List D} {xs : List V} (h : DsR K ρ H ds xs) (e : Ext ρ H ρ' H') : DsR K ρ' H' ds xs := DsR.mono e.weak ds xs h
theorem DsR.nil : DsR K ρ H [] [] := by unfold DsR; rfl
theorem DsR.cons {d : D} {ds : List D} {x : V} {xs : List V} (h : DR K ρ H d x) (t : DsR K ρ H ds xs) : DsR K ρ H (d :: ds) (x :: xs) := by
 unfold DsR; exact ⟨x, xs, rfl, h, t⟩
theorem DsR.length : ∀ {ds : List D} {xs : List V}, DsR K ρ H ds xs → ds.length = xs.length
 | [], xs, h => by unfold DsR at h; subst h; rfl
 | d :: ds, xs, h => by
  unfold DsR at h
  obtain ⟨x, r, h1, _, h3⟩ := h
  rw [h1, List.length_cons, List.length_cons, DsR.length h3]
theorem DsR.get : ∀ {ds : List D} {xs : List V} {i : Nat} {d : D}, DsR K ρ H ds xs → ds[i]? = some d → ∃ x, xs[i]? = some x ∧ DR K ρ H d x
 | [], _, _, _, _, e => by simp at e
 | c :: ds, xs, i, d, h, e => by
  unfold DsR at h
  obtain ⟨x, r, h1, h2, h3⟩ := h
  subst h1
  cases i with
  | zero => simp at e; subst e; exact ⟨x, rfl, h2⟩
  | succ i =>
   obtain ⟨y, e1, e2⟩ := DsR.get (i := i) h3 (by simpa using e)
   exact ⟨y, by simpa using e1, e2⟩
theorem DsR.append : ∀ {ds es : List D} {xs ys : List V}, DsR K ρ H ds xs → DsR K ρ H es ys → DsR K ρ H (ds ++ es) (xs ++ ys)
 | [], _, xs, _, h, t => by unfold DsR at h; subst h; exact t
 | d :: ds, _, xs, _, h, t => by
  unfold DsR at h
  obtain ⟨x, r, h1, h2, h3⟩ := h
  subst h1
  exact .cons h2 (DsR.append h3 t)
theorem DsR.drop : ∀ {ds : List D} {xs : List V} (n : Nat), DsR K ρ H ds xs → DsR K ρ H (ds.drop n) (xs.drop n)
 | [], xs, n, h => by
  have e : xs = [] := by unfold DsR at h; exact h
  subst e; simpa using h
 | d :: ds, xs, 0, h => by simpa using h
 | d :: ds, xs, n + 1, h => by
  unfold DsR at h
  obtain ⟨x, r, h1, h2, h3⟩ := h
  subst h1
  exact DsR.drop n h3
theorem DsR.take : ∀ {ds : List D} {xs : List V} (n : Nat), DsR K ρ H ds xs → DsR K ρ H (ds.take n) (xs.take n)
 | [], xs, n, h => by
  have e : xs = [] := by unfold DsR at h; exact h
  subst e; simpa using h
 | d :: ds, xs, 0, h => by simpa using DsR.nil
 | d :: ds, xs, n + 1, h => by
  unfold DsR at h
  obtain ⟨x, r, h1, h2, h3⟩ := h
  subst h1
  exact .cons h2 (DsR.take n h3)
theorem DsR.ints : ∀ (ns : List Int), DsR K ρ H (ns.map D.int) (ns.map V.int)
 | [] => .nil
 | n :: ns => .cons (by unfold DR; rfl) (DsR.ints ns)
theorem DR.flat_int {i : Int} : DR K ρ H (.int i) (.int i) := by unfold DR; rfl
theorem DR.flat_bl {b : Bool} : DR K ρ H (.bl b) (.bl b) := by unfold DR; rfl
theorem DR.flat_str {x : Str} : DR K ρ H (.str x) (.str x) := by unfold DR; rfl
theorem DR.flat_non : DR K ρ H .non .non := by unfold DR; rfl
theorem DR.of_int {i : Int} {v : V} (h : DR K ρ H (.int i) v) : v = .int i := by unfold DR at h; exact h
theorem DR.of_bl {b : Bool} {v : V} (h : DR K ρ H (.bl b) v) : v = .bl b := by unfold DR at h; exact h
theorem DR.of_str {x : Str} {v : V} (h : DR K ρ H (.str x) v) : v = .str x := by unfold DR at h; exact h
theorem DR.of_non {v : V} (h : DR K ρ H .non v) : v = .non := by unfold DR at h; exact h
theorem DR.of_tup {ds : List D} {v : V} (h : DR K ρ H (.tup ds) v) : ∃ a xs, v = .ref a ∧ H a = some (.tup xs) ∧ DsR K ρ H ds xs := by unfold DR at h; exact h
theorem DR.tup {ds : List D} {a : Addr} {xs : List V} (h : H a = some (.tup xs)) (t : DsR K ρ H ds xs) : DR K ρ H (.tup ds) (.ref a) := by unfold DR; exact ⟨a, xs, rfl, h, t⟩
theorem DR.of_ref {n : Nat} {v : V} (h : DR K ρ H (.ref n) v) : ∃ a, ρ[n]? = some a ∧ v = .ref a := by unfold DR at h; exact h
theorem DR.ref {n : Nat} {a : Addr} (h : ρ[n]? = some a) : DR K ρ H (.ref n) (.ref a) := by unfold DR; exact ⟨a, h, rfl⟩
theorem DR.of_scr {ns : List Int} {v : V} (h : DR K ρ H (.scr ns) v) : ∃ a, v = .ref a ∧ ScrR K H a ns := by unfold DR at h; exact h
end
def keyD : D → Option Key
 | .int i => some (.inl i)
 | .str x => some (.inr x)
 | _ => none
def keysD : List D → Option (List Key)
 | [] => some []
 | d :: ds => (keyD d).bind fun k => (keysD ds).map fun ks => k :: ks
def keysT : D → Option (List Key)
 | .tup ds => keysD ds
 | _ => none
def kEq (a b : D) : Bool := match keyD a, keyD b with
 | some x, some y => decide (x = y)
 | _, _ => match keysT a, keysT b with
  | some x, some y => decide (x = y)
  | _, _ => false
def dget (kvs : List (D × D)) (k : D) : Option D := (kvs.find? fun p => kEq p.1 k).map (·.2)
def dput (kvs : List (D × D)) (k v : D) : List (D × D) := if (kvs.any fun p => kEq p.1 k) = true then kvs.map (fun p => if kEq p.1 k = true then (p.1, v) else p) else kvs ++ [(k, v)]
def sameKind (kvs : List (D × D)) (k : D) : Bool := match keyD k with
 | some _ => kvs.all fun p => (keyD p.1).isSome
 | none => match keysT k with
  | some _ => kvs.all fun p => (keysT p.1).isSome
  | none => false
def dctAt (S : Sto) (n : Nat) (k : D) : Option (List (D × D)) := match S[n]? with
 | some (.dct kvs) => if sameKind kvs k = true then some kvs else none
 | some (.fdct kvs) => if (keyD k).isSome = true then some kvs else none
 | _ => none
def isDct (S : Sto) (n : Nat) : Bool := match S[n]? with
 | some (.dct _) => true
 | some (.fdct _) => true
 | _ => false
def ObR (K : PySem.W.Frag) (ρ : List Addr) (H : Hp) (a : Addr) : Ob → Prop
 | .lst ds => ∃ xs, H a = some (.lst xs) ∧ DsR K ρ H ds xs
 | .dct kvs => (∃ (ks : List Key) (xs : List V), H a = some (.dK (ks.zip xs)) ∧ ks.length = xs.length ∧ kvs.map (fun p => keyD p.1) = ks.map some ∧ DsR K ρ H (kvs.map (·.2)) xs) ∨
   ∃ (ks : List (List Key)) (xs : List V), H a = some (.dT (ks.zip xs)) ∧ ks.length = xs.length ∧ kvs.map (fun p => keysT p.1) = ks.map some ∧ DsR K ρ H (kvs.map (·.2)) xs
 | .fdct kvs => ∃ (o : Obj) (ks : List Key) (xs : List V), H a = some (.frz o (.dK (ks.zip xs))) ∧ ks.length = xs.length ∧ kvs.map (fun p => keyD p.1) = ks.map some ∧ DsR K ρ H (kvs.map (·.2)) xs
 | .ins C fs => ∃ (Ca dx : Addr) (xs : List V), PySem.W.nsIn K mainGlobals C = some (some (.ref Ca)) ∧ H a = some (.ins Ca dx ((fs.map (·.1)).zip xs)) ∧ DsR K ρ H (fs.map (·.2)) xs
structure StR (K : PySem.W.Frag) (ρ : List Addr) (H : Hp) (S : Sto) : Prop where
 len : ρ.length = S.length
 inj : ∀ (i j : Nat) a, ρ[i]? = some a → ρ[j]? = some a → i = j
 ob : ∀ (n : Nat) ob, S[n]? = some ob → ∃ a, ρ[n]? = some a ∧ ObR K ρ H a ob
structure EnR (K : PySem.W.Frag) (ρ : List Addr) (H : Hp) (en : En) (σ : L2.St) : Prop where
 len : en.length = σ.length
 get : ∀ (i : Nat) d, en[i]? = some (some d) → ∃ x, σ[i]? = some (some x) ∧ DR K ρ H d x
section
variable {K : PySem.W.Frag} {ρ ρ' : List Addr} {H H' : Hp} {S : Sto} {en : En} {σ : L2.St}
theorem ObR.mono {a : Addr} {ob : Ob} (h : ObR K ρ H a ob) (e : Ext0 ρ H ρ' H') (he : H' a = H a) : ObR K ρ' H' a ob := by
 cases ob with
 | lst ds =>
  obtain ⟨xs, h1, h2⟩ := h
  exact ⟨xs, he.trans h1, DsR.mono e _ _ h2⟩
 | dct kvs =>
  rcases h with ⟨ks, xs, h1, h2, h3, h4⟩ | ⟨ks, xs, h1, h2, h3, h4⟩
  ·exact .inl ⟨ks, xs, he.trans h1, h2, h3, DsR.mono e _ _ h4⟩
  ·exact .inr ⟨ks, xs, he.trans h1, h2, h3, DsR.mono e _ _ h4⟩
 | fdct kvs =>
  obtain ⟨o, ks, xs, h1, h2, h3, h4⟩ := h
  exact ⟨o, ks, xs, he.trans h1, h2, h3, DsR.mono e _ _ h4⟩
 | ins C fs =>
  obtain ⟨Ca, dx, xs, h1, h2, h3⟩ := h
  exact ⟨Ca, dx, xs, h1, he.trans h2, DsR.mono e _ _ h3⟩
theorem ObR.there {a : Addr} {ob : Ob} (h : ObR K ρ H a ob) : ∃ o, H a = some o := by
 cases ob with
 | lst ds => obtain ⟨xs, h1, _⟩ := h; exact ⟨_, h1⟩
 | dct kvs => rcases h with ⟨ks, xs, h1, _⟩ | ⟨ks, xs, h1, _⟩ <;> exact ⟨_, h1⟩
 | fdct kvs => obtain ⟨o, ks, xs, h1, _⟩ := h; exact ⟨_, h1⟩
 | ins C fs => obtain ⟨Ca, dx, xs, _, h1, _⟩ := h; exact ⟨_, h1⟩
theorem ObR.tracked {a : Addr} {ob : Ob} (h : ObR K ρ H a ob) (hf : ∀ kvs, ob ≠ .fdct kvs) : ∃ o, H a = some o ∧ (∀ xs, o ≠ .tup xs) ∧ ∀ ob u, o ≠ .frz ob u := by
 cases ob with
 | lst ds =>
  obtain ⟨xs, h1, _⟩ := h
  exact ⟨_, h1, fun _ z => (nomatch z), fun _ _ z => (nomatch z)⟩
 | dct kvs =>
  rcases h with ⟨ks, xs, h1, _⟩ | ⟨ks, xs, h1, _⟩
  ·exact ⟨_, h1, fun _ z => (nomatch z), fun _ _ z => (nomatch z)⟩
  ·exact ⟨_, h1, fun _ z => (nomatch z), fun _ _ z => (nomatch z)⟩
 | fdct kvs => exact absurd rfl (hf kvs)
 | ins C fs =>
  obtain ⟨Ca, dx, xs, _, h1, _⟩ := h
  exact ⟨_, h1, fun _ z => (nomatch z), fun _ _ z => (nomatch z)⟩
theorem StR.obj (R : StR K ρ H S) {n : Nat} {a : Addr} (h : ρ[n]? = some a) : ∃ ob, S[n]? = some ob ∧ ObR K ρ H a ob := by
 have hl : n < S.length := by rw [← R.len]; exact (List.getElem?_eq_some_iff.mp h).1
 obtain ⟨a', h1, h2⟩ := R.ob n S[n] (List.getElem?_eq_some_iff.mpr ⟨hl, rfl⟩)
 rw [h] at h1; cases h1
 exact ⟨S[n], List.getElem?_eq_some_iff.mpr ⟨hl, rfl⟩, h2⟩
theorem StR.mono (R : StR K ρ H S) (e : Ext0 ρ H ρ H') (he : ∀ (n : Nat) a, ρ[n]? = some a → H' a = H a) : StR K ρ H' S :=
 ⟨R.len, R.inj, fun n ob h => by
  obtain ⟨a, h1, h2⟩ := R.ob n ob h
  exact ⟨a, h1, h2.mono e (he n a h1)⟩⟩
theorem StR.fresh (R : StR K ρ H S) {p : Addr} (hp : H p = none) : ∀ (n : Nat) a, ρ[n]? = some a → a ≠ p := fun n a h z => by
 obtain ⟨ob, _, h2⟩ := R.obj h
 obtain ⟨o, h3⟩ := h2.there
 rw [z, hp] at h3; cases h3
theorem StR.new (R : StR K ρ H S) {p : Addr} {o : HO} (hp : H p = none) : StR K ρ (upd H p o) S :=
 R.mono (Ext.new hp).weak fun n a h => upd_ne (R.fresh hp n a h)
theorem StR.push (R : StR K ρ H S) {p : Addr} {o : HO} {ob : Ob} (hp : H p = none) (h : ObR K (ρ ++ [p]) (upd H p o) p ob) : StR K (ρ ++ [p]) (upd H p o) (S ++ [ob]) := by
 refine ⟨by simp [R.len], fun i j a h1 h2 => ?_, fun n ob' e => ?_⟩
 ·have key : ∀ (i : Nat), (ρ ++ [p])[i]? = some a → (i < ρ.length ∧ ρ[i]? = some a) ∨ (i = ρ.length ∧ a = p) := fun i e => by
   by_cases hi : i < ρ.length
   ·rw [List.getElem?_append_left hi] at e; exact .inl ⟨hi, e⟩
   ·rw [List.getElem?_append_right (Nat.le_of_not_lt hi)] at e
    have hl := (List.getElem?_eq_some_iff.mp e).1
    simp at hl
    have e0 : i - ρ.length = 0 := by omega
    rw [e0] at e; simp at e
    exact .inr ⟨by omega, e.symm⟩
  rcases key i h1 with ⟨_, q1⟩ | ⟨q1, r1⟩ <;> rcases key j h2 with ⟨_, q2⟩ | ⟨q2, r2⟩
  ·exact R.inj i j a q1 q2
  ·exact absurd r2 (R.fresh hp i a q1)
  ·exact absurd r1 (R.fresh hp j a q2)
  ·rw [q1, q2]
 ·by_cases hn : n < S.length
  ·rw [List.getElem?_append_left hn] at e
   obtain ⟨a, h1, h2⟩ := R.ob n ob' e
   exact ⟨a, by rw [List.getElem?_append_left (by rw [R.len]; exact hn)]; exact h1, h2.mono (Ext.newRef hp).weak (upd_ne (R.fresh hp n a h1))⟩
  ·rw [List.getElem?_append_right (Nat.le_of_not_lt hn)] at e
   have hl := (List.getElem?_eq_some_iff.mp e).1
   simp at hl
   have e0 : n - S.length = 0 := by omega
   rw [e0] at e; simp at e
   subst e
   refine ⟨p, ?_, h⟩
   rw [List.getElem?_append_right (by rw [R.len]; omega), R.len, e0]
   rfl
theorem StR.set0 (R : StR K ρ H S) {n : Nat} {p : Addr} {o : HO} {ob : Ob} (hn : ρ[n]? = some p) (X : Ext0 ρ H ρ (upd H p o)) (h : ObR K ρ (upd H p o) p ob) : StR K ρ (upd H p o) (S.set n ob) := by
 obtain ⟨ob0, e0, r0⟩ := R.obj hn
 refine ⟨by simpa using R.len, R.inj, fun m ob' e => ?_⟩
 by_cases hm : m = n
 ·subst hm
  rw [List.getElem?_set_self (List.getElem?_eq_some_iff.mp e0).1] at e
  cases e
  exact ⟨p, hn, h⟩
 ·rw [List.getElem?_set_ne (Ne.symm hm)] at e
  obtain ⟨a, h1, h2⟩ := R.ob m ob' e
  refine ⟨a, h1, h2.mono X (upd_ne ?_)⟩
  rintro rfl
  exact hm (R.inj m n _ h1 hn)
theorem StR.set (R : StR K ρ H S) {n : Nat} {p : Addr} {o : HO} {ob : Ob} (hn : ρ[n]? = some p) (hf : ∀ kvs, S[n]? ≠ some (.fdct kvs)) (h : ObR K ρ (upd H p o) p ob) : StR K ρ (upd H p o) (S.set n ob) ∧ Ext ρ H ρ (upd H p o) := by
 obtain ⟨ob0, e0, r0⟩ := R.obj hn
 obtain ⟨o0, t1, t2, t3⟩ := r0.tracked fun kvs z => hf kvs (by rw [e0, z])
 have X : Ext ρ H ρ (upd H p o) := Ext.upd t1 t2 t3
 exact ⟨R.set0 hn X.weak h, X⟩
theorem StR.thaw (R : StR K ρ H S) {n : Nat} {a : Addr} {kvs : List (D × D)} (hn : ρ[n]? = some a) (e : S[n]? = some (.fdct kvs)) : ∃ (o : Obj) (tab : List (Key × V)), H a = some (.frz o (.dK tab)) ∧ StR K ρ (upd H a (.dK tab)) (S.set n (.dct kvs)) ∧ Ext0 ρ H ρ (upd H a (.dK tab)) := by
 obtain ⟨ob, e1, r⟩ := R.obj hn
 rw [e] at e1
 cases e1
 obtain ⟨o, ks, xs, h1, h2, h3, h4⟩ := r
 have X : Ext0 ρ H ρ (upd H a (.dK (ks.zip xs))) := ⟨fun _ _ h => h, fun b ys hb => by rw [upd_ne (ne_of hb h1 (fun z => nomatch z))]; exact hb, fun b o' ys hb => by rw [upd_ne (ne_of hb h1 (fun z => by injection z with _ z2; cases z2))]; exact hb⟩
 exact ⟨o, _, h1, R.set0 hn X (.inl ⟨ks, xs, upd_same, h2, h3, DsR.mono X _ _ h4⟩), X⟩
theorem EnR.up0 (E : EnR K ρ H en σ) (e : Ext0 ρ H ρ' H') : EnR K ρ' H' en σ := ⟨E.len, fun i d h => by
 obtain ⟨x, h1, h2⟩ := E.get i d h
 exact ⟨x, h1, DR.mono e _ _ h2⟩⟩
theorem EnR.up (E : EnR K ρ H en σ) (e : Ext ρ H ρ' H') : EnR K ρ' H' en σ := ⟨E.len, fun i d h => by
 obtain ⟨x, h1, h2⟩ := E.get i d h
 exact ⟨x, h1, h2.up e⟩⟩
theorem EnR.set (E : EnR K ρ H en σ) {i : Nat} {d : D} {x : V} (h : DR K ρ H d x) : EnR K ρ H (en.set i (some d)) (σ.set i (some x)) := ⟨by simpa using E.len, fun j c e => by
 by_cases hj : j = i
 ·subst hj
  have hl : j < en.length := by
   have := (List.getElem?_eq_some_iff.mp e).1
   simpa using this
  rw [List.getElem?_set_self hl] at e
  cases e
  exact ⟨x, by rw [List.getElem?_set_self (by rw [← E.len]; exact hl)], h⟩
 ·rw [List.getElem?_set_ne (Ne.symm hj)] at e
  obtain ⟨y, h1, h2⟩ := E.get j c e
  exact ⟨y, by rw [List.getElem?_set_ne (Ne.symm hj)]; exact h1, h2⟩⟩
end
def tM (K : PySem.W.Frag) (m : M D) : TE := fun σ H Q => ∃ ρ en S v S', EnR K ρ H en σ ∧ StR K ρ H S ∧ m en S = some (v, S') ∧ ∀ x ρ' H', Ext ρ H ρ' H' → StR K ρ' H' S' → DR K ρ' H' v x → Q x H'
def tMT (K : PySem.W.Frag) (m : M Bool) : TT := fun σ H Q => ∃ ρ en S b S', EnR K ρ H en σ ∧ StR K ρ H S ∧ m en S = some (b, S') ∧ ∀ ρ' H', Ext ρ H ρ' H' → StR K ρ' H' S' → Q b H'
def tMA (K : PySem.W.Frag) (m : M (List D)) : TA := fun σ H Q => ∃ ρ en S ds S', EnR K ρ H en σ ∧ StR K ρ H S ∧ m en S = some (ds, S') ∧ ∀ xs ρ' H', Ext ρ H ρ' H' → StR K ρ' H' S' → DsR K ρ' H' ds xs → Q xs H'
def tMQ (K : PySem.W.Frag) (m : M (List D)) : TE := fun σ H Q => ∃ ρ en S ds S', EnR K ρ H en σ ∧ StR K ρ H S ∧ m en S = some (ds, S') ∧
 ∀ a xs ρ' H', Ext ρ H ρ' H' → StR K ρ' H' S' → (SqL K H' a xs ∨ SqT K H' a xs) → DsR K ρ' H' ds xs → Q (.ref a) H'
def tMS (K : PySem.W.Frag) (m : MS) : TS := fun D σ H => ∃ ρ en S f en' S', EnR K ρ H en σ ∧ StR K ρ H S ∧ m en S = some (f, en', S') ∧ ∀ ρ' H' σ', Ext ρ H ρ' H' → StR K ρ' H' S' → EnR K ρ' H' en' σ' →
 match f with
 | .nx => D.nx σ' H'
 | .rt d => ∀ x, DR K ρ' H' d x → D.rt x H'
 | .bk => D.bk σ' H'
 | .ct => D.ct σ' H'
def rD (K : PySem.W.Frag) (g : D → D → Sto → Option (D × Sto)) : R2 := fun x y H Q => ∃ ρ S d1 d2 v S', StR K ρ H S ∧ DR K ρ H d1 x ∧ DR K ρ H d2 y ∧ g d1 d2 S = some (v, S') ∧
 ∀ z ρ' H', Ext ρ H ρ' H' → StR K ρ' H' S' → DR K ρ' H' v z → Q z H'
def rDs (K : PySem.W.Frag) (g : List D → Sto → Option (D × Sto)) : List V → Hp → VK → Prop := fun xs H Q => ∃ ρ S ds v S', StR K ρ H S ∧ DsR K ρ H ds xs ∧ g ds S = some (v, S') ∧
 ∀ z ρ' H', Ext ρ H ρ' H' → StR K ρ' H' S' → DR K ρ' H' v z → Q z H'
def SE (X : Cx) (e : Expr) (m : M D) : Prop := PE X e (tM X.K m)
def ST (X : Cx) (e : Expr) (m : M Bool) : Prop := PT X e (tMT X.K m)
def SW (X : Cx) (e : Expr) (m : M Bool) : Prop := PW X e (tMT X.K m)
def SA (X : Cx) (es : List Expr) (m : M (List D)) : Prop := PA X es (tMA X.K m)
def SQ (X : Cx) (e : Expr) (m : M (List D)) : Prop := PE X e (tMQ X.K m)
def SS (X : Cx) (st : Stmt) (m : MS) : Prop := PS X st (tMS X.K m)
def SB (X : Cx) (st : List Stmt) (m : MS) : Prop := PSs X st (tMS X.K m)
def OpD (X : Cx) (f : Value → Value → Sem Value) (g : D → D → Sto → Option (D × Sto)) : Prop := OpR X f (rD X.K g)
section
variable {X : Cx} {e a b c : Expr} {es : List Expr} {pos : Pos}
theorem pe_imp {t t' : TE} (h : PE X e t) (i : ∀ σ H Q, t' σ H Q → t σ H Q) : PE X e t' := fun pins s σ H Q I q => h pins s σ H Q I (i σ H Q q)
theorem pt_imp {t t' : TT} (h : PT X e t) (i : ∀ σ H Q, t' σ H Q → t σ H Q) : PT X e t' := fun pins s σ H Q I q => h pins s σ H Q I (i σ H Q q)
theorem pw_imp {t t' : TT} (h : PW X e t) (i : ∀ σ H Q, t' σ H Q → t σ H Q) : PW X e t' := fun whole pins s σ H Q I q => h whole pins s σ H Q I (i σ H Q q)
theorem pa_imp {t t' : TA} (h : PA X es t) (i : ∀ σ H Q, t' σ H Q → t σ H Q) : PA X es t' := fun p pins s σ H Q I q => h p pins s σ H Q I (i σ H Q q)
theorem ps_imp {st : Stmt} {t t' : TS} (h : PS X st t) (i : ∀ D σ H, t' D σ H → t D σ H) : PS X st t' := fun pins s σ H D I q => h pins s σ H D I (i D σ H q)
theorem pss_imp {st : List Stmt} {t t' : TS} (h : PSs X st t) (i : ∀ D σ H, t' D σ H → t D σ H) : PSs X st t' := fun pins s σ H D I q => h pins s σ H D I (i D σ H q)
theorem opr_imp {f : Value → Value → Sem Value} {r r' : R2} (h : OpR X f r) (i : ∀ x y H Q, r' x y H Q → r x y H Q) : OpR X f r' := fun pins s σ H x y v u Q I rx ry q => h pins s σ H x y v u Q I rx ry (i x y H Q q)
def mVar (i : Nat) : M D := fun en S => (en[i]?.getD none).map fun d => (d, S)
def mCon (d : D) : M D := fun _ S => some (d, S)
theorem se_var {x : Str} (i : Nat) (h : PE X (.Name x pos) (tVar i)) : SE X (.Name x pos) (mVar i) := by
 refine pe_imp h ?_
 rintro σ H Q ⟨ρ, en, S, v, S', E, R, e, k⟩
 have e' : en[i]? = some (some v) ∧ S = S' := by
  unfold mVar at e
  cases q : en[i]? with
  | none => rw [q] at e; cases e
  | some o =>
   rw [q] at e
   cases o with
   | none => cases e
   | some d => cases e; exact ⟨rfl, rfl⟩
 obtain ⟨x, h1, h2⟩ := E.get i v e'.1
 exact ⟨x, h1, k x ρ H Ext.refl (e'.2 ▸ R) h2⟩
theorem se_con {d : D} {v : V} (h : PE X e (tC v)) (hd : ∀ ρ H, DR X.K ρ H d v) : SE X e (mCon d) := by
 refine pe_imp h ?_
 rintro σ H Q ⟨ρ, en, S, v', S', E, R, e, k⟩
 cases e
 exact k v ρ H Ext.refl R (hd ρ H)
theorem se_int {i j} : SE X (.Constant (.int i) j pos) (mCon (.int i)) := se_con pe_int fun _ _ => .flat_int
theorem se_bl {i j} : SE X (.Constant (.bool i) j pos) (mCon (.bl i)) := se_con pe_bl fun _ _ => .flat_bl
theorem se_str {i j} : SE X (.Constant (.str i) j pos) (mCon (.str i)) := se_con pe_str fun _ _ => .flat_str
theorem se_non {j} : SE X (.Constant .none j pos) (mCon .non) := se_con pe_non fun _ _ => .flat_non
def mOp (g : D → D → Sto → Option (D × Sto)) (a b : M D) : M D := fun en S => (a en S).bind fun p => (b en p.2).bind fun q => g p.1 q.1 q.2
theorem op_read {K : PySem.W.Frag} {g : D → D → Sto → Option (D × Sto)} {ma mb : M D} {σ : L2.St} {H : Hp} {Q : VK} (h : tM K (mOp g ma mb) σ H Q) : tOp (rD K g) (tM K ma) (tM K mb) σ H Q := by
 obtain ⟨ρ, en, S, v, S', E, R, e, k⟩ := h
 unfold mOp at e
 obtain ⟨p, e1, e⟩ := Option.bind_eq_some_iff.mp e
 obtain ⟨q, e2, e3⟩ := Option.bind_eq_some_iff.mp e
 refine ⟨ρ, en, S, p.1, p.2, E, R, e1, fun x ρ1 H1 X1 R1 d1 => ⟨ρ1, en, p.2, q.1, q.2, E.up X1, R1, e2, fun y ρ2 H2 X2 R2 d2 => ⟨ρ2, q.2, p.1, q.1, v, S', R2, d1.up X2, d2, e3, fun z ρ3 H3 X3 R3 d3 => ?_⟩⟩⟩
 exact k z ρ3 H3 ((X1.trans X2).trans X3) R3 d3
theorem se_op {op : Operator} {g : D → D → Sto → Option (D × Sto)} {ma mb : M D} (ho : OpD X (binaryOp op) g) (ha : SE X a ma) (hb : SE X b mb) : SE X (.BinOp a op b pos) (mOp g ma mb) := pe_imp (pe_op ho ha hb) fun _ _ _ => op_read
theorem se_cmp {op : CmpOp} {g : D → D → Sto → Option (D × Sto)} {ma mb : M D} (ho : OpD X (compareOp op) g) (ha : SE X a ma) (hb : SE X b mb) (hm : behindInMarks op b = false) : SE X (.Compare a [op] [b] pos) (mOp g ma mb) :=
 pe_imp (pe_cmpR ho ha hb hm) fun _ _ _ => op_read
def mT (m : M D) : M Bool := fun en S => (m en S).bind fun p => match p.1 with | .bl b => some (b, p.2) | _ => none
theorem mT_some {m : M D} {en : En} {S S' : Sto} {b : Bool} (h : mT m en S = some (b, S')) : m en S = some (.bl b, S') := by
 unfold mT at h
 obtain ⟨p, e1, e2⟩ := Option.bind_eq_some_iff.mp h
 obtain ⟨d, S1⟩ := p
 cases d <;> first | cases e2; exact e1 | cases e2
theorem test_read {K : PySem.W.Frag} {m : M D} {t : TE} (i : ∀ σ H Q, tM K m σ H Q → t σ H Q) {σ : L2.St} {H : Hp} {Q : Bool → Hp → Prop} (h : tMT K (mT m) σ H Q) : tTest t σ H Q := by
 obtain ⟨ρ, en, S, b, S', E, R, e, k⟩ := h
 refine i σ H _ ⟨ρ, en, S, .bl b, S', E, R, mT_some e, fun x ρ' H' X1 R1 d1 => ⟨b, d1.of_bl, k ρ' H' X1 R1⟩⟩
theorem st_cmp {op : CmpOp} {g : D → D → Sto → Option (D × Sto)} {ma mb : M D} (ho : OpD X (compareOp op) g) (ha : SE X a ma) (hb : SE X b mb) (hm : behindInMarks op b = false) : ST X (.Compare a [op] [b] pos) (mT (mOp g ma mb)) :=
 pt_imp (pt_cmpR ho ha hb hm) fun _ _ _ h => test_read (fun _ _ _ => op_read) h
def mChain (g g' : D → D → Sto → Option (D × Sto)) (a b c : M D) : M D := fun en S => (a en S).bind fun p => (b en p.2).bind fun q => (g p.1 q.1 q.2).bind fun r => match r.1 with
 | .bl true => (c en r.2).bind fun w => g' q.1 w.1 w.2
 | .bl false => some (.bl false, r.2)
 | _ => none
def mAnd (a b : M Bool) : M Bool := fun en S => (a en S).bind fun p => if p.1 then b en p.2 else some (false, p.2)
def mOr (a b : M Bool) : M Bool := fun en S => (a en S).bind fun p => if p.1 then some (true, p.2) else b en p.2
def mNot (a : M Bool) : M Bool := fun en S => (a en S).map fun p => (!p.1, p.2)
theorem and_read {K : PySem.W.Frag} {ma mb : M Bool} {σ : L2.St} {H : Hp} {Q : Bool → Hp → Prop} (h : tMT K (mAnd ma mb) σ H Q) : tAnd (tMT K ma) (tMT K mb) σ H Q := by
 obtain ⟨ρ, en, S, v, S', E, R, e, k⟩ := h
 unfold mAnd at e
 obtain ⟨p, e1, e⟩ := Option.bind_eq_some_iff.mp e
 refine ⟨ρ, en, S, p.1, p.2, E, R, e1, fun ρ1 H1 X1 R1 => ?_⟩
 by_cases hp : p.1 = true
 ·rw [if_pos hp] at e ⊢
  exact ⟨ρ1, en, p.2, v, S', E.up X1, R1, e, fun ρ2 H2 X2 R2 => k ρ2 H2 (X1.trans X2) R2⟩
 ·rw [if_neg hp] at e ⊢
  cases e
  exact k ρ1 H1 X1 R1
theorem or_read {K : PySem.W.Frag} {ma mb : M Bool} {σ : L2.St} {H : Hp} {Q : Bool → Hp → Prop} (h : tMT K (mOr ma mb) σ H Q) : tOr (tMT K ma) (tMT K mb) σ H Q := by
 obtain ⟨ρ, en, S, v, S', E, R, e, k⟩ := h
 unfold mOr at e
 obtain ⟨p, e1, e⟩ := Option.bind_eq_some_iff.mp e
 refine ⟨ρ, en, S, p.1, p.2, E, R, e1, fun ρ1 H1 X1 R1 => ?_⟩
 by_cases hp : p.1 = true
 ·rw [if_pos hp] at e ⊢
  cases e
  exact k ρ1 H1 X1 R1
 ·rw [if_neg hp] at e ⊢
  exact ⟨ρ1, en, p.2, v, S', E.up X1, R1, e, fun ρ2 H2 X2 R2 => k ρ2 H2 (X1.trans X2) R2⟩
theorem sw_and1 {ma : M Bool} (ha : ST X a ma) : SW X (.BoolOp .And [a] pos) ma := pw_and1 ha
theorem sw_or1 {ma : M Bool} (ha : ST X a ma) : SW X (.BoolOp .Or [a] pos) ma := pw_or1 ha
theorem sw_and {rest : List Expr} {ma mb : M Bool} (ha : ST X a ma) (hb : SW X (.BoolOp .And (b :: rest) pos) mb) : SW X (.BoolOp .And (a :: b :: rest) pos) (mAnd ma mb) := pw_imp (pw_and ha hb) fun _ _ _ => and_read
theorem sw_or {rest : List Expr} {ma mb : M Bool} (ha : ST X a ma) (hb : SW X (.BoolOp .Or (b :: rest) pos) mb) : SW X (.BoolOp .Or (a :: b :: rest) pos) (mOr ma mb) := pw_imp (pw_or ha hb) fun _ _ _ => or_read
theorem st_w {m : M Bool} (h : SW X e m) : ST X e m := PW.pt h
theorem st_not {ma : M Bool} (ha : ST X a ma) : ST X (.UnaryOp .Not a pos) (mNot ma) := by
 refine pt_imp (pt_not ha) ?_
 rintro σ H Q ⟨ρ, en, S, v, S', E, R, e, k⟩
 unfold mNot at e
 obtain ⟨p, e1, e2⟩ := Option.map_eq_some_iff.mp e
 cases e2
 exact ⟨ρ, en, S, p.1, p.2, E, R, e1, fun ρ1 H1 X1 R1 => k ρ1 H1 X1 R1⟩
def truD : D → Sto → Option Bool
 | .non, _ => some false
 | .bl b, _ => some b
 | .int i, _ => some (i != 0)
 | .str x, _ => if x.length ≤ sizeLine then some ((x.length : Int) != 0) else none
 | .tup ds, _ => some (!ds.isEmpty)
 | .ref n, S => match S[n]? with
  | some (.lst ds) => some (!ds.isEmpty)
  | some (.dct kvs) => some (!kvs.isEmpty)
  | some (.fdct kvs) => some (!kvs.isEmpty)
  | _ => none
 | .scr ns, _ => some (!ns.isEmpty)
theorem truD_ok {K : PySem.W.Frag} {ρ : List Addr} {H : Hp} {S : Sto} {d : D} {x : V} {b : Bool} (R : StR K ρ H S) (h : DR K ρ H d x) (e : truD d S = some b) : TruV' K x H b := by
 cases d with
 | non => rw [h.of_non]; cases e; exact .inl rfl
 | bl t => rw [h.of_bl]; cases e; exact .inl rfl
 | int i => rw [h.of_int]; cases e; exact .inl rfl
 | str y =>
  rw [h.of_str]
  dsimp only [truD] at e
  split at e
  ·cases e; exact .inl ⟨by assumption, rfl⟩
  ·cases e
 | tup ds =>
  obtain ⟨a, xs, rfl, h1, h2⟩ := h.of_tup
  cases e
  refine .inl (.inr (.inl ⟨xs, .of h1, ?_⟩))
  cases ds <;> cases xs <;> first | rfl | (have := h2.length; simp at this)
 | ref n =>
  obtain ⟨a, h1, rfl⟩ := h.of_ref
  obtain ⟨ob, e1, r⟩ := R.obj h1
  dsimp only [truD] at e
  rw [e1] at e
  cases ob with
  | lst ds =>
   cases e
   obtain ⟨xs, h2, h3⟩ := r
   refine .inl (.inl ⟨xs, .of h2, ?_⟩)
   cases ds <;> cases xs <;> first | rfl | (have := h3.length; simp at this)
  | dct kvs =>
   cases e
   rcases r with ⟨ks, xs, h2, h3, h4, h5⟩ | ⟨ks, xs, h2, h3, h4, h5⟩
   ·refine .inl (.inr (.inr ⟨_, h2, ?_⟩))
    have l1 := congrArg List.length h4
    rw [List.length_map, List.length_map] at l1
    cases kvs <;> cases ks <;> cases xs <;> simp_all
   ·refine .inr (.inl ⟨a, _, rfl, .inl h2, ?_⟩)
    have l1 := congrArg List.length h4
    rw [List.length_map, List.length_map] at l1
    cases kvs <;> cases ks <;> cases xs <;> simp_all
  | fdct kvs =>
   cases e
   obtain ⟨o, ks, xs, h2, h3, h4, h5⟩ := r
   refine .inr (.inr ⟨a, _, rfl, .inr ⟨o, h2⟩, ?_⟩)
   have l1 := congrArg List.length h4
   rw [List.length_map, List.length_map] at l1
   cases kvs <;> cases ks <;> cases xs <;> simp_all
  | ins C fs => cases e
 | scr ns =>
  obtain ⟨a, rfl, h1⟩ := h.of_scr
  cases e
  refine .inl (.inl ⟨_, h1.seq, ?_⟩)
  cases ns <;> rfl
theorem pe_andT {rest : List Expr} {ta tb : TE} (ha : PE X a ta) (hb : PE X (.BoolOp .And (b :: rest) pos) tb) : PE X (.BoolOp .And (a :: b :: rest) pos) (fun σ H Q => ta σ H fun x H1 => ∃ k, TruV' X.K x H1 k ∧ if k = true then tb σ H1 Q else Q x H1) := by
 intro pins s σ H Q I h
 refine BoolOp_and (thn (ha pins s σ H _ I h) fun v s1 ⟨x, H1, I1, r1, k, t1, q1⟩ => thn (tru_ok' pins s1 σ H1 x v (fun c H2 => H2 = H1 ∧ c = k) I1 r1 ⟨k, t1, rfl, rfl⟩) fun c s2 ⟨H2, I2, e1, e2⟩ => ?_)
 subst e1 e2
 cases c with
 | true => exact hb pins s2 σ H2 Q I2 q1
 | false => exact ⟨x, H2, I2, r1, q1⟩
def vAnd (a b : M D) : M D := fun en S => (a en S).bind fun p => (truD p.1 p.2).bind fun t => if t then b en p.2 else some (p.1, p.2)
def vOr (a b : M D) : M D := fun en S => (a en S).bind fun p => (truD p.1 p.2).bind fun t => if t then some (p.1, p.2) else b en p.2
def vNot (a : M D) : M D := fun en S => (a en S).bind fun p => (truD p.1 p.2).map fun t => (.bl (!t), p.2)
theorem se_one {op} {m : M D} (h : SE X a m) : SE X (.BoolOp op [a] pos) m := pe_one h
theorem se_and {rest : List Expr} {ma mb : M D} (ha : SE X a ma) (hb : SE X (.BoolOp .And (b :: rest) pos) mb) : SE X (.BoolOp .And (a :: b :: rest) pos) (vAnd ma mb) := by
 refine pe_imp (pe_andT ha hb) ?_
 rintro σ H Q ⟨ρ, en, S, v, S', E, R, e, k⟩
 unfold vAnd at e
 obtain ⟨p, e1, e⟩ := Option.bind_eq_some_iff.mp e
 obtain ⟨t, e2, e⟩ := Option.bind_eq_some_iff.mp e
 refine ⟨ρ, en, S, p.1, p.2, E, R, e1, fun x ρ1 H1 X1 R1 d1 => ⟨t, truD_ok R1 d1 e2, ?_⟩⟩
 cases t with
 | true =>
  rw [if_pos rfl] at e ⊢
  exact ⟨ρ1, en, p.2, v, S', E.up X1, R1, e, fun y ρ2 H2 X2 R2 d2 => k y ρ2 H2 (X1.trans X2) R2 d2⟩
 | false =>
  rw [if_neg Bool.false_ne_true] at e ⊢
  cases e
  exact k _ ρ1 H1 X1 R1 d1
def mIf (c : M Bool) (a b : M D) : M D := fun en S => (c en S).bind fun p => if p.1 then a en p.2 else b en p.2
def mTru (m : M D) : M Bool := fun en S => (m en S).bind fun p => (truD p.1 p.2).map fun b => (b, p.2)
theorem st_truth {m : M D} (h : SE X a m) (he : ∀ whole, isTrue a X.env whole = (do let v ← whole; standAt a.pos; holding [v] (truthy v)) := by intro _; rfl) : ST X a (mTru m) := by
 refine pt_imp (pt_truth' h he) ?_
 rintro σ H Q ⟨ρ, en, S, v, S', E, R, e, k⟩
 unfold mTru at e
 obtain ⟨p, e1, e⟩ := Option.bind_eq_some_iff.mp e
 obtain ⟨b, e2, e3⟩ := Option.map_eq_some_iff.mp e
 cases e3
 exact ⟨ρ, en, S, p.1, p.2, E, R, e1, fun x ρ1 H1 X1 R1 d1 => ⟨v, truD_ok R1 d1 e2, k ρ1 H1 X1 R1⟩⟩
def mNil : M (List D) := fun _ S => some ([], S)
def mCons (a : M D) (r : M (List D)) : M (List D) := fun en S => (a en S).bind fun p => (r en p.2).map fun q => (p.1 :: q.1, q.2)
theorem sa_nil : SA X [] mNil := by
 refine pa_imp pa_nil ?_
 rintro σ H Q ⟨ρ, en, S, ds, S', E, R, e, k⟩
 cases e
 exact k [] ρ H Ext.refl R .nil
theorem sa_cons {ma : M D} {mr : M (List D)} (ha : SE X a ma) (hr : SA X es mr) (hs : starEach (a :: es) X.env = (false, eval a X.env) :: starEach es X.env := by rfl) : SA X (a :: es) (mCons ma mr) := by
 refine pa_imp (pa_cons ha hr hs) ?_
 rintro σ H Q ⟨ρ, en, S, ds, S', E, R, e, k⟩
 unfold mCons at e
 obtain ⟨p, e1, e⟩ := Option.bind_eq_some_iff.mp e
 obtain ⟨q, e2, e3⟩ := Option.map_eq_some_iff.mp e
 cases e3
 refine ⟨ρ, en, S, p.1, p.2, E, R, e1, fun x ρ1 H1 X1 R1 d1 => ⟨ρ1, en, p.2, q.1, q.2, E.up X1, R1, e2, fun xs ρ2 H2 X2 R2 d2 => ?_⟩⟩
 exact k (x :: xs) ρ2 H2 (X1.trans X2) R2 (.cons (d1.up X2) d2)
def mTup (m : M (List D)) : M D := fun en S => (m en S).bind fun p => if p.1.length ≤ sizeLine then some (.tup p.1, p.2) else none
def mLst (m : M (List D)) : M D := fun en S => (m en S).bind fun p => if p.1.length ≤ sizeLine then some (.ref p.2.length, p.2 ++ [.lst p.1]) else none
theorem se_tup {k0} {m : M (List D)} (h : SA X es m) : SE X (.Tuple es k0 pos) (mTup m) := by
 refine pe_imp (pe_tup h) ?_
 rintro σ H Q ⟨ρ, en, S, v, S', E, R, e, k⟩
 unfold mTup at e
 obtain ⟨p, e1, e⟩ := Option.bind_eq_some_iff.mp e
 split at e
 ·cases e
  refine ⟨ρ, en, S, p.1, p.2, E, R, e1, fun xs ρ1 H1 X1 R1 d1 => ⟨by rw [← d1.length]; assumption, fun a ha => ?_⟩⟩
  exact k _ ρ1 _ (X1.trans (Ext.new ha)) (R1.new ha) (.tup upd_same (d1.up (Ext.new ha)))
 ·cases e
theorem se_lst {m : M (List D)} (h : SA X es m) : SE X (.List es pos) (mLst m) := by
 refine pe_imp (pe_lst h) ?_
 rintro σ H Q ⟨ρ, en, S, v, S', E, R, e, k⟩
 unfold mLst at e
 obtain ⟨p, e1, e⟩ := Option.bind_eq_some_iff.mp e
 split at e
 ·cases e
  refine ⟨ρ, en, S, p.1, p.2, E, R, e1, fun xs ρ1 H1 X1 R1 d1 => ⟨by rw [← d1.length]; assumption, fun a ha => ?_⟩⟩
  refine k _ (ρ1 ++ [a]) _ (X1.trans (Ext.newRef ha)) (R1.push ha ⟨xs, upd_same, d1.up (Ext.newRef ha)⟩) (.ref ?_)
  rw [← R1.len]; simp
 ·cases e
end
end DL
namespace DL
open PySem PySem.Spec PyProof.Rows L2
section
variable {K : PySem.W.Frag} {ρ : List Addr} {H : Hp}
theorem keyD_V {d : D} {k : Key} {x : V} (e : keyD d = some k) (h : DR K ρ H d x) : x = kV k := by
 cases d with
 | int i => cases e; exact h.of_int
 | str z => cases e; exact h.of_str
 | _ => cases e
theorem keysD_V : ∀ {ds : List D} {ks : List Key} {xs : List V}, keysD ds = some ks → DsR K ρ H ds xs → xs = ks.map kV
 | [], _, xs, e, h => by
  cases e
  unfold DsR at h
  exact h
 | d :: ds, ks, xs, e, h => by
  obtain ⟨k, e1, e⟩ := Option.bind_eq_some_iff.mp e
  obtain ⟨ks', e2, e3⟩ := Option.map_eq_some_iff.mp e
  subst e3
  unfold DsR at h
  obtain ⟨x, r, rfl, h1, h2⟩ := h
  rw [List.map_cons, keyD_V e1 h1, keysD_V e2 h2]
theorem keysT_V {d : D} {ks : List Key} {x : V} (e : keysT d = some ks) (h : DR K ρ H d x) : ∃ b, x = .ref b ∧ H b = some (.tup (ks.map kV)) := by
 cases d with
 | tup ds =>
  obtain ⟨a, xs, rfl, h1, h2⟩ := h.of_tup
  rw [keysD_V e h2] at h1
  exact ⟨a, rfl, h1⟩
 | _ => cases e
theorem keyD_keysT {d : D} {k : Key} (e : keyD d = some k) : keysT d = none := by
 cases d <;> first | rfl | cases e
theorem kEq_k {a b : D} {x y : Key} (ea : keyD a = some x) (eb : keyD b = some y) : kEq a b = decide (x = y) := by
 unfold kEq
 rw [ea, eb]
theorem kEq_t {a b : D} {x y : List Key} (ea : keysT a = some x) (eb : keysT b = some y) : kEq a b = decide (x = y) := by
 have na : keyD a = none := by
  cases h : keyD a with
  | none => rfl
  | some k => rw [keyD_keysT h] at ea; cases ea
 unfold kEq
 rw [na, ea, eb]
theorem tab_get {κ : Type} [DecidableEq κ] (f : D → Option κ) {k : D} {k' : κ} (hk : ∀ a x, f a = some x → kEq a k = decide (x = k')) : ∀ {kvs : List (D × D)} {ks : List κ} {xs : List V}, kvs.map (fun p => f p.1) = ks.map some → DsR K ρ H (kvs.map (·.2)) xs →
  (∀ v, dget kvs k = some v → ∃ x, valV (ks.zip xs) k' = some x ∧ DR K ρ H v x) ∧ (dget kvs k = none → valV (ks.zip xs) k' = none)
 | [], ks, xs, e, h => by
  cases ks with
  | nil => exact ⟨fun v z => (by cases z), fun _ => rfl⟩
  | cons _ _ => cases e
 | p :: kvs, ks, xs, e, h => by
  cases ks with
  | nil => cases e
  | cons k0 ks =>
   rw [List.map_cons, List.map_cons] at e
   injection e with e1 e2
   rw [List.map_cons] at h
   unfold DsR at h
   obtain ⟨x, r, rfl, h1, h2⟩ := h
   have ih := tab_get f hk e2 h2
   have hq := hk p.1 k0 e1
   rw [List.zip_cons_cons]
   by_cases hc : k0 = k'
   ·have hp : kEq p.1 k = true := by rw [hq]; exact decide_eq_true hc
    have hd : dget (p :: kvs) k = some p.2 := by simp [dget, List.find?_cons, hp]
    rw [hd, valV_pos (p := (k0, x)) hc]
    exact ⟨fun v z => by cases z; exact ⟨x, rfl, h1⟩, fun z => by cases z⟩
   ·have hp : kEq p.1 k = false := by rw [hq]; exact decide_eq_false hc
    have hd : dget (p :: kvs) k = dget kvs k := by simp [dget, List.find?_cons, hp]
    rw [hd, valV_neg (p := (k0, x)) hc]
    exact ih
theorem tab_any {κ : Type} [DecidableEq κ] (f : D → Option κ) {k : D} {k' : κ} (hk : ∀ a x, f a = some x → kEq a k = decide (x = k')) : ∀ {kvs : List (D × D)} {ks : List κ} {xs : List V}, kvs.map (fun p => f p.1) = ks.map some → ks.length = xs.length →
  (kvs.any fun p => kEq p.1 k) = ((ks.zip xs).any fun kv => decide (kv.1 = k'))
 | [], ks, xs, e, _ => by
  cases ks with
  | nil => rfl
  | cons _ _ => cases e
 | p :: kvs, ks, xs, e, hl => by
  cases ks with
  | nil => cases e
  | cons k0 ks =>
   cases xs with
   | nil => cases hl
   | cons x xs =>
    rw [List.map_cons, List.map_cons] at e
    injection e with e1 e2
    rw [List.zip_cons_cons, List.any_cons, List.any_cons, hk p.1 k0 e1, tab_any f hk e2 (by simpa using hl)]
theorem tab_repl {κ : Type} [DecidableEq κ] (f : D → Option κ) {k v : D} {k' : κ} {y : V} (hk : ∀ a x, f a = some x → kEq a k = decide (x = k')) (hv : DR K ρ H v y) : ∀ {kvs : List (D × D)} {ks : List κ} {xs : List V}, kvs.map (fun p => f p.1) = ks.map some → ks.length = xs.length → DsR K ρ H (kvs.map (·.2)) xs →
  ∃ xs', (ks.zip xs).map (fun kv => if kv.1 = k' then (kv.1, y) else kv) = ks.zip xs' ∧ ks.length = xs'.length ∧ DsR K ρ H ((kvs.map fun p => if kEq p.1 k = true then (p.1, v) else p).map (·.2)) xs' ∧ ((kvs.map fun p => if kEq p.1 k = true then (p.1, v) else p).map fun p => f p.1) = ks.map some
 | [], ks, xs, e, hl, h => by
  cases ks with
  | nil =>
   cases xs with
   | nil => exact ⟨[], rfl, rfl, .nil, rfl⟩
   | cons _ _ => cases hl
  | cons _ _ => cases e
 | p :: kvs, ks, xs, e, hl, h => by
  cases ks with
  | nil => cases e
  | cons k0 ks =>
   cases xs with
   | nil => cases hl
   | cons x xs =>
    rw [List.map_cons, List.map_cons] at e
    injection e with e1 e2
    rw [List.map_cons] at h
    unfold DsR at h
    obtain ⟨x0, r, hx, h1, h2⟩ := h
    injection hx with hx1 hx2
    subst hx1 hx2
    obtain ⟨xs', a1, a2, a3, a4⟩ := tab_repl f hk hv e2 (by simpa using hl) h2
    have hq := hk p.1 k0 e1
    by_cases hc : k0 = k'
    ·have hp : kEq p.1 k = true := by rw [hq]; exact decide_eq_true hc
     refine ⟨y :: xs', ?_, by simp [a2], ?_, ?_⟩
     ·rw [List.zip_cons_cons, List.map_cons, a1, if_pos hc, List.zip_cons_cons]
     ·rw [List.map_cons, if_pos hp, List.map_cons]; exact .cons hv a3
     ·rw [List.map_cons, if_pos hp, List.map_cons, a4, e1, List.map_cons]
    ·have hp : ¬ kEq p.1 k = true := by rw [hq, decide_eq_false hc]; exact Bool.false_ne_true
     refine ⟨x :: xs', ?_, by simp [a2], ?_, ?_⟩
     ·rw [List.zip_cons_cons, List.map_cons, a1, if_neg hc, List.zip_cons_cons]
     ·rw [List.map_cons, if_neg hp, List.map_cons]; exact .cons h1 a3
     ·rw [List.map_cons, if_neg hp, List.map_cons, a4, e1, List.map_cons]
theorem tab_put {κ : Type} [DecidableEq κ] (f : D → Option κ) {k v : D} {k' : κ} {y : V} (hf : f k = some k') (hk : ∀ a x, f a = some x → kEq a k = decide (x = k')) (hv : DR K ρ H v y) {kvs : List (D × D)} {ks : List κ} {xs : List V}
  (e : kvs.map (fun p => f p.1) = ks.map some) (hl : ks.length = xs.length) (h : DsR K ρ H (kvs.map (·.2)) xs) :
  ∃ (ks' : List κ) (xs' : List V), putK (ks.zip xs) k' y = ks'.zip xs' ∧ ks'.length = xs'.length ∧ (dput kvs k v).map (fun p => f p.1) = ks'.map some ∧ DsR K ρ H ((dput kvs k v).map (·.2)) xs' := by
 unfold putK dput
 rw [tab_any f hk e hl]
 by_cases ha : ((ks.zip xs).any fun kv => decide (kv.1 = k')) = true
 ·rw [if_pos ha, if_pos ha]
  obtain ⟨xs', a1, a2, a3, a4⟩ := tab_repl f hk hv e hl h
  exact ⟨ks, xs', a1, a2, a4, a3⟩
 ·rw [if_neg ha, if_neg ha]
  refine ⟨ks ++ [k'], xs ++ [y], ?_, by simp [hl], ?_, ?_⟩
  ·rw [List.zip_append hl]; rfl
  ·rw [List.map_append, List.map_append, e]; simp [hf]
  ·rw [List.map_append]; exact h.append (.cons hv .nil)
theorem hk_k {k : D} {k' : Key} (h : keyD k = some k') : ∀ a x, keyD a = some x → kEq a k = decide (x = k') := fun _ _ e => kEq_k e h
theorem hk_t {k : D} {k' : List Key} (h : keysT k = some k') : ∀ a x, keysT a = some x → kEq a k = decide (x = k') := fun _ _ e => kEq_t e h
theorem all_nil {α : Type} {f : D → Option α} {kvs : List (D × D)} {β : Type} {g : D → Option β} {ks : List β} (e : kvs.map (fun p => g p.1) = ks.map some) (h : (kvs.all fun p => (f p.1).isSome) = true) (hd : ∀ d x, g d = some x → f d = none) : kvs = [] := by
 cases kvs with
 | nil => rfl
 | cons p r =>
  cases ks with
  | nil => cases e
  | cons k ks =>
   rw [List.map_cons, List.map_cons] at e
   injection e with e1 _
   rw [List.all_cons, hd _ _ e1] at h
   simp at h
theorem keysT_keyD {d : D} {k : List Key} (e : keysT d = some k) : keyD d = none := by
 cases d <;> first | rfl | cases e
theorem dget_ok0 {S : Sto} {n : Nat} {a : Addr} {kvs : List (D × D)} {k : D} {y : V} (R : StR K ρ H S) (ha : ρ[n]? = some a) (e : S[n]? = some (.dct kvs)) (hs : sameKind kvs k = true) (hk : DR K ρ H k y) :
  (∀ v, dget kvs k = some v → ∃ x, DGetE H a y (some x) ∧ DR K ρ H v x) ∧ (dget kvs k = none → DGetE H a y none) := by
 obtain ⟨ob, e1, r⟩ := R.obj ha
 rw [e] at e1
 cases e1
 unfold sameKind at hs
 cases h1 : keyD k with
 | some k' =>
  rw [h1] at hs
  have ey := keyD_V h1 hk
  rcases r with ⟨ks, xs, q1, q2, q3, q4⟩ | ⟨ks, xs, q1, q2, q3, q4⟩
  ·obtain ⟨g1, g2⟩ := tab_get keyD (hk_k h1) q3 q4
   refine ⟨fun v hv => ?_, fun hv => ?_⟩
   ·obtain ⟨x, x1, x2⟩ := g1 v hv
    exact ⟨x, .inl (.inl ⟨_, k', .inl q1, ey, x1.symm⟩), x2⟩
   ·exact .inl (.inl ⟨_, k', .inl q1, ey, (g2 hv).symm⟩)
  ·have hn := all_nil q3 hs (fun _ _ => keysT_keyD)
   subst hn
   cases ks with
   | nil => exact ⟨fun v hv => (by cases hv), fun _ => .inr (.inr ⟨q1, k', ey, rfl⟩)⟩
   | cons _ _ => cases q3
 | none =>
  rw [h1] at hs
  cases h2 : keysT k with
  | none => rw [h2] at hs; cases hs
  | some k' =>
   rw [h2] at hs
   obtain ⟨b, ey, eb⟩ := keysT_V h2 hk
   rcases r with ⟨ks, xs, q1, q2, q3, q4⟩ | ⟨ks, xs, q1, q2, q3, q4⟩
   ·have hn := all_nil q3 hs (fun _ _ => keyD_keysT)
    subst hn
    cases ks with
    | nil => exact ⟨fun v hv => (by cases hv), fun _ => .inr (.inl ⟨q1, k', b, ey, eb, rfl⟩)⟩
    | cons _ _ => cases q3
   ·obtain ⟨g1, g2⟩ := tab_get keysT (hk_t h2) q3 q4
    refine ⟨fun v hv => ?_, fun hv => ?_⟩
    ·obtain ⟨x, x1, x2⟩ := g1 v hv
     exact ⟨x, .inl (.inr ⟨_, k', b, .inl q1, ey, eb, x1.symm⟩), x2⟩
    ·exact .inl (.inr ⟨_, k', b, .inl q1, ey, eb, (g2 hv).symm⟩)
theorem dget_ok {S : Sto} {n : Nat} {a : Addr} {kvs : List (D × D)} {k : D} {y : V} (R : StR K ρ H S) (ha : ρ[n]? = some a) (e : dctAt S n k = some kvs) (hk : DR K ρ H k y) :
  (∀ v, dget kvs k = some v → ∃ x, DGetE H a y (some x) ∧ DR K ρ H v x) ∧ (dget kvs k = none → DGetE H a y none) := by
 unfold dctAt at e
 split at e
 ·rename_i kvs' hn
  split at e
  ·rename_i hs
   cases e
   exact dget_ok0 R ha hn hs hk
  ·cases e
 ·rename_i kvs' hn
  split at e
  ·rename_i hs
   cases e
   obtain ⟨ob, e1, r⟩ := R.obj ha
   rw [hn] at e1
   cases e1
   obtain ⟨o, ks, xs, q1, q2, q3, q4⟩ := r
   obtain ⟨k', h1⟩ := Option.isSome_iff_exists.mp hs
   have ey := keyD_V h1 hk
   obtain ⟨g1, g2⟩ := tab_get keyD (hk_k h1) q3 q4
   refine ⟨fun v hv => ?_, fun hv => ?_⟩
   ·obtain ⟨x, x1, x2⟩ := g1 v hv
    exact ⟨x, .inl (.inl ⟨_, k', .inr ⟨o, q1⟩, ey, x1.symm⟩), x2⟩
   ·exact .inl (.inl ⟨_, k', .inr ⟨o, q1⟩, ey, (g2 hv).symm⟩)
  ·cases e
 ·cases e
theorem isD_ok {S : Sto} {n : Nat} {a : Addr} (R : StR K ρ H S) (ha : ρ[n]? = some a) (e : isDct S n = true) : IsD H a := by
 unfold isDct at e
 obtain ⟨ob, e1, r⟩ := R.obj ha
 rw [e1] at e
 cases ob with
 | dct kvs =>
  rcases r with ⟨ks, xs, q, _⟩ | ⟨ks, xs, q, _⟩
  ·exact .inl ⟨_, .inl q⟩
  ·exact .inr ⟨_, .inl q⟩
 | fdct kvs =>
  obtain ⟨o, ks, xs, q, _⟩ := r
  exact .inl ⟨_, .inr ⟨o, q⟩⟩
 | _ => cases e
theorem dput_ok {S : Sto} {n : Nat} {a : Addr} {kvs : List (D × D)} {k v : D} {y x : V} (R : StR K ρ H S) (ha : ρ[n]? = some a) (e : S[n]? = some (.dct kvs)) (hs : sameKind kvs k = true) (hl : kvs.length < sizeLine) (hk : DR K ρ H k y) (hv : DR K ρ H v x) :
  ∃ H', DPutE H a y x H' ∧ StR K ρ H' (S.set n (.dct (dput kvs k v))) ∧ Ext ρ H ρ H' := by
 obtain ⟨ob, e1, r⟩ := R.obj ha
 rw [e] at e1
 cases e1
 unfold sameKind at hs
 have up : ∀ {o : HO} {o' : HO}, H a = some o → (∀ xs, o ≠ .tup xs) → (∀ ob u, o ≠ .frz ob u) → Ext ρ H ρ (upd H a o') := fun h a1 a2 => Ext.upd h a1 a2
 cases h1 : keyD k with
 | some k' =>
  rw [h1] at hs
  have ey := keyD_V h1 hk
  rcases r with ⟨ks, xs, q1, q2, q3, q4⟩ | ⟨ks, xs, q1, q2, q3, q4⟩
  ·obtain ⟨ks', xs', z1, z2, z3, z4⟩ := tab_put keyD h1 (hk_k h1) hv q3 q2 q4
   have len : (ks.zip xs).length < sizeLine := by
    have := congrArg List.length q3
    rw [List.length_map, List.length_map] at this
    rw [List.length_zip]; omega
   have E1 : Ext ρ H ρ (upd H a (.dK (putK (ks.zip xs) k' x))) := up q1 (fun _ z => nomatch z) fun _ _ z => nomatch z
   obtain ⟨R2, E2⟩ := R.set (hf := fun _ z => by rw [e] at z; cases z) (o := .dK (putK (ks.zip xs) k' x)) (ob := .dct (dput kvs k v)) ha (.inl ⟨ks', xs', by rw [upd_same, z1], z2, z3, z4.up E1⟩)
   exact ⟨_, .inl (.inl ⟨_, k', q1, ey, len, rfl⟩), R2, E2⟩
  ·have hn := all_nil q3 hs (fun _ _ => keysT_keyD)
   subst hn
   have E1 : Ext ρ H ρ (upd H a (.dK [(k', x)])) := up q1 (fun _ z => nomatch z) fun _ _ z => nomatch z
   cases ks with
   | nil =>
    obtain ⟨R2, E2⟩ := R.set (hf := fun _ z => by rw [e] at z; cases z) (o := .dK [(k', x)]) (ob := .dct (dput [] k v)) ha (.inl ⟨[k'], [x], by rw [upd_same]; rfl, rfl, by simp [dput, h1], by simp [dput]; exact .cons (hv.up E1) .nil⟩)
    exact ⟨_, .inr (.inr ⟨q1, k', ey, rfl⟩), R2, E2⟩
   | cons _ _ => cases q3
 | none =>
  rw [h1] at hs
  cases h2 : keysT k with
  | none => rw [h2] at hs; cases hs
  | some k' =>
   rw [h2] at hs
   obtain ⟨b, ey, eb⟩ := keysT_V h2 hk
   rcases r with ⟨ks, xs, q1, q2, q3, q4⟩ | ⟨ks, xs, q1, q2, q3, q4⟩
   ·have hn := all_nil q3 hs (fun _ _ => keyD_keysT)
    subst hn
    have E1 : Ext ρ H ρ (upd H a (.dT [(k', x)])) := up q1 (fun _ z => nomatch z) fun _ _ z => nomatch z
    cases ks with
    | nil =>
     obtain ⟨R2, E2⟩ := R.set (hf := fun _ z => by rw [e] at z; cases z) (o := .dT [(k', x)]) (ob := .dct (dput [] k v)) ha (.inr ⟨[k'], [x], by rw [upd_same]; rfl, rfl, by simp [dput, h2], by simp [dput]; exact .cons (hv.up E1) .nil⟩)
     exact ⟨_, .inr (.inl ⟨q1, k', b, ey, eb, rfl⟩), R2, E2⟩
    | cons _ _ => cases q3
   ·obtain ⟨ks', xs', z1, z2, z3, z4⟩ := tab_put keysT h2 (hk_t h2) hv q3 q2 q4
    have len : (ks.zip xs).length < sizeLine := by
     have := congrArg List.length q3
     rw [List.length_map, List.length_map] at this
     rw [List.length_zip]; omega
    have E1 : Ext ρ H ρ (upd H a (.dT (putK (ks.zip xs) k' x))) := up q1 (fun _ z => nomatch z) fun _ _ z => nomatch z
    obtain ⟨R2, E2⟩ := R.set (hf := fun _ z => by rw [e] at z; cases z) (o := .dT (putK (ks.zip xs) k' x)) (ob := .dct (dput kvs k v)) ha (.inr ⟨ks', xs', by rw [upd_same, z1], z2, z3, z4.up E1⟩)
    exact ⟨_, .inl (.inr ⟨_, k', b, q1, ey, eb, len, rfl⟩), R2, E2⟩
end
end DL
namespace DL
open PySem PySem.Spec PyProof.Rows L2
mutual
def eqD : D → D → Bool
 | .non, b => match b with | .non => true | _ => false
 | .bl a, b => match b with | .bl c => a == c | .int c => (if a then 1 else 0) == c | _ => false
 | .int a, b => match b with | .bl c => a == (if c then 1 else 0) | .int c => a == c | _ => false
 | .str a, b => match b with | .str c => a == c | _ => false
 | .tup as, b => match b with | .tup bs => eqDs as bs | _ => false
 | .ref _, _ => false
 | .scr _, _ => false
def eqDs : List D → List D → Bool
 | [], b => match b with | [] => true | _ :: _ => false
 | a :: as, b => match b with | [] => false | b :: bs => eqD a b && eqDs as bs
end
def pln : Nat → D → Bool
 | _, .non => true
 | _, .bl _ => true
 | _, .int _ => true
 | _, .str _ => true
 | 0, .tup _ => false
 | n + 1, .tup ds => ds.all (pln n)
 | _, .ref _ => false
 | _, .scr _ => false
theorem eqD_tup (as bs : List D) : eqD (.tup as) (.tup bs) = eqDs as bs := by unfold eqD; rfl
theorem eqDs_range : ∀ (as bs : List D), eqDs as bs = ((List.range (min as.length bs.length)).all (fun j => eqD (as.getD j .non) (bs.getD j .non)) && as.length == bs.length)
 | [], [] => by simp [eqDs]
 | [], _ :: _ => by simp [eqDs]
 | _ :: _, [] => by simp [eqDs]
 | a :: as, b :: bs => by
  unfold eqDs
  dsimp only
  rw [eqDs_range as bs, List.length_cons, List.length_cons, Nat.succ_min_succ, List.range_succ_eq_map, List.all_cons, List.all_map]
  have h1 : ((as.length + 1) == (bs.length + 1)) = (as.length == bs.length) := by
   rw [Bool.eq_iff_iff]; simp
  rw [h1, Bool.and_assoc]
  rfl
mutual
theorem eqD_refl : ∀ (n : Nat) (d : D), pln n d = true → eqD d d = true
 | _, .non, _ => by unfold eqD; rfl
 | _, .bl b, _ => by unfold eqD; simp
 | _, .int i, _ => by unfold eqD; simp
 | _, .str x, _ => by unfold eqD; simp
 | 0, .tup _, h => by cases h
 | n + 1, .tup ds, h => by unfold eqD; exact eqDs_refl n ds (by unfold pln at h; exact h)
 | n, .ref _, h => by cases n <;> cases h
 | n, .scr _, h => by cases n <;> cases h
theorem eqDs_refl : ∀ (n : Nat) (ds : List D), ds.all (pln n) = true → eqDs ds ds = true
 | _, [], _ => by unfold eqDs; rfl
 | n, d :: ds, h => by
  rw [List.all_cons, Bool.and_eq_true] at h
  unfold eqDs
  dsimp only
  rw [eqD_refl n d h.1, eqDs_refl n ds h.2]; rfl
end
section
variable {K : PySem.W.Frag} {ρ ρ' : List Addr} {H : Hp}
mutual
theorem DR.one : ∀ (n : Nat) (d d' : D) (x : V), pln n d = true → pln n d' = true → DR K ρ H d x → DR K ρ' H d' x → d = d'
 | n, d, d', x, p, p', h, h' => by
  cases d with
  | non =>
   rw [h.of_non] at h'
   cases d' with
   | non => rfl
   | bl _ => cases h'.of_bl
   | int _ => cases h'.of_int
   | str _ => cases h'.of_str
   | tup _ => obtain ⟨_, _, z, _⟩ := h'.of_tup; cases z
   | ref _ => cases n <;> cases p'
   | scr _ => cases n <;> cases p'
  | bl b =>
   rw [h.of_bl] at h'
   cases d' with
   | non => cases h'.of_non
   | bl _ => cases h'.of_bl; rfl
   | int _ => cases h'.of_int
   | str _ => cases h'.of_str
   | tup _ => obtain ⟨_, _, z, _⟩ := h'.of_tup; cases z
   | ref _ => cases n <;> cases p'
   | scr _ => cases n <;> cases p'
  | int b =>
   rw [h.of_int] at h'
   cases d' with
   | non => cases h'.of_non
   | bl _ => cases h'.of_bl
   | int _ => cases h'.of_int; rfl
   | str _ => cases h'.of_str
   | tup _ => obtain ⟨_, _, z, _⟩ := h'.of_tup; cases z
   | ref _ => cases n <;> cases p'
   | scr _ => cases n <;> cases p'
  | str b =>
   rw [h.of_str] at h'
   cases d' with
   | non => cases h'.of_non
   | bl _ => cases h'.of_bl
   | int _ => cases h'.of_int
   | str _ => cases h'.of_str; rfl
   | tup _ => obtain ⟨_, _, z, _⟩ := h'.of_tup; cases z
   | ref _ => cases n <;> cases p'
   | scr _ => cases n <;> cases p'
  | tup ds =>
   obtain ⟨a, xs, rfl, h1, h2⟩ := h.of_tup
   cases d' with
   | non => cases h'.of_non
   | bl _ => cases h'.of_bl
   | int _ => cases h'.of_int
   | str _ => cases h'.of_str
   | tup es =>
    obtain ⟨a', xs', z, h3, h4⟩ := h'.of_tup
    cases z
    rw [h1] at h3
    cases h3
    cases n with
    | zero => cases p
    | succ n =>
     unfold pln at p p'
     rw [DsR.one n ds es xs p p' h2 h4]
   | ref _ => cases n <;> cases p'
   | scr _ => cases n <;> cases p'
  | ref _ => cases n <;> cases p
  | scr _ => cases n <;> cases p
termination_by n => (n, 0)
theorem DsR.one : ∀ (n : Nat) (ds ds' : List D) (xs : List V), ds.all (pln n) = true → ds'.all (pln n) = true → DsR K ρ H ds xs → DsR K ρ' H ds' xs → ds = ds'
 | n, [], ds', xs, _, _, h, h' => by
  unfold DsR at h
  subst h
  cases ds' with
  | nil => rfl
  | cons _ _ => unfold DsR at h'; obtain ⟨_, _, z, _⟩ := h'; cases z
 | n, d :: ds, ds', xs, p, p', h, h' => by
  unfold DsR at h
  obtain ⟨x, r, rfl, h1, h2⟩ := h
  cases ds' with
  | nil => unfold DsR at h'; cases h'
  | cons d' ds' =>
   unfold DsR at h'
   obtain ⟨x', r', z, h3, h4⟩ := h'
   cases z
   rw [List.all_cons, Bool.and_eq_true] at p p'
   rw [DR.one n d d' x p.1 p'.1 h1 h3, DsR.one n ds ds' r p.2 p'.2 h2 h4]
termination_by n ds => (n, ds.length + 1)
end
end
section
variable {X : Cx} {pins : List (Addr × Obj)} {σ : L2.St} {H : Hp} {s : Shared} {ρ : List Addr} (I : Inv X pins σ H s)
theorem in1_units {A : Around} : A.in1.units = A.units + 1 := rfl
include I in
theorem eqAt_D : ∀ (n : Nat) {A : Around} {d1 d2 : D} {x y : V} {u v : Value}, A.units + n < cLine → pln n d1 = true → pln n d2 = true → DR X.K ρ H d1 x → DR X.K ρ H d2 y → RelV x u → RelV y v → SeqAt.EqAt A s u v (eqD d1 d2) := by
 intro n A d1 d2 x y u v hu p1 p2 h1 h2 ru rv
 cases d1 with
 | non =>
  rw [h1.of_non] at ru
  cases ru
  cases d2 with
  | non => rw [h2.of_non] at rv; cases rv; exact SeqAt.EqAt.same _
  | bl c => rw [h2.of_bl] at rv; cases rv; exact SeqAt.EqAt.none_bool c
  | int c => rw [h2.of_int] at rv; obtain ⟨t', rfl⟩ := rv; exact SeqAt.EqAt.none_int c t'
  | str c => rw [h2.of_str] at rv; obtain ⟨t', rfl⟩ := rv; exact SeqAt.EqAt.none_str c t'
  | tup bs =>
   obtain ⟨b, ys, rfl, b1, b2⟩ := h2.of_tup
   cases rv
   obtain ⟨its, _, pl, _⟩ := I.tuple (.of b1)
   exact SeqAt.EqAt.none_tuple pl (by omega)
  | ref _ => cases n <;> cases p2
  | scr _ => cases n <;> cases p2
 | bl a =>
  rw [h1.of_bl] at ru
  cases ru
  cases d2 with
  | non => rw [h2.of_non] at rv; cases rv; exact SeqAt.EqAt.bool_none a
  | bl c => rw [h2.of_bl] at rv; cases rv; exact SeqAt.EqAt.bool_bool a c
  | int c => rw [h2.of_int] at rv; obtain ⟨t', rfl⟩ := rv; exact SeqAt.EqAt.bool_int a c t'
  | str c => rw [h2.of_str] at rv; obtain ⟨t', rfl⟩ := rv; exact SeqAt.EqAt.bool_str a c t'
  | tup bs =>
   obtain ⟨b, ys, rfl, b1, b2⟩ := h2.of_tup
   cases rv
   obtain ⟨its, _, pl, _⟩ := I.tuple (.of b1)
   exact SeqAt.EqAt.bool_tuple a pl (by omega)
  | ref _ => cases n <;> cases p2
  | scr _ => cases n <;> cases p2
 | int a =>
  rw [h1.of_int] at ru
  obtain ⟨t, rfl⟩ := ru
  cases d2 with
  | non => rw [h2.of_non] at rv; cases rv; exact SeqAt.EqAt.int_none a t
  | bl c => rw [h2.of_bl] at rv; cases rv; exact SeqAt.EqAt.int_bool a t c
  | int c => rw [h2.of_int] at rv; obtain ⟨t', rfl⟩ := rv; exact SeqAt.EqAt.int_int a t c t'
  | str c => rw [h2.of_str] at rv; obtain ⟨t', rfl⟩ := rv; exact SeqAt.EqAt.int_str a t c t'
  | tup bs =>
   obtain ⟨b, ys, rfl, b1, b2⟩ := h2.of_tup
   cases rv
   obtain ⟨its, _, pl, _⟩ := I.tuple (.of b1)
   exact SeqAt.EqAt.int_tuple a t pl (by omega)
  | ref _ => cases n <;> cases p2
  | scr _ => cases n <;> cases p2
 | str a =>
  rw [h1.of_str] at ru
  obtain ⟨t, rfl⟩ := ru
  cases d2 with
  | non => rw [h2.of_non] at rv; cases rv; exact SeqAt.EqAt.str_none a t
  | bl c => rw [h2.of_bl] at rv; cases rv; exact SeqAt.EqAt.str_bool a t c
  | int c => rw [h2.of_int] at rv; obtain ⟨t', rfl⟩ := rv; exact SeqAt.EqAt.str_int a t c t'
  | str c => rw [h2.of_str] at rv; obtain ⟨t', rfl⟩ := rv; exact SeqAt.EqAt.str_str a t c t'
  | tup bs =>
   obtain ⟨b, ys, rfl, b1, b2⟩ := h2.of_tup
   cases rv
   obtain ⟨its, _, pl, _⟩ := I.tuple (.of b1)
   exact SeqAt.EqAt.str_tuple a t pl (by omega)
  | ref _ => cases n <;> cases p2
  | scr _ => cases n <;> cases p2
 | tup as =>
  obtain ⟨a, xs, rfl, a1, a2⟩ := h1.of_tup
  cases ru
  cases d2 with
  | non =>
   rw [h2.of_non] at rv
   cases rv
   obtain ⟨its, _, pl, _⟩ := I.tuple (.of a1)
   exact SeqAt.EqAt.tuple_none pl (by omega)
  | bl c =>
   rw [h2.of_bl] at rv
   cases rv
   obtain ⟨its, _, pl, _⟩ := I.tuple (.of a1)
   exact SeqAt.EqAt.tuple_bool c pl (by omega)
  | int c =>
   rw [h2.of_int] at rv
   obtain ⟨t', rfl⟩ := rv
   obtain ⟨its, _, pl, _⟩ := I.tuple (.of a1)
   exact SeqAt.EqAt.tuple_int c t' pl (by omega)
  | str c =>
   rw [h2.of_str] at rv
   obtain ⟨t', rfl⟩ := rv
   obtain ⟨its, _, pl, _⟩ := I.tuple (.of a1)
   exact SeqAt.EqAt.tuple_str c t' pl (by omega)
  | tup bs =>
   obtain ⟨b, ys, rfl, b1, b2⟩ := h2.of_tup
   cases rv
   cases n with
   | zero => cases p1
   | succ n =>
    unfold pln at p1 p2
    obtain ⟨its, r1, pl1, _⟩ := I.tuple (.of a1)
    obtain ⟨its2, r2, pl2, _⟩ := I.tuple (.of b1)
    have he : eqD (.tup as) (.tup bs) = ((List.range (min its.toArray.size its2.toArray.size)).all (fun j => eqD (as.getD j .non) (bs.getD j .non)) && its.toArray.size == its2.toArray.size) := by
     rw [eqD_tup, eqDs_range, List.size_toArray, List.size_toArray, ← r1.length, ← r2.length, ← a2.length, ← b2.length]
    have hj : ∀ j (h1 : j < its.toArray.size) (h2 : j < its2.toArray.size), SeqAt.EqAt A.in1 s its.toArray[j] its2.toArray[j] (eqD (as.getD j .non) (bs.getD j .non)) := by
     intro j j1 j2
     rw [List.size_toArray] at j1 j2
     have l1 : j < as.length := by rw [a2.length, r1.length]; exact j1
     have l2 : j < bs.length := by rw [b2.length, r2.length]; exact j2
     have g1 : as[j]? = some (as.getD j .non) := by simp [List.getD, List.getElem?_eq_getElem l1]
     have g2 : bs[j]? = some (bs.getD j .non) := by simp [List.getD, List.getElem?_eq_getElem l2]
     obtain ⟨x, x1, x2⟩ := a2.get g1
     obtain ⟨y, y1, y2⟩ := b2.get g2
     obtain ⟨u, u1, u2⟩ := r1.get x1
     obtain ⟨v, v1, v2⟩ := r2.get y1
     have e1 : its.toArray[j] = u := by rw [List.getElem?_eq_getElem j1] at u1; simpa using u1
     have e2 : its2.toArray[j] = v := by rw [List.getElem?_eq_getElem j2] at v1; simpa using v1
     rw [e1, e2]
     exact eqAt_D n (by rw [in1_units]; omega) (List.all_eq_true.mp p1 _ (List.mem_of_getElem? g1)) (List.all_eq_true.mp p2 _ (List.mem_of_getElem? g2)) x2 y2 u2 v2
    by_cases hab : a = b
    ·subst hab
     have hsame : as = bs := by
      rw [a1] at b1
      cases b1
      exact DsR.one n as bs xs p1 p2 a2 b2
     rw [hsame, eqD_refl (n + 1) (.tup bs) (by unfold pln; exact p2)]
     exact SeqAt.EqAt.same _
    ·rw [he]
     exact SeqAt.EqAt.of_refs hab (SeqAt.RcAt.tuples pl1 pl2 (by omega) hj)
  | ref _ => cases n <;> cases p2
  | scr _ => cases n <;> cases p2
 | ref _ => cases n <;> cases p1
 | scr _ => cases n <;> cases p1
include I in
theorem rcAt_D : ∀ (n : Nat) {A : Around} {d1 d2 : D} {x y : V} {u v : Value}, A.units + n < cLine → pln n d1 = true → pln n d2 = true → DR X.K ρ H d1 x → DR X.K ρ H d2 y → RelV x u → RelV y v → SeqAt.RcAt A s u v (eqD d1 d2) := by
 intro n A d1 d2 x y u v hu p1 p2 h1 h2 ru rv
 cases d1 with
 | non =>
  rw [h1.of_non] at ru
  cases ru
  cases d2 with
  | non => rw [h2.of_non] at rv; cases rv; exact SeqAt.RcAt.none_none
  | bl c => rw [h2.of_bl] at rv; cases rv; exact SeqAt.RcAt.none_bool c
  | int c => rw [h2.of_int] at rv; obtain ⟨t', rfl⟩ := rv; exact SeqAt.RcAt.none_int c t'
  | str c => rw [h2.of_str] at rv; obtain ⟨t', rfl⟩ := rv; exact SeqAt.RcAt.none_str c t'
  | tup bs =>
   obtain ⟨b, ys, rfl, b1, b2⟩ := h2.of_tup
   cases rv
   obtain ⟨its, _, pl, _⟩ := I.tuple (.of b1)
   exact SeqAt.RcAt.none_tuple pl (by omega)
  | ref _ => cases n <;> cases p2
  | scr _ => cases n <;> cases p2
 | bl a =>
  rw [h1.of_bl] at ru
  cases ru
  cases d2 with
  | non => rw [h2.of_non] at rv; cases rv; exact SeqAt.RcAt.bool_none a
  | bl c => rw [h2.of_bl] at rv; cases rv; exact SeqAt.RcAt.bool_bool a c
  | int c => rw [h2.of_int] at rv; obtain ⟨t', rfl⟩ := rv; exact SeqAt.RcAt.bool_int a c t'
  | str c => rw [h2.of_str] at rv; obtain ⟨t', rfl⟩ := rv; exact SeqAt.RcAt.bool_str a c t'
  | tup bs =>
   obtain ⟨b, ys, rfl, b1, b2⟩ := h2.of_tup
   cases rv
   obtain ⟨its, _, pl, _⟩ := I.tuple (.of b1)
   exact SeqAt.RcAt.bool_tuple a pl (by omega)
  | ref _ => cases n <;> cases p2
  | scr _ => cases n <;> cases p2
 | int a =>
  rw [h1.of_int] at ru
  obtain ⟨t, rfl⟩ := ru
  cases d2 with
  | non => rw [h2.of_non] at rv; cases rv; exact SeqAt.RcAt.int_none a t
  | bl c => rw [h2.of_bl] at rv; cases rv; exact SeqAt.RcAt.int_bool a t c
  | int c => rw [h2.of_int] at rv; obtain ⟨t', rfl⟩ := rv; exact SeqAt.RcAt.int_int a t c t'
  | str c => rw [h2.of_str] at rv; obtain ⟨t', rfl⟩ := rv; exact SeqAt.RcAt.int_str a t c t'
  | tup bs =>
   obtain ⟨b, ys, rfl, b1, b2⟩ := h2.of_tup
   cases rv
   obtain ⟨its, _, pl, _⟩ := I.tuple (.of b1)
   exact SeqAt.RcAt.int_tuple a t pl (by omega)
  | ref _ => cases n <;> cases p2
  | scr _ => cases n <;> cases p2
 | str a =>
  rw [h1.of_str] at ru
  obtain ⟨t, rfl⟩ := ru
  cases d2 with
  | non => rw [h2.of_non] at rv; cases rv; exact SeqAt.RcAt.str_none a t
  | bl c => rw [h2.of_bl] at rv; cases rv; exact SeqAt.RcAt.str_bool a t c
  | int c => rw [h2.of_int] at rv; obtain ⟨t', rfl⟩ := rv; exact SeqAt.RcAt.str_int a t c t'
  | str c => rw [h2.of_str] at rv; obtain ⟨t', rfl⟩ := rv; exact SeqAt.RcAt.str_str a t c t'
  | tup bs =>
   obtain ⟨b, ys, rfl, b1, b2⟩ := h2.of_tup
   cases rv
   obtain ⟨its, _, pl, _⟩ := I.tuple (.of b1)
   exact SeqAt.RcAt.str_tuple a t pl (by omega)
  | ref _ => cases n <;> cases p2
  | scr _ => cases n <;> cases p2
 | tup as =>
  obtain ⟨a, xs, rfl, a1, a2⟩ := h1.of_tup
  cases ru
  cases d2 with
  | non =>
   rw [h2.of_non] at rv
   cases rv
   obtain ⟨its, _, pl, _⟩ := I.tuple (.of a1)
   exact SeqAt.RcAt.tuple_none pl (by omega)
  | bl c =>
   rw [h2.of_bl] at rv
   cases rv
   obtain ⟨its, _, pl, _⟩ := I.tuple (.of a1)
   exact SeqAt.RcAt.tuple_bool c pl (by omega)
  | int c =>
   rw [h2.of_int] at rv
   obtain ⟨t', rfl⟩ := rv
   obtain ⟨its, _, pl, _⟩ := I.tuple (.of a1)
   exact SeqAt.RcAt.tuple_int c t' pl (by omega)
  | str c =>
   rw [h2.of_str] at rv
   obtain ⟨t', rfl⟩ := rv
   obtain ⟨its, _, pl, _⟩ := I.tuple (.of a1)
   exact SeqAt.RcAt.tuple_str c t' pl (by omega)
  | tup bs =>
   obtain ⟨b, ys, rfl, b1, b2⟩ := h2.of_tup
   cases rv
   cases n with
   | zero => cases p1
   | succ n =>
    unfold pln at p1 p2
    obtain ⟨its, r1, pl1, _⟩ := I.tuple (.of a1)
    obtain ⟨its2, r2, pl2, _⟩ := I.tuple (.of b1)
    have he : eqD (.tup as) (.tup bs) = ((List.range (min its.toArray.size its2.toArray.size)).all (fun j => eqD (as.getD j .non) (bs.getD j .non)) && its.toArray.size == its2.toArray.size) := by
     rw [eqD_tup, eqDs_range, List.size_toArray, List.size_toArray, ← r1.length, ← r2.length, ← a2.length, ← b2.length]
    have hj : ∀ j (h1 : j < its.toArray.size) (h2 : j < its2.toArray.size), SeqAt.EqAt A.in1 s its.toArray[j] its2.toArray[j] (eqD (as.getD j .non) (bs.getD j .non)) := by
     intro j j1 j2
     rw [List.size_toArray] at j1 j2
     have l1 : j < as.length := by rw [a2.length, r1.length]; exact j1
     have l2 : j < bs.length := by rw [b2.length, r2.length]; exact j2
     have g1 : as[j]? = some (as.getD j .non) := by simp [List.getD, List.getElem?_eq_getElem l1]
     have g2 : bs[j]? = some (bs.getD j .non) := by simp [List.getD, List.getElem?_eq_getElem l2]
     obtain ⟨x, x1, x2⟩ := a2.get g1
     obtain ⟨y, y1, y2⟩ := b2.get g2
     obtain ⟨u, u1, u2⟩ := r1.get x1
     obtain ⟨v, v1, v2⟩ := r2.get y1
     have e1 : its.toArray[j] = u := by rw [List.getElem?_eq_getElem j1] at u1; simpa using u1
     have e2 : its2.toArray[j] = v := by rw [List.getElem?_eq_getElem j2] at v1; simpa using v1
     rw [e1, e2]
     exact eqAt_D I n (by rw [in1_units]; omega) (List.all_eq_true.mp p1 _ (List.mem_of_getElem? g1)) (List.all_eq_true.mp p2 _ (List.mem_of_getElem? g2)) x2 y2 u2 v2
    rw [he]
    exact SeqAt.RcAt.tuples pl1 pl2 (by omega) hj
  | ref _ => cases n <;> cases p2
  | scr _ => cases n <;> cases p2
 | ref _ => cases n <;> cases p1
 | scr _ => cases n <;> cases p1
include I in
theorem rcNe_D : ∀ (n : Nat) {A : Around} {d1 d2 : D} {x y : V} {u v : Value}, A.units + n < cLine → pln n d1 = true → pln n d2 = true → DR X.K ρ H d1 x → DR X.K ρ H d2 y → RelV x u → RelV y v → SeqAt.RcNeAt A s u v (!eqD d1 d2) := by
 intro n A d1 d2 x y u v hu p1 p2 h1 h2 ru rv
 cases d1 with
 | non =>
  rw [h1.of_non] at ru
  cases ru
  cases d2 with
  | non => rw [h2.of_non] at rv; cases rv; exact SeqAt.RcNeAt.none_none
  | bl c => rw [h2.of_bl] at rv; cases rv; exact SeqAt.RcNeAt.none_bool c
  | int c => rw [h2.of_int] at rv; obtain ⟨t', rfl⟩ := rv; exact SeqAt.RcNeAt.none_int c t'
  | str c => rw [h2.of_str] at rv; obtain ⟨t', rfl⟩ := rv; exact SeqAt.RcNeAt.none_str c t'
  | tup bs =>
   obtain ⟨b, ys, rfl, b1, b2⟩ := h2.of_tup
   cases rv
   obtain ⟨its, _, pl, _⟩ := I.tuple (.of b1)
   exact SeqAt.RcNeAt.none_tuple pl (by omega)
  | ref _ => cases n <;> cases p2
  | scr _ => cases n <;> cases p2
 | bl a =>
  rw [h1.of_bl] at ru
  cases ru
  cases d2 with
  | non => rw [h2.of_non] at rv; cases rv; exact SeqAt.RcNeAt.bool_none a
  | bl c => rw [h2.of_bl] at rv; cases rv; exact SeqAt.RcNeAt.bool_bool a c
  | int c => rw [h2.of_int] at rv; obtain ⟨t', rfl⟩ := rv; exact SeqAt.RcNeAt.bool_int a c t'
  | str c => rw [h2.of_str] at rv; obtain ⟨t', rfl⟩ := rv; exact SeqAt.RcNeAt.bool_str a c t'
  | tup bs =>
   obtain ⟨b, ys, rfl, b1, b2⟩ := h2.of_tup
   cases rv
   obtain ⟨its, _, pl, _⟩ := I.tuple (.of b1)
   exact SeqAt.RcNeAt.bool_tuple a pl (by omega)
  | ref _ => cases n <;> cases p2
  | scr _ => cases n <;> cases p2
 | int a =>
  rw [h1.of_int] at ru
  obtain ⟨t, rfl⟩ := ru
  cases d2 with
  | non => rw [h2.of_non] at rv; cases rv; exact SeqAt.RcNeAt.int_none a t
  | bl c => rw [h2.of_bl] at rv; cases rv; exact SeqAt.RcNeAt.int_bool a t c
  | int c => rw [h2.of_int] at rv; obtain ⟨t', rfl⟩ := rv; exact SeqAt.RcNeAt.int_int a t c t'
  | str c => rw [h2.of_str] at rv; obtain ⟨t', rfl⟩ := rv; exact SeqAt.RcNeAt.int_str a t c t'
  | tup bs =>
   obtain ⟨b, ys, rfl, b1, b2⟩ := h2.of_tup
   cases rv
   obtain ⟨its, _, pl, _⟩ := I.tuple (.of b1)
   exact SeqAt.RcNeAt.int_tuple a t pl (by omega)
  | ref _ => cases n <;> cases p2
  | scr _ => cases n <;> cases p2
 | str a =>
  rw [h1.of_str] at ru
  obtain ⟨t, rfl⟩ := ru
  cases d2 with
  | non => rw [h2.of_non] at rv; cases rv; exact SeqAt.RcNeAt.str_none a t
  | bl c => rw [h2.of_bl] at rv; cases rv; exact SeqAt.RcNeAt.str_bool a t c
  | int c => rw [h2.of_int] at rv; obtain ⟨t', rfl⟩ := rv; exact SeqAt.RcNeAt.str_int a t c t'
  | str c => rw [h2.of_str] at rv; obtain ⟨t', rfl⟩ := rv; exact SeqAt.RcNeAt.str_str a t c t'
  | tup bs =>
   obtain ⟨b, ys, rfl, b1, b2⟩ := h2.of_tup
   cases rv
   obtain ⟨its, _, pl, _⟩ := I.tuple (.of b1)
   exact SeqAt.RcNeAt.str_tuple a t pl (by omega)
  | ref _ => cases n <;> cases p2
  | scr _ => cases n <;> cases p2
 | tup as =>
  obtain ⟨a, xs, rfl, a1, a2⟩ := h1.of_tup
  cases ru
  cases d2 with
  | non =>
   rw [h2.of_non] at rv
   cases rv
   obtain ⟨its, _, pl, _⟩ := I.tuple (.of a1)
   exact SeqAt.RcNeAt.tuple_none pl (by omega)
  | bl c =>
   rw [h2.of_bl] at rv
   cases rv
   obtain ⟨its, _, pl, _⟩ := I.tuple (.of a1)
   exact SeqAt.RcNeAt.tuple_bool c pl (by omega)
  | int c =>
   rw [h2.of_int] at rv
   obtain ⟨t', rfl⟩ := rv
   obtain ⟨its, _, pl, _⟩ := I.tuple (.of a1)
   exact SeqAt.RcNeAt.tuple_int c t' pl (by omega)
  | str c =>
   rw [h2.of_str] at rv
   obtain ⟨t', rfl⟩ := rv
   obtain ⟨its, _, pl, _⟩ := I.tuple (.of a1)
   exact SeqAt.RcNeAt.tuple_str c t' pl (by omega)
  | tup bs =>
   obtain ⟨b, ys, rfl, b1, b2⟩ := h2.of_tup
   cases rv
   cases n with
   | zero => cases p1
   | succ n =>
    unfold pln at p1 p2
    obtain ⟨its, r1, pl1, _⟩ := I.tuple (.of a1)
    obtain ⟨its2, r2, pl2, _⟩ := I.tuple (.of b1)
    have he : eqD (.tup as) (.tup bs) = ((List.range (min its.toArray.size its2.toArray.size)).all (fun j => eqD (as.getD j .non) (bs.getD j .non)) && its.toArray.size == its2.toArray.size) := by
     rw [eqD_tup, eqDs_range, List.size_toArray, List.size_toArray, ← r1.length, ← r2.length, ← a2.length, ← b2.length]
    have hj : ∀ j (h1 : j < its.toArray.size) (h2 : j < its2.toArray.size), SeqAt.EqAt A.in1 s its.toArray[j] its2.toArray[j] (eqD (as.getD j .non) (bs.getD j .non)) := by
     intro j j1 j2
     rw [List.size_toArray] at j1 j2
     have l1 : j < as.length := by rw [a2.length, r1.length]; exact j1
     have l2 : j < bs.length := by rw [b2.length, r2.length]; exact j2
     have g1 : as[j]? = some (as.getD j .non) := by simp [List.getD, List.getElem?_eq_getElem l1]
     have g2 : bs[j]? = some (bs.getD j .non) := by simp [List.getD, List.getElem?_eq_getElem l2]
     obtain ⟨x, x1, x2⟩ := a2.get g1
     obtain ⟨y, y1, y2⟩ := b2.get g2
     obtain ⟨u, u1, u2⟩ := r1.get x1
     obtain ⟨v, v1, v2⟩ := r2.get y1
     have e1 : its.toArray[j] = u := by rw [List.getElem?_eq_getElem j1] at u1; simpa using u1
     have e2 : its2.toArray[j] = v := by rw [List.getElem?_eq_getElem j2] at v1; simpa using v1
     rw [e1, e2]
     exact eqAt_D I n (by rw [in1_units]; omega) (List.all_eq_true.mp p1 _ (List.mem_of_getElem? g1)) (List.all_eq_true.mp p2 _ (List.mem_of_getElem? g2)) x2 y2 u2 v2
    rw [he]
    exact SeqAt.RcNeAt.tuples pl1 pl2 (by omega) hj
  | ref _ => cases n <;> cases p2
  | scr _ => cases n <;> cases p2
 | ref _ => cases n <;> cases p1
 | scr _ => cases n <;> cases p1
end
end DL
namespace DL
open PySem PySem.Spec PyProof.Rows L2
def LtAt (A : Around) (s : Shared) (y x : Value) (b : Bool) : Prop :=
 ∀ (prog : Program) (w : World) (E : Value → Shared → Prop) (Q : Value → Shared → Prop), Q (.bool b) s → wpAny (model prog w) A (compareOp .Lt y x) Q E s
def lexB : List (Bool × Bool) → Bool → Bool
 | [], fin => fin
 | p :: r, fin => if p.1 = true then lexB r fin else p.2
section
open PySem.SeqAt
open PySem.AutoSeq1 (wpAny_loadPart')
open PySem.MeetsSeq PySem.MeetsSeq2 PySem.MeetsSeq3
def PairAt (A : Around) (s : Shared) (q : Value × Value) (p : Bool × Bool) : Prop := EqAt A s q.1 q.2 p.1 ∧ (p.1 = false → LtAt A s q.1 q.2 p.2)
theorem tuple_ltAt (l b : Addr) (items items2 : Array Value) (n n2 : Nat) (dd dd2 : Option Addr) (sl sl2 : Array (Option Value)) (ps : List (Bool × Bool)) :
  Meets (Builtin.«tuple.__lt__» ⟨[.ref l, .ref b], []⟩)
   (fun A R s => s.heap.get? l = some { cls := .type "tuple", dict := dd, data := .seq items n, slots := sl } ∧ s.heap.get? b = some { cls := .type "tuple", dict := dd2, data := .seq items2 n2, slots := sl2 } ∧
    Paired (PairAt A.in1 s) (items.toList.zip items2.toList) ps ∧ R (.ok (.ret (.bool (lexB ps (decide (items.size < items2.size)))))) s) :=
 .of_wp fun prog w A R s h => by
  obtain ⟨hp, g, d, tk, os⟩ := s; obtain ⟨hl, hb, hps, h⟩ := h
  have f2 := AutoSeq1.sub_tuple_tuple
  wp_walk using wpAny_loadPart' hl, wpAny_loadPart' hb, wpAny_forIn_list _ (fun rest b s' => b.1 = none ∧ s' = ⟨hp, g, d, tk, os⟩ ∧ ∃ (qs : List (Bool × Bool)), Paired (PairAt A.in1 ⟨hp, g, d, tk, os⟩) rest qs ∧
   R (.ok (.ret (.bool (lexB qs (decide (items.size < items2.size)))))) ⟨hp, g, d, tk, os⟩) _
  case turn =>
   rintro ⟨y, x⟩ rest b s' ⟨hb', rfl, qs, hq, hR⟩
   cases hq with
   | @cons _ p _ qs' hp1 hq' =>
    obtain ⟨he, hlt⟩ := hp1
    refine wpAny_bind (he prog w _ _ ?_)
    obtain ⟨pe, pl⟩ := p
    unfold lexB at hR
    cases pe with
    | true =>
     rw [if_pos rfl] at hR
     wp_walk
     exact ⟨rfl, rfl, qs', hq', hR⟩
    | false =>
     rw [if_neg Bool.false_ne_true] at hR
     have hri : ∀ (E : Value → Shared → Prop) (Q : Value → Shared → Prop), Q (.bool pl) ⟨hp, g, d, tk, os⟩ → wpAny (model prog w) A.in1 (richCompare .Lt y x) Q E ⟨hp, g, d, tk, os⟩ := hlt rfl prog w
     wp_walk using hri
     exact ⟨_, rfl, by simpa using hR⟩
  case fin =>
   rintro ⟨b1, b2⟩ s' ⟨hb', rfl, qs, hq, hR⟩
   simp only at hb'
   subst hb'
   cases hq
   unfold lexB at hR
   wp_walk
   exact ⟨_, rfl, by simpa [Builtin.Tuple.tupleCompareSizes] using hR⟩
  case h =>
   exact ⟨rfl, rfl, ps, hps, h⟩
theorem LtAt.tuples {A : Around} {s : Shared} {l b : Addr} {items items2 : Array Value} {ps : List (Bool × Bool)} (hl : s.heap.IsTuple l items) (hb : s.heap.IsTuple b items2) (hu : A.units < cLine) (hp : Paired (PairAt A.in1 s) (items.toList.zip items2.toList) ps) :
  LtAt A s (.ref l) (.ref b) (lexB ps (decide (items.size < items2.size))) := fun prog w E Q h => by
 obtain ⟨⟨cls, dd, data, sl⟩, ho, hc, n, hd⟩ := id hl
 obtain ⟨⟨cls2, dd2, data2, sl2⟩, ho2, hc2, n2, hd2⟩ := id hb
 simp only at hc hd hc2 hd2
 subst hc hd hc2 hd2
 exact richCompare_meets_room (op := .Lt) ⟨_, ho, rfl⟩ ⟨_, ho2, rfl⟩ PySem.F.slot_tuple_lt PySem.F.entry_tuple_lt (PySem.F.args_tuple_lt_2 _ _) (tuple_ltAt l b items items2 n n2 dd dd2 sl sl2 ps)
  ⟨ho, ho2, hp, show Value.bool (lexB ps (decide (items.size < items2.size))) ≠ Value.notImplemented ∧ Q (.bool (lexB ps (decide (items.size < items2.size)))) s from ⟨(fun x => nomatch x), h⟩⟩ hu
end
mutual
def ltD : D → D → Bool
 | .int a, b => match b with | .int c => decide (a < c) | _ => false
 | .str a, b => match b with | .str c => decide (a.cps.toList < c.cps.toList) | _ => false
 | .tup as, b => match b with | .tup bs => ltDs as bs | _ => false
 | .non, _ => false
 | .bl _, _ => false
 | .ref _, _ => false
 | .scr _, _ => false
def ltDs : List D → List D → Bool
 | [], b => match b with | [] => false | _ :: _ => true
 | a :: as, b => match b with | [] => false | b :: bs => if eqD a b = true then ltDs as bs else ltD a b
end
def cmpOk : Nat → D → D → Bool
 | _, .int _, .int _ => true
 | _, .str _, .str _ => true
 | n + 1, .tup as, .tup bs => (as.zip bs).all fun p => cmpOk n p.1 p.2
 | _, _, _ => false
theorem ltD_tup (as bs : List D) : ltD (.tup as) (.tup bs) = ltDs as bs := by unfold ltD; rfl
theorem ltDs_cons (a b : D) (as bs : List D) : ltDs (a :: as) (b :: bs) = if eqD a b = true then ltDs as bs else ltD a b := by conv => lhs; unfold ltDs
theorem ltDs_lex : ∀ (as bs : List D), ltDs as bs = lexB ((as.zip bs).map fun p => (eqD p.1 p.2, ltD p.1 p.2)) (decide (as.length < bs.length))
 | [], [] => by simp [ltDs, lexB]
 | [], _ :: _ => by simp [ltDs, lexB]
 | _ :: _, [] => by simp [ltDs, lexB]
 | a :: as, b :: bs => by
  rw [ltDs_cons, ltDs_lex as bs, List.zip_cons_cons, List.map_cons, List.length_cons, List.length_cons]
  conv => rhs; unfold lexB
  have : decide (as.length + 1 < bs.length + 1) = decide (as.length < bs.length) := by
   rw [Bool.eq_iff_iff]; simp
  rw [this]
section
variable {X : Cx} {pins : List (Addr × Obj)} {σ : L2.St} {H : Hp} {s : Shared} {ρ : List Addr} (I : Inv X pins σ H s)
include I in
theorem ltAt_D : ∀ (n : Nat) {A : Around} {d1 d2 : D} {x y : V} {u v : Value}, A.units + n < cLine → cmpOk n d1 d2 = true → pln n d1 = true → pln n d2 = true → DR X.K ρ H d1 x → DR X.K ρ H d2 y → RelV x u → RelV y v → LtAt A s u v (ltD d1 d2) := by
 intro n
 induction n with
 | zero =>
  intro A d1 d2 x y u v hu hc p1 p2 h1 h2 ru rv
  cases d1 with
  | int a =>
   cases d2 with
   | int c =>
    rw [h1.of_int] at ru; rw [h2.of_int] at rv
    obtain ⟨t, rfl⟩ := ru; obtain ⟨t', rfl⟩ := rv
    exact fun prog w E Q h => lt_int (by unfold ltD at h; exact h)
   | _ => cases hc
  | str a =>
   cases d2 with
   | str c =>
    rw [h1.of_str] at ru; rw [h2.of_str] at rv
    obtain ⟨t, rfl⟩ := ru; obtain ⟨t', rfl⟩ := rv
    exact fun prog w E Q h => PySem.P.lt_str (by unfold ltD at h; exact h)
   | _ => cases hc
  | tup _ => cases p1
  | _ => cases hc
 | succ n ih =>
  intro A d1 d2 x y u v hu hc p1 p2 h1 h2 ru rv
  cases d1 with
  | int a =>
   cases d2 with
   | int c =>
    rw [h1.of_int] at ru; rw [h2.of_int] at rv
    obtain ⟨t, rfl⟩ := ru; obtain ⟨t', rfl⟩ := rv
    exact fun prog w E Q h => lt_int (by unfold ltD at h; exact h)
   | _ => cases hc
  | str a =>
   cases d2 with
   | str c =>
    rw [h1.of_str] at ru; rw [h2.of_str] at rv
    obtain ⟨t, rfl⟩ := ru; obtain ⟨t', rfl⟩ := rv
    exact fun prog w E Q h => PySem.P.lt_str (by unfold ltD at h; exact h)
   | _ => cases hc
  | tup as =>
   cases d2 with
   | tup bs =>
    obtain ⟨a, xs, rfl, a1, a2⟩ := h1.of_tup
    obtain ⟨b, ys, rfl, b1, b2⟩ := h2.of_tup
    cases ru
    cases rv
    unfold pln at p1 p2
    unfold cmpOk at hc
    obtain ⟨its, r1, pl1, _⟩ := I.tuple (.of a1)
    obtain ⟨its2, r2, pl2, _⟩ := I.tuple (.of b1)
    have key : ∀ {as bs : List D} {xs ys : List V} {its its2 : List Value}, as.all (pln n) = true → bs.all (pln n) = true → ((as.zip bs).all fun p => cmpOk n p.1 p.2) = true → DsR X.K ρ H as xs → DsR X.K ρ H bs ys → Vals xs its → Vals ys its2 →
      Paired (PairAt A.in1 s) (its.zip its2) ((as.zip bs).map fun p => (eqD p.1 p.2, ltD p.1 p.2)) := by
     intro as
     induction as with
     | nil =>
      intro bs xs ys its its2 _ _ _ q1 _ q3 _
      unfold DsR at q1
      subst q1
      cases q3
      exact .nil
     | cons d as ih2 =>
      intro bs xs ys its its2 z1 z2 z3 q1 q2 q3 q4
      unfold DsR at q1
      obtain ⟨x, r, rfl, h1, h2⟩ := q1
      cases q3 with
      | cons r1 r2 =>
       cases bs with
       | nil =>
        unfold DsR at q2
        subst q2
        cases q4
        exact .nil
       | cons e bs =>
        unfold DsR at q2
        obtain ⟨y, r', rfl, h3, h4⟩ := q2
        cases q4 with
        | cons r3 r4 =>
         rw [List.all_cons, Bool.and_eq_true] at z1 z2
         rw [List.zip_cons_cons, List.all_cons, Bool.and_eq_true] at z3
         rw [List.zip_cons_cons, List.zip_cons_cons, List.map_cons]
         refine .cons ⟨eqAt_D I n (by rw [in1_units]; omega) z1.1 z2.1 h1 h3 r1 r3, fun _ => ih (by rw [in1_units]; omega) z3.1 z1.1 z2.1 h1 h3 r1 r3⟩ (ih2 z1.2 z2.2 z3.2 h2 h4 r2 r4)
    have hl := LtAt.tuples (A := A) pl1 pl2 (by omega) (key p1 p2 hc a2 b2 r1 r2)
    rw [ltD_tup, ltDs_lex, a2.length, b2.length, r1.length, r2.length]
    simpa using hl
   | _ => cases hc
  | _ => cases hc
end
end DL
namespace DL
open PySem L2
theorem eqDs_cons (a b : D) (as bs : List D) : eqDs (a :: as) (b :: bs) = (eqD a b && eqDs as bs) := by conv => lhs; unfold eqDs
theorem cmpOk_symm : ∀ (n : Nat) (a b : D), cmpOk n a b = true → cmpOk n b a = true := by
 intro n
 induction n with
 | zero =>
  intro a b h
  cases a <;> cases b <;> first | rfl | cases h
 | succ n ih =>
  intro a b h
  cases a <;> cases b <;> first | rfl | cases h | skip
  rename_i as bs
  unfold cmpOk at h ⊢
  rw [List.all_eq_true] at h ⊢
  intro p hp
  refine ih _ _ (h (p.2, p.1) ?_)
  obtain ⟨i, hi, e⟩ := List.mem_iff_getElem.mp hp
  rw [List.length_zip] at hi
  rw [List.getElem_zip] at e
  rw [← e]
  refine List.mem_iff_getElem.mpr ⟨i, by rw [List.length_zip]; omega, ?_⟩
  rw [List.getElem_zip]
theorem eq_of : ∀ (n : Nat) (a b : D), cmpOk n a b = true → eqD a b = true → a = b := by
 intro n
 induction n with
 | zero =>
  intro a b h e
  cases a <;> cases b <;> first | cases h | skip
  ·unfold eqD at e; rw [eq_of_beq e]
  ·unfold eqD at e; rw [eq_of_beq e]
 | succ n ih =>
  intro a b h e
  cases a <;> cases b <;> first | cases h | skip
  ·unfold eqD at e; rw [eq_of_beq e]
  ·unfold eqD at e; rw [eq_of_beq e]
  ·rename_i as bs
   unfold cmpOk at h
   rw [eqD_tup] at e
   congr 1
   induction as generalizing bs with
   | nil =>
    cases bs with
    | nil => rfl
    | cons _ _ => unfold eqDs at e; cases e
   | cons x xs ih2 =>
    cases bs with
    | nil => unfold eqDs at e; cases e
    | cons y ys =>
     rw [eqDs_cons, Bool.and_eq_true] at e
     rw [List.zip_cons_cons, List.all_cons, Bool.and_eq_true] at h
     rw [ih x y h.1 e.1, ih2 ys e.2 h.2]
theorem eqD_dec {n : Nat} {a b : D} (h : cmpOk n a b = true) (ha : pln n a = true) : (a = b → eqD a b = true) ∧ (a ≠ b → eqD a b = false) := by
 refine ⟨fun e => ?_, fun e => ?_⟩
 ·subst e; exact eqD_refl n a ha
 ·cases q : eqD a b
  ·rfl
  ·exact absurd (eq_of n a b h q) e
theorem ltD_irr : ∀ (n : Nat) (a : D), pln n a = true → ltD a a = false := by
 intro n
 induction n with
 | zero =>
  intro a h
  cases a <;> first | cases h | skip
  ·unfold ltD; rfl
  ·unfold ltD; rfl
  ·unfold ltD; simp
  ·unfold ltD; simp only [decide_eq_false_iff_not]; exact List.lt_irrefl _
 | succ n ih =>
  intro a h
  cases a <;> first | cases h | skip
  ·unfold ltD; rfl
  ·unfold ltD; rfl
  ·unfold ltD; simp
  ·unfold ltD; simp only [decide_eq_false_iff_not]; exact List.lt_irrefl _
  ·rename_i as
   unfold pln at h
   rw [ltD_tup]
   induction as with
   | nil => unfold ltDs; rfl
   | cons x xs ih2 =>
    rw [List.all_cons, Bool.and_eq_true] at h
    rw [ltDs_cons, if_pos (eqD_refl n x h.1), ih2 h.2]
theorem ltD_tri : ∀ (n : Nat) (a b : D), cmpOk n a b = true → pln n a = true → pln n b = true → a = b ∨ ltD a b = true ∨ ltD b a = true := by
 have hI : ∀ i j : Int, D.int i = D.int j ∨ ltD (.int i) (.int j) = true ∨ ltD (.int j) (.int i) = true := fun i j => by
  unfold ltD
  simp only [decide_eq_true_eq]
  rcases Int.lt_trichotomy i j with h | h | h
  ·exact .inr (.inl h)
  ·exact .inl (by rw [h])
  ·exact .inr (.inr h)
 have hS : ∀ x y : Str, D.str x = D.str y ∨ ltD (.str x) (.str y) = true ∨ ltD (.str y) (.str x) = true := fun x y => by
  unfold ltD
  simp only [decide_eq_true_eq]
  by_cases h1 : x.cps.toList < y.cps.toList
  ·exact .inr (.inl h1)
  ·by_cases h2 : y.cps.toList < x.cps.toList
   ·exact .inr (.inr h2)
   ·have e : x.cps.toList = y.cps.toList := List.le_antisymm (List.not_lt.mp h2) (List.not_lt.mp h1)
    refine .inl ?_
    cases x; cases y
    cases Array.toList_inj.mp e
    rfl
 intro n
 induction n with
 | zero =>
  intro a b h ha hb
  cases a <;> cases b <;> first | cases h | skip
  ·exact hI _ _
  ·exact hS _ _
 | succ n ih =>
  intro a b h ha hb
  cases a <;> cases b <;> first | cases h | skip
  ·exact hI _ _
  ·exact hS _ _
  ·rename_i as bs
   unfold cmpOk at h
   unfold pln at ha hb
   rw [ltD_tup, ltD_tup, D.tup.injEq]
   induction as generalizing bs with
   | nil =>
    cases bs with
    | nil => exact .inl rfl
    | cons _ _ => exact .inr (.inl (by unfold ltDs; rfl))
   | cons x xs ih2 =>
    cases bs with
    | nil => exact .inr (.inr (by unfold ltDs; rfl))
    | cons y ys =>
     rw [List.all_cons, Bool.and_eq_true] at ha hb
     rw [List.zip_cons_cons, List.all_cons, Bool.and_eq_true] at h
     rw [ltDs_cons, ltDs_cons]
     by_cases q : x = y
     ·subst q
      rw [if_pos (eqD_refl n x ha.1), if_pos (eqD_refl n x ha.1)]
      rcases ih2 ys h.2 ha.2 hb.2 with z | z | z
      ·exact .inl (by rw [z])
      ·exact .inr (.inl z)
      ·exact .inr (.inr z)
     ·rw [(eqD_dec h.1 ha.1).2 q, (eqD_dec (cmpOk_symm n x y h.1) hb.1).2 (Ne.symm q), if_neg Bool.false_ne_true, if_neg Bool.false_ne_true]
      rcases ih x y h.1 ha.1 hb.1 with z | z | z
      ·exact absurd z q
      ·exact .inr (.inl z)
      ·exact .inr (.inr z)
theorem ltD_tr : ∀ (n : Nat) (a b c : D), cmpOk n a b = true → cmpOk n b c = true → cmpOk n a c = true → pln n a = true → pln n b = true → pln n c = true → ltD a b = true → ltD b c = true → ltD a c = true := by
 have hI : ∀ i j k : Int, ltD (.int i) (.int j) = true → ltD (.int j) (.int k) = true → ltD (.int i) (.int k) = true := fun i j k h1 h2 => by
  unfold ltD at *
  simp only [decide_eq_true_eq] at *
  omega
 have hS : ∀ i j k : Str, ltD (.str i) (.str j) = true → ltD (.str j) (.str k) = true → ltD (.str i) (.str k) = true := fun i j k h1 h2 => by
  unfold ltD at *
  simp only [decide_eq_true_eq] at *
  exact List.lt_trans h1 h2
 intro n
 induction n with
 | zero =>
  intro a b c h1 h2 h3 ha hb hc l1 l2
  cases a <;> cases b <;> first | cases h1 | skip
  all_goals cases c <;> first | cases h2 | skip
  ·exact hI _ _ _ l1 l2
  ·exact hS _ _ _ l1 l2
 | succ n ih =>
  intro a b c h1 h2 h3 ha hb hc l1 l2
  cases a <;> cases b <;> first | cases h1 | skip
  all_goals cases c <;> first | cases h2 | skip
  ·exact hI _ _ _ l1 l2
  ·exact hS _ _ _ l1 l2
  ·rename_i as bs cs
   unfold cmpOk at h1 h2 h3
   unfold pln at ha hb hc
   rw [ltD_tup] at l1 l2 ⊢
   induction as generalizing bs cs with
   | nil =>
    cases bs with
    | nil => unfold ltDs at l1; cases l1
    | cons _ _ =>
     cases cs with
     | nil => unfold ltDs at l2; cases l2
     | cons _ _ => unfold ltDs; rfl
   | cons x xs ih2 =>
    cases bs with
    | nil => unfold ltDs at l1; cases l1
    | cons y ys =>
     cases cs with
     | nil => unfold ltDs at l2; cases l2
     | cons z zs =>
      rw [List.all_cons, Bool.and_eq_true] at ha hb hc
      rw [List.zip_cons_cons, List.all_cons, Bool.and_eq_true] at h1 h2 h3
      rw [ltDs_cons] at l1 l2 ⊢
      by_cases q1 : x = y
      ·subst q1
       rw [if_pos (eqD_refl n x ha.1)] at l1
       by_cases q2 : x = z
       ·subst q2
        rw [if_pos (eqD_refl n x ha.1)] at l2 ⊢
        exact ih2 ys l1 zs l2 h1.2 h2.2 h3.2 ha.2 hb.2 hc.2
       ·rw [(eqD_dec h2.1 hb.1).2 q2, if_neg Bool.false_ne_true] at l2
        rw [(eqD_dec h3.1 ha.1).2 q2, if_neg Bool.false_ne_true]
        exact l2
      ·rw [(eqD_dec h1.1 ha.1).2 q1, if_neg Bool.false_ne_true] at l1
       by_cases q2 : y = z
       ·subst q2
        rw [(eqD_dec h3.1 ha.1).2 q1, if_neg Bool.false_ne_true]
        exact l1
       ·rw [(eqD_dec h2.1 hb.1).2 q2, if_neg Bool.false_ne_true] at l2
        have l3 := ih x y z h1.1 h2.1 h3.1 ha.1 hb.1 hc.1 l1 l2
        have q3 : x ≠ z := fun e => by
         subst e
         rw [ltD_irr n x ha.1] at l3
         cases l3
        rw [(eqD_dec h3.1 ha.1).2 q3, if_neg Bool.false_ne_true]
        exact l3
def cmpAll (n : Nat) (ds : List D) : Prop := (∀ a ∈ ds, pln n a = true) ∧ ∀ a ∈ ds, ∀ b ∈ ds, cmpOk n a b = true
theorem cmpAll.as {n : Nat} {ds : List D} (h : cmpAll n ds) {a b : D} (ha : a ∈ ds) (hb : b ∈ ds) (l : ltD a b = true) : ltD b a = false := by
 cases q : ltD b a
 ·rfl
 ·have := ltD_tr n a b a (h.2 a ha b hb) (h.2 b hb a ha) (h.2 a ha a ha) (h.1 a ha) (h.1 b hb) (h.1 a ha) l q
  rw [ltD_irr n a (h.1 a ha)] at this
  cases this
theorem cmpAll.le_tr {n : Nat} {ds : List D} (h : cmpAll n ds) {a b c : D} (ha : a ∈ ds) (hb : b ∈ ds) (hc : c ∈ ds) (l1 : ltD b a = false) (l2 : ltD c b = false) : ltD c a = false := by
 rcases ltD_tri n a b (h.2 a ha b hb) (h.1 a ha) (h.1 b hb) with z | z | z
 ·subst z; exact l2
 ·rcases ltD_tri n b c (h.2 b hb c hc) (h.1 b hb) (h.1 c hc) with y | y | y
  ·subst y; exact l1
  ·exact h.as ha hc (ltD_tr n a b c (h.2 a ha b hb) (h.2 b hb c hc) (h.2 a ha c hc) (h.1 a ha) (h.1 b hb) (h.1 c hc) z y)
  ·rw [l2] at y; cases y
 ·rw [l1] at z; cases z
theorem cmpAll.anti {n : Nat} {ds : List D} (h : cmpAll n ds) {a b : D} (ha : a ∈ ds) (hb : b ∈ ds) (l1 : ltD b a = false) (l2 : ltD a b = false) : a = b := by
 rcases ltD_tri n a b (h.2 a ha b hb) (h.1 a ha) (h.1 b hb) with z | z | z
 ·exact z
 ·rw [l2] at z; cases z
 ·rw [l1] at z; cases z
def insD (x : D) : List D → List D
 | [] => [x]
 | y :: r => if ltD y x = true then y :: insD x r else x :: y :: r
def sortD : List D → List D
 | [] => []
 | x :: r => insD x (sortD r)
theorem ins_perm (x : D) : ∀ l : List D, (insD x l).Perm (x :: l)
 | [] => .refl _
 | y :: r => by
  unfold insD
  split
  ·exact ((ins_perm x r).cons y).trans (.swap x y r)
  ·exact .refl _
theorem sort_perm : ∀ l : List D, (sortD l).Perm l
 | [] => .refl _
 | x :: r => (ins_perm x (sortD r)).trans ((sort_perm r).cons x)
abbrev leD (a b : D) : Prop := ltD b a = false
theorem ins_sorted {n : Nat} {ds : List D} (h : cmpAll n ds) {x : D} (hx : x ∈ ds) : ∀ {l : List D}, (∀ a ∈ l, a ∈ ds) → l.Pairwise leD → (insD x l).Pairwise leD
 | [], _, _ => List.pairwise_singleton _ _
 | y :: r, hm, hs => by
  rw [List.pairwise_cons] at hs
  have hy := hm y List.mem_cons_self
  unfold insD
  split
  ·rename_i c
   rw [List.pairwise_cons]
   refine ⟨fun a ha => ?_, ins_sorted h hx (fun a ha => hm a (List.mem_cons_of_mem _ ha)) hs.2⟩
   rcases List.mem_cons.mp ((ins_perm x r).mem_iff.mp ha) with z | z
   ·subst z; exact h.as hy hx c
   ·exact hs.1 a z
  ·rename_i c
   have c' : ltD y x = false := by simpa using c
   rw [List.pairwise_cons, List.pairwise_cons]
   refine ⟨fun a ha => ?_, hs⟩
   rcases List.mem_cons.mp ha with z | z
   ·subst z; exact c'
   ·exact h.le_tr hx hy (hm a ha) c' (hs.1 a z)
theorem sort_sorted {n : Nat} {ds : List D} (h : cmpAll n ds) : ∀ {l : List D}, (∀ a ∈ l, a ∈ ds) → (sortD l).Pairwise leD
 | [], _ => .nil
 | x :: r, hm => ins_sorted h (hm x List.mem_cons_self) (fun a ha => hm a (List.mem_cons_of_mem _ ((sort_perm r).mem_iff.mp ha))) (sort_sorted h fun a ha => hm a (List.mem_cons_of_mem _ ha))
theorem sort_unique {n : Nat} {ds out : List D} (h : cmpAll n ds) (hp : out.Perm ds) (hs : out.Pairwise leD) : out = sortD ds :=
 List.Perm.eq_of_pairwise (le := leD) (fun a b ha hb l1 l2 => h.anti (hp.mem_iff.mp ha) ((sort_perm ds).mem_iff.mp hb) l1 l2) hs (sort_sorted h fun _ z => z) (hp.trans (sort_perm ds).symm)
end DL
namespace DL
open PySem PySem.Spec PyProof.Rows L2
section
variable {X : Cx} {e a b c : Expr} {es : List Expr} {pos : Pos} {st : Stmt} {rest : List Stmt}
def mNx : MS := fun en S => some (.nx, en, S)
def mSeq (a b : MS) : MS := fun en S => (a en S).bind fun p => match p.1 with | .nx => b p.2.1 p.2.2 | f => some (f, p.2.1, p.2.2)
theorem sb_nil : SB X [] mNx := by
 refine pss_imp pss_nil ?_
 rintro D σ H ⟨ρ, en, S, f, en', S', E, R, e, k⟩
 cases e
 exact k ρ H σ Ext.refl R E
theorem sb_one {m : MS} (h : SS X st m) : SB X [st] m := pss_one h
theorem sb_cons {m n : MS} (h : SS X st m) (t : SB X rest n) : SB X (st :: rest) (mSeq m n) := by
 refine pss_imp (pss_cons h t) ?_
 rintro D σ H ⟨ρ, en, S, f, en', S', E, R, e, k⟩
 unfold mSeq at e
 obtain ⟨p, e1, e⟩ := Option.bind_eq_some_iff.mp e
 obtain ⟨fa, en1, S1⟩ := p
 refine ⟨ρ, en, S, fa, en1, S1, E, R, e1, fun ρ1 H1 σ1 X1 R1 E1 => ?_⟩
 cases fa with
 | nx => exact ⟨ρ1, en1, S1, f, en', S', E1, R1, e, fun ρ2 H2 σ2 X2 R2 E2 => k ρ2 H2 σ2 (X1.trans X2) R2 E2⟩
 | rt d => cases e; exact k ρ1 H1 σ1 X1 R1 E1
 | bk => cases e; exact k ρ1 H1 σ1 X1 R1 E1
 | ct => cases e; exact k ρ1 H1 σ1 X1 R1 E1
def mRet (m : M D) : MS := fun en S => (m en S).map fun p => (.rt p.1, en, p.2)
theorem ss_ret {m : M D} (h : SE X e m) : SS X (.Return (some e) pos) (mRet m) := by
 refine ps_imp (ps_ret h) ?_
 rintro D σ H ⟨ρ, en, S, f, en', S', E, R, e, k⟩
 unfold mRet at e
 obtain ⟨p, e1, e2⟩ := Option.map_eq_some_iff.mp e
 cases e2
 exact ⟨ρ, en, S, p.1, p.2, E, R, e1, fun x ρ1 H1 X1 R1 d1 => k ρ1 H1 σ X1 R1 (E.up X1) x d1⟩
def mRetN : MS := fun en S => some (.rt .non, en, S)
def mBk : MS := fun en S => some (.bk, en, S)
def mCt : MS := fun en S => some (.ct, en, S)
def mDrop (m : M D) : MS := fun en S => (m en S).map fun p => (.nx, en, p.2)
theorem ss_expr {m : M D} (h : SE X e m) (hs : swapsWith e none pos.line X.env = pure false := by rfl) : SS X (.Expr e pos) (mDrop m) := by
 refine ps_imp (ps_expr h hs) ?_
 rintro D σ H ⟨ρ, en, S, f, en', S', E, R, e, k⟩
 unfold mDrop at e
 obtain ⟨p, e1, e2⟩ := Option.map_eq_some_iff.mp e
 cases e2
 exact ⟨ρ, en, S, p.1, p.2, E, R, e1, fun x ρ1 H1 X1 R1 d1 => k ρ1 H1 σ X1 R1 (E.up X1)⟩
def mIfS (c : M Bool) (a b : MS) : MS := fun en S => (c en S).bind fun p => if p.1 then a en p.2 else b en p.2
theorem ss_if {c : Expr} {A B : List Stmt} {mc : M Bool} {ma mb : MS} (hc : ST X c mc) (ha : SB X A ma) (hb : SB X B mb) : SS X (.If c A B pos) (mIfS mc ma mb) := by
 refine ps_imp (ps_if hc ha hb) ?_
 rintro D σ H ⟨ρ, en, S, f, en', S', E, R, e, k⟩
 unfold mIfS at e
 obtain ⟨p, e1, e⟩ := Option.bind_eq_some_iff.mp e
 refine ⟨ρ, en, S, p.1, p.2, E, R, e1, fun ρ1 H1 X1 R1 => ?_⟩
 by_cases hp : p.1 = true
 ·rw [if_pos hp] at e ⊢
  exact ⟨ρ1, en, p.2, f, en', S', E.up X1, R1, e, fun ρ2 H2 σ2 X2 R2 E2 => k ρ2 H2 σ2 (X1.trans X2) R2 E2⟩
 ·rw [if_neg hp] at e ⊢
  exact ⟨ρ1, en, p.2, f, en', S', E.up X1, R1, e, fun ρ2 H2 σ2 X2 R2 E2 => k ρ2 H2 σ2 (X1.trans X2) R2 E2⟩
def GD (K : PySem.W.Frag) (g : TG) (gd : D → En → Option En) : Prop :=
 ∀ ρ H en σ d v en', EnR K ρ H en σ → DR K ρ H d v → gd d en = some en' → ∃ σ', EnR K ρ H en' σ' ∧ ∀ Q : L2.St → Hp → Prop, Q σ' H → g v σ H Q
def GsD (K : PySem.W.Frag) (g : TGs) (gd : List D → En → Option En) : Prop :=
 ∀ ρ H en σ ds vs en', EnR K ρ H en σ → DsR K ρ H ds vs → gd ds en = some en' → ∃ σ', EnR K ρ H en' σ' ∧ ∀ Q : L2.St → Hp → Prop, Q σ' H → g vs σ H Q
def gN (i : Nat) : D → En → Option En := fun d en => some (en.set i (some d))
def gsNil : List D → En → Option En := fun ds en => match ds with | [] => some en | _ => none
def gsCons (g : D → En → Option En) (r : List D → En → Option En) : List D → En → Option En := fun ds en => match ds with | [] => none | d :: ds => (g d en).bind (r ds)
def gT (n : Nat) (gs : List D → En → Option En) : D → En → Option En := fun d en => match d with | .tup ds => if ds.length = n then gs ds en else none | _ => none
theorem gd_name {K : PySem.W.Frag} {i : Nat} : GD K (gName i) (gN i) := by
 intro ρ H en σ d v en' E h e
 cases e
 exact ⟨_, E.set h, fun Q q => q⟩
theorem gsd_nil {K : PySem.W.Frag} : GsD K gNil gsNil := by
 intro ρ H en σ ds vs en' E h e
 cases ds with
 | nil =>
  cases e
  have hv : vs = [] := by unfold DsR at h; exact h
  exact ⟨σ, E, fun Q q => ⟨hv, q⟩⟩
 | cons d ds => cases e
theorem gsd_cons {K : PySem.W.Frag} {t : TG} {u : TGs} {g : D → En → Option En} {r : List D → En → Option En} (h1 : GD K t g) (h2 : GsD K u r) : GsD K (gCons t u) (gsCons g r) := by
 intro ρ H en σ ds vs en' E h e
 cases ds with
 | nil => cases e
 | cons d ds =>
  obtain ⟨en1, e1, e2⟩ := Option.bind_eq_some_iff.mp e
  unfold DsR at h
  obtain ⟨x, xs, rfl, d1, d2⟩ := h
  obtain ⟨σ1, E1, k1⟩ := h1 ρ H en σ d x en1 E d1 e1
  obtain ⟨σ2, E2, k2⟩ := h2 ρ H en1 σ1 ds xs en' E1 d2 e2
  exact ⟨σ2, E2, fun Q q => ⟨x, xs, rfl, k1 _ (k2 Q q)⟩⟩
theorem gd_tup {K : PySem.W.Frag} {n : Nat} {t : TGs} {gs : List D → En → Option En} (h : GsD K t gs) : GD K (gTup K n t) (gT n gs) := by
 intro ρ H en σ d v en' E hd e
 cases d with
 | tup ds =>
  obtain ⟨a, xs, rfl, h1, h2⟩ := hd.of_tup
  dsimp only [gT] at e
  split at e
  ·obtain ⟨σ', E', k⟩ := h ρ H en σ ds xs en' E h2 e
   exact ⟨σ', E', fun Q q => ⟨a, xs, rfl, .of h1, by rw [← h2.length]; assumption, k Q q⟩⟩
  ·cases e
 | _ => cases e
def mAsg (m : M D) (g : D → En → Option En) : MS := fun en S => (m en S).bind fun p => (g p.1 en).map fun en' => (.nx, en', p.2)
theorem asg_read {K : PySem.W.Frag} {m : M D} {g : TG} {gd : D → En → Option En} (hg : GD K g gd) {D : Ends} {σ : L2.St} {H : Hp} (h : tMS K (mAsg m gd) D σ H) : tAsg (tM K m) g D σ H := by
 obtain ⟨ρ, en, S, f, en', S', E, R, e, k⟩ := h
 unfold mAsg at e
 obtain ⟨p, e1, e⟩ := Option.bind_eq_some_iff.mp e
 obtain ⟨en1, e2, e3⟩ := Option.map_eq_some_iff.mp e
 cases e3
 refine ⟨ρ, en, S, p.1, p.2, E, R, e1, fun x ρ1 H1 X1 R1 d1 => ?_⟩
 obtain ⟨σ', E', q⟩ := hg ρ1 H1 en σ p.1 x _ (E.up X1) d1 e2
 exact q _ (k ρ1 H1 σ' X1 R1 E')
theorem ss_asg {tg : Expr} {m : M D} {g : TG} {gd : D → En → Option En} (he : SE X e m) (hp : PG X tg g) (hg : GD X.K g gd) (hs : swapsWithSole [tg] e pos.line X.env = pure false := by rfl) (hw : swappedStores [tg] e X.env = pure none := by rfl)
  (h1 : (assignEach [tg] X.env).map (·.2) = [assign tg X.env] := by rfl) : SS X (.Assign [tg] e pos) (mAsg m gd) := ps_imp (ps_asg he hp hs hw h1) fun _ _ _ => asg_read hg
theorem ss_set {i : Nat} {x : Str} {m : M D} {pos' : Pos} (hN : X.N.Nodup) (hi : X.N[i]? = some x) (hx : Loc X.env.scope x) (he : SE X e m) (hs : swapsWith e (some (.Name x pos')) pos.line X.env = pure false := by rfl)
  (hf : X.fn x = true ∨ X.env.scope.names.lookup x = some .local := by first | exact .inl rfl | exact .inr rfl | assumption) : SS X (.Assign [.Name x pos'] e pos) (mAsg m (gN i)) :=
 ps_imp (ps_set hN hi hx he hs hf) fun _ _ _ => asg_read gd_name
inductive Gd where
 | no
 | lst (n : Nat)
 | zl (gs : List (Nat × List D))
 | fr (n : Nat) (kvs : List (D × D)) (th : Bool)
def GdOk (gd : Gd) (ds : List D) (S : Sto) : Prop := match gd with | .no => True | .lst n => S[n]? = some (.lst ds) | .zl gs => ∀ p ∈ gs, S[p.1]? = some (.lst p.2) | .fr n kvs _ => S[n]? = some (.fdct kvs)
def thawS (gd : Gd) (S : Sto) : Option Sto := match gd with
 | .fr n _ true => match S[n]? with | some (.fdct kvs) => some (S.set n (.dct kvs)) | _ => none
 | _ => some S
def ItR (K : PySem.W.Frag) (ρ0 : List Addr) (H0 : Hp) (J : It) (ds : List D) (gd : Gd) : Prop := ∀ ρ H S, Ext ρ0 H0 ρ H → StR K ρ H S → GdOk gd ds S →
 (∀ (i : Nat) d, ds[i]? = some d → J.go i H ∧ ∀ x H', J.yld i H x H' → Ext ρ H ρ H' ∧ StR K ρ H' S ∧ DR K ρ H' d x) ∧ J.stop ds.length H
abbrev ItD := List D × Gd
def GF (X : Cx) (gd : Gd) (ρ : List Addr) (H : Hp) : Prop := match gd with
 | .fr n _ true => ∃ a, ρ[n]? = some a ∧ (∀ o u, H a ≠ some (.frz o u)) ∧ (∀ xs, H a ≠ some (.tup xs)) ∧ ∀ o u, X.H₀ a ≠ some (.frz o u)
 | _ => True
def tMI (X : Cx) (mi : M ItD) : TI := fun σ H R => ∃ ρ en S r S', EnR X.K ρ H en σ ∧ StR X.K ρ H S ∧ mi en S = some (r, S') ∧ ∀ J ρ' H', Ext ρ H ρ' H' → StR X.K ρ' H' S' → ItR X.K ρ' H' J r.1 r.2 → GF X r.2 ρ' H → R J H'
def SI (X : Cx) (tg iter : Expr) (mi : M ItD) : Prop := PI X tg iter (tMI X mi)
def Thaw (X : Cx) (H H' : Hp) : Prop := ∀ pins σ s, Inv X pins σ H s → Inv X pins σ H' s
theorem Thaw.refl {X : Cx} {H : Hp} : Thaw X H H := fun _ _ _ h => h
theorem pe_thaw {t : TE} (h : PE X e t) : PE X e (fun σ H Q => t σ H fun v H' => ∃ H'', Thaw X H' H'' ∧ Q v H'') := by
 intro pins s σ H Q I q
 exact thn (h pins s σ H _ I q) fun v s1 ⟨x, H1, I1, r1, H2, th, q1⟩ => ⟨x, H2, th _ _ _ I1, r1, q1⟩
theorem ps_thaw {st : Stmt} {t : TS} (h : PS X st t) : PS X st (fun D σ H => t ⟨fun σ H' => ∃ H'', Thaw X H' H'' ∧ D.nx σ H'', fun v H' => ∃ H'', Thaw X H' H'' ∧ D.rt v H'', fun σ H' => ∃ H'', Thaw X H' H'' ∧ D.bk σ H'', fun σ H' => ∃ H'', Thaw X H' H'' ∧ D.ct σ H''⟩ σ H) := by
 intro pins s σ H D I q
 refine thn (h pins s σ H _ I q) fun f s1 z => ?_
 cases f with
 | next => obtain ⟨σ1, H1, I1, H2, th, q1⟩ := z; exact ⟨σ1, H2, th _ _ _ I1, q1⟩
 | brk => obtain ⟨σ1, H1, I1, H2, th, q1⟩ := z; exact ⟨σ1, H2, th _ _ _ I1, q1⟩
 | cont => obtain ⟨σ1, H1, I1, H2, th, q1⟩ := z; exact ⟨σ1, H2, th _ _ _ I1, q1⟩
 | ret u => obtain ⟨v, σ1, H1, I1, r1, H2, th, q1⟩ := z; exact ⟨v, σ1, H2, th _ _ _ I1, r1, q1⟩
theorem inv_thaw {pins : List (Addr × Obj)} {σ : L2.St} {H : Hp} {s : Shared} {a : Addr} {o : Obj} {tab : List (Key × V)} (I : Inv X pins σ H s) (e : H a = some (.frz o (.dK tab))) (hn : ∀ o u, X.H₀ a ≠ some (.frz o u)) : Inv X pins σ (upd H a (.dK tab)) s := by
 have ho : ObjOk X.prog X.w H s.heap a (.frz o (.dK tab)) := I.hok a _ e
 have ok' : HOk X.prog X.w (upd H a (.dK tab)) s.heap := fun b u hb => by
  by_cases q : b = a
  ·subst q
   rw [upd_same] at hb
   cases hb
   obtain ⟨_, z, hd, vs, r⟩ := ho
   exact ⟨z, hd, vs, r⟩
  ·rw [upd_ne q] at hb
   refine (I.hok b u hb).stay (fun _ _ _ h => h) (fun c h => ?_) fun c xs h => ?_
   ·rw [upd_ne (ne_of h e (fun z => nomatch z))]; exact h
   ·rw [upd_ne (ne_of h e (fun z => nomatch z))]; exact h
 have ne0 : ∀ {b : Addr}, H b = none → upd H a (.dK tab) b = none := fun {b} h => by rw [upd_ne (Ne.symm (ne_of_none e h))]; exact h
 refine ⟨I.ok, I.os, I.bare, ⟨I.base.keep, I.base.slot, fun b u h1 h2 h3 => ne0 (I.base.free b u h1 h2 h3), I.base.there, fun b xs h => ?_, fun b u v h => ?_, fun b ps h => ?_⟩, I.loc, I.cell, ne0 I.free, fun x c h => ne0 (I.freeC x c h), fun p hp => ?_, ok', I.len⟩
 ·have := I.base.tups b xs h
  rw [upd_ne (ne_of this e (fun z => nomatch z))]; exact this
 ·have := I.base.frzs b u v h
  by_cases q : b = a
  ·subst q; exact absurd h (hn _ _)
  ·rw [upd_ne q]; exact this
 ·obtain ⟨more, this⟩ := I.base.tbls b ps h
  exact ⟨more, by rw [upd_ne (ne_of this e (fun z => nomatch z))]; exact this⟩
 ·obtain ⟨p1, p2, p3⟩ := I.pin p hp
  exact ⟨p1, ne0 p2, p3⟩
theorem thaw_ok {gd : Gd} {ρ ρ' ρ1 : List Addr} {H H1 H' : Hp} {S' S'' : Sto} (X1 : Ext ρ H ρ1 H1) (F : GF X gd ρ1 H) (X2 : Ext ρ1 H1 ρ' H') (R : StR X.K ρ' H' S') (e : thawS gd S' = some S'') :
  ∃ H'', Thaw X H' H'' ∧ Ext ρ H ρ' H'' ∧ StR X.K ρ' H'' S'' ∧ Ext0 ρ' H' ρ' H'' ∧ ∀ p o, H' p = none → H'' p = none ∧ Thaw X (upd H' p o) (upd H'' p o) := by
 have triv : some S' = some S'' → ∃ H'', Thaw X H' H'' ∧ Ext ρ H ρ' H'' ∧ StR X.K ρ' H'' S'' ∧ Ext0 ρ' H' ρ' H'' ∧ ∀ p o, H' p = none → H'' p = none ∧ Thaw X (upd H' p o) (upd H'' p o) := fun z => by
  cases z
  exact ⟨H', .refl, X1.trans X2, R, Ext.refl.weak, fun p o h => ⟨h, .refl⟩⟩
 cases gd with
 | no => exact triv e
 | lst n => exact triv e
 | zl gs => exact triv e
 | fr n kvs th =>
  cases th with
  | false => exact triv e
  | true =>
   obtain ⟨a, h1, h2, h3, h4⟩ := F
   dsimp only [thawS] at e
   split at e
   ·rename_i kvs' hn
    cases e
    obtain ⟨o, tab, t1, t2, t3⟩ := R.thaw (X2.pre n a h1) hn
    refine ⟨_, fun pins σ s I => inv_thaw I t1 h4, ⟨fun m b hb => X2.pre m b (X1.pre m b hb), fun b xs hb => ?_, fun b o u hb => ?_⟩, t2, t3, fun p ob hp => ?_⟩
    ·have := (X1.trans X2).tup b xs hb
     rw [upd_ne (ne_of this t1 (fun z => nomatch z))]; exact this
    ·have := (X1.trans X2).frz b o u hb
     by_cases q : b = a
     ·subst q; exact absurd hb (h2 _ _)
     ·rw [upd_ne q]; exact this
    ·have hpa : a ≠ p := ne_of_none t1 hp
     refine ⟨by rw [upd_ne (Ne.symm hpa)]; exact hp, fun pins σ s I => ?_⟩
     have := inv_thaw (a := a) (o := o) (tab := tab) I (by rw [upd_ne hpa]; exact t1) h4
     have eq : upd (upd H' p ob) a (.dK tab) = upd (upd H' a (.dK tab)) p ob := by
      funext b
      unfold upd
      by_cases q1 : b = a
      ·rw [if_pos q1]
       by_cases q2 : b = p
       ·exact absurd (q1.symm.trans q2) hpa
       ·rw [if_neg q2, if_pos q1]
      ·rw [if_neg q1]
       by_cases q2 : b = p
       ·rw [if_pos q2, if_pos q2]
       ·rw [if_neg q2, if_neg q2, if_neg q1]
     rw [eq] at this
     exact this
   ·cases e
theorem pi_imp {tg iter : Expr} {w w' : TI} (h : PI X tg iter w) (i : ∀ σ H R, w' σ H R → w σ H R) : PI X tg iter w' := fun pins s σ H R I q => h pins s σ H R I (i σ H R q)
open Classical in
noncomputable def forGo (ds : List D) (gd : Gd) (g : D → En → Option En) (body : MS) : List D → En → Sto → Option (Fl × En × Sto)
 | [], en, S => if GdOk gd ds S then some (.nx, en, S) else none
 | d :: r, en, S => if GdOk gd ds S then (g d en).bind fun en1 => (body en1 S).bind fun p => match p.1 with
   | .nx => forGo ds gd g body r p.2.1 p.2.2
   | .ct => forGo ds gd g body r p.2.1 p.2.2
   | .bk => some (.nx, p.2.1, p.2.2)
   | .rt v => some (.rt v, p.2.1, p.2.2)
  else none
def thF (gd : Gd) (r : Option (Fl × En × Sto)) : Option (Fl × En × Sto) := r.bind fun q => (thawS gd q.2.2).map fun S' => (q.1, q.2.1, S')
noncomputable def mFor (mi : M ItD) (g : D → En → Option En) (body : MS) : MS := fun en S => (mi en S).bind fun p => thF p.1.2 (forGo p.1.1 p.1.2 g body p.1.1 en p.2)
theorem ss_for {tg iter : Expr} {body : List Stmt} {mi : M ItD} {g : TG} {gd : D → En → Option En} {mb : MS} (hp : PassesOwn (model X.prog X.w) X.A X.env X.xe) (hc : X.calm = true) (hi : SI X tg iter mi) (hg : PG X tg g) (hgd : GD X.K g gd) (hb : SB X body mb)
  (hs : ∀ x, foldedSetIterable iter X.env x = pure x := by intro _; rfl) : SS X (.For tg iter body [] pos) (mFor mi gd mb) := by
 refine ps_imp (ps_thaw (ps_for hp hc hi hg hb hs)) ?_
 rintro D σ H ⟨ρ, en, S, f, enF, SF, E, R, e, k⟩
 unfold mFor at e
 obtain ⟨p, e1, e⟩ := Option.bind_eq_some_iff.mp e
 obtain ⟨⟨ds, gdn⟩, S1⟩ := p
 refine ⟨ρ, en, S, (ds, gdn), S1, E, R, e1, fun J ρ1 H1 X1 R1 IT GG => ?_⟩
 dsimp only at e IT GG
 unfold thF at e
 obtain ⟨⟨f0, en0, S0⟩, eg, e0⟩ := Option.bind_eq_some_iff.mp e
 obtain ⟨SF', e00, e0⟩ := Option.map_eq_some_iff.mp e0
 injection e0 with z1 z2
 injection z2 with z2 z3
 dsimp only at z1 z2 z3 e00
 subst z1 z2 z3
 refine ⟨fun i m σ' H' => m + i = ds.length ∧ ∃ ρ' en' S', Ext ρ1 H1 ρ' H' ∧ StR X.K ρ' H' S' ∧ EnR X.K ρ' H' en' σ' ∧ forGo ds gdn gd mb (ds.drop i) en' S' = some (f0, en0, S0), ⟨ds.length, by omega, ρ1, en, S1, Ext.refl, R1, E.up X1, by simpa using eg⟩, ?_⟩
 rintro i m σ' H' ⟨hm, ρ', en1, S2, X2, R2, E2, e2⟩
 cases hd : ds.drop i with
 | nil =>
  rw [hd] at e2
  unfold forGo at e2
  split at e2
  ·rename_i hg0
   cases e2
   have hi : i = ds.length := by
    have := congrArg List.length hd
    simp at this
    omega
   subst hi
   obtain ⟨H9, t1, t2, t3, t4, t5⟩ := thaw_ok X1 GG X2 R2 e00
   exact .inl ⟨(IT ρ' H' _ X2 R2 hg0).2, H9, t1, k ρ' H9 σ' t2 t3 (E2.up0 t4)⟩
  ·cases e2
 | cons d r =>
  rw [hd] at e2
  unfold forGo at e2
  split at e2
  ·rename_i hg0
   obtain ⟨en3, e3, e2⟩ := Option.bind_eq_some_iff.mp e2
   obtain ⟨q, e4, e2⟩ := Option.bind_eq_some_iff.mp e2
   obtain ⟨fq, en4, S4⟩ := q
   have hlt : i < ds.length := by
    have := congrArg List.length hd
    simp at this
    omega
   have hdi : ds[i]? = some d := by
    have := congrArg (fun l => l[0]?) hd
    simpa using this
   have hr : ds.drop (i + 1) = r := by
    have := congrArg List.tail hd
    simpa using this
   obtain ⟨go, yl⟩ := (IT ρ' H' _ X2 R2 hg0).1 i d hdi
   refine .inr ⟨go, fun σ'' H'' => ∃ ρ'' en'' S'', Ext ρ1 H1 ρ'' H'' ∧ StR X.K ρ'' H'' S'' ∧ EnR X.K ρ'' H'' en'' σ'' ∧ forGo ds gdn gd mb r en'' S'' = some (f0, en0, S0), fun σ'' H'' ⟨ρ'', en'', S'', a1, a2, a3, a4⟩ => ⟨m - 1, by omega, by omega, ρ'', en'', S'', a1, a2, a3, by rw [hr]; exact a4⟩, fun x H3 y => ?_⟩
   obtain ⟨X3, R3, d3⟩ := yl x H3 y
   obtain ⟨σ3, E3, gq⟩ := hgd ρ' H3 en1 σ' d x en3 (E2.up X3) d3 e3
   refine gq _ ⟨ρ', en3, S2, fq, en4, S4, E3, R3, e4, fun ρ4 H4 σ4 X4 R4 E4 => ?_⟩
   cases fq with
   | nx => exact ⟨ρ4, en4, S4, (X2.trans X3).trans X4, R4, E4, e2⟩
   | ct => exact ⟨ρ4, en4, S4, (X2.trans X3).trans X4, R4, E4, e2⟩
   | bk =>
    cases e2
    obtain ⟨H9, t1, t2, t3, t4, t5⟩ := thaw_ok X1 GG ((X2.trans X3).trans X4) R4 e00
    exact ⟨H9, t1, k ρ4 H9 σ4 t2 t3 (E4.up0 t4)⟩
   | rt v =>
    cases e2
    obtain ⟨H9, t1, t2, t3, t4, t5⟩ := thaw_ok X1 GG ((X2.trans X3).trans X4) R4 e00
    exact fun x dx => ⟨H9, t1, k ρ4 H9 σ4 t2 t3 (E4.up0 t4) x (DR.mono t4 _ _ dx)⟩
  ·cases e2
open Classical in
noncomputable def compGo (ds : List D) (gd : Gd) (cap : En) (g : D → En → Option En) (c : M Bool) (m : M D) : List D → List D → Sto → Option (List D × Sto)
 | [], acc, S => if GdOk gd ds S ∧ acc.length ≤ sizeLine then some (acc, S) else none
 | d :: r, acc, S => if GdOk gd ds S ∧ acc.length ≤ sizeLine then (g d cap).bind fun en => (c en S).bind fun p =>
   if p.1 then (m en p.2).bind fun q => compGo ds gd cap g c m r (acc ++ [q.1]) q.2 else compGo ds gd cap g c m r acc p.2
  else none
def capEn (nT : Nat) (caps : List Nat) (en : En) : En := List.replicate nT none ++ caps.map fun j => (en[j]?).getD none
def thC (gd : Gd) (r : Option (List D × Sto)) : Option (List D × Sto) := r.bind fun q => (thawS gd q.2).map fun S' => (q.1, S')
noncomputable def mComp (mi : M ItD) (nT : Nat) (caps : List Nat) (g : D → En → Option En) (c : M Bool) (m : M D) : M (List D) := fun en S => (mi en S).bind fun p => thC p.1.2 (compGo p.1.1 p.1.2 (capEn nT caps en) g c m p.1.1 [] p.2)
theorem cap_en {K : PySem.W.Frag} {ρ : List Addr} {H : Hp} {en : En} {σ : L2.St} {nT : Nat} {caps : List Nat} (E : EnR K ρ H en σ) : EnR K ρ H (capEn nT caps en) (capSt nT caps σ) := by
 refine ⟨by simp [capEn, capSt], fun i d e => ?_⟩
 unfold capEn at e
 have hi : nT ≤ i := by
  by_cases hi : i < nT
  ·rw [List.getElem?_append_left (by simpa using hi), List.getElem?_replicate] at e
   split at e <;> cases e
  ·exact Nat.le_of_not_lt hi
 rw [List.getElem?_append_right (by simpa using hi), List.length_replicate, List.getElem?_map] at e
 unfold capSt
 rw [List.getElem?_append_right (by simpa using hi), List.length_replicate, List.getElem?_map]
 cases ej : caps[i - nT]? with
 | none => rw [ej] at e; cases e
 | some j =>
  rw [ej] at e
  have e' : (en[j]?).getD none = some d := Option.some.inj e
  have e2 : en[j]? = some (some d) := by
   cases q : en[j]? with
   | none => rw [q] at e'; cases e'
   | some z => rw [q] at e'; rw [show z = some d from e']
  obtain ⟨x, h1, h2⟩ := E.get j d e2
  exact ⟨x, by rw [Option.map_some, h1]; rfl, h2⟩
def mTrue : M Bool := fun _ S => some (true, S)
theorem comp_read {mi : M ItD} {nT : Nat} {caps : List Nat} {g : TG} {gd : D → En → Option En} {tt : TT} {c : M Bool} {m : M D} (hgd : GD X.K g gd) (htt : ∀ σ H Q, tMT X.K c σ H Q → tt σ H Q) {σ : L2.St} {H : Hp} {Q : VK}
  {ρ : List Addr} {en : En} {S S' : Sto} {ds : List D} (E : EnR X.K ρ H en σ) (R : StR X.K ρ H S) (e : mComp mi nT caps gd c m en S = some (ds, S'))
  (k : ∀ a xs ρ' H', Ext ρ H ρ' H' → StR X.K ρ' H' S' → H' a = none → DsR X.K ρ' H' ds xs → Q (.ref a) (upd H' a (.lst xs))) : tComp (tMI X mi) nT caps g tt (tM X.K m) σ H (fun v H' => ∃ H'', Thaw X H' H'' ∧ Q v H'') := by
 unfold mComp at e
 obtain ⟨p, e1, e⟩ := Option.bind_eq_some_iff.mp e
 obtain ⟨⟨is, gdn⟩, S1⟩ := p
 refine ⟨ρ, en, S, (is, gdn), S1, E, R, e1, fun J ρ1 H1 X1 R1 IT GG => ?_⟩
 dsimp only at e IT GG
 unfold thC at e
 obtain ⟨⟨ds0, S0⟩, eg, e0⟩ := Option.bind_eq_some_iff.mp e
 obtain ⟨SF', e00, e0⟩ := Option.map_eq_some_iff.mp e0
 injection e0 with z1 z2
 dsimp only at z1 z2 e00
 subst z1 z2
 refine ⟨fun i m0 ys H' => m0 + i = is.length ∧ ∃ ρ' S2 acc, Ext ρ1 H1 ρ' H' ∧ StR X.K ρ' H' S2 ∧ DsR X.K ρ' H' acc ys ∧ compGo is gdn (capEn nT caps en) gd c m (is.drop i) acc S2 = some (ds0, S0), ⟨is.length, by omega, ρ1, S1, [], Ext.refl, R1, .nil, by simpa using eg⟩, ?_⟩
 rintro i m0 ys H' ⟨hm, ρ', S2, acc, X2, R2, D2, e2⟩
 cases hd : is.drop i with
 | nil =>
  rw [hd] at e2
  unfold compGo at e2
  split at e2
  ·rename_i hg0
   cases e2
   have hi : i = is.length := by
    have := congrArg List.length hd
    simp at this
    omega
   subst hi
   refine .inl ⟨(IT ρ' H' _ X2 R2 hg0.1).2, by rw [← D2.length]; exact hg0.2, fun a ha => ?_⟩
   obtain ⟨H9, t1, t2, t3, t4, t5⟩ := thaw_ok X1 GG X2 R2 e00
   obtain ⟨h9, t6⟩ := t5 a (.lst ys) ha
   exact ⟨upd H9 a (.lst ys), t6, k a ys ρ' H9 t2 t3 h9 (DsR.mono t4 _ _ D2)⟩
  ·cases e2
 | cons d r =>
  rw [hd] at e2
  unfold compGo at e2
  split at e2
  ·rename_i hg0
   obtain ⟨en3, e3, e2⟩ := Option.bind_eq_some_iff.mp e2
   obtain ⟨q, e4, e2⟩ := Option.bind_eq_some_iff.mp e2
   have hlt : i < is.length := by
    have := congrArg List.length hd
    simp at this
    omega
   have hdi : is[i]? = some d := by
    have := congrArg (fun l => l[0]?) hd
    simpa using this
   have hr : is.drop (i + 1) = r := by
    have := congrArg List.tail hd
    simpa using this
   obtain ⟨go, yl⟩ := (IT ρ' H' _ X2 R2 hg0.1).1 i d hdi
   refine .inr ⟨go, by rw [← D2.length]; exact hg0.2, fun x H3 y => ?_⟩
   obtain ⟨X3, R3, d3⟩ := yl x H3 y
   obtain ⟨σ3, E3, gq⟩ := hgd ρ' H3 (capEn nT caps en) (capSt nT caps σ) d x en3 (((cap_en E).up X1).up X2 |>.up X3) d3 e3
   refine gq _ (htt _ _ _ ⟨ρ', en3, S2, q.1, q.2, E3, R3, e4, fun ρ4 H4 X4 R4 => ?_⟩)
   by_cases hq : q.1 = true
   ·rw [if_pos hq] at e2 ⊢
    obtain ⟨w, e5, e2⟩ := Option.bind_eq_some_iff.mp e2
    refine ⟨ρ4, en3, q.2, w.1, w.2, E3.up X4, R4, e5, fun v ρ5 H5 X5 R5 d5 => ⟨m0 - 1, by omega, by omega, ρ5, w.2, acc ++ [w.1], ((X2.trans X3).trans X4).trans X5, R5, ?_, by rw [hr]; exact e2⟩⟩
    exact (((D2.up X3).up X4).up X5).append (.cons d5 .nil)
   ·rw [if_neg hq] at e2 ⊢
    exact ⟨m0 - 1, by omega, by omega, ρ4, q.2, acc, (X2.trans X3).trans X4, R4, (D2.up X3).up X4, by rw [hr]; exact e2⟩
  ·cases e2
structure CompSc (X : Cx) (scope : Scope) (cn : List Str) (caps : List Nat) : Prop where
 cell : ∀ y ∈ scope.names, y.2 ≠ .cell
 kind : scope.kind = .function
 names : ∀ y ∈ scope.names, y.2 = .local → scope.names.lookup y.1 = some .local
 free : ∀ y ∈ scope.names, y.2 = .free → X.env.scope.names.lookup y.1 = some .cell ∨ X.env.scope.names.lookup y.1 = some .free
 cap : CapOk X scope cn caps
section
variable {tg iter elt : Expr} {ifs : List Expr} {scope : Scope} {tgs cn : List Str} {caps : List Nat} {mi : M ItD} {g : TG} {gd : D → En → Option En} {mc : M Bool} {m : M D}
def SF (X : Cx) (ifs : List Expr) (m : M Bool) : Prop := PF X ifs (tMT X.K m)
theorem sf_nil : SF X [] mTrue := by
 intro pins s σ H Q I q
 obtain ⟨ρ, en, S, b, S', E, R, e, k⟩ := q
 cases e
 exact pf_nil pins s σ H Q I (k ρ H Ext.refl R)
theorem sf_one {c : Expr} (h : ST X c mc) : SF X [c] mc := pf_one h
theorem sq_comp (hc : X.calm = true) (sc : CompSc X scope cn caps) (hi : SI X tg iter mi) (hlow : GLow tgs.length g) (hgd : GD X.K g gd)
  (hg : ∀ fp s H C, PG (compCx X scope (tgs ++ cn) fp s H C) tg g) (hf : ∀ fp s H C, SF (compCx X scope (tgs ++ cn) fp s H C) ifs mc) (he : ∀ fp s H C, SE (compCx X scope (tgs ++ cn) fp s H C) elt m)
  (hs : ∀ x, foldedSetIterable iter X.env x = pure x := by intro _; rfl) : SQ X (.ListComp elt [⟨tg, iter, ifs, 0⟩] scope pos) (mComp mi tgs.length caps gd mc m) := by
 refine pe_imp (pe_thaw (pe_comp (tt := tMT X.K mc) (te := tM X.K m) hc sc.cell sc.kind sc.names sc.free sc.cap hi hlow hg hf he hs)) ?_
 rintro σ H Q ⟨ρ, en, S, ds, S', E, R, e, k⟩
 exact comp_read hgd (fun _ _ _ h => h) E R e fun a xs ρ' H' X1 R1 ha d1 => k a xs ρ' _ (X1.trans (Ext.new ha)) (R1.new ha) (.inl (.of upd_same)) (d1.up (Ext.new ha))
def mKeep (m : M (List D)) : M D := fun en S => (m en S).map fun p => (.ref p.2.length, p.2 ++ [.lst p.1])
theorem se_comp (hc : X.calm = true) (sc : CompSc X scope cn caps) (hi : SI X tg iter mi) (hlow : GLow tgs.length g) (hgd : GD X.K g gd)
  (hg : ∀ fp s H C, PG (compCx X scope (tgs ++ cn) fp s H C) tg g) (hf : ∀ fp s H C, SF (compCx X scope (tgs ++ cn) fp s H C) ifs mc) (he : ∀ fp s H C, SE (compCx X scope (tgs ++ cn) fp s H C) elt m)
  (hs : ∀ x, foldedSetIterable iter X.env x = pure x := by intro _; rfl) : SE X (.ListComp elt [⟨tg, iter, ifs, 0⟩] scope pos) (mKeep (mComp mi tgs.length caps gd mc m)) := by
 refine pe_imp (pe_thaw (pe_comp (tt := tMT X.K mc) (te := tM X.K m) hc sc.cell sc.kind sc.names sc.free sc.cap hi hlow hg hf he hs)) ?_
 rintro σ H Q ⟨ρ, en, S, v, S', E, R, e, k⟩
 unfold mKeep at e
 obtain ⟨p, e1, e2⟩ := Option.map_eq_some_iff.mp e
 cases e2
 refine comp_read hgd (fun _ _ _ h => h) E R e1 fun a xs ρ' H' X1 R1 ha d1 => ?_
 refine k _ (ρ' ++ [a]) _ (X1.trans (Ext.newRef ha)) (R1.push ha ⟨xs, upd_same, d1.up (Ext.newRef ha)⟩) (.ref ?_)
 rw [← R1.len]; simp
end
def seqD : D → Sto → Option (List D)
 | .tup ds, _ => some ds
 | .ref n, S => match S[n]? with | some (.lst ds) => some ds | _ => none
 | .scr ns, _ => some (ns.map D.int)
 | _, _ => none
def mSq (m : M D) : M (List D) := fun en S => (m en S).bind fun p => (seqD p.1 p.2).map fun ds => (ds, p.2)
def spD (K : PySem.W.Frag) (n : Nat) (F : List D → Sto → Option (D × Sto)) : Sp := fun vs H Q _ => vs.length = n ∧ rDs K F vs H Q
def mCall (F : List D → Sto → Option (D × Sto)) (m : M (List D)) : M D := fun en S => (m en S).bind fun p => F p.1 p.2
theorem se_call {x : Str} {p : Pos} {k n : Nat} {f : Addr} {fd : FuncData} {ps : List Str} {F : List D → Sto → Option (D × Sto)} {m : M (List D)} (hF : FnOk X.prog X.w X.K X.mg X.base CX0 k f fd ps (spD X.K n F)) (hr : Room k X.A) (hg : Gl X x) (hm : X.mg x = some (.ref f))
  (hk : PySem.W.keepIn X.K (.ref f) = true) (hb : Binds X.K fd ps []) (ha : SA X (a :: es) m)
  (hlen : ∀ en S r, m en S = some r → r.1.length = n)
  (hdb : (x == ("__debug__" : Str)) = false := by decide) (he : starEach (a :: es) X.env = (false, eval a X.env) :: starEach es X.env := by rfl) (hpl : (backTo pos (starEach es X.env)).any (·.1) = false := by rfl) :
  SE X (.Call (.Name x p) (a :: es) [] pos) (mCall F m) := by
 refine pe_imp (pe_call hF hr hg hm hk hb .nil pass0 ha hdb he hpl) ?_
 rintro σ H Q ⟨ρ, en, S, v, S', E, R, e, k⟩
 unfold mCall at e
 obtain ⟨r, e1, e2⟩ := Option.bind_eq_some_iff.mp e
 refine ⟨ρ, en, S, r.1, r.2, E, R, e1, fun xs ρ1 H1 X1 R1 d1 => ?_⟩
 show spD X.K n F (xs ++ []) H1 Q E0
 rw [List.append_nil]
 exact ⟨by rw [← d1.length]; exact hlen _ _ _ e1, ρ1, r.2, r.1, v, S', R1, d1, e2, fun z ρ2 H2 X2 R2 d2 => k z ρ2 H2 (X1.trans X2) R2 d2⟩
theorem len_nil : ∀ en S r, mNil en S = some r → r.1.length = 0 := by
 intro en S r e; cases e; rfl
theorem len_cons {ma : M D} {mr : M (List D)} {n : Nat} (h : ∀ en S r, mr en S = some r → r.1.length = n) : ∀ en S r, mCons ma mr en S = some r → r.1.length = n + 1 := by
 intro en S r e
 unfold mCons at e
 obtain ⟨p, e1, e⟩ := Option.bind_eq_some_iff.mp e
 obtain ⟨q, e2, e3⟩ := Option.map_eq_some_iff.mp e
 cases e3
 rw [List.length_cons, h _ _ _ e2]
mutual
def lowD (n : Nat) : D → Bool
 | .tup ds => lowDs n ds
 | .ref k => decide (k < n)
 | _ => true
def lowDs (n : Nat) : List D → Bool
 | [] => true
 | d :: ds => lowD n d && lowDs n ds
end
section
variable {K : PySem.W.Frag} {ρ : List Addr} {H : Hp}
mutual
theorem low_of : ∀ (d : D) (x : V), DR K ρ H d x → lowD ρ.length d = true
 | .non, _, _ => by unfold lowD; rfl
 | .bl _, _, _ => by unfold lowD; rfl
 | .int _, _, _ => by unfold lowD; rfl
 | .str _, _, _ => by unfold lowD; rfl
 | .scr _, _, _ => by unfold lowD; rfl
 | .tup ds, x, h => by
  obtain ⟨a, xs, _, _, h3⟩ := h.of_tup
  unfold lowD
  exact lows_of ds xs h3
 | .ref n, x, h => by
  obtain ⟨a, h1, _⟩ := h.of_ref
  unfold lowD
  exact decide_eq_true (List.getElem?_eq_some_iff.mp h1).1
theorem lows_of : ∀ (ds : List D) (xs : List V), DsR K ρ H ds xs → lowDs ρ.length ds = true
 | [], _, _ => by unfold lowDs; rfl
 | d :: ds, xs, h => by
  unfold DsR at h
  obtain ⟨x, r, _, h1, h2⟩ := h
  unfold lowDs
  rw [low_of d x h1, lows_of ds r h2]; rfl
end
mutual
theorem cut_of (n : Nat) : ∀ (d : D) (x : V), DR K ρ H d x → lowD n d = true → DR K (ρ.take n) H d x
 | .non, _, h, _ => by unfold DR at h ⊢; exact h
 | .bl _, _, h, _ => by unfold DR at h ⊢; exact h
 | .int _, _, h, _ => by unfold DR at h ⊢; exact h
 | .str _, _, h, _ => by unfold DR at h ⊢; exact h
 | .scr _, _, h, _ => by unfold DR at h ⊢; exact h
 | .tup ds, x, h, l => by
  obtain ⟨a, xs, rfl, h2, h3⟩ := h.of_tup
  unfold lowD at l
  exact .tup h2 (cuts_of n ds xs h3 l)
 | .ref k, x, h, l => by
  obtain ⟨a, h1, rfl⟩ := h.of_ref
  unfold lowD at l
  exact .ref (by rw [List.getElem?_take_of_lt (of_decide_eq_true l)]; exact h1)
theorem cuts_of (n : Nat) : ∀ (ds : List D) (xs : List V), DsR K ρ H ds xs → lowDs n ds = true → DsR K (ρ.take n) H ds xs
 | [], _, h, _ => by unfold DsR at h ⊢; exact h
 | d :: ds, xs, h, l => by
  unfold DsR at h
  obtain ⟨x, r, rfl, h1, h2⟩ := h
  unfold lowDs at l
  rw [Bool.and_eq_true] at l
  exact .cons (cut_of n d x h1 l.1) (cuts_of n ds r h2 l.2)
end
end
theorem St_cut {K : PySem.W.Frag} {ρ ρ1 : List Addr} {H H1 : Hp} {S S1 : Sto} (R : StR K ρ H S) (X : Ext ρ H ρ1 H1) (R1 : StR K ρ1 H1 S1) (e : S1.take S.length = S) : StR K (ρ1.take S.length) H1 S ∧ Ext ρ H (ρ1.take S.length) H1 := by
 have hl : S.length ≤ S1.length := by
  have := congrArg List.length e
  rw [List.length_take] at this
  omega
 have low : ∀ (n : Nat) ob, S[n]? = some ob → n < S.length := fun n ob h => (List.getElem?_eq_some_iff.mp h).1
 refine ⟨⟨by rw [List.length_take, R1.len]; omega, fun i j a h1 h2 => ?_, fun n ob h => ?_⟩, ⟨fun n a h => ?_, X.tup, X.frz⟩⟩
 ·have hi : i < S.length := by
   have := (List.getElem?_eq_some_iff.mp h1).1
   rw [List.length_take] at this; omega
  have hj : j < S.length := by
   have := (List.getElem?_eq_some_iff.mp h2).1
   rw [List.length_take] at this; omega
  rw [List.getElem?_take_of_lt hi] at h1
  rw [List.getElem?_take_of_lt hj] at h2
  exact R1.inj i j a h1 h2
 ·have hn := low n ob h
  have h1 : S1[n]? = some ob := by rw [← List.getElem?_take_of_lt hn, e]; exact h
  obtain ⟨a, e1, r1⟩ := R1.ob n ob h1
  obtain ⟨a0, e0, r0⟩ := R.ob n ob h
  refine ⟨a, by rw [List.getElem?_take_of_lt hn]; exact e1, ?_⟩
  cases ob with
  | lst ds =>
   obtain ⟨xs, q1, q2⟩ := r1
   obtain ⟨ys, p1, p2⟩ := r0
   have l := lows_of ds ys p2
   rw [R.len] at l
   exact ⟨xs, q1, cuts_of _ ds xs q2 l⟩
  | dct kvs =>
   have l : lowDs S.length (kvs.map (·.2)) = true := by
    rcases r0 with ⟨ks0, ys, p1, p2, p3, p4⟩ | ⟨ks0, ys, p1, p2, p3, p4⟩
    ·have l := lows_of _ ys p4
     rw [R.len] at l; exact l
    ·have l := lows_of _ ys p4
     rw [R.len] at l; exact l
   rcases r1 with ⟨ks, xs, q1, q2, q3, q4⟩ | ⟨ks, xs, q1, q2, q3, q4⟩
   ·exact .inl ⟨ks, xs, q1, q2, q3, cuts_of _ _ xs q4 l⟩
   ·exact .inr ⟨ks, xs, q1, q2, q3, cuts_of _ _ xs q4 l⟩
  | fdct kvs =>
   obtain ⟨o, ks, xs, q1, q2, q3, q4⟩ := r1
   obtain ⟨o', ks0, ys, p1, p2, p3, p4⟩ := r0
   have l := lows_of _ ys p4
   rw [R.len] at l
   exact ⟨o, ks, xs, q1, q2, q3, cuts_of _ _ xs q4 l⟩
  | ins C fs =>
   obtain ⟨Ca, dx, xs, q0, q1, q2⟩ := r1
   obtain ⟨Ca0, dx0, ys, p0, p1, p2⟩ := r0
   have l := lows_of _ ys p2
   rw [R.len] at l
   exact ⟨Ca, dx, xs, q0, q1, cuts_of _ _ xs q2 l⟩
 ·have hn : n < S.length := by rw [← R.len]; exact (List.getElem?_eq_some_iff.mp h).1
  rw [List.getElem?_take_of_lt hn]
  exact X.pre n a h
open Classical in
noncomputable def trim (S : Sto) (r : D × Sto) : D × Sto := if r.2.take S.length = S ∧ lowD S.length r.1 = true then (r.1, S) else r
def startD (nN : Nat) (ds : List D) : En := ds.map some ++ List.replicate (nN - ds.length) none
noncomputable def runD (nN n : Nat) (m : MS) : List D → Sto → Option (D × Sto) := fun ds S => if ds.length = n then (m (startD nN ds) S).bind fun p => match p.1 with
 | .rt v => some (trim S (v, p.2.2))
 | .nx => some (trim S (.non, p.2.2))
 | _ => none
 else none
theorem trim_ok {K : PySem.W.Frag} {ρ ρ1 : List Addr} {H H1 : Hp} {S S1 S' : Sto} {v v' : D} {x : V} {Q : VK} (R : StR K ρ H S) (X : Ext ρ H ρ1 H1) (R1 : StR K ρ1 H1 S1) (d : DR K ρ1 H1 v x) (e : trim S (v, S1) = (v', S'))
  (k : ∀ z ρ' H', Ext ρ H ρ' H' → StR K ρ' H' S' → DR K ρ' H' v' z → Q z H') : Q x H1 := by
 unfold trim at e
 split at e
 ·rename_i h
  cases e
  obtain ⟨R2, X2⟩ := St_cut R X R1 h.1
  exact k x _ H1 X2 R2 (cut_of _ v x d h.2)
 ·cases e
  exact k x ρ1 H1 X R1 d
theorem start_en {K : PySem.W.Frag} {ρ : List Addr} {H : Hp} {ds : List D} {vs : List V} {N : List Str} (h : DsR K ρ H ds vs) : EnR K ρ H (startD N.length ds) (L2.start N vs) := by
 unfold startD L2.start
 refine ⟨by simp [h.length], fun i d e => ?_⟩
 by_cases hi : i < ds.length
 ·rw [List.getElem?_append_left (by simpa using hi), List.getElem?_map] at e
  rw [List.getElem?_append_left (by rw [List.length_map, ← h.length]; exact hi), List.getElem?_map]
  cases q : ds[i]? with
  | none => rw [q] at e; cases e
  | some c =>
   rw [q] at e; cases e
   obtain ⟨x, h1, h2⟩ := h.get q
   exact ⟨x, by rw [h1]; rfl, h2⟩
 ·rw [List.getElem?_append_right (by simpa using hi), List.getElem?_replicate] at e
  split at e <;> cases e
theorem fn_d {P : Program} {w : World} {K : PySem.W.Frag} {mg : Str → Option Value} {base : Heap} {x qual : Str} {st : Stmt} {f : Addr} {fd : FuncData} {N ps : List Str} {k n nN : Nat} {m : MS} (F : Fun K x qual st f fd) (S : FnScope N ps (defScope st)) (hn : ps.length = n) (hN : N.length = nN)
  (hb : ∀ (cdv : Value) (A : Around) (outer : List Env) (s : Shared) (H : Hp) (E : XK), Room k (A.deeper (envOfC qual (defScope st) s.heap.objs.size f cdv)) → SB (cxOf CX0 P w K mg base N qual (defScope st) f cdv A outer s H E).nox (defBody st) m) :
  FnOk P w K mg base CX0 (k + 1) f fd ps (spD K n (runD nN n m)) := by
 refine F.ok S (fun vs H Q E h => by rw [h.1, hn]) (fun cdv A outer s H vs Q E hr h => ?_)
 obtain ⟨hl, ρ, S0, ds, v, S', R, d1, e, q⟩ := h
 refine ⟨_, hb cdv A outer s H E hr, ?_⟩
 unfold runD at e
 split at e
 ·obtain ⟨p, e1, e2⟩ := Option.bind_eq_some_iff.mp e
  obtain ⟨fl, en', S1⟩ := p
  refine ⟨ρ, _, S0, fl, en', S1, hN ▸ start_en d1, R, e1, fun ρ1 H1 σ1 X1 R1 E1 => ?_⟩
  cases fl with
  | rt u => exact fun z dz => trim_ok R X1 R1 dz (Option.some.inj e2) q
  | nx => exact trim_ok R X1 R1 .flat_non (Option.some.inj e2) q
  | bk => cases e2
  | ct => cases e2
 ·cases e
end
end DL
namespace DL
open PySem PySem.Spec PyProof.Rows L2
theorem hu64 {k : Nat} {A : Around} (hr : Room k A) : A.units + 64 < cLine := by have := hr.un; omega
section
variable {X : Cx}
def gLt : D → D → Sto → Option (D × Sto)
 | .int i, .int j, S => some (.bl (decide (i < j)), S)
 | .str i, .str j, S => some (.bl (decide (i.cps.toList < j.cps.toList)), S)
 | .tup as, .tup bs, S => if (cmpOk 30 (.tup as) (.tup bs) && (pln 30 (.tup as) && pln 30 (.tup bs))) = true then some (.bl (ltD (.tup as) (.tup bs)), S) else none
 | _, _, _ => none
theorem gLt_ok {a b : D} {S S' : Sto} {v : D} (e : gLt a b S = some (v, S')) : v = .bl (ltD a b) ∧ S = S' ∧ cmpOk 30 a b = true ∧ pln 30 a = true ∧ pln 30 b = true := by
 cases a with
 | int i =>
  cases b with
  | int j => cases e; exact ⟨by unfold ltD; rfl, rfl, rfl, rfl, rfl⟩
  | _ => cases e
 | str i =>
  cases b with
  | str j => cases e; exact ⟨by unfold ltD; rfl, rfl, rfl, rfl, rfl⟩
  | _ => cases e
 | tup as =>
  cases b with
  | tup bs =>
   dsimp only [gLt] at e
   split at e
   ·rename_i hc
    cases e
    rw [Bool.and_eq_true, Bool.and_eq_true] at hc
    exact ⟨rfl, rfl, hc.1, hc.2.1, hc.2.2⟩
   ·cases e
  | _ => cases e
 | _ => cases e
theorem opd_lt (hu : X.A.units + 64 < cLine) : OpD X (compareOp .Lt) gLt := by
 intro pins s σ H x y v u Q I rx ry h
 obtain ⟨ρ, S, d1, d2, z, S', R, h1, h2, e, k⟩ := h
 obtain ⟨rfl, rfl, hc, p1, p2⟩ := gLt_ok e
 exact ltAt_D I 30 (by omega) hc p1 p2 h1 h2 rx ry _ _ _ _ ⟨.bl _, H, I, rfl, k _ ρ H Ext.refl R .flat_bl⟩
def eqOk (a b : D) : Bool := pln 30 a && pln 30 b
def gEq : D → D → Sto → Option (D × Sto)
 | .int i, .int j, S => some (.bl (decide (i = j)), S)
 | .str i, .str j, S => some (.bl (decide (i = j)), S)
 | .bl i, .bl j, S => some (.bl (decide (i = j)), S)
 | a, b, S => if eqOk a b = true then some (.bl (eqD a b), S) else none
def gNe : D → D → Sto → Option (D × Sto)
 | .int i, .int j, S => some (.bl (!decide (i = j)), S)
 | .str i, .str j, S => some (.bl (!decide (i = j)), S)
 | .bl i, .bl j, S => some (.bl (!decide (i = j)), S)
 | a, b, S => if eqOk a b = true then some (.bl (!eqD a b), S) else none
theorem beq_dec {α : Type} [BEq α] [LawfulBEq α] [DecidableEq α] (a b : α) : (a == b) = decide (a = b) := by
 rw [Bool.eq_iff_iff]; simp
theorem gEq_ok {a b : D} {S S' : Sto} {v : D} (e : gEq a b S = some (v, S')) : v = .bl (eqD a b) ∧ S = S' ∧ pln 30 a = true ∧ pln 30 b = true := by
 unfold gEq at e
 split at e
 ·cases e; exact ⟨by unfold eqD; dsimp only; rw [beq_dec], rfl, rfl, rfl⟩
 ·cases e; exact ⟨by unfold eqD; dsimp only; rw [beq_dec], rfl, rfl, rfl⟩
 ·cases e; exact ⟨by unfold eqD; dsimp only; rw [beq_dec], rfl, rfl, rfl⟩
 ·split at e
  ·rename_i hc
   cases e
   unfold eqOk at hc
   rw [Bool.and_eq_true] at hc
   exact ⟨rfl, rfl, hc.1, hc.2⟩
  ·cases e
theorem gNe_ok {a b : D} {S S' : Sto} {v : D} (e : gNe a b S = some (v, S')) : v = .bl (!eqD a b) ∧ S = S' ∧ pln 30 a = true ∧ pln 30 b = true := by
 unfold gNe at e
 split at e
 ·cases e; exact ⟨by unfold eqD; dsimp only; rw [beq_dec], rfl, rfl, rfl⟩
 ·cases e; exact ⟨by unfold eqD; dsimp only; rw [beq_dec], rfl, rfl, rfl⟩
 ·cases e; exact ⟨by unfold eqD; dsimp only; rw [beq_dec], rfl, rfl, rfl⟩
 ·split at e
  ·rename_i hc
   cases e
   unfold eqOk at hc
   rw [Bool.and_eq_true] at hc
   exact ⟨rfl, rfl, hc.1, hc.2⟩
  ·cases e
theorem opd_eq (hu : X.A.units + 64 < cLine) : OpD X (compareOp .Eq) gEq := by
 intro pins s σ H x y v u Q I rx ry h
 obtain ⟨ρ, S, d1, d2, z, S', R, h1, h2, e, k⟩ := h
 obtain ⟨rfl, rfl, p1, p2⟩ := gEq_ok e
 exact rcAt_D I 30 (by omega) p1 p2 h1 h2 rx ry _ _ _ _ ⟨.bl _, H, I, rfl, k _ ρ H Ext.refl R .flat_bl⟩
theorem opd_ne (hu : X.A.units + 64 < cLine) : OpD X (compareOp .NotEq) gNe := by
 intro pins s σ H x y v u Q I rx ry h
 obtain ⟨ρ, S, d1, d2, z, S', R, h1, h2, e, k⟩ := h
 obtain ⟨rfl, rfl, p1, p2⟩ := gNe_ok e
 exact rcNe_D I 30 (by omega) p1 p2 h1 h2 rx ry _ _ _ _ ⟨.bl _, H, I, rfl, k _ ρ H Ext.refl R .flat_bl⟩
def inD (x : D) : D → Sto → Option Bool
 | .str j, _ => match x with | .str i => some (!(Builtin.Str.occurrences j i 0 j.length 1).isEmpty) | _ => none
 | .tup ys, _ => if (pln 30 x && ys.all (pln 30)) = true then some (ys.any fun y => eqD y x) else none
 | .ref n, S => match S[n]? with
  | some (.lst ys) => if (pln 30 x && ys.all (pln 30)) = true then some (ys.any fun y => eqD y x) else none
  | _ => (dctAt S n x).map fun kvs => (dget kvs x).isSome
 | _, _ => none
def gNotIn : D → D → Sto → Option (D × Sto) := fun a b S => (inD a b S).map fun r => (.bl (!r), S)
theorem items_at {pins : List (Addr × Obj)} {σ : L2.St} {H : Hp} {s : Shared} {ρ : List Addr} {A : Around} {x : D} {vx : V} {ux : Value} {ys : List D} {vs : List V} {us : List Value} (I : Inv X pins σ H s) (hu : A.units + 64 < cLine)
  (px : pln 30 x = true) (py : ys.all (pln 30) = true) (hx : DR X.K ρ H x vx) (rx : RelV vx ux) (hy : DsR X.K ρ H ys vs) (ry : Vals vs us) :
  ∃ e : Value → Bool, (∀ u, u ∈ us → SeqAt.EqAt A.in1 s u ux (e u)) ∧ us.any e = ys.any fun y => eqD y x := by
 classical
 let P : Value → D → Prop := fun u d => pln 30 d = true ∧ ∃ v, RelV v u ∧ DR X.K ρ H d v
 refine ⟨fun u => if h : ∃ d, P u d then eqD (Classical.choose h) x else false, ?_, ?_⟩
 ·intro u hm
  obtain ⟨i, hi⟩ := List.mem_iff_getElem?.mp hm
  have hlen := ry.length
  have hlen2 := hy.length
  have li : i < us.length := (List.getElem?_eq_some_iff.mp hi).1
  have g1 : ys[i]? = some ys[i] := List.getElem?_eq_getElem (by omega)
  obtain ⟨v, v1, v2⟩ := hy.get g1
  obtain ⟨u', u1, u2⟩ := ry.get v1
  rw [hi] at u1
  cases u1
  have pd := List.all_eq_true.mp py _ (List.getElem_mem (by omega : i < ys.length))
  have h : ∃ d, P u d := ⟨ys[i], pd, v, u2, v2⟩
  dsimp only
  rw [dif_pos h]
  obtain ⟨q1, v', q2, q3⟩ := Classical.choose_spec h
  exact eqAt_D I 30 (by rw [in1_units]; omega) q1 px q3 hx q2 rx
 ·have key : ∀ {ys : List D} {vs : List V} {us : List Value}, ys.all (pln 30) = true → DsR X.K ρ H ys vs → Vals vs us → us.any (fun u => if h : ∃ d, P u d then eqD (Classical.choose h) x else false) = ys.any fun y => eqD y x := by
   intro ys
   induction ys with
   | nil =>
    intro vs us _ hy ry
    unfold DsR at hy
    subst hy
    cases ry
    rfl
   | cons d ys ih =>
    intro vs us py hy ry
    unfold DsR at hy
    obtain ⟨v, r, rfl, h1, h2⟩ := hy
    cases ry with
    | @cons _ u _ us' r1 r2 =>
     rw [List.all_cons, Bool.and_eq_true] at py
     rw [List.any_cons, List.any_cons, ih py.2 h2 r2]
     have h : ∃ d, P u d := ⟨d, py.1, v, r1, h1⟩
     rw [dif_pos h]
     obtain ⟨q1, v', q2, q3⟩ := Classical.choose_spec h
     have hv : v' = v := RelV.inj q2 r1
     subst hv
     rw [DR.one 30 _ d _ q1 py.1 q3 h1]
  exact key py hy ry
theorem opd_notIn (hu : X.A.units + 64 < cLine) : OpD X (compareOp .NotIn) gNotIn := by
 intro pins s σ H x y v u Q I rx ry h
 obtain ⟨ρ, S, d1, d2, z, S', R, h1, h2, e, k⟩ := h
 obtain ⟨r, e1, e2⟩ := Option.map_eq_some_iff.mp e
 cases e2
 cases d2 with
 | str j =>
  cases d1 with
  | str i =>
   cases e1
   rw [h1.of_str] at rx
   rw [h2.of_str] at ry
   obtain ⟨t, rfl⟩ := rx
   obtain ⟨t', rfl⟩ := ry
   exact notIn_str ⟨.bl _, H, I, rfl, k _ ρ H Ext.refl R .flat_bl⟩
  | _ => cases e1
 | tup ys =>
  dsimp only [inD] at e1
  split at e1
  ·rename_i hc
   cases e1
   rw [Bool.and_eq_true] at hc
   obtain ⟨a, xs, rfl, a1, a2⟩ := h2.of_tup
   cases ry
   obtain ⟨its, q, pl, hz⟩ := I.tuple (.of a1)
   obtain ⟨f, f1, f2⟩ := items_at I hu hc.1 hc.2 h1 rx a2 q
   refine SeqAt.notIn_tupleAt f pl (fun w hw => f1 w (by simpa using hw)) ⟨.bl _, H, I, rfl, ?_⟩
   rw [show its.toArray.any f = its.any f by simp, f2]
   exact k _ ρ H Ext.refl R .flat_bl
  ·cases e1
 | ref n =>
  obtain ⟨a, a1, rfl⟩ := h2.of_ref
  cases ry
  dsimp only [inD] at e1
  split at e1
  ·rename_i ys hn
   split at e1
   ·rename_i hc
    cases e1
    rw [Bool.and_eq_true] at hc
    obtain ⟨ob, eo, ro⟩ := R.obj a1
    rw [hn] at eo
    cases eo
    obtain ⟨xs, x1, x2⟩ := ro
    obtain ⟨its, q, pl, hz⟩ := I.list (.of x1)
    obtain ⟨f, f1, f2⟩ := items_at I hu hc.1 hc.2 h1 rx x2 q
    refine SeqAt.notIn_listAt f pl.isList (fun w hw => f1 w (by simpa using hw)) ⟨.bl _, H, I, rfl, ?_⟩
    rw [show its.toArray.any f = its.any f by simp, f2]
    exact k _ ρ H Ext.refl R .flat_bl
   ·cases e1
  ·obtain ⟨kvs, e3, e4⟩ := Option.map_eq_some_iff.mp e1
   subst e4
   obtain ⟨g1, g2⟩ := dget_ok R a1 e3 h1
   cases hd : dget kvs d1 with
   | some w =>
    rw [hd] at k
    obtain ⟨x', x1, x2⟩ := g1 w hd
    exact dE_notIn (by omega) I x1 rx fun s' I' => ⟨.bl _, H, I', rfl, k _ ρ H Ext.refl R .flat_bl⟩
   | none =>
    rw [hd] at k
    exact dE_notIn (by omega) I (g2 hd) rx fun s' I' => ⟨.bl _, H, I', rfl, k _ ρ H Ext.refl R .flat_bl⟩
 | _ => cases e1
end
end DL
namespace DL
open PySem PySem.Spec PyProof.Rows PySem.W L2
section
variable {X : Cx} {pins : List (Addr × Obj)} {σ : L2.St} {H : Hp} {s : Shared} {ρ : List Addr}
theorem pairs_D (I : Inv X pins σ H s) (n : Nat) {A : Around} (hu : A.units + n < cLine) : ∀ {as bs : List D} {xs ys : List V} {its its2 : List Value}, as.all (pln n) = true → bs.all (pln n) = true → ((as.zip bs).all fun p => cmpOk n p.1 p.2) = true → DsR X.K ρ H as xs → DsR X.K ρ H bs ys → Vals xs its → Vals ys its2 →
  Paired (PairAt A s) (its.zip its2) ((as.zip bs).map fun p => (eqD p.1 p.2, ltD p.1 p.2)) := by
 intro as
 induction as with
 | nil =>
  intro bs xs ys its its2 _ _ _ q1 _ q3 _
  unfold DsR at q1
  subst q1
  cases q3
  exact .nil
 | cons d as ih2 =>
  intro bs xs ys its its2 z1 z2 z3 q1 q2 q3 q4
  unfold DsR at q1
  obtain ⟨x, r, rfl, h1, h2⟩ := q1
  cases q3 with
  | cons r1 r2 =>
   cases bs with
   | nil =>
    unfold DsR at q2
    subst q2
    cases q4
    exact .nil
   | cons e bs =>
    unfold DsR at q2
    obtain ⟨y, r', rfl, h3, h4⟩ := q2
    cases q4 with
    | cons r3 r4 =>
     rw [List.all_cons, Bool.and_eq_true] at z1 z2
     rw [List.zip_cons_cons, List.all_cons, Bool.and_eq_true] at z3
     rw [List.zip_cons_cons, List.zip_cons_cons, List.map_cons]
     exact .cons ⟨eqAt_D I n hu z1.1 z2.1 h1 h3 r1 r3, fun _ => ltAt_D I n hu z3.1 z1.1 z2.1 h1 h3 r1 r3⟩ (ih2 z1.2 z2.2 z3.2 h2 h4 r2 r4)
def OneAt (A : Around) (s : Shared) (k : Bool) (u v : Value) (b : Bool) : Prop := ∀ (prog : Program) (w : World) (E : Value → Shared → Prop) (Q : Bool → Shared → Prop), Q b s → wpAny (model prog w) A (oneLt' k u v) Q E s
theorem LtAt.one {A : Around} {u v : Value} {b : Bool} (h : LtAt A s u v b) : OneAt A s false u v b := fun prog w E Q hq => kat_one u v (h prog w E _ hq)
theorem katlex {A : Around} {b fin : Bool} {prog : Program} {w : World} {Q : Bool → Shared → Prop} : ∀ {zs : List (Value × Value)} {ps : List (Bool × Bool)} (i : Nat), Paired (PairAt A s) zs ps →
  (b = true → i = 0 → ∀ z r p q, zs = z :: r → ps = p :: q → p.1 = false → OneAt A s true z.1 z.2 p.2) → Q (lexB ps fin) s → KatLex prog w A b fin Q zs i s
 | [], _, i, .nil, _, h => h
 | z :: zs, p :: ps, i, .cons hp ht, h1, h => by
  unfold lexB at h
  refine kat_cons (hp.1 prog w _ _ ?_)
  cases e : p.1 with
  | true =>
   rw [if_pos e] at h
   exact kat_yes (katlex (i + 1) ht (fun _ z => absurd z (Nat.succ_ne_zero i)) h)
  | false =>
   rw [if_neg (by rw [e]; exact Bool.false_ne_true)] at h
   refine kat_no ?_
   have ho := (hp.2 e).one
   cases hb : b && i == 0 with
   | false => exact ho prog w _ _ h
   | true =>
    rw [Bool.and_eq_true] at hb
    exact h1 hb.1 (eq_of_beq hb.2) z zs p ps rfl rfl e prog w _ _ h
def skD : D → Option Nat
 | .int _ => some 0
 | .str _ => some 1
 | .tup (.int _ :: _) => some 2
 | .tup (.str _ :: _) => some 3
 | .tup (.tup _ :: _) => some 4
 | _ => none
def skOk (ds : List D) : Bool := [0, 1, 2, 3, 4].any fun c => ds.all fun d => skD d == some c
def cmpB (ds : List D) : Bool := ds.all (pln 30) && ds.all fun a => ds.all fun b => cmpOk 30 a b
def sortOk (ds : List D) : Bool := decide (ds.length < 64) && (decide (ds.length < 2) || (skOk ds && cmpB ds))
theorem cmpB_all {ds : List D} (h : cmpB ds = true) : cmpAll 30 ds := by
 unfold cmpB at h
 rw [Bool.and_eq_true, List.all_eq_true, List.all_eq_true] at h
 exact ⟨h.1, fun a ha b hb => List.all_eq_true.mp (h.2 a ha) b hb⟩
theorem vals_get {ds : List D} {xs : List V} {vs : List Value} (h : DsR X.K ρ H ds xs) (r : Vals xs vs) {i : Nat} {d : D} (e : ds[i]? = some d) : ∃ x v, DR X.K ρ H d x ∧ RelV x v ∧ vs[i]? = some v := by
 obtain ⟨x, x1, x2⟩ := h.get e
 obtain ⟨v, v1, v2⟩ := r.get x1
 exact ⟨x, v, x2, v2, v1⟩
theorem vals_mem {ds : List D} {xs : List V} {vs : List Value} (h : DsR X.K ρ H ds xs) (r : Vals xs vs) {v : Value} (hv : v ∈ vs) : ∃ d x, d ∈ ds ∧ DR X.K ρ H d x ∧ RelV x v := by
 obtain ⟨i, hi, e⟩ := List.mem_iff_getElem.mp hv
 have hl : ds.length = vs.length := h.length.trans r.length
 obtain ⟨x, v', a, b, c⟩ := vals_get h r (i := i) (List.getElem?_eq_getElem (by omega))
 rw [List.getElem?_eq_getElem hi, e] at c
 cases c
 exact ⟨_, x, List.getElem_mem _, a, b⟩
theorem sk_tup {as : List D} {c : Nat} (e : skD (.tup as) = some c) : ∃ h t, as = h :: t ∧ ((∃ i, h = .int i ∧ c = 2) ∨ (∃ x, h = .str x ∧ c = 3) ∨ ∃ l, h = .tup l ∧ c = 4) := by
 cases as with
 | nil => cases e
 | cons h t =>
  cases h with
  | int i => cases e; exact ⟨_, t, rfl, .inl ⟨i, rfl, rfl⟩⟩
  | str i => cases e; exact ⟨_, t, rfl, .inr (.inl ⟨i, rfl, rfl⟩)⟩
  | tup i => cases e; exact ⟨_, t, rfl, .inr (.inr ⟨i, rfl, rfl⟩)⟩
  | _ => cases e
def tyC : Nat → String
 | 2 => "int"
 | 3 => "str"
 | _ => "tuple"
theorem first_D (I : Inv X pins σ H s) {c : Nat} (hc : 2 ≤ c) {d : D} {x : V} {v : Value} (e : skD d = some c) (h : DR X.K ρ H d x) (r : RelV x v) :
  ∃ a o xs n f, v = .ref a ∧ s.heap.get? a = some o ∧ o.cls = .type "tuple" ∧ o.data = .seq xs n ∧ xs[0]? = some f ∧ ∀ M, Looks M s.heap (typeOf f) (.type (tyC c)) := by
 unfold skD at e
 split at e
 ·cases e; omega
 ·cases e; omega
 all_goals first | (cases e; done) | skip
 all_goals
  cases e
  obtain ⟨a, xs, rfl, a1, a2⟩ := h.of_tup
  cases r
  obtain ⟨its, rv, ⟨o, ho, hoc, n, hd⟩, _⟩ := I.tuple (.of a1)
  unfold DsR at a2
  obtain ⟨y, ys, rfl, b1, b2⟩ := a2
  cases rv with
  | @cons _ f _ fs r1 r2 =>
   refine ⟨a, o, _, n, f, rfl, ho, hoc, hd, by simp, ?_⟩
   first
   | (rw [b1.of_int] at r1; obtain ⟨t, rfl⟩ := r1; exact fun M => Looks.of_pure rfl)
   | (rw [b1.of_str] at r1; obtain ⟨t, rfl⟩ := r1; exact fun M => Looks.of_pure rfl)
   | (obtain ⟨b, zs, rfl, c1, _⟩ := b1.of_tup
      cases r1
      obtain ⟨_, _, ⟨o2, ho2, hc2, _⟩, _⟩ := I.tuple (.of c1)
      exact fun M => kitAt_ty M s.heap ⟨o2, ho2, hc2⟩)
theorem katTups_D (I : Inv X pins σ H s) {c : Nat} (hc : 2 ≤ c) : ∀ {ds : List D} {xs : List V} {vs : List Value}, (∀ d ∈ ds, skD d = some c) → DsR X.K ρ H ds xs → Vals xs vs → ∃ fs, KatTups s.heap vs fs ∧ fs.length = vs.length ∧ ∀ f ∈ fs, ∀ M, Looks M s.heap (typeOf f) (.type (tyC c))
 | [], xs, vs, _, h, r => by
  unfold DsR at h
  subst h
  cases r
  exact ⟨[], trivial, rfl, fun f hf => by cases hf⟩
 | d :: ds, xs, vs, hk, h, r => by
  unfold DsR at h
  obtain ⟨x, xr, rfl, h1, h2⟩ := h
  cases r with
  | cons r1 r2 =>
   obtain ⟨fs, f1, f2, f3⟩ := katTups_D I hc (fun d hd => hk d (List.mem_cons_of_mem _ hd)) h2 r2
   obtain ⟨a, o, ys, n, f, rfl, g1, g2, g3, g4, g5⟩ := first_D I hc (hk d List.mem_cons_self) h1 r1
   exact ⟨f :: fs, KatTups.cons g1 g2 g3 g4 f1, by simp [f2], fun g hg => by
    rcases List.mem_cons.mp hg with z | z
    ·subst z; exact g5
    ·exact f3 g z⟩
theorem keyLt_tup (I : Inv X pins σ H s) {A : Around} (hu : A.units + 64 < cLine) {c : Nat} (hc : 2 ≤ c) {d1 d2 : D} {x y : V} {u v : Value} (e1 : skD d1 = some c) (e2 : skD d2 = some c) (p1 : pln 30 d1 = true) (p2 : pln 30 d2 = true) (hcm : cmpOk 30 d1 d2 = true)
  (h1 : DR X.K ρ H d1 x) (h2 : DR X.K ρ H d2 y) (r1 : RelV x u) (r2 : RelV y v) {prog : Program} {w : World} {E : Value → Shared → Prop} {Q : Bool → Shared → Prop} (hq : Q (ltD d1 d2) s) :
  wpAny (model prog w) A (keyLt' (tuples' (Value.type (tyC c) != Value.type "tuple")) u v) Q E s := by
 cases d1 with
 | tup as =>
  cases d2 with
  | tup bs =>
   obtain ⟨a, xs, rfl, a1, a2⟩ := h1.of_tup
   obtain ⟨b, ys, rfl, b1, b2⟩ := h2.of_tup
   cases r1
   cases r2
   obtain ⟨its, rv1, ⟨o, ho, hoc, n, hd⟩, _⟩ := I.tuple (.of a1)
   obtain ⟨its2, rv2, ⟨o2, ho2, hoc2, n2, hd2⟩, _⟩ := I.tuple (.of b1)
   have p1' : as.all (pln 29) = true := by unfold pln at p1; exact p1
   have p2' : bs.all (pln 29) = true := by unfold pln at p2; exact p2
   have hc' : ((as.zip bs).all fun p => cmpOk 29 p.1 p.2) = true := by unfold cmpOk at hcm; exact hcm
   have hp := pairs_D I 29 (A := A) (by omega) p1' p2' hc' a2 b2 rv1 rv2
   refine kat_lt ho hd ho2 hd2 (katlex 0 (by simpa using hp) (fun hb _ z r p q ez ep e => ?_) ?_)
   ·obtain ⟨h1', t1', rfl, w1⟩ := sk_tup e1
    obtain ⟨h2', t2', rfl, w2⟩ := sk_tup e2
    unfold DsR at a2 b2
    obtain ⟨x, _, rfl, a2, _⟩ := a2
    obtain ⟨y, _, rfl, b2, _⟩ := b2
    cases rv1 with
    | cons q1 q2 =>
     cases rv2 with
     | cons q3 q4 =>
      simp only [List.zip_cons_cons, List.map_cons, List.cons.injEq] at ez ep
      obtain ⟨rfl, _⟩ := ez
      obtain ⟨rfl, _⟩ := ep
      rcases w1 with ⟨i, rfl, rfl⟩ | ⟨i, rfl, rfl⟩ | ⟨i, rfl, rfl⟩
      ·rcases w2 with ⟨j, rfl, z⟩ | ⟨j, rfl, z⟩ | ⟨j, rfl, z⟩
       ·rw [a2.of_int] at q1
        rw [b2.of_int] at q3
        obtain ⟨t, rfl⟩ := q1
        obtain ⟨t', rfl⟩ := q3
        exact fun prog w E Q hq => oneLt_int (by unfold ltD at hq; exact hq)
       ·cases z
       ·cases z
      ·rcases w2 with ⟨j, rfl, z⟩ | ⟨j, rfl, z⟩ | ⟨j, rfl, z⟩
       ·cases z
       ·rw [a2.of_str] at q1
        rw [b2.of_str] at q3
        obtain ⟨t, rfl⟩ := q1
        obtain ⟨t', rfl⟩ := q3
        exact fun prog w E Q hq => oneLt_str (by unfold ltD at hq; exact hq)
       ·cases z
      ·exact absurd hb (by decide)
   ·rw [ltD_tup, ltDs_lex, a2.length, b2.length, rv1.length, rv2.length] at hq
    simpa using hq
  | _ => cases hcm
 | int i => unfold skD at e1; cases e1; omega
 | str i => unfold skD at e1; cases e1; omega
 | _ => cases hcm
theorem asks_D (I : Inv X pins σ H s) {ds : List D} {xs : List V} {vs : List Value} (h : DsR X.K ρ H ds xs) (r : Vals xs vs) (h2 : 2 ≤ ds.length) (hk : skOk ds = true) (hc : cmpB ds = true) :
  ∃ κ : SortKind, (∀ (prog : Program) (w : World) (A : Around) (E : Value → Shared → Prop) (Q : SortKind → Shared → Prop), Q κ s → wpAny (model prog w) A (keyKind' vs.toArray) Q E s) ∧
   ∀ (prog : Program) (w : World) (A : Around), A.units + 64 < cLine → ∀ i j, i < ds.length → j < ds.length → ∀ C : Bool → Shared → Prop, C (ltD (ds.getD i .non) (ds.getD j .non)) s → kas_ask prog w A κ vs i j C s := by
 have hl : ds.length = vs.length := h.length.trans r.length
 obtain ⟨hp, hcm⟩ := cmpB_all hc
 unfold skOk at hk
 rw [List.any_eq_true] at hk
 obtain ⟨c, hcm5, hall⟩ := hk
 have hall' : ∀ d ∈ ds, skD d = some c := fun d hd => eq_of_beq (List.all_eq_true.mp hall d hd)
 have at_ : ∀ i, i < ds.length → ∃ x v, ds.getD i .non ∈ ds ∧ DR X.K ρ H (ds.getD i .non) x ∧ RelV x v ∧ vs.getD i Value.none = v := fun i hi => by
  obtain ⟨x, v, a, b, e⟩ := vals_get h r (i := i) (List.getElem?_eq_getElem hi)
  have e1 : ds.getD i .non = ds[i] := by simp [hi]
  rw [e1]
  exact ⟨x, v, List.getElem_mem _, a, b, by rw [List.getD_eq_getElem?_getD, e]; rfl⟩
 by_cases c2 : 2 ≤ c
 ·obtain ⟨fs, f1, f2, f3⟩ := katTups_D I c2 hall' h r
  refine ⟨tuples' (Value.type (tyC c) != Value.type "tuple"), fun prog w A E Q hq => kat_kind f1 (by omega) (fun f hf => f3 f hf _) (by exact beq_self_eq_true _) hq, fun prog w A hu i j hi hj C hC => ?_⟩
  obtain ⟨x, u, m1, a1, b1, e1⟩ := at_ i hi
  obtain ⟨y, v, m2, a2, b2, e2⟩ := at_ j hj
  unfold kas_ask
  rw [e1, e2]
  exact keyLt_tup I hu c2 (hall' _ m1) (hall' _ m2) (hp _ m1) (hp _ m2) (hcm _ m1 _ m2) a1 a2 b1 b2 hC
 ·by_cases c0 : c = 0
  ·subst c0
   have isI : ∀ d ∈ ds, ∃ i, d = .int i := fun d hd => by
    have e := hall' d hd
    unfold skD at e
    split at e <;> first | (cases e; done) | exact ⟨_, rfl⟩
   refine ⟨oneType', fun prog w A E Q hq => kas_kind (T := .type "int") (by omega) (fun v hv => ?_) (by decide) (by decide) hq, fun prog w A hu i j hi hj C hC => ?_⟩
   ·obtain ⟨d, x, m, a, b⟩ := vals_mem h r hv
    obtain ⟨i, rfl⟩ := isI d m
    rw [a.of_int] at b
    obtain ⟨t, rfl⟩ := b
    exact Looks.of_pure rfl
   ·obtain ⟨x, u, m1, a1, b1, e1⟩ := at_ i hi
    obtain ⟨y, v, m2, a2, b2, e2⟩ := at_ j hj
    unfold kas_ask
    rw [e1, e2]
    obtain ⟨p, ep⟩ := isI _ m1
    obtain ⟨q, eq⟩ := isI _ m2
    rw [ep] at a1 hC
    rw [eq] at a2 hC
    rw [a1.of_int] at b1
    rw [a2.of_int] at b2
    obtain ⟨t, rfl⟩ := b1
    obtain ⟨t', rfl⟩ := b2
    exact oneLt_int (by unfold ltD at hC; exact hC)
  ·have c1 : c = 1 := by omega
   subst c1
   have isS : ∀ d ∈ ds, ∃ i, d = .str i := fun d hd => by
    have e := hall' d hd
    unfold skD at e
    split at e <;> first | (cases e; done) | exact ⟨_, rfl⟩
   refine ⟨oneType', fun prog w A E Q hq => kas_kind (T := .type "str") (by omega) (fun v hv => ?_) (by decide) (by decide) hq, fun prog w A hu i j hi hj C hC => ?_⟩
   ·obtain ⟨d, x, m, a, b⟩ := vals_mem h r hv
    obtain ⟨i, rfl⟩ := isS d m
    rw [a.of_str] at b
    obtain ⟨t, rfl⟩ := b
    exact Looks.of_pure rfl
   ·obtain ⟨x, u, m1, a1, b1, e1⟩ := at_ i hi
    obtain ⟨y, v, m2, a2, b2, e2⟩ := at_ j hj
    unfold kas_ask
    rw [e1, e2]
    obtain ⟨p, ep⟩ := isS _ m1
    obtain ⟨q, eq⟩ := isS _ m2
    rw [ep] at a1 hC
    rw [eq] at a2 hC
    rw [a1.of_str] at b1
    rw [a2.of_str] at b2
    obtain ⟨t, rfl⟩ := b1
    obtain ⟨t', rfl⟩ := b2
    exact oneLt_str (by unfold ltD at hC; exact hC)
end
def ltI (ds : List D) (i j : Nat) : Bool := if i < ds.length then (if j < ds.length then ltD (ds.getD i .non) (ds.getD j .non) else true) else (if j < ds.length then false else decide (i < j))
theorem getD_mem {ds : List D} {i : Nat} (h : i < ds.length) : ds.getD i .non ∈ ds := by
 have e1 : ds.getD i .non = ds[i] := by simp [h]
 rw [e1]; exact List.getElem_mem _
theorem ord_D {ds : List D} (h : cmpAll 30 ds) : KS.Ord (ltI ds) where
 irr := fun i => by
  unfold ltI
  by_cases hi : i < ds.length
  ·rw [if_pos hi, if_pos hi]; exact ltD_irr 30 _ (h.1 _ (getD_mem hi))
  ·rw [if_neg hi, if_neg hi]; simp
 as := fun i j => by
  unfold ltI
  by_cases hi : i < ds.length <;> by_cases hj : j < ds.length <;> simp only [hi, hj, if_true, if_false]
  ·exact h.as (getD_mem hi) (getD_mem hj)
  ·intro _; trivial
  ·intro z; cases z
  ·simp only [decide_eq_true_eq, decide_eq_false_iff_not]; omega
 tr := fun i j k => by
  unfold ltI
  by_cases hi : i < ds.length <;> by_cases hj : j < ds.length <;> by_cases hk : k < ds.length <;> simp only [hi, hj, hk, if_true, if_false] <;> (try (intro _ _; first | rfl | trivial)) <;> (try (intro z; cases z; done)) <;> (try (intro _ z; cases z; done))
  ·exact h.le_tr (getD_mem hi) (getD_mem hj) (getD_mem hk)
  ·simp only [decide_eq_false_iff_not] at *; omega
theorem wp_ev {α : Type} {n : Nat} {lt : Nat → Nat → Bool} {cmp : Nat → Nat → (Bool → Shared → Prop) → Shared → Prop} {s : Shared} (hc : ∀ i j, i < n → j < n → ∀ C : Bool → Shared → Prop, C (lt i j) s → cmp i j C s) :
  ∀ (t : KasT α) (Q : α → Shared → Prop), KS.Rg n t → Q (KS.ev lt t) s → t.kasWp cmp Q s
 | .ret _, _, _, h => h
 | .ask i j k, Q, ⟨h1, h2, h3⟩, h => hc i j h1 h2 _ (wp_ev hc (k (lt i j)) Q (h3 _) h)
theorem out_D {ds : List D} (h : cmpAll 30 ds) (hn : 1 ≤ ds.length) : ((KS.ev (ltI ds) (kas_sort ds.length)).toList.map fun i => ds.getD i .non) = sortD ds := by
 obtain ⟨hp, hs⟩ := KS.sort_ok (ord_D h) hn
 generalize KS.ev (ltI ds) (kas_sort ds.length) = p at *
 have hpl : p.toList.Perm (List.range ds.length) := hp.toList
 have hsz : p.size = ds.length := by have := hpl.length_eq; simpa using this
 have hr : (List.range ds.length).map (fun i => ds.getD i .non) = ds := by
  apply List.ext_getElem
  ·simp
  ·intro i h1 h2
   simp [h2]
 refine sort_unique h ?_ ?_
 ·have := hpl.map fun i => ds.getD i D.non
  rw [hr] at this
  exact this
 ·rw [List.pairwise_iff_getElem]
  intro i j hi hj hij
  simp only [List.length_map, Array.length_toList] at hi hj
  simp only [List.getElem_map, Array.getElem_toList]
  have hs' := hs i j (by omega) (by omega)
  have e1 : p.getD i 0 = p[i] := by simp [Array.getD, hi]
  have e2 : p.getD j 0 = p[j] := by simp [Array.getD, hj]
  rw [e1, e2] at hs'
  have m1 : p[i] < ds.length := by
   have : p[i] ∈ List.range ds.length := hpl.mem_iff.mp (by simp)
   simpa using this
  have m2 : p[j] < ds.length := by
   have : p[j] ∈ List.range ds.length := hpl.mem_iff.mp (by simp)
   simpa using this
  show ltD (ds.getD p[j] .non) (ds.getD p[i] .non) = false
  have : ltI ds p[j] p[i] = false := hs'
  unfold ltI at this
  rw [if_pos m2, if_pos m1] at this
  exact this
end DL
namespace DL
open PySem PySem.Spec PyProof.Rows PySem.W L2
theorem hu70 {k : Nat} {A : Around} (hr : Room k A) : A.units + 70 < cLine := by have := hr.un; omega
section
variable {X : Cx} {pins : List (Addr × Obj)} {σ : L2.St} {H : Hp} {s : Shared} {ρ : List Addr}
theorem vals_pick {xs : List V} {vs : List Value} (r : Vals xs vs) : ∀ is : List Nat, (∀ i ∈ is, i < xs.length) → Vals (is.map fun i => xs.getD i .non) (is.map fun i => vs.getD i Value.none)
 | [], _ => .nil
 | i :: is, h => by
  have hi := h i List.mem_cons_self
  obtain ⟨v, e, q⟩ := r.get (List.getElem?_eq_getElem hi)
  refine .cons ?_ (vals_pick r is fun j hj => h j (List.mem_cons_of_mem _ hj))
  show RelV (xs.getD i .non) (vs.getD i Value.none)
  rw [List.getD_eq_getElem?_getD, List.getD_eq_getElem?_getD, List.getElem?_eq_getElem hi, e]
  exact q
theorem ds_pick {ds : List D} {xs : List V} (h : DsR X.K ρ H ds xs) : ∀ is : List Nat, (∀ i ∈ is, i < ds.length) → DsR X.K ρ H (is.map fun i => ds.getD i .non) (is.map fun i => xs.getD i .non)
 | [], _ => .nil
 | i :: is, hh => by
  have hi := hh i List.mem_cons_self
  obtain ⟨x, e, q⟩ := h.get (List.getElem?_eq_getElem hi)
  refine .cons ?_ (ds_pick h is fun j hj => hh j (List.mem_cons_of_mem _ hj))
  show DR X.K ρ H (ds.getD i .non) (xs.getD i .non)
  rw [List.getD_eq_getElem?_getD, List.getD_eq_getElem?_getD, List.getElem?_eq_getElem hi, e]
  exact q
theorem list_sort_D {A : Around} {E : Value → Shared → Prop} {P : PySem.Fin → Shared → Prop} {a : Addr} {ds : List D} {xs : List V} (I : Inv X pins σ H s) (hu : A.units + 64 < cLine) (ha : H a = some (.lst xs)) (h : DsR X.K ρ H ds xs) (ok : sortOk ds = true)
  (q : ∀ (is : List Nat) s', (∀ i ∈ is, i < ds.length) → (is.map fun i => ds.getD i D.non) = sortD ds → Inv X pins σ (upd H a (.lst (is.map fun i => xs.getD i .non))) s' → P (.done (.ret .none)) s') :
  wpAny (model X.prog X.w) A (Builtin.«list.sort» ⟨[.ref a], []⟩) P E s := by
 obtain ⟨hz, vs, n, rv, ho⟩ := (show ObjOk X.prog X.w H s.heap a (.lst xs) from I.hok a _ ha)
 have hl : ds.length = vs.length := h.length.trans rv.length
 unfold sortOk at ok
 rw [Bool.and_eq_true, decide_eq_true_eq] at ok
 have h64 : vs.length < 64 := by omega
 have s1 := Heap.SameBut.update s.heap a (Obj.mapSeq fun _ => (#[] : Array Value))
 obtain ⟨e1, ho1⟩ : ∃ e1, (s.heap.update a (Obj.mapSeq fun _ => (#[] : Array Value))).get? a = some (seqObj "list" #[] e1) := ⟨_, get?_update_seq ho fun _ => #[]⟩
 have hX : ∀ o, Ext ρ H ρ (upd H a o) := fun o => Ext.upd ha (fun _ z => nomatch z) fun _ _ z => nomatch z
 have I1 : Inv X pins σ (upd H a (.lst [])) { s with heap := s.heap.update a (Obj.mapSeq fun _ => (#[] : Array Value)) } := d_write (s := s) (t' := s.toks) I (by rw [ha]; exact True.intro) s1 ⟨_, ho1⟩ (show ObjOk X.prog X.w _ _ a (.lst []) from ⟨Nat.zero_le _, [], e1, .nil, ho1⟩)
 have I3 : Inv X pins σ (upd H a (.lst [])) { s with heap := ((s.heap.update a (Obj.mapSeq fun _ => (#[] : Array Value))).push (seqObj "tuple" vs.toArray 0)).push (seqObj "list" #[] 0) } :=
  I1.kept (t' := s.toks) fun b o e => Heap.get?_push_of_some _ (Heap.get?_push_of_some _ e)
 have ho3 : (((s.heap.update a (Obj.mapSeq fun _ => (#[] : Array Value))).push (seqObj "tuple" vs.toArray 0)).push (seqObj "list" #[] 0)).get? a = some (seqObj "list" #[] e1) := Heap.get?_push_of_some _ (Heap.get?_push_of_some _ ho1)
 have fin : ∀ (is : List Nat), (∀ i ∈ is, i < ds.length) → is.length ≤ sizeLine → (is.map fun i => ds.getD i D.non) = sortD ds → P (.done (.ret .none)) { s with heap := (((s.heap.update a (Obj.mapSeq fun _ => (#[] : Array Value))).push (seqObj "tuple" vs.toArray 0)).push (seqObj "list" #[] 0)).update a (Obj.mapSeq fun _ => List.toArray (is.map fun i => vs.getD i Value.none)) } := fun is hi hlen e => by
  have s2 := Heap.SameBut.update (((s.heap.update a (Obj.mapSeq fun _ => (#[] : Array Value))).push (seqObj "tuple" vs.toArray 0)).push (seqObj "list" #[] 0)) a (Obj.mapSeq fun _ => List.toArray (is.map fun i => vs.getD i Value.none))
  obtain ⟨e2, ho4⟩ : ∃ e2, ((((s.heap.update a (Obj.mapSeq fun _ => (#[] : Array Value))).push (seqObj "tuple" vs.toArray 0)).push (seqObj "list" #[] 0)).update a (Obj.mapSeq fun _ => List.toArray (is.map fun i => vs.getD i Value.none))).get? a = some (seqObj "list" (List.toArray (is.map fun i => vs.getD i Value.none)) e2) :=
   ⟨_, get?_update_seq ho3 fun _ => List.toArray (is.map fun i => vs.getD i Value.none)⟩
  have I4 := d_write (s := { s with heap := ((s.heap.update a (Obj.mapSeq fun _ => (#[] : Array Value))).push (seqObj "tuple" vs.toArray 0)).push (seqObj "list" #[] 0) }) (t' := s.toks) (ob := .lst (is.map fun i => xs.getD i .non)) I3 (by rw [upd_same]; exact True.intro) s2 ⟨_, ho4⟩
   (show ObjOk X.prog X.w _ _ a (.lst (is.map fun i => xs.getD i .non)) from ⟨by rw [List.length_map]; exact hlen, _, e2, vals_pick rv is (fun i z => by rw [← h.length]; exact hi i z), ho4⟩)
  rw [upd_upd] at I4
  exact q is _ hi e I4
 rw [list_sort_plain]
 refine wpAny_bind (listItems_at ho rfl ?_)
 refine wpAny_bind (listUpdate_at ho rfl ?_ (by rw [List.size_toArray, sizeLine_eq]; omega) (Nat.zero_le _))
 refine wpAny_bind (seqEpoch_at ho1 rfl ?_)
 refine wpAny_bind (wpAny_newTuple ?_ (by show vs.length ≤ _; rw [sizeLine_eq]; omega))
 refine wpAny_bind (wpAny_newList ?_ (Nat.zero_le _))
 refine wpAny_holding ?_
 show wpAny (model X.prog X.w) A _ P E { s with heap := ((s.heap.update a (Obj.mapSeq fun _ => (#[] : Array Value))).push (seqObj "tuple" vs.toArray 0)).push (seqObj "list" #[] 0) }
 dsimp only
 have hsl : 64 ≤ sizeLine := by decide
 by_cases h2 : vs.length < 2
 ·have hn2 : vs.toArray.size < 2 := by rw [List.size_toArray]; exact h2
  rw [if_pos hn2, if_pos hn2]
  refine wpAny_bind (wpAny_pure ?_)
  refine wpAny_bind (wpAny_pure ?_)
  dsimp only
  have hout : (arrOf (SortSt.mk' general' (vs.toArray.zip vs.toArray) #[] 7 none)).map (·.2) = List.toArray ((List.range ds.length).map fun i => vs.getD i Value.none) := by
   show (vs.toArray.zip vs.toArray).map (·.2) = _
   apply Array.toList_inj.mp
   rw [hl]
   apply List.ext_getElem
   ·simp
   ·intro i h1 h2
    simp at h1
    simp [h1]
  refine wpAny_bind (seqEpoch_at ho3 rfl ?_)
  rw [hout]
  refine wpAny_bind (listUpdate_at ho3 rfl ?_ (Nat.zero_le _) (by simp only [List.size_toArray, List.length_map, List.length_range]; omega))
  simp only [bne_self_eq_false, Bool.false_eq_true, if_false]
  refine wpAny_pure (fin _ (fun i hi => by simpa using hi) (by simp; omega) ?_)
  have hr : (List.range ds.length).map (fun i => ds.getD i D.non) = ds := by
   apply List.ext_getElem
   ·simp
   ·intro i h1 h2
    simp [h2]
  rw [hr]
  match ds, hl with
  | [], _ => rfl
  | [_], _ => rfl
  | _ :: _ :: _, e => exact absurd h2 (by rw [← e]; simp)
 ·have hn2 : ¬ vs.toArray.size < 2 := by rw [List.size_toArray]; exact h2
  rw [if_neg hn2, if_neg hn2]
  have hok : skOk ds = true ∧ cmpB ds = true := by
   have := ok.2
   rw [decide_eq_false (by omega), Bool.false_or, Bool.and_eq_true] at this
   exact this
  obtain ⟨κ, hk1, hk2⟩ := asks_D (s := { s with heap := ((s.heap.update a (Obj.mapSeq fun _ => (#[] : Array Value))).push (seqObj "tuple" vs.toArray 0)).push (seqObj "list" #[] 0) }) I3 (h.up (hX _)) rv (by omega) hok.1 hok.2
  refine wpAny_bind (hk1 _ _ A _ _ ?_)
  have hca := cmpB_all hok.2
  have hw : (kas_sort vs.length).kasWp (kas_ask X.prog X.w A κ vs) (fun p s' => p = KS.ev (ltI ds) (kas_sort ds.length) ∧ s' = { s with heap := ((s.heap.update a (Obj.mapSeq fun _ => (#[] : Array Value))).push (seqObj "tuple" vs.toArray 0)).push (seqObj "list" #[] 0) })
    { s with heap := ((s.heap.update a (Obj.mapSeq fun _ => (#[] : Array Value))).push (seqObj "tuple" vs.toArray 0)).push (seqObj "list" #[] 0) } := by
   rw [← hl]
   refine wp_ev (n := ds.length) (lt := ltI ds) (fun i j hi hj C hC => hk2 _ _ A hu i j hi hj C ?_) _ _ (KS.rg_sort (by omega)) ⟨rfl, rfl⟩
   unfold ltI at hC
   rw [if_pos hi, if_pos hj] at hC
   exact hC
  refine wpAny_bind (wpAny_mono (kat_run (Q := fun st' s' => arrOf st' = (KS.ev (ltI ds) (kas_sort ds.length)).map (kas_item (vs.toArray.zip vs.toArray)) ∧ failedOf st' = none ∧ s' = { s with heap := ((s.heap.update a (Obj.mapSeq fun _ => (#[] : Array Value))).push (seqObj "tuple" vs.toArray 0)).push (seqObj "list" #[] 0) })
   rfl (by omega) h64 (fun p' st' s' a1 a2 a3 a4 => ⟨by rw [← a4.1]; exact a2, a3, a4.2⟩) hw) ?_ fun _ _ e => e)
  rintro ⟨⟨⟩, st'⟩ s' ⟨har, hf, rfl⟩
  dsimp only
  have hout := kat_snds (ks := vs) (vs := vs) rfl har
  obtain ⟨hp, _⟩ := KS.sort_ok (ord_D hca) (n := ds.length) (by omega)
  have hpl : (KS.ev (ltI ds) (kas_sort ds.length)).toList.Perm (List.range ds.length) := hp.toList
  have hpn : (KS.ev (ltI ds) (kas_sort ds.length)).toList.length = ds.length := by have := hpl.length_eq; simpa using this
  rw [hout]
  refine wpAny_bind (seqEpoch_at ho3 rfl ?_)
  refine wpAny_bind (listUpdate_at ho3 rfl ?_ (Nat.zero_le _) (by simp only [List.size_toArray, List.length_map, hpn]; omega))
  rw [hf]
  simp only [bne_self_eq_false, Bool.false_eq_true, if_false]
  exact wpAny_pure (fin _ (fun i hi => by simpa using hpl.mem_iff.mp hi) (by rw [hpn]; omega) (out_D hca (by omega)))
theorem sorted_go {s1 : Shared} {ds : List D} {xs : List V} {vs : List Value} {Q : VK} (I1 : Inv X pins σ H s1) (hu : X.A.units + 70 < cLine) (hd : DsR X.K ρ H ds xs) (rv : Vals xs vs) (hz : xs.length ≤ sizeLine) (ok : sortOk ds = true)
  (q : ∀ a xs', H a = none → DsR X.K ρ H (sortD ds) xs' → Q (.ref a) (upd H a (.lst xs'))) : wpAny (model X.prog X.w) X.A.in1 (do
   let l ← newList vs
   let _ ← holding [l] (call (.builtin "list.sort") [l] [])
   ret l) (fun fin s' => ∃ r, fin = .done (.ret r) ∧ EP X pins σ Q r s') (fun e s' => X.xe e s') s1 := by
 have hl : ds.length = vs.length := hd.length.trans rv.length
 have hf : H s1.heap.objs.size = none := I1.hok.fresh (Nat.le_refl _)
 refine wpAny_bind (wpAny_newList ?_ (by rw [← rv.length]; exact hz))
 have ho : (s1.heap.push (seqObj "list" vs.toArray 0)).get? s1.heap.objs.size = some (seqObj "list" vs.toArray 0) := Heap.get?_push_size _ rfl
 have I2 : Inv X pins σ (upd H s1.heap.objs.size (.lst xs)) { s1 with heap := s1.heap.push (seqObj "list" vs.toArray 0) } := I1.laid (t' := s1.toks) (fun b o e => Heap.get?_push_of_some _ e) (Nat.le_refl _) (show ObjOk X.prog X.w _ _ _ (.lst xs) from ⟨hz, vs, 0, rv, ho⟩)
 refine wpAny_bind (wpAny_holding (wpAny_call_entry slot_list_sort ⟨_, ho, rfl⟩ entry_list_sort ?body (args_list_sort _)))
 case body =>
  refine list_sort_D (s := { s1 with heap := s1.heap.push (seqObj "list" vs.toArray 0) }) I2 (by show X.A.units + 1 + 1 + 64 < cLine; omega) upd_same (hd.up (Ext.new hf)) ok fun is s' hi e I' => ?_
  rw [upd_upd] at I'
  exact ⟨_, rfl, wpAny_pure ⟨_, rfl, .ref s1.heap.objs.size, _, I', rfl, q _ _ hf (by rw [← e]; exact ds_pick hd is hi)⟩⟩
theorem call_sorted (hu : X.A.units + 70 < cLine) : CallR X (.builtin "sorted") (fun ws H Q => ∃ l xs ρ ds, ws = [.ref l] ∧ (SqL X.K H l xs ∨ SqT X.K H l xs) ∧ DsR X.K ρ H ds xs ∧ sortOk ds = true ∧ ∀ a xs', H a = none → DsR X.K ρ H (sortD ds) xs' → Q (.ref a) (upd H a (.lst xs'))) := by
 intro pins s σ H ws us Q I r h
 obtain ⟨l, xs, ρ, ds, rfl, hq, hd, ok, q⟩ := h
 obtain ⟨u, rfl, ru⟩ := vals1 r
 cases ru
 refine Calls.call_function_entry kind_sorted plain_sorted entry_sorted (args_sorted1 _) ?_
 unfold Builtin.«sorted»
 refine wpAny_bind (m := checkCount "sorted" 1 1 _) (wpAny_pure ?_)
 rcases hq with hq | hq
 ·obtain ⟨its, rv, pl, hz⟩ := I.list hq
  obtain ⟨o, ho, hc, n, hdd⟩ := pl.isList
  refine wpAny_bind (wpAny_collect_seq l (.inl rfl) ho hc hdd (fun h' kp => ?_) (by simp only [List.size_toArray]; rw [← rv.length]; exact hz))
  exact sorted_go (I.kept (t' := s.toks) kp) hu hd (by simpa using rv) hz ok q
 ·obtain ⟨its, rv, pl, hz⟩ := I.tuple hq
  obtain ⟨o, ho, hc, n, hdd⟩ := pl
  refine wpAny_bind (wpAny_collect_seq l (.inr rfl) ho hc hdd (fun h' kp => ?_) (by simp only [List.size_toArray]; rw [← rv.length]; exact hz))
  exact sorted_go (I.kept (t' := s.toks) kp) hu hd (by simpa using rv) hz ok q
theorem vals_of {xs : List V} {vs : List Value} (hl : xs.length = vs.length) (h : ∀ (i : Nat) v, vs[i]? = some v → ∃ x, xs[i]? = some x ∧ RelV x v) : Vals xs vs := by
 induction xs generalizing vs with
 | nil =>
  cases vs with
  | nil => exact .nil
  | cons _ _ => cases hl
 | cons x xs ih =>
  cases vs with
  | nil => cases hl
  | cons v vs =>
   obtain ⟨x', e, r⟩ := h 0 v rfl
   simp at e
   subst e
   exact .cons r (ih (by simpa using hl) fun i w hw => by simpa using h (i + 1) w (by simpa using hw))
theorem call_sortedK (hcalm : X.calm = true) (hu : X.A.units + 70 < cLine) : CallR X (.builtin "sorted") (fun ws H Q => ∃ a ρ ds, ws = [.ref a] ∧ sortOk ds = true ∧ (∀ b xs', H b = none → DsR X.K ρ H (sortD ds) xs' → Q (.ref b) (upd H b (.lst xs'))) ∧
  ((∃ (ks : List Key) (vs : List V), (H a = some (.dK (ks.zip vs)) ∨ ∃ o, H a = some (.frz o (.dK (ks.zip vs)))) ∧ ks.length = vs.length ∧ DsR X.K ρ H ds (ks.map kV)) ∨
   ∃ kvs, H a = some (.dT kvs) ∧ ∀ bs, Paired (fun (p : List Key × V) (b : Addr) => H b = some (.tup (p.1.map kV))) kvs bs → DsR X.K ρ H ds (bs.map V.ref))) := by
 intro pins s σ H ws us Q I r h
 obtain ⟨a, ρ, ds, rfl, ok, q, hq⟩ := h
 obtain ⟨u, rfl, ru⟩ := vals1 r
 cases ru
 have hh : X.A.handled = none := I.ok.hd hcalm
 refine Calls.call_function_entry kind_sorted plain_sorted entry_sorted (args_sorted1 _) ?_
 unfold Builtin.«sorted»
 refine wpAny_bind (m := checkCount "sorted" 1 1 _) (wpAny_pure ?_)
 have fin : ∀ (es : Array DictEntry) (ep : Nat) (xs : List V), (a == sysModules) = false → RawAt s.heap a es ep → es.size = xs.length → xs.length ≤ sizeLine → (∀ (i : Nat) (e : DictEntry), es[i]? = some e → ∃ x, xs[i]? = some x ∧ RelV x e.key) → DsR X.K ρ H ds xs →
   wpAny (model X.prog X.w) X.A.in1 (collect (.ref a)) (fun vs s' => wpAny (model X.prog X.w) X.A.in1 (do
    let l ← newList vs
    let _ ← holding [l] (call (.builtin "list.sort") [l] [])
    ret l) (fun fin s' => ∃ r, fin = .done (.ret r) ∧ EP X pins σ Q r s') (fun e s' => X.xe e s') s') (fun e s' => X.xe e s') s := fun es ep xs hS hm hl hz hk hd => by
  refine kdu_collect (raw_src hS) (by simpa using hh) hm (by omega) fun h' tk acc kp hacc => ?_
  have hal : acc.toList.length = es.size := by rw [Array.length_toList]; exact hacc.1
  refine sorted_go (s1 := { s with heap := h', toks := tk }) (I.kept (t' := tk) kp) hu hd (vals_of (by omega) fun i v hv => ?_) hz ok q
  obtain ⟨e, e1, rfl⟩ := hacc.2 i v (by rw [← Array.getElem?_toList]; exact hv)
  exact hk i e e1
 rcases hq with ⟨ks, vs, hH, hkl, hd⟩ | ⟨kvs, hH, hd⟩
 ·have hok : ObjOk X.prog X.w H s.heap a (.dK (ks.zip vs)) := by
   rcases hH with hH | ⟨o, hH⟩
   ·exact I.hok a _ hH
   ·exact (show ObjOk X.prog X.w H s.heap a (.frz o (.dK (ks.zip vs))) from I.hok a _ hH).2
  obtain ⟨hS, hz, es, ep, hm, hes, hk⟩ := dk_raw hok
  have hzl : (ks.zip vs).length = ks.length := by rw [List.length_zip]; omega
  refine wpAny_bind (fin es ep (ks.map kV) hS hm (by rw [List.length_map]; omega) (by rw [List.length_map]; omega) (fun i e he => ?_) hd)
  obtain ⟨k, v, k1, k2⟩ := hk i e he
  have := (List.getElem?_zip_eq_some.mp k1).1
  exact ⟨kV k, by rw [List.getElem?_map, this]; rfl, k2⟩
 ·obtain ⟨hS, hz, es, ep, bs, hm, hes, hbl, hk, hp⟩ := keys_dT I hH
  refine wpAny_bind (fin es ep (bs.map V.ref) hS hm (by rw [List.length_map]; omega) (by rw [List.length_map]; omega) (fun i e he => ?_) (hd bs hp))
  obtain ⟨b, b1, b2⟩ := hk i e he
  exact ⟨.ref b, by rw [List.getElem?_map, b1]; rfl, by rw [b2]; rfl⟩
end
end DL
namespace L2
open PySem PySem.Spec PyProof.Rows
section
variable {X : Cx}
theorem op_isB : OpR X (compareOp .Is) (fun x y H Q => ∃ c, y = .bl c ∧ Q (.bl (decide (x = .bl c))) H) := by
 intro pins s σ H x y v u Q I rx ry h
 obtain ⟨c, rfl, q⟩ := h
 cases ry
 cases x with
 | bl b => cases rx; exact is_bool (fin_bl I q (by cases b <;> cases c <;> decide))
 | non => cases rx; exact wpAny_pure (fin_bl I q (by cases c <;> decide))
 | int i => obtain ⟨t, rfl⟩ := rx; exact wpAny_pure (fin_bl I q (by cases c <;> rfl))
 | str i => obtain ⟨t, rfl⟩ := rx; exact wpAny_pure (fin_bl I q (by cases c <;> rfl))
 | byt i => obtain ⟨t, rfl⟩ := rx; exact wpAny_pure (fin_bl I q (by cases c <;> rfl))
 | flt i => obtain ⟨t, rfl⟩ := rx; exact wpAny_pure (fin_bl I q (by cases c <;> rfl))
 | ref a => cases rx; exact wpAny_pure (fin_bl I q (by cases c <;> rfl))
 | ty n => cases rx; exact wpAny_pure (fin_bl I q (by cases c <;> rfl))
theorem op_catT0 : OpR X (binaryOp .Add) (fun x y H Q => ∃ a b ys, x = .ref a ∧ y = .ref b ∧ SqT X.K H a [] ∧ SqT X.K H b ys ∧ Q (.ref b) H) := by
 intro pins s σ H x y v u Q I rx ry h
 obtain ⟨a, b, ys, rfl, rfl, ha, hb, q⟩ := h
 cases rx
 cases ry
 obtain ⟨its, r1, p1, _⟩ := I.tuple ha
 obtain ⟨its2, r2, p2, _⟩ := I.tuple hb
 have hv : its = [] := r1.nil_iff.mpr rfl
 subst hv
 obtain ⟨⟨cls, dd, data, sl⟩, ho, hc, n, hd⟩ := id p1
 obtain ⟨⟨cls2, dd2, data2, sl2⟩, ho2, hc2, n2, hd2⟩ := id p2
 simp only at hc hd hc2 hd2
 subst hc hd hc2 hd2
 exact concat_meets ⟨_, ho, rfl⟩ ⟨_, ho2, rfl⟩ noFill_tuple_add seq_tuple_add PySem.F.slot_tuple_add PySem.F.entry_tuple_add (PySem.F.args_tuple_add_2 _ _)
  (tuple_addW0 a b _ _ n n2 dd dd2 sl sl2 (by simp)) ⟨ho, ho2, ⟨.ref b, H, I, rfl, q⟩⟩
theorem op_mul_str : OpR X (binaryOp .Mult) (fun x y H Q => ∃ z n, x = .str z ∧ y = .int n ∧ MulOk z n ∧ Q (.str (Txt.mul z n)) H) := by
 intro pins s σ H x y v u Q I rx ry h
 obtain ⟨z, n, rfl, rfl, hok, q⟩ := h
 obtain ⟨t, rfl⟩ := rx
 obtain ⟨t', rfl⟩ := ry
 exact SB.mul hok fun t'' k => ⟨.str (Txt.mul z n), H, I.tok k, ⟨t'', rfl⟩, q⟩
theorem sl_str : SlR X (fun x lo hi H Q => ∃ z, x = .str z ∧ z.length ≤ sizeLine ∧ Q (.str (Txt.slice z lo hi)) H) := by
 intro pins s σ H x v vl vu lo hi sl Q I rx hs pl pu h
 obtain ⟨z, rfl, hz, q⟩ := h
 obtain ⟨t, rfl⟩ := rx
 refine ⟨"str", _, F.slot_str_getitem.lookup, typeIs_str _ _ _, ?_⟩
 have fin : ∀ t' k, EP X pins σ Q (.str (Txt.slice z lo hi) t') { s with toks := k } := fun t' k => ⟨.str (Txt.slice z lo hi), H, I.tok k, ⟨t', rfl⟩, q⟩
 obtain ⟨o, e1, e2, e3⟩ := hs
 cases pl with
 | none =>
  cases pu with
  | none => exact wpAny_getItem_str_slice (l := none) (u := none) (st := none) ⟨o, e1, e2, e3⟩ rfl (post_val_or_str ⟨Nat.le_trans (Txt.slice_le z _ _) hz, fun t' k => fin t' k⟩)
  | int j tj => exact wpAny_getItem_str_slice (l := none) (u := some (j, tj)) (st := none) ⟨o, e1, e2, e3⟩ rfl (post_val_or_str ⟨Nat.le_trans (Txt.slice_le z _ _) hz, fun t' k => fin t' k⟩)
 | int i ti =>
  cases pu with
  | none => exact wpAny_getItem_str_slice (l := some (i, ti)) (u := none) (st := none) ⟨o, e1, e2, e3⟩ rfl (post_val_or_str ⟨Nat.le_trans (Txt.slice_le z _ _) hz, fun t' k => fin t' k⟩)
  | int j tj => exact wpAny_getItem_str_slice (l := some (i, ti)) (u := some (j, tj)) (st := none) ⟨o, e1, e2, e3⟩ rfl (post_val_or_str ⟨Nat.le_trans (Txt.slice_le z _ _) hz, fun t' k => fin t' k⟩)
theorem vals_bls : ∀ {bs : List Bool} {us : List Value}, Vals (bs.map V.bl) us → us = bs.map Value.bool
 | [], _, h => by cases h; rfl
 | b :: bs, _, h => by
  cases h with
  | cons r t =>
   have e := vals_bls t
   rw [List.map_cons, ← e, show _ = Value.bool b from r]
theorem range_all (bs : List Bool) : ((List.range bs.length).all fun i => bs.getD i true) = bs.all id := by
 rw [Bool.eq_iff_iff, List.all_eq_true, List.all_eq_true]
 constructor
 ·intro h b hb
  obtain ⟨i, hi, rfl⟩ := List.mem_iff_getElem.mp hb
  have := h i (List.mem_range.mpr hi)
  simpa [List.getD, hi] using this
 ·intro h i hi
  have hi' := List.mem_range.mp hi
  have := h bs[i] (List.getElem_mem hi')
  simpa [List.getD, hi'] using this
theorem truth_bools (prog : Program) (w : World) (A : Around) (bs : List Bool) : TruthOf prog w A (fun i v => ((bs.map Value.bool).toArray)[i]? = some v) (fun i => bs.getD i true) := by
 intro i v s Q E h q
 have h' : bs[i]?.map Value.bool = some v := by simpa using h
 cases e : bs[i]? with
 | none => rw [e] at h'; cases h'
 | some b =>
  rw [e] at h'
  cases h'
  have : bs.getD i true = b := by simp [List.getD, e]
  have q' : Q (bs.getD i true) s := q
  rw [this] at q'
  exact wpAny_truthy_bool q'
theorem call_all_bls (hc : X.calm = true) : CallR X (.builtin "all") (fun xs H Q => ∃ (a : Addr) (bs : List Bool), xs = [.ref a] ∧ (SqL X.K H a (bs.map V.bl) ∨ SqT X.K H a (bs.map V.bl)) ∧ Q (.bl (bs.all id)) H) := by
 intro pins s σ H xs us Q I r h
 obtain ⟨a, bs, rfl, hq, q⟩ := h
 obtain ⟨u, rfl, ru⟩ := vals1 r
 cases ru
 refine call_all_walk ?_
 rcases hq with hq | hq
 ·obtain ⟨its, rv, p, hz⟩ := I.list hq
  have e := vals_bls rv
  subst e
  refine wpAny_pyIter_list p.isList ?_
  have ne : a ≠ s.heap.objs.size := by
   obtain ⟨o, e, _⟩ := p.isList
   exact Nat.ne_of_lt (Heap.lt_size e)
  refine ⟨_, _, _, _, _, _, fun i => bs.getD i true, rfl, Walks.list (A := X.A.in1) (show X.A.in1.handled = none from I.ok.hd hc) _ a ne (bs.map Value.bool).toArray, ⟨⟨_, Heap.get?_push_size _ rfl, rfl, rfl⟩, p.isList.extBut (fun b o _ e => Heap.get?_push_of_some _ e) ne⟩, truth_bools _ _ _ bs, fun h' tk k => ?_⟩
  have e2 : (List.map Value.bool bs).toArray.size = bs.length := by simp
  rw [e2, range_all]
  exact ⟨.bl (bs.all id), H, I.kept (h' := h') (t' := tk) (fun b o e => k b o (by simp [Nat.ne_of_lt (Heap.lt_size e)]) (Heap.get?_push_of_some _ e)), rfl, q⟩
 ·obtain ⟨its, rv, p, hz⟩ := I.tuple hq
  have e := vals_bls rv
  subst e
  refine wpAny_pyIter_tuple (show s.heap.IsTuple a (bs.map Value.bool).toArray from p) ?_
  have ne : a ≠ s.heap.objs.size := Nat.ne_of_lt p.lt
  refine ⟨_, _, _, _, _, _, fun i => bs.getD i true, rfl, Walks.tuple (A := X.A.in1) (show X.A.in1.handled = none from I.ok.hd hc) _ a ne (bs.map Value.bool).toArray, ⟨⟨_, Heap.get?_push_size _ rfl, rfl, rfl⟩, Heap.IsTuple.extBut (show s.heap.IsTuple a (bs.map Value.bool).toArray from p) (fun b o _ e => Heap.get?_push_of_some _ e) ne⟩, truth_bools _ _ _ bs, fun h' tk k => ?_⟩
  have e2 : (List.map Value.bool bs).toArray.size = bs.length := by simp
  rw [e2, range_all]
  exact ⟨.bl (bs.all id), H, I.kept (h' := h') (t' := tk) (fun b o e => k b o (by simp [Nat.ne_of_lt (Heap.lt_size e)]) (Heap.get?_push_of_some _ e)), rfl, q⟩
theorem strsAre_of : ∀ {ys : List Str} {us : List Value}, Vals (ys.map V.str) us → StrsAre us ys
 | [], _, h => by cases h; exact .nil
 | y :: ys, _, h => by
  cases h with
  | cons r t =>
   obtain ⟨tk, rfl⟩ := r
   exact .cons y tk (strsAre_of t)
theorem mt_join : MtR X "str.join" (fun x xs H Q => ∃ (sep : Str) (a : Addr) (ys : List Str), x = .str sep ∧ xs = [.ref a] ∧ (SqL X.K H a (ys.map V.str) ∨ SqT X.K H a (ys.map V.str)) ∧ (ys.map (·.length)).sum + ys.length * sep.length ≤ 16777216 ∧ Q (.str (Txt.join sep ys)) H) := by
 intro pins s σ H x xs v us Q I rx rs h
 obtain ⟨sep, a, ys, rfl, rfl, hq, hz, q⟩ := h
 obtain ⟨t, rfl⟩ := rx
 obtain ⟨u, rfl, ru⟩ := vals1 rs
 cases ru
 rcases hq with hq | hq
 ·obtain ⟨its, rv, p, _⟩ := I.list hq
  exact join_list p.isList (by simpa using strsAre_of rv) hz fun t' k => ⟨.str (Txt.join sep ys), H, I.tok k, ⟨t', rfl⟩, q⟩
 ·obtain ⟨its, rv, p, _⟩ := I.tuple hq
  exact join_tuple p (by simpa using strsAre_of rv) hz fun t' k => ⟨.str (Txt.join sep ys), H, I.tok k, ⟨t', rfl⟩, q⟩
section
variable {tg : Expr} {pins : List (Addr × Obj)} {σ : St} {H1 : Hp} {s1 : Shared} {R : It → Hp → Prop} {E : Value → Shared → Prop} {a : Addr} {xs : List V}
theorem piv_list (I1 : Inv X pins σ H1 s1) (hq : SqL X.K H1 a xs) (q : R (Itl X.K a) H1) : wpAny (model X.prog X.w) X.A (pyIter (.ref a)) (PIE X pins σ tg R) E s1 := by
 obtain ⟨its, rv, p, hz⟩ := I1.list hq
 refine wpAny_pyIter_list p.isList ?_
 refine ⟨s1.heap.objs.size, [s1.heap.objs.size], _, _, H1, rfl, I1.kept (t' := s1.toks) fun b o e => Heap.get?_push_of_some _ e, turn_list a _, ⟨_, Heap.get?_push_size _ rfl, rfl, rfl⟩, fun b hb => ?_, q⟩
 have e : b = s1.heap.objs.size := by simpa using hb
 subst e
 exact I1.fpOk (Nat.le_refl _) (I1.hok.fresh (Nat.le_refl _))
theorem piv_tup (I1 : Inv X pins σ H1 s1) (hq : SqT X.K H1 a xs) (q : R (Itt X.K a) H1) : wpAny (model X.prog X.w) X.A (pyIter (.ref a)) (PIE X pins σ tg R) E s1 := by
 obtain ⟨its, rv, p, hz⟩ := I1.tuple hq
 refine wpAny_pyIter_tuple (show s1.heap.IsTuple a its.toArray from p) ?_
 refine ⟨s1.heap.objs.size, [s1.heap.objs.size], _, _, H1, rfl, I1.kept (t' := s1.toks) fun b o e => Heap.get?_push_of_some _ e, turn_tuple a _, ⟨_, Heap.get?_push_size _ rfl, rfl, rfl⟩, fun b hb => ?_, q⟩
 have e : b = s1.heap.objs.size := by simpa using hb
 subst e
 exact I1.fpOk (Nat.le_refl _) (I1.hok.fresh (Nat.le_refl _))
def Its (x : Str) : It := ⟨fun i _ => i < x.cps.size, fun i H v H' => H' = H ∧ ∃ c, x.cps[i]? = some c ∧ v = .str ⟨#[c]⟩, fun i _ => i = x.cps.size⟩
theorem walks_str (P : Program) (w : World) {A : Around} (hh : A.handled = none) (it : Addr) (x : Str) (t : Tok) : Walks P w A it [it] [it] x.cps.size (SignAt x) (fun i h => h.IsStrIter it (strIterType x) x t i) := by
 cases ha : x.cps.all (· < 128)
 ·have e : strIterType x = "str_iterator" := by simp [strIterType, ha]
  rw [e]; exact Walks.strWide hh it x t
 ·have e : strIterType x = "str_ascii_iterator" := by simp [strIterType, ha]
  rw [e]; exact Walks.strAscii hh it x t
theorem turn_str {P : Program} {w : World} {K : PySem.W.Frag} (x : Str) (t : Tok) (it : Addr) : Turn P w K tg (Its x) [it] it (fun i h => h.IsStrIter it (strIterType x) x t i) where
 mem := by simp
 obj := fun i h st b hb => by
  have e : b = it := by simpa using hb
  subst e
  obtain ⟨o, e, c, d⟩ := st
  exact ⟨o, e, fun v z => by rw [d] at z; cases z⟩
 keep := fun i h h' st k => let ⟨o, e, r⟩ := st; ⟨o, k it (by simp) o e, r⟩
 item := by
  intro X hP hw hK hc i pins s σ H E I hf st hg
  subst hP hw hK
  obtain ⟨f0, f1, f2, f3, f4, f5⟩ := hf it (by simp)
  refine (walks_str X.prog X.w (I.ok.hd hc) it x t).item i s _ _ hg st fun v h' tk hv st' kk => ?_
  obtain ⟨c, u, hc', rfl⟩ := hv
  have I1 : Inv X pins σ H { s with heap := h', toks := tk } := I.turned (fun b o hb e => kk b o (by simpa using hb) e) f0 f1 f3 f4 f5
  obtain ⟨o, e1, e2, e3⟩ := id st'
  refine ⟨_, rfl, ?_⟩
  have fin : ∃ y H', Inv X pins σ H' { s with heap := h', toks := tk } ∧ RelV y (.str ⟨#[c]⟩ u) ∧ (Its x).yld i H y H' ∧ Heap.IsStrIter h' it (strIterType x) x t (i + 1) ∧ ∀ b ∈ [it], H' b = none := ⟨.str ⟨#[c]⟩, H, I1, ⟨u, rfl⟩, ⟨rfl, c, hc', rfl⟩, st', fun b hb => (hf b hb).1⟩
  unfold letOwnedTupleGo
  cases tg <;> exact wpAny_pure fin
 done := by
  intro X hP hw hK hc i pins s σ H E I hf st hg
  subst hP hw hK
  obtain ⟨f0, f1, f2, f3, f4, f5⟩ := hf it (by simp)
  have hi : i = x.cps.size := hg
  subst hi
  exact (walks_str X.prog X.w (I.ok.hd hc) it x t).done s _ _ st fun h' tk kk => ⟨rfl, I.turned (fun b o hb e => kk b o (by simpa using hb) e) f0 f1 f3 f4 f5⟩
 self := fun A i s Q E st h => by
  cases ha : x.cps.all (· < 128)
  ·have e : strIterType x = "str_iterator" := by simp [strIterType, ha]
   rw [e] at st; exact wpAny_pyIter_striter_wide st h
  ·have e : strIterType x = "str_ascii_iterator" := by simp [strIterType, ha]
   rw [e] at st; exact wpAny_pyIter_striter_ascii st h
theorem piv_str {x : Str} {t : Tok} (I1 : Inv X pins σ H1 s1) (q : R (Its x) H1) : wpAny (model X.prog X.w) X.A (pyIter (.str x t)) (PIE X pins σ tg R) E s1 := by
 refine wpAny_pyIter_strU ?_
 refine ⟨s1.heap.objs.size, [s1.heap.objs.size], _, _, H1, rfl, I1.kept (t' := s1.toks) fun b o e => Heap.get?_push_of_some _ e, turn_str x t _, ⟨_, Heap.get?_push_size _ rfl, rfl, rfl⟩, fun b hb => ?_, q⟩
 have e : b = s1.heap.objs.size := by simpa using hb
 subst e
 exact I1.fpOk (Nat.le_refl _) (I1.hok.fresh (Nat.le_refl _))
end
def iAny (X : Cx) (tl : TE) : TI := fun σ H R => tl σ H fun x H1 => (∃ a xs, x = .ref a ∧ SqL X.K H1 a xs ∧ R (Itl X.K a) H1) ∨ (∃ a xs, x = .ref a ∧ SqT X.K H1 a xs ∧ R (Itt X.K a) H1) ∨ (∃ z, x = .str z ∧ R (Its z) H1) ∨
 (∃ a kvs, x = .ref a ∧ H1 a = some (.dK kvs) ∧ ∀ o, (∀ o u, X.H₀ a ≠ some (.frz o u)) → R (Itk a o) (upd H1 a (.frz o (.dK kvs)))) ∨ (∃ a o kvs, x = .ref a ∧ H1 a = some (.frz o (.dK kvs)) ∧ R (Itk a o) H1) ∨
 ∃ a, x = .ref a ∧ H1 a = some (.dT []) ∧ ∀ o, (∀ o u, X.H₀ a ≠ some (.frz o u)) → R (Itk a o) (upd H1 a (.frz o (.dK [])))
theorem pi_any {tg l : Expr} {tl : TE} (hl : PE X l tl) : PI X tg l (iAny X tl) := by
 intro pins s σ H R I h
 refine thn (hl pins s σ H _ I h) fun v s1 ⟨x, H1, I1, r1, q1⟩ => ?_
 rcases q1 with ⟨a, xs, rfl, hq, q⟩ | ⟨a, xs, rfl, hq, q⟩ | ⟨z, rfl, q⟩ | ⟨a, kvs, rfl, hq, q⟩ | ⟨a, o, kvs, rfl, hq, q⟩ | ⟨a, rfl, hq, q⟩
 ·cases r1; exact piv_list I1 hq q
 ·cases r1; exact piv_tup I1 hq q
 ·obtain ⟨t, rfl⟩ := r1; exact piv_str I1 q
 ·cases r1; exact piv_dict I1 hq q
 ·cases r1; exact piv_frz I1 hq q
 ·cases r1
  refine piv_dict (I1.asK hq) upd_same fun o hn => ?_
  rw [upd_upd]
  exact q o hn
end
end L2
namespace DL
open PySem PySem.Spec PyProof.Rows L2
section
variable {X : Cx} {e a b c : Expr} {es : List Expr} {pos : Pos}
def gAdd : D → D → Sto → Option (D × Sto)
 | .int i, .int j, S => some (.int (i + j), S)
 | .str x, .str y, S => if x.length + y.length ≤ sizeLine then some (.str (x ++ y), S) else none
 | .tup xs, .tup ys, S => if xs.length + ys.length ≤ sizeLine then some (.tup (xs ++ ys), S) else none
 | .ref n, .ref m, S => match S[n]?, S[m]? with
  | some (.lst xs), some (.lst ys) => if xs.length + ys.length ≤ sizeLine then some (.ref S.length, S ++ [.lst (xs ++ ys)]) else none
  | _, _ => none
 | _, _, _ => none
theorem opd_add : OpD X (binaryOp .Add) gAdd := by
 refine opr_imp (op_add.or (op_add_str.or (op_catT0.or (op_catT.or op_cat)))) ?_
 rintro x y H Q ⟨ρ, S, d1, d2, v, S', R, h1, h2, e, k⟩
 cases d1 with
 | int i =>
  cases d2 with
  | int j =>
   cases e
   exact .inl ⟨i, j, h1.of_int, h2.of_int, k _ ρ H Ext.refl R .flat_int⟩
  | _ => cases e
 | str i =>
  cases d2 with
  | str j =>
   dsimp only [gAdd] at e
   split at e
   ·cases e
    exact .inr (.inl ⟨i, j, h1.of_str, h2.of_str, by assumption, k _ ρ H Ext.refl R .flat_str⟩)
   ·cases e
  | _ => cases e
 | tup xs =>
  cases d2 with
  | tup ys =>
   dsimp only [gAdd] at e
   split at e
   ·rename_i hz
    cases e
    obtain ⟨a, us, rfl, a1, a2⟩ := h1.of_tup
    obtain ⟨b, ws, rfl, b1, b2⟩ := h2.of_tup
    cases xs with
    | nil =>
     have : us = [] := by unfold DsR at a2; exact a2
     subst this
     exact .inr (.inr (.inl ⟨a, b, ws, rfl, rfl, .of a1, .of b1, k _ ρ H Ext.refl R (.tup b1 b2)⟩))
    | cons x0 xs =>
     refine .inr (.inr (.inr (.inl ⟨a, b, us, ws, rfl, rfl, .of a1, .of b1, ?_, by rw [← a2.length, ← b2.length]; exact hz, fun hw => ?_, fun hw p hp => ?_⟩)))
     ·intro z
      rw [z] at a2
      have := a2.length
      simp at this
     ·subst hw
      have : ys = [] := by
       have := b2.length
       simpa using this
      subst this
      rw [List.append_nil] at k
      exact k _ ρ H Ext.refl R (.tup a1 a2)
     ·exact k _ ρ _ (Ext.new hp) (R.new hp) (.tup upd_same ((a2.append b2).up (Ext.new hp)))
   ·cases e
  | _ => cases e
 | ref n =>
  cases d2 with
  | ref m =>
   obtain ⟨a, a1, rfl⟩ := h1.of_ref
   obtain ⟨b, b1, rfl⟩ := h2.of_ref
   obtain ⟨oa, ea, ra⟩ := R.obj a1
   obtain ⟨ob, eb, rb⟩ := R.obj b1
   dsimp only [gAdd] at e
   rw [ea, eb] at e
   cases oa with
   | lst xs =>
    cases ob with
    | lst ys =>
     dsimp only at e
     split at e
     ·rename_i hz
      cases e
      obtain ⟨us, u1, u2⟩ := ra
      obtain ⟨ws, w1, w2⟩ := rb
      refine .inr (.inr (.inr (.inr ⟨a, b, us, ws, rfl, rfl, u1, w1, by rw [← u2.length, ← w2.length]; exact hz, fun p hp => ?_⟩)))
      refine k _ (ρ ++ [p]) _ (Ext.newRef hp) (R.push hp ⟨_, upd_same, (u2.append w2).up (Ext.newRef hp)⟩) (.ref ?_)
      rw [← R.len]; simp
     ·cases e
    | dct _ => cases e
    | fdct _ => cases e
    | ins _ _ => cases e
   | dct _ => cases e
   | fdct _ => cases e
   | ins _ _ => cases e
  | _ => cases e
 | _ => cases e
def gInt (C : Int → Int → Bool) (f : Int → Int → D) : D → D → Sto → Option (D × Sto)
 | .int i, .int j, S => if C i j then some (f i j, S) else none
 | _, _, _ => none
theorem opd_int {f : Value → Value → Sem Value} {C : Int → Int → Prop} {Cb : Int → Int → Bool} {g : Int → Int → V} {gd : Int → Int → D} (h : OpR X f (rI C g)) (hC : ∀ i j, Cb i j = true → C i j) (hg : ∀ ρ H i j, DR X.K ρ H (gd i j) (g i j)) : OpD X f (gInt Cb gd) := by
 refine opr_imp h ?_
 rintro x y H Q ⟨ρ, S, d1, d2, v, S', R, h1, h2, e, k⟩
 cases d1 with
 | int i =>
  cases d2 with
  | int j =>
   dsimp only [gInt] at e
   split at e
   ·cases e
    exact ⟨i, j, h1.of_int, h2.of_int, hC i j (by assumption), k _ ρ H Ext.refl R (hg ρ H i j)⟩
   ·cases e
  | _ => cases e
 | _ => cases e
theorem opd_int0 {f : Value → Value → Sem Value} {g : Int → Int → V} {gd : Int → Int → D} (h : OpR X f (rI0 g)) (hg : ∀ ρ H i j, DR X.K ρ H (gd i j) (g i j)) : OpD X f (gInt (fun _ _ => true) gd) := by
 refine opr_imp h ?_
 rintro x y H Q ⟨ρ, S, d1, d2, v, S', R, h1, h2, e, k⟩
 cases d1 with
 | int i =>
  cases d2 with
  | int j =>
   cases e
   exact ⟨i, j, h1.of_int, h2.of_int, k _ ρ H Ext.refl R (hg ρ H i j)⟩
  | _ => cases e
 | _ => cases e
def gSub : D → D → Sto → Option (D × Sto) := gInt (fun _ _ => true) fun i j => .int (i - j)
def gMod : D → D → Sto → Option (D × Sto) := gInt (fun _ j => decide (0 < j)) fun i j => .int (i % j)
theorem opd_mod : OpD X (binaryOp .Mod) gMod := opd_int op_mod (fun _ _ h => of_decide_eq_true h) fun _ _ _ _ => .flat_int
def mulOk (z : Str) (n : Int) : Bool := decide (0 ≤ n ∧ n ≤ 1000 ∧ z.length ≤ 1000)
def gMul : D → D → Sto → Option (D × Sto)
 | .int i, .int j, S => if (-(2 ^ 64) < i ∧ i < 2 ^ 64) ∨ (-(2 ^ 64) < j ∧ j < 2 ^ 64) then some (.int (i * j), S) else none
 | .str z, .int n, S => if mulOk z n then some (.str (Txt.mul z n), S) else none
 | _, _, _ => none
theorem mulOk_ok {z : Str} {n : Int} (h : mulOk z n = true) : MulOk z n := by
 obtain ⟨h1, h2, h3⟩ := of_decide_eq_true h
 refine ⟨?_, fun a b => ?_, fun a b => ?_⟩
 ·have e1 : decide (n < -(2 ^ 63 : Int)) = false := decide_eq_false (by omega)
  have e2 : decide (n ≥ 2 ^ 63) = false := decide_eq_false (by omega)
  rw [e1, e2]; rfl
 ·intro q
  have hb : (1000 : Int) ≤ (2 ^ 63 - 1) / n := by
   rw [Int.le_ediv_iff_mul_le (by omega)]
   omega
  omega
 ·have hm : z.length * n.toNat ≤ 1000 * 1000 := Nat.mul_le_mul h3 (by omega)
  unfold Builtin.Str.tooLong
  have hs : sizeLine = 16777216 := sizeLine_eq
  first
   | (rw [decide_eq_false]; omega)
   | (simp; omega)
theorem opd_mul : OpD X (binaryOp .Mult) gMul := by
 refine opr_imp (op_mul.or op_mul_str) ?_
 rintro x y H Q ⟨ρ, S, d1, d2, v, S', R, h1, h2, e, k⟩
 cases d1 with
 | int i =>
  cases d2 with
  | int j =>
   dsimp only [gMul] at e
   split at e
   ·cases e
    exact .inl ⟨i, j, h1.of_int, h2.of_int, by assumption, k _ ρ H Ext.refl R .flat_int⟩
   ·cases e
  | _ => cases e
 | str z =>
  cases d2 with
  | int j =>
   dsimp only [gMul] at e
   split at e
   ·cases e
    exact .inr ⟨z, j, h1.of_str, h2.of_int, mulOk_ok (by assumption), k _ ρ H Ext.refl R .flat_str⟩
   ·cases e
  | _ => cases e
 | _ => cases e
def gGt : D → D → Sto → Option (D × Sto) := gInt (fun _ _ => true) fun i j => .bl (decide (j < i))
theorem opd_gt : OpD X (compareOp .Gt) gGt := opd_int0 op_gt fun _ _ _ _ => .flat_bl
def gGe : D → D → Sto → Option (D × Sto) := gInt (fun _ _ => true) fun i j => .bl (decide (j ≤ i))
def gLe : D → D → Sto → Option (D × Sto)
 | .int i, .int j, S => some (.bl (decide (i ≤ j)), S)
 | .str i, .str j, S => some (.bl (!decide (j.cps.toList < i.cps.toList)), S)
 | _, _, _ => none
def isD : D → D → Option Bool
 | .bl b, .bl c => some (b == c)
 | _, .bl _ => some false
 | .non, .non => some true
 | _, .non => some false
 | _, _ => none
def gIs : D → D → Sto → Option (D × Sto) := fun a b S => (isD a b).map fun r => (.bl r, S)
def gIsNot : D → D → Sto → Option (D × Sto) := fun a b S => (isD a b).map fun r => (.bl (!r), S)
theorem isD_bl {K : PySem.W.Frag} {ρ : List Addr} {H : Hp} {d : D} {x : V} {c r : Bool} (h : DR K ρ H d x) (e : isD d (.bl c) = some r) : decide (x = .bl c) = r := by
 cases d with
 | bl b => rw [h.of_bl]; cases e; cases b <;> cases c <;> rfl
 | non => rw [h.of_non]; cases e; rfl
 | int i => rw [h.of_int]; cases e; rfl
 | str i => rw [h.of_str]; cases e; rfl
 | tup xs => obtain ⟨a, us, rfl, _⟩ := h.of_tup; cases e; rfl
 | ref n => obtain ⟨a, _, rfl⟩ := h.of_ref; cases e; rfl
 | scr ns => obtain ⟨a, rfl, _⟩ := h.of_scr; cases e; rfl
theorem isD_non {K : PySem.W.Frag} {ρ : List Addr} {H : Hp} {d : D} {x : V} {r : Bool} (h : DR K ρ H d x) (e : isD d .non = some r) : decide (x = .non) = r := by
 cases d with
 | bl b => rw [h.of_bl]; cases e; rfl
 | non => rw [h.of_non]; cases e; rfl
 | int i => rw [h.of_int]; cases e; rfl
 | str i => rw [h.of_str]; cases e; rfl
 | tup xs => obtain ⟨a, us, rfl, _⟩ := h.of_tup; cases e; rfl
 | ref n => obtain ⟨a, _, rfl⟩ := h.of_ref; cases e; rfl
 | scr ns => obtain ⟨a, rfl, _⟩ := h.of_scr; cases e; rfl
theorem isD_right {d1 d2 : D} {r : Bool} (e : isD d1 d2 = some r) : (∃ c, d2 = .bl c) ∨ d2 = .non := by
 cases d2 with
 | bl c => exact .inl ⟨c, rfl⟩
 | non => exact .inr rfl
 | _ => cases d1 <;> cases e
theorem opd_is : OpD X (compareOp .Is) gIs := by
 refine opr_imp (op_isB.or op_isN) ?_
 rintro x y H Q ⟨ρ, S, d1, d2, v, S', R, h1, h2, e, k⟩
 obtain ⟨r, e1, e2⟩ := Option.map_eq_some_iff.mp e
 cases e2
 rcases isD_right e1 with ⟨c, rfl⟩ | rfl
 ·exact .inl ⟨c, h2.of_bl, by rw [isD_bl h1 e1]; exact k _ ρ H Ext.refl R .flat_bl⟩
 ·exact .inr ⟨h2.of_non, by rw [isD_non h1 e1]; exact k _ ρ H Ext.refl R .flat_bl⟩
def gIx : D → D → Sto → Option (D × Sto)
 | .tup xs, .int i, S => (atI xs i).map fun d => (d, S)
 | .str z, .int i, S => if z.length ≤ sizeLine then (atI z.cps.toList i).map fun c => (.str ⟨#[c]⟩, S) else none
 | .scr ns, .int i, S => (atI ns i).map fun n => (.int n, S)
 | .ref n, k, S => match S[n]? with
  | some (.lst xs) => (match k with | .int i => (atI xs i).map fun d => (d, S) | _ => none)
  | _ => (dctAt S n k).bind fun kvs => (dget kvs k).map fun d => (d, S)
 | _, _, _ => none
theorem atI_rel {K : PySem.W.Frag} {ρ : List Addr} {H : Hp} {ds : List D} {xs : List V} {i : Int} {d : D} (h : DsR K ρ H ds xs) (e : atI ds i = some d) : ∃ x, atI xs i = some x ∧ DR K ρ H d x := by
 unfold atI at e ⊢
 rw [h.length] at e
 obtain ⟨j, e1, e2⟩ := Option.bind_eq_some_iff.mp e
 obtain ⟨x, h1, h2⟩ := h.get e2
 exact ⟨x, by rw [e1]; exact h1, h2⟩
theorem atI_map {α β : Type} {f : α → β} {xs : List α} {i : Int} {a : α} (h : atI xs i = some a) : atI (xs.map f) i = some (f a) := by
 unfold atI at h ⊢
 rw [List.length_map]
 obtain ⟨j, e1, e2⟩ := Option.bind_eq_some_iff.mp h
 rw [e1]
 show (xs.map f)[j]? = _
 rw [List.getElem?_map, e2]; rfl
def rIxD : R2 := fun x y H Q => ∃ a v, x = .ref a ∧ DGetE H a y (some v) ∧ Q v H
theorem ix_dict (hu : X.A.units + 64 < cLine) : IxR X rIxD := by
 intro value slice pins s σ H x y v u Q I rx ry h hs
 obtain ⟨a, z, rfl, g, q⟩ := h
 cases rx
 have g' := g.ofSome
 exact tail_any (dict_typeIs I g') PySem.F.slot_dict_getitem.lookup (d_getItem (by omega) I g' ry fun w' s3 I3 rw' => ⟨z, H, I3, rw', q⟩) hs
theorem ix_read {K : PySem.W.Frag} {x y : V} {H : Hp} {Q : VK} (h : rD K gIx x y H Q) : rIx K x y H Q ∨ rIxD x y H Q := by
 obtain ⟨ρ, S, d1, d2, v, S', R, h1, h2, e, k⟩ := h
 have seq : ∀ {a : Addr} {xs : List V} {ds : List D} {i : Int}, x = .ref a → d2 = .int i → (SqL K H a xs ∨ SqT K H a xs) → DsR K ρ H ds xs → (atI ds i).map (fun d => (d, S)) = some (v, S') → rIx K x y H Q := by
  intro a xs ds i ex ei hs hd em
  subst ex ei
  obtain ⟨d, e1, e2⟩ := Option.map_eq_some_iff.mp em
  cases e2
  obtain ⟨z, z1, z2⟩ := atI_rel hd e1
  rcases hs with hs | hs
  ·exact .inl ⟨a, xs, i, z, rfl, h2.of_int, hs, z1, k _ ρ H Ext.refl R z2⟩
  ·exact .inr (.inl ⟨a, xs, i, z, rfl, h2.of_int, hs, z1, k _ ρ H Ext.refl R z2⟩)
 cases d1 with
 | tup ds =>
  cases d2 with
  | int i =>
   obtain ⟨a, xs, rfl, a1, a2⟩ := h1.of_tup
   exact .inl (seq rfl rfl (.inr (.of a1)) a2 e)
  | _ => cases e
 | str z =>
  cases d2 with
  | int i =>
   dsimp only [gIx] at e
   split at e
   ·rename_i hz
    obtain ⟨c, e1, e2⟩ := Option.map_eq_some_iff.mp e
    cases e2
    exact .inl (.inr (.inr ⟨z, i, c, h1.of_str, h2.of_int, hz, e1, k _ ρ H Ext.refl R .flat_str⟩))
   ·cases e
  | _ => cases e
 | scr ns =>
  cases d2 with
  | int i =>
   obtain ⟨d, e1, e2⟩ := Option.map_eq_some_iff.mp e
   cases e2
   obtain ⟨a, rfl, a1⟩ := h1.of_scr
   exact .inl (.inl ⟨a, _, i, _, rfl, h2.of_int, a1.seq, atI_map e1, k _ ρ H Ext.refl R .flat_int⟩)
  | _ => cases e
 | ref n =>
  obtain ⟨a, a1, rfl⟩ := h1.of_ref
  dsimp only [gIx] at e
  split at e
  ·rename_i xs hn
   obtain ⟨ob, eo, ro⟩ := R.obj a1
   rw [hn] at eo
   cases eo
   obtain ⟨ys, y1, y2⟩ := ro
   cases d2 with
   | int i => exact .inl (seq rfl rfl (.inl (.of y1)) y2 e)
   | _ => cases e
  ·obtain ⟨kvs, e3, e⟩ := Option.bind_eq_some_iff.mp e
   obtain ⟨d, e1, e2⟩ := Option.map_eq_some_iff.mp e
   cases e2
   obtain ⟨g1, _⟩ := dget_ok R a1 e3 h2
   obtain ⟨z, z1, z2⟩ := g1 _ e1
   exact .inr ⟨a, z, rfl, z1, k _ ρ H Ext.refl R z2⟩
 | _ => cases d2 <;> cases e
theorem se_ix {ma mb : M D} (hu : X.A.units + 64 < cLine) (ha : SE X a ma) (hb : SE X b mb) (hs : PlainIx b := by intro _ _; rfl) : SE X (.Subscript a b pos) (mOp gIx ma mb) := by
 refine pe_imp (pe_ix (ix_seq.or (ix_dict hu)) ha hb hs) ?_
 intro σ H Q h
 obtain ⟨ρ, en, S, v, S', E, R, e, k⟩ := op_read h
 exact ⟨ρ, en, S, v, S', E, R, e, fun x ρ1 H1 X1 R1 d1 => by
  obtain ⟨ρ2, en2, S2, v2, S2', E2, R2, e2, k2⟩ := k x ρ1 H1 X1 R1 d1
  exact ⟨ρ2, en2, S2, v2, S2', E2, R2, e2, fun y ρ3 H3 X3 R3 d3 => ix_read (k2 y ρ3 H3 X3 R3 d3)⟩⟩
def cutD {α : Type} (xs : List α) (lo hi : Option Int) : List α := (xs.drop (HT.sIx xs.length 0 lo)).take (HT.sIx xs.length xs.length hi - HT.sIx xs.length 0 lo)
def slD : D → Option Int → Option Int → Sto → Option (D × Sto)
 | .str z, lo, hi, S => if z.length ≤ sizeLine then some (.str (Txt.slice z lo hi), S) else none
 | .tup ds, lo, hi, S => some (.tup (cutD ds lo hi), S)
 | .ref n, lo, hi, S => match S[n]? with | some (.lst ds) => some (.ref S.length, S ++ [.lst (cutD ds lo hi)]) | _ => none
 | _, _, _, _ => none
def mPart (m : M D) : M (Option Int) := fun en S => (m en S).bind fun p => match p.1 with | .int i => some (some i, p.2) | _ => none
def mNoPart : M (Option Int) := fun _ S => some (none, S)
def tMO (K : PySem.W.Frag) (m : M (Option Int)) : TO := fun σ H Q => ∃ ρ en S o S', EnR K ρ H en σ ∧ StR K ρ H S ∧ m en S = some (o, S') ∧ ∀ ρ' H', Ext ρ H ρ' H' → StR K ρ' H' S' → Q o H'
def SO (X : Cx) (e : Option Expr) (m : M (Option Int)) : Prop := PO X e (tMO X.K m)
theorem so_none : SO X none mNoPart := by
 intro pins s σ H Q I q
 obtain ⟨ρ, en, S, o, S', E, R, e, k⟩ := q
 cases e
 exact po_none pins s σ H Q I (k ρ H Ext.refl R)
theorem so_some {m : M D} (h : SE X e m) : SO X (some e) (mPart m) := by
 intro pins s σ H Q I q
 refine po_some h pins s σ H Q I ?_
 obtain ⟨ρ, en, S, o, S', E, R, e, k⟩ := q
 unfold mPart at e
 obtain ⟨p, e1, e⟩ := Option.bind_eq_some_iff.mp e
 obtain ⟨d, S1⟩ := p
 cases d with
 | int i =>
  cases e
  exact ⟨ρ, en, S, .int i, _, E, R, e1, fun x ρ1 H1 X1 R1 d1 => ⟨i, d1.of_int, k ρ1 H1 X1 R1⟩⟩
 | _ => cases e
def mSl (m : M D) (lo hi : M (Option Int)) : M D := fun en S => (m en S).bind fun p => (lo en p.2).bind fun l => (hi en l.2).bind fun u => slD p.1 l.1 u.1 u.2
theorem se_slice {lo hi : Option Expr} {p2 : Pos} {m : M D} {ml mh : M (Option Int)} (he : SE X e m) (hl : SO X lo ml) (hh : SO X hi mh) : SE X (.Subscript e (.Slice lo hi none p2) pos) (mSl m ml mh) := by
 refine pe_imp (pe_slice (sl_str.or ((sl_tup.or sl_tupA).or sl_list)) he hl hh) ?_
 rintro σ H Q ⟨ρ, en, S, v, S', E, R, e, k⟩
 unfold mSl at e
 obtain ⟨p, e1, e⟩ := Option.bind_eq_some_iff.mp e
 obtain ⟨l, e2, e⟩ := Option.bind_eq_some_iff.mp e
 obtain ⟨u, e3, e⟩ := Option.bind_eq_some_iff.mp e
 refine ⟨ρ, en, S, p.1, p.2, E, R, e1, fun x ρ1 H1 X1 R1 d1 => ⟨ρ1, en, p.2, l.1, l.2, E.up X1, R1, e2, fun ρ2 H2 X2 R2 => ⟨ρ2, en, l.2, u.1, u.2, (E.up X1).up X2, R2, e3, fun ρ3 H3 X3 R3 => ?_⟩⟩⟩
 have d3 := (d1.up X2).up X3
 have XX := (X1.trans X2).trans X3
 obtain ⟨d, S1⟩ := p
 dsimp only at d3 e
 cases d with
 | str z =>
  dsimp only [slD] at e
  split at e
  ·cases e
   exact .inl ⟨z, d3.of_str, by assumption, k _ ρ3 H3 XX R3 .flat_str⟩
  ·cases e
 | tup ds =>
  dsimp only [slD] at e
  cases e
  obtain ⟨a, xs, rfl, a1, a2⟩ := d3.of_tup
  have cut : DsR X.K ρ3 H3 (cutD ds l.1 u.1) (cutV xs l.1 u.1) := by
   unfold cutD cutV
   rw [a2.length]
   exact (a2.drop _).take _
  by_cases hw : HT.sIx xs.length 0 l.1 = 0 ∧ HT.sIx xs.length xs.length u.1 = xs.length
  ·refine .inr (.inl (.inr ⟨a, xs, rfl, .of a1, hw, ?_⟩))
   have e4 : cutD ds l.1 u.1 = ds := by
    unfold cutD
    rw [a2.length, hw.1, hw.2, ← a2.length]
    simp
   rw [e4] at k
   exact k _ ρ3 H3 XX R3 (.tup a1 a2)
  ·exact .inr (.inl (.inl ⟨a, xs, rfl, .of a1, hw, fun q hq => k _ ρ3 _ (XX.trans (Ext.new hq)) (R3.new hq) (.tup upd_same (cut.up (Ext.new hq)))⟩))
 | ref n =>
  obtain ⟨a, a1, rfl⟩ := d3.of_ref
  obtain ⟨ob, eo, ro⟩ := R3.obj a1
  dsimp only [slD] at e
  rw [eo] at e
  cases ob with
  | lst ds =>
   cases e
   obtain ⟨xs, x1, x2⟩ := ro
   have cut : DsR X.K ρ3 H3 (cutD ds l.1 u.1) (cutV xs l.1 u.1) := by
    unfold cutD cutV
    rw [x2.length]
    exact (x2.drop _).take _
   refine .inr (.inr ⟨a, xs, rfl, .of x1, fun q hq => ?_⟩)
   refine k _ (ρ3 ++ [q]) _ (XX.trans (Ext.newRef hq)) (R3.push hq ⟨_, upd_same, cut.up (Ext.newRef hq)⟩) (.ref ?_)
   rw [← R3.len]; simp
  | dct _ => cases e
  | fdct _ => cases e
  | ins _ _ => cases e
 | _ => cases e
def boolsD : List D → Option (List Bool)
 | [] => some []
 | .bl b :: r => (boolsD r).map fun bs => b :: bs
 | _ => none
theorem boolsD_ok {K : PySem.W.Frag} {ρ : List Addr} {H : Hp} : ∀ {ds : List D} {xs : List V} {bs : List Bool}, DsR K ρ H ds xs → boolsD ds = some bs → xs = bs.map V.bl
 | [], xs, bs, h, e => by
  cases e
  unfold DsR at h; rw [h]; rfl
 | d :: ds, xs, bs, h, e => by
  unfold DsR at h
  obtain ⟨x, r, rfl, h1, h2⟩ := h
  cases d with
  | bl b =>
   obtain ⟨cs, e1, e2⟩ := Option.map_eq_some_iff.mp e
   cases e2
   rw [List.map_cons, h1.of_bl, boolsD_ok h2 e1]
  | _ => cases e
def strsD : List D → Option (List Str)
 | [] => some []
 | .str b :: r => (strsD r).map fun bs => b :: bs
 | _ => none
theorem strsD_ok {K : PySem.W.Frag} {ρ : List Addr} {H : Hp} : ∀ {ds : List D} {xs : List V} {bs : List Str}, DsR K ρ H ds xs → strsD ds = some bs → xs = bs.map V.str
 | [], xs, bs, h, e => by
  cases e
  unfold DsR at h; rw [h]; rfl
 | d :: ds, xs, bs, h, e => by
  unfold DsR at h
  obtain ⟨x, r, rfl, h1, h2⟩ := h
  cases d with
  | str b =>
   obtain ⟨cs, e1, e2⟩ := Option.map_eq_some_iff.mp e
   cases e2
   rw [List.map_cons, h1.of_str, strsD_ok h2 e1]
  | _ => cases e
def mAll (m : M (List D)) : M D := fun en S => (m en S).bind fun p => (boolsD p.1).map fun bs => (.bl (bs.all id), p.2)
def mAny (m : M (List D)) : M D := fun en S => (m en S).bind fun p => (boolsD p.1).map fun bs => (.bl (bs.any id), p.2)
theorem se_all {p : Pos} {m : M (List D)} (hc : X.calm = true) (h : SQ X e m) (hg : Gl X "all") (hm : X.mg "all" = none) (hv : bootBuiltins "all" = some (.builtin "all"))
  (he : starEach [e] X.env = (false, eval e X.env) :: starEach [] X.env := by rfl) : SE X (.Call (.Name "all" p) [e] [] pos) (mAll m) := by
 refine pe_imp (pe_callB (call_all_bls hc) hg hm hv (pa_cons h pa_nil he) (by decide) (by decide) he (by rfl)) ?_
 rintro σ H Q ⟨ρ, en, S, v, S', E, R, e, k⟩
 unfold mAll at e
 obtain ⟨r, e1, e⟩ := Option.bind_eq_some_iff.mp e
 obtain ⟨bs, e2, e3⟩ := Option.map_eq_some_iff.mp e
 cases e3
 refine ⟨ρ, en, S, r.1, r.2, E, R, e1, fun a xs ρ1 H1 X1 R1 sq d1 => ⟨a, bs, rfl, ?_, k _ ρ1 H1 X1 R1 .flat_bl⟩⟩
 rw [← boolsD_ok d1 e2]; exact sq
def lenD : D → Sto → Option Nat
 | .str x, _ => if x.length ≤ sizeLine then some x.length else none
 | .tup ds, _ => some ds.length
 | .ref n, S => match S[n]? with | some (.lst ds) => some ds.length | some (.dct kvs) => some kvs.length | some (.fdct kvs) => some kvs.length | _ => none
 | .scr ns, _ => some ns.length
 | _, _ => none
def mLen (m : M D) : M D := fun en S => (m en S).bind fun p => (lenD p.1 p.2).map fun n => (.int n, p.2)
theorem call_len_dict' : CallR X (.builtin "len") (fun xs H Q => ∃ a, xs = [V.ref a] ∧ ((∃ kvs, Rd H a (.dK kvs) ∧ Q (.int kvs.length) H) ∨ ∃ kvs, Rd H a (.dT kvs) ∧ Q (.int kvs.length) H)) := by
 intro pins s σ H xs us Q I rx h
 obtain ⟨a, rfl, h⟩ := h
 obtain ⟨u, rfl, ru⟩ := Vals.one rx
 cases ru
 rcases h with ⟨kvs, h1, q⟩ | ⟨kvs, h1, q⟩
 ·exact d_len I h1 fun t s' I' => ⟨.int kvs.length, H, I', ⟨t, rfl⟩, q⟩
 ·obtain ⟨hz, hS, xs, r, m⟩ := dt_rd I.hok h1
  have hlen : kvs.length = xs.length := Paired.length r
  have hs : sizeLine = 16777216 := sizeLine_eq
  refine call_len_heap hS m (by omega) ?_
  rw [← hlen]
  exact ⟨.int kvs.length, H, I.tok _, ⟨_, rfl⟩, q⟩
theorem se_len {p : Pos} {m : M D} (h : SE X e m) (hg : Gl X "len") (hm : X.mg "len" = none) (hv : bootBuiltins "len" = some (.builtin "len"))
  (he : starEach [e] X.env = (false, eval e X.env) :: starEach [] X.env := by rfl) : SE X (.Call (.Name "len" p) [e] [] pos) (mLen m) := by
 refine pe_imp (pe_callB (call_len_seq.or (call_len_str.or call_len_dict')) hg hm hv (pa_cons h pa_nil he) (by decide) (by decide) he (by rfl)) ?_
 rintro σ H Q ⟨ρ, en, S, v, S', E, R, e, k⟩
 unfold mLen at e
 obtain ⟨r, e1, e⟩ := Option.bind_eq_some_iff.mp e
 obtain ⟨n, e2, e3⟩ := Option.map_eq_some_iff.mp e
 cases e3
 refine ⟨ρ, en, S, r.1, r.2, E, R, e1, fun x ρ1 H1 X1 R1 d1 => ?_⟩
 obtain ⟨d, S1⟩ := r
 dsimp only at e2 d1 R1 k
 cases d with
 | str z =>
  dsimp only [lenD] at e2
  split at e2
  ·cases e2
   exact .inr (.inl ⟨z, by rw [d1.of_str], by assumption, k _ ρ1 H1 X1 R1 .flat_int⟩)
  ·cases e2
 | tup ds =>
  cases e2
  obtain ⟨a, xs, rfl, a1, a2⟩ := d1.of_tup
  exact .inl ⟨a, xs, rfl, .inr (.of a1), by rw [← a2.length]; exact k _ ρ1 H1 X1 R1 .flat_int⟩
 | ref m0 =>
  obtain ⟨a, a1, rfl⟩ := d1.of_ref
  obtain ⟨ob, eo, ro⟩ := R1.obj a1
  dsimp only [lenD] at e2
  rw [eo] at e2
  cases ob with
  | lst ds =>
   cases e2
   obtain ⟨xs, x1, x2⟩ := ro
   exact .inl ⟨a, xs, rfl, .inl (.of x1), by rw [← x2.length]; exact k _ ρ1 H1 X1 R1 .flat_int⟩
  | dct kvs =>
   cases e2
   rcases ro with ⟨ks, xs, x1, x2, x3, x4⟩ | ⟨ks, xs, x1, x2, x3, x4⟩
   ·have l1 := congrArg List.length x3
    rw [List.length_map, List.length_map] at l1
    refine .inr (.inr ⟨a, rfl, .inl ⟨_, .inl x1, ?_⟩⟩)
    rw [List.length_zip, ← x2, Nat.min_self, ← l1]
    exact k _ ρ1 H1 X1 R1 .flat_int
   ·have l1 := congrArg List.length x3
    rw [List.length_map, List.length_map] at l1
    refine .inr (.inr ⟨a, rfl, .inr ⟨_, .inl x1, ?_⟩⟩)
    rw [List.length_zip, ← x2, Nat.min_self, ← l1]
    exact k _ ρ1 H1 X1 R1 .flat_int
  | fdct kvs =>
   cases e2
   obtain ⟨o, ks, xs, x1, x2, x3, x4⟩ := ro
   have l1 := congrArg List.length x3
   rw [List.length_map, List.length_map] at l1
   refine .inr (.inr ⟨a, rfl, .inl ⟨_, .inr ⟨o, x1⟩, ?_⟩⟩)
   rw [List.length_zip, ← x2, Nat.min_self, ← l1]
   exact k _ ρ1 H1 X1 R1 .flat_int
  | ins _ _ => cases e2
 | scr ns =>
  cases e2
  obtain ⟨a, rfl, a1⟩ := d1.of_scr
  exact .inl ⟨a, _, rfl, .inl a1.seq, by rw [List.length_map]; exact k _ ρ1 H1 X1 R1 .flat_int⟩
 | _ => cases e2
def tyD : D → Sto → Option String
 | .non, _ => some "NoneType"
 | .bl _, _ => some "bool"
 | .int _, _ => some "int"
 | .str _, _ => some "str"
 | .tup _, _ => some "tuple"
 | .ref n, S => match S[n]? with | some (.lst _) => some "list" | some (.dct _) => some "dict" | _ => none
 | .scr _, _ => none
theorem tyD_ok {K : PySem.W.Frag} {ρ : List Addr} {H : Hp} {S : Sto} {d : D} {x : V} {T : String} (R : StR K ρ H S) (h : DR K ρ H d x) (e : tyD d S = some T) : TyOf K H x (.type T) := by
 cases d with
 | non => rw [h.of_non]; cases e; exact .non
 | bl b => rw [h.of_bl]; cases e; exact .bl b
 | int i => rw [h.of_int]; cases e; exact .int i
 | str z => rw [h.of_str]; cases e; exact .str z
 | tup ds =>
  obtain ⟨a, xs, rfl, a1, _⟩ := h.of_tup
  cases e; exact .tup a1
 | ref n =>
  obtain ⟨a, a1, rfl⟩ := h.of_ref
  obtain ⟨ob, eo, ro⟩ := R.obj a1
  dsimp only [tyD] at e
  rw [eo] at e
  cases ob with
  | lst ds =>
   cases e
   obtain ⟨xs, x1, _⟩ := ro
   exact .lst x1
  | dct kvs =>
   cases e
   rcases ro with ⟨ks, xs, x1, _⟩ | ⟨ks, xs, x1, _⟩
   ·exact .dK x1
   ·exact .dT x1
  | fdct _ => cases e
  | ins _ _ => cases e
 | scr ns => cases e
def isiT (T C : String) : Bool := T == C || (T == "bool" && C == "int")
def Isi (K : PySem.W.Frag) (C : String) : Prop := ∀ T ∈ ["NoneType", "bool", "int", "str", "tuple", "list", "dict"], PySem.W.kitOne K (.type T) (.type C) = some (isiT T C)
theorem tyD_in {d : D} {S : Sto} {T : String} (e : tyD d S = some T) : T ∈ ["NoneType", "bool", "int", "str", "tuple", "list", "dict"] := by
 cases d with
 | ref n =>
  dsimp only [tyD] at e
  split at e <;> cases e <;> simp
 | _ => cases e <;> simp
def mIsi (C : String) (m : M D) : M D := fun en S => (m en S).bind fun p => (tyD p.1 p.2).map fun T => (.bl (isiT T C), p.2)
theorem call_isi {C : String} : CallR X (.builtin "isinstance") (fun xs H Q => ∃ x t b, xs = [x, .ty C] ∧ TyOf X.K H x t ∧ PySem.W.kitOne X.K t (.type C) = some b ∧ Q (.bl b) H) := by
 intro pins s σ H xs us Q I r h
 obtain ⟨x, t, b, rfl, ty, e, q⟩ := h
 obtain ⟨u, w', rfl, ru, rw'⟩ := vals2 r
 cases rw'
 exact isinst_ok I ru ty e fun tk => ⟨.bl b, H, I.tok tk, rfl, q⟩
theorem se_isi {p p2 : Pos} {C : String} {x : Str} {m : M D} (hi : Isi X.K C) (h : SE X a m) (hg : Gl X "isinstance") (hm : X.mg "isinstance" = none) (hv : bootBuiltins "isinstance" = some (.builtin "isinstance"))
  (hg2 : Gl X x) (hm2 : X.mg x = none) (hv2 : bootBuiltins x = some (.type C)) (hn2 : x ≠ "__name__" := by decide) (hd2 : (x == ("__debug__" : Str)) = false := by decide)
  (he : starEach [a, .Name x p2] X.env = (false, eval a X.env) :: starEach [.Name x p2] X.env := by rfl) (he2 : starEach [.Name x p2] X.env = (false, eval (.Name x p2) X.env) :: starEach [] X.env := by rfl) :
  SE X (.Call (.Name "isinstance" p) [a, .Name x p2] [] pos) (mIsi C m) := by
 refine pe_imp (pe_callB (call_isi (C := C)) hg hm hv (pa_cons h (pa_cons (pe_bltn hg2 hm2 hv2 (show RelV (.ty C) (.type C) from rfl) hn2 hd2) pa_nil he2) he) (by decide) (by decide) he (by rw [he2]; rfl)) ?_
 rintro σ H Q ⟨ρ, en, S, v, S', E, R, e, k⟩
 unfold mIsi at e
 obtain ⟨r, e1, e⟩ := Option.bind_eq_some_iff.mp e
 obtain ⟨T, e2, e3⟩ := Option.map_eq_some_iff.mp e
 cases e3
 exact ⟨ρ, en, S, r.1, r.2, E, R, e1, fun x ρ1 H1 X1 R1 d1 => ⟨x, _, _, rfl, tyD_ok R1 d1 e2, hi T (tyD_in e2), k _ ρ1 H1 X1 R1 .flat_bl⟩⟩
def mJoin (sep : M D) (m : M (List D)) : M D := fun en S => (sep en S).bind fun q => match q.1 with
 | .str x => (m en q.2).bind fun p => (strsD p.1).bind fun ys => if (ys.map (·.length)).sum + ys.length * x.length ≤ 16777216 then some (.str (Txt.join x ys), p.2) else none
 | _ => none
theorem se_join {p : Pos} {sep : M D} {m : M (List D)} (hs : SE X a sep) (h : SQ X e m) (he : PA X [e] (tCons (tMQ X.K m) tNil) := by exact pa_cons h pa_nil) 
  (hb : PE X (.Call (.Attribute a "join" p) [e] [] pos) (tBM X.K "str" (fun x xs H Q => ∃ (sep : Str) (a : Addr) (ys : List Str), x = .str sep ∧ xs = [.ref a] ∧ (SqL X.K H a (ys.map V.str) ∨ SqT X.K H a (ys.map V.str)) ∧ (ys.map (·.length)).sum + ys.length * sep.length ≤ 16777216 ∧ Q (.str (Txt.join sep ys)) H) (tM X.K sep) (tCons (tMQ X.K m) tNil))) :
  SE X (.Call (.Attribute a "join" p) [e] [] pos) (mJoin sep m) := by
 refine pe_imp hb ?_
 rintro σ H Q ⟨ρ, en, S, v, S', E, R, e, k⟩
 unfold mJoin at e
 obtain ⟨q, e0, e⟩ := Option.bind_eq_some_iff.mp e
 obtain ⟨d, S0⟩ := q
 cases d with
 | str x =>
  dsimp only at e
  obtain ⟨r, e1, e⟩ := Option.bind_eq_some_iff.mp e
  obtain ⟨ys, e2, e⟩ := Option.bind_eq_some_iff.mp e
  split at e
  ·rename_i hz
   cases e
   refine ⟨ρ, en, S, .str x, S0, E, R, e0, fun z ρ0 H0 X0 R0 d0 => ?_⟩
   rw [d0.of_str]
   refine ⟨rfl, ρ0, en, S0, r.1, r.2, E.up X0, R0, e1, fun a xs ρ1 H1 X1 R1 sq d1 => ⟨x, a, ys, rfl, rfl, ?_, hz, k _ ρ1 H1 (X0.trans X1) R1 .flat_str⟩⟩
   rw [← strsD_ok d1 e2]; exact sq
  ·cases e
 | _ => cases e
def iterD : D → Sto → Option (ItD × Sto)
 | .tup ds, S => some ((ds, .no), S)
 | .ref n, S => match S[n]? with
  | some (.lst ds) => some ((ds, .lst n), S)
  | some (.dct kvs) => if (kvs.all fun p => (keyD p.1).isSome) = true then some ((kvs.map (·.1), .fr n kvs true), S.set n (.fdct kvs)) else none
  | some (.fdct kvs) => some ((kvs.map (·.1), .fr n kvs false), S)
  | _ => none
 | .scr ns, S => some ((ns.map D.int, .no), S)
 | .str x, S => some ((x.cps.toList.map fun c => D.str ⟨#[c]⟩, .no), S)
 | _, _ => none
def mIter (m : M D) : M ItD := fun en S => (m en S).bind fun p => iterD p.1 p.2
theorem itr_list {K : PySem.W.Frag} {ρ0 : List Addr} {H0 : Hp} {n : Nat} {a : Addr} {ds : List D} (ha : ρ0[n]? = some a) : ItR K ρ0 H0 (Itl K a) ds (.lst n) := by
 intro ρ H S X R g
 have g' : S[n]? = some (.lst ds) := g
 obtain ⟨a', h1, xs, h2, h3⟩ := R.ob n _ g'
 have e : a' = a := by
  have := X.pre n a ha
  rw [this] at h1
  exact (Option.some.inj h1).symm
 subst e
 refine ⟨fun i d hd => ?_, xs, .of h2, by rw [← h3.length]; exact Nat.le_refl _⟩
 obtain ⟨x, x1, x2⟩ := h3.get hd
 refine ⟨⟨xs, x, .of h2, x1⟩, fun y H' hy => ?_⟩
 obtain ⟨rfl, hy⟩ := hy
 have := hy xs (.of h2)
 rw [x1] at this
 cases this
 exact ⟨Ext.refl, R, x2⟩
theorem itr_tup {K : PySem.W.Frag} {ρ0 : List Addr} {H0 : Hp} {a : Addr} {ds : List D} {xs : List V} (ha : H0 a = some (.tup xs)) (h3 : DsR K ρ0 H0 ds xs) : ItR K ρ0 H0 (Itt K a) ds .no := by
 intro ρ H S X R g
 have h2 := X.tup a xs ha
 have h3 := h3.up X
 refine ⟨fun i d hd => ?_, xs, .of h2, by rw [← h3.length]; exact Nat.le_refl _⟩
 obtain ⟨x, x1, x2⟩ := h3.get hd
 refine ⟨⟨xs, x, .of h2, x1⟩, fun y H' hy => ?_⟩
 obtain ⟨rfl, hy⟩ := hy
 have := hy xs (.of h2)
 rw [x1] at this
 cases this
 exact ⟨Ext.refl, R, x2⟩
theorem itr_scr {K : PySem.W.Frag} {ρ0 : List Addr} {H0 : Hp} {a : Addr} {ns : List Int} (ha : ScrR K H0 a ns) : ItR K ρ0 H0 (Itl K a) (ns.map D.int) .no := by
 intro ρ H S X R g
 have h2 := (ha.mono X.weak).seq
 have h3 : DsR K ρ H (ns.map D.int) (ns.map V.int) := .ints ns
 refine ⟨fun i d hd => ?_, _, h2, by rw [← h3.length]; exact Nat.le_refl _⟩
 obtain ⟨x, x1, x2⟩ := h3.get hd
 refine ⟨⟨_, x, h2, x1⟩, fun y H' hy => ?_⟩
 obtain ⟨rfl, hy⟩ := hy
 have := hy _ h2
 rw [x1] at this
 cases this
 exact ⟨Ext.refl, R, x2⟩
theorem itr_str {K : PySem.W.Frag} {ρ0 : List Addr} {H0 : Hp} {x : Str} : ItR K ρ0 H0 (Its x) (x.cps.toList.map fun c => D.str ⟨#[c]⟩) .no := by
 intro ρ H S X R g
 refine ⟨fun i d hd => ?_, by show _ = x.cps.size; simp⟩
 rw [List.getElem?_map] at hd
 have hd' : ∃ c, x.cps[i]? = some c ∧ d = D.str ⟨#[c]⟩ := by
  cases q : x.cps.toList[i]? with
  | none => rw [q] at hd; cases hd
  | some c => rw [q] at hd; cases hd; exact ⟨c, by simpa using q, rfl⟩
 obtain ⟨c, hc, rfl⟩ := hd'
 refine ⟨(Array.getElem?_eq_some_iff.mp hc).1, fun y H' hy => ?_⟩
 obtain ⟨rfl, c', h1, rfl⟩ := hy
 rw [hc] at h1
 cases h1
 exact ⟨Ext.refl, R, .flat_str⟩
theorem keyD_DR {K : PySem.W.Frag} {ρ : List Addr} {H : Hp} {d : D} {k : Key} (e : keyD d = some k) : DR K ρ H d (kV k) := by
 cases d with
 | int i => cases e; exact .flat_int
 | str x => cases e; exact .flat_str
 | _ => cases e
theorem itr_keys {K : PySem.W.Frag} {ρ0 : List Addr} {H0 : Hp} {n : Nat} {a : Addr} {o : Obj} {tab : List (Key × V)} {kvs : List (D × D)} {th : Bool} (ha : ρ0[n]? = some a) (h0 : H0 a = some (.frz o (.dK tab))) : ItR K ρ0 H0 (Itk a o) (kvs.map (·.1)) (.fr n kvs th) := by
 intro ρ H S X1 R hg
 have hH := X1.frz a o _ h0
 obtain ⟨ob, e1, r⟩ := R.obj (X1.pre n a ha)
 have hg' : S[n]? = some (.fdct kvs) := hg
 rw [hg'] at e1
 cases e1
 obtain ⟨o', ks, xs, q1, q2, q3, q4⟩ := r
 rw [hH] at q1
 cases q1
 have l1 := congrArg List.length q3
 rw [List.length_map, List.length_map] at l1
 refine ⟨fun i d hd => ?_, ⟨_, hH, by rw [List.length_map, List.length_zip, ← q2, Nat.min_self, l1]⟩⟩
 rw [List.getElem?_map] at hd
 obtain ⟨p, p1, p2⟩ := Option.map_eq_some_iff.mp hd
 have li : i < ks.length := by rw [← l1]; exact (List.getElem?_eq_some_iff.mp p1).1
 have hk : keyD d = some ks[i] := by
  have := congrArg (fun l => l[i]?) q3
  simp only [List.getElem?_map, p1, Option.map_some, List.getElem?_eq_getElem li] at this
  rw [← p2]
  exact Option.some.inj this
 have hz : (ks.zip xs)[i]? = some (ks[i], xs[i]'(by omega)) := by
  rw [List.getElem?_eq_getElem (by rw [List.length_zip]; omega), List.getElem_zip]
 refine ⟨⟨_, ks[i], xs[i]'(by omega), hH, hz⟩, fun x H' y => ?_⟩
 obtain ⟨rfl, y2⟩ := y
 obtain ⟨k, v, y3, rfl⟩ := y2 _ hH
 rw [hz] at y3
 cases y3
 exact ⟨Ext.refl, R, keyD_DR hk⟩
theorem si_of {tg : Expr} {m : M D} (h : SE X e m) : SI X tg e (mIter m) := by
 refine pi_imp (pi_any h) ?_
 rintro σ H Q ⟨ρ, en, S, r, S', E, R, e, k⟩
 unfold mIter at e
 obtain ⟨p, e1, e2⟩ := Option.bind_eq_some_iff.mp e
 refine ⟨ρ, en, S, p.1, p.2, E, R, e1, fun x ρ1 H1 X1 R1 d1 => ?_⟩
 obtain ⟨d, S1⟩ := p
 dsimp only at e2 d1 R1 k
 cases d with
 | tup ds =>
  cases e2
  obtain ⟨a, xs, rfl, a1, a2⟩ := d1.of_tup
  exact .inr (.inl ⟨a, xs, rfl, .of a1, k _ ρ1 H1 X1 R1 (itr_tup a1 a2) trivial⟩)
 | ref n =>
  obtain ⟨a, a1, rfl⟩ := d1.of_ref
  obtain ⟨ob, eo, ro⟩ := R1.obj a1
  dsimp only [iterD] at e2
  rw [eo] at e2
  cases ob with
  | lst ds =>
   cases e2
   obtain ⟨xs, x1, x2⟩ := ro
   exact .inl ⟨a, xs, rfl, .of x1, k _ ρ1 H1 X1 R1 (itr_list a1) trivial⟩
  | dct kvs =>
   dsimp only at e2
   split at e2
   ·rename_i hk
    cases e2
    have ro' : ∃ (ks : List Key) (xs : List V), (H1 a = some (.dK (ks.zip xs)) ∨ (H1 a = some (.dT []) ∧ ks = [] ∧ xs = [])) ∧ ks.length = xs.length ∧ kvs.map (fun p => keyD p.1) = ks.map some ∧ DsR X.K ρ1 H1 (kvs.map (·.2)) xs := by
     rcases ro with ⟨ks, xs, q1, q2, q3, q4⟩ | ⟨ks, xs, q1, q2, q3, q4⟩
     ·exact ⟨ks, xs, .inl q1, q2, q3, q4⟩
     ·have hn := all_nil q3 hk (fun _ _ => keysT_keyD)
      subst hn
      cases ks with
      | nil => exact ⟨[], [], .inr ⟨q1, rfl, rfl⟩, rfl, rfl, .nil⟩
      | cons _ _ => cases q3
    obtain ⟨ks, xs, q1, q2, q3, q4⟩ := ro'
    have goK : ∀ o, (∀ o u, X.H₀ a ≠ some (.frz o u)) → H1 a = some (.dK (ks.zip xs)) → Q (Itk a o) (upd H1 a (.frz o (.dK (ks.zip xs)))) := fun o hn hq => by
     have hE : Ext ρ1 H1 ρ1 (upd H1 a (.frz o (.dK (ks.zip xs)))) := Ext.upd hq (fun _ z => nomatch z) fun _ _ z => nomatch z
     obtain ⟨R2, X2⟩ := R1.set (o := .frz o (.dK (ks.zip xs))) (ob := .fdct kvs) a1 (fun _ z => by rw [eo] at z; cases z) ⟨o, ks, xs, upd_same, q2, q3, q4.up hE⟩
     have hX : ∀ o u, H a ≠ some (.frz o u) := fun o u z => by have := X1.frz a o u z; rw [hq] at this; cases this
     have hT : ∀ ys, H a ≠ some (.tup ys) := fun ys z => by have := X1.tup a ys z; rw [hq] at this; cases this
     exact k _ ρ1 _ (X1.trans X2) R2 (itr_keys a1 upd_same) ⟨a, a1, hX, hT, hn⟩
    have goT : ∀ o, (∀ o u, X.H₀ a ≠ some (.frz o u)) → H1 a = some (.dT []) → kvs = [] → Q (Itk a o) (upd H1 a (.frz o (.dK []))) := fun o hn hq hk => by
     subst hk
     obtain ⟨R2, X2⟩ := R1.set (o := .frz o (.dK [])) (ob := .fdct []) a1 (fun _ z => by rw [eo] at z; cases z) ⟨o, [], [], upd_same, rfl, rfl, .nil⟩
     have hX : ∀ o u, H a ≠ some (.frz o u) := fun o u z => by have := X1.frz a o u z; rw [hq] at this; cases this
     have hT : ∀ ys, H a ≠ some (.tup ys) := fun ys z => by have := X1.tup a ys z; rw [hq] at this; cases this
     exact k _ ρ1 _ (X1.trans X2) R2 (itr_keys a1 upd_same) ⟨a, a1, hX, hT, hn⟩
    rcases q1 with q1 | ⟨q1, rfl, rfl⟩
    ·exact .inr (.inr (.inr (.inl ⟨a, _, rfl, q1, fun o hn => goK o hn q1⟩)))
    ·cases kvs with
     | nil => exact .inr (.inr (.inr (.inr (.inr ⟨a, rfl, q1, fun o hn => goT o hn q1 rfl⟩))))
     | cons _ _ => cases q3
   ·cases e2
  | fdct kvs =>
   cases e2
   obtain ⟨o, ks, xs, q1, q2, q3, q4⟩ := ro
   exact .inr (.inr (.inr (.inr (.inl ⟨a, o, _, rfl, q1, k _ ρ1 H1 X1 R1 (itr_keys a1 q1) trivial⟩))))
  | ins _ _ => cases e2
 | scr ns =>
  cases e2
  obtain ⟨a, rfl, a1⟩ := d1.of_scr
  exact .inl ⟨a, _, rfl, a1.seq, k _ ρ1 H1 X1 R1 (itr_scr a1) trivial⟩
 | str z =>
  cases e2
  exact .inr (.inr (.inl ⟨z, d1.of_str, k _ ρ1 H1 X1 R1 itr_str trivial⟩))
 | _ => cases e2
def rngD (lo : Int) (n : Nat) : List D := (List.range n).map fun i => D.int (lo + (i : Nat))
def mRng1 (m : M D) : M ItD := fun en S => (m en S).bind fun p => match p.1 with | .int j => if -(2 ^ 62) ≤ j ∧ j < 2 ^ 62 then some ((rngD 0 j.toNat, .no), p.2) else none | _ => none
theorem itr_rng {K : PySem.W.Frag} {ρ0 : List Addr} {H0 : Hp} {lo : Int} {n : Nat} : ItR K ρ0 H0 (Itr lo n) (rngD lo n) .no := by
 intro ρ H S X R g
 refine ⟨fun i d hd => ?_, by show n ≤ _; simp [rngD]⟩
 unfold rngD at hd
 rw [List.getElem?_map] at hd
 cases q : (List.range n)[i]? with
 | none => rw [q] at hd; cases hd
 | some c =>
  rw [q] at hd
  cases hd
  obtain ⟨h1, h2⟩ := List.getElem?_eq_some_iff.mp q
  simp at h1 h2
  subst h2
  refine ⟨h1, fun y H' hy => ?_⟩
  obtain ⟨rfl, rfl⟩ := hy
  exact ⟨Ext.refl, R, .flat_int⟩
theorem si_rng1 {tg : Expr} {p : Pos} {m : M D} (h : SE X a m) (hg : Gl X "range") (hm : X.mg "range" = none) (hs : starEach [a] X.env = [(false, eval a X.env)] := by rfl) : SI X tg (.Call (.Name "range" p) [a] [] pos) (mRng1 m) := by
 refine pi_imp (pi_range1 hg hm (pa_cons h pa_nil (by rw [hs]; rfl)) hs) ?_
 rintro σ H Q ⟨ρ, en, S, r, S', E, R, e, k⟩
 unfold mRng1 at e
 obtain ⟨q, e1, e⟩ := Option.bind_eq_some_iff.mp e
 obtain ⟨d, S1⟩ := q
 cases d with
 | int j =>
  dsimp only at e
  split at e
  ·rename_i hj
   cases e
   exact ⟨ρ, en, S, .int j, _, E, R, e1, fun x ρ1 H1 X1 R1 d1 => ⟨j, by rw [d1.of_int], hj.1, hj.2, k _ ρ1 H1 X1 R1 itr_rng trivial⟩⟩
  ·cases e
 | _ => cases e
end
end DL
namespace DL
open PySem PySem.Spec PyProof.Rows L2
section
variable {X : Cx} {e a b c : Expr} {es : List Expr} {pos : Pos}
def tML (K : PySem.W.Frag) (m : M (List D)) : TE := fun σ H Q => ∃ ρ en S ds S', EnR K ρ H en σ ∧ StR K ρ H S ∧ m en S = some (ds, S') ∧
 ∀ a xs ρ' H', Ext ρ H ρ' H' → StR K ρ' H' S' → H' a = none → DsR K ρ' H' ds xs → Q (.ref a) (upd H' a (.lst xs))
def SL (X : Cx) (e : Expr) (m : M (List D)) : Prop := PE X e (tML X.K m)
theorem sl_e {m : M (List D)} (h : SL X e m) : SE X e (mKeep m) := by
 refine pe_imp h ?_
 rintro σ H Q ⟨ρ, en, S, v, S', E, R, e, k⟩
 unfold mKeep at e
 obtain ⟨p, e1, e2⟩ := Option.map_eq_some_iff.mp e
 cases e2
 refine ⟨ρ, en, S, p.1, p.2, E, R, e1, fun a xs ρ' H' X1 R1 ha d1 => ?_⟩
 refine k _ (ρ' ++ [a]) _ (X1.trans (Ext.newRef ha)) (R1.push ha ⟨xs, upd_same, d1.up (Ext.newRef ha)⟩) (.ref ?_)
 rw [← R1.len]; simp
section
variable {tg iter elt : Expr} {ifs : List Expr} {scope : Scope} {tgs cn : List Str} {caps : List Nat} {mi : M ItD} {g : TG} {gd : D → En → Option En} {mc : M Bool} {m : M D}
theorem sl_comp (hc : X.calm = true) (sc : CompSc X scope cn caps) (hi : SI X tg iter mi) (hlow : GLow tgs.length g) (hgd : GD X.K g gd)
  (hg : ∀ fp s H C, PG (compCx X scope (tgs ++ cn) fp s H C) tg g) (hf : ∀ fp s H C, SF (compCx X scope (tgs ++ cn) fp s H C) ifs mc) (he : ∀ fp s H C, SE (compCx X scope (tgs ++ cn) fp s H C) elt m)
  (hs : ∀ x, foldedSetIterable iter X.env x = pure x := by intro _; rfl) : SL X (.ListComp elt [⟨tg, iter, ifs, 0⟩] scope pos) (mComp mi tgs.length caps gd mc m) := by
 refine pe_imp (pe_thaw (pe_comp (tt := tMT X.K mc) (te := tM X.K m) hc sc.cell sc.kind sc.names sc.free sc.cap hi hlow hg hf he hs)) ?_
 rintro σ H Q ⟨ρ, en, S, ds, S', E, R, e, k⟩
 exact comp_read hgd (fun _ _ _ h => h) E R e k
end
def mApp (a b : M D) : M D := fun en S => (a en S).bind fun p => (b en p.2).bind fun q => match p.1 with
 | .ref n => match p.2[n]?, q.2[n]? with
  | some (.lst _), some (.lst ds) => if ds.length < sizeLine then some (.non, q.2.set n (.lst (ds ++ [q.1]))) else none
  | _, _ => none
 | _ => none
theorem lst_of {K : PySem.W.Frag} {ρ : List Addr} {H : Hp} {S : Sto} {n : Nat} {a : Addr} {ds : List D} (R : StR K ρ H S) (h : ρ[n]? = some a) (e : S[n]? = some (.lst ds)) : ∃ xs, H a = some (.lst xs) ∧ DsR K ρ H ds xs := by
 obtain ⟨ob, e1, r⟩ := R.obj h
 rw [e] at e1
 cases e1
 exact r
theorem se_append {p : Pos} {ma mb : M D} (ha : SE X a ma) (hb : SE X b mb) (hs : starEach [b] X.env = (false, eval b X.env) :: starEach [] X.env := by rfl)
  (hbase : attributeBase a ("append" : Str) X.env (eval a X.env) = eval a X.env := by rfl)
  (hfew : ((backTo pos (starEach [b] X.env)).all (fun x => !x.1) && (backToKw pos (keywordEach [] X.env)).all (fun x => x.1.isSome)
   && decide ([b].length + ([] : List Keyword).length + (if ([] : List Keyword).isEmpty then 0 else 1) < 30)) = true := by rfl)
  (hline : (p.endLine == pos.line) = true := by rfl) (hplain : (backTo pos (starEach [] X.env)).any (·.1) = false := by rfl) :
  SE X (.Call (.Attribute a "append" p) [b] [] pos) (mApp ma mb) := by
 refine pe_imp (pe_bm PySem.F.plainAttrs_list PySem.F.slot_list_append PySem.F.type_list_append mt_append ha (pa_cons hb pa_nil hs) hbase hfew hline hs hplain) ?_
 rintro σ H Q ⟨ρ, en, S, v, S', E, R, e, k⟩
 unfold mApp at e
 obtain ⟨p, e1, e⟩ := Option.bind_eq_some_iff.mp e
 obtain ⟨q, e2, e⟩ := Option.bind_eq_some_iff.mp e
 obtain ⟨d, S1⟩ := p
 obtain ⟨d2, S2⟩ := q
 refine ⟨ρ, en, S, d, S1, E, R, e1, fun x ρ1 H1 X1 R1 d1 => ?_⟩
 cases d with
 | ref n =>
  dsimp only at e
  split at e
  ·rename_i ds0 ds hn0 hn
   split at e
   ·rename_i hz
    cases e
    obtain ⟨l, a1, rfl⟩ := d1.of_ref
    obtain ⟨xs0, hx0, _⟩ := lst_of R1 a1 hn0
    refine ⟨.inl ⟨rfl, xs0, .of hx0⟩, ρ1, en, S1, d2, S2, E.up X1, R1, e2, fun y ρ2 H2 X2 R2 dy => ?_⟩
    have a2 := X2.pre n l a1
    obtain ⟨xs, h1, h2⟩ := lst_of R2 a2 hn
    refine ⟨l, xs, y, rfl, rfl, h1, by rw [← h2.length]; exact hz, ?_⟩
    have hd : DsR X.K ρ2 H2 (ds ++ [d2]) (xs ++ [y]) := h2.append (.cons dy .nil)
    have hE : Ext ρ2 H2 ρ2 (upd H2 l (.lst (xs ++ [y]))) := Ext.upd h1 (fun _ z => nomatch z) fun _ _ z => nomatch z
    obtain ⟨R3, X3⟩ := R2.set (o := .lst (xs ++ [y])) (ob := .lst (ds ++ [d2])) a2 (fun _ z => by rw [hn] at z; cases z) ⟨xs ++ [y], upd_same, hd.up hE⟩
    exact k _ ρ2 _ ((X1.trans X2).trans X3) R3 .flat_non
   ·cases e
  ·cases e
 | _ => cases e
def mNewD : M D := fun _ S => some (.ref S.length, S ++ [.dct []])
theorem se_newD : SE X (.Dict [] [] pos) mNewD := by
 refine pe_imp pe_dnewK ?_
 rintro σ H Q ⟨ρ, en, S, v, S', E, R, e, k⟩
 cases e
 intro p hp
 refine k _ (ρ ++ [p]) _ (Ext.newRef hp) (R.push hp (.inl ⟨[], [], upd_same, rfl, rfl, .nil⟩)) (.ref ?_)
 rw [← R.len]; simp
theorem PSet.or {t t' : TSet} (h : PSet X t) (h' : PSet X t') : PSet X (fun o i v H Q => t o i v H Q ∨ t' o i v H Q) := by
 intro pins s σ H o i v ov iv u Q I ro ri rv q
 rcases q with q | q
 ·exact h pins s σ H o i v ov iv u Q I ro ri rv q
 ·exact h' pins s σ H o i v ov iv u Q I ro ri rv q
theorem set_dict (hu : X.A.units + 64 < cLine) : PSet X (fun o i v H Q => ∃ a H', o = .ref a ∧ DPutE H a i v H' ∧ Q H') := by
 intro pins s σ H o i v ov iv u Q I ro ri rv h
 obtain ⟨a, H', rfl, g, q⟩ := h
 cases ro
 exact dE_setItem (by omega) I g ri rv fun s' I' => ⟨H', I', q⟩
def setD (a k v : D) (S : Sto) : Option Sto := match a with
 | .ref n => match S[n]? with
  | some (.lst ds) => (match k with
   | .int i => (ixN ds.length i).map fun j => S.set n (.lst (ds.set j v))
   | _ => none)
  | some (.dct kvs) => if (sameKind kvs k && decide (kvs.length < sizeLine)) = true then some (S.set n (.dct (dput kvs k v))) else none
  | _ => none
 | _ => none
def mSetItem (mv ma mb : M D) : MS := fun en S => (mv en S).bind fun p => (ma en p.2).bind fun q => (mb en q.2).bind fun r => (setD q.1 r.1 p.1 r.2).map fun S' => (.nx, en, S')
theorem DsR.setAt {K : PySem.W.Frag} {ρ : List Addr} {H : Hp} {d : D} {x : V} (h : DR K ρ H d x) : ∀ {ds : List D} {xs : List V} (j : Nat), DsR K ρ H ds xs → DsR K ρ H (ds.set j d) (xs.set j x)
 | [], xs, j, t => by unfold DsR at t; subst t; exact .nil
 | c :: ds, xs, j, t => by
  unfold DsR at t
  obtain ⟨y, r, rfl, t1, t2⟩ := t
  cases j with
  | zero => exact .cons h t2
  | succ j => exact .cons t1 (DsR.setAt h j t2)
theorem ss_setItem {v : Expr} {p1 : Pos} {mv ma mb : M D} (hu : X.A.units + 64 < cLine) (hv : SE X v mv) (ha : SE X a ma) (hb : SE X b mb)
  (hs : swapsWithSole [.Subscript a b p1] v pos.line X.env = pure false := by rfl) (hw : swappedStores [.Subscript a b p1] v X.env = pure none := by rfl)
  (h1 : (assignEach [.Subscript a b p1] X.env).map (·.2) = [assign (.Subscript a b p1) X.env] := by rfl)
  (hq : ∀ v, assign (.Subscript a b p1) X.env v = (do
   let ov ← holding [v] (eval a X.env)
   let iv ← holding [v, ov] (eval b X.env)
   standAt p1
   holding [v, ov, iv] (setItem ov iv v)
   release [v, ov, iv] []) := by intro _; rfl) : SS X (.Assign [.Subscript a b p1] v pos) (mSetItem mv ma mb) := by
 refine ps_imp (ps_asg hv (pg_sub ha hb (PSet.or set_list (set_dict hu)) hq) hs hw h1) ?_
 rintro DD σ H ⟨ρ, en, S, f, en', S', E, R, e, k⟩
 unfold mSetItem at e
 obtain ⟨p, e1, e⟩ := Option.bind_eq_some_iff.mp e
 obtain ⟨q, e2, e⟩ := Option.bind_eq_some_iff.mp e
 obtain ⟨r, e3, e⟩ := Option.bind_eq_some_iff.mp e
 obtain ⟨S3, e4, e5⟩ := Option.map_eq_some_iff.mp e
 cases e5
 refine ⟨ρ, en, S, p.1, p.2, E, R, e1, fun x ρ1 H1 X1 R1 d1 => ⟨ρ1, en, p.2, q.1, q.2, E.up X1, R1, e2, fun y ρ2 H2 X2 R2 d2 => ⟨ρ2, en, q.2, r.1, r.2, (E.up X1).up X2, R2, e3, fun z ρ3 H3 X3 R3 d3 => ?_⟩⟩⟩
 obtain ⟨qd, qS⟩ := q
 obtain ⟨rd, rS⟩ := r
 dsimp only at e4 d2 d3 R3
 have d1' := (d1.up X2).up X3
 have d2' := d2.up X3
 cases qd with
 | ref n =>
  obtain ⟨l, a1, rfl⟩ := d2'.of_ref
  dsimp only [setD] at e4
  split at e4
  ·rename_i ds hn
   cases rd with
   | int i =>
    obtain ⟨j, j1, j2⟩ := Option.map_eq_some_iff.mp e4
    subst j2
    obtain ⟨xs, h1, h2⟩ := lst_of R3 a1 hn
    refine .inl ⟨l, xs, i, j, rfl, d3.of_int, h1, by rw [← h2.length]; exact j1, ?_⟩
    have hE : Ext ρ3 H3 ρ3 (upd H3 l (.lst (xs.set j x))) := Ext.upd h1 (fun _ z => nomatch z) fun _ _ z => nomatch z
    obtain ⟨R4, X4⟩ := R3.set (o := .lst (xs.set j x)) (ob := .lst (ds.set j p.1)) a1 (fun _ z => by rw [hn] at z; cases z) ⟨_, upd_same, (DsR.setAt d1' j h2).up hE⟩
    exact k ρ3 _ σ (((X1.trans X2).trans X3).trans X4) R4 (E.up (((X1.trans X2).trans X3).trans X4))
   | _ => cases e4
  ·rename_i kvs hn
   split at e4
   ·rename_i hc
    cases e4
    rw [Bool.and_eq_true, decide_eq_true_eq] at hc
    obtain ⟨H4, g, R4, X4⟩ := dput_ok R3 a1 hn hc.1 hc.2 d3 d1'
    exact .inr ⟨l, H4, rfl, g, k ρ3 H4 σ (((X1.trans X2).trans X3).trans X4) R4 (E.up (((X1.trans X2).trans X3).trans X4))⟩
   ·cases e4
  ·cases e4
 | _ => cases e4
def tupOf : D → Sto → Option (List D)
 | .tup ds, _ => some ds
 | .ref n, S => match S[n]? with | some (.lst ds) => some ds | _ => none
 | .scr ns, _ => some (ns.map D.int)
 | _, _ => none
def mTupV (m : M D) : M D := fun en S => (m en S).bind fun p => (tupOf p.1 p.2).map fun ds => (.tup ds, p.2)
theorem se_tupV {p : Pos} {m : M D} (h : SE X e m) (hg : Gl X "tuple") (hm : X.mg "tuple" = none) (hv : bootBuiltins "tuple" = some (.type "tuple"))
  (he : starEach [e] X.env = (false, eval e X.env) :: starEach [] X.env := by rfl) : SE X (.Call (.Name "tuple" p) [e] [] pos) (mTupV m) := by
 refine pe_imp (pe_callTy call_tuple_of hg hm hv (pa_cons h pa_nil he) (by decide) (by decide) he (by rfl)) ?_
 rintro σ H Q ⟨ρ, en, S, v, S', E, R, e, k⟩
 unfold mTupV at e
 obtain ⟨q, e1, e⟩ := Option.bind_eq_some_iff.mp e
 obtain ⟨ds, e2, e3⟩ := Option.map_eq_some_iff.mp e
 cases e3
 refine ⟨ρ, en, S, q.1, q.2, E, R, e1, fun x ρ1 H1 X1 R1 d1 => ?_⟩
 obtain ⟨d, S1⟩ := q
 dsimp only at e2 d1 R1 k
 cases d with
 | tup es =>
  cases e2
  obtain ⟨a, xs, rfl, a1, a2⟩ := d1.of_tup
  exact ⟨a, xs, rfl, .inr ⟨.of a1, k _ ρ1 H1 X1 R1 d1⟩⟩
 | ref n =>
  obtain ⟨a, a1, rfl⟩ := d1.of_ref
  dsimp only [tupOf] at e2
  split at e2
  ·rename_i es hn
   cases e2
   obtain ⟨xs, h1, h2⟩ := lst_of R1 a1 hn
   exact ⟨a, xs, rfl, .inl ⟨.of h1, fun l hl => k _ ρ1 _ (X1.trans (Ext.new hl)) (R1.new hl) (.tup upd_same (h2.up (Ext.new hl)))⟩⟩
  ·cases e2
 | scr ns =>
  cases e2
  obtain ⟨a, rfl, a1⟩ := d1.of_scr
  exact ⟨a, _, rfl, .inl ⟨a1.seq, fun l hl => k _ ρ1 _ (X1.trans (Ext.new hl)) (R1.new hl) (.tup upd_same ((DsR.ints ns).up (Ext.new hl)))⟩⟩
 | _ => cases e2
def mTupL (m : M (List D)) : M D := fun en S => (m en S).map fun p => (.tup p.1, p.2)
theorem se_tupL {p : Pos} {m : M (List D)} (h : SL X e m) (hg : Gl X "tuple") (hm : X.mg "tuple" = none) (hv : bootBuiltins "tuple" = some (.type "tuple"))
  (he : starEach [e] X.env = (false, eval e X.env) :: starEach [] X.env := by rfl) : SE X (.Call (.Name "tuple" p) [e] [] pos) (mTupL m) := by
 refine pe_imp (pe_callTy call_tuple_of hg hm hv (pa_cons h pa_nil he) (by decide) (by decide) he (by rfl)) ?_
 rintro σ H Q ⟨ρ, en, S, v, S', E, R, e, k⟩
 unfold mTupL at e
 obtain ⟨q, e1, e2⟩ := Option.map_eq_some_iff.mp e
 cases e2
 refine ⟨ρ, en, S, q.1, q.2, E, R, e1, fun a xs ρ1 H1 X1 R1 ha d1 => ⟨a, xs, rfl, .inl ⟨.of upd_same, fun l hl => ?_⟩⟩⟩
 exact k _ ρ1 _ ((X1.trans (Ext.new ha)).trans (Ext.new hl)) ((R1.new ha).new hl) (.tup upd_same ((d1.up (Ext.new ha)).up (Ext.new hl)))
theorem sl_list {p : Pos} {m : M (List D)} (h : SQ X e m) (hg : Gl X "list") (hm : X.mg "list" = none) (hv : bootBuiltins "list" = some (.type "list"))
  (he : starEach [e] X.env = (false, eval e X.env) :: starEach [] X.env := by rfl) : SL X (.Call (.Name "list" p) [e] [] pos) m := by
 refine pe_imp (pe_callTy call_list_of hg hm hv (pa_cons h pa_nil he) (by decide) (by decide) he (by rfl)) ?_
 rintro σ H Q ⟨ρ, en, S, ds, S', E, R, e, k⟩
 refine ⟨ρ, en, S, ds, S', E, R, e, fun a xs ρ1 H1 X1 R1 hq d1 => ⟨a, xs, rfl, hq, fun l hl => k l xs ρ1 H1 X1 R1 hl d1⟩⟩
def mSrt (m : M (List D)) : M (List D) := fun en S => (m en S).bind fun p => if sortOk p.1 = true then some (sortD p.1, p.2) else none
theorem sl_sorted {p : Pos} {m : M (List D)} (hu : X.A.units + 70 < cLine) (h : SQ X e m) (hg : Gl X "sorted") (hm : X.mg "sorted" = none) (hv : bootBuiltins "sorted" = some (.builtin "sorted"))
  (he : starEach [e] X.env = (false, eval e X.env) :: starEach [] X.env := by rfl) : SL X (.Call (.Name "sorted" p) [e] [] pos) (mSrt m) := by
 refine pe_imp (pe_callB (call_sorted hu) hg hm hv (pa_cons h pa_nil he) (by decide) (by decide) he (by rfl)) ?_
 rintro σ H Q ⟨ρ, en, S, ds, S', E, R, e, k⟩
 unfold mSrt at e
 obtain ⟨q, e1, e⟩ := Option.bind_eq_some_iff.mp e
 split at e
 ·rename_i ok
  cases e
  refine ⟨ρ, en, S, q.1, q.2, E, R, e1, fun a xs ρ1 H1 X1 R1 hq d1 => ⟨a, xs, ρ1, q.1, rfl, hq, d1, ok, fun l xs' hl d' => k l xs' ρ1 H1 X1 R1 hl d'⟩⟩
 ·cases e
def srtV : D → Sto → Option (List D)
 | .tup ds, _ => some ds
 | .ref n, S => match S[n]? with
  | some (.lst ds) => some ds
  | some (.dct kvs) => some (kvs.map (·.1))
  | some (.fdct kvs) => some (kvs.map (·.1))
  | _ => none
 | .scr ns, _ => some (ns.map D.int)
 | _, _ => none
def mSrtV (m : M D) : M (List D) := fun en S => (m en S).bind fun p => (srtV p.1 p.2).bind fun ds => if sortOk ds = true then some (sortD ds, p.2) else none
theorem keys_DsR {K : PySem.W.Frag} {ρ : List Addr} {H : Hp} : ∀ {kvs : List (D × D)} {ks : List Key}, kvs.map (fun p => keyD p.1) = ks.map some → DsR K ρ H (kvs.map (·.1)) (ks.map kV)
 | [], ks, e => by
  cases ks with
  | nil => exact .nil
  | cons _ _ => cases e
 | p :: kvs, ks, e => by
  cases ks with
  | nil => cases e
  | cons k ks =>
   simp only [List.map_cons, List.cons.injEq] at e
   exact .cons (keyD_DR e.1) (keys_DsR e.2)
theorem keysD_DsR {K : PySem.W.Frag} {ρ : List Addr} {H : Hp} : ∀ {ds : List D} {ks : List Key}, keysD ds = some ks → DsR K ρ H ds (ks.map kV)
 | [], ks, e => by cases e; exact .nil
 | d :: ds, ks, e => by
  unfold keysD at e
  obtain ⟨k, e1, e⟩ := Option.bind_eq_some_iff.mp e
  obtain ⟨ks', e2, e3⟩ := Option.map_eq_some_iff.mp e
  subst e3
  exact .cons (keyD_DR e1) (keysD_DsR e2)
theorem keysT_DsR {K : PySem.W.Frag} {ρ : List Addr} {H : Hp} : ∀ {kvs : List (D × D)} {ks : List (List Key)} {xs : List V} {bs : List Addr}, kvs.map (fun p => keysT p.1) = ks.map some → ks.length = xs.length → Paired (fun (p : List Key × V) (b : Addr) => H b = some (.tup (p.1.map kV))) (ks.zip xs) bs → DsR K ρ H (kvs.map (·.1)) (bs.map V.ref)
 | [], ks, xs, bs, e, hl, h => by
  cases ks with
  | nil => cases h; exact .nil
  | cons _ _ => cases e
 | p :: kvs, ks, xs, bs, e, hl, h => by
  cases ks with
  | nil => cases e
  | cons k ks =>
   cases xs with
   | nil => cases hl
   | cons x xs =>
    simp only [List.map_cons, List.cons.injEq] at e
    rw [List.zip_cons_cons] at h
    cases h with
    | cons h1 h2 =>
     obtain ⟨d, v⟩ := p
     refine .cons ?_ (keysT_DsR e.2 (by simpa using hl) h2)
     have e1 := e.1
     cases d with
     | tup ds => exact .tup h1 (keysD_DsR e1)
     | _ => cases e1
theorem sl_sortedV {p : Pos} {m : M D} (hcalm : X.calm = true) (hu : X.A.units + 70 < cLine) (h : SE X e m) (hg : Gl X "sorted") (hm : X.mg "sorted" = none) (hv : bootBuiltins "sorted" = some (.builtin "sorted"))
  (he : starEach [e] X.env = (false, eval e X.env) :: starEach [] X.env := by rfl) : SL X (.Call (.Name "sorted" p) [e] [] pos) (mSrtV m) := by
 refine pe_imp (pe_callB ((call_sorted hu).or (call_sortedK hcalm hu)) hg hm hv (pa_cons h pa_nil he) (by decide) (by decide) he (by rfl)) ?_
 rintro σ H Q ⟨ρ, en, S, ds, S', E, R, e, k⟩
 unfold mSrtV at e
 obtain ⟨q, e1, e⟩ := Option.bind_eq_some_iff.mp e
 obtain ⟨ds0, e2, e⟩ := Option.bind_eq_some_iff.mp e
 split at e
 ·rename_i ok
  cases e
  refine ⟨ρ, en, S, q.1, q.2, E, R, e1, fun x ρ1 H1 X1 R1 d1 => ?_⟩
  obtain ⟨d, S1⟩ := q
  dsimp only at e2 d1 R1 k
  have fin : ∀ b xs', H1 b = none → DsR X.K ρ1 H1 (sortD ds0) xs' → Q (.ref b) (upd H1 b (.lst xs')) := fun l xs' hl d' => k l xs' ρ1 H1 X1 R1 hl d'
  cases d with
  | tup es =>
   cases e2
   obtain ⟨a, xs, rfl, a1, a2⟩ := d1.of_tup
   exact .inl ⟨a, xs, ρ1, _, rfl, .inr (.of a1), a2, ok, fin⟩
  | scr ns =>
   cases e2
   obtain ⟨a, rfl, a1⟩ := d1.of_scr
   exact .inl ⟨a, _, ρ1, _, rfl, .inl a1.seq, .ints ns, ok, fin⟩
  | ref n =>
   obtain ⟨a, a1, rfl⟩ := d1.of_ref
   obtain ⟨ob, eo, ro⟩ := R1.obj a1
   dsimp only [srtV] at e2
   rw [eo] at e2
   cases ob with
   | lst es =>
    cases e2
    obtain ⟨xs, x1, x2⟩ := ro
    exact .inl ⟨a, xs, ρ1, _, rfl, .inl (.of x1), x2, ok, fin⟩
   | dct kvs =>
    cases e2
    rcases ro with ⟨ks, xs, q1, q2, q3, q4⟩ | ⟨ks, xs, q1, q2, q3, q4⟩
    ·exact .inr ⟨a, ρ1, _, rfl, ok, fin, .inl ⟨ks, xs, .inl q1, q2, keys_DsR q3⟩⟩
    ·exact .inr ⟨a, ρ1, _, rfl, ok, fin, .inr ⟨_, q1, fun bs hb => keysT_DsR q3 q2 hb⟩⟩
   | fdct kvs =>
    cases e2
    obtain ⟨o, ks, xs, q1, q2, q3, q4⟩ := ro
    exact .inr ⟨a, ρ1, _, rfl, ok, fin, .inl ⟨ks, xs, .inr ⟨o, q1⟩, q2, keys_DsR q3⟩⟩
   | ins _ _ => cases e2
  | _ => cases e2
 ·cases e
end
end DL
namespace DL
open PySem PySem.Spec PyProof.Rows L2
section
variable {X : Cx} {e a b c : Expr} {es : List Expr} {pos : Pos}
def zipD (xs ys : List D) : List D := (xs.zip ys).map fun p => .tup [p.1, p.2]
def sideD : D → Sto → Option (List D × List (Nat × List D))
 | .tup ds, _ => some (ds, [])
 | .ref n, S => match S[n]? with | some (.lst ds) => some (ds, [(n, ds)]) | _ => none
 | _, _ => none
def gdZ : List (Nat × List D) → Gd
 | [] => .no
 | g => .zl g
def mZip (ma mb : M D) : M ItD := fun en S => (ma en S).bind fun p => (mb en p.2).bind fun q => (sideD p.1 q.2).bind fun x => (sideD q.1 q.2).map fun y => ((zipD x.1 y.1, gdZ (x.2 ++ y.2)), q.2)
theorem gdZ_ok {gs : List (Nat × List D)} {ds : List D} {S : Sto} (h : GdOk (gdZ gs) ds S) : ∀ p ∈ gs, S[p.1]? = some (.lst p.2) := by
 cases gs with
 | nil => intro p hp; cases hp
 | cons _ _ => exact h
def SdR (K : PySem.W.Frag) (ρ : List Addr) (H : Hp) (c : Bool) (l : Addr) (ds : List D) (gs : List (Nat × List D)) : Prop := (c = false ∧ ∃ vs, H l = some (.tup vs) ∧ DsR K ρ H ds vs) ∨ (c = true ∧ ∃ n, ρ[n]? = some l ∧ (n, ds) ∈ gs)
theorem sideD_ok {K : PySem.W.Frag} {ρ : List Addr} {H : Hp} {S : Sto} {d : D} {x : V} {r : List D × List (Nat × List D)} (R : StR K ρ H S) (h : DR K ρ H d x) (e : sideD d S = some r) : ∃ c l vs, x = .ref l ∧ TrS c H l vs ∧ SdR K ρ H c l r.1 r.2 := by
 cases d with
 | tup ds =>
  cases e
  obtain ⟨a, xs, rfl, a1, a2⟩ := h.of_tup
  exact ⟨false, a, xs, rfl, a1, .inl ⟨rfl, xs, a1, a2⟩⟩
 | ref n =>
  obtain ⟨a, a1, rfl⟩ := h.of_ref
  dsimp only [sideD] at e
  split at e
  ·rename_i ds hn
   cases e
   obtain ⟨xs, x1, x2⟩ := lst_of R a1 hn
   exact ⟨true, a, xs, rfl, x1, .inr ⟨rfl, n, a1, List.mem_cons_self⟩⟩
  ·cases e
 | _ => cases e
theorem SdR.mono {K : PySem.W.Frag} {ρ : List Addr} {H : Hp} {c : Bool} {l : Addr} {ds : List D} {gs gs' : List (Nat × List D)} (h : SdR K ρ H c l ds gs) (hs : ∀ p ∈ gs, p ∈ gs') : SdR K ρ H c l ds gs' := by
 rcases h with h | ⟨h1, n, h2, h3⟩
 ·exact .inl h
 ·exact .inr ⟨h1, n, h2, hs _ h3⟩
theorem SdR.at {K : PySem.W.Frag} {ρ0 ρ : List Addr} {H0 H : Hp} {S : Sto} {c : Bool} {l : Addr} {ds : List D} {gs : List (Nat × List D)} (h : SdR K ρ0 H0 c l ds gs) (X1 : Ext ρ0 H0 ρ H) (R : StR K ρ H S) (g : ∀ p ∈ gs, S[p.1]? = some (.lst p.2)) : ∃ vs, TrS c H l vs ∧ DsR K ρ H ds vs := by
 rcases h with ⟨rfl, vs, h1, h2⟩ | ⟨rfl, n, h1, h2⟩
 ·exact ⟨vs, X1.tup _ _ h1, h2.up X1⟩
 ·obtain ⟨xs, x1, x2⟩ := lst_of R (X1.pre n l h1) (g _ h2)
  exact ⟨xs, x1, x2⟩
theorem itr_zip {K : PySem.W.Frag} {ρ0 : List Addr} {H0 : Hp} {c1 c2 : Bool} {l1 l2 : Addr} {xs ys : List D} {gs : List (Nat × List D)} (s1 : SdR K ρ0 H0 c1 l1 xs gs) (s2 : SdR K ρ0 H0 c2 l2 ys gs) :
  ItR K ρ0 H0 (Itz c1 l1 c2 l2) (zipD xs ys) (gdZ gs) := by
 intro ρ H S X1 R g
 obtain ⟨vs, t1, d1⟩ := s1.at X1 R (gdZ_ok g)
 obtain ⟨ws, t2, d2⟩ := s2.at X1 R (gdZ_ok g)
 refine ⟨fun i d hd => ?_, vs, ws, t1, t2, ?_⟩
 ·unfold zipD at hd
  rw [List.getElem?_map] at hd
  obtain ⟨q, q1, q2⟩ := Option.map_eq_some_iff.mp hd
  obtain ⟨z1, z2⟩ := List.getElem?_zip_eq_some.mp q1
  obtain ⟨x, x1, x2⟩ := d1.get z1
  obtain ⟨y, y1, y2⟩ := d2.get z2
  refine ⟨⟨vs, ws, x, y, t1, t2, x1, y1⟩, fun v H' hy => ?_⟩
  obtain ⟨p, x', y', rfl, hn, rfl, e1, e2⟩ := hy
  have e1 := e1 _ t1
  have e2 := e2 _ t2
  rw [x1] at e1
  rw [y1] at e2
  cases e1
  cases e2
  subst q2
  exact ⟨Ext.new hn, R.new hn, .tup upd_same ((DsR.cons x2 (.cons y2 .nil)).up (Ext.new hn))⟩
 ·have l1 := d1.length
  have l2 := d2.length
  unfold zipD
  rw [List.length_map, List.length_zip]
  omega
theorem si_zip {elts : List Expr} {kt : Nat} {pt p : Pos} {ma mb : M D} (ha : SE X a ma) (hb : SE X b mb) (hg : Gl X "zip") (hm : X.mg "zip" = none) (hv : bootBuiltins "zip" = some (.type "zip"))
  (he : starEach [a, b] X.env = (false, eval a X.env) :: starEach [b] X.env := by rfl) (he2 : starEach [b] X.env = (false, eval b X.env) :: starEach [] X.env := by rfl) :
  SI X (.Tuple elts kt pt) (.Call (.Name "zip" p) [a, b] [] pos) (mZip ma mb) := by
 refine pi_imp (pi_zip hg hm hv (pa_cons ha (pa_cons hb pa_nil he2) he) he (by rw [he2]; rfl)) ?_
 rintro σ H Q ⟨ρ, en, S, r, S', E, R, e, k⟩
 unfold mZip at e
 obtain ⟨p, e1, e⟩ := Option.bind_eq_some_iff.mp e
 obtain ⟨q, e2, e⟩ := Option.bind_eq_some_iff.mp e
 obtain ⟨x, e3, e⟩ := Option.bind_eq_some_iff.mp e
 obtain ⟨y, e4, e⟩ := Option.map_eq_some_iff.mp e
 cases e
 refine ⟨ρ, en, S, p.1, p.2, E, R, e1, fun u ρ1 H1 X1 R1 d1 => ⟨ρ1, en, p.2, q.1, q.2, E.up X1, R1, e2, fun v ρ2 H2 X2 R2 d2 => ?_⟩⟩
 obtain ⟨c1, l1, vs, rfl, t1, s1⟩ := sideD_ok R2 (d1.up X2) e3
 obtain ⟨c2, l2, ws, rfl, t2, s2⟩ := sideD_ok R2 d2 e4
 refine ⟨c1, l1, vs, c2, l2, ws, rfl, t1, t2, k _ ρ2 H2 (X1.trans X2) R2 (itr_zip (s1.mono fun p hp => List.mem_append_left _ hp) (s2.mono fun p hp => List.mem_append_right _ hp)) ?_⟩
 show GF X (gdZ (x.2 ++ y.2)) ρ2 H
 cases x.2 ++ y.2 <;> trivial
theorem se_negc {n : Int} {j : Nat} {p2 : Pos} : SE X (.UnaryOp .USub (.Constant (.int n) j p2) pos) (mCon (.int (-n))) := by
 refine pe_imp (pe_un un_neg pe_int) ?_
 rintro σ H Q ⟨ρ, en, S, v, S', E, R, e, k⟩
 cases e
 exact ⟨n, rfl, k _ ρ H Ext.refl R .flat_int⟩
def mTwo (f : Int → Int → Int) (a b : M D) : M D := fun en S => (a en S).bind fun p => (b en p.2).bind fun q => match p.1, q.1 with | .int i, .int j => some (.int (f i j), q.2) | _, _ => none
def mInt1 (a : M D) : M D := fun en S => (a en S).bind fun p => match p.1 with | .int i => some (.int i, p.2) | .bl c => some (.int (if c then 1 else 0), p.2) | _ => none
theorem kitx_D {pins : List (Addr × Obj)} {σ : L2.St} {H : Hp} {s : Shared} {ρ : List Addr} {S : Sto} {d : D} {x : V} {u : Value} {T : String} (I : Inv X pins σ H s) (R : StR X.K ρ H S) (h : DR X.K ρ H d x) (rx : RelV x u) (e : tyD d S = some T) :
  ∃ Z, PySem.W.KitX X.K u (.type T) Z ∧ Z s.heap ∧ u ≠ .builtin "__main__.__loader__#opaque" := by
 cases d with
 | non => rw [h.of_non] at rx; cases e; cases (show u = Value.none from rx); exact ⟨_, PySem.W.kitx_none, True.intro, fun z => nomatch z⟩
 | bl b => rw [h.of_bl] at rx; cases e; cases (show u = Value.bool b from rx); exact ⟨_, PySem.W.kitx_bool, True.intro, fun z => nomatch z⟩
 | int i => rw [h.of_int] at rx; cases e; obtain ⟨t, q⟩ := (show ∃ t, u = Value.int i t from rx); cases q; exact ⟨_, PySem.W.kitx_int, True.intro, fun z => nomatch z⟩
 | str i => rw [h.of_str] at rx; cases e; obtain ⟨t, q⟩ := (show ∃ t, u = Value.str i t from rx); cases q; exact ⟨_, PySem.W.kitx_str, True.intro, fun z => nomatch z⟩
 | tup ds =>
  obtain ⟨a, xs, rfl, a1, _⟩ := h.of_tup
  cases e
  cases (show u = Value.ref a from rx)
  obtain ⟨its, rv, ⟨o, ho, hc, _⟩, _⟩ := I.tuple (.of a1)
  exact ⟨_, PySem.W.kitx_tuple, ⟨o, ho, hc⟩, fun z => nomatch z⟩
 | ref n =>
  obtain ⟨a, a1, rfl⟩ := h.of_ref
  cases (show u = Value.ref a from rx)
  obtain ⟨ob, eo, ro⟩ := R.obj a1
  dsimp only [tyD] at e
  rw [eo] at e
  cases ob with
  | lst ds =>
   cases e
   obtain ⟨xs, x1, _⟩ := ro
   obtain ⟨_, _, n, _, h1⟩ := (show ObjOk X.prog X.w H s.heap a (.lst xs) from I.hok a _ x1)
   exact ⟨_, PySem.W.kitx_list, ⟨_, h1, rfl⟩, fun z => nomatch z⟩
  | dct kvs =>
   cases e
   have : IsD H a := isD_ok R a1 (by unfold isDct; rw [eo])
   obtain ⟨t1, _⟩ := isD_at I this
   obtain ⟨o, ho, hc⟩ := t1
   exact ⟨_, PySem.W.kitx_dict, ⟨o, ho, hc⟩, fun z => nomatch z⟩
  | fdct _ => cases e
  | ins _ _ => cases e
 | scr ns => cases e
def mIsi2 (C1 C2 : String) (m : M D) : M D := fun en S => (m en S).bind fun p => (tyD p.1 p.2).map fun T => (.bl (isiT T C1 || isiT T C2), p.2)
theorem call_isi2 {C1 C2 : String} (h1 : Isi X.K C1) (h2 : Isi X.K C2) : CallR X (.builtin "isinstance") (fun xs H Q => ∃ x p ρ S d T, xs = [x, .ref p] ∧ H p = some (.tup [.ty C1, .ty C2]) ∧ StR X.K ρ H S ∧ DR X.K ρ H d x ∧ tyD d S = some T ∧ Q (.bl (isiT T C1 || isiT T C2)) H) := by
 intro pins s σ H xs us Q I r h
 obtain ⟨x, p, ρ, S, d, T, rfl, hp, R, dx, ty, q⟩ := h
 obtain ⟨u, w', rfl, ru, rw'⟩ := vals2 r
 cases rw'
 obtain ⟨Z, z1, z2, z3⟩ := kitx_D I R dx ru ty
 obtain ⟨its, rv, ⟨o, ho, hc, n, hd⟩, _⟩ := I.tuple (.of hp)
 obtain ⟨v1, v2, rfl, r1, r2⟩ := vals2 rv
 cases (show v1 = Value.type C1 from r1)
 cases (show v2 = Value.type C2 from r2)
 obtain ⟨oc, od, odt, osl⟩ := o
 dsimp only at hc hd
 subst hc hd
 refine PySem.W.kia_tup z1 I.kIn z2 ho (b := isiT T C1 || isiT T C2) ?_ z3 fun tk => ⟨.bl _, H, I.tok tk, rfl, q⟩
 unfold PySem.W.kitAny
 rw [h1 T (tyD_in ty)]
 cases isiT T C1 with
 | true => rfl
 | false =>
  dsimp only
  unfold PySem.W.kitAny
  rw [h2 T (tyD_in ty)]
  cases isiT T C2 <;> rfl
theorem se_isi2 {p p1 p2 p3 : Pos} {k3 : Nat} {C1 C2 : String} {x1 x2 : Str} {m : M D} (hi1 : Isi X.K C1) (hi2 : Isi X.K C2) (h : SE X a m) (hg : Gl X "isinstance") (hm : X.mg "isinstance" = none) (hv : bootBuiltins "isinstance" = some (.builtin "isinstance"))
  (hg1 : Gl X x1) (hm1 : X.mg x1 = none) (hv1 : bootBuiltins x1 = some (.type C1)) (hg2 : Gl X x2) (hm2 : X.mg x2 = none) (hv2 : bootBuiltins x2 = some (.type C2))
  (hn1 : x1 ≠ "__name__" := by decide) (hd1 : (x1 == ("__debug__" : Str)) = false := by decide) (hn2 : x2 ≠ "__name__" := by decide) (hd2 : (x2 == ("__debug__" : Str)) = false := by decide)
  (he : starEach [a, .Tuple [.Name x1 p1, .Name x2 p2] k3 p3] X.env = (false, eval a X.env) :: starEach [.Tuple [.Name x1 p1, .Name x2 p2] k3 p3] X.env := by rfl)
  (he2 : starEach [.Tuple [.Name x1 p1, .Name x2 p2] k3 p3] X.env = (false, eval (.Tuple [.Name x1 p1, .Name x2 p2] k3 p3) X.env) :: starEach [] X.env := by rfl)
  (hf1 : starEach [.Name x1 p1, .Name x2 p2] X.env = (false, eval (.Name x1 p1) X.env) :: starEach [.Name x2 p2] X.env := by rfl) (hf2 : starEach [.Name x2 p2] X.env = (false, eval (.Name x2 p2) X.env) :: starEach [] X.env := by rfl) :
  SE X (.Call (.Name "isinstance" p) [a, .Tuple [.Name x1 p1, .Name x2 p2] k3 p3] [] pos) (mIsi2 C1 C2 m) := by
 refine pe_imp (pe_callB (call_isi2 (C1 := C1) (C2 := C2) hi1 hi2) hg hm hv (pa_cons h (pa_cons (pe_tup (pa_cons (pe_bltn hg1 hm1 hv1 (show RelV (.ty C1) (.type C1) from rfl) hn1 hd1) (pa_cons (pe_bltn hg2 hm2 hv2 (show RelV (.ty C2) (.type C2) from rfl) hn2 hd2) pa_nil hf2) hf1)) pa_nil he2) he) (by decide) (by decide) he (by rw [he2]; rfl)) ?_
 rintro σ H Q ⟨ρ, en, S, v, S', E, R, e, k⟩
 unfold mIsi2 at e
 obtain ⟨r, e1, e⟩ := Option.bind_eq_some_iff.mp e
 obtain ⟨T, e2, e3⟩ := Option.map_eq_some_iff.mp e
 cases e3
 refine ⟨ρ, en, S, r.1, r.2, E, R, e1, fun x ρ1 H1 X1 R1 d1 => ⟨by show 2 ≤ sizeLine; decide, fun q hq => ⟨x, q, ρ1, r.2, r.1, T, rfl, upd_same, R1.new hq, d1.up (Ext.new hq), e2, k _ ρ1 _ (X1.trans (Ext.new hq)) (R1.new hq) .flat_bl⟩⟩⟩
def pairsD : List D → Option (List (D × D))
 | [] => some []
 | .tup [k, v] :: r => if (keyD k).isSome = true then (pairsD r).map fun ps => (k, v) :: ps else none
 | _ => none
def dmerge (kvs : List (D × D)) (ps : List (D × D)) : List (D × D) := ps.foldl (fun acc p => dput acc p.1 p.2) kvs
def mDictP (m : M D) : M D := fun en S => (m en S).bind fun p => match p.1 with
 | .tup ds => if ds.length ≤ sizeLine then (pairsD ds).map fun ps => (.ref p.2.length, p.2 ++ [.dct (dmerge [] ps)]) else none
 | _ => none
end
end DL
namespace DL
open PySem L2 PySem.Spec PyProof.Rows
section
variable {X : Cx} {e a d : Expr} {pos : Pos}
def strLt (ss : List Str) (i j : Nat) : Bool := decide ((ss.getD i default).cps.toList < (ss.getD j default).cps.toList)
def minS (ss : List Str) : Str := ss.getD (argBest (strLt ss) (ss.length - 1)) default
theorem strs_get : ∀ {ss : List Str} {vs : List Value}, Vals (ss.map V.str) vs → ∀ (i : Nat) v, vs[i]? = some v → ∃ t, v = .str (ss.getD i default) t
 | [], _, r, i, v, h => by cases r; cases h
 | s :: ss, _, r, i, v, h => by
  rw [List.map_cons] at r
  cases r with
  | cons r1 r2 =>
   cases i with
   | zero => cases h; exact r1
   | succ i => exact strs_get r2 i v h
theorem cmp_strs {prog : Program} {w : World} {A : Around} {ss : List Str} {vs : List Value} (r : Vals (ss.map V.str) vs) : CmpOf prog w A .Lt (fun i v => vs.toArray[i]? = some v) (strLt ss) := fun i j vi vj s Q E hi hj h => by
 obtain ⟨t, rfl⟩ := strs_get r i vi (by simpa using hi)
 obtain ⟨u, rfl⟩ := strs_get r j vj (by simpa using hj)
 show wpAny _ _ (compareOp .Lt _ _) _ _ _
 exact PySem.P.lt_str h
def tMinD (te td : TE) (K : PySem.W.Frag) : TE := fun σ H Q => te σ H fun x H1 => td σ H1 fun y H2 => ∃ p ss, x = .ref p ∧ SqL K H2 p (ss.map V.str) ∧ (ss = [] → Q y H2) ∧ (ss ≠ [] → Q (.str (minS ss)) H2)
theorem pe_minD {p kp : Pos} {te td : TE} (hcalm : X.calm = true) (h : PE X e te) (h2 : PE X d td) (hg : Gl X "min") (hm : X.mg "min" = none) (hv : bootBuiltins "min" = some (.builtin "min"))
  (he : starEach [e] X.env = (false, eval e X.env) :: starEach [] X.env := by rfl) (hall : (backToKw pos (keywordEach [⟨some "default", d, kp⟩] X.env)).all (·.1.isSome) = true := by rfl) (hks : (backToKw pos (keywordEach [⟨some "default", d, kp⟩] X.env)).filterMap (·.1) = [Str.ofString "default"] := by rfl)
  (hno : (backToKw pos (keywordEach [⟨some "default", d, kp⟩] X.env)).any (·.1.isNone) = false := by rfl) (hb : backTo pos (starEach [e] X.env) = (false, eval e X.env) :: backTo pos (starEach [] X.env) := by rfl) (hp : (backTo pos (starEach [e] X.env)).any (·.1) = false := by rfl) :
  PE X (.Call (.Name "min" p) [e] [⟨some "default", d, kp⟩] pos) (tMinD te td X.K) := by
 intro pins s σ H Q I hq
 have hh : X.A.handled = none := I.ok.hd hcalm
 refine wpAny_Call_Name_kw (ld_blt I hg hm hv ?_ (by decide) (by decide))
 let Q1 : List V → Hp → Prop := fun vs H1 => match vs with
  | [x] => td σ H1 fun y H2 => ∃ p ss, x = .ref p ∧ SqL X.K H2 p (ss.map V.str) ∧ (ss = [] → Q y H2) ∧ (ss ≠ [] → Q (.str (minS ss)) H2)
  | _ => False
 refine callWith_kw (thn ((pa_cons h pa_nil he) pos pins s σ H Q1 I hq) fun us s1 ⟨vs, H1, I1, r1, q1⟩ => ?_) hb hp hall hno
 match vs, r1, q1 with
 | [x], r1, q1 =>
  obtain ⟨u, rfl, ru⟩ := vals1 r1
  let Q2 : List V → Hp → Prop := fun vs H2 => match vs with
   | [y] => ∃ p ss, x = .ref p ∧ SqL X.K H2 p (ss.map V.str) ∧ (ss = [] → Q y H2) ∧ (ss ≠ [] → Q (.str (minS ss)) H2)
   | _ => False
  refine thn ((pk_cons (nm := some (Str.ofString "default")) (kpos := kp) h2 pk_nil) pos pins s1 σ H1 Q2 I1 q1) fun ws s2 ⟨zs, H2, I2, rz, q2⟩ => ?_
  match zs, rz, q2 with
  | [y], rz, q2 =>
   obtain ⟨dv, rfl, rd⟩ := vals1 rz
   obtain ⟨l, ss, rfl, hl, k1, k2⟩ := q2
   cases ru
   rw [hks]
   obtain ⟨its, rv, pl, hz⟩ := I2.list hl
   have hL := pl.isList
   have hlt : l < s2.heap.objs.size := by obtain ⟨o, ho, _⟩ := id hL; exact Heap.lt_size ho
   refine call_minD (d := dv) (wpAny_pyIter_list hL ?_)
   have hsz : its.toArray.size = ss.length := by rw [List.size_toArray, ← rv.length, List.length_map]
   have keepI : ∀ (g : Heap), (∀ b o, b ∉ [s2.heap.objs.size] → (s2.heap.push { cls := .type "list_iterator", data := .fields #[.ref l, .int 0 0] }).get? b = some o → g.get? b = some o) → ∀ b o, s2.heap.get? b = some o → g.get? b = some o := fun g kp b o eb => kp b o (by simp only [List.mem_cons, List.not_mem_nil, or_false]; exact Nat.ne_of_lt (Heap.lt_size eb)) (Heap.get?_push_of_some _ eb)
   refine ⟨s2.heap.objs.size, _, _, its.toArray.size, _, _, strLt ss, rfl, Walks.list (by simpa using hh) s2.heap.objs.size l (Nat.ne_of_lt hlt) its.toArray, ⟨⟨_, Heap.get?_push_size _ rfl, rfl, rfl⟩, hL.push _⟩, ?_, cmp_strs rv, fun z g tk kp => ?_, fun z v g tk hv kp => ?_⟩
   ·intro b hb
    simp only [List.mem_cons, List.not_mem_nil, or_false] at hb
    rw [Heap.size_push]
    rcases hb with rfl | rfl
    ·exact Nat.lt_succ_self _
    ·exact Nat.lt_succ_of_lt hlt
   ·exact ⟨y, H2, I2.kept (t' := tk) (keepI g kp), rd, k1 (by rw [hsz] at z; exact List.length_eq_zero_iff.mp z)⟩
   ·obtain ⟨t, rfl⟩ := strs_get rv _ v (by simpa using hv)
    rw [hsz] at z
    rw [show its.length = ss.length by rw [← rv.length, List.length_map]]
    exact ⟨.str (minS ss), H2, I2.kept (t' := tk) (keepI g kp), ⟨t, rfl⟩, k2 (fun w => by rw [w] at z; exact absurd z (Nat.lt_irrefl _))⟩
  | [], _, q2 => exact q2.elim
  | _ :: _ :: _, _, q2 => exact q2.elim
 | [], _, q1 => exact q1.elim
 | _ :: _ :: _, _, q1 => exact q1.elim
def mMinD (ma md : M D) : M D := fun en S => (ma en S).bind fun p => (md en p.2).bind fun q => match p.1 with
 | .ref n => match q.2[n]? with
  | some (.lst ds) => (strsD ds).map fun ss => (if ss.isEmpty then q.1 else .str (minS ss), q.2)
  | _ => none
 | _ => none
theorem se_minD {p kp : Pos} {ma md : M D} (hcalm : X.calm = true) (h : SE X e ma) (h2 : SE X d md) (hg : Gl X "min") (hm : X.mg "min" = none) (hv : bootBuiltins "min" = some (.builtin "min"))
  (he : starEach [e] X.env = (false, eval e X.env) :: starEach [] X.env := by rfl) (hall : (backToKw pos (keywordEach [⟨some "default", d, kp⟩] X.env)).all (·.1.isSome) = true := by rfl) (hks : (backToKw pos (keywordEach [⟨some "default", d, kp⟩] X.env)).filterMap (·.1) = [Str.ofString "default"] := by rfl)
  (hno : (backToKw pos (keywordEach [⟨some "default", d, kp⟩] X.env)).any (·.1.isNone) = false := by rfl) (hb : backTo pos (starEach [e] X.env) = (false, eval e X.env) :: backTo pos (starEach [] X.env) := by rfl) (hp : (backTo pos (starEach [e] X.env)).any (·.1) = false := by rfl) :
  SE X (.Call (.Name "min" p) [e] [⟨some "default", d, kp⟩] pos) (mMinD ma md) := by
 refine pe_imp (pe_minD hcalm h h2 hg hm hv he hall hks hno hb hp) ?_
 rintro σ H Q ⟨ρ, en, S, v, S', E, R, e, k⟩
 unfold mMinD at e
 obtain ⟨⟨d1, S1⟩, e1, e⟩ := Option.bind_eq_some_iff.mp e
 obtain ⟨⟨d2, S2⟩, e2, e⟩ := Option.bind_eq_some_iff.mp e
 cases d1 with
 | ref n =>
  dsimp only at e
  split at e
  ·rename_i ds hn
   obtain ⟨ss, e3, e4⟩ := Option.map_eq_some_iff.mp e
   cases e4
   refine ⟨ρ, en, S, .ref n, S1, E, R, e1, fun x ρ1 H1 X1 R1 d1 => ⟨ρ1, en, S1, d2, _, E.up X1, R1, e2, fun y ρ2 H2 X2 R2 d2 => ?_⟩⟩
   obtain ⟨a, a1, rfl⟩ := (d1.up X2).of_ref
   obtain ⟨ob, eo, ro⟩ := R2.obj a1
   rw [hn] at eo
   cases eo
   obtain ⟨xs, x1, x2⟩ := ro
   refine ⟨a, ss, rfl, ?_, fun z => ?_, fun z => ?_⟩
   ·rw [← strsD_ok x2 e3]; exact .of x1
   ·subst z
    exact k y ρ2 H2 (X1.trans X2) R2 d2
   ·have hz : ss.isEmpty = false := by cases ss with
     | nil => exact absurd rfl z
     | cons _ _ => rfl
    rw [hz] at k
    exact k _ ρ2 H2 (X1.trans X2) R2 .flat_str
  ·cases e
 | _ => cases e
def tLenSet (te : TE) (K : PySem.W.Frag) : TE := fun σ H Q => te σ H fun x H1 => ∃ (p : Addr) (ss : List Str), x = .ref p ∧ SqL K H1 p (ss.map V.str) ∧ ss.length < 4000 ∧ Q (.int (dN (fun i => ss.getD i default) ss.length)) H1
theorem pe_lenSet {p p2 pos2 : Pos} {te : TE} (hcalm : X.calm = true) (h : PE X e te) (hg : Gl X "len") (hm : X.mg "len" = none) (hv : bootBuiltins "len" = some (.builtin "len")) (hg2 : Gl X "set") (hm2 : X.mg "set" = none) (hv2 : bootBuiltins "set" = some (.type "set"))
  (he : starEach [e] X.env = (false, eval e X.env) :: starEach [] X.env := by rfl) (he2 : starEach [.Call (.Name "set" p2) [e] [] pos2] X.env = (false, eval (.Call (.Name "set" p2) [e] [] pos2) X.env) :: starEach [] X.env := by rfl) :
  PE X (.Call (.Name "len" p) [.Call (.Name "set" p2) [e] [] pos2] [] pos) (tLenSet te X.K) := by
 intro pins s σ H Q I hq
 have hh : X.A.handled = none := I.ok.hd hcalm
 refine wpAny_Call_Name_kw (ld_blt I hg hm hv ?_ (by decide) (by decide))
 refine PyProof.Rows.callWith_builtin1 ?_ he2 rfl
 rw [he2]
 show wpAny _ _ (spliced ((false, eval (.Call (.Name "set" p2) [e] [] pos2) X.env) :: backTo pos (starEach [] X.env))) _ _ s
 refine Calls.spliced_cons ?_
 refine wpAny_Call_Name_kw (ld_blt I hg2 hm2 hv2 ?_ (by decide) (by decide))
 let Q1 : List V → Hp → Prop := fun vs H1 => match vs with
  | [x] => ∃ (p : Addr) (ss : List Str), x = .ref p ∧ SqL X.K H1 p (ss.map V.str) ∧ ss.length < 4000 ∧ Q (.int (dN (fun i => ss.getD i default) ss.length)) H1
  | _ => False
 refine PyProof.Rows.callWith_type1 (thn ((pa_cons h pa_nil he) pos2 pins s σ H Q1 I hq) fun us s1 ⟨vs, H1, I1, r1, q1⟩ => ?_) he rfl
 match vs, r1, q1 with
 | [x], r1, q1 =>
  obtain ⟨u, rfl, ru⟩ := vals1 r1
  obtain ⟨l, ss, rfl, hl, hz, k⟩ := q1
  cases ru
  obtain ⟨its, rv, pl, _⟩ := I1.list hl
  have hsz : its.toArray.size = ss.length := by rw [List.size_toArray, ← rv.length, List.length_map]
  refine call_setK (strKind X.prog X.w) (fun i => ss.getD i default) hh pl.isList (fun i v hv => ?_) (by rw [hsz]; unfold scanBound; omega) fun h' tk hS keep => ?_
  ·obtain ⟨t, rfl⟩ := strs_get rv i v (by simpa using hv)
   exact ⟨strKind_is _ _ _ _, rfl⟩
  ·refine Calls.spliced_nil ?_
   obtain ⟨o, es, ep, t, ho, hex, hd, _, _, hb, hf, hn⟩ := hS
   have I2 := I1.kept (h' := h') (t' := tk) fun b u e => keep b u (Heap.lt_size e) e
   refine call_len_set ho hex hd hf (by unfold scanBound at hb; omega) ?_
   rw [hn, hsz]
   exact ⟨.int _, H1, I2.tok _, ⟨_, rfl⟩, k⟩
 | [], _, q1 => exact q1.elim
 | _ :: _ :: _, _, q1 => exact q1.elim
def mLenSet (ma : M D) : M D := fun en S => (ma en S).bind fun p => match p.1 with
 | .ref n => match p.2[n]? with
  | some (.lst ds) => (strsD ds).bind fun ss => if ss.length < 4000 then some (.int (dN (fun i => ss.getD i default) ss.length), p.2) else none
  | _ => none
 | _ => none
theorem se_lenSet {p p2 pos2 : Pos} {ma : M D} (hcalm : X.calm = true) (h : SE X e ma) (hg : Gl X "len") (hm : X.mg "len" = none) (hv : bootBuiltins "len" = some (.builtin "len")) (hg2 : Gl X "set") (hm2 : X.mg "set" = none) (hv2 : bootBuiltins "set" = some (.type "set"))
  (he : starEach [e] X.env = (false, eval e X.env) :: starEach [] X.env := by rfl) (he2 : starEach [.Call (.Name "set" p2) [e] [] pos2] X.env = (false, eval (.Call (.Name "set" p2) [e] [] pos2) X.env) :: starEach [] X.env := by rfl) :
  SE X (.Call (.Name "len" p) [.Call (.Name "set" p2) [e] [] pos2] [] pos) (mLenSet ma) := by
 refine pe_imp (pe_lenSet hcalm h hg hm hv hg2 hm2 hv2 he he2) ?_
 rintro σ H Q ⟨ρ, en, S, v, S', E, R, e, k⟩
 unfold mLenSet at e
 obtain ⟨⟨d1, S1⟩, e1, e⟩ := Option.bind_eq_some_iff.mp e
 cases d1 with
 | ref n =>
  dsimp only at e
  split at e
  ·rename_i ds hn
   obtain ⟨ss, e3, e4⟩ := Option.bind_eq_some_iff.mp e
   split at e4
   ·rename_i hz
    cases e4
    refine ⟨ρ, en, S, .ref n, _, E, R, e1, fun x ρ1 H1 X1 R1 d1 => ?_⟩
    obtain ⟨a, a1, rfl⟩ := d1.of_ref
    obtain ⟨ob, eo, ro⟩ := R1.obj a1
    rw [hn] at eo
    cases eo
    obtain ⟨xs, x1, x2⟩ := ro
    exact ⟨a, ss, rfl, by rw [← strsD_ok x2 e3]; exact .of x1, hz, k _ ρ1 H1 X1 R1 .flat_int⟩
   ·cases e4
  ·cases e
 | _ => cases e
end
end DL
namespace DL
open PySem L2
theorem trim_same (S : Sto) (v : D) : trim S (v, S) = (v, S) := by unfold trim; split <;> rfl
theorem trim_push (S G : Sto) (v : D) (h : lowD S.length v = true) : trim S (v, S ++ G) = (v, S) := by
 unfold trim
 rw [if_pos ⟨by simp, h⟩]
theorem atI_ok {α : Type} {xs : List α} {i : Int} (h0 : 0 ≤ i) (h1 : i < xs.length) : ∃ a, a ∈ xs ∧ xs[i.toNat]? = some a ∧ atI xs i = some a := by
 obtain ⟨n, rfl⟩ := Int.eq_ofNat_of_zero_le h0
 have hn : n < xs.length := by omega
 refine ⟨xs[n], List.getElem_mem hn, by simp [hn], atI_nat (by simp [hn])⟩
def cs (x : Str) : List Nat := x.cps.toList
theorem len_cs (x : Str) : x.length = (cs x).length := by simp [Str.length, cs]
theorem cs_join_empty (ys : List Str) : cs (Txt.join (Str.ofString "") ys) = ys.flatMap cs := by
 have e : (Str.ofString "").cps = #[] := by decide +kernel
 have key : ∀ (l : List Str) (acc : Array Nat), (l.foldl (fun acc p => acc ++ (Str.ofString "").cps ++ p.cps) acc).toList = acc.toList ++ l.flatMap cs := by
  intro l
  induction l with
  | nil => intro acc; simp
  | cons p l ih => intro acc; rw [List.foldl_cons, ih, e]; simp [cs]
 unfold Txt.join Builtin.Str.glued
 cases ys with
 | nil => rfl
 | cons y ys => exact key ys y.cps
end DL
namespace DL
open PySem PySem.Spec PyProof.Rows L2
section
variable {X : Cx} {e a b c : Expr} {es : List Expr} {pos : Pos}
theorem sv (i : Nat) {x : Str} {pos : Pos} (hN : X.N[i]? = some x := by rfl) (hv : Vis X.env.scope x := by first | exact Or.inl rfl | exact Or.inr (Or.inl rfl) | exact Or.inr (Or.inr rfl)) (hd : (x == ("__debug__" : Str)) = false := by decide)
  (hcd : (x == ("__classdict__" : Str)) = false := by decide) : SE X (.Name x pos) (mVar i) := se_var i (pe_var hN hv hd hcd)
theorem free_in {scope : Scope} (names0 : List (Str × NameKind)) (h0 : X.env.scope.names = names0) (h : ∀ y ∈ scope.names, y.2 = .free → names0.lookup y.1 = some .cell ∨ names0.lookup y.1 = some .free) :
  ∀ y ∈ scope.names, y.2 = .free → X.env.scope.names.lookup y.1 = some .cell ∨ X.env.scope.names.lookup y.1 = some .free := by rw [h0]; exact h
theorem isi_mk {K : PySem.W.Frag} {C : String} (h1 : PySem.W.kitOne K (.type "NoneType") (.type C) = some (isiT "NoneType" C)) (h2 : PySem.W.kitOne K (.type "bool") (.type C) = some (isiT "bool" C)) (h3 : PySem.W.kitOne K (.type "int") (.type C) = some (isiT "int" C))
  (h4 : PySem.W.kitOne K (.type "str") (.type C) = some (isiT "str" C)) (h5 : PySem.W.kitOne K (.type "tuple") (.type C) = some (isiT "tuple" C)) (h6 : PySem.W.kitOne K (.type "list") (.type C) = some (isiT "list" C)) (h7 : PySem.W.kitOne K (.type "dict") (.type C) = some (isiT "dict" C)) : Isi K C := by
 intro T hT
 simp only [List.mem_cons, List.not_mem_nil, or_false] at hT
 rcases hT with rfl | rfl | rfl | rfl | rfl | rfl | rfl
 ·exact h1
 ·exact h2
 ·exact h3
 ·exact h4
 ·exact h5
 ·exact h6
 ·exact h7
theorem isi_str (K : PySem.W.Frag) : Isi K "str" := isi_mk (by kernel_rfl) (by kernel_rfl) (by kernel_rfl) (by kernel_rfl) (by kernel_rfl) (by kernel_rfl) (by kernel_rfl)
theorem isi_int (K : PySem.W.Frag) : Isi K "int" := isi_mk (by kernel_rfl) (by kernel_rfl) (by kernel_rfl) (by kernel_rfl) (by kernel_rfl) (by kernel_rfl) (by kernel_rfl)
theorem isi_bool (K : PySem.W.Frag) : Isi K "bool" := isi_mk (by kernel_rfl) (by kernel_rfl) (by kernel_rfl) (by kernel_rfl) (by kernel_rfl) (by kernel_rfl) (by kernel_rfl)
theorem isi_tuple (K : PySem.W.Frag) : Isi K "tuple" := isi_mk (by kernel_rfl) (by kernel_rfl) (by kernel_rfl) (by kernel_rfl) (by kernel_rfl) (by kernel_rfl) (by kernel_rfl)
theorem se_join' {p : Pos} {sep : M D} {m : M (List D)} (hs : SE X a sep) (h : SQ X e m) (he : starEach [e] X.env = (false, eval e X.env) :: starEach [] X.env := by rfl)
  (hbase : attributeBase a ("join" : Str) X.env (eval a X.env) = eval a X.env := by rfl)
  (hfew : ((backTo pos (starEach [e] X.env)).all (fun x => !x.1) && (backToKw pos (keywordEach [] X.env)).all (fun x => x.1.isSome)
   && decide ([e].length + ([] : List Keyword).length + (if ([] : List Keyword).isEmpty then 0 else 1) < 30)) = true := by rfl)
  (hline : (p.endLine == pos.line) = true := by rfl) (hplain : (backTo pos (starEach [] X.env)).any (·.1) = false := by rfl) :
  SE X (.Call (.Attribute a "join" p) [e] [] pos) (mJoin sep m) :=
 se_join hs h (pa_cons h pa_nil he) (pe_bm PySem.F.plainAttrs_str PySem.F.slot_str_join PySem.F.type_str_join mt_join hs (pa_cons h pa_nil he) hbase hfew hline he hplain)
end
structure Own (K : PySem.W.Frag) (mg : Str → Option Value) (x : Str) (st : Stmt) (f : Addr) (fd : FuncData) (ps : List Str) : Prop where
 fn : Fun K x x st f fd
 mgf : mg x = some (.ref f)
 b : Binds K fd ps []
theorem fn_none {P : Program} {w : World} {K : PySem.W.Frag} {mg : Str → Option Value} {base : Heap} {k n : Nat} {f : Addr} {fd : FuncData} {ps : List Str} (hn : ps.length = n) : FnOk P w K mg base CX0 k f fd ps (spD K n fun _ _ => none) :=
 ⟨fun vs H Q E h => by rw [h.1, hn], fun A outer s H args us vs Q E _ _ _ _ h => by
  obtain ⟨_, ρ, S, ds, v, S', _, _, e, _⟩ := h
  cases e⟩
theorem walk_d {l : PySem.W.OpenLaw} {k : Nat} {q : Program} {loose : List Str} {XP : (Str → Option Value) → Heap → Prop} {YP : World → Heap → Prop} {d : DefRec} {K : Params → PySem.W.Frag} {x : Str} {F : List D → Sto → Option (D × Sto)}
  (hn : l.most = some 63) (hdf : d.params.defaults = []) (hr : Room k callerA)
  (hY : ∀ (w : World) (h : Heap), YP w h → (K w.params).In h)
  (hF : ∀ (w : World) (mg : Str → Option Value) (fa : Addr) (h : Heap), (K w.params).In h → h.Ns mainGlobals mg → mg d.name = some (.ref fa) →
   ∃ fd : FuncData, (∀ (s : Shared) (u : Value), BindsTo s fd ⟨[u], []⟩ [(x, u)]) ∧
    ∀ base : Heap, (K w.params).In base → base.Ns mainGlobals mg → FnOk l.prog w (K w.params) mg base CX0 k fa fd [x] (spD (K w.params) 1 F))
  (hl : ∀ ns : List Int, ns.length ≤ 63 → ∃ S', F [.scr ns] [] = some (.bl true, S')) :
  PySem.W.WalkO q loose XP YP l.row.toRowW d [] (fun f vs => PySem.call f vs) := by
 refine L2.walk_of (n := 63) (k := k) (x := x) (CX := fun _ => CX0) (sp := fun w => spD (K w.params) 1 F) hn (by decide) hdf hr hY hF (fun w H a ns hlen hO hS => ?_) fun _ _ _ _ _ z => z
 obtain ⟨S', e⟩ := hl ns hlen
 have hs : ScrR (K w.params) H a ns := by
  rcases hS with (h | ⟨o, h⟩) | h
  ·rcases hO a with z | ⟨o, xs, z⟩
   ·rw [h] at z; cases z
   ·rw [h] at z; cases z
  ·exact .inl ⟨o, h⟩
  ·exact .inr h
 refine ⟨rfl, [], [], [.scr ns], .bl true, S', ⟨rfl, fun i j a h => by simp at h, fun n ob h => by simp at h⟩, .cons (by unfold DR; exact ⟨a, rfl, hs⟩) .nil, e, fun z ρ' H' _ _ dz => dz.of_bl⟩
end DL
namespace DL
open PySem L2
section
variable {a b c : M D} {ba bb : M Bool} {sa sb : MS} {ms : M (List D)} {en en' : En} {S S' : Sto} {x y v : D} {g g' : D → D → Sto → Option (D × Sto)} {F : List D → Sto → Option (D × Sto)}
def kSeq (b : MS) : Option (Fl × En × Sto) → Option (Fl × En × Sto)
 | some (.nx, en, S) => b en S
 | r => r
theorem e_seq : mSeq sa sb en S = kSeq sb (sa en S) := by
 unfold mSeq
 cases sa en S with
 | none => rfl
 | some p => obtain ⟨f, e, s⟩ := p; cases f <;> rfl
theorem k_seq : kSeq sb (some (.nx, en, S)) = sb en S := rfl
theorem k_seq_rt : kSeq sb (some (.rt v, en, S)) = some (.rt v, en, S) := rfl
theorem k_seq_bk : kSeq sb (some (.bk, en, S)) = some (.bk, en, S) := rfl
theorem k_seq_ct : kSeq sb (some (.ct, en, S)) = some (.ct, en, S) := rfl
theorem e_nx : mNx en S = some (.nx, en, S) := rfl
theorem e_bk : mBk en S = some (.bk, en, S) := rfl
theorem e_ct : mCt en S = some (.ct, en, S) := rfl
def kAsg (g : D → En → Option En) (en : En) : Option (D × Sto) → Option (Fl × En × Sto)
 | some (v, S) => (g v en).map fun en' => (.nx, en', S)
 | none => none
theorem e_asg {g : D → En → Option En} : mAsg a g en S = kAsg g en (a en S) := by
 unfold mAsg
 cases a en S <;> rfl
theorem k_asg {i : Nat} : kAsg (gN i) en (some (v, S)) = some (.nx, en.set i (some v), S) := rfl
theorem k_asgT {n : Nat} {gs : List D → En → Option En} : kAsg (gT n gs) en (some (v, S)) = (gT n gs v en).map fun en' => (.nx, en', S) := rfl
theorem e_gT {n : Nat} {gs : List D → En → Option En} {ds : List D} (h : ds.length = n) : gT n gs (.tup ds) en = gs ds en := if_pos h
theorem e_gsC {i : Nat} {gs : List D → En → Option En} {ds : List D} : gsCons (gN i) gs (v :: ds) en = gs ds (en.set i (some v)) := rfl
theorem e_gsN : gsNil [] en = some en := rfl
def kRet (en : En) : Option (D × Sto) → Option (Fl × En × Sto)
 | some (v, S) => some (.rt v, en, S)
 | none => none
theorem e_ret : mRet a en S = kRet en (a en S) := by
 unfold mRet
 cases a en S <;> rfl
theorem k_ret : kRet en (some (v, S)) = some (.rt v, en, S) := rfl
theorem e_retN : mRetN en S = some (.rt .non, en, S) := rfl
def kDrop (en : En) : Option (D × Sto) → Option (Fl × En × Sto)
 | some (_, S) => some (.nx, en, S)
 | none => none
theorem e_drop : mDrop a en S = kDrop en (a en S) := by
 unfold mDrop
 cases a en S <;> rfl
theorem k_drop : kDrop en (some (v, S)) = some (.nx, en, S) := rfl
def kIfS (sa sb : MS) (en : En) : Option (Bool × Sto) → Option (Fl × En × Sto)
 | some (c, S) => if c = true then sa en S else sb en S
 | none => none
theorem e_ifS : mIfS ba sa sb en S = kIfS sa sb en (ba en S) := by
 unfold mIfS
 cases ba en S <;> rfl
theorem k_ifS {c : Bool} : kIfS sa sb en (some (c, S)) = if c = true then sa en S else sb en S := rfl
def kV1 (S : Sto) : Option D → Option (D × Sto)
 | some d => some (d, S)
 | none => none
theorem e_var {i : Nat} : mVar i en S = kV1 S (en[i]?.getD none) := by
 unfold mVar
 cases en[i]?.getD none <;> rfl
theorem k_v1 : kV1 S (some x) = some (x, S) := rfl
theorem e_con : mCon x en S = some (x, S) := rfl
def kOp1 (g : D → D → Sto → Option (D × Sto)) (b : M D) (en : En) : Option (D × Sto) → Option (D × Sto)
 | some (x, S) => (b en S).bind fun q => g x q.1 q.2
 | none => none
def kOp2 (g : D → D → Sto → Option (D × Sto)) (x : D) : Option (D × Sto) → Option (D × Sto)
 | some (y, S) => g x y S
 | none => none
theorem e_op : mOp g a b en S = kOp1 g b en (a en S) := by
 unfold mOp
 cases a en S <;> rfl
theorem k_op1 : kOp1 g b en (some (x, S)) = kOp2 g x (b en S) := by
 show (b en S).bind _ = _
 cases b en S <;> rfl
theorem k_op2 : kOp2 g x (some (y, S)) = g x y S := rfl
def kT : Option (D × Sto) → Option (Bool × Sto)
 | some (.bl b, S) => some (b, S)
 | _ => none
theorem e_T : mT a en S = kT (a en S) := by
 unfold mT
 cases a en S with
 | none => rfl
 | some p => obtain ⟨d, s⟩ := p; cases d <;> rfl
theorem k_T {t : Bool} : kT (some (.bl t, S)) = some (t, S) := rfl
def kTru : Option (D × Sto) → Option (Bool × Sto)
 | some (d, S) => (truD d S).map fun b => (b, S)
 | none => none
theorem e_Tru : mTru a en S = kTru (a en S) := by
 unfold mTru
 cases a en S <;> rfl
theorem k_TruB {t : Bool} : kTru (some (.bl t, S)) = some (t, S) := rfl
def kAnd (b : M Bool) (en : En) : Option (Bool × Sto) → Option (Bool × Sto)
 | some (c, S) => if c = true then b en S else some (false, S)
 | none => none
def kOr (b : M Bool) (en : En) : Option (Bool × Sto) → Option (Bool × Sto)
 | some (c, S) => if c = true then some (true, S) else b en S
 | none => none
def kNot : Option (Bool × Sto) → Option (Bool × Sto)
 | some (c, S) => some (!c, S)
 | none => none
theorem e_and : mAnd ba bb en S = kAnd bb en (ba en S) := by
 unfold mAnd
 cases ba en S <;> rfl
theorem e_or : mOr ba bb en S = kOr bb en (ba en S) := by
 unfold mOr
 cases ba en S <;> rfl
theorem e_not : mNot ba en S = kNot (ba en S) := by
 unfold mNot
 cases ba en S <;> rfl
theorem k_and {c : Bool} : kAnd bb en (some (c, S)) = if c = true then bb en S else some (false, S) := rfl
theorem k_or {c : Bool} : kOr bb en (some (c, S)) = if c = true then some (true, S) else bb en S := rfl
theorem k_not {c : Bool} : kNot (some (c, S)) = some (!c, S) := rfl
def kVAnd (b : M D) (en : En) : Option (D × Sto) → Option (D × Sto)
 | some (d, S) => (truD d S).bind fun c => if c = true then b en S else some (d, S)
 | none => none
def kVOr (b : M D) (en : En) : Option (D × Sto) → Option (D × Sto)
 | some (d, S) => (truD d S).bind fun c => if c = true then some (d, S) else b en S
 | none => none
def kVNot : Option (D × Sto) → Option (D × Sto)
 | some (d, S) => (truD d S).map fun c => (.bl (!c), S)
 | none => none
theorem e_vand : vAnd a b en S = kVAnd b en (a en S) := by
 unfold vAnd
 cases a en S <;> rfl
theorem e_vor : vOr a b en S = kVOr b en (a en S) := by
 unfold vOr
 cases a en S <;> rfl
theorem e_vnot : vNot a en S = kVNot (a en S) := by
 unfold vNot
 cases a en S <;> rfl
theorem k_vand {c : Bool} : kVAnd b en (some (.bl c, S)) = if c = true then b en S else some (.bl false, S) := by cases c <;> rfl
theorem k_vor {c : Bool} : kVOr b en (some (.bl c, S)) = if c = true then some (.bl true, S) else b en S := by cases c <;> rfl
theorem k_vnot {c : Bool} : kVNot (some (.bl c, S)) = some (.bl (!c), S) := rfl
theorem k_vnotL {ds : List D} {n : Nat} (h : S[n]? = some (.lst ds)) : kVNot (some (.ref n, S)) = some (.bl ds.isEmpty, S) := by
 show (truD (.ref n) S).map _ = _
 dsimp only [truD]
 rw [h]
 simp
def kIf (a b : M D) (en : En) : Option (Bool × Sto) → Option (D × Sto)
 | some (c, S) => if c = true then a en S else b en S
 | none => none
theorem e_if : mIf ba a b en S = kIf a b en (ba en S) := by
 unfold mIf
 cases ba en S <;> rfl
theorem k_if {c : Bool} : kIf a b en (some (c, S)) = if c = true then a en S else b en S := rfl
def kCh1 (g g' : D → D → Sto → Option (D × Sto)) (b c : M D) (en : En) : Option (D × Sto) → Option (D × Sto)
 | some (x, S) => (b en S).bind fun q => (g x q.1 q.2).bind fun r => match r.1 with
  | .bl true => (c en r.2).bind fun w => g' q.1 w.1 w.2
  | .bl false => some (.bl false, r.2)
  | _ => none
 | none => none
def kCh2 (g g' : D → D → Sto → Option (D × Sto)) (x : D) (c : M D) (en : En) : Option (D × Sto) → Option (D × Sto)
 | some (y, S) => (g x y S).bind fun r => match r.1 with
  | .bl true => (c en r.2).bind fun w => g' y w.1 w.2
  | .bl false => some (.bl false, r.2)
  | _ => none
 | none => none
def kCh3 (g' : D → D → Sto → Option (D × Sto)) (y : D) (c : M D) (en : En) : Option (D × Sto) → Option (D × Sto)
 | some (.bl t, S) => if t = true then kOp2 g' y (c en S) else some (.bl false, S)
 | _ => none
theorem e_chain : mChain g g' a b c en S = kCh1 g g' b c en (a en S) := by
 unfold mChain
 cases a en S <;> rfl
theorem k_ch1 : kCh1 g g' b c en (some (x, S)) = kCh2 g g' x c en (b en S) := by
 show (b en S).bind _ = _
 cases b en S <;> rfl
theorem k_ch2 : kCh2 g g' x c en (some (y, S)) = kCh3 g' y c en (g x y S) := by
 show (g x y S).bind _ = _
 cases g x y S with
 | none => rfl
 | some r =>
  obtain ⟨d, s⟩ := r
  cases d with
  | bl t =>
   cases t
   ·rfl
   ·show (c en s).bind _ = kOp2 g' y (c en s)
    cases c en s <;> rfl
  | _ => rfl
theorem k_ch3 {t : Bool} : kCh3 g' y c en (some (.bl t, S)) = if t = true then kOp2 g' y (c en S) else some (.bl false, S) := rfl
theorem e_nil : mNil en S = some ([], S) := rfl
def kCons (r : M (List D)) (en : En) : Option (D × Sto) → Option (List D × Sto)
 | some (x, S) => (r en S).map fun q => (x :: q.1, q.2)
 | none => none
def kCons2 (x : D) : Option (List D × Sto) → Option (List D × Sto)
 | some (xs, S) => some (x :: xs, S)
 | none => none
theorem e_cons : mCons a ms en S = kCons ms en (a en S) := by
 unfold mCons
 cases a en S <;> rfl
theorem k_cons : kCons ms en (some (x, S)) = kCons2 x (ms en S) := by
 show (ms en S).map _ = _
 cases ms en S <;> rfl
theorem k_cons2 {xs : List D} : kCons2 x (some (xs, S)) = some (x :: xs, S) := rfl
def kCall (F : List D → Sto → Option (D × Sto)) : Option (List D × Sto) → Option (D × Sto)
 | some (xs, S) => F xs S
 | none => none
theorem e_call : mCall F ms en S = kCall F (ms en S) := by
 unfold mCall
 cases ms en S <;> rfl
theorem k_call {xs : List D} : kCall F (some (xs, S)) = F xs S := rfl
def kTup : Option (List D × Sto) → Option (D × Sto)
 | some (xs, S) => if xs.length ≤ sizeLine then some (.tup xs, S) else none
 | none => none
theorem e_tup : mTup ms en S = kTup (ms en S) := by
 unfold mTup
 cases ms en S <;> rfl
theorem k_tup {xs : List D} (h : xs.length ≤ sizeLine) : kTup (some (xs, S)) = some (.tup xs, S) := if_pos h
def kLst : Option (List D × Sto) → Option (D × Sto)
 | some (xs, S) => if xs.length ≤ sizeLine then some (.ref S.length, S ++ [.lst xs]) else none
 | none => none
theorem e_lst : mLst ms en S = kLst (ms en S) := by
 unfold mLst
 cases ms en S <;> rfl
theorem k_lst {xs : List D} (h : xs.length ≤ sizeLine) : kLst (some (xs, S)) = some (.ref S.length, S ++ [.lst xs]) := if_pos h
noncomputable def kRun (S0 : Sto) : Option (Fl × En × Sto) → Option (D × Sto)
 | some (.rt v, _, S) => some (trim S0 (v, S))
 | some (.nx, _, S) => some (trim S0 (.non, S))
 | _ => none
theorem e_run {nN n : Nat} {m : MS} {ds : List D} (h : ds.length = n) : runD nN n m ds S = kRun S (m (startD nN ds) S) := by
 unfold runD
 rw [if_pos h]
 cases m (startD nN ds) S with
 | none => rfl
 | some p => obtain ⟨f, e, s⟩ := p; cases f <;> rfl
theorem k_run_rt : kRun S (some (.rt v, en, S')) = some (trim S (v, S')) := rfl
theorem k_run_nx : kRun S (some (.nx, en, S')) = some (trim S (.non, S')) := rfl
def kLen : Option (D × Sto) → Option (D × Sto)
 | some (d, S) => (lenD d S).map fun (n : Nat) => (.int n, S)
 | none => none
theorem e_len : mLen a en S = kLen (a en S) := by
 unfold mLen kLen
 cases a en S with
 | none => rfl
 | some p =>
  obtain ⟨d, s⟩ := p
  dsimp only [Option.bind_some]
  cases lenD d s <;> rfl
theorem k_len : kLen (some (x, S)) = (lenD x S).map fun (n : Nat) => (.int n, S) := rfl
theorem k_lenS {z : Str} (h : z.length ≤ sizeLine) : kLen (some (.str z, S)) = some (.int z.length, S) := by
 show (if z.length ≤ sizeLine then some z.length else none).map _ = _
 rw [if_pos h]; rfl
theorem k_lenT {ds : List D} : kLen (some (.tup ds, S)) = some (.int ds.length, S) := rfl
def kIsi (C : String) : Option (D × Sto) → Option (D × Sto)
 | some (d, S) => (tyD d S).map fun T => (.bl (isiT T C), S)
 | none => none
theorem e_isi {C : String} : mIsi C a en S = kIsi C (a en S) := by
 unfold mIsi
 cases a en S <;> rfl
def kBs (f : List Bool → Bool) : Option (List D × Sto) → Option (D × Sto)
 | some (ds, S) => (boolsD ds).map fun bs => (.bl (f bs), S)
 | none => none
theorem e_all : mAll ms en S = kBs (fun bs => bs.all id) (ms en S) := by
 unfold mAll
 cases ms en S <;> rfl
theorem e_any : mAny ms en S = kBs (fun bs => bs.any id) (ms en S) := by
 unfold mAny
 cases ms en S <;> rfl
theorem boolsD_map : ∀ (bs : List Bool), boolsD (bs.map D.bl) = some bs
 | [] => rfl
 | b :: bs => by
  show (boolsD (bs.map D.bl)).map _ = _
  rw [boolsD_map bs]; rfl
theorem k_all {bs : List Bool} : kBs (fun bs => bs.all id) (some (bs.map D.bl, S)) = some (.bl (bs.all id), S) := by
 show (boolsD (bs.map D.bl)).map _ = _
 rw [boolsD_map]; rfl
def kIter : Option (D × Sto) → Option (ItD × Sto)
 | some (d, S) => iterD d S
 | none => none
theorem e_iter : mIter a en S = kIter (a en S) := by
 unfold mIter
 cases a en S <;> rfl
theorem k_iterScr {ns : List Int} : kIter (some (.scr ns, S)) = some ((ns.map D.int, .no), S) := rfl
theorem k_iterT {ds : List D} : kIter (some (.tup ds, S)) = some ((ds, .no), S) := rfl
theorem k_iterS {z : Str} : kIter (some (.str z, S)) = some (((cs z).map fun c => D.str ⟨#[c]⟩, .no), S) := rfl
def kRng : Option (D × Sto) → Option (ItD × Sto)
 | some (.int j, S) => if -(2 ^ 62) ≤ j ∧ j < 2 ^ 62 then some ((rngD 0 j.toNat, .no), S) else none
 | _ => none
theorem e_rng : mRng1 a en S = kRng (a en S) := by
 unfold mRng1
 cases a en S with
 | none => rfl
 | some p => obtain ⟨d, s⟩ := p; cases d <;> rfl
theorem k_rng {j : Int} (h : -(2 ^ 62) ≤ j ∧ j < 2 ^ 62) : kRng (some (.int j, S)) = some ((rngD 0 j.toNat, .no), S) := if_pos h
noncomputable def kFor (g : D → En → Option En) (body : MS) (en : En) : Option (ItD × Sto) → Option (Fl × En × Sto)
 | some (r, S) => thF r.2 (forGo r.1 r.2 g body r.1 en S)
 | none => none
theorem e_for {mi : M ItD} {g : D → En → Option En} : mFor mi g sa en S = kFor g sa en (mi en S) := by
 unfold mFor
 cases mi en S <;> rfl
theorem thF_no {r : Option (Fl × En × Sto)} : thF .no r = r := by cases r <;> rfl
theorem thF_lst {n : Nat} {r : Option (Fl × En × Sto)} : thF (.lst n) r = r := by cases r <;> rfl
theorem thC_no {r : Option (List D × Sto)} : thC .no r = r := by cases r <;> rfl
theorem thC_lst {n : Nat} {r : Option (List D × Sto)} : thC (.lst n) r = r := by cases r <;> rfl
theorem k_forNo {ds : List D} {g : D → En → Option En} : kFor g sa en (some ((ds, .no), S)) = forGo ds .no g sa ds en S := thF_no
theorem k_forLst {ds : List D} {n : Nat} {g : D → En → Option En} : kFor g sa en (some ((ds, .lst n), S)) = forGo ds (.lst n) g sa ds en S := thF_lst
theorem k_forFr {ds : List D} {n : Nat} {kvs : List (D × D)} {th : Bool} {g : D → En → Option En} : kFor g sa en (some ((ds, .fr n kvs th), S)) = thF (.fr n kvs th) (forGo ds (.fr n kvs th) g sa ds en S) := rfl
noncomputable def kComp (nT : Nat) (caps : List Nat) (g : D → En → Option En) (c : M Bool) (m : M D) (en : En) : Option (ItD × Sto) → Option (List D × Sto)
 | some (r, S) => thC r.2 (compGo r.1 r.2 (capEn nT caps en) g c m r.1 [] S)
 | none => none
theorem e_comp {mi : M ItD} {nT : Nat} {caps : List Nat} {g : D → En → Option En} : mComp mi nT caps g ba a en S = kComp nT caps g ba a en (mi en S) := by
 unfold mComp
 cases mi en S <;> rfl
theorem k_compNo {ds : List D} {nT : Nat} {caps : List Nat} {g : D → En → Option En} : kComp nT caps g ba a en (some ((ds, .no), S)) = compGo ds .no (capEn nT caps en) g ba a ds [] S := thC_no
theorem k_compLst {ds : List D} {n : Nat} {nT : Nat} {caps : List Nat} {g : D → En → Option En} : kComp nT caps g ba a en (some ((ds, .lst n), S)) = compGo ds (.lst n) (capEn nT caps en) g ba a ds [] S := thC_lst
theorem thF_zl {gs : List (Nat × List D)} {r : Option (Fl × En × Sto)} : thF (.zl gs) r = r := by cases r <;> rfl
theorem thC_zl {gs : List (Nat × List D)} {r : Option (List D × Sto)} : thC (.zl gs) r = r := by cases r <;> rfl
theorem k_forZl {ds : List D} {gs : List (Nat × List D)} {g : D → En → Option En} : kFor g sa en (some ((ds, .zl gs), S)) = forGo ds (.zl gs) g sa ds en S := thF_zl
theorem k_compZl {ds : List D} {gs : List (Nat × List D)} {nT : Nat} {caps : List Nat} {g : D → En → Option En} : kComp nT caps g ba a en (some ((ds, .zl gs), S)) = compGo ds (.zl gs) (capEn nT caps en) g ba a ds [] S := thC_zl
theorem k_compFr {ds : List D} {n : Nat} {kvs : List (D × D)} {th : Bool} {nT : Nat} {caps : List Nat} {g : D → En → Option En} : kComp nT caps g ba a en (some ((ds, .fr n kvs th), S)) = thC (.fr n kvs th) (compGo ds (.fr n kvs th) (capEn nT caps en) g ba a ds [] S) := rfl
def kKeep : Option (List D × Sto) → Option (D × Sto)
 | some (ds, S) => some (.ref S.length, S ++ [.lst ds])
 | none => none
theorem e_keep : mKeep ms en S = kKeep (ms en S) := by
 unfold mKeep
 cases ms en S <;> rfl
theorem k_keep {ds : List D} : kKeep (some (ds, S)) = some (.ref S.length, S ++ [.lst ds]) := rfl
def kJoin1 (ms : M (List D)) (en : En) : Option (D × Sto) → Option (D × Sto)
 | some (.str x, S) => (ms en S).bind fun p => (strsD p.1).bind fun ys => if (ys.map (·.length)).sum + ys.length * x.length ≤ 16777216 then some (.str (Txt.join x ys), p.2) else none
 | _ => none
def kJoin2 (x : Str) : Option (List D × Sto) → Option (D × Sto)
 | some (ds, S) => (strsD ds).bind fun ys => if (ys.map (·.length)).sum + ys.length * x.length ≤ 16777216 then some (.str (Txt.join x ys), S) else none
 | none => none
theorem e_join : mJoin a ms en S = kJoin1 ms en (a en S) := by
 unfold mJoin
 cases a en S with
 | none => rfl
 | some p => obtain ⟨d, s⟩ := p; cases d <;> rfl
theorem k_join1 {z : Str} : kJoin1 ms en (some (.str z, S)) = kJoin2 z (ms en S) := by
 show (ms en S).bind _ = _
 cases ms en S <;> rfl
theorem strsD_map : ∀ (ys : List Str), strsD (ys.map D.str) = some ys
 | [] => rfl
 | y :: ys => by
  show (strsD (ys.map D.str)).map _ = _
  rw [strsD_map ys]; rfl
theorem k_join2 {z : Str} {ys : List Str} (h : (ys.map (·.length)).sum + ys.length * z.length ≤ 16777216) : kJoin2 z (some (ys.map D.str, S)) = some (.str (Txt.join z ys), S) := by
 show (strsD (ys.map D.str)).bind _ = _
 rw [strsD_map, Option.bind_some, if_pos h]
def kSl1 (lo hi : M (Option Int)) (en : En) : Option (D × Sto) → Option (D × Sto)
 | some (x, S) => (lo en S).bind fun l => (hi en l.2).bind fun u => slD x l.1 u.1 u.2
 | none => none
def kSl2 (x : D) (hi : M (Option Int)) (en : En) : Option (Option Int × Sto) → Option (D × Sto)
 | some (l, S) => (hi en S).bind fun u => slD x l u.1 u.2
 | none => none
def kSl3 (x : D) (l : Option Int) : Option (Option Int × Sto) → Option (D × Sto)
 | some (u, S) => slD x l u S
 | none => none
theorem e_sl {lo hi : M (Option Int)} : mSl a lo hi en S = kSl1 lo hi en (a en S) := by
 unfold mSl
 cases a en S <;> rfl
theorem k_sl1 {lo hi : M (Option Int)} : kSl1 lo hi en (some (x, S)) = kSl2 x hi en (lo en S) := by
 show (lo en S).bind _ = _
 cases lo en S <;> rfl
theorem k_sl2 {hi : M (Option Int)} {l : Option Int} : kSl2 x hi en (some (l, S)) = kSl3 x l (hi en S) := by
 show (hi en S).bind _ = _
 cases hi en S <;> rfl
theorem k_sl3 {l u : Option Int} : kSl3 x l (some (u, S)) = slD x l u S := rfl
def kPart : Option (D × Sto) → Option (Option Int × Sto)
 | some (.int i, S) => some (some i, S)
 | _ => none
theorem e_part : mPart a en S = kPart (a en S) := by
 unfold mPart
 cases a en S with
 | none => rfl
 | some p => obtain ⟨d, s⟩ := p; cases d <;> rfl
theorem k_part {i : Int} : kPart (some (.int i, S)) = some (some i, S) := rfl
theorem e_noPart : mNoPart en S = some (none, S) := rfl
theorem e_true : mTrue en S = some (true, S) := rfl
end
section
variable {S : Sto} {i j : Int} {x y : Str} {p q : Bool}
theorem g_addI : gAdd (.int i) (.int j) S = some (.int (i + j), S) := rfl
theorem g_addS (h : x.length + y.length ≤ sizeLine) : gAdd (.str x) (.str y) S = some (.str (x ++ y), S) := if_pos h
theorem g_addT {xs ys : List D} (h : xs.length + ys.length ≤ sizeLine) : gAdd (.tup xs) (.tup ys) S = some (.tup (xs ++ ys), S) := if_pos h
theorem g_subI : gSub (.int i) (.int j) S = some (.int (i - j), S) := rfl
theorem g_mulR (h : -(2 ^ 64) < j ∧ j < 2 ^ 64) : gMul (.int i) (.int j) S = some (.int (i * j), S) := if_pos (Or.inr h)
theorem g_mulL (h : -(2 ^ 64) < i ∧ i < 2 ^ 64) : gMul (.int i) (.int j) S = some (.int (i * j), S) := if_pos (Or.inl h)
theorem g_modI (h : 0 < j) : gMod (.int i) (.int j) S = some (.int (i % j), S) := if_pos (decide_eq_true h)
theorem g_ltI : gLt (.int i) (.int j) S = some (.bl (decide (i < j)), S) := rfl
theorem g_leI : gLe (.int i) (.int j) S = some (.bl (decide (i ≤ j)), S) := rfl
theorem g_gtI : gGt (.int i) (.int j) S = some (.bl (decide (j < i)), S) := rfl
theorem g_geI : gGe (.int i) (.int j) S = some (.bl (decide (j ≤ i)), S) := rfl
theorem g_eqI : gEq (.int i) (.int j) S = some (.bl (decide (i = j)), S) := rfl
theorem g_eqS : gEq (.str x) (.str y) S = some (.bl (decide (x = y)), S) := rfl
theorem g_eqB : gEq (.bl p) (.bl q) S = some (.bl (decide (p = q)), S) := rfl
theorem g_neI : gNe (.int i) (.int j) S = some (.bl (!decide (i = j)), S) := rfl
theorem g_neS : gNe (.str x) (.str y) S = some (.bl (!decide (x = y)), S) := rfl
theorem g_isNotBB : gIsNot (.bl p) (.bl q) S = some (.bl (!(p == q)), S) := rfl
theorem g_isBB : gIs (.bl p) (.bl q) S = some (.bl (p == q), S) := rfl
theorem g_ixT {ds : List D} {k : Nat} {d : D} (h : ds[k]? = some d) : gIx (.tup ds) (.int (k : Nat)) S = some (d, S) := by
 show (atI ds (k : Int)).map _ = _
 rw [atI_nat h]; rfl
section
variable {a b c d e f : D} {l : List D}
theorem g_ix0 : gIx (.tup (a :: l)) (.int 0) S = some (a, S) := g_ixT (k := 0) rfl
theorem g_ix1 : gIx (.tup (a :: b :: l)) (.int 1) S = some (b, S) := g_ixT (k := 1) rfl
theorem g_ix2 : gIx (.tup (a :: b :: c :: l)) (.int 2) S = some (c, S) := g_ixT (k := 2) rfl
theorem g_ix3 : gIx (.tup (a :: b :: c :: d :: l)) (.int 3) S = some (d, S) := g_ixT (k := 3) rfl
theorem g_ix4 : gIx (.tup (a :: b :: c :: d :: e :: l)) (.int 4) S = some (e, S) := g_ixT (k := 4) rfl
theorem g_ix5 : gIx (.tup (a :: b :: c :: d :: e :: f :: l)) (.int 5) S = some (f, S) := g_ixT (k := 5) rfl
end
end
section
variable {ds0 r : List D} {g : D → En → Option En} {body : MS} {en : En} {S : Sto} {d v : D}
noncomputable def kForB (ds0 : List D) (g : D → En → Option En) (body : MS) (r : List D) : Option (Fl × En × Sto) → Option (Fl × En × Sto)
 | some (.nx, en, S) => forGo ds0 .no g body r en S
 | some (.ct, en, S) => forGo ds0 .no g body r en S
 | some (.bk, en, S) => some (.nx, en, S)
 | some (.rt v, en, S) => some (.rt v, en, S)
 | none => none
theorem e_forN : forGo ds0 .no g body [] en S = some (.nx, en, S) := by
 unfold forGo
 exact if_pos trivial
theorem e_forC {i : Nat} : forGo ds0 .no (gN i) body (d :: r) en S = kForB ds0 (gN i) body r (body (en.set i (some d)) S) := by
 rw [forGo]
 rw [if_pos (show GdOk .no ds0 S from trivial)]
 show (body (en.set i (some d)) S).bind _ = _
 cases body (en.set i (some d)) S with
 | none => rfl
 | some p => obtain ⟨f, e, s⟩ := p; cases f <;> rfl
theorem k_forB_nx : kForB ds0 g body r (some (.nx, en, S)) = forGo ds0 .no g body r en S := rfl
theorem k_forB_ct : kForB ds0 g body r (some (.ct, en, S)) = forGo ds0 .no g body r en S := rfl
theorem k_forB_bk : kForB ds0 g body r (some (.bk, en, S)) = some (.nx, en, S) := rfl
theorem k_forB_rt : kForB ds0 g body r (some (.rt v, en, S)) = some (.rt v, en, S) := rfl
end
section
variable {a b c d e f g h i j k l : D} {S : Sto}
theorem k_tup0 : kTup (some (([] : List D), S)) = some (.tup [], S) := k_tup (show 0 ≤ sizeLine by decide)
theorem k_lst0 : kLst (some (([] : List D), S)) = some (.ref S.length, S ++ [.lst []]) := k_lst (show 0 ≤ sizeLine by decide)
theorem k_tup1 : kTup (some ([a], S)) = some (.tup [a], S) := k_tup (show 1 ≤ sizeLine by decide)
theorem k_lst1 : kLst (some ([a], S)) = some (.ref S.length, S ++ [.lst [a]]) := k_lst (show 1 ≤ sizeLine by decide)
theorem k_tup2 : kTup (some ([a, b], S)) = some (.tup [a, b], S) := k_tup (show 2 ≤ sizeLine by decide)
theorem k_lst2 : kLst (some ([a, b], S)) = some (.ref S.length, S ++ [.lst [a, b]]) := k_lst (show 2 ≤ sizeLine by decide)
theorem k_tup3 : kTup (some ([a, b, c], S)) = some (.tup [a, b, c], S) := k_tup (show 3 ≤ sizeLine by decide)
theorem k_lst3 : kLst (some ([a, b, c], S)) = some (.ref S.length, S ++ [.lst [a, b, c]]) := k_lst (show 3 ≤ sizeLine by decide)
theorem k_tup4 : kTup (some ([a, b, c, d], S)) = some (.tup [a, b, c, d], S) := k_tup (show 4 ≤ sizeLine by decide)
theorem k_lst4 : kLst (some ([a, b, c, d], S)) = some (.ref S.length, S ++ [.lst [a, b, c, d]]) := k_lst (show 4 ≤ sizeLine by decide)
theorem k_tup5 : kTup (some ([a, b, c, d, e], S)) = some (.tup [a, b, c, d, e], S) := k_tup (show 5 ≤ sizeLine by decide)
theorem k_lst5 : kLst (some ([a, b, c, d, e], S)) = some (.ref S.length, S ++ [.lst [a, b, c, d, e]]) := k_lst (show 5 ≤ sizeLine by decide)
theorem k_tup6 : kTup (some ([a, b, c, d, e, f], S)) = some (.tup [a, b, c, d, e, f], S) := k_tup (show 6 ≤ sizeLine by decide)
theorem k_lst6 : kLst (some ([a, b, c, d, e, f], S)) = some (.ref S.length, S ++ [.lst [a, b, c, d, e, f]]) := k_lst (show 6 ≤ sizeLine by decide)
theorem k_tup7 : kTup (some ([a, b, c, d, e, f, g], S)) = some (.tup [a, b, c, d, e, f, g], S) := k_tup (show 7 ≤ sizeLine by decide)
theorem k_lst7 : kLst (some ([a, b, c, d, e, f, g], S)) = some (.ref S.length, S ++ [.lst [a, b, c, d, e, f, g]]) := k_lst (show 7 ≤ sizeLine by decide)
theorem k_tup8 : kTup (some ([a, b, c, d, e, f, g, h], S)) = some (.tup [a, b, c, d, e, f, g, h], S) := k_tup (show 8 ≤ sizeLine by decide)
theorem k_lst8 : kLst (some ([a, b, c, d, e, f, g, h], S)) = some (.ref S.length, S ++ [.lst [a, b, c, d, e, f, g, h]]) := k_lst (show 8 ≤ sizeLine by decide)
theorem k_tup9 : kTup (some ([a, b, c, d, e, f, g, h, i], S)) = some (.tup [a, b, c, d, e, f, g, h, i], S) := k_tup (show 9 ≤ sizeLine by decide)
theorem k_lst9 : kLst (some ([a, b, c, d, e, f, g, h, i], S)) = some (.ref S.length, S ++ [.lst [a, b, c, d, e, f, g, h, i]]) := k_lst (show 9 ≤ sizeLine by decide)
theorem k_tup10 : kTup (some ([a, b, c, d, e, f, g, h, i, j], S)) = some (.tup [a, b, c, d, e, f, g, h, i, j], S) := k_tup (show 10 ≤ sizeLine by decide)
theorem k_lst10 : kLst (some ([a, b, c, d, e, f, g, h, i, j], S)) = some (.ref S.length, S ++ [.lst [a, b, c, d, e, f, g, h, i, j]]) := k_lst (show 10 ≤ sizeLine by decide)
theorem k_tup11 : kTup (some ([a, b, c, d, e, f, g, h, i, j, k], S)) = some (.tup [a, b, c, d, e, f, g, h, i, j, k], S) := k_tup (show 11 ≤ sizeLine by decide)
theorem k_lst11 : kLst (some ([a, b, c, d, e, f, g, h, i, j, k], S)) = some (.ref S.length, S ++ [.lst [a, b, c, d, e, f, g, h, i, j, k]]) := k_lst (show 11 ≤ sizeLine by decide)
theorem k_tup12 : kTup (some ([a, b, c, d, e, f, g, h, i, j, k, l], S)) = some (.tup [a, b, c, d, e, f, g, h, i, j, k, l], S) := k_tup (show 12 ≤ sizeLine by decide)
theorem k_lst12 : kLst (some ([a, b, c, d, e, f, g, h, i, j, k, l], S)) = some (.ref S.length, S ++ [.lst [a, b, c, d, e, f, g, h, i, j, k, l]]) := k_lst (show 12 ≤ sizeLine by decide)
end
theorem b_tf : (true == false) = false := rfl
theorem b_ft : (false == true) = false := rfl
theorem b_tt : (true == true) = true := rfl
theorem b_ff : (false == false) = true := rfl
section
variable {a b : Option D} {l m : En} {d e : D} {ds es : List D} {n : Nat} {x y : Option (Fl × En × Sto)} {u v : Option (D × Sto)} {p q : Option (Bool × Sto)}
theorem l_set0 : (a :: l).set 0 b = b :: l := rfl
theorem l_setS : (a :: l).set (n + 1) b = a :: l.set n b := rfl
theorem l_get0 : (a :: l)[0]? = some a := rfl
theorem l_getS : (a :: l)[n + 1]? = l[n]? := List.getElem?_cons_succ
theorem l_getD : (some a).getD none = a := rfl
theorem l_len0 : ([] : List D).length = 0 := rfl
theorem l_lenS : (d :: ds).length = ds.length + 1 := rfl
theorem l_app0 : ([] : List D) ++ ds = ds := rfl
theorem l_appS : (d :: ds) ++ es = d :: (ds ++ es) := rfl
theorem l_appN : ds ++ [] = ds := List.append_nil ds
theorem l_start0 : startD n [] = List.replicate n none := rfl
theorem l_startS : startD (n + 1) (d :: ds) = some d :: startD n ds := by
 unfold startD
 simp
theorem l_capS {caps : List Nat} : capEn (n + 1) caps l = none :: capEn n caps l := rfl
theorem l_capC {j : Nat} {caps : List Nat} : capEn 0 (j :: caps) l = (l[j]?.getD none) :: capEn 0 caps l := rfl
theorem l_capN : capEn 0 [] l = [] := rfl
theorem l_rep0 : List.replicate 0 (none : Option D) = [] := rfl
theorem l_repS : List.replicate (n + 1) (none : Option D) = none :: List.replicate n none := rfl
theorem l_ifS1 : (if True then x else y) = x := if_pos trivial
theorem l_ifS0 : (if False then x else y) = y := if_neg id
theorem l_ifV1 : (if True then u else v) = u := if_pos trivial
theorem l_ifV0 : (if False then u else v) = v := if_neg id
theorem l_ifB1 : (if True then p else q) = p := if_pos trivial
theorem l_ifB0 : (if False then p else q) = q := if_neg id
end
end DL
namespace DL
open PySem L2
section
variable {a b c : M D} {ms : M (List D)} {en : En} {S : Sto} {x v : D} {ds : List D} {n : Nat}
def kApp2 (n : Nat) : Option (D × Sto) → Option (D × Sto)
 | some (v, S) => match S[n]? with | some (Ob.lst ds) => if ds.length < sizeLine then some (.non, S.set n (Ob.lst (ds ++ [v]))) else none | _ => none
 | none => none
def kApp (b : M D) (en : En) : Option (D × Sto) → Option (D × Sto)
 | some (.ref n, S) => match S[n]? with | some (Ob.lst _) => kApp2 n (b en S) | _ => (b en S).bind fun _ => none
 | some (_, S) => (b en S).bind fun _ => none
 | none => none
theorem e_app : mApp a b en S = kApp b en (a en S) := by
 unfold mApp
 cases a en S with
 | none => rfl
 | some p =>
  obtain ⟨d, S1⟩ := p
  cases d with
  | ref n =>
   show ((b en S1).bind fun q => match S1[n]?, q.2[n]? with | some (Ob.lst _), some (Ob.lst ds) => if ds.length < sizeLine then some (D.non, q.2.set n (Ob.lst (ds ++ [q.1]))) else none | _, _ => none) = _
   cases h : S1[n]? with
   | none => show _ = (match S1[n]? with | some (Ob.lst _) => kApp2 n (b en S1) | _ => (b en S1).bind fun _ => none); rw [h]
   | some ob =>
    show _ = (match S1[n]? with | some (Ob.lst _) => kApp2 n (b en S1) | _ => (b en S1).bind fun _ => none)
    rw [h]
    cases ob with
    | lst l =>
     dsimp only
     cases b en S1 with
     | none => rfl
     | some q =>
      obtain ⟨w, s⟩ := q
      rw [Option.bind_some]
      unfold kApp2
      dsimp only
      cases s[n]? with
      | none => rfl
      | some o => cases o <;> rfl
    | _ => rfl
  | _ => rfl
theorem k_appE {ds : List D} : kApp b en (some (.ref S.length, S ++ [Ob.lst ds])) = kApp2 S.length (b en (S ++ [Ob.lst ds])) := by
 show (match (S ++ [Ob.lst ds])[S.length]? with | some (Ob.lst _) => kApp2 S.length (b en (S ++ [Ob.lst ds])) | _ => (b en (S ++ [Ob.lst ds])).bind fun _ => none) = _
 rw [List.getElem?_concat_length]
theorem c_app2E (h : ds.length < sizeLine) : kApp2 S.length (some (v, S ++ [Ob.lst ds])) = some (.non, S ++ [Ob.lst (ds ++ [v])]) := by
 show (match (S ++ [Ob.lst ds])[S.length]? with | some (Ob.lst ds') => if ds'.length < sizeLine then some (D.non, (S ++ [Ob.lst ds]).set S.length (Ob.lst (ds' ++ [v]))) else none | _ => none) = _
 rw [List.getElem?_concat_length]
 dsimp only
 rw [if_pos h]
 simp
def kTupV : Option (D × Sto) → Option (D × Sto)
 | some (d, S) => (tupOf d S).map fun ds => (.tup ds, S)
 | none => none
theorem e_tupV : mTupV a en S = kTupV (a en S) := by
 unfold mTupV
 cases a en S <;> rfl
theorem k_tupVT : kTupV (some (.tup ds, S)) = some (.tup ds, S) := rfl
theorem c_tupVL (h : S[n]? = some (Ob.lst ds)) : kTupV (some (.ref n, S)) = some (.tup ds, S) := by
 show ((match S[n]? with | some (Ob.lst ds) => some ds | _ => none).map fun ds => (D.tup ds, S)) = _
 rw [h]; rfl
theorem k_tupVE : kTupV (some (.ref S.length, S ++ [Ob.lst ds])) = some (.tup ds, S ++ [Ob.lst ds]) := c_tupVL (List.getElem?_concat_length ..)
def kTupL : Option (List D × Sto) → Option (D × Sto)
 | some (ds, S) => some (.tup ds, S)
 | none => none
theorem e_tupL : mTupL ms en S = kTupL (ms en S) := by
 unfold mTupL
 cases ms en S <;> rfl
theorem k_tupL : kTupL (some (ds, S)) = some (.tup ds, S) := rfl
theorem e_newD : mNewD en S = some (.ref S.length, S ++ [Ob.dct []]) := rfl
def kDictP : Option (D × Sto) → Option (D × Sto)
 | some (.tup ds, S) => if ds.length ≤ sizeLine then (pairsD ds).map fun ps => (.ref S.length, S ++ [Ob.dct (dmerge [] ps)]) else none
 | _ => none
theorem e_dictP : mDictP a en S = kDictP (a en S) := by
 unfold mDictP
 cases a en S with
 | none => rfl
 | some p => obtain ⟨d, s⟩ := p; cases d <;> rfl
def kIsi2 (C1 C2 : String) : Option (D × Sto) → Option (D × Sto)
 | some (d, S) => (tyD d S).map fun T => (.bl (isiT T C1 || isiT T C2), S)
 | none => none
theorem e_isi2 {C1 C2 : String} : mIsi2 C1 C2 a en S = kIsi2 C1 C2 (a en S) := by
 unfold mIsi2
 cases a en S <;> rfl
def kZip2 (d : D) : Option (D × Sto) → Option (ItD × Sto)
 | some (d', S) => (sideD d S).bind fun x => (sideD d' S).map fun y => ((zipD x.1 y.1, gdZ (x.2 ++ y.2)), S)
 | none => none
def kZip (b : M D) (en : En) : Option (D × Sto) → Option (ItD × Sto)
 | some (d, S) => kZip2 d (b en S)
 | none => none
theorem e_zip : mZip a b en S = kZip b en (a en S) := by
 unfold mZip
 cases a en S with
 | none => rfl
 | some p =>
  obtain ⟨d, S1⟩ := p
  show ((b en S1).bind _) = kZip2 d (b en S1)
  cases b en S1 with
  | none => rfl
  | some q => rfl
theorem k_zip {d : D} : kZip b en (some (d, S)) = kZip2 d (b en S) := rfl
theorem k_zip2 {xs ys : List D} : kZip2 (.tup xs) (some (.tup ys, S)) = some ((zipD xs ys, .no), S) := rfl
def kTwo2 (f : Int → Int → Int) (d : D) : Option (D × Sto) → Option (D × Sto)
 | some (d', S) => match d, d' with | .int i, .int j => some (.int (f i j), S) | _, _ => none
 | none => none
def kTwo (f : Int → Int → Int) (b : M D) (en : En) : Option (D × Sto) → Option (D × Sto)
 | some (d, S) => kTwo2 f d (b en S)
 | none => none
theorem e_two {f : Int → Int → Int} : mTwo f a b en S = kTwo f b en (a en S) := by
 unfold mTwo
 cases a en S with
 | none => rfl
 | some p =>
  obtain ⟨d, S1⟩ := p
  show ((b en S1).bind _) = kTwo2 f d (b en S1)
  cases b en S1 with
  | none => rfl
  | some q => rfl
theorem k_two {f : Int → Int → Int} {d : D} : kTwo f b en (some (d, S)) = kTwo2 f d (b en S) := rfl
theorem k_two2 {f : Int → Int → Int} {i j : Int} : kTwo2 f (.int i) (some (.int j, S)) = some (.int (f i j), S) := rfl
def kInt1 : Option (D × Sto) → Option (D × Sto)
 | some (.int i, S) => some (.int i, S)
 | some (.bl c, S) => some (.int (if c then 1 else 0), S)
 | _ => none
theorem e_int1 : mInt1 a en S = kInt1 (a en S) := by
 unfold mInt1
 cases a en S with
 | none => rfl
 | some p => obtain ⟨d, s⟩ := p; cases d <;> rfl
theorem k_int1I {i : Int} : kInt1 (some (.int i, S)) = some (.int i, S) := rfl
theorem k_int1B {t : Bool} : kInt1 (some (.bl t, S)) = some (.int (if t then 1 else 0), S) := rfl
def kSrt : Option (List D × Sto) → Option (List D × Sto)
 | some (ds, S) => if sortOk ds = true then some (sortD ds, S) else none
 | none => none
theorem e_srt : mSrt ms en S = kSrt (ms en S) := by
 unfold mSrt
 cases ms en S <;> rfl
theorem c_srt (h : sortOk ds = true) : kSrt (some (ds, S)) = some (sortD ds, S) := if_pos h
def kSrtV : Option (D × Sto) → Option (List D × Sto)
 | some (d, S) => (srtV d S).bind fun ds => if sortOk ds = true then some (sortD ds, S) else none
 | none => none
theorem e_srtV : mSrtV a en S = kSrtV (a en S) := by
 unfold mSrtV
 cases a en S <;> rfl
theorem c_srtV {d : D} (e : srtV d S = some ds) (h : sortOk ds = true) : kSrtV (some (d, S)) = some (sortD ds, S) := by
 show ((srtV d S).bind fun ds => if sortOk ds = true then some (sortD ds, S) else none) = _
 rw [e, Option.bind_some, if_pos h]
theorem ixD_ev {kvs : List (D × D)} {k d : D} (hd : dctAt S n k = some kvs) (hg : dget kvs k = some d) : gIx (.ref n) k S = some (d, S) := by
 have hl : ∀ xs, S[n]? ≠ some (Ob.lst xs) := fun xs z => by
  unfold dctAt at hd
  rw [z] at hd
  cases hd
 show (match S[n]? with | some (Ob.lst xs) => (match k with | .int i => (atI xs i).map fun d => (d, S) | _ => none) | _ => (dctAt S n k).bind fun kvs => (dget kvs k).map fun d => (d, S)) = _
 split
 ·rename_i xs q
  exact absurd q (hl xs)
 ·rw [hd, Option.bind_some, hg]; rfl
end
section
variable {a : M D} {en : En} {S : Sto} {ds : List D} {n : Nat}
def kSq : Option (D × Sto) → Option (List D × Sto)
 | some (d, S) => (seqD d S).map fun ds => (ds, S)
 | none => none
theorem e_sq : mSq a en S = kSq (a en S) := by
 unfold mSq
 cases a en S <;> rfl
theorem k_sqT : kSq (some (.tup ds, S)) = some (ds, S) := rfl
end
end DL
namespace DL
open PySem L2
theorem EVS : type_of% (And.intro @e_seq (And.intro @k_seq (And.intro @k_seq_rt (And.intro @k_seq_bk (And.intro @k_seq_ct (And.intro @e_nx (And.intro @e_bk (And.intro @e_ct (And.intro @e_asg (And.intro @k_asg (And.intro @k_asgT (And.intro @e_gT (And.intro @e_gsC (And.intro @e_gsN (And.intro @e_ret (And.intro @k_ret (And.intro @e_retN (And.intro @e_drop (And.intro @k_drop (And.intro @e_ifS (And.intro @k_ifS (And.intro @e_var (And.intro @k_v1 (And.intro @e_con (And.intro @e_op (And.intro @k_op1 (And.intro @k_op2 (And.intro @e_T (And.intro @k_T (And.intro @e_Tru (And.intro @k_TruB (And.intro @e_and (And.intro @e_or (And.intro @e_not (And.intro @k_and (And.intro @k_or (And.intro @k_not (And.intro @e_vand (And.intro @e_vor (And.intro @e_vnot (And.intro @k_vand (And.intro @k_vor (And.intro @k_vnot (And.intro @k_vnotL (And.intro @e_if (And.intro @k_if (And.intro @e_chain (And.intro @k_ch1 (And.intro @k_ch2 (And.intro @k_ch3 (And.intro @e_nil (And.intro @e_cons (And.intro @k_cons (And.intro @k_cons2 (And.intro @e_call (And.intro @k_call (And.intro @e_tup (And.intro @e_lst (And.intro @e_run (And.intro @k_run_rt (And.intro @k_run_nx (And.intro @e_len (And.intro @k_lenT (And.intro @e_isi (And.intro @e_all (And.intro @e_any (And.intro @e_iter (And.intro @k_iterScr (And.intro @k_iterT (And.intro @k_iterS (And.intro @e_rng (And.intro @e_for (And.intro @k_forNo (And.intro @k_forLst (And.intro @k_forFr (And.intro @e_comp (And.intro @k_compNo (And.intro @k_compLst (And.intro @k_forZl (And.intro @k_compZl (And.intro @k_compFr (And.intro @e_keep (And.intro @k_keep (And.intro @e_join (And.intro @k_join1 (And.intro @e_sl (And.intro @k_sl1 (And.intro @k_sl2 (And.intro @k_sl3 (And.intro @e_part (And.intro @k_part (And.intro @e_noPart (And.intro @e_true (And.intro @g_addI (And.intro @g_subI (And.intro @g_ltI (And.intro @g_leI (And.intro @g_gtI (And.intro @g_geI (And.intro @g_eqI (And.intro @g_eqS (And.intro @g_eqB (And.intro @g_neI (And.intro @g_neS (And.intro @g_isNotBB (And.intro @g_isBB (And.intro @g_ix0 (And.intro @g_ix1 (And.intro @g_ix2 (And.intro @g_ix3 (And.intro @g_ix4 (And.intro @g_ix5 (And.intro @e_forN (And.intro @e_forC (And.intro @k_forB_nx (And.intro @k_forB_ct (And.intro @k_forB_bk (And.intro @k_forB_rt (And.intro @k_tup0 (And.intro @k_lst0 (And.intro @k_tup1 (And.intro @k_lst1 (And.intro @k_tup2 (And.intro @k_lst2 (And.intro @k_tup3 (And.intro @k_lst3 (And.intro @k_tup4 (And.intro @k_lst4 (And.intro @k_tup5 (And.intro @k_lst5 (And.intro @k_tup6 (And.intro @k_lst6 (And.intro @k_tup7 (And.intro @k_lst7 (And.intro @k_tup8 (And.intro @k_lst8 (And.intro @k_tup9 (And.intro @k_lst9 (And.intro @k_tup10 (And.intro @k_lst10 (And.intro @k_tup11 (And.intro @k_lst11 (And.intro @k_tup12 (And.intro @k_lst12 (And.intro @b_tf (And.intro @b_ft (And.intro @b_tt (And.intro @b_ff (And.intro @l_set0 (And.intro @l_setS (And.intro @l_get0 (And.intro @l_getS (And.intro @l_getD (And.intro @l_len0 (And.intro @l_lenS (And.intro @l_app0 (And.intro @l_appS (And.intro @l_appN (And.intro @l_start0 (And.intro @l_startS (And.intro @l_capS (And.intro @l_capC (And.intro @l_capN (And.intro @l_rep0 (And.intro @l_repS (And.intro @l_ifS1 (And.intro @l_ifS0 (And.intro @l_ifV1 (And.intro @l_ifV0 (And.intro @l_ifB1 (And.intro @l_ifB0 (And.intro @e_app (And.intro @k_appE (And.intro @e_tupV (And.intro @k_tupVT (And.intro @k_tupVE (And.intro @e_tupL (And.intro @k_tupL (And.intro @e_newD (And.intro @e_dictP (And.intro @e_isi2 (And.intro @e_zip (And.intro @k_zip (And.intro @k_zip2 (And.intro @e_two (And.intro @k_two (And.intro @k_two2 (And.intro @e_int1 (And.intro @k_int1I (And.intro @k_int1B (And.intro @e_srt (And.intro @e_srtV (And.intro @e_sq (And.intro @k_sqT (And.intro @trim_same (And.intro @and_true (And.intro @true_and (And.intro @decide_true (And.intro @decide_false (And.intro @Bool.not_true (And.intro @Bool.not_false (And.intro @Bool.false_eq_true (And.intro @Nat.add_zero (And.intro @Nat.zero_add @Nat.sub_zero)))))))))))))))))))))))))))))))))))))))))))))))))))))))))))))))))))))))))))))))))))))))))))))))))))))))))))))))))))))))))))))))))))))))))))))))))))))))))))))))))))))))))))))))))))))))))))))))))))))))))))) := (And.intro @e_seq (And.intro @k_seq (And.intro @k_seq_rt (And.intro @k_seq_bk (And.intro @k_seq_ct (And.intro @e_nx (And.intro @e_bk (And.intro @e_ct (And.intro @e_asg (And.intro @k_asg (And.intro @k_asgT (And.intro @e_gT (And.intro @e_gsC (And.intro @e_gsN (And.intro @e_ret (And.intro @k_ret (And.intro @e_retN (And.intro @e_drop (And.intro @k_drop (And.intro @e_ifS (And.intro @k_ifS (And.intro @e_var (And.intro @k_v1 (And.intro @e_con (And.intro @e_op (And.intro @k_op1 (And.intro @k_op2 (And.intro @e_T (And.intro @k_T (And.intro @e_Tru (And.intro @k_TruB (And.intro @e_and (And.intro @e_or (And.intro @e_not (And.intro @k_and (And.intro @k_or (And.intro @k_not (And.intro @e_vand (And.intro @e_vor (And.intro @e_vnot (And.intro @k_vand (And.intro @k_vor (And.intro @k_vnot (And.intro @k_vnotL (And.intro @e_if (And.intro @k_if (And.intro @e_chain (And.intro @k_ch1 (And.intro @k_ch2 (And.intro @k_ch3 (And.intro @e_nil (And.intro @e_cons (And.intro @k_cons (And.intro @k_cons2 (And.intro @e_call (And.intro @k_call (And.intro @e_tup (And.intro @e_lst (And.intro @e_run (And.intro @k_run_rt (And.intro @k_run_nx (And.intro @e_len (And.intro @k_lenT (And.intro @e_isi (And.intro @e_all (And.intro @e_any (And.intro @e_iter (And.intro @k_iterScr (And.intro @k_iterT (And.intro @k_iterS (And.intro @e_rng (And.intro @e_for (And.intro @k_forNo (And.intro @k_forLst (And.intro @k_forFr (And.intro @e_comp (And.intro @k_compNo (And.intro @k_compLst (And.intro @k_forZl (And.intro @k_compZl (And.intro @k_compFr (And.intro @e_keep (And.intro @k_keep (And.intro @e_join (And.intro @k_join1 (And.intro @e_sl (And.intro @k_sl1 (And.intro @k_sl2 (And.intro @k_sl3 (And.intro @e_part (And.intro @k_part (And.intro @e_noPart (And.intro @e_true (And.intro @g_addI (And.intro @g_subI (And.intro @g_ltI (And.intro @g_leI (And.intro @g_gtI (And.intro @g_geI (And.intro @g_eqI (And.intro @g_eqS (And.intro @g_eqB (And.intro @g_neI (And.intro @g_neS (And.intro @g_isNotBB (And.intro @g_isBB (And.intro @g_ix0 (And.intro @g_ix1 (And.intro @g_ix2 (And.intro @g_ix3 (And.intro @g_ix4 (And.intro @g_ix5 (And.intro @e_forN (And.intro @e_forC (And.intro @k_forB_nx (And.intro @k_forB_ct (And.intro @k_forB_bk (And.intro @k_forB_rt (And.intro @k_tup0 (And.intro @k_lst0 (And.intro @k_tup1 (And.intro @k_lst1 (And.intro @k_tup2 (And.intro @k_lst2 (And.intro @k_tup3 (And.intro @k_lst3 (And.intro @k_tup4 (And.intro @k_lst4 (And.intro @k_tup5 (And.intro @k_lst5 (And.intro @k_tup6 (And.intro @k_lst6 (And.intro @k_tup7 (And.intro @k_lst7 (And.intro @k_tup8 (And.intro @k_lst8 (And.intro @k_tup9 (And.intro @k_lst9 (And.intro @k_tup10 (And.intro @k_lst10 (And.intro @k_tup11 (And.intro @k_lst11 (And.intro @k_tup12 (And.intro @k_lst12 (And.intro @b_tf (And.intro @b_ft (And.intro @b_tt (And.intro @b_ff (And.intro @l_set0 (And.intro @l_setS (And.intro @l_get0 (And.intro @l_getS (And.intro @l_getD (And.intro @l_len0 (And.intro @l_lenS (And.intro @l_app0 (And.intro @l_appS (And.intro @l_appN (And.intro @l_start0 (And.intro @l_startS (And.intro @l_capS (And.intro @l_capC (And.intro @l_capN (And.intro @l_rep0 (And.intro @l_repS (And.intro @l_ifS1 (And.intro @l_ifS0 (And.intro @l_ifV1 (And.intro @l_ifV0 (And.intro @l_ifB1 (And.intro @l_ifB0 (And.intro @e_app (And.intro @k_appE (And.intro @e_tupV (And.intro @k_tupVT (And.intro @k_tupVE (And.intro @e_tupL (And.intro @k_tupL (And.intro @e_newD (And.intro @e_dictP (And.intro @e_isi2 (And.intro @e_zip (And.intro @k_zip (And.intro @k_zip2 (And.intro @e_two (And.intro @k_two (And.intro @k_two2 (And.intro @e_int1 (And.intro @k_int1I (And.intro @k_int1B (And.intro @e_srt (And.intro @e_srtV (And.intro @e_sq (And.intro @k_sqT (And.intro @trim_same (And.intro @and_true (And.intro @true_and (And.intro @decide_true (And.intro @decide_false (And.intro @Bool.not_true (And.intro @Bool.not_false (And.intro @Bool.false_eq_true (And.intro @Nat.add_zero (And.intro @Nat.zero_add @Nat.sub_zero))))))))))))))))))))))))))))))))))))))))))))))))))))))))))))))))))))))))))))))))))))))))))))))))))))))))))))))))))))))))))))))))))))))))))))))))))))))))))))))))))))))))))))))))))))))))))))))))))))))))))))
end DL
namespace DL
open PySem L2
section
variable {α : Type} {ds0 : List D} {gd : Gd} {cap : En} {g : D → En → Option En} {c : M Bool} {m : M D} {S : Sto}
theorem comp_typ (xs : List α) (enc : α → D) (p : α → Bool) (f : α → D) (hg : GdOk gd ds0 S) (hl : xs.length ≤ sizeLine) (h : ∀ a ∈ xs, ∃ en, g (enc a) cap = some en ∧ c en S = some (p a, S) ∧ (p a = true → m en S = some (f a, S))) :
  compGo ds0 gd cap g c m (xs.map enc) [] S = some ((xs.filter p).map f, S) := by
 have key : ∀ (l : List α) (acc : List D), acc.length + l.length ≤ sizeLine → (∀ a ∈ l, ∃ en, g (enc a) cap = some en ∧ c en S = some (p a, S) ∧ (p a = true → m en S = some (f a, S))) →
   compGo ds0 gd cap g c m (l.map enc) acc S = some (acc ++ (l.filter p).map f, S) := by
  intro l
  induction l with
  | nil =>
   intro acc hl _
   unfold compGo
   simp only [List.map_nil]
   rw [if_pos ⟨hg, by simpa using hl⟩]
   simp
  | cons a l ih =>
   intro acc hl h
   obtain ⟨en, h1, h2, h3⟩ := h a List.mem_cons_self
   rw [List.length_cons] at hl
   rw [List.map_cons]
   unfold compGo
   rw [if_pos ⟨hg, by omega⟩, h1, Option.bind_some, h2, Option.bind_some]
   dsimp only
   cases hp : p a with
   | true =>
    rw [if_pos rfl, h3 hp, Option.bind_some, ih (acc ++ [f a]) (by rw [List.length_append, List.length_singleton]; omega) fun d' hd' => h d' (List.mem_cons_of_mem _ hd')]
    rw [List.filter_cons_of_pos hp, List.map_cons, List.append_assoc]
    rfl
   | false =>
    rw [if_neg Bool.false_ne_true, ih acc (by omega) fun d' hd' => h d' (List.mem_cons_of_mem _ hd')]
    rw [List.filter_cons_of_neg (by simp [hp])]
 simpa using key xs [] (by simpa using hl) h
theorem comp_all (xs : List α) (enc : α → D) (f : α → D) (hg : GdOk gd ds0 S) (hl : xs.length ≤ sizeLine) (h : ∀ a ∈ xs, ∃ en, g (enc a) cap = some en ∧ m en S = some (f a, S)) :
  compGo ds0 gd cap g mTrue m (xs.map enc) [] S = some (xs.map f, S) := by
 have := comp_typ (c := mTrue) xs enc (fun _ => true) f hg hl (fun a ha => by
  obtain ⟨en, h1, h2⟩ := h a ha
  exact ⟨en, h1, rfl, fun _ => h2⟩)
 rw [List.filter_eq_self.mpr fun _ _ => rfl] at this
 exact this
theorem gdOk_none {ds : List D} {S : Sto} : GdOk .no ds S := trivial
theorem rngD_map (n : Nat) : rngD 0 n = (List.range n).map fun i => D.int (i : Nat) := by
 unfold rngD
 simp
theorem forGo_typ {body : MS} (xs : List α) (enc : α → D) (P : List α → En → Sto → Prop) (h : ∀ pre a post en S, xs = pre ++ a :: post → P pre en S → ∃ en1, g (enc a) en = some en1 ∧ ∃ en2 S2, body en1 S = some (.nx, en2, S2) ∧ P (pre ++ [a]) en2 S2)
  (hg : ∀ pre en S, P pre en S → GdOk gd ds0 S) {en : En} {S : Sto} (h0 : P [] en S) : ∃ en' S', forGo ds0 gd g body (xs.map enc) en S = some (.nx, en', S') ∧ P xs en' S' := by
 have key : ∀ (post pre : List α) en S, xs = pre ++ post → P pre en S → ∃ en' S', forGo ds0 gd g body (post.map enc) en S = some (.nx, en', S') ∧ P xs en' S' := by
  intro post
  induction post with
  | nil =>
   intro pre en S e hp
   unfold forGo
   simp only [List.map_nil]
   rw [if_pos (hg pre en S hp)]
   rw [List.append_nil] at e
   exact ⟨en, S, rfl, e ▸ hp⟩
  | cons a post ih =>
   intro pre en S e hp
   obtain ⟨en1, h1, en2, S2, h2, h3⟩ := h pre a post en S e hp
   rw [List.map_cons]
   unfold forGo
   rw [if_pos (hg pre en S hp), h1, Option.bind_some, h2, Option.bind_some]
   exact ih (pre ++ [a]) en2 S2 (by rw [e, List.append_assoc]; rfl) h3
 exact key xs [] en S rfl h0
end
theorem cs_mk (l : List Nat) : cs ⟨l.toArray⟩ = l := by simp [cs]
theorem mk_cs (x : Str) : (⟨(cs x).toArray⟩ : Str) = x := by cases x; simp [cs]
theorem str_ext {x y : Str} (h : cs x = cs y) : x = y := by rw [← mk_cs x, ← mk_cs y, h]
end DL
namespace K06
open PySem PySem.Spec PyProof.Rows L2 DL
def top (i : Nat) : Stmt := PySem.Challenge.pw_twinshelves_k06_names_and_quarrels.main.body.getD i (.Pass ⟨0, 0, 0, 0⟩)
abbrev s_L_cell : Stmt := top 6
abbrev s_L_mix : Stmt := top 7
abbrev s_L_name : Stmt := top 8
abbrev s_L_text : Stmt := top 9
abbrev s_L_which : Stmt := top 13
abbrev s_L_known : Stmt := top 11
abbrev s_L_marked : Stmt := top 12
abbrev s_L_file : Stmt := top 14
abbrev s_name_of : Stmt := top 2
abbrev s_is_gone : Stmt := top 1
abbrev s_has_several_sorts : Stmt := top 3
abbrev s_quarrels_of : Stmt := top 4
abbrev s_L_same : Stmt := top 10
abbrev s_L_sorts : Stmt := top 15
abbrev s_L_is_told : Stmt := top 16
abbrev s_L_more : Stmt := top 17
abbrev s_law : Stmt := top 18
theorem nd0 : (["_law_script", "_law_k"] : List Str).Nodup := by decide +kernel
theorem nd1 : (["_law_cell_here", "_law_prime", "_law_many"] : List Str).Nodup := by decide +kernel
theorem nd2 : (["_law_cell_here", "_law_letters", "_law_many"] : List Str).Nodup := by decide +kernel
theorem nd3 : (["_law_k", "_law_cell_here", "_law_letters"] : List Str).Nodup := by decide +kernel
theorem nd4 : (["_law_cell_here", "_law_signs", "_law_many"] : List Str).Nodup := by decide +kernel
theorem nd5 : (["_law_k", "_law_cell_here", "_law_signs"] : List Str).Nodup := by decide +kernel
theorem nd6 : (["_law_cell_here"] : List Str).Nodup := by decide +kernel
theorem nd7 : (["_law_cell_here", "_law_which_here", "_law_found", "_law_house", "_law_many"] : List Str).Nodup := by decide +kernel
theorem nd8 : (["_law_cell_here", "_law_known_here", "_law_kind", "_law_seed", "_law_found", "_law_k", "_law_house", "_law_most", "_law_mark", "_law_words"] : List Str).Nodup := by decide +kernel
theorem nd9 : (["_law_mark", "_law_found"] : List Str).Nodup := by decide +kernel
theorem nd10 : (["_law_cell_here", "_law_which_here", "_law_first", "_law_seed", "_law_known_here"] : List Str).Nodup := by decide +kernel
theorem nd11 : (["file"] : List Str).Nodup := by decide +kernel
theorem nd12 : (["pair"] : List Str).Nodup := by decide +kernel
theorem nd13 : (["pairs"] : List Str).Nodup := by decide +kernel
theorem nd14 : (["file", "kinds"] : List Str).Nodup := by decide +kernel
theorem nd15 : (["_law_found", "_law_due"] : List Str).Nodup := by decide +kernel
theorem nd16 : (["_law_one", "_law_other"] : List Str).Nodup := by decide +kernel
theorem nd17 : (["_law_pairs"] : List Str).Nodup := by decide +kernel
theorem nd18 : (["_law_k", "_law_pairs"] : List Str).Nodup := by decide +kernel
theorem nd19 : (["_law_pair"] : List Str).Nodup := by decide +kernel
theorem nd20 : (["_law_file_here", "_law_due", "_law_name_here"] : List Str).Nodup := by decide +kernel
theorem nd21 : (["_law_mark", "_law_word"] : List Str).Nodup := by decide +kernel
theorem nd22 : (["_law_file_here", "_law_part", "_law_words", "_law_house", "_law_most", "_law_known_here", "_law_more_here", "_law_some"] : List Str).Nodup := by decide +kernel
theorem nd23 : (["_law_script", "_law_k", "_law_cell_here", "_law_file_here", "_law_name_here", "_law_text_here", "_law_some"] : List Str).Nodup := by decide +kernel
theorem nd24 : (["_law_one"] : List Str).Nodup := by decide +kernel
theorem boot_all' : bootBuiltins "all" = some (.builtin "all") := by decide +kernel
theorem boot_bool' : bootBuiltins "bool" = some (.type "bool") := by decide +kernel
theorem boot_int' : bootBuiltins "int" = some (.type "int") := by decide +kernel
theorem boot_isinstance' : bootBuiltins "isinstance" = some (.builtin "isinstance") := by decide +kernel
theorem boot_len' : bootBuiltins "len" = some (.builtin "len") := by decide +kernel
theorem boot_min' : bootBuiltins "min" = some (.builtin "min") := by decide +kernel
theorem boot_set' : bootBuiltins "set" = some (.type "set") := by decide +kernel
theorem boot_sorted' : bootBuiltins "sorted" = some (.builtin "sorted") := by decide +kernel
theorem boot_str' : bootBuiltins "str" = some (.type "str") := by decide +kernel
theorem boot_tuple' : bootBuiltins "tuple" = some (.type "tuple") := by decide +kernel
theorem boot_zip' : bootBuiltins "zip" = some (.type "zip") := by decide +kernel
structure Txt (K : PySem.W.Frag) (mg : Str → Option Value) : Prop where
 n_all : mg "all" = none
 n_bool : mg "bool" = none
 n_int : mg "int" = none
 n_isinstance : mg "isinstance" = none
 n_len : mg "len" = none
 n_min : mg "min" = none
 n_range : mg "range" = none
 n_set : mg "set" = none
 n_sorted : mg "sorted" = none
 n_str : mg "str" = none
 n_tuple : mg "tuple" = none
 n_zip : mg "zip" = none
noncomputable abbrev m_L_cell : MS := (mSeq (mIfS (mT (mOp gLt (mVar 1) (mLen (mVar 0)))) (mRet (mOp gIx (mVar 0) (mVar 1))) mNx) (mRet (mCon (D.int (0)))))
noncomputable def F_L_cell : List D → Sto → Option (D × Sto) := runD 2 2 m_L_cell
noncomputable abbrev m_L_mix : MS := (mRet (mOp gMod (mOp gMod (mOp gMul (mVar 0) (mCon (D.int (48271)))) (mVar 1)) (mVar 2)))
noncomputable def F_L_mix : List D → Sto → Option (D × Sto) := runD 3 3 m_L_mix
noncomputable def e_L_name_0 : M D := (mOp gIx (mVar 2) (mCall F_L_mix (mCons (mOp gAdd (mVar 1) (mOp gMul (mCon (D.int (7))) (mVar 0))) (mCons (mCon (D.int (9967))) (mCons (mLen (mVar 2)) mNil)))))
noncomputable abbrev m_L_name : MS := (mSeq (mAsg (mCon (D.str (Str.ofString "abcdefghijklmnopqrstuvwxyz"))) (gN 1)) (mSeq (mAsg (mOp gAdd (mCon (D.int (1))) (mCall F_L_mix (mCons (mVar 0) (mCons (mCon (D.int (9973))) (mCons (mCon (D.int (6))) mNil))))) (gN 2)) (mSeq (mIfS (mT (mOp gEq (mOp gMod (mVar 0) (mCon (D.int (3)))) (mCon (D.int (0))))) (mSeq (mAsg (mCon (D.str (Str.ofString "ab"))) (gN 1)) (mAsg (mOp gAdd (mCon (D.int (1))) (mOp gMod (mVar 2) (mCon (D.int (2))))) (gN 2))) mNx) (mRet (mJoin (mCon (D.str (Str.ofString ""))) (mComp (mRng1 (mVar 2)) 1 [0, 1] (gN 0) mTrue e_L_name_0))))))
noncomputable def F_L_name : List D → Sto → Option (D × Sto) := runD 3 1 m_L_name
noncomputable def e_L_text_0 : M D := (mOp gIx (mVar 2) (mCall F_L_mix (mCons (mOp gAdd (mVar 1) (mOp gMul (mCon (D.int (7))) (mVar 0))) (mCons (mCon (D.int (9923))) (mCons (mLen (mVar 2)) mNil)))))
noncomputable abbrev m_L_text : MS := (mSeq (mAsg (mCon (D.str (Str.ofString " !\"#$&'()*+,-./0123456789:;<=>?\x40ABCDEFGHIJKLMNOPQRSTUVWXYZ[\\]^_`abcdefghijklmnopqrstuvwxyz{|}~"))) (gN 1)) (mSeq (mAsg (mCall F_L_mix (mCons (mVar 0) (mCons (mCon (D.int (9949))) (mCons (mCon (D.int (5))) mNil)))) (gN 2)) (mSeq (mIfS (mT (mOp gEq (mCall F_L_mix (mCons (mVar 0) (mCons (mCon (D.int (9941))) (mCons (mCon (D.int (9))) mNil)))) (mCon (D.int (0))))) (mAsg (mCon (D.int (60))) (gN 2)) mNx) (mSeq (mIfS (mT (mOp gEq (mCall F_L_mix (mCons (mVar 0) (mCons (mCon (D.int (9941))) (mCons (mCon (D.int (9))) mNil)))) (mCon (D.int (1))))) (mAsg (mCall F_L_mix (mCons (mVar 0) (mCons (mCon (D.int (9931))) (mCons (mCon (D.int (61))) mNil)))) (gN 2)) mNx) (mSeq (mIfS (mT (mOp gEq (mOp gMod (mVar 0) (mCon (D.int (4)))) (mCon (D.int (0))))) (mRet (mOp gIx (mTup (mCons (mCon (D.str (Str.ofString ""))) (mCons (mCon (D.str (Str.ofString "a"))) (mCons (mCon (D.str (Str.ofString "hi;"))) mNil)))) (mCall F_L_mix (mCons (mVar 0) (mCons (mCon (D.int (9929))) (mCons (mCon (D.int (3))) mNil)))))) mNx) (mRet (mJoin (mCon (D.str (Str.ofString ""))) (mComp (mRng1 (mVar 2)) 1 [0, 1] (gN 0) mTrue e_L_text_0))))))))
noncomputable def F_L_text : List D → Sto → Option (D × Sto) := runD 3 1 m_L_text
noncomputable abbrev m_L_which : MS := (mRet (mTup (mCons (mCall F_L_mix (mCons (mVar 0) (mCons (mCon (D.int (9871))) (mCons (mCon (D.int (6))) mNil)))) (mCons (mOp gAdd (mOp gAdd (mCon (D.int (1))) (mCall F_L_mix (mCons (mVar 0) (mCons (mCon (D.int (9859))) (mCons (mCon (D.int (4))) mNil))))) (mOp gMul (mCon (D.int (9))) (mOp gMod (mVar 0) (mCon (D.int (2)))))) mNil))))
noncomputable def F_L_which : List D → Sto → Option (D × Sto) := runD 1 1 m_L_which
noncomputable def b_L_known_0 : MS := (mSeq (mAsg (mCall F_L_mix (mCons (mOp gAdd (mVar 0) (mOp gMul (mCon (D.int (31))) (mVar 3))) (mCons (mCon (D.int (9907))) (mCons (mCon (D.int (3))) mNil)))) (gN 4)) (mSeq (mIfS (mT (mOp gEq (mVar 3) (mOp gIx (mVar 1) (mCon (D.int (0)))))) (mAsg (mOp gAdd (mVar 4) (mOp gIx (mVar 1) (mCon (D.int (1))))) (gN 4)) mNx) (mIfS (mT (mOp gGt (mVar 4) (mCon (D.int (0))))) (mDrop (mApp (mVar 2) (mTup (mCons (mVar 3) (mCons (mVar 4) mNil))))) mNx)))
noncomputable abbrev m_L_known : MS := (mSeq (mAsg (mLst mNil) (gN 2)) (mSeq (mFor (mRng1 (mCon (D.int (6)))) (gN 3) b_L_known_0) (mRet (mTupV (mVar 2)))))
noncomputable def F_L_known : List D → Sto → Option (D × Sto) := runD 5 2 m_L_known
noncomputable def b_L_marked_0 : MS := (mSeq (mAsg (mOp gIx (mVar 1) (mCall F_L_mix (mCons (mOp gAdd (mVar 0) (mOp gMul (mCon (D.int (7))) (mVar 5))) (mCons (mCon (D.int (9887))) (mCons (mLen (mVar 1)) mNil))))) (gT 2 (gsCons (gN 6) (gsCons (gN 7) gsNil)))) (mSeq (mAsg (mTup (mCons (mVar 6) (mCons (mOp gAdd (mCon (D.int (1))) (mCall F_L_mix (mCons (mOp gAdd (mVar 0) (mOp gMul (mCon (D.int (11))) (mVar 5))) (mCons (mCon (D.int (9883))) (mCons (mVar 7) mNil))))) mNil))) (gN 8)) (mSeq (mAsg (mOp gAdd (mOp gAdd (mVar 3) (mOp gMul (mCon (D.int (97))) (mOp gIx (mVar 8) (mCon (D.int (0)))))) (mOp gMul (mCon (D.int (13))) (mOp gIx (mVar 8) (mCon (D.int (1)))))) (gN 9)) (mSeq (mSetItem (mCall F_L_name (mCons (mVar 9) mNil)) (mVar 4) (mVar 8)) (mIfS (mT (mOp gEq (mVar 2) (mCon (D.int (1))))) (mSetItem (mCall F_L_text (mCons (mVar 9) mNil)) (mVar 4) (mVar 8)) mNx)))))
noncomputable def e_L_marked_0 : M D := (mTup (mCons (mVar 0) (mCons (mOp gIx (mVar 1) (mVar 0)) mNil)))
noncomputable abbrev m_L_marked : MS := (mSeq (mAsg mNewD (gN 4)) (mSeq (mFor (mRng1 (mCall F_L_mix (mCons (mVar 0) (mCons (mCon (D.int (9901))) (mCons (mCon (D.int (4))) mNil))))) (gN 5) b_L_marked_0) (mRet (mTupL (mComp (mIter (mKeep (mSrtV (mVar 4)))) 1 [4] (gN 0) mTrue e_L_marked_0)))))
noncomputable def F_L_marked : List D → Sto → Option (D × Sto) := runD 10 4 m_L_marked
noncomputable abbrev m_L_file : MS := (mSeq (mAsg (mCall F_L_known (mCons (mVar 0) (mCons (mVar 1) mNil))) (gN 4)) (mRet (mTup (mCons (mVar 1) (mCons (mVar 2) (mCons (mVar 4) (mCons (mCall F_L_marked (mCons (mOp gAdd (mVar 0) (mCon (D.int (1)))) (mCons (mVar 4) (mCons (mCon (D.int (0))) (mCons (mVar 3) mNil))))) (mCons (mCall F_L_marked (mCons (mOp gAdd (mVar 0) (mCon (D.int (2)))) (mCons (mVar 4) (mCons (mCon (D.int (1))) (mCons (mOp gAdd (mVar 3) (mCon (D.int (5)))) mNil))))) mNil))))))))
noncomputable def F_L_file : List D → Sto → Option (D × Sto) := runD 5 4 m_L_file
noncomputable def e_name_of_0 : M D := (mOp gIx (mVar 0) (mCon (D.int (1))))
noncomputable abbrev m_name_of : MS := (mRet (mMinD (mKeep (mComp (mIter (mOp gIx (mVar 0) (mCon (D.int (3))))) 1 [] (gN 0) mTrue e_name_of_0)) (mOp gIx (mVar 0) (mCon (D.int (1))))))
noncomputable def F_name_of : List D → Sto → Option (D × Sto) := runD 1 1 m_name_of
noncomputable abbrev m_is_gone : MS := (mRet (mOp gEq (mLen (mOp gIx (mVar 0) (mCon (D.int (4))))) (mCon (D.int (0)))))
noncomputable def F_is_gone : List D → Sto → Option (D × Sto) := runD 1 1 m_is_gone
noncomputable def e_has_several_sorts_0 : M D := (mOp gIx (mVar 0) (mCon (D.int (1))))
noncomputable abbrev m_has_several_sorts : MS := (mRet (mOp gGt (mLenSet (mKeep (mComp (mIter (mVar 0)) 1 [] (gN 0) mTrue e_has_several_sorts_0))) (mCon (D.int (1)))))
noncomputable def F_has_several_sorts : List D → Sto → Option (D × Sto) := runD 1 1 m_has_several_sorts
noncomputable abbrev m_quarrels_of : MS := (mSeq (mIfS (mTru (mCall F_is_gone (mCons (mVar 0) mNil))) (mRet (mTup mNil)) mNx) (mSeq (mAsg (mLst mNil) (gN 1)) (mSeq (mIfS (mTru (mCall F_has_several_sorts (mCons (mOp gIx (mVar 0) (mCon (D.int (3)))) mNil))) (mDrop (mApp (mVar 1) (mCon (D.str (Str.ofString "name"))))) mNx) (mSeq (mIfS (mTru (mCall F_has_several_sorts (mCons (mOp gIx (mVar 0) (mCon (D.int (4)))) mNil))) (mDrop (mApp (mVar 1) (mCon (D.str (Str.ofString "text"))))) mNx) (mRet (mTupV (mVar 1)))))))
noncomputable def F_quarrels_of : List D → Sto → Option (D × Sto) := runD 2 1 m_quarrels_of
noncomputable abbrev m_L_same (Fr : List D → Sto → Option (D × Sto)) : MS := (mSeq (mIfS (mTru (mIsi "tuple" (mVar 1))) (mSeq (mIfS (mOr (mNot (mTru (mIsi "tuple" (mVar 0)))) (mT (mOp gNe (mLen (mVar 0)) (mLen (mVar 1))))) (mRet (mCon (D.bl false))) mNx) (mRet (mAll (mComp (mZip (mVar 0) (mVar 1)) 2 [] (gT 2 (gsCons (gN 0) (gsCons (gN 1) gsNil))) mTrue (mCall Fr (mCons (mVar 0) (mCons (mVar 1) mNil))))))) mNx) (mSeq (mIfS (mT (mOp gIs (mVar 1) (mCon D.non))) (mRet (mOp gIs (mVar 0) (mCon D.non))) mNx) (mSeq (mIfS (mOr (mTru (mIsi "bool" (mVar 1))) (mTru (mIsi "bool" (mVar 0)))) (mRet (vAnd (mIsi "bool" (mVar 1)) (vAnd (mIsi "bool" (mVar 0)) (mOp gEq (mVar 0) (mVar 1))))) mNx) (mRet (vAnd (mIsi2 "int" "str" (mVar 0)) (mOp gEq (mVar 0) (mVar 1)))))))
noncomputable def F_L_same : Nat → List D → Sto → Option (D × Sto)
 | 0 => fun _ _ => none
 | k + 1 => runD 2 2 (m_L_same (F_L_same k))
noncomputable def e_L_sorts_0 : M D := (mOp gIx (mVar 0) (mCon (D.int (1))))
noncomputable def c_L_sorts_0 : M Bool := (mT (mOp gNotIn (mOp gIx (mOp gIx (mVar 1) (mVar 0)) (mCon (D.int (1)))) (mKeep (mComp (mIter (mSl (mVar 1) mNoPart (mPart (mVar 0)))) 1 [] (gN 0) mTrue e_L_sorts_0))))
noncomputable def e_L_sorts_1 : M D := (mVar 0)
noncomputable abbrev m_L_sorts : MS := (mRet (mLen (mKeep (mComp (mRng1 (mLen (mVar 0))) 1 [0] (gN 0) c_L_sorts_0 e_L_sorts_1))))
noncomputable def F_L_sorts : List D → Sto → Option (D × Sto) := runD 1 1 m_L_sorts
noncomputable def e_L_is_told_0 : M D := (mVar 1)
noncomputable abbrev m_L_is_told : MS := (mSeq (mAsg (mTup mNil) (gN 1)) (mSeq (mIfS (mAnd (mTru (mOp gIx (mVar 0) (mCon (D.int (4))))) (mT (mOp gGt (mCall F_L_sorts (mCons (mOp gIx (mVar 0) (mCon (D.int (3)))) mNil)) (mCon (D.int (1)))))) (mAsg (mOp gAdd (mVar 1) (mTup (mCons (mCon (D.str (Str.ofString "name"))) mNil))) (gN 1)) mNx) (mSeq (mIfS (mAnd (mTru (mOp gIx (mVar 0) (mCon (D.int (4))))) (mT (mOp gGt (mCall F_L_sorts (mCons (mOp gIx (mVar 0) (mCon (D.int (4)))) mNil)) (mCon (D.int (1)))))) (mAsg (mOp gAdd (mVar 1) (mTup (mCons (mCon (D.str (Str.ofString "text"))) mNil))) (gN 1)) mNx) (mSeq (mAsg (mOp gIx (mVar 0) (mCon (D.int (1)))) (gN 2)) (mSeq (mIfS (mTru (mOp gIx (mVar 0) (mCon (D.int (3))))) (mAsg (mOp gIx (mKeep (mSrt (mComp (mIter (mOp gIx (mVar 0) (mCon (D.int (3))))) 2 [] (gT 2 (gsCons (gN 0) (gsCons (gN 1) gsNil))) mTrue e_L_is_told_0))) (mCon (D.int (0)))) (gN 2)) mNx) (mRet (vAnd (mCall (F_L_same 12) (mCons (mCall F_quarrels_of (mCons (mVar 0) mNil)) (mCons (mVar 1) mNil))) (mCall (F_L_same 12) (mCons (mCall F_name_of (mCons (mVar 0) mNil)) (mCons (mVar 2) mNil))))))))))
noncomputable def F_L_is_told : List D → Sto → Option (D × Sto) := runD 3 1 m_L_is_told
noncomputable abbrev m_L_more : MS := (mSeq (mAsg (mOp gIx (mOp gIx (mVar 0) (mCon (D.int (2)))) (mCon (D.int (-1)))) (gT 2 (gsCons (gN 3) (gsCons (gN 4) gsNil)))) (mSeq (mAsg (mOp gAdd (mSl (mOp gIx (mVar 0) (mCon (D.int (2)))) mNoPart (mPart (mCon (D.int (-1))))) (mTup (mCons (mTup (mCons (mVar 3) (mCons (mOp gAdd (mVar 4) (mCon (D.int (1)))) mNil))) mNil))) (gN 5)) (mSeq (mAsg (mOp gAdd (mOp gAdd (mSl (mVar 0) mNoPart (mPart (mCon (D.int (2))))) (mTup (mCons (mVar 5) mNil))) (mSl (mVar 0) (mPart (mCon (D.int (3)))) mNoPart)) (gN 6)) (mSeq (mAsg (mTupL (mSrtV (mOp gAdd (mOp gIx (mVar 0) (mVar 1)) (mTup (mCons (mTup (mCons (mTup (mCons (mVar 3) (mCons (mOp gAdd (mVar 4) (mCon (D.int (1)))) mNil))) (mCons (mVar 2) mNil))) mNil))))) (gN 7)) (mRet (mOp gAdd (mOp gAdd (mSl (mVar 6) mNoPart (mPart (mVar 1))) (mTup (mCons (mVar 7) mNil))) (mSl (mVar 6) (mPart (mOp gAdd (mVar 1) (mCon (D.int (1))))) mNoPart)))))))
noncomputable def F_L_more : List D → Sto → Option (D × Sto) := runD 8 3 m_L_more
noncomputable def e_law_0 : M D := (mCall F_L_is_told (mCons (mVar 0) mNil))
noncomputable def b_law_0 : MS := (mSeq (mAsg (mCall F_L_cell (mCons (mVar 0) (mCons (mVar 1) mNil))) (gN 2)) (mSeq (mAsg (mCall F_L_file (mCons (mVar 2) (mCons (mCall F_L_which (mCons (mOp gAdd (mVar 2) (mCon (D.int (1)))) mNil)) (mCons (mCall F_L_name (mCons (mOp gAdd (mVar 2) (mCon (D.int (2)))) mNil)) (mCons (mCall F_L_cell (mCons (mVar 0) (mCons (mOp gAdd (mVar 1) (mCon (D.int (1)))) mNil))) mNil))))) (gN 3)) (mSeq (mAsg (mCall F_L_name (mCons (mOp gAdd (mVar 2) (mCon (D.int (4)))) mNil)) (gN 4)) (mSeq (mAsg (mCall F_L_text (mCons (mOp gAdd (mVar 2) (mCon (D.int (5)))) mNil)) (gN 5)) (mSeq (mAsg (mLst (mCons (mVar 3) (mCons (mOp gAdd (mSl (mVar 3) mNoPart (mPart (mCon (D.int (4))))) (mTup (mCons (mTup mNil) mNil))) (mCons (mOp gAdd (mOp gAdd (mSl (mVar 3) mNoPart (mPart (mCon (D.int (3))))) (mTup (mCons (mTup mNil) mNil))) (mSl (mVar 3) (mPart (mCon (D.int (4)))) mNoPart)) (mCons (mCall F_L_more (mCons (mVar 3) (mCons (mCon (D.int (3))) (mCons (mVar 4) mNil)))) (mCons (mCall F_L_more (mCons (mVar 3) (mCons (mCon (D.int (4))) (mCons (mVar 5) mNil)))) mNil)))))) (gN 6)) (mSeq (mDrop (mApp (mVar 6) (mCall F_L_more (mCons (mCall F_L_more (mCons (mVar 3) (mCons (mCon (D.int (4))) (mCons (mVar 5) mNil)))) (mCons (mCon (D.int (4))) (mCons (mVar 5) mNil)))))) (mSeq (mDrop (mApp (mVar 6) (mCall F_L_more (mCons (mCall F_L_more (mCons (mVar 3) (mCons (mCon (D.int (3))) (mCons (mVar 4) mNil)))) (mCons (mCon (D.int (3))) (mCons (mVar 4) mNil)))))) (mSeq (mDrop (mApp (mVar 6) (mCall F_L_more (mCons (mCall F_L_more (mCons (mVar 3) (mCons (mCon (D.int (3))) (mCons (mVar 4) mNil)))) (mCons (mCon (D.int (4))) (mCons (mVar 5) mNil)))))) (mSeq (mDrop (mApp (mVar 6) (mCall F_L_more (mCons (mCall F_L_more (mCons (mVar 3) (mCons (mCon (D.int (4))) (mCons (mVar 4) mNil)))) (mCons (mCon (D.int (4))) (mCons (mOp gAdd (mVar 4) (mCon (D.str (Str.ofString "a")))) mNil)))))) (mIfS (mNot (mTru (mAll (mComp (mIter (mVar 6)) 1 [] (gN 0) mTrue e_law_0)))) (mRet (mCon (D.bl false))) mNx))))))))))
noncomputable abbrev m_law : MS := (mSeq (mFor (mRng1 (mCon (D.int (4)))) (gN 1) b_law_0) (mRet (mCon (D.bl true))))
noncomputable def F_law : List D → Sto → Option (D × Sto) := runD 7 1 m_law
section
variable {P : Program} {w : World} {K : PySem.W.Frag} {mg : Str → Option Value} {base : Heap}
theorem sc_0 : FnScope ["_law_script", "_law_k"] ["_law_script", "_law_k"] (defScope s_L_cell) := ⟨rfl, rfl, rfl, nd0, rfl, by decide +kernel, by decide +kernel⟩
theorem ok_0 {f_0 : Addr} {fd_0 : FuncData} (T : Txt K mg) (O_0 : Own K mg "_law_cell" s_L_cell f_0 fd_0 ["_law_script", "_law_k"]) : FnOk P w K mg base CX0 1 f_0 fd_0 ["_law_script", "_law_k"] (spD K 2 F_L_cell) :=
 fn_d (k := 0) O_0.fn sc_0 rfl rfl fun cdv A outer s H E hr => (sb_cons (ss_if (st_cmp (opd_lt (hu64 hr)) (sv 1) (se_len (sv 0) rfl T.n_len boot_len') (nomark _)) (sb_one (ss_ret (se_ix (hu64 hr) (sv 0) (sv 1)))) sb_nil)
   (sb_one (ss_ret se_int)))
theorem sc_5 : FnScope ["_law_cell_here", "_law_prime", "_law_many"] ["_law_cell_here", "_law_prime", "_law_many"] (defScope s_L_mix) := ⟨rfl, rfl, rfl, nd1, rfl, by decide +kernel, by decide +kernel⟩
theorem ok_5 {f_5 : Addr} {fd_5 : FuncData} (T : Txt K mg) (O_5 : Own K mg "_law_mix" s_L_mix f_5 fd_5 ["_law_cell_here", "_law_prime", "_law_many"]) : FnOk P w K mg base CX0 1 f_5 fd_5 ["_law_cell_here", "_law_prime", "_law_many"] (spD K 3 F_L_mix) :=
 fn_d (k := 0) O_5.fn sc_5 rfl rfl fun cdv A outer s H E hr => (sb_one (ss_ret (se_op opd_mod (se_op opd_mod (se_op opd_mul (sv 0) se_int) (sv 1)) (sv 2))))
theorem sc_7 : FnScope ["_law_cell_here", "_law_letters", "_law_many"] ["_law_cell_here"] (defScope s_L_name) := ⟨rfl, rfl, rfl, nd2, rfl, by decide +kernel, by decide +kernel⟩
theorem ok_7 {f_7 : Addr} {fd_7 : FuncData} (T : Txt K mg) (O_7 : Own K mg "_law_name" s_L_name f_7 fd_7 ["_law_cell_here"]) {f_5 : Addr} {fd_5 : FuncData} (O_5 : Own K mg "_law_mix" s_L_mix f_5 fd_5 ["_law_cell_here", "_law_prime", "_law_many"]) (G_5 : FnOk P w K mg base CX0 1 f_5 fd_5 ["_law_cell_here", "_law_prime", "_law_many"] (spD K 3 F_L_mix)) : FnOk P w K mg base CX0 2 f_7 fd_7 ["_law_cell_here"] (spD K 1 F_L_name) :=
 fn_d (k := 1) O_7.fn sc_7 rfl rfl fun cdv A outer s H E hr => (sb_cons (ss_set (i := 1) nd2 rfl (Or.inr rfl) se_str)
   (sb_cons (ss_set (i := 2) nd2 rfl (Or.inl rfl) (se_op opd_add se_int (se_call G_5 (hr.mono (by omega)) rfl O_5.mgf O_5.fn.kp O_5.b (sa_cons (sv 0) (sa_cons se_int (sa_cons se_int sa_nil))) (len_cons (len_cons (len_cons len_nil))))))
   (sb_cons (ss_if (st_cmp (opd_eq (hu64 hr)) (se_op opd_mod (sv 0) se_int) se_int (nomark _)) (sb_cons (ss_set (i := 1) nd2 rfl (Or.inr rfl) se_str)
   (sb_one (ss_set (i := 2) nd2 rfl (Or.inl rfl) (se_op opd_add se_int (se_op opd_mod (sv 2) se_int))))) sb_nil)
   (sb_one (ss_ret (se_join' se_str (sq_comp (tgs := ["_law_k"]) (cn := ["_law_cell_here", "_law_letters"]) (caps := [0, 1]) rfl ⟨by decide +kernel, rfl, by decide +kernel, free_in (defScope s_L_name).names rfl (by decide +kernel), ⟨⟨rfl, .inl rfl, rfl⟩, ⟨⟨rfl, .inl rfl, rfl⟩, trivial⟩⟩⟩ (si_rng1 (sv 2) rfl T.n_range) (glow_name (by decide)) gd_name (fun _ _ _ _ => (pg_name (i := 0) nd3 rfl (Or.inl rfl))) (fun _ _ _ _ => sf_nil) (fun _ _ _ _ => (se_ix (hu64 hr) (sv 2) (se_call G_5 (hr.mono (by omega)) rfl O_5.mgf O_5.fn.kp O_5.b (sa_cons (se_op opd_add (sv 1) (se_op opd_mul se_int (sv 0))) (sa_cons se_int (sa_cons (se_len (sv 2) rfl T.n_len boot_len') sa_nil))) (len_cons (len_cons (len_cons len_nil)))))))))))))
theorem sc_10 : FnScope ["_law_cell_here", "_law_signs", "_law_many"] ["_law_cell_here"] (defScope s_L_text) := ⟨rfl, rfl, rfl, nd4, rfl, by decide +kernel, by decide +kernel⟩
theorem ok_10 {f_10 : Addr} {fd_10 : FuncData} (T : Txt K mg) (O_10 : Own K mg "_law_text" s_L_text f_10 fd_10 ["_law_cell_here"]) {f_5 : Addr} {fd_5 : FuncData} (O_5 : Own K mg "_law_mix" s_L_mix f_5 fd_5 ["_law_cell_here", "_law_prime", "_law_many"]) (G_5 : FnOk P w K mg base CX0 1 f_5 fd_5 ["_law_cell_here", "_law_prime", "_law_many"] (spD K 3 F_L_mix)) : FnOk P w K mg base CX0 2 f_10 fd_10 ["_law_cell_here"] (spD K 1 F_L_text) :=
 fn_d (k := 1) O_10.fn sc_10 rfl rfl fun cdv A outer s H E hr => (sb_cons (ss_set (i := 1) nd4 rfl (Or.inr rfl) se_str)
   (sb_cons (ss_set (i := 2) nd4 rfl (Or.inl rfl) (se_call G_5 (hr.mono (by omega)) rfl O_5.mgf O_5.fn.kp O_5.b (sa_cons (sv 0) (sa_cons se_int (sa_cons se_int sa_nil))) (len_cons (len_cons (len_cons len_nil)))))
   (sb_cons (ss_if (st_cmp (opd_eq (hu64 hr)) (se_call G_5 (hr.mono (by omega)) rfl O_5.mgf O_5.fn.kp O_5.b (sa_cons (sv 0) (sa_cons se_int (sa_cons se_int sa_nil))) (len_cons (len_cons (len_cons len_nil)))) se_int (nomark _)) (sb_one (ss_set (i := 2) nd4 rfl (Or.inl rfl) se_int)) sb_nil)
   (sb_cons (ss_if (st_cmp (opd_eq (hu64 hr)) (se_call G_5 (hr.mono (by omega)) rfl O_5.mgf O_5.fn.kp O_5.b (sa_cons (sv 0) (sa_cons se_int (sa_cons se_int sa_nil))) (len_cons (len_cons (len_cons len_nil)))) se_int (nomark _)) (sb_one (ss_set (i := 2) nd4 rfl (Or.inl rfl) (se_call G_5 (hr.mono (by omega)) rfl O_5.mgf O_5.fn.kp O_5.b (sa_cons (sv 0) (sa_cons se_int (sa_cons se_int sa_nil))) (len_cons (len_cons (len_cons len_nil)))))) sb_nil)
   (sb_cons (ss_if (st_cmp (opd_eq (hu64 hr)) (se_op opd_mod (sv 0) se_int) se_int (nomark _)) (sb_one (ss_ret (se_ix (hu64 hr) (se_tup (sa_cons se_str (sa_cons se_str (sa_cons se_str sa_nil)))) (se_call G_5 (hr.mono (by omega)) rfl O_5.mgf O_5.fn.kp O_5.b (sa_cons (sv 0) (sa_cons se_int (sa_cons se_int sa_nil))) (len_cons (len_cons (len_cons len_nil))))))) sb_nil)
   (sb_one (ss_ret (se_join' se_str (sq_comp (tgs := ["_law_k"]) (cn := ["_law_cell_here", "_law_signs"]) (caps := [0, 1]) rfl ⟨by decide +kernel, rfl, by decide +kernel, free_in (defScope s_L_text).names rfl (by decide +kernel), ⟨⟨rfl, .inl rfl, rfl⟩, ⟨⟨rfl, .inl rfl, rfl⟩, trivial⟩⟩⟩ (si_rng1 (sv 2) rfl T.n_range) (glow_name (by decide)) gd_name (fun _ _ _ _ => (pg_name (i := 0) nd5 rfl (Or.inl rfl))) (fun _ _ _ _ => sf_nil) (fun _ _ _ _ => (se_ix (hu64 hr) (sv 2) (se_call G_5 (hr.mono (by omega)) rfl O_5.mgf O_5.fn.kp O_5.b (sa_cons (se_op opd_add (sv 1) (se_op opd_mul se_int (sv 0))) (sa_cons se_int (sa_cons (se_len (sv 2) rfl T.n_len boot_len') sa_nil))) (len_cons (len_cons (len_cons len_nil)))))))))))))))
theorem sc_11 : FnScope ["_law_cell_here"] ["_law_cell_here"] (defScope s_L_which) := ⟨rfl, rfl, rfl, nd6, rfl, by decide +kernel, by decide +kernel⟩
theorem ok_11 {f_11 : Addr} {fd_11 : FuncData} (T : Txt K mg) (O_11 : Own K mg "_law_which" s_L_which f_11 fd_11 ["_law_cell_here"]) {f_5 : Addr} {fd_5 : FuncData} (O_5 : Own K mg "_law_mix" s_L_mix f_5 fd_5 ["_law_cell_here", "_law_prime", "_law_many"]) (G_5 : FnOk P w K mg base CX0 1 f_5 fd_5 ["_law_cell_here", "_law_prime", "_law_many"] (spD K 3 F_L_mix)) : FnOk P w K mg base CX0 2 f_11 fd_11 ["_law_cell_here"] (spD K 1 F_L_which) :=
 fn_d (k := 1) O_11.fn sc_11 rfl rfl fun cdv A outer s H E hr => (sb_one (ss_ret (se_tup (sa_cons (se_call G_5 (hr.mono (by omega)) rfl O_5.mgf O_5.fn.kp O_5.b (sa_cons (sv 0) (sa_cons se_int (sa_cons se_int sa_nil))) (len_cons (len_cons (len_cons len_nil)))) (sa_cons (se_op opd_add (se_op opd_add se_int (se_call G_5 (hr.mono (by omega)) rfl O_5.mgf O_5.fn.kp O_5.b (sa_cons (sv 0) (sa_cons se_int (sa_cons se_int sa_nil))) (len_cons (len_cons (len_cons len_nil))))) (se_op opd_mul se_int (se_op opd_mod (sv 0) se_int))) sa_nil)))))
theorem sc_3 : FnScope ["_law_cell_here", "_law_which_here", "_law_found", "_law_house", "_law_many"] ["_law_cell_here", "_law_which_here"] (defScope s_L_known) := ⟨rfl, rfl, rfl, nd7, rfl, by decide +kernel, by decide +kernel⟩
theorem ok_3 {f_3 : Addr} {fd_3 : FuncData} (T : Txt K mg) (O_3 : Own K mg "_law_known" s_L_known f_3 fd_3 ["_law_cell_here", "_law_which_here"]) {f_5 : Addr} {fd_5 : FuncData} (O_5 : Own K mg "_law_mix" s_L_mix f_5 fd_5 ["_law_cell_here", "_law_prime", "_law_many"]) (G_5 : FnOk P w K mg base CX0 1 f_5 fd_5 ["_law_cell_here", "_law_prime", "_law_many"] (spD K 3 F_L_mix)) : FnOk P w K mg base CX0 2 f_3 fd_3 ["_law_cell_here", "_law_which_here"] (spD K 2 F_L_known) :=
 fn_d (k := 1) O_3.fn sc_3 rfl rfl fun cdv A outer s H E hr => (sb_cons (ss_set (i := 2) nd7 rfl (Or.inl rfl) (se_lst sa_nil))
   (sb_cons (ss_for PassesOwn.never rfl (si_rng1 se_int rfl T.n_range) (pg_name (i := 3) nd7 rfl (Or.inl rfl)) gd_name (sb_cons (ss_set (i := 4) nd7 rfl (Or.inl rfl) (se_call G_5 (hr.mono (by omega)) rfl O_5.mgf O_5.fn.kp O_5.b (sa_cons (se_op opd_add (sv 0) (se_op opd_mul se_int (sv 3))) (sa_cons se_int (sa_cons se_int sa_nil))) (len_cons (len_cons (len_cons len_nil)))))
   (sb_cons (ss_if (st_cmp (opd_eq (hu64 hr)) (sv 3) (se_ix (hu64 hr) (sv 1) se_int) (nomark _)) (sb_one (ss_set (i := 4) nd7 rfl (Or.inl rfl) (se_op opd_add (sv 4) (se_ix (hu64 hr) (sv 1) se_int)))) sb_nil)
   (sb_one (ss_if (st_cmp opd_gt (sv 4) se_int (nomark _)) (sb_one (ss_expr (se_append (sv 2) (se_tup (sa_cons (sv 3) (sa_cons (sv 4) sa_nil)))))) sb_nil)))))
   (sb_one (ss_ret (se_tupV (sv 2) rfl T.n_tuple boot_tuple')))))
theorem sc_4 : FnScope ["_law_cell_here", "_law_known_here", "_law_kind", "_law_seed", "_law_found", "_law_k", "_law_house", "_law_most", "_law_mark", "_law_words"] ["_law_cell_here", "_law_known_here", "_law_kind", "_law_seed"] (defScope s_L_marked) := ⟨rfl, rfl, rfl, nd8, rfl, by decide +kernel, by decide +kernel⟩
theorem ok_4 {f_4 : Addr} {fd_4 : FuncData} (T : Txt K mg) (O_4 : Own K mg "_law_marked" s_L_marked f_4 fd_4 ["_law_cell_here", "_law_known_here", "_law_kind", "_law_seed"]) {f_5 : Addr} {fd_5 : FuncData} (O_5 : Own K mg "_law_mix" s_L_mix f_5 fd_5 ["_law_cell_here", "_law_prime", "_law_many"]) (G_5 : FnOk P w K mg base CX0 1 f_5 fd_5 ["_law_cell_here", "_law_prime", "_law_many"] (spD K 3 F_L_mix)) {f_7 : Addr} {fd_7 : FuncData} (O_7 : Own K mg "_law_name" s_L_name f_7 fd_7 ["_law_cell_here"]) (G_7 : FnOk P w K mg base CX0 2 f_7 fd_7 ["_law_cell_here"] (spD K 1 F_L_name)) {f_10 : Addr} {fd_10 : FuncData} (O_10 : Own K mg "_law_text" s_L_text f_10 fd_10 ["_law_cell_here"]) (G_10 : FnOk P w K mg base CX0 2 f_10 fd_10 ["_law_cell_here"] (spD K 1 F_L_text)) : FnOk P w K mg base CX0 3 f_4 fd_4 ["_law_cell_here", "_law_known_here", "_law_kind", "_law_seed"] (spD K 4 F_L_marked) :=
 fn_d (k := 2) O_4.fn sc_4 rfl rfl fun cdv A outer s H E hr => (sb_cons (ss_set (i := 4) nd8 rfl (Or.inr rfl) se_newD)
   (sb_cons (ss_for PassesOwn.never rfl (si_rng1 (se_call G_5 (hr.mono (by omega)) rfl O_5.mgf O_5.fn.kp O_5.b (sa_cons (sv 0) (sa_cons se_int (sa_cons se_int sa_nil))) (len_cons (len_cons (len_cons len_nil)))) rfl T.n_range) (pg_name (i := 5) nd8 rfl (Or.inl rfl)) gd_name (sb_cons (ss_asg (se_ix (hu64 hr) (sv 1) (se_call G_5 (hr.mono (by omega)) rfl O_5.mgf O_5.fn.kp O_5.b (sa_cons (se_op opd_add (sv 0) (se_op opd_mul se_int (sv 5))) (sa_cons se_int (sa_cons (se_len (sv 1) rfl T.n_len boot_len') sa_nil))) (len_cons (len_cons (len_cons len_nil))))) (pg_tup rfl (pgs_cons (pg_name (i := 6) nd8 rfl (Or.inl rfl)) (pgs_cons (pg_name (i := 7) nd8 rfl (Or.inl rfl)) pgs_nil))) (gd_tup (gsd_cons gd_name (gsd_cons gd_name gsd_nil))))
   (sb_cons (ss_set (i := 8) nd8 rfl (Or.inl rfl) (se_tup (sa_cons (sv 6) (sa_cons (se_op opd_add se_int (se_call G_5 (hr.mono (by omega)) rfl O_5.mgf O_5.fn.kp O_5.b (sa_cons (se_op opd_add (sv 0) (se_op opd_mul se_int (sv 5))) (sa_cons se_int (sa_cons (sv 7) sa_nil))) (len_cons (len_cons (len_cons len_nil))))) sa_nil))))
   (sb_cons (ss_set (i := 9) nd8 rfl (Or.inl rfl) (se_op opd_add (se_op opd_add (sv 3) (se_op opd_mul se_int (se_ix (hu64 hr) (sv 8) se_int))) (se_op opd_mul se_int (se_ix (hu64 hr) (sv 8) se_int))))
   (sb_cons (ss_setItem (hu64 hr) (se_call G_7 (hr.mono (by omega)) rfl O_7.mgf O_7.fn.kp O_7.b (sa_cons (sv 9) sa_nil) (len_cons len_nil)) (sv 4) (sv 8))
   (sb_one (ss_if (st_cmp (opd_eq (hu64 hr)) (sv 2) se_int (nomark _)) (sb_one (ss_setItem (hu64 hr) (se_call G_10 (hr.mono (by omega)) rfl O_10.mgf O_10.fn.kp O_10.b (sa_cons (sv 9) sa_nil) (len_cons len_nil)) (sv 4) (sv 8))) sb_nil)))))))
   (sb_one (ss_ret (se_tupL (sl_comp (tgs := ["_law_mark"]) (cn := ["_law_found"]) (caps := [4]) rfl ⟨by decide +kernel, rfl, by decide +kernel, free_in (defScope s_L_marked).names rfl (by decide +kernel), ⟨⟨rfl, .inl rfl, rfl⟩, trivial⟩⟩ (si_of (sl_e (sl_sortedV rfl (hu70 hr) (sv 4) rfl T.n_sorted boot_sorted'))) (glow_name (by decide)) gd_name (fun _ _ _ _ => (pg_name (i := 0) nd9 rfl (Or.inl rfl))) (fun _ _ _ _ => sf_nil) (fun _ _ _ _ => (se_tup (sa_cons (sv 0) (sa_cons (se_ix (hu64 hr) (sv 1) (sv 0)) sa_nil))))) rfl T.n_tuple boot_tuple')))))
theorem sc_1 : FnScope ["_law_cell_here", "_law_which_here", "_law_first", "_law_seed", "_law_known_here"] ["_law_cell_here", "_law_which_here", "_law_first", "_law_seed"] (defScope s_L_file) := ⟨rfl, rfl, rfl, nd10, rfl, by decide +kernel, by decide +kernel⟩
theorem ok_1 {f_1 : Addr} {fd_1 : FuncData} (T : Txt K mg) (O_1 : Own K mg "_law_file" s_L_file f_1 fd_1 ["_law_cell_here", "_law_which_here", "_law_first", "_law_seed"]) {f_3 : Addr} {fd_3 : FuncData} (O_3 : Own K mg "_law_known" s_L_known f_3 fd_3 ["_law_cell_here", "_law_which_here"]) (G_3 : FnOk P w K mg base CX0 2 f_3 fd_3 ["_law_cell_here", "_law_which_here"] (spD K 2 F_L_known)) {f_4 : Addr} {fd_4 : FuncData} (O_4 : Own K mg "_law_marked" s_L_marked f_4 fd_4 ["_law_cell_here", "_law_known_here", "_law_kind", "_law_seed"]) (G_4 : FnOk P w K mg base CX0 3 f_4 fd_4 ["_law_cell_here", "_law_known_here", "_law_kind", "_law_seed"] (spD K 4 F_L_marked)) : FnOk P w K mg base CX0 4 f_1 fd_1 ["_law_cell_here", "_law_which_here", "_law_first", "_law_seed"] (spD K 4 F_L_file) :=
 fn_d (k := 3) O_1.fn sc_1 rfl rfl fun cdv A outer s H E hr => (sb_cons (ss_set (i := 4) nd10 rfl (Or.inl rfl) (se_call G_3 (hr.mono (by omega)) rfl O_3.mgf O_3.fn.kp O_3.b (sa_cons (sv 0) (sa_cons (sv 1) sa_nil)) (len_cons (len_cons len_nil))))
   (sb_one (ss_ret (se_tup (sa_cons (sv 1) (sa_cons (sv 2) (sa_cons (sv 4) (sa_cons (se_call G_4 (hr.mono (by omega)) rfl O_4.mgf O_4.fn.kp O_4.b (sa_cons (se_op opd_add (sv 0) se_int) (sa_cons (sv 4) (sa_cons se_int (sa_cons (sv 3) sa_nil)))) (len_cons (len_cons (len_cons (len_cons len_nil))))) (sa_cons (se_call G_4 (hr.mono (by omega)) rfl O_4.mgf O_4.fn.kp O_4.b (sa_cons (se_op opd_add (sv 0) se_int) (sa_cons (sv 4) (sa_cons se_int (sa_cons (se_op opd_add (sv 3) se_int) sa_nil)))) (len_cons (len_cons (len_cons (len_cons len_nil))))) sa_nil)))))))))
theorem sc_15 : FnScope ["file"] ["file"] (defScope s_name_of) := ⟨rfl, rfl, rfl, nd11, rfl, by decide +kernel, by decide +kernel⟩
theorem ok_15 {f_15 : Addr} {fd_15 : FuncData} (T : Txt K mg) (O_15 : Own K mg "name_of" s_name_of f_15 fd_15 ["file"]) : FnOk P w K mg base CX0 1 f_15 fd_15 ["file"] (spD K 1 F_name_of) :=
 fn_d (k := 0) O_15.fn sc_15 rfl rfl fun cdv A outer s H E hr => (sb_one (ss_ret (se_minD rfl (se_comp (tgs := ["pair"]) (cn := []) (caps := []) rfl ⟨by decide +kernel, rfl, by decide +kernel, free_in (defScope s_name_of).names rfl (by decide +kernel), trivial⟩ (si_of (se_ix (hu64 hr) (sv 0) se_int)) (glow_name (by decide)) gd_name (fun _ _ _ _ => (pg_name (i := 0) nd12 rfl (Or.inl rfl))) (fun _ _ _ _ => sf_nil) (fun _ _ _ _ => (se_ix (hu64 hr) (sv 0) se_int))) (se_ix (hu64 hr) (sv 0) se_int) rfl T.n_min boot_min')))
theorem sc_13 : FnScope ["file"] ["file"] (defScope s_is_gone) := ⟨rfl, rfl, rfl, nd11, rfl, by decide +kernel, by decide +kernel⟩
theorem ok_13 {f_13 : Addr} {fd_13 : FuncData} (T : Txt K mg) (O_13 : Own K mg "is_gone" s_is_gone f_13 fd_13 ["file"]) : FnOk P w K mg base CX0 1 f_13 fd_13 ["file"] (spD K 1 F_is_gone) :=
 fn_d (k := 0) O_13.fn sc_13 rfl rfl fun cdv A outer s H E hr => (sb_one (ss_ret (se_cmp (opd_eq (hu64 hr)) (se_len (se_ix (hu64 hr) (sv 0) se_int) rfl T.n_len boot_len') se_int (nomark _))))
theorem sc_12 : FnScope ["pairs"] ["pairs"] (defScope s_has_several_sorts) := ⟨rfl, rfl, rfl, nd13, rfl, by decide +kernel, by decide +kernel⟩
theorem ok_12 {f_12 : Addr} {fd_12 : FuncData} (T : Txt K mg) (O_12 : Own K mg "has_several_sorts" s_has_several_sorts f_12 fd_12 ["pairs"]) : FnOk P w K mg base CX0 1 f_12 fd_12 ["pairs"] (spD K 1 F_has_several_sorts) :=
 fn_d (k := 0) O_12.fn sc_12 rfl rfl fun cdv A outer s H E hr => (sb_one (ss_ret (se_cmp opd_gt (se_lenSet rfl (se_comp (tgs := ["pair"]) (cn := []) (caps := []) rfl ⟨by decide +kernel, rfl, by decide +kernel, free_in (defScope s_has_several_sorts).names rfl (by decide +kernel), trivial⟩ (si_of (sv 0)) (glow_name (by decide)) gd_name (fun _ _ _ _ => (pg_name (i := 0) nd12 rfl (Or.inl rfl))) (fun _ _ _ _ => sf_nil) (fun _ _ _ _ => (se_ix (hu64 hr) (sv 0) se_int))) rfl T.n_len boot_len' rfl T.n_set boot_set') se_int (nomark _))))
theorem sc_16 : FnScope ["file", "kinds"] ["file"] (defScope s_quarrels_of) := ⟨rfl, rfl, rfl, nd14, rfl, by decide +kernel, by decide +kernel⟩
theorem ok_16 {f_16 : Addr} {fd_16 : FuncData} (T : Txt K mg) (O_16 : Own K mg "quarrels_of" s_quarrels_of f_16 fd_16 ["file"]) {f_13 : Addr} {fd_13 : FuncData} (O_13 : Own K mg "is_gone" s_is_gone f_13 fd_13 ["file"]) (G_13 : FnOk P w K mg base CX0 1 f_13 fd_13 ["file"] (spD K 1 F_is_gone)) {f_12 : Addr} {fd_12 : FuncData} (O_12 : Own K mg "has_several_sorts" s_has_several_sorts f_12 fd_12 ["pairs"]) (G_12 : FnOk P w K mg base CX0 1 f_12 fd_12 ["pairs"] (spD K 1 F_has_several_sorts)) : FnOk P w K mg base CX0 2 f_16 fd_16 ["file"] (spD K 1 F_quarrels_of) :=
 fn_d (k := 1) O_16.fn sc_16 rfl rfl fun cdv A outer s H E hr => (sb_cons (ss_if (st_truth (se_call G_13 (hr.mono (by omega)) rfl O_13.mgf O_13.fn.kp O_13.b (sa_cons (sv 0) sa_nil) (len_cons len_nil))) (sb_one (ss_ret (se_tup sa_nil))) sb_nil)
   (sb_cons (ss_set (i := 1) nd14 rfl (Or.inl rfl) (se_lst sa_nil))
   (sb_cons (ss_if (st_truth (se_call G_12 (hr.mono (by omega)) rfl O_12.mgf O_12.fn.kp O_12.b (sa_cons (se_ix (hu64 hr) (sv 0) se_int) sa_nil) (len_cons len_nil))) (sb_one (ss_expr (se_append (sv 1) se_str))) sb_nil)
   (sb_cons (ss_if (st_truth (se_call G_12 (hr.mono (by omega)) rfl O_12.mgf O_12.fn.kp O_12.b (sa_cons (se_ix (hu64 hr) (sv 0) se_int) sa_nil) (len_cons len_nil))) (sb_one (ss_expr (se_append (sv 1) se_str))) sb_nil)
   (sb_one (ss_ret (se_tupV (sv 1) rfl T.n_tuple boot_tuple')))))))
theorem sc_8 : FnScope ["_law_found", "_law_due"] ["_law_found", "_law_due"] (defScope s_L_same) := ⟨rfl, rfl, rfl, nd15, rfl, by decide +kernel, by decide +kernel⟩
theorem ok_8 {f_8 : Addr} {fd_8 : FuncData} (T : Txt K mg) (O_8 : Own K mg "_law_same" s_L_same f_8 fd_8 ["_law_found", "_law_due"]) : ∀ k : Nat, FnOk P w K mg base CX0 (k + 1) f_8 fd_8 ["_law_found", "_law_due"] (spD K 2 (F_L_same k))
 | 0 => fn_none rfl
 | k + 1 => by
  have Gr := ok_8 T O_8 k
  exact fn_d O_8.fn sc_8 rfl rfl fun cdv A outer s H E hr => (sb_cons (ss_if (st_truth (se_isi (isi_tuple _) (sv 1) rfl T.n_isinstance boot_isinstance' rfl T.n_tuple boot_tuple')) (sb_cons (ss_if (st_w (sw_or (st_not (st_truth (se_isi (isi_tuple _) (sv 0) rfl T.n_isinstance boot_isinstance' rfl T.n_tuple boot_tuple'))) (sw_or1 (st_cmp (opd_ne (hu64 hr)) (se_len (sv 0) rfl T.n_len boot_len') (se_len (sv 1) rfl T.n_len boot_len') (nomark _))))) (sb_one (ss_ret se_bl)) sb_nil)
   (sb_one (ss_ret (se_all rfl (sq_comp (tgs := ["_law_one", "_law_other"]) (cn := []) (caps := []) rfl ⟨by decide +kernel, rfl, by decide +kernel, free_in (defScope s_L_same).names rfl (by decide +kernel), trivial⟩ (si_zip (sv 0) (sv 1) rfl T.n_zip boot_zip') (glow_tup (gslow_cons (glow_name (by decide)) (gslow_cons (glow_name (by decide)) gslow_nil gmono_name gmono_nil) gmono_name (gmono_cons gmono_name gmono_nil))) (gd_tup (gsd_cons gd_name (gsd_cons gd_name gsd_nil))) (fun _ _ _ _ => (pg_tup rfl (pgs_cons (pg_name (i := 0) nd16 rfl (Or.inl rfl)) (pgs_cons (pg_name (i := 1) nd16 rfl (Or.inl rfl)) pgs_nil)))) (fun _ _ _ _ => sf_nil) (fun _ _ _ _ => (se_call Gr (hr.mono (by omega)) rfl O_8.mgf O_8.fn.kp O_8.b (sa_cons (sv 0) (sa_cons (sv 1) sa_nil)) (len_cons (len_cons len_nil))))) rfl T.n_all boot_all')))) sb_nil)
   (sb_cons (ss_if (st_cmp opd_is (sv 1) se_non (nomark _)) (sb_one (ss_ret (se_cmp opd_is (sv 0) se_non (nomark _)))) sb_nil)
   (sb_cons (ss_if (st_w (sw_or (st_truth (se_isi (isi_bool _) (sv 1) rfl T.n_isinstance boot_isinstance' rfl T.n_bool boot_bool')) (sw_or1 (st_truth (se_isi (isi_bool _) (sv 0) rfl T.n_isinstance boot_isinstance' rfl T.n_bool boot_bool'))))) (sb_one (ss_ret (se_and (se_isi (isi_bool _) (sv 1) rfl T.n_isinstance boot_isinstance' rfl T.n_bool boot_bool') (se_and (se_isi (isi_bool _) (sv 0) rfl T.n_isinstance boot_isinstance' rfl T.n_bool boot_bool') (se_one (se_cmp (opd_eq (hu64 hr)) (sv 0) (sv 1) (nomark _))))))) sb_nil)
   (sb_one (ss_ret (se_and (se_isi2 (isi_int _) (isi_str _) (sv 0) rfl T.n_isinstance boot_isinstance' rfl T.n_int boot_int' rfl T.n_str boot_str') (se_one (se_cmp (opd_eq (hu64 hr)) (sv 0) (sv 1) (nomark _)))))))))
theorem sc_9 : FnScope ["_law_pairs"] ["_law_pairs"] (defScope s_L_sorts) := ⟨rfl, rfl, rfl, nd17, rfl, by decide +kernel, by decide +kernel⟩
theorem ok_9 {f_9 : Addr} {fd_9 : FuncData} (T : Txt K mg) (O_9 : Own K mg "_law_sorts" s_L_sorts f_9 fd_9 ["_law_pairs"]) : FnOk P w K mg base CX0 1 f_9 fd_9 ["_law_pairs"] (spD K 1 F_L_sorts) :=
 fn_d (k := 0) O_9.fn sc_9 rfl rfl fun cdv A outer s H E hr => (sb_one (ss_ret (se_len (se_comp (tgs := ["_law_k"]) (cn := ["_law_pairs"]) (caps := [0]) rfl ⟨by decide +kernel, rfl, by decide +kernel, free_in (defScope s_L_sorts).names rfl (by decide +kernel), ⟨⟨rfl, .inl rfl, rfl⟩, trivial⟩⟩ (si_rng1 (se_len (sv 0) rfl T.n_len boot_len') rfl T.n_range) (glow_name (by decide)) gd_name (fun _ _ _ _ => (pg_name (i := 0) nd18 rfl (Or.inl rfl))) (fun _ _ _ _ => sf_one (st_cmp (opd_notIn (hu64 hr)) (se_ix (hu64 hr) (se_ix (hu64 hr) (sv 1) (sv 0)) se_int) (se_comp (tgs := ["_law_pair"]) (cn := []) (caps := []) rfl ⟨by decide +kernel, rfl, by decide +kernel, free_in [(Str.ofString ".0", NameKind.local), (Str.ofString "_law_k", NameKind.local), (Str.ofString "_law_pairs", NameKind.cell)] rfl (by decide +kernel), trivial⟩ (si_of (se_slice (sv 1) so_none (so_some (sv 0)))) (glow_name (by decide)) gd_name (fun _ _ _ _ => (pg_name (i := 0) nd19 rfl (Or.inl rfl))) (fun _ _ _ _ => sf_nil) (fun _ _ _ _ => (se_ix (hu64 hr) (sv 0) se_int))) (by with_unfolding_all rfl))) (fun _ _ _ _ => (sv 0))) rfl T.n_len boot_len')))
theorem sc_2 : FnScope ["_law_file_here", "_law_due", "_law_name_here"] ["_law_file_here"] (defScope s_L_is_told) := ⟨rfl, rfl, rfl, nd20, rfl, by decide +kernel, by decide +kernel⟩
theorem ok_2 {f_2 : Addr} {fd_2 : FuncData} (T : Txt K mg) (O_2 : Own K mg "_law_is_told" s_L_is_told f_2 fd_2 ["_law_file_here"]) {f_15 : Addr} {fd_15 : FuncData} (O_15 : Own K mg "name_of" s_name_of f_15 fd_15 ["file"]) (G_15 : FnOk P w K mg base CX0 1 f_15 fd_15 ["file"] (spD K 1 F_name_of)) {f_16 : Addr} {fd_16 : FuncData} (O_16 : Own K mg "quarrels_of" s_quarrels_of f_16 fd_16 ["file"]) (G_16 : FnOk P w K mg base CX0 2 f_16 fd_16 ["file"] (spD K 1 F_quarrels_of)) {f_8 : Addr} {fd_8 : FuncData} (O_8 : Own K mg "_law_same" s_L_same f_8 fd_8 ["_law_found", "_law_due"]) (G_8 : FnOk P w K mg base CX0 13 f_8 fd_8 ["_law_found", "_law_due"] (spD K 2 (F_L_same 12))) {f_9 : Addr} {fd_9 : FuncData} (O_9 : Own K mg "_law_sorts" s_L_sorts f_9 fd_9 ["_law_pairs"]) (G_9 : FnOk P w K mg base CX0 1 f_9 fd_9 ["_law_pairs"] (spD K 1 F_L_sorts)) : FnOk P w K mg base CX0 14 f_2 fd_2 ["_law_file_here"] (spD K 1 F_L_is_told) :=
 fn_d (k := 13) O_2.fn sc_2 rfl rfl fun cdv A outer s H E hr => (sb_cons (ss_set (i := 1) nd20 rfl (Or.inl rfl) (se_tup sa_nil))
   (sb_cons (ss_if (st_w (sw_and (st_truth (se_ix (hu64 hr) (sv 0) se_int)) (sw_and1 (st_cmp opd_gt (se_call G_9 (hr.mono (by omega)) rfl O_9.mgf O_9.fn.kp O_9.b (sa_cons (se_ix (hu64 hr) (sv 0) se_int) sa_nil) (len_cons len_nil)) se_int (nomark _))))) (sb_one (ss_set (i := 1) nd20 rfl (Or.inl rfl) (se_op opd_add (sv 1) (se_tup (sa_cons se_str sa_nil))))) sb_nil)
   (sb_cons (ss_if (st_w (sw_and (st_truth (se_ix (hu64 hr) (sv 0) se_int)) (sw_and1 (st_cmp opd_gt (se_call G_9 (hr.mono (by omega)) rfl O_9.mgf O_9.fn.kp O_9.b (sa_cons (se_ix (hu64 hr) (sv 0) se_int) sa_nil) (len_cons len_nil)) se_int (nomark _))))) (sb_one (ss_set (i := 1) nd20 rfl (Or.inl rfl) (se_op opd_add (sv 1) (se_tup (sa_cons se_str sa_nil))))) sb_nil)
   (sb_cons (ss_set (i := 2) nd20 rfl (Or.inl rfl) (se_ix (hu64 hr) (sv 0) se_int))
   (sb_cons (ss_if (st_truth (se_ix (hu64 hr) (sv 0) se_int)) (sb_one (ss_set (i := 2) nd20 rfl (Or.inl rfl) (se_ix (hu64 hr) (sl_e (sl_sorted (hu70 hr) (sq_comp (tgs := ["_law_mark", "_law_word"]) (cn := []) (caps := []) rfl ⟨by decide +kernel, rfl, by decide +kernel, free_in (defScope s_L_is_told).names rfl (by decide +kernel), trivial⟩ (si_of (se_ix (hu64 hr) (sv 0) se_int)) (glow_tup (gslow_cons (glow_name (by decide)) (gslow_cons (glow_name (by decide)) gslow_nil gmono_name gmono_nil) gmono_name (gmono_cons gmono_name gmono_nil))) (gd_tup (gsd_cons gd_name (gsd_cons gd_name gsd_nil))) (fun _ _ _ _ => (pg_tup rfl (pgs_cons (pg_name (i := 0) nd21 rfl (Or.inl rfl)) (pgs_cons (pg_name (i := 1) nd21 rfl (Or.inl rfl)) pgs_nil)))) (fun _ _ _ _ => sf_nil) (fun _ _ _ _ => (sv 1))) rfl T.n_sorted boot_sorted')) se_int))) sb_nil)
   (sb_one (ss_ret (se_and (se_call G_8 (hr.mono (by omega)) rfl O_8.mgf O_8.fn.kp O_8.b (sa_cons (se_call G_16 (hr.mono (by omega)) rfl O_16.mgf O_16.fn.kp O_16.b (sa_cons (sv 0) sa_nil) (len_cons len_nil)) (sa_cons (sv 1) sa_nil)) (len_cons (len_cons len_nil))) (se_one (se_call G_8 (hr.mono (by omega)) rfl O_8.mgf O_8.fn.kp O_8.b (sa_cons (se_call G_15 (hr.mono (by omega)) rfl O_15.mgf O_15.fn.kp O_15.b (sa_cons (sv 0) sa_nil) (len_cons len_nil)) (sa_cons (sv 2) sa_nil)) (len_cons (len_cons len_nil))))))))))))
theorem sc_6 : FnScope ["_law_file_here", "_law_part", "_law_words", "_law_house", "_law_most", "_law_known_here", "_law_more_here", "_law_some"] ["_law_file_here", "_law_part", "_law_words"] (defScope s_L_more) := ⟨rfl, rfl, rfl, nd22, rfl, by decide +kernel, by decide +kernel⟩
theorem ok_6 {f_6 : Addr} {fd_6 : FuncData} (T : Txt K mg) (O_6 : Own K mg "_law_more" s_L_more f_6 fd_6 ["_law_file_here", "_law_part", "_law_words"]) : FnOk P w K mg base CX0 1 f_6 fd_6 ["_law_file_here", "_law_part", "_law_words"] (spD K 3 F_L_more) :=
 fn_d (k := 0) O_6.fn sc_6 rfl rfl fun cdv A outer s H E hr => (sb_cons (ss_asg (se_ix (hu64 hr) (se_ix (hu64 hr) (sv 0) se_int) se_negc) (pg_tup rfl (pgs_cons (pg_name (i := 3) nd22 rfl (Or.inl rfl)) (pgs_cons (pg_name (i := 4) nd22 rfl (Or.inl rfl)) pgs_nil))) (gd_tup (gsd_cons gd_name (gsd_cons gd_name gsd_nil))))
   (sb_cons (ss_set (i := 5) nd22 rfl (Or.inl rfl) (se_op opd_add (se_slice (se_ix (hu64 hr) (sv 0) se_int) so_none (so_some se_negc)) (se_tup (sa_cons (se_tup (sa_cons (sv 3) (sa_cons (se_op opd_add (sv 4) se_int) sa_nil))) sa_nil))))
   (sb_cons (ss_set (i := 6) nd22 rfl (Or.inl rfl) (se_op opd_add (se_op opd_add (se_slice (sv 0) so_none (so_some se_int)) (se_tup (sa_cons (sv 5) sa_nil))) (se_slice (sv 0) (so_some se_int) so_none)))
   (sb_cons (ss_set (i := 7) nd22 rfl (Or.inl rfl) (se_tupL (sl_sortedV rfl (hu70 hr) (se_op opd_add (se_ix (hu64 hr) (sv 0) (sv 1)) (se_tup (sa_cons (se_tup (sa_cons (se_tup (sa_cons (sv 3) (sa_cons (se_op opd_add (sv 4) se_int) sa_nil))) (sa_cons (sv 2) sa_nil))) sa_nil))) rfl T.n_sorted boot_sorted') rfl T.n_tuple boot_tuple'))
   (sb_one (ss_ret (se_op opd_add (se_op opd_add (se_slice (sv 6) so_none (so_some (sv 1))) (se_tup (sa_cons (sv 7) sa_nil))) (se_slice (sv 6) (so_some (se_op opd_add (sv 1) se_int)) so_none))))))))
theorem sc_14 : FnScope ["_law_script", "_law_k", "_law_cell_here", "_law_file_here", "_law_name_here", "_law_text_here", "_law_some"] ["_law_script"] (defScope s_law) := ⟨rfl, rfl, rfl, nd23, rfl, by decide +kernel, by decide +kernel⟩
theorem ok_14 {f_14 : Addr} {fd_14 : FuncData} (T : Txt K mg) (O_14 : Own K mg "law" s_law f_14 fd_14 ["_law_script"]) {f_0 : Addr} {fd_0 : FuncData} (O_0 : Own K mg "_law_cell" s_L_cell f_0 fd_0 ["_law_script", "_law_k"]) (G_0 : FnOk P w K mg base CX0 1 f_0 fd_0 ["_law_script", "_law_k"] (spD K 2 F_L_cell)) {f_7 : Addr} {fd_7 : FuncData} (O_7 : Own K mg "_law_name" s_L_name f_7 fd_7 ["_law_cell_here"]) (G_7 : FnOk P w K mg base CX0 2 f_7 fd_7 ["_law_cell_here"] (spD K 1 F_L_name)) {f_10 : Addr} {fd_10 : FuncData} (O_10 : Own K mg "_law_text" s_L_text f_10 fd_10 ["_law_cell_here"]) (G_10 : FnOk P w K mg base CX0 2 f_10 fd_10 ["_law_cell_here"] (spD K 1 F_L_text)) {f_11 : Addr} {fd_11 : FuncData} (O_11 : Own K mg "_law_which" s_L_which f_11 fd_11 ["_law_cell_here"]) (G_11 : FnOk P w K mg base CX0 2 f_11 fd_11 ["_law_cell_here"] (spD K 1 F_L_which)) {f_1 : Addr} {fd_1 : FuncData} (O_1 : Own K mg "_law_file" s_L_file f_1 fd_1 ["_law_cell_here", "_law_which_here", "_law_first", "_law_seed"]) (G_1 : FnOk P w K mg base CX0 4 f_1 fd_1 ["_law_cell_here", "_law_which_here", "_law_first", "_law_seed"] (spD K 4 F_L_file)) {f_2 : Addr} {fd_2 : FuncData} (O_2 : Own K mg "_law_is_told" s_L_is_told f_2 fd_2 ["_law_file_here"]) (G_2 : FnOk P w K mg base CX0 14 f_2 fd_2 ["_law_file_here"] (spD K 1 F_L_is_told)) {f_6 : Addr} {fd_6 : FuncData} (O_6 : Own K mg "_law_more" s_L_more f_6 fd_6 ["_law_file_here", "_law_part", "_law_words"]) (G_6 : FnOk P w K mg base CX0 1 f_6 fd_6 ["_law_file_here", "_law_part", "_law_words"] (spD K 3 F_L_more)) : FnOk P w K mg base CX0 15 f_14 fd_14 ["_law_script"] (spD K 1 F_law) :=
 fn_d (k := 14) O_14.fn sc_14 rfl rfl fun cdv A outer s H E hr => (sb_cons (ss_for PassesOwn.never rfl (si_rng1 se_int rfl T.n_range) (pg_name (i := 1) nd23 rfl (Or.inl rfl)) gd_name (sb_cons (ss_set (i := 2) nd23 rfl (Or.inl rfl) (se_call G_0 (hr.mono (by omega)) rfl O_0.mgf O_0.fn.kp O_0.b (sa_cons (sv 0) (sa_cons (sv 1) sa_nil)) (len_cons (len_cons len_nil))))
   (sb_cons (ss_set (i := 3) nd23 rfl (Or.inl rfl) (se_call G_1 (hr.mono (by omega)) rfl O_1.mgf O_1.fn.kp O_1.b (sa_cons (sv 2) (sa_cons (se_call G_11 (hr.mono (by omega)) rfl O_11.mgf O_11.fn.kp O_11.b (sa_cons (se_op opd_add (sv 2) se_int) sa_nil) (len_cons len_nil)) (sa_cons (se_call G_7 (hr.mono (by omega)) rfl O_7.mgf O_7.fn.kp O_7.b (sa_cons (se_op opd_add (sv 2) se_int) sa_nil) (len_cons len_nil)) (sa_cons (se_call G_0 (hr.mono (by omega)) rfl O_0.mgf O_0.fn.kp O_0.b (sa_cons (sv 0) (sa_cons (se_op opd_add (sv 1) se_int) sa_nil)) (len_cons (len_cons len_nil))) sa_nil)))) (len_cons (len_cons (len_cons (len_cons len_nil))))))
   (sb_cons (ss_set (i := 4) nd23 rfl (Or.inl rfl) (se_call G_7 (hr.mono (by omega)) rfl O_7.mgf O_7.fn.kp O_7.b (sa_cons (se_op opd_add (sv 2) se_int) sa_nil) (len_cons len_nil)))
   (sb_cons (ss_set (i := 5) nd23 rfl (Or.inl rfl) (se_call G_10 (hr.mono (by omega)) rfl O_10.mgf O_10.fn.kp O_10.b (sa_cons (se_op opd_add (sv 2) se_int) sa_nil) (len_cons len_nil)))
   (sb_cons (ss_set (i := 6) nd23 rfl (Or.inl rfl) (se_lst (sa_cons (sv 3) (sa_cons (se_op opd_add (se_slice (sv 3) so_none (so_some se_int)) (se_tup (sa_cons (se_tup sa_nil) sa_nil))) (sa_cons (se_op opd_add (se_op opd_add (se_slice (sv 3) so_none (so_some se_int)) (se_tup (sa_cons (se_tup sa_nil) sa_nil))) (se_slice (sv 3) (so_some se_int) so_none)) (sa_cons (se_call G_6 (hr.mono (by omega)) rfl O_6.mgf O_6.fn.kp O_6.b (sa_cons (sv 3) (sa_cons se_int (sa_cons (sv 4) sa_nil))) (len_cons (len_cons (len_cons len_nil)))) (sa_cons (se_call G_6 (hr.mono (by omega)) rfl O_6.mgf O_6.fn.kp O_6.b (sa_cons (sv 3) (sa_cons se_int (sa_cons (sv 5) sa_nil))) (len_cons (len_cons (len_cons len_nil)))) sa_nil)))))))
   (sb_cons (ss_expr (se_append (sv 6) (se_call G_6 (hr.mono (by omega)) rfl O_6.mgf O_6.fn.kp O_6.b (sa_cons (se_call G_6 (hr.mono (by omega)) rfl O_6.mgf O_6.fn.kp O_6.b (sa_cons (sv 3) (sa_cons se_int (sa_cons (sv 5) sa_nil))) (len_cons (len_cons (len_cons len_nil)))) (sa_cons se_int (sa_cons (sv 5) sa_nil))) (len_cons (len_cons (len_cons len_nil))))))
   (sb_cons (ss_expr (se_append (sv 6) (se_call G_6 (hr.mono (by omega)) rfl O_6.mgf O_6.fn.kp O_6.b (sa_cons (se_call G_6 (hr.mono (by omega)) rfl O_6.mgf O_6.fn.kp O_6.b (sa_cons (sv 3) (sa_cons se_int (sa_cons (sv 4) sa_nil))) (len_cons (len_cons (len_cons len_nil)))) (sa_cons se_int (sa_cons (sv 4) sa_nil))) (len_cons (len_cons (len_cons len_nil))))))
   (sb_cons (ss_expr (se_append (sv 6) (se_call G_6 (hr.mono (by omega)) rfl O_6.mgf O_6.fn.kp O_6.b (sa_cons (se_call G_6 (hr.mono (by omega)) rfl O_6.mgf O_6.fn.kp O_6.b (sa_cons (sv 3) (sa_cons se_int (sa_cons (sv 4) sa_nil))) (len_cons (len_cons (len_cons len_nil)))) (sa_cons se_int (sa_cons (sv 5) sa_nil))) (len_cons (len_cons (len_cons len_nil))))))
   (sb_cons (ss_expr (se_append (sv 6) (se_call G_6 (hr.mono (by omega)) rfl O_6.mgf O_6.fn.kp O_6.b (sa_cons (se_call G_6 (hr.mono (by omega)) rfl O_6.mgf O_6.fn.kp O_6.b (sa_cons (sv 3) (sa_cons se_int (sa_cons (sv 4) sa_nil))) (len_cons (len_cons (len_cons len_nil)))) (sa_cons se_int (sa_cons (se_op opd_add (sv 4) se_str) sa_nil))) (len_cons (len_cons (len_cons len_nil))))))
   (sb_one (ss_if (st_not (st_truth (se_all rfl (sq_comp (tgs := ["_law_one"]) (cn := []) (caps := []) rfl ⟨by decide +kernel, rfl, by decide +kernel, free_in (defScope s_law).names rfl (by decide +kernel), trivial⟩ (si_of (sv 6)) (glow_name (by decide)) gd_name (fun _ _ _ _ => (pg_name (i := 0) nd24 rfl (Or.inl rfl))) (fun _ _ _ _ => sf_nil) (fun _ _ _ _ => (se_call G_2 (hr.mono (by omega)) rfl O_2.mgf O_2.fn.kp O_2.b (sa_cons (sv 0) sa_nil) (len_cons len_nil)))) rfl T.n_all boot_all'))) (sb_one (ss_ret se_bl)) sb_nil))))))))))))
   (sb_one (ss_ret se_bl)))
end
theorem all_mk {l : PySem.W.OpenLaw} {w : World} {K : PySem.W.Frag} {h : Heap} {mg : Str → Option Value} {fa : Addr} (X : K.In h) (G : h.Ns mainGlobals mg) (hfa : mg "law" = some (.ref fa))
  {od0 an0 : Option Addr} {sl0 : Array (Option Value)} {oc0 kV0 dc0 pm0 cd0 ct0 : Value} {f0 : Addr}
  {od1 an1 : Option Addr} {sl1 : Array (Option Value)} {oc1 kV1 dc1 pm1 cd1 ct1 : Value} {f1 : Addr}
  {od2 an2 : Option Addr} {sl2 : Array (Option Value)} {oc2 kV2 dc2 pm2 cd2 ct2 : Value} {f2 : Addr}
  {od3 an3 : Option Addr} {sl3 : Array (Option Value)} {oc3 kV3 dc3 pm3 cd3 ct3 : Value} {f3 : Addr}
  {od4 an4 : Option Addr} {sl4 : Array (Option Value)} {oc4 kV4 dc4 pm4 cd4 ct4 : Value} {f4 : Addr}
  {od5 an5 : Option Addr} {sl5 : Array (Option Value)} {oc5 kV5 dc5 pm5 cd5 ct5 : Value} {f5 : Addr}
  {od6 an6 : Option Addr} {sl6 : Array (Option Value)} {oc6 kV6 dc6 pm6 cd6 ct6 : Value} {f6 : Addr}
  {od7 an7 : Option Addr} {sl7 : Array (Option Value)} {oc7 kV7 dc7 pm7 cd7 ct7 : Value} {f7 : Addr}
  {od8 an8 : Option Addr} {sl8 : Array (Option Value)} {oc8 kV8 dc8 pm8 cd8 ct8 : Value} {f8 : Addr}
  {od9 an9 : Option Addr} {sl9 : Array (Option Value)} {oc9 kV9 dc9 pm9 cd9 ct9 : Value} {f9 : Addr}
  {od10 an10 : Option Addr} {sl10 : Array (Option Value)} {oc10 kV10 dc10 pm10 cd10 ct10 : Value} {f10 : Addr}
  {od11 an11 : Option Addr} {sl11 : Array (Option Value)} {oc11 kV11 dc11 pm11 cd11 ct11 : Value} {f11 : Addr}
  {od12 an12 : Option Addr} {sl12 : Array (Option Value)} {oc12 kV12 dc12 pm12 cd12 ct12 : Value} {f12 : Addr}
  {od13 an13 : Option Addr} {sl13 : Array (Option Value)} {oc13 kV13 dc13 pm13 cd13 ct13 : Value} {f13 : Addr}
  {od14 an14 : Option Addr} {sl14 : Array (Option Value)} {oc14 kV14 dc14 pm14 cd14 ct14 : Value} {f14 : Addr}
  {od15 an15 : Option Addr} {sl15 : Array (Option Value)} {oc15 kV15 dc15 pm15 cd15 ct15 : Value} {f15 : Addr}
  {od16 an16 : Option Addr} {sl16 : Array (Option Value)} {oc16 kV16 dc16 pm16 cd16 ct16 : Value} {f16 : Addr}
  (a0 : PySem.W.nsIn K mainGlobals "_law_cell" = some (some (.ref f0))) (l0 : K.lookup f0 = some ⟨oc0, od0, .func (PySem.W.fnOf "_law_cell" "_law_cell" (defArgs s_L_cell) (defBody s_L_cell) (defScope s_L_cell) .none kV0 dc0 pm0 an0 cd0 ct0), sl0⟩) (c0 : PySem.W.codeIn K cd0 "_law_cell" = true) (k0 : PySem.W.keepIn K (.ref f0) = true)
  (a1 : PySem.W.nsIn K mainGlobals "_law_mix" = some (some (.ref f1))) (l1 : K.lookup f1 = some ⟨oc1, od1, .func (PySem.W.fnOf "_law_mix" "_law_mix" (defArgs s_L_mix) (defBody s_L_mix) (defScope s_L_mix) .none kV1 dc1 pm1 an1 cd1 ct1), sl1⟩) (c1 : PySem.W.codeIn K cd1 "_law_mix" = true) (k1 : PySem.W.keepIn K (.ref f1) = true)
  (a2 : PySem.W.nsIn K mainGlobals "_law_name" = some (some (.ref f2))) (l2 : K.lookup f2 = some ⟨oc2, od2, .func (PySem.W.fnOf "_law_name" "_law_name" (defArgs s_L_name) (defBody s_L_name) (defScope s_L_name) .none kV2 dc2 pm2 an2 cd2 ct2), sl2⟩) (c2 : PySem.W.codeIn K cd2 "_law_name" = true) (k2 : PySem.W.keepIn K (.ref f2) = true)
  (a3 : PySem.W.nsIn K mainGlobals "_law_text" = some (some (.ref f3))) (l3 : K.lookup f3 = some ⟨oc3, od3, .func (PySem.W.fnOf "_law_text" "_law_text" (defArgs s_L_text) (defBody s_L_text) (defScope s_L_text) .none kV3 dc3 pm3 an3 cd3 ct3), sl3⟩) (c3 : PySem.W.codeIn K cd3 "_law_text" = true) (k3 : PySem.W.keepIn K (.ref f3) = true)
  (a4 : PySem.W.nsIn K mainGlobals "_law_which" = some (some (.ref f4))) (l4 : K.lookup f4 = some ⟨oc4, od4, .func (PySem.W.fnOf "_law_which" "_law_which" (defArgs s_L_which) (defBody s_L_which) (defScope s_L_which) .none kV4 dc4 pm4 an4 cd4 ct4), sl4⟩) (c4 : PySem.W.codeIn K cd4 "_law_which" = true) (k4 : PySem.W.keepIn K (.ref f4) = true)
  (a5 : PySem.W.nsIn K mainGlobals "_law_known" = some (some (.ref f5))) (l5 : K.lookup f5 = some ⟨oc5, od5, .func (PySem.W.fnOf "_law_known" "_law_known" (defArgs s_L_known) (defBody s_L_known) (defScope s_L_known) .none kV5 dc5 pm5 an5 cd5 ct5), sl5⟩) (c5 : PySem.W.codeIn K cd5 "_law_known" = true) (k5 : PySem.W.keepIn K (.ref f5) = true)
  (a6 : PySem.W.nsIn K mainGlobals "_law_marked" = some (some (.ref f6))) (l6 : K.lookup f6 = some ⟨oc6, od6, .func (PySem.W.fnOf "_law_marked" "_law_marked" (defArgs s_L_marked) (defBody s_L_marked) (defScope s_L_marked) .none kV6 dc6 pm6 an6 cd6 ct6), sl6⟩) (c6 : PySem.W.codeIn K cd6 "_law_marked" = true) (k6 : PySem.W.keepIn K (.ref f6) = true)
  (a7 : PySem.W.nsIn K mainGlobals "_law_file" = some (some (.ref f7))) (l7 : K.lookup f7 = some ⟨oc7, od7, .func (PySem.W.fnOf "_law_file" "_law_file" (defArgs s_L_file) (defBody s_L_file) (defScope s_L_file) .none kV7 dc7 pm7 an7 cd7 ct7), sl7⟩) (c7 : PySem.W.codeIn K cd7 "_law_file" = true) (k7 : PySem.W.keepIn K (.ref f7) = true)
  (a8 : PySem.W.nsIn K mainGlobals "name_of" = some (some (.ref f8))) (l8 : K.lookup f8 = some ⟨oc8, od8, .func (PySem.W.fnOf "name_of" "name_of" (defArgs s_name_of) (defBody s_name_of) (defScope s_name_of) .none kV8 dc8 pm8 an8 cd8 ct8), sl8⟩) (c8 : PySem.W.codeIn K cd8 "name_of" = true) (k8 : PySem.W.keepIn K (.ref f8) = true)
  (a9 : PySem.W.nsIn K mainGlobals "is_gone" = some (some (.ref f9))) (l9 : K.lookup f9 = some ⟨oc9, od9, .func (PySem.W.fnOf "is_gone" "is_gone" (defArgs s_is_gone) (defBody s_is_gone) (defScope s_is_gone) .none kV9 dc9 pm9 an9 cd9 ct9), sl9⟩) (c9 : PySem.W.codeIn K cd9 "is_gone" = true) (k9 : PySem.W.keepIn K (.ref f9) = true)
  (a10 : PySem.W.nsIn K mainGlobals "has_several_sorts" = some (some (.ref f10))) (l10 : K.lookup f10 = some ⟨oc10, od10, .func (PySem.W.fnOf "has_several_sorts" "has_several_sorts" (defArgs s_has_several_sorts) (defBody s_has_several_sorts) (defScope s_has_several_sorts) .none kV10 dc10 pm10 an10 cd10 ct10), sl10⟩) (c10 : PySem.W.codeIn K cd10 "has_several_sorts" = true) (k10 : PySem.W.keepIn K (.ref f10) = true)
  (a11 : PySem.W.nsIn K mainGlobals "quarrels_of" = some (some (.ref f11))) (l11 : K.lookup f11 = some ⟨oc11, od11, .func (PySem.W.fnOf "quarrels_of" "quarrels_of" (defArgs s_quarrels_of) (defBody s_quarrels_of) (defScope s_quarrels_of) .none kV11 dc11 pm11 an11 cd11 ct11), sl11⟩) (c11 : PySem.W.codeIn K cd11 "quarrels_of" = true) (k11 : PySem.W.keepIn K (.ref f11) = true)
  (a12 : PySem.W.nsIn K mainGlobals "_law_same" = some (some (.ref f12))) (l12 : K.lookup f12 = some ⟨oc12, od12, .func (PySem.W.fnOf "_law_same" "_law_same" (defArgs s_L_same) (defBody s_L_same) (defScope s_L_same) .none kV12 dc12 pm12 an12 cd12 ct12), sl12⟩) (c12 : PySem.W.codeIn K cd12 "_law_same" = true) (k12 : PySem.W.keepIn K (.ref f12) = true)
  (a13 : PySem.W.nsIn K mainGlobals "_law_sorts" = some (some (.ref f13))) (l13 : K.lookup f13 = some ⟨oc13, od13, .func (PySem.W.fnOf "_law_sorts" "_law_sorts" (defArgs s_L_sorts) (defBody s_L_sorts) (defScope s_L_sorts) .none kV13 dc13 pm13 an13 cd13 ct13), sl13⟩) (c13 : PySem.W.codeIn K cd13 "_law_sorts" = true) (k13 : PySem.W.keepIn K (.ref f13) = true)
  (a14 : PySem.W.nsIn K mainGlobals "_law_is_told" = some (some (.ref f14))) (l14 : K.lookup f14 = some ⟨oc14, od14, .func (PySem.W.fnOf "_law_is_told" "_law_is_told" (defArgs s_L_is_told) (defBody s_L_is_told) (defScope s_L_is_told) .none kV14 dc14 pm14 an14 cd14 ct14), sl14⟩) (c14 : PySem.W.codeIn K cd14 "_law_is_told" = true) (k14 : PySem.W.keepIn K (.ref f14) = true)
  (a15 : PySem.W.nsIn K mainGlobals "_law_more" = some (some (.ref f15))) (l15 : K.lookup f15 = some ⟨oc15, od15, .func (PySem.W.fnOf "_law_more" "_law_more" (defArgs s_L_more) (defBody s_L_more) (defScope s_L_more) .none kV15 dc15 pm15 an15 cd15 ct15), sl15⟩) (c15 : PySem.W.codeIn K cd15 "_law_more" = true) (k15 : PySem.W.keepIn K (.ref f15) = true)
  (a16 : PySem.W.nsIn K mainGlobals "law" = some (some (.ref f16))) (l16 : K.lookup f16 = some ⟨oc16, od16, .func (PySem.W.fnOf "law" "law" (defArgs s_law) (defBody s_law) (defScope s_law) .none kV16 dc16 pm16 an16 cd16 ct16), sl16⟩) (c16 : PySem.W.codeIn K cd16 "law" = true) (k16 : PySem.W.keepIn K (.ref f16) = true)
  (z_all : PySem.W.nsIn K mainGlobals "all" = some none)
  (z_bool : PySem.W.nsIn K mainGlobals "bool" = some none)
  (z_int : PySem.W.nsIn K mainGlobals "int" = some none)
  (z_isinstance : PySem.W.nsIn K mainGlobals "isinstance" = some none)
  (z_len : PySem.W.nsIn K mainGlobals "len" = some none)
  (z_min : PySem.W.nsIn K mainGlobals "min" = some none)
  (z_range : PySem.W.nsIn K mainGlobals "range" = some none)
  (z_set : PySem.W.nsIn K mainGlobals "set" = some none)
  (z_sorted : PySem.W.nsIn K mainGlobals "sorted" = some none)
  (z_str : PySem.W.nsIn K mainGlobals "str" = some none)
  (z_tuple : PySem.W.nsIn K mainGlobals "tuple" = some none)
  (z_zip : PySem.W.nsIn K mainGlobals "zip" = some none) :
  ∃ fd : FuncData, (∀ (s : Shared) (v : Value), BindsTo s fd ⟨[v], []⟩ [("_law_script", v)]) ∧ ∀ base : Heap, K.In base → base.Ns mainGlobals mg → FnOk l.prog w K mg base CX0 15 fa fd ["_law_script"] (spD K 1 F_law) := by
 have e := hfa.symm.trans (PySem.W.mg_of X G a16)
 cases e
 have T : Txt K mg := ⟨PySem.W.mg_none_of X G z_all, PySem.W.mg_none_of X G z_bool, PySem.W.mg_none_of X G z_int, PySem.W.mg_none_of X G z_isinstance, PySem.W.mg_none_of X G z_len, PySem.W.mg_none_of X G z_min, PySem.W.mg_none_of X G z_range, PySem.W.mg_none_of X G z_set, PySem.W.mg_none_of X G z_sorted, PySem.W.mg_none_of X G z_str, PySem.W.mg_none_of X G z_tuple, PySem.W.mg_none_of X G z_zip⟩
 have Fn0 := fun_mk (st := s_L_cell) l0 c0 k0
 have O_0 : Own K mg "_law_cell" s_L_cell _ _ ["_law_script", "_law_k"] := ⟨Fn0, PySem.W.mg_of X G a0, Fn0.binds (ps := ["_law_script", "_law_k"]) fun _ _ _ _ _ _ us hl => match us, hl with | [_, _], _ => rfl⟩
 have Fn1 := fun_mk (st := s_L_mix) l1 c1 k1
 have O_5 : Own K mg "_law_mix" s_L_mix _ _ ["_law_cell_here", "_law_prime", "_law_many"] := ⟨Fn1, PySem.W.mg_of X G a1, Fn1.binds (ps := ["_law_cell_here", "_law_prime", "_law_many"]) fun _ _ _ _ _ _ us hl => match us, hl with | [_, _, _], _ => rfl⟩
 have Fn2 := fun_mk (st := s_L_name) l2 c2 k2
 have O_7 : Own K mg "_law_name" s_L_name _ _ ["_law_cell_here"] := ⟨Fn2, PySem.W.mg_of X G a2, Fn2.binds (ps := ["_law_cell_here"]) fun _ _ _ _ _ _ us hl => match us, hl with | [_], _ => rfl⟩
 have Fn3 := fun_mk (st := s_L_text) l3 c3 k3
 have O_10 : Own K mg "_law_text" s_L_text _ _ ["_law_cell_here"] := ⟨Fn3, PySem.W.mg_of X G a3, Fn3.binds (ps := ["_law_cell_here"]) fun _ _ _ _ _ _ us hl => match us, hl with | [_], _ => rfl⟩
 have Fn4 := fun_mk (st := s_L_which) l4 c4 k4
 have O_11 : Own K mg "_law_which" s_L_which _ _ ["_law_cell_here"] := ⟨Fn4, PySem.W.mg_of X G a4, Fn4.binds (ps := ["_law_cell_here"]) fun _ _ _ _ _ _ us hl => match us, hl with | [_], _ => rfl⟩
 have Fn5 := fun_mk (st := s_L_known) l5 c5 k5
 have O_3 : Own K mg "_law_known" s_L_known _ _ ["_law_cell_here", "_law_which_here"] := ⟨Fn5, PySem.W.mg_of X G a5, Fn5.binds (ps := ["_law_cell_here", "_law_which_here"]) fun _ _ _ _ _ _ us hl => match us, hl with | [_, _], _ => rfl⟩
 have Fn6 := fun_mk (st := s_L_marked) l6 c6 k6
 have O_4 : Own K mg "_law_marked" s_L_marked _ _ ["_law_cell_here", "_law_known_here", "_law_kind", "_law_seed"] := ⟨Fn6, PySem.W.mg_of X G a6, Fn6.binds (ps := ["_law_cell_here", "_law_known_here", "_law_kind", "_law_seed"]) fun _ _ _ _ _ _ us hl => match us, hl with | [_, _, _, _], _ => rfl⟩
 have Fn7 := fun_mk (st := s_L_file) l7 c7 k7
 have O_1 : Own K mg "_law_file" s_L_file _ _ ["_law_cell_here", "_law_which_here", "_law_first", "_law_seed"] := ⟨Fn7, PySem.W.mg_of X G a7, Fn7.binds (ps := ["_law_cell_here", "_law_which_here", "_law_first", "_law_seed"]) fun _ _ _ _ _ _ us hl => match us, hl with | [_, _, _, _], _ => rfl⟩
 have Fn8 := fun_mk (st := s_name_of) l8 c8 k8
 have O_15 : Own K mg "name_of" s_name_of _ _ ["file"] := ⟨Fn8, PySem.W.mg_of X G a8, Fn8.binds (ps := ["file"]) fun _ _ _ _ _ _ us hl => match us, hl with | [_], _ => rfl⟩
 have Fn9 := fun_mk (st := s_is_gone) l9 c9 k9
 have O_13 : Own K mg "is_gone" s_is_gone _ _ ["file"] := ⟨Fn9, PySem.W.mg_of X G a9, Fn9.binds (ps := ["file"]) fun _ _ _ _ _ _ us hl => match us, hl with | [_], _ => rfl⟩
 have Fn10 := fun_mk (st := s_has_several_sorts) l10 c10 k10
 have O_12 : Own K mg "has_several_sorts" s_has_several_sorts _ _ ["pairs"] := ⟨Fn10, PySem.W.mg_of X G a10, Fn10.binds (ps := ["pairs"]) fun _ _ _ _ _ _ us hl => match us, hl with | [_], _ => rfl⟩
 have Fn11 := fun_mk (st := s_quarrels_of) l11 c11 k11
 have O_16 : Own K mg "quarrels_of" s_quarrels_of _ _ ["file"] := ⟨Fn11, PySem.W.mg_of X G a11, Fn11.binds (ps := ["file"]) fun _ _ _ _ _ _ us hl => match us, hl with | [_], _ => rfl⟩
 have Fn12 := fun_mk (st := s_L_same) l12 c12 k12
 have O_8 : Own K mg "_law_same" s_L_same _ _ ["_law_found", "_law_due"] := ⟨Fn12, PySem.W.mg_of X G a12, Fn12.binds (ps := ["_law_found", "_law_due"]) fun _ _ _ _ _ _ us hl => match us, hl with | [_, _], _ => rfl⟩
 have Fn13 := fun_mk (st := s_L_sorts) l13 c13 k13
 have O_9 : Own K mg "_law_sorts" s_L_sorts _ _ ["_law_pairs"] := ⟨Fn13, PySem.W.mg_of X G a13, Fn13.binds (ps := ["_law_pairs"]) fun _ _ _ _ _ _ us hl => match us, hl with | [_], _ => rfl⟩
 have Fn14 := fun_mk (st := s_L_is_told) l14 c14 k14
 have O_2 : Own K mg "_law_is_told" s_L_is_told _ _ ["_law_file_here"] := ⟨Fn14, PySem.W.mg_of X G a14, Fn14.binds (ps := ["_law_file_here"]) fun _ _ _ _ _ _ us hl => match us, hl with | [_], _ => rfl⟩
 have Fn15 := fun_mk (st := s_L_more) l15 c15 k15
 have O_6 : Own K mg "_law_more" s_L_more _ _ ["_law_file_here", "_law_part", "_law_words"] := ⟨Fn15, PySem.W.mg_of X G a15, Fn15.binds (ps := ["_law_file_here", "_law_part", "_law_words"]) fun _ _ _ _ _ _ us hl => match us, hl with | [_, _, _], _ => rfl⟩
 have Fn16 := fun_mk (st := s_law) l16 c16 k16
 have O_14 : Own K mg "law" s_law _ _ ["_law_script"] := ⟨Fn16, PySem.W.mg_of X G a16, Fn16.binds (ps := ["_law_script"]) fun _ _ _ _ _ _ us hl => match us, hl with | [_], _ => rfl⟩
 refine ⟨PySem.W.fnOf "law" "law" (defArgs s_law) (defBody s_law) (defScope s_law) .none kV16 dc16 pm16 an16 cd16 ct16, fun s v => .of_eq rfl, fun base _ _ => ?_⟩
 have G_0 := ok_0 (P := l.prog) (w := w) (base := base) T O_0
 have G_5 := ok_5 (P := l.prog) (w := w) (base := base) T O_5
 have G_7 := ok_7 (P := l.prog) (w := w) (base := base) T O_7 O_5 G_5
 have G_10 := ok_10 (P := l.prog) (w := w) (base := base) T O_10 O_5 G_5
 have G_11 := ok_11 (P := l.prog) (w := w) (base := base) T O_11 O_5 G_5
 have G_3 := ok_3 (P := l.prog) (w := w) (base := base) T O_3 O_5 G_5
 have G_4 := ok_4 (P := l.prog) (w := w) (base := base) T O_4 O_5 G_5 O_7 G_7 O_10 G_10
 have G_1 := ok_1 (P := l.prog) (w := w) (base := base) T O_1 O_3 G_3 O_4 G_4
 have G_15 := ok_15 (P := l.prog) (w := w) (base := base) T O_15
 have G_13 := ok_13 (P := l.prog) (w := w) (base := base) T O_13
 have G_12 := ok_12 (P := l.prog) (w := w) (base := base) T O_12
 have G_16 := ok_16 (P := l.prog) (w := w) (base := base) T O_16 O_13 G_13 O_12 G_12
 have G_8 := ok_8 (P := l.prog) (w := w) (base := base) T O_8 12
 have G_9 := ok_9 (P := l.prog) (w := w) (base := base) T O_9
 have G_2 := ok_2 (P := l.prog) (w := w) (base := base) T O_2 O_15 G_15 O_16 G_16 O_8 G_8 O_9 G_9
 have G_6 := ok_6 (P := l.prog) (w := w) (base := base) T O_6
 exact ok_14 T O_14 O_0 G_0 O_7 G_7 O_10 G_10 O_11 G_11 O_1 G_1 O_2 G_2 O_6 G_6
end K06
namespace DL
open PySem L2
theorem minD_ev {a d : M D} {en : En} {S S1 S2 : Sto} {n : Nat} {v : D} {ss : List Str} (h1 : a en S = some (.ref n, S1)) (h2 : d en S1 = some (v, S2)) (h3 : S2[n]? = some (.lst (ss.map D.str))) : mMinD a d en S = some (if ss.isEmpty then v else .str (minS ss), S2) := by
 unfold mMinD
 rw [h1, Option.bind_some]
 dsimp only
 rw [h2, Option.bind_some]
 dsimp only
 rw [h3]
 dsimp only
 rw [strsD_map]
 rfl
theorem lenSet_ev {a : M D} {en : En} {S S1 : Sto} {n : Nat} {ss : List Str} (h1 : a en S = some (.ref n, S1)) (h3 : S1[n]? = some (.lst (ss.map D.str))) (hl : ss.length < 4000) : mLenSet a en S = some (.int (dN (fun i => ss.getD i default) ss.length), S1) := by
 unfold mLenSet
 rw [h1, Option.bind_some]
 dsimp only
 rw [h3]
 dsimp only
 rw [strsD_map, Option.bind_some, if_pos hl]
theorem comp_grow {α : Type} {ds0 : List D} {cap : En} {g : D → En → Option En} {c : M Bool} {m : M D} (enc : α → D) (p : α → Bool) (f : α → D) : ∀ (l : List α) (acc : List D) (S : Sto), acc.length + l.length ≤ sizeLine →
  (∀ a ∈ l, ∀ S', ∃ en G, g (enc a) cap = some en ∧ c en S' = some (p a, S' ++ G) ∧ (p a = true → ∃ G2, m en (S' ++ G) = some (f a, S' ++ G2))) →
  ∃ G, compGo ds0 .no cap g c m (l.map enc) acc S = some (acc ++ (l.filter p).map f, S ++ G)
 | [], acc, S, hl, _ => by
  refine ⟨[], ?_⟩
  unfold compGo
  simp only [List.map_nil]
  rw [if_pos ⟨trivial, by simpa using hl⟩]
  simp
 | a :: l, acc, S, hl, h => by
  obtain ⟨en, G, h1, h2, h3⟩ := h a List.mem_cons_self S
  rw [List.length_cons] at hl
  rw [List.map_cons]
  unfold compGo
  rw [if_pos ⟨trivial, by omega⟩, h1, Option.bind_some, h2, Option.bind_some]
  dsimp only
  cases hp : p a with
  | true =>
   obtain ⟨G2, h4⟩ := h3 hp
   obtain ⟨G3, e⟩ := comp_grow enc p f l (acc ++ [f a]) (S ++ G2) (by rw [List.length_append, List.length_singleton]; omega) fun d' hd' => h d' (List.mem_cons_of_mem _ hd')
   refine ⟨G2 ++ G3, ?_⟩
   rw [if_pos rfl, h4, Option.bind_some]
   dsimp only
   rw [e, List.filter_cons_of_pos hp, List.map_cons, List.append_assoc, List.append_assoc]
   rfl
  | false =>
   obtain ⟨G3, e⟩ := comp_grow enc p f l acc (S ++ G) (by omega) fun d' hd' => h d' (List.mem_cons_of_mem _ hd')
   refine ⟨G ++ G3, ?_⟩
   rw [if_neg Bool.false_ne_true, e, List.filter_cons_of_neg (by simp [hp]), List.append_assoc]
theorem dN_filter {K : Type} [DecidableEq K] (val : Nat → K) : ∀ n, ((List.range n).filter fun k => !decide (val k ∈ (List.range k).map val)).length = dN val n
 | 0 => rfl
 | n + 1 => by
  rw [List.range_succ, List.filter_append, List.length_append, dN_filter val n]
  show dN val n + (List.filter (fun k => !decide (val k ∈ (List.range k).map val)) [n]).length = (if val n ∈ (List.range n).map val then dN val n else dN val n + 1)
  rw [List.filter_cons]
  by_cases h : val n ∈ (List.range n).map val
  ·rw [if_pos h, decide_eq_true h]; rfl
  ·rw [if_neg h, decide_eq_false h]; rfl
theorem strLt_trans {ss : List Str} {i j k : Nat} (h1 : strLt ss i j = true) (h2 : strLt ss j k = true) : strLt ss i k = true := by
 unfold strLt at *
 rw [decide_eq_true_eq] at *
 exact List.lt_trans h1 h2
theorem argBest_least (ss : List Str) : ∀ n, argBest (strLt ss) n ≤ n ∧ ∀ j, j ≤ n → strLt ss j (argBest (strLt ss) n) = false
 | 0 => by
  refine ⟨Nat.le_refl _, fun j hj => ?_⟩
  have : j = 0 := by omega
  subst this
  show decide (_ < _) = false
  exact decide_eq_false (List.lt_irrefl _)
 | n + 1 => by
  obtain ⟨h1, h2⟩ := argBest_least ss n
  unfold argBest
  by_cases q : strLt ss (n + 1) (argBest (strLt ss) n) = true
  ·rw [if_pos q]
   refine ⟨Nat.le_refl _, fun j hj => ?_⟩
   cases w : strLt ss j (n + 1) with
   | false => rfl
   | true =>
    by_cases z : j = n + 1
    ·subst z
     have : strLt ss (n + 1) (n + 1) = false := decide_eq_false (List.lt_irrefl _)
     rw [this] at w; cases w
    ·have a := strLt_trans w q
     rw [h2 j (by omega)] at a
     cases a
  ·rw [if_neg q]
   refine ⟨by omega, fun j hj => ?_⟩
   by_cases z : j = n + 1
   ·subst z; simpa using q
   ·exact h2 j (by omega)
theorem minS_least {ss : List Str} (h : ss ≠ []) : minS ss ∈ ss ∧ ∀ y ∈ ss, ¬ y.cps.toList < (minS ss).cps.toList := by
 have hl : 0 < ss.length := List.length_pos_iff.mpr h
 obtain ⟨h1, h2⟩ := argBest_least ss (ss.length - 1)
 have hb : argBest (strLt ss) (ss.length - 1) < ss.length := by omega
 refine ⟨?_, fun y hy hlt => ?_⟩
 ·unfold minS
  rw [List.getD_eq_getElem?_getD, List.getElem?_eq_getElem hb]
  exact List.getElem_mem hb
 ·obtain ⟨i, hi, rfl⟩ := List.mem_iff_getElem.mp hy
  have a := h2 i (by omega)
  unfold strLt at a
  have e : ss.getD i default = ss[i] := by rw [List.getD_eq_getElem?_getD, List.getElem?_eq_getElem hi]; rfl
  rw [e] at a
  exact of_decide_eq_false a hlt
theorem cmpAll_str (ss : List Str) : cmpAll 30 (ss.map D.str) := by
 refine ⟨fun a ha => ?_, fun a ha b hb => ?_⟩
 ·obtain ⟨p, _, rfl⟩ := List.mem_map.mp ha; rfl
 ·obtain ⟨p, _, rfl⟩ := List.mem_map.mp ha
  obtain ⟨q, _, rfl⟩ := List.mem_map.mp hb
  rfl
theorem lt_strs (x y : Str) : ltD (.str x) (.str y) = decide (x.cps.toList < y.cps.toList) := by unfold ltD; rfl
theorem sort_head {ss : List Str} (h : ss ≠ []) : ∃ r, sortD (ss.map D.str) = .str (minS ss) :: r := by
 have hp := sort_perm (ss.map D.str)
 have hs := sort_sorted (cmpAll_str ss) (l := ss.map D.str) fun _ z => z
 cases e : sortD (ss.map D.str) with
 | nil =>
  rw [e] at hp
  have := hp.length_eq
  rw [List.length_map] at this
  exact absurd (List.length_eq_zero_iff.mp this.symm) h
 | cons d r =>
  rw [e] at hp hs
  have hd : d ∈ ss.map D.str := hp.mem_iff.mp List.mem_cons_self
  obtain ⟨m1, m2⟩ := minS_least h
  have hm : D.str (minS ss) ∈ d :: r := hp.mem_iff.mpr (List.mem_map.mpr ⟨_, m1, rfl⟩)
  obtain ⟨x, x1, rfl⟩ := List.mem_map.mp hd
  refine ⟨r, ?_⟩
  rcases List.mem_cons.mp hm with z | z
  ·rw [z]
  ·have l1 : ltD (.str (minS ss)) (.str x) = false := (List.pairwise_cons.mp hs).1 _ z
   have l2 : ltD (.str x) (.str (minS ss)) = false := by rw [lt_strs]; exact decide_eq_false (m2 x x1)
   have hc := cmpAll_str ss
   rcases ltD_tri 30 (.str x) (.str (minS ss)) (hc.2 _ hd _ (List.mem_map.mpr ⟨_, m1, rfl⟩)) (hc.1 _ hd) (hc.1 _ (List.mem_map.mpr ⟨_, m1, rfl⟩)) with w | w | w
   ·rw [w]
   ·rw [l2] at w; cases w
   ·rw [l1] at w; cases w
theorem sortOk_str (ss : List Str) (h : ss.length < 64) : sortOk (ss.map D.str) = true := by
 obtain ⟨h1, h2⟩ := cmpAll_str ss
 have a : skOk (ss.map D.str) = true := by
  unfold skOk
  rw [List.any_eq_true]
  refine ⟨1, by simp, ?_⟩
  rw [List.all_map, List.all_eq_true]
  intro p _
  rfl
 have b : cmpB (ss.map D.str) = true := by
  unfold cmpB
  rw [Bool.and_eq_true, List.all_eq_true, List.all_eq_true]
  exact ⟨h1, fun x hx => List.all_eq_true.mpr (h2 x hx)⟩
 unfold sortOk
 rw [a, b, List.length_map, decide_eq_true h]
 simp
end DL
namespace K06
open PySem L2 DL
theorem mix_ev {c p m : Int} {S : Sto} (hp : 0 < p) (hm : 0 < m) : F_L_mix [.int c, .int p, .int m] S = some (.int (c * 48271 % p % m), S) := by
 unfold F_L_mix
 simp only [EVS, Nat.reduceAdd, Nat.reduceSub, Nat.reduceLT, Nat.reduceLeDiff, Int.reduceLT, Int.reduceLE, Int.reduceNeg, Int.reducePow, Int.reduceToNat, ↓reduceIte, reduceCtorEq, List.map_cons, List.map_nil, Option.map_some, g_mulR, g_modI, hp, hm]
theorem cell_ev (ns : List Int) (k : Nat) : ∃ c : Int, ∀ S, F_L_cell [.scr ns, .int k] S = some (.int c, S) := by
 by_cases h : k < ns.length
 ·refine ⟨ns[k], fun S => ?_⟩
  unfold F_L_cell
  simp only [EVS, Nat.reduceAdd, Nat.reduceSub, Nat.reduceLT, Nat.reduceLeDiff, Int.reduceLT, Int.reduceLE, Int.reduceNeg, Int.reducePow, Int.reduceToNat, ↓reduceIte, reduceCtorEq, List.map_cons, List.map_nil, Option.map_some, k_len, lenD, Int.ofNat_lt, h, gIx, atI_nat (List.getElem?_eq_getElem h)]
 ·refine ⟨0, fun S => ?_⟩
  unfold F_L_cell
  simp only [EVS, Nat.reduceAdd, Nat.reduceSub, Nat.reduceLT, Nat.reduceLeDiff, Int.reduceLT, Int.reduceLE, Int.reduceNeg, Int.reducePow, Int.reduceToNat, ↓reduceIte, reduceCtorEq, List.map_cons, List.map_nil, Option.map_some, k_len, lenD, Int.ofNat_lt, h]
def btw (lo hi : Nat) (x : Str) : Bool := (cs x).all fun c => decide (lo ≤ c) && decide (c ≤ hi)
theorem oa : (Str.ofString "a") = ⟨#[97]⟩ := by decide +kernel
def isName (x : Str) : Bool := decide (1 ≤ (cs x).length) && (decide ((cs x).length ≤ 6) && btw 97 122 x)
def isText (x : Str) : Bool := decide ((cs x).length ≤ 60) && btw 32 126 x
theorem isi_str (x : Str) (S : Sto) : kIsi "str" (some (.str x, S)) = some (.bl true, S) := rfl
theorem ixS {z : Str} {i : Int} {S : Sto} (hz : z.length ≤ sizeLine) (h0 : 0 ≤ i) (h1 : i < (cs z).length) : gIx (.str z) (.int i) S = some (.str ⟨#[(cs z).getD i.toNat 0]⟩, S) := by
 obtain ⟨a, ha, e1, e2⟩ := atI_ok (xs := cs z) h0 h1
 show (if z.length ≤ sizeLine then (atI (cs z) i).map fun c => (D.str ⟨#[c]⟩, S) else none) = _
 rw [if_pos hz, e2]
 have : (cs z).getD i.toNat 0 = a := by simp [List.getD, e1]
 rw [this]
 rfl
def pick (z : Str) (c p : Int) (k : Nat) : Nat := (cs z).getD ((c + 7 * (k : Int)) * 48271 % p % ((cs z).length : Int)).toNat 0
theorem pick_mem {z : Str} {c p : Int} {k : Nat} (hz : 0 < (cs z).length) : pick z c p k ∈ cs z := by
 unfold pick
 have h0 := Int.emod_nonneg ((c + 7 * (k : Int)) * 48271 % p) (b := ((cs z).length : Int)) (by omega)
 have h1 := Int.emod_lt_of_pos ((c + 7 * (k : Int)) * 48271 % p) (b := ((cs z).length : Int)) (by omega)
 have hj : ((c + 7 * (k : Int)) * 48271 % p % ((cs z).length : Int)).toNat < (cs z).length := by omega
 rw [List.getD_eq_getElem?_getD, List.getElem?_eq_getElem hj]
 exact List.getElem_mem hj
theorem pick_comp {z : Str} {c p : Int} {n : Nat} {S : Sto} (hz : 0 < (cs z).length) (hz2 : (cs z).length ≤ sizeLine) (hp : 0 < p) (hn : n ≤ 1000) :
  kJoin2 (Str.ofString "") (compGo (rngD 0 n) .no [none, some (.int c), some (.str z)] (gN 0) mTrue (mOp gIx (mVar 2) (mCall F_L_mix (mCons (mOp gAdd (mVar 1) (mOp gMul (mCon (D.int (7))) (mVar 0))) (mCons (mCon (D.int p)) (mCons (mLen (mVar 2)) mNil))))) (rngD 0 n) [] S)
   = some (.str ⟨((List.range n).map (pick z c p)).toArray⟩, S) := by
 have hl : n ≤ sizeLine := Nat.le_trans hn (by decide)
 have hs : z.length ≤ sizeLine := by rw [len_cs]; exact hz2
 rw [rngD_map, comp_all (List.range n) (fun k => D.int (k : Nat)) (fun k => D.str ⟨#[pick z c p k]⟩) gdOk_none (by simpa using hl) fun k hk => ⟨_, rfl, ?_⟩]
 ·have e : (List.range n).map (fun k => D.str ⟨#[pick z c p k]⟩) = ((List.range n).map fun k => (⟨#[pick z c p k]⟩ : Str)).map D.str := by rw [List.map_map]; rfl
  have hsum : ∀ (l : List Nat), ((l.map fun k => (⟨#[pick z c p k]⟩ : Str)).map (·.length)).sum = l.length := by
   intro l
   induction l with
   | nil => rfl
   | cons a l ih => rw [List.map_cons, List.map_cons, List.sum_cons, ih, List.length_cons]; show 1 + _ = _; omega
  have he : (Str.ofString "").length = 0 := by decide +kernel
  rw [e, k_join2 (by rw [hsum, he]; simp; omega)]
  congr 2
  congr 1
  apply str_ext
  rw [cs_join_empty, cs_mk]
  generalize List.range n = l
  induction l with
  | nil => rfl
  | cons a l ih => rw [List.map_cons, List.flatMap_cons, ih]; rfl
 ·have h0 := Int.emod_nonneg ((c + 7 * (k : Int)) * 48271 % p) (b := ((cs z).length : Int)) (by omega)
  have h1 := Int.emod_lt_of_pos ((c + 7 * (k : Int)) * 48271 % p) (b := ((cs z).length : Int)) (by omega)
  have hz' : (0 : Int) < ((cs z).length : Int) := by omega
  simp only [EVS, Nat.reduceAdd, Nat.reduceSub, Nat.reduceLT, Nat.reduceLeDiff, Int.reduceLT, Int.reduceLE, Int.reduceNeg, Int.reducePow, Int.reduceToNat, ↓reduceIte, reduceCtorEq, List.map_cons, List.map_nil, Option.map_some, g_mulL, k_lenS, len_cs, hz2, mix_ev, hp, hz']
  rw [ixS hs h0 h1]
  rfl
theorem name_of (c : Int) : ∃ x, (1 ≤ (cs x).length ∧ (cs x).length ≤ 6) ∧ (∀ ch ∈ cs x, 97 ≤ ch ∧ ch ≤ 122) ∧ ∀ S, F_L_name [.int c] S = some (.str x, S) := by
 have ha : cs (Str.ofString "abcdefghijklmnopqrstuvwxyz") = (List.range 26).map (· + 97) := by decide +kernel
 have hab : cs (Str.ofString "ab") = [97, 98] := by decide +kernel
 have m0 := Int.emod_nonneg (c * 48271 % 9973) (b := 6) (by decide)
 have m1 := Int.emod_lt_of_pos (c * 48271 % 9973) (b := 6) (by decide)
 by_cases h3 : c % 3 = 0
 ·have n0 := Int.emod_nonneg (1 + c * 48271 % 9973 % 6) (b := 2) (by decide)
  have n1 := Int.emod_lt_of_pos (1 + c * 48271 % 9973 % 6) (b := 2) (by decide)
  generalize hn : 1 + (1 + c * 48271 % 9973 % 6) % 2 = n at *
  refine ⟨⟨((List.range n.toNat).map (pick (Str.ofString "ab") c 9967)).toArray⟩, ?_, ?_, fun S => ?_⟩
  ·rw [cs_mk]; simp; omega
  ·rw [cs_mk]
   intro ch hch
   obtain ⟨k, _, rfl⟩ := List.mem_map.mp hch
   have := pick_mem (z := Str.ofString "ab") (c := c) (p := 9967) (k := k) (by rw [hab]; decide)
   rw [hab] at this
   simp at this
   omega
  ·unfold F_L_name
   have hr : -(2 ^ 62) ≤ n ∧ n < 2 ^ 62 := by omega
   simp only [EVS, Nat.reduceAdd, Nat.reduceSub, Nat.reduceLT, Nat.reduceLeDiff, Int.reduceLT, Int.reduceLE, Int.reduceNeg, Int.reducePow, Int.reduceToNat, ↓reduceIte, reduceCtorEq, List.map_cons, List.map_nil, Option.map_some, mix_ev, g_modI, h3, hn, k_rng hr, e_L_name_0]
   rw [pick_comp (by rw [hab]; decide) (by rw [hab]; decide) (by decide) (by omega)]
   simp only [EVS, Nat.reduceAdd, Nat.reduceSub, Nat.reduceLT, Nat.reduceLeDiff, Int.reduceLT, Int.reduceLE, Int.reduceNeg, Int.reducePow, Int.reduceToNat, ↓reduceIte, reduceCtorEq, List.map_cons, List.map_nil, Option.map_some]
 ·generalize hn : 1 + c * 48271 % 9973 % 6 = n at *
  refine ⟨⟨((List.range n.toNat).map (pick (Str.ofString "abcdefghijklmnopqrstuvwxyz") c 9967)).toArray⟩, ?_, ?_, fun S => ?_⟩
  ·rw [cs_mk]; simp; omega
  ·rw [cs_mk]
   intro ch hch
   obtain ⟨k, _, rfl⟩ := List.mem_map.mp hch
   have := pick_mem (z := Str.ofString "abcdefghijklmnopqrstuvwxyz") (c := c) (p := 9967) (k := k) (by rw [ha]; decide)
   rw [ha] at this
   simp at this
   omega
  ·unfold F_L_name
   have hr : -(2 ^ 62) ≤ n ∧ n < 2 ^ 62 := by omega
   simp only [EVS, Nat.reduceAdd, Nat.reduceSub, Nat.reduceLT, Nat.reduceLeDiff, Int.reduceLT, Int.reduceLE, Int.reduceNeg, Int.reducePow, Int.reduceToNat, ↓reduceIte, reduceCtorEq, List.map_cons, List.map_nil, Option.map_some, mix_ev, g_modI, h3, hn, k_rng hr, e_L_name_0]
   rw [pick_comp (by rw [ha]; decide) (by rw [ha]; decide) (by decide) (by omega)]
   simp only [EVS, Nat.reduceAdd, Nat.reduceSub, Nat.reduceLT, Nat.reduceLeDiff, Int.reduceLT, Int.reduceLE, Int.reduceNeg, Int.reducePow, Int.reduceToNat, ↓reduceIte, reduceCtorEq, List.map_cons, List.map_nil, Option.map_some]
theorem text_of (c : Int) : ∃ x, (cs x).length ≤ 60 ∧ (∀ ch ∈ cs x, 32 ≤ ch ∧ ch ≤ 126) ∧ ∀ S, F_L_text [.int c] S = some (.str x, S) := by
 generalize hz : Str.ofString " !\"#$&'()*+,-./0123456789:;<=>?\x40ABCDEFGHIJKLMNOPQRSTUVWXYZ[\\]^_`abcdefghijklmnopqrstuvwxyz{|}~" = z
 have hz1 : (cs z).length = 94 := by rw [← hz]; decide +kernel
 have hz2 : ∀ ch ∈ cs z, 32 ≤ ch ∧ ch ≤ 126 := by rw [← hz]; decide +kernel
 by_cases h4 : c % 4 = 0
 ·have m0 := Int.emod_nonneg (c * 48271 % 9929) (b := 3) (by decide)
  have m1 := Int.emod_lt_of_pos (c * 48271 % 9929) (b := 3) (by decide)
  have key : ∀ x, (cs x).length ≤ 60 → (∀ ch ∈ cs x, 32 ≤ ch ∧ ch ≤ 126) → (∀ S, gIx (.tup [.str (Str.ofString ""), .str (Str.ofString "a"), .str (Str.ofString "hi;")]) (.int (c * 48271 % 9929 % 3)) S = some (.str x, S)) →
    ∃ x, (cs x).length ≤ 60 ∧ (∀ ch ∈ cs x, 32 ≤ ch ∧ ch ≤ 126) ∧ ∀ S, F_L_text [.int c] S = some (.str x, S) := by
   intro x h1 h2 h3
   refine ⟨x, h1, h2, fun S => ?_⟩
   unfold F_L_text
   by_cases g0 : c * 48271 % 9941 % 9 = 0
   ·simp only [EVS, Nat.reduceAdd, Nat.reduceSub, Nat.reduceLT, Nat.reduceLeDiff, Int.reduceLT, Int.reduceLE, Int.reduceNeg, Int.reducePow, Int.reduceToNat, ↓reduceIte, reduceCtorEq, List.map_cons, List.map_nil, Option.map_some, mix_ev, g_modI, h4, g0, k_tup (show [D.str (Str.ofString ""), .str (Str.ofString "a"), .str (Str.ofString "hi;")].length ≤ sizeLine by decide), h3, Int.reduceEq]
   ·by_cases g1 : c * 48271 % 9941 % 9 = 1
    ·simp only [EVS, Nat.reduceAdd, Nat.reduceSub, Nat.reduceLT, Nat.reduceLeDiff, Int.reduceLT, Int.reduceLE, Int.reduceNeg, Int.reducePow, Int.reduceToNat, ↓reduceIte, reduceCtorEq, List.map_cons, List.map_nil, Option.map_some, mix_ev, g_modI, h4, g1, k_tup (show [D.str (Str.ofString ""), .str (Str.ofString "a"), .str (Str.ofString "hi;")].length ≤ sizeLine by decide), h3, Int.reduceEq]
    ·simp only [EVS, Nat.reduceAdd, Nat.reduceSub, Nat.reduceLT, Nat.reduceLeDiff, Int.reduceLT, Int.reduceLE, Int.reduceNeg, Int.reducePow, Int.reduceToNat, ↓reduceIte, reduceCtorEq, List.map_cons, List.map_nil, Option.map_some, mix_ev, g_modI, h4, g0, g1, k_tup (show [D.str (Str.ofString ""), .str (Str.ofString "a"), .str (Str.ofString "hi;")].length ≤ sizeLine by decide), h3, Int.reduceEq]
  have h012 : c * 48271 % 9929 % 3 = 0 ∨ c * 48271 % 9929 % 3 = 1 ∨ c * 48271 % 9929 % 3 = 2 := by omega
  rcases h012 with h | h | h
  ·exact key (Str.ofString "") (by decide +kernel) (by decide +kernel) (fun S => by rw [h]; simp only [g_ix0, g_ix1, g_ix2])
  ·exact key (Str.ofString "a") (by decide +kernel) (by decide +kernel) (fun S => by rw [h]; simp only [g_ix0, g_ix1, g_ix2])
  ·exact key (Str.ofString "hi;") (by decide +kernel) (by decide +kernel) (fun S => by rw [h]; simp only [g_ix0, g_ix1, g_ix2])
 ·have key : ∀ n : Int, 0 ≤ n → n ≤ 60 → (∀ S, F_L_text [.int c] S = some (.str ⟨((List.range n.toNat).map (pick z c 9923)).toArray⟩, S)) →
    ∃ x, (cs x).length ≤ 60 ∧ (∀ ch ∈ cs x, 32 ≤ ch ∧ ch ≤ 126) ∧ ∀ S, F_L_text [.int c] S = some (.str x, S) := by
   intro n h0 h1 h2
   refine ⟨_, ?_, ?_, h2⟩
   ·rw [cs_mk]; simp; omega
   ·rw [cs_mk]
    intro ch hch
    obtain ⟨k, _, rfl⟩ := List.mem_map.mp hch
    exact hz2 _ (pick_mem (by omega))
  have m0 := Int.emod_nonneg (c * 48271 % 9949) (b := 5) (by decide)
  have m1 := Int.emod_lt_of_pos (c * 48271 % 9949) (b := 5) (by decide)
  have n0 := Int.emod_nonneg (c * 48271 % 9931) (b := 61) (by decide)
  have n1 := Int.emod_lt_of_pos (c * 48271 % 9931) (b := 61) (by decide)
  by_cases g0 : c * 48271 % 9941 % 9 = 0
  ·refine key 60 (by decide) (by decide) fun S => ?_
   unfold F_L_text
   simp only [EVS, Nat.reduceAdd, Nat.reduceSub, Nat.reduceLT, Nat.reduceLeDiff, Int.reduceLT, Int.reduceLE, Int.reduceNeg, Int.reducePow, Int.reduceToNat, ↓reduceIte, reduceCtorEq, List.map_cons, List.map_nil, Option.map_some, mix_ev, g_modI, h4, g0, hz, e_L_text_0, k_rng (show -(2 ^ 62) ≤ (60 : Int) ∧ (60 : Int) < 2 ^ 62 by decide), Int.reduceEq]
   rw [pick_comp (by omega) (by rw [hz1]; decide) (by decide) (by decide)]
   simp only [EVS, Nat.reduceAdd, Nat.reduceSub, Nat.reduceLT, Nat.reduceLeDiff, Int.reduceLT, Int.reduceLE, Int.reduceNeg, Int.reducePow, Int.reduceToNat, ↓reduceIte, reduceCtorEq, List.map_cons, List.map_nil, Option.map_some]
  ·by_cases g1 : c * 48271 % 9941 % 9 = 1
   ·refine key (c * 48271 % 9931 % 61) n0 (by omega) fun S => ?_
    unfold F_L_text
    simp only [EVS, Nat.reduceAdd, Nat.reduceSub, Nat.reduceLT, Nat.reduceLeDiff, Int.reduceLT, Int.reduceLE, Int.reduceNeg, Int.reducePow, Int.reduceToNat, ↓reduceIte, reduceCtorEq, List.map_cons, List.map_nil, Option.map_some, mix_ev, g_modI, h4, g1, hz, e_L_text_0, k_rng (show -(2 ^ 62) ≤ c * 48271 % 9931 % 61 ∧ c * 48271 % 9931 % 61 < 2 ^ 62 by omega), Int.reduceEq]
    rw [pick_comp (by omega) (by rw [hz1]; decide) (by decide) (by omega)]
    simp only [EVS, Nat.reduceAdd, Nat.reduceSub, Nat.reduceLT, Nat.reduceLeDiff, Int.reduceLT, Int.reduceLE, Int.reduceNeg, Int.reducePow, Int.reduceToNat, ↓reduceIte, reduceCtorEq, List.map_cons, List.map_nil, Option.map_some]
   ·refine key (c * 48271 % 9949 % 5) m0 (by omega) fun S => ?_
    unfold F_L_text
    simp only [EVS, Nat.reduceAdd, Nat.reduceSub, Nat.reduceLT, Nat.reduceLeDiff, Int.reduceLT, Int.reduceLE, Int.reduceNeg, Int.reducePow, Int.reduceToNat, ↓reduceIte, reduceCtorEq, List.map_cons, List.map_nil, Option.map_some, mix_ev, g_modI, h4, g0, g1, hz, e_L_text_0, k_rng (show -(2 ^ 62) ≤ c * 48271 % 9949 % 5 ∧ c * 48271 % 9949 % 5 < 2 ^ 62 by omega), Int.reduceEq]
    rw [pick_comp (by omega) (by rw [hz1]; decide) (by decide) (by omega)]
    simp only [EVS, Nat.reduceAdd, Nat.reduceSub, Nat.reduceLT, Nat.reduceLeDiff, Int.reduceLT, Int.reduceLE, Int.reduceNeg, Int.reducePow, Int.reduceToNat, ↓reduceIte, reduceCtorEq, List.map_cons, List.map_nil, Option.map_some]
abbrev Mk := Int × Int
def enc (p : Mk) : D := .tup [.int p.1, .int p.2]
def within (ms : List Mk) (q : Mk) : Bool := ms.any fun p => decide (p.1 = q.1) && decide (q.2 ≤ p.2)
theorem which_ev (c : Int) : ∃ w : Nat, ∃ n : Int, w < 6 ∧ 1 ≤ n ∧ ∀ S, F_L_which [.int c] S = some (.tup [.int w, .int n], S) := by
 have a0 := Int.emod_nonneg (c * 48271 % 9871) (b := 6) (by decide)
 have a1 := Int.emod_lt_of_pos (c * 48271 % 9871) (b := 6) (by decide)
 have b0 := Int.emod_nonneg (c * 48271 % 9859) (b := 4) (by decide)
 have c0 := Int.emod_nonneg c (b := 2) (by decide)
 obtain ⟨w, hw⟩ := Int.eq_ofNat_of_zero_le a0
 refine ⟨w, 1 + c * 48271 % 9859 % 4 + 9 * (c % 2), by omega, by omega, fun S => ?_⟩
 unfold F_L_which
 simp only [EVS, Nat.reduceAdd, Nat.reduceSub, Nat.reduceLT, Nat.reduceLeDiff, Int.reduceLT, Int.reduceLE, Int.reduceNeg, Int.reducePow, Int.reduceToNat, ↓reduceIte, reduceCtorEq, List.map_cons, List.map_nil, Option.map_some, mix_ev, g_modI, g_mulL, hw, show (0 : Int) < 9871 by decide, show (0 : Int) < 9859 by decide, show (0 : Int) < 6 by decide, show (0 : Int) < 4 by decide, show (0 : Int) < 2 by decide]
def kn (f : Nat → Int) (l : List Nat) : List Mk := (l.filter fun h => decide (0 < f h)).map fun h : Nat => ((h : Int), f h)
theorem kn_len (f : Nat → Int) (l : List Nat) : (kn f l).length ≤ l.length := by unfold kn; rw [List.length_map]; exact List.length_filter_le ..
theorem kn_snoc (f : Nat → Int) (l : List Nat) (h : Nat) : kn f (l ++ [h]) = if 0 < f h then kn f l ++ [((h : Int), f h)] else kn f l := by
 unfold kn
 rw [List.filter_append, List.map_append]
 by_cases q : 0 < f h <;> simp [q]
theorem low_enc (n : Nat) (ms : List Mk) : lowD n (D.tup (ms.map enc)) = true := by
 unfold lowD
 induction ms with
 | nil => unfold lowDs; rfl
 | cons p ms ih =>
  rw [List.map_cons]
  unfold lowDs
  rw [ih, Bool.and_true]
  unfold enc lowD lowDs lowD lowDs lowD lowDs
  rfl
theorem known_ev (c : Int) (w : Nat) (n : Int) (hw : w < 6) (hn : 1 ≤ n) : ∃ f : Nat → Int, (∀ h, 0 ≤ f h) ∧ n ≤ f w ∧ ∀ S, F_L_known [.int c, .tup [.int w, .int n]] S = some (.tup ((kn f (List.range 6)).map enc), S) := by
 refine ⟨fun h => (c + 31 * (h : Int)) * 48271 % 9907 % 3 + (if h = w then n else 0), fun h => ?_, ?_, fun S => ?_⟩
 ·have := Int.emod_nonneg ((c + 31 * (h : Int)) * 48271 % 9907) (b := 3) (by decide)
  dsimp only
  split <;> omega
 ·have := Int.emod_nonneg ((c + 31 * (w : Int)) * 48271 % 9907) (b := 3) (by decide)
  dsimp only
  rw [if_pos rfl]
  omega
 ·generalize hf : (fun h : Nat => (c + 31 * (h : Int)) * 48271 % 9907 % 3 + (if h = w then n else 0)) = f
  have hfx : ∀ h : Nat, f h = (c + 31 * (h : Int)) * 48271 % 9907 % 3 + (if h = w then n else 0) := fun h => by rw [← hf]
  have hS0 : ∀ S : Sto, lowD S.length (D.tup ((kn f (List.range 6)).map enc)) = true := fun S => low_enc _ _
  let P : List Nat → En → Sto → Prop := fun pre en S' => ∃ x3 x4, en = [some (.int c), some (.tup [.int w, .int n]), some (.ref S.length), x3, x4] ∧ S' = S ++ [.lst ((kn f pre).map enc)]
  have step : ∀ (pre : List Nat) (k : Nat) (post : List Nat) (en : En) (S1 : Sto), List.range 6 = pre ++ k :: post → P pre en S1 → ∃ en1, gN 3 (D.int (k : Nat)) en = some en1 ∧ ∃ en2 S2, b_L_known_0 en1 S1 = some (.nx, en2, S2) ∧ P (pre ++ [k]) en2 S2 := by
   intro pre k post en S1 hpre hP
   obtain ⟨x3, x4, rfl, rfl⟩ := hP
   refine ⟨_, rfl, ?_⟩
   have hlen : (kn f pre).length < sizeLine := by
    have h1 := kn_len f pre
    have h2 := congrArg List.length hpre
    simp at h2
    exact Nat.lt_of_le_of_lt (show (kn f pre).length ≤ 6 by omega) (by decide)
   have hfk := hfx k
   have q1 : (0 : Int) < 9907 := by decide
   have q2 : (0 : Int) < 3 := by decide
   by_cases hk : k = w
   ·subst hk
    rw [if_pos rfl] at hfk
    by_cases hp : 0 < f k
    ·refine ⟨[some (.int c), some (.tup [.int (k : Nat), .int n]), some (.ref S.length), some (.int (k : Nat)), some (.int (f k))], _, ?_, _, _, rfl, rfl⟩
     rw [kn_snoc, if_pos hp, List.map_append]
     simp only [b_L_known_0, EVS, Nat.reduceAdd, Nat.reduceSub, Nat.reduceLT, Nat.reduceLeDiff, Int.reduceLT, Int.reduceLE, Int.reduceNeg, Int.reducePow, Int.reduceToNat, ↓reduceIte, reduceCtorEq, List.map_cons, List.map_nil, Option.map_some, g_mulL, mix_ev, q1, q2, ← hfk, hp, c_app2E, List.length_map, hlen] <;> rfl
    ·refine ⟨[some (.int c), some (.tup [.int (k : Nat), .int n]), some (.ref S.length), some (.int (k : Nat)), some (.int (f k))], _, ?_, _, _, rfl, rfl⟩
     rw [kn_snoc, if_neg hp]
     simp only [b_L_known_0, EVS, Nat.reduceAdd, Nat.reduceSub, Nat.reduceLT, Nat.reduceLeDiff, Int.reduceLT, Int.reduceLE, Int.reduceNeg, Int.reducePow, Int.reduceToNat, ↓reduceIte, reduceCtorEq, List.map_cons, List.map_nil, Option.map_some, g_mulL, mix_ev, q1, q2, ← hfk, hp] <;> rfl
   ·have hk' : ¬ ((k : Nat) : Int) = (w : Int) := fun z => hk (by omega)
    rw [if_neg hk, Int.add_zero] at hfk
    by_cases hp : 0 < f k
    ·refine ⟨[some (.int c), some (.tup [.int w, .int n]), some (.ref S.length), some (.int (k : Nat)), some (.int (f k))], _, ?_, _, _, rfl, rfl⟩
     rw [kn_snoc, if_pos hp, List.map_append]
     simp only [b_L_known_0, EVS, Nat.reduceAdd, Nat.reduceSub, Nat.reduceLT, Nat.reduceLeDiff, Int.reduceLT, Int.reduceLE, Int.reduceNeg, Int.reducePow, Int.reduceToNat, ↓reduceIte, reduceCtorEq, List.map_cons, List.map_nil, Option.map_some, g_mulL, mix_ev, q1, q2, ← hfk, hk', hp, c_app2E, List.length_map, hlen] <;> rfl
    ·refine ⟨[some (.int c), some (.tup [.int w, .int n]), some (.ref S.length), some (.int (k : Nat)), some (.int (f k))], _, ?_, _, _, rfl, rfl⟩
     rw [kn_snoc, if_neg hp]
     simp only [b_L_known_0, EVS, Nat.reduceAdd, Nat.reduceSub, Nat.reduceLT, Nat.reduceLeDiff, Int.reduceLT, Int.reduceLE, Int.reduceNeg, Int.reducePow, Int.reduceToNat, ↓reduceIte, reduceCtorEq, List.map_cons, List.map_nil, Option.map_some, g_mulL, mix_ev, q1, q2, ← hfk, hk', hp] <;> rfl
  obtain ⟨en', S', e, x3, x4, e2, e3⟩ := forGo_typ (g := gN 3) (ds0 := rngD 0 6) (gd := .no) (body := b_L_known_0) (List.range 6) (fun k => D.int (k : Nat)) P step (fun _ _ _ _ => trivial)
   (en := [some (.int c), some (.tup [.int w, .int n]), some (.ref S.length), none, none]) (S := S ++ [.lst []]) ⟨_, _, rfl, rfl⟩
  rw [← rngD_map] at e
  unfold F_L_known
  have h6 : Int.toNat 6 = 6 := rfl
  simp only [EVS, Nat.reduceAdd, Nat.reduceSub, Nat.reduceLT, Nat.reduceLeDiff, Int.reduceLT, Int.reduceLE, Int.reduceNeg, Int.reducePow, Int.reduceToNat, ↓reduceIte, reduceCtorEq, List.map_cons, List.map_nil, Option.map_some, k_rng (show -(2 ^ 62) ≤ (6 : Int) ∧ (6 : Int) < 2 ^ 62 by decide), h6, e]
  subst e2 e3
  simp only [EVS, Nat.reduceAdd, Nat.reduceSub, Nat.reduceLT, Nat.reduceLeDiff, Int.reduceLT, Int.reduceLE, Int.reduceNeg, Int.reducePow, Int.reduceToNat, ↓reduceIte, reduceCtorEq, List.map_cons, List.map_nil, Option.map_some]
  rw [trim_push _ _ _ (hS0 S)]
theorem within_kn (f : Nat → Int) (h : Nat) (h6 : h < 6) (n : Int) : within (kn f (List.range 6)) ((h : Int), n) = (decide (0 < f h) && decide (n ≤ f h)) := by
 rw [Bool.eq_iff_iff]
 unfold within kn
 simp only [List.any_map, List.any_eq_true, List.mem_filter, List.mem_range, decide_eq_true_eq, Function.comp, Bool.and_eq_true]
 constructor
 ·rintro ⟨a, ⟨_, h2⟩, h3, h4⟩
  have : a = h := by omega
  subst this
  exact ⟨h2, h4⟩
 ·rintro ⟨h1, h2⟩
  exact ⟨h, ⟨h6, h1⟩, rfl, h2⟩
theorem mem_kn {f : Nat → Int} {p : Mk} (hp : p ∈ kn f (List.range 6)) : ∃ h : Nat, h < 6 ∧ 0 < f h ∧ p = ((h : Int), f h) := by
 unfold kn at hp
 obtain ⟨h, h1, rfl⟩ := List.mem_map.mp hp
 rw [List.mem_filter] at h1
 exact ⟨h, by simpa using h1.1, by simpa using h1.2, rfl⟩
def Ty (d : D) (S : Sto) : Prop := (tyD d S).isSome = true
def isH : D → Bool
 | .int i => decide (0 ≤ i) && decide (i < 6)
 | _ => false
def isN : D → Bool
 | .int n => decide (1 ≤ n)
 | _ => false
def isM : D → Bool
 | .tup [a, b] => isH a && isN b
 | _ => false
def TyM (d : D) (S : Sto) : Prop := Ty d S ∧ ∀ a b, d = .tup [a, b] → Ty a S ∧ Ty b S
def rise (ds : List D) : Bool := (ds.zip (ds.drop 1)).all fun p => ltD p.1 p.2
def hd1 : D → D
 | .tup (a :: _) => a
 | _ => .non
def isK (ds : List D) : Bool := ds.all isM && rise (ds.map hd1)
theorem iterL {S : Sto} {n : Nat} {ds : List D} (h : S[n]? = some (.lst ds)) : kIter (some (.ref n, S)) = some ((ds, .lst n), S) := by
 show iterD (.ref n) S = _
 dsimp only [iterD]
 rw [h]
def isP : D → Bool
 | .tup [m, _] => isM m
 | _ => false
def TyP (d : D) (S : Sto) : Prop := Ty d S ∧ ∀ m x, d = .tup [m, x] → TyM m S
def dec : D → Mk
 | .tup [.int a, .int b] => (a, b)
 | _ => (0, 0)
def areP (ks : List Mk) (ds : List D) : Bool := ds.all isP && (rise (ds.map hd1) && (ds.map hd1).all fun d => within ks (dec d))
def isNm : D → Bool
 | .str x => isName x
 | _ => false
def isTx : D → Bool
 | .str x => isText x
 | _ => false
def StrOk (d : D) : Prop := ∀ x, d = .str x → x.length ≤ sizeLine
def snd1 : D → D
 | .tup (_ :: b :: _) => b
 | _ => .non
def TyPs (d : D) (S : Sto) : Prop := Ty d S ∧ ∀ ds, d = .tup ds → ds.length ≤ sizeLine ∧ ∀ e ∈ ds, TyP e S ∧ ∀ m x, e = .tup [m, x] → Ty x S ∧ StrOk x
def areN (ks : List Mk) : D → Bool
 | .tup ds => areP ks ds && ds.all fun d => isNm (snd1 d)
 | _ => false
def areT (ks : List Mk) : D → Bool
 | .tup ds => areP ks ds && ds.all fun d => isTx (snd1 d)
 | _ => false
def isK' : D → Bool
 | .tup ds => isK ds
 | _ => false
def decs : D → List Mk
 | .tup ds => ds.map dec
 | _ => []
def isF : D → Bool
 | .tup [a, nm, kn, ns, ts] => isM a && (isNm nm && (isK' kn && (within (decs kn) (dec a) && (areN (decs kn) ns && areT (decs kn) ts))))
 | _ => false
structure TyF (d : D) (S : Sto) : Prop where
 ty : Ty d S
 parts : ∀ a nm kn ns ts, d = .tup [a, nm, kn, ns, ts] → TyM a S ∧ (Ty nm S ∧ StrOk nm) ∧ (Ty kn S ∧ ∀ ds, kn = .tup ds → (∀ e ∈ ds, TyM e S) ∧ ds.length ≤ sizeLine) ∧ TyPs ns S ∧ TyPs ts S
def encV (p : Mk × Str) : D × D := (enc p.1, .str p.2)
theorem keysT_enc (p : Mk) : keysT (enc p) = some [.inl p.1, .inl p.2] := rfl
theorem kEq_enc (p q : Mk) : kEq (enc p) (enc q) = decide (p = q) := by
 rw [kEq_t (keysT_enc p) (keysT_enc q)]
 rw [Bool.eq_iff_iff]
 simp only [decide_eq_true_eq, List.cons.injEq, and_true, Sum.inl.injEq]
 constructor
 ·rintro ⟨h1, h2⟩; exact Prod.ext h1 h2
 ·rintro rfl; exact ⟨rfl, rfl⟩
def putM (ps : List (Mk × Str)) (m : Mk) (x : Str) : List (Mk × Str) := if (ps.any fun p => decide (p.1 = m)) = true then ps.map (fun p => if p.1 = m then (p.1, x) else p) else ps ++ [(m, x)]
theorem dput_enc (ps : List (Mk × Str)) (m : Mk) (x : Str) : dput (ps.map encV) (enc m) (.str x) = (putM ps m x).map encV := by
 unfold dput putM
 have e1 : ((ps.map encV).any fun p => kEq p.1 (enc m)) = ps.any fun p => decide (p.1 = m) := by
  rw [List.any_map]
  congr 1
  funext p
  exact kEq_enc p.1 m
 rw [e1]
 split
 ·rw [List.map_map, List.map_map]
  apply List.map_congr_left
  intro p _
  show (if kEq (enc p.1) (enc m) = true then (enc p.1, D.str x) else encV p) = encV (if p.1 = m then (p.1, x) else p)
  rw [kEq_enc]
  by_cases q : p.1 = m
  ·rw [if_pos q, if_pos (decide_eq_true q)]; rfl
  ·rw [if_neg q, if_neg (by simpa using q)]
 ·rw [List.map_append]; rfl
theorem same_enc (ps : List (Mk × Str)) (m : Mk) : sameKind (ps.map encV) (enc m) = true := by
 show ((ps.map encV).all fun p => (keysT p.1).isSome) = true
 rw [List.all_map, List.all_eq_true]
 intro p _
 rfl
theorem dget_enc : ∀ {ps : List (Mk × Str)} {m : Mk} {x : Str}, (ps.map (·.1)).Nodup → (m, x) ∈ ps → dget (ps.map encV) (enc m) = some (.str x)
 | [], _, _, _, z => by cases z
 | p :: ps, m, x, hn, hm => by
  unfold dget
  rw [List.map_cons, List.find?_cons]
  have e : kEq (encV p).1 (enc m) = decide (p.1 = m) := kEq_enc _ _
  rw [List.map_cons, List.nodup_cons] at hn
  by_cases q : p.1 = m
  ·rw [e, decide_eq_true q]
   rcases List.mem_cons.mp hm with z | z
   ·rw [← z]; rfl
   ·exact absurd (List.mem_map.mpr ⟨_, z, q.symm⟩) hn.1
  ·rw [e, decide_eq_false q]
   rcases List.mem_cons.mp hm with z | z
   ·rw [← z] at q; exact absurd rfl q
   ·exact dget_enc hn.2 z
theorem put_keys (ps : List (Mk × Str)) (m : Mk) (x : Str) (hn : (ps.map (·.1)).Nodup) : ((putM ps m x).map (·.1)).Nodup := by
 unfold putM
 split
 ·have : (ps.map fun p => if p.1 = m then (p.1, x) else p).map (·.1) = ps.map (·.1) := by
   rw [List.map_map]
   apply List.map_congr_left
   intro p _
   show (if p.1 = m then (p.1, x) else p).1 = p.1
   split <;> rfl
  rw [this]; exact hn
 ·rename_i h
  rw [List.map_append, List.nodup_append]
  refine ⟨hn, by simp, fun a ha b hb => ?_⟩
  simp only [List.map_cons, List.map_nil, List.mem_singleton] at hb
  subst hb
  intro e
  subst e
  obtain ⟨p, p1, p2⟩ := List.mem_map.mp ha
  exact h (List.any_eq_true.mpr ⟨p, p1, by simpa using p2⟩)
theorem put_mem {ps : List (Mk × Str)} {m : Mk} {x : Str} {p : Mk × Str} (h : p ∈ putM ps m x) : p = (m, x) ∨ p ∈ ps := by
 unfold putM at h
 split at h
 ·obtain ⟨q, q1, q2⟩ := List.mem_map.mp h
  split at q2
  ·rename_i e
   exact .inl (by rw [← q2, e])
  ·exact .inr (q2 ▸ q1)
 ·rcases List.mem_append.mp h with z | z
  ·exact .inr z
  ·exact .inl (List.mem_singleton.mp z)
theorem put_len (ps : List (Mk × Str)) (m : Mk) (x : Str) : (putM ps m x).length ≤ ps.length + 1 := by
 unfold putM
 split
 ·rw [List.length_map]; omega
 ·rw [List.length_append]; exact Nat.le_refl _
theorem cmpAll_enc (l : List Mk) : cmpAll 30 (l.map enc) := by
 refine ⟨fun a ha => ?_, fun a ha b hb => ?_⟩
 ·obtain ⟨p, _, rfl⟩ := List.mem_map.mp ha; rfl
 ·obtain ⟨p, _, rfl⟩ := List.mem_map.mp ha
  obtain ⟨q, _, rfl⟩ := List.mem_map.mp hb
  rfl
theorem sortOk_enc (l : List Mk) (h : l.length < 64) : sortOk (l.map enc) = true := by
 obtain ⟨h1, h2⟩ := cmpAll_enc l
 have a : skOk (l.map enc) = true := by
  unfold skOk
  rw [List.any_eq_true]
  refine ⟨2, by simp, ?_⟩
  rw [List.all_map, List.all_eq_true]
  intro p _
  rfl
 have b : cmpB (l.map enc) = true := by
  unfold cmpB
  rw [Bool.and_eq_true, List.all_eq_true, List.all_eq_true]
  exact ⟨h1, fun x hx => List.all_eq_true.mpr (h2 x hx)⟩
 unfold sortOk
 rw [a, b, List.length_map, decide_eq_true h]
 simp
theorem sort_enc (l : List Mk) (hn : l.Nodup) : ∃ l' : List Mk, sortD (l.map enc) = l'.map enc ∧ l'.Perm l ∧ rise (l'.map enc) = true := by
 have hp := sort_perm (l.map enc)
 have hs := sort_sorted (cmpAll_enc l) (l := l.map enc) fun _ z => z
 have hed : ∀ e ∈ sortD (l.map enc), enc (dec e) = e := fun e he => by
  obtain ⟨p, _, rfl⟩ := List.mem_map.mp (hp.mem_iff.mp he)
  rfl
 have e1 : ((sortD (l.map enc)).map dec).map enc = sortD (l.map enc) := by
  rw [List.map_map]
  conv => rhs; rw [← List.map_id (sortD (l.map enc))]
  exact List.map_congr_left fun e he => hed e he
 have e2 : (l.map enc).map dec = l := by rw [List.map_map]; exact List.map_id' l
 have hpl : ((sortD (l.map enc)).map dec).Perm l := by have := hp.map dec; rw [e2] at this; exact this
 refine ⟨(sortD (l.map enc)).map dec, e1.symm, hpl, ?_⟩
 rw [e1]
 have hnd : (sortD (l.map enc)).Nodup := hp.nodup_iff.mpr (List.Pairwise.map _ (fun a b hab z => hab (by have := congrArg dec z; exact this)) hn)
 have hmem : ∀ e ∈ sortD (l.map enc), e ∈ l.map enc := fun e he => hp.mem_iff.mp he
 generalize sortD (l.map enc) = ds at *
 unfold rise
 have key : ∀ ds : List D, ds.Pairwise leD → ds.Nodup → (∀ e ∈ ds, e ∈ l.map enc) → ((ds.zip (ds.drop 1)).all fun p => ltD p.1 p.2) = true := by
  intro ds
  induction ds with
  | nil => intro _ _ _; rfl
  | cons a r ih =>
   intro h1 h2 h3
   cases r with
   | nil => rfl
   | cons b r =>
    rw [List.pairwise_cons] at h1
    rw [List.nodup_cons] at h2
    have i := ih h1.2 h2.2 fun e he => h3 e (List.mem_cons_of_mem _ he)
    show ((ltD a b) && (((b :: r).zip ((b :: r).drop 1)).all fun p => ltD p.1 p.2)) = true
    rw [i, Bool.and_true]
    have hab : a ≠ b := fun z => h2.1 (by rw [z]; exact List.mem_cons_self)
    have hc := cmpAll_enc l
    rcases ltD_tri 30 a b (hc.2 a (h3 a List.mem_cons_self) b (h3 b (by simp))) (hc.1 a (h3 a List.mem_cons_self)) (hc.1 b (h3 b (by simp))) with z | z | z
    ·exact absurd z hab
    ·exact z
    ·have := h1.1 b List.mem_cons_self
     rw [this] at z
     cases z
 exact key ds hs hnd hmem
theorem put_at {ps : List (Mk × Str)} {m : Mk} {x : Str} {p : Mk × Str} (h : p ∈ putM ps m x) (e : p.1 = m) : p.2 = x := by
 unfold putM at h
 split at h
 ·obtain ⟨q, q1, q2⟩ := List.mem_map.mp h
  split at q2
  ·rw [← q2]
  ·rename_i z; rw [q2] at z; exact absurd e z
 ·rename_i z
  rcases List.mem_append.mp h with y | y
  ·exact absurd (List.any_eq_true.mpr ⟨p, y, by simpa using e⟩) z
  ·rw [List.mem_singleton.mp y]
theorem put_has (ps : List (Mk × Str)) (m : Mk) (x : Str) : ((putM ps m x).any fun p => decide (p.1 = m)) = true := by
 unfold putM
 split
 ·rename_i h
  obtain ⟨p, p1, p2⟩ := List.any_eq_true.mp h
  have e : p.1 = m := by simpa using p2
  rw [List.any_map, List.any_eq_true]
  refine ⟨p, p1, ?_⟩
  show decide ((if p.1 = m then (p.1, x) else p).1 = m) = true
  rw [if_pos e]
  exact decide_eq_true e
 ·rw [List.any_append]; simp
theorem put_len2 (ps : List (Mk × Str)) (m : Mk) (x y : Str) : (putM (putM ps m x) m y).length = (putM ps m x).length := by
 have h := put_has ps m x
 generalize putM ps m x = qs at *
 unfold putM
 rw [if_pos h, List.length_map]
theorem setItem_ev {mv ma mb : M D} {en : En} {S S' : Sto} {v k : D} {n : Nat} (h1 : mv en S = some (v, S)) (h2 : ma en S = some (.ref n, S)) (h3 : mb en S = some (k, S)) (h4 : setD (.ref n) k v S = some S') : mSetItem mv ma mb en S = some (.nx, en, S') := by
 unfold mSetItem
 rw [h1, Option.bind_some, h2, Option.bind_some, h3, Option.bind_some]
 dsimp only
 rw [h4]
 rfl
theorem setD_enc {S : Sto} {ps : List (Mk × Str)} {m : Mk} {x : Str} (h : ps.length < sizeLine) : setD (.ref S.length) (enc m) (.str x) (S ++ [.dct (ps.map encV)]) = some (S ++ [.dct ((putM ps m x).map encV)]) := by
 dsimp only [setD]
 rw [List.getElem?_concat_length]
 dsimp only
 rw [same_enc, List.length_map, decide_eq_true h, dput_enc]
 simp
def okW (kind : Int) (x : Str) : Prop := if kind = 1 then (cs x).length ≤ 60 ∧ ∀ ch ∈ cs x, 32 ≤ ch ∧ ch ≤ 126 else (1 ≤ (cs x).length ∧ (cs x).length ≤ 6) ∧ ∀ ch ∈ cs x, 97 ≤ ch ∧ ch ≤ 122
def okMk (ks : List Mk) (m : Mk) : Prop := ∃ q ∈ ks, q.1 = m.1 ∧ 1 ≤ m.2 ∧ m.2 ≤ q.2
def Good (ks : List Mk) (kind : Int) (ps : List (Mk × Str)) : Prop := (ps.map (·.1)).Nodup ∧ ∀ p ∈ ps, okMk ks p.1 ∧ okW kind p.2
theorem turnM {ks : List Mk} {c kind seed : Int} {S : Sto} (h0 : 0 < ks.length) (hk : ∀ q ∈ ks, 1 ≤ q.2) (k : Nat) {ps : List (Mk × Str)} (hps : ps.length < 60) (hg : Good ks kind ps) (x6 x7 x8 x9 : Option D) :
  ∃ ps' y6 y7 y8 y9, b_L_marked_0 [some (.int c), some (.tup (ks.map enc)), some (.int kind), some (.int seed), some (.ref S.length), some (.int (k : Nat)), x6, x7, x8, x9] (S ++ [.dct (ps.map encV)])
   = some (.nx, [some (.int c), some (.tup (ks.map enc)), some (.int kind), some (.int seed), some (.ref S.length), some (.int (k : Nat)), y6, y7, y8, y9], S ++ [.dct (ps'.map encV)]) ∧ Good ks kind ps' ∧ ps'.length ≤ ps.length + 1 := by
 have hL : (0 : Int) < (ks.length : Int) := by omega
 have a0 := Int.emod_nonneg ((c + 7 * (k : Int)) * 48271 % 9887) (b := (ks.length : Int)) (by omega)
 have a1 := Int.emod_lt_of_pos ((c + 7 * (k : Int)) * 48271 % 9887) (b := (ks.length : Int)) (by omega)
 obtain ⟨a, ea⟩ : ∃ a : Nat, (c + 7 * (k : Int)) * 48271 % 9887 % (ks.length : Int) = (a : Int) := ⟨_, (Int.toNat_of_nonneg a0).symm⟩
 have ha : a < ks.length := by omega
 obtain ⟨⟨h, most⟩, hp⟩ : ∃ p, ks[a]? = some p := ⟨_, List.getElem?_eq_getElem ha⟩
 have hmem : (h, most) ∈ ks := List.mem_of_getElem? hp
 have hm1 := hk _ hmem
 dsimp only at hm1
 have hm0 : (0 : Int) < most := by omega
 have b0 := Int.emod_nonneg ((c + 11 * (k : Int)) * 48271 % 9883) (b := most) (by omega)
 have b1 := Int.emod_lt_of_pos ((c + 11 * (k : Int)) * 48271 % 9883) (b := most) (by omega)
 have hix : ∀ S, gIx (.tup (ks.map enc)) (.int (a : Int)) S = some (.tup [.int h, .int most], S) := fun S => g_ixT (by rw [List.getElem?_map, hp]; rfl)
 generalize hcount : 1 + (c + 11 * (k : Int)) * 48271 % 9883 % most = cnt
 generalize hw : seed + 97 * h + 13 * cnt = w
 obtain ⟨x, hx1, hx2, hx⟩ := name_of w
 obtain ⟨y, hy1, hy2, hy⟩ := text_of w
 have hok : okMk ks (h, cnt) := ⟨_, hmem, rfl, by show 1 ≤ cnt; omega, by show cnt ≤ most; omega⟩
 have hz : ps.length < sizeLine := Nat.lt_trans hps (by decide)
 have hz2 : (putM ps (h, cnt) x).length < sizeLine := Nat.lt_of_le_of_lt (put_len ps (h, cnt) x) (Nat.lt_of_lt_of_le (show ps.length + 1 < 64 by omega) (by decide))
 have q1 : (0 : Int) < 9887 := by decide
 have q2 : (0 : Int) < 9883 := by decide
 have s1 := setItem_ev (mv := mCall F_L_name (mCons (mVar 9) mNil)) (ma := mVar 4) (mb := mVar 8) (en := [some (.int c), some (.tup (ks.map enc)), some (.int kind), some (.int seed), some (.ref S.length), some (.int (k : Nat)), some (.int h), some (.int most), some (.tup [.int h, .int cnt]), some (.int w)])
  (S := S ++ [.dct (ps.map encV)]) (v := .str x) (n := S.length) (k := enc (h, cnt)) (by simp only [EVS, Nat.reduceAdd, Nat.reduceSub, Nat.reduceLT, Nat.reduceLeDiff, Int.reduceLT, Int.reduceLE, Int.reduceNeg, Int.reducePow, Int.reduceToNat, ↓reduceIte, reduceCtorEq, List.map_cons, List.map_nil, Option.map_some, hx]) rfl rfl (setD_enc hz)
 have s2 := setItem_ev (mv := mCall F_L_text (mCons (mVar 9) mNil)) (ma := mVar 4) (mb := mVar 8) (en := [some (.int c), some (.tup (ks.map enc)), some (.int kind), some (.int seed), some (.ref S.length), some (.int (k : Nat)), some (.int h), some (.int most), some (.tup [.int h, .int cnt]), some (.int w)])
  (S := S ++ [.dct ((putM ps (h, cnt) x).map encV)]) (v := .str y) (n := S.length) (k := enc (h, cnt)) (by simp only [EVS, Nat.reduceAdd, Nat.reduceSub, Nat.reduceLT, Nat.reduceLeDiff, Int.reduceLT, Int.reduceLE, Int.reduceNeg, Int.reducePow, Int.reduceToNat, ↓reduceIte, reduceCtorEq, List.map_cons, List.map_nil, Option.map_some, hy]) rfl rfl (setD_enc hz2)
 by_cases kd : kind = 1
 ·subst kd
  refine ⟨putM (putM ps (h, cnt) x) (h, cnt) y, some (.int h), some (.int most), some (.tup [.int h, .int cnt]), some (.int w), ?_, ⟨put_keys _ _ _ (put_keys _ _ _ hg.1), fun p hp => ?_⟩, ?_⟩
  ·simp only [b_L_marked_0, EVS, Nat.reduceAdd, Nat.reduceSub, Nat.reduceLT, Nat.reduceLeDiff, Int.reduceLT, Int.reduceLE, Int.reduceNeg, Int.reducePow, Int.reduceToNat, ↓reduceIte, reduceCtorEq, List.map_cons, List.map_nil, Option.map_some, g_mulL, List.length_map, mix_ev, q1, q2, hL, hm0, ea, hix, hcount, hw, s1, s2]
  ·have okY : okW 1 y := by unfold okW; rw [if_pos rfl]; exact ⟨hy1, hy2⟩
   by_cases e : p.1 = (h, cnt)
   ·have := put_at hp e
    rw [e, this]
    exact ⟨hok, okY⟩
   ·rcases put_mem hp with z | z
    ·rw [z] at e; exact absurd rfl e
    ·rcases put_mem z with z | z
     ·rw [z] at e; exact absurd rfl e
     ·exact hg.2 p z
  ·have h1 := put_len ps (h, cnt) x
   have h2 := put_len2 ps (h, cnt) x y
   omega
 ·refine ⟨putM ps (h, cnt) x, some (.int h), some (.int most), some (.tup [.int h, .int cnt]), some (.int w), ?_, ⟨put_keys _ _ _ hg.1, fun p hp => ?_⟩, put_len _ _ _⟩
  ·simp only [b_L_marked_0, EVS, Nat.reduceAdd, Nat.reduceSub, Nat.reduceLT, Nat.reduceLeDiff, Int.reduceLT, Int.reduceLE, Int.reduceNeg, Int.reducePow, Int.reduceToNat, ↓reduceIte, reduceCtorEq, List.map_cons, List.map_nil, Option.map_some, g_mulL, List.length_map, mix_ev, q1, q2, hL, hm0, ea, hix, hcount, hw, s1, kd]
  ·rcases put_mem hp with z | z
   ·rw [z]
    exact ⟨hok, by unfold okW; rw [if_neg kd]; exact ⟨hx1, hx2⟩⟩
   ·exact hg.2 p z
theorem pick_pairs {ps : List (Mk × Str)} : ∀ l : List Mk, (∀ m ∈ l, m ∈ ps.map (·.1)) → ∃ qs : List (Mk × Str), qs.map (·.1) = l ∧ ∀ p ∈ qs, p ∈ ps
 | [], _ => ⟨[], rfl, fun p hp => by cases hp⟩
 | m :: l, h => by
  obtain ⟨qs, e, hq⟩ := pick_pairs l fun m hm => h m (List.mem_cons_of_mem _ hm)
  obtain ⟨p, p1, p2⟩ := List.mem_map.mp (h m List.mem_cons_self)
  refine ⟨p :: qs, by rw [List.map_cons, e, p2], fun q hq' => ?_⟩
  rcases List.mem_cons.mp hq' with z | z
  ·rw [z]; exact p1
  ·exact hq q z
theorem low_pairs (n : Nat) (ps : List (Mk × Str)) : lowD n (D.tup (ps.map fun p => .tup [enc p.1, .str p.2])) = true := by
 unfold lowD
 induction ps with
 | nil => unfold lowDs; rfl
 | cons p ms ih =>
  rw [List.map_cons]
  unfold lowDs
  rw [ih, Bool.and_true]
  simp [enc, lowD, lowDs]
theorem marked_ev {ks : List Mk} {c kind seed : Int} {S : Sto} (h0 : 0 < ks.length) (hk : ∀ q ∈ ks, 1 ≤ q.2) :
  ∃ ps : List (Mk × Str), F_L_marked [.int c, .tup (ks.map enc), .int kind, .int seed] S = some (.tup (ps.map fun p => .tup [enc p.1, .str p.2]), S) ∧ ps.length ≤ 3 ∧ Good ks kind ps ∧ rise ((ps.map (·.1)).map enc) = true := by
 have m0 := Int.emod_nonneg (c * 48271 % 9901) (b := 4) (by decide)
 have m1 := Int.emod_lt_of_pos (c * 48271 % 9901) (b := 4) (by decide)
 obtain ⟨n, hn⟩ : ∃ n : Nat, c * 48271 % 9901 % 4 = (n : Int) := ⟨_, (Int.toNat_of_nonneg m0).symm⟩
 have hn3 : n ≤ 3 := by omega
 let P : List Nat → En → Sto → Prop := fun pre en S' => ∃ ps x5 x6 x7 x8 x9, en = [some (.int c), some (.tup (ks.map enc)), some (.int kind), some (.int seed), some (.ref S.length), x5, x6, x7, x8, x9] ∧ S' = S ++ [.dct (ps.map encV)] ∧ Good ks kind ps ∧ ps.length ≤ pre.length
 have step : ∀ (pre : List Nat) (k : Nat) (post : List Nat) (en : En) (S1 : Sto), List.range n = pre ++ k :: post → P pre en S1 → ∃ en1, gN 5 (D.int (k : Nat)) en = some en1 ∧ ∃ en2 S2, b_L_marked_0 en1 S1 = some (.nx, en2, S2) ∧ P (pre ++ [k]) en2 S2 := by
  intro pre k post en S1 hpre hP
  obtain ⟨ps, x5, x6, x7, x8, x9, rfl, rfl, hg, hl⟩ := hP
  have h2 := congrArg List.length hpre
  simp at h2
  obtain ⟨ps', y6, y7, y8, y9, e, hg', hl'⟩ := turnM (S := S) (c := c) (seed := seed) h0 hk k (by omega) hg x6 x7 x8 x9
  exact ⟨_, rfl, _, _, e, ps', _, _, _, _, _, rfl, rfl, hg', by rw [List.length_append]; simp; omega⟩
 obtain ⟨en', S', e, ps, x5, x6, x7, x8, x9, e2, e3, hg, hl⟩ := forGo_typ (g := gN 5) (ds0 := rngD 0 n) (gd := .no) (body := b_L_marked_0) (List.range n) (fun k => D.int (k : Nat)) P step (fun _ _ _ _ => trivial)
  (en := [some (.int c), some (.tup (ks.map enc)), some (.int kind), some (.int seed), some (.ref S.length), none, none, none, none, none]) (S := S ++ [.dct []]) ⟨[], _, _, _, _, _, rfl, rfl, ⟨List.nodup_nil, fun p hp => by cases hp⟩, Nat.zero_le _⟩
 rw [← rngD_map] at e
 subst e2 e3
 rw [List.length_range] at hl
 obtain ⟨l, l1, l2, l3⟩ := sort_enc (ps.map (·.1)) hg.1
 have hlen : l.length = ps.length := by have := l2.length_eq; simpa using this
 have hsz : 64 ≤ sizeLine := by decide
 have hsrt : srtV (.ref S.length) (S ++ [.dct (ps.map encV)]) = some ((ps.map (·.1)).map enc) := by
  dsimp only [srtV]
  rw [List.getElem?_concat_length]
  dsimp only
  rw [List.map_map, List.map_map]
  rfl
 have hk1 : kSrtV (some (.ref S.length, S ++ [Ob.dct (ps.map encV)])) = some (l.map enc, S ++ [Ob.dct (ps.map encV)]) := by
  rw [c_srtV hsrt (sortOk_enc _ (by rw [List.length_map]; omega)), l1]
 obtain ⟨qs, hq1, hq2⟩ := pick_pairs (ps := ps) l fun m hm => l2.mem_iff.mp hm
 subst hq1
 have hql : qs.length = ps.length := by rw [List.length_map] at hlen; exact hlen
 refine ⟨qs, ?_, by omega, ⟨l2.nodup_iff.mpr hg.1, fun p hp => hg.2 p (hq2 p hp)⟩, l3⟩
 have e5 : (qs.map (·.1)).map enc = qs.map fun p => enc p.1 := by rw [List.map_map]; rfl
 rw [e5] at hk1
 generalize hS2 : S ++ [Ob.dct (ps.map encV)] ++ [Ob.lst (qs.map fun p => enc p.1)] = S2
 have hd2 : S2[S.length]? = some (.dct (ps.map encV)) := by rw [← hS2]; simp
 have hi2 : S2[(S ++ [Ob.dct (ps.map encV)]).length]? = some (.lst (qs.map fun p => enc p.1)) := by rw [← hS2, List.getElem?_concat_length]
 have c2 : compGo (qs.map fun p => enc p.1) (.lst (S ++ [Ob.dct (ps.map encV)]).length) [none, some (.ref S.length)] (gN 0) mTrue e_L_marked_0 (qs.map fun p => enc p.1) [] S2 = some (qs.map fun p => .tup [enc p.1, .str p.2], S2) := by
  refine comp_all qs (fun p => enc p.1) (fun p => .tup [enc p.1, .str p.2]) (show GdOk (.lst _) _ S2 from hi2) (by omega) fun p hp => ⟨_, rfl, ?_⟩
  have hdc : dctAt S2 S.length (enc p.1) = some (ps.map encV) := by
   unfold dctAt
   rw [hd2]
   exact if_pos (same_enc ps p.1)
  have hix := ixD_ev hdc (dget_enc hg.1 (hq2 p hp))
  simp only [e_L_marked_0, EVS, Nat.reduceAdd, Nat.reduceSub, Nat.reduceLT, Nat.reduceLeDiff, Int.reduceLT, Int.reduceLE, Int.reduceNeg, Int.reducePow, Int.reduceToNat, ↓reduceIte, reduceCtorEq, List.map_cons, List.map_nil, Option.map_some, hix]
 unfold F_L_marked
 have q1 : (0 : Int) < 9901 := by decide
 have q2 : (0 : Int) < 4 := by decide
 have hrg : -(2 ^ 62) ≤ (n : Int) ∧ (n : Int) < 2 ^ 62 := ⟨by omega, by omega⟩
 have hnn : Int.toNat (n : Int) = n := by omega
 simp only [EVS, Nat.reduceAdd, Nat.reduceSub, Nat.reduceLT, Nat.reduceLeDiff, Int.reduceLT, Int.reduceLE, Int.reduceNeg, Int.reducePow, Int.reduceToNat, ↓reduceIte, reduceCtorEq, List.map_cons, List.map_nil, Option.map_some, mix_ev, q1, q2, hn, k_rng hrg, hnn, e, hk1, hS2, iterL hi2, c2]
 have hS3 : S2 = S ++ ([Ob.dct (ps.map encV)] ++ [Ob.lst (qs.map fun p => enc p.1)]) := by rw [← hS2, List.append_assoc]
 rw [hS3, trim_push _ _ _ (low_pairs _ _)]
mutual
def wtD (S : Sto) : D → Bool
 | .tup ds => decide (ds.length ≤ sizeLine) && wtDs S ds
 | .ref n => (tyD (.ref n) S).isSome
 | .str x => decide (x.length ≤ sizeLine)
 | .scr _ => false
 | .non => true
 | .bl _ => true
 | .int _ => true
def wtDs (S : Sto) : List D → Bool
 | [] => true
 | d :: ds => wtD S d && wtDs S ds
end
mutual
theorem wt_up {S G : Sto} : ∀ d : D, wtD S d = true → wtD (S ++ G) d = true
 | .tup ds, h => by
  rw [wtD, Bool.and_eq_true] at h ⊢
  exact ⟨h.1, wts_up ds h.2⟩
 | .ref n, h => by
  rw [wtD] at h ⊢
  dsimp only [tyD] at h ⊢
  cases e : S[n]? with
  | none => rw [e] at h; cases h
  | some o =>
   rw [List.getElem?_append_left (List.getElem?_eq_some_iff.mp e).1]
   exact h
 | .str x, h => by rw [wtD] at h ⊢; exact h
 | .scr _, h => by rw [wtD] at h; cases h
 | .non, _ => by rw [wtD]
 | .bl _, _ => by rw [wtD]
 | .int _, _ => by rw [wtD]
theorem wts_up {S G : Sto} : ∀ ds : List D, wtDs S ds = true → wtDs (S ++ G) ds = true
 | [], _ => by rw [wtDs]
 | d :: ds, h => by
  rw [wtDs, Bool.and_eq_true] at h ⊢
  exact ⟨wt_up d h.1, wts_up ds h.2⟩
end
def Bad (S : Sto) (d : D) : Prop := wtD S d = true ∧ isF d = false
theorem Bad.up {S G : Sto} {d : D} (h : Bad S d) : Bad (S ++ G) d := ⟨wt_up d h.1, h.2⟩
theorem lt_int (i j : Int) : ltD (.int i) (.int j) = true ↔ i < j := by
 have e : ltD (.int i) (.int j) = decide (i < j) := by unfold ltD; rfl
 rw [e, decide_eq_true_eq]
def encS (p : Mk × Str) : D := .tup [enc p.1, .str p.2]
def mkF (p : Mk) (x : Str) (ks : List Mk) (ns ts : List (Mk × Str)) : D := .tup [enc p, .str x, .tup (ks.map enc), .tup (ns.map encS), .tup (ts.map encS)]
def okPs (ks : List Mk) (kind : Int) (ps : List (Mk × Str)) : Prop := ps.length ≤ 3 ∧ Good ks kind ps ∧ rise ((ps.map (·.1)).map enc) = true
structure GF (p : Mk) (x : Str) (ks : List Mk) (ns ts : List (Mk × Str)) : Prop where
 hp : (0 ≤ p.1 ∧ p.1 < 6) ∧ 1 ≤ p.2
 hw : within ks p = true
 hx : (1 ≤ (cs x).length ∧ (cs x).length ≤ 6) ∧ ∀ ch ∈ cs x, 97 ≤ ch ∧ ch ≤ 122
 hk0 : 0 < ks.length
 hk6 : ks.length ≤ 6
 hkm : ∀ q ∈ ks, (0 ≤ q.1 ∧ q.1 < 6) ∧ 1 ≤ q.2
 hkr : ks.Pairwise fun a b => a.1 < b.1
 hn : okPs ks 0 ns
 ht : okPs ks 1 ts
section
variable {p : Mk} {x : Str} {ks : List Mk} {ns ts : List (Mk × Str)} {S : Sto}
end
theorem slT1 {ds : List D} {a : Nat} {S : Sto} (h : a ≤ ds.length) : slD (.tup ds) none (some (a : Int)) S = some (.tup (ds.take a), S) := by
 dsimp only [slD]
 unfold cutD
 rw [HT.sIx_nat, HT.sIx_none, List.drop_zero, show min a ds.length - 0 = a by omega]
section
variable {a b c d e x : D} {S : Sto}
end
theorem ixLast {ds : List D} {d : D} {S : Sto} : gIx (.tup (ds ++ [d])) (.int (-1)) S = some (d, S) := by
 show (atI (ds ++ [d]) (-1)).map _ = _
 have : atI (ds ++ [d]) (-1) = some d := by
  unfold atI ixN
  rw [if_neg (by decide), if_pos (by rw [List.length_append]; simp; omega)]
  rw [Option.bind_some, show ((-1 : Int) + ((ds ++ [d]).length : Nat)).toNat = ds.length by rw [List.length_append]; simp; omega]
  exact List.getElem?_concat_length ..
 rw [this]; rfl
theorem file_of (c : Int) (w : Nat) (n : Int) (x : Str) (seed : Int) (S : Sto) (hw : w < 6) (hn : 1 ≤ n) (hx : (1 ≤ (cs x).length ∧ (cs x).length ≤ 6) ∧ ∀ ch ∈ cs x, 97 ≤ ch ∧ ch ≤ 122) : ∃ f ns ts, (∀ h, 0 ≤ f h) ∧ n ≤ f w ∧ GF ((w : Int), n) x (kn f (List.range 6)) ns ts ∧ F_L_file [.int c, .tup [.int w, .int n], .str x, .int seed] S = some (mkF ((w : Int), n) x (kn f (List.range 6)) ns ts, S) := by
 obtain ⟨f, hf, hfw, hk⟩ := known_ev c w n hw hn
 have hm : ((w : Int), f w) ∈ kn f (List.range 6) := by
  unfold kn
  exact List.mem_map.mpr ⟨w, by simp [hw]; omega, rfl⟩
 have h0 : 0 < (kn f (List.range 6)).length := List.length_pos_of_mem hm
 have hk1 : ∀ q ∈ kn f (List.range 6), (0 ≤ q.1 ∧ q.1 < 6) ∧ 1 ≤ q.2 := fun q hq => by
  obtain ⟨h, h1, h2, rfl⟩ := mem_kn hq
  exact ⟨⟨by show (0 : Int) ≤ (h : Int); omega, by show (h : Int) < 6; omega⟩, by show 1 ≤ f h; omega⟩
 have hr : (kn f (List.range 6)).Pairwise fun a b => a.1 < b.1 := by
  unfold kn
  rw [List.pairwise_map]
  refine List.Pairwise.filter _ ?_
  exact List.Pairwise.imp (fun {a b} (q : a < b) => by show (a : Int) < (b : Int); omega) List.pairwise_lt_range
 obtain ⟨ns, n1, n2, n3, n4⟩ := marked_ev (ks := kn f (List.range 6)) (c := c + 1) (kind := 0) (seed := seed) (S := S) h0 fun q hq => (hk1 q hq).2
 obtain ⟨ts, t1, t2, t3, t4⟩ := marked_ev (ks := kn f (List.range 6)) (c := c + 2) (kind := 1) (seed := seed + 5) (S := S) h0 fun q hq => (hk1 q hq).2
 refine ⟨f, ns, ts, hf, hfw, ⟨⟨⟨by show (0 : Int) ≤ (w : Int); omega, by show (w : Int) < 6; omega⟩, hn⟩, ?_, hx, h0, kn_len f _, hk1, hr, ⟨n2, n3, n4⟩, ⟨t2, t3, t4⟩⟩, ?_⟩
 ·rw [within_kn f w hw, decide_eq_true (show 0 < f w by omega), decide_eq_true hfw]; rfl
 ·unfold F_L_file
  simp only [EVS, Nat.reduceAdd, Nat.reduceSub, Nat.reduceLT, Nat.reduceLeDiff, Int.reduceLT, Int.reduceLE, Int.reduceNeg, Int.reducePow, Int.reduceToNat, ↓reduceIte, reduceCtorEq, List.map_cons, List.map_nil, Option.map_some, hk, n1, t1]
  rfl
end K06
namespace K06
open PySem L2 DL
theorem i_st : ∀ (x : Str) (S : Sto), kIsi "tuple" (some (.str x, S)) = some (.bl false, S) := fun _ _ => rfl
theorem i_sb : ∀ (x : Str) (S : Sto), kIsi "bool" (some (.str x, S)) = some (.bl false, S) := fun _ _ => rfl
theorem i_ss : ∀ (x : Str) (S : Sto), kIsi2 "int" "str" (some (.str x, S)) = some (.bl true, S) := fun _ _ => rfl
theorem i_tt : ∀ (l : List D) (S : Sto), kIsi "tuple" (some (.tup l, S)) = some (.bl true, S) := fun _ _ => rfl
theorem is_none (x : Str) (S : Sto) : gIs (.str x) .non S = some (.bl false, S) := rfl
theorem same_s (k : Nat) (x : Str) (S : Sto) : F_L_same (k + 1) [.str x, .str x] S = some (.bl true, S) := by
 show runD 2 2 (m_L_same (F_L_same k)) _ S = _
 simp only [m_L_same, EVS, Nat.reduceAdd, Nat.reduceSub, Nat.reduceLT, Nat.reduceLeDiff, Int.reduceLT, Int.reduceLE, Int.reduceNeg, Int.reducePow, Int.reduceToNat, ↓reduceIte, reduceCtorEq, List.map_cons, List.map_nil, Option.map_some, i_st, i_sb, i_ss, is_none]
theorem same_t (k : Nat) (xs : List Str) (S : Sto) (hl : xs.length ≤ 10) : F_L_same (k + 2) [.tup (xs.map D.str), .tup (xs.map D.str)] S = some (.bl true, S) := by
 show runD 2 2 (m_L_same (F_L_same (k + 1))) _ S = _
 simp only [m_L_same, EVS, Nat.reduceAdd, Nat.reduceSub, Nat.reduceLT, Nat.reduceLeDiff, Int.reduceLT, Int.reduceLE, Int.reduceNeg, Int.reducePow, Int.reduceToNat, ↓reduceIte, reduceCtorEq, List.map_cons, List.map_nil, Option.map_some, i_tt, List.length_map]
 have hz : zipD (xs.map D.str) (xs.map D.str) = xs.map fun x => D.tup [.str x, .str x] := by
  unfold zipD
  induction xs with
  | nil => rfl
  | cons x xs ih =>
   have := ih (by rw [List.length_cons] at hl; omega)
   simp only [List.map_cons, List.zip_cons_cons, this]
 rw [hz, comp_all xs (fun x => D.tup [.str x, .str x]) (fun _ => D.bl true) gdOk_none (Nat.le_trans hl (by decide)) fun x hx => ⟨_, rfl, ?_⟩]
 ·have e : xs.map (fun _ => D.bl true) = (xs.map fun _ => true).map D.bl := by rw [List.map_map]; rfl
  rw [e, k_all]
  have : (xs.map fun _ => true).all id = true := by simp
  simp only [EVS, Nat.reduceAdd, Nat.reduceSub, Nat.reduceLT, Nat.reduceLeDiff, Int.reduceLT, Int.reduceLE, Int.reduceNeg, Int.reducePow, Int.reduceToNat, ↓reduceIte, reduceCtorEq, List.map_cons, List.map_nil, Option.map_some, this]
 ·simp only [EVS, Nat.reduceAdd, Nat.reduceSub, Nat.reduceLT, Nat.reduceLeDiff, Int.reduceLT, Int.reduceLE, Int.reduceNeg, Int.reducePow, Int.reduceToNat, ↓reduceIte, reduceCtorEq, List.map_cons, List.map_nil, Option.map_some]
  exact same_s k x S
def vals (ps : List (Mk × Str)) : Nat → Str := fun i => (ps.map (·.2)).getD i default
theorem vals_at {ps : List (Mk × Str)} {k : Nat} {p : Mk × Str} (h : ps[k]? = some p) : vals ps k = p.2 := by
 unfold vals
 rw [List.getD_eq_getElem?_getD, List.getElem?_map, h]; rfl
theorem vals_take {ps : List (Mk × Str)} {k : Nat} (h : k ≤ ps.length) : (ps.take k).map (·.2) = (List.range k).map (vals ps) := by
 refine List.ext_getElem? fun i => ?_
 rw [List.getElem?_map, List.getElem?_map]
 by_cases q : i < k
 ·rw [List.getElem?_take_of_lt q, List.getElem?_range q]
  obtain ⟨p, hp⟩ : ∃ p, ps[i]? = some p := ⟨_, List.getElem?_eq_getElem (by omega)⟩
  rw [hp, Option.map_some, Option.map_some, vals_at hp]
 ·rw [List.getElem?_eq_none (by rw [List.length_take]; omega), List.getElem?_eq_none (by rw [List.length_range]; omega)]
  rfl
theorem eq_str (x y : Str) : eqD (.str x) (.str y) = decide (x = y) := by unfold eqD; rfl
theorem sorts_ev {ps : List (Mk × Str)} {S : Sto} (hl : ps.length ≤ 50) : F_L_sorts [.tup (ps.map encS)] S = some (.int (dN (vals ps) ps.length), S) := by
 unfold F_L_sorts
 have hz : 100 ≤ sizeLine := by decide
 obtain ⟨G, hc⟩ := comp_grow (ds0 := rngD 0 ps.length) (cap := [none, some (.tup (ps.map encS))]) (g := gN 0) (c := c_L_sorts_0) (m := e_L_sorts_1) (fun k : Nat => D.int (k : Nat)) (fun k => !decide (vals ps k ∈ (List.range k).map (vals ps))) (fun k => D.int (k : Nat)) (List.range ps.length) [] S (by simp; omega) fun k hk S' => by
  have hk' := List.mem_range.mp hk
  obtain ⟨p, hp⟩ : ∃ p, ps[k]? = some p := ⟨_, List.getElem?_eq_getElem hk'⟩
  have hix : ∀ S, gIx (.tup (ps.map encS)) (.int (k : Int)) S = some (.tup [enc p.1, .str p.2], S) := fun S => g_ixT (by rw [List.getElem?_map, hp]; rfl)
  have hsl : ∀ S, slD (.tup (ps.map encS)) none (some (k : Int)) S = some (.tup ((ps.take k).map encS), S) := fun S => by rw [slT1 (by rw [List.length_map]; omega), List.map_take]
  have c1 : compGo ((ps.take k).map encS) .no [none] (gN 0) mTrue e_L_sorts_0 ((ps.take k).map encS) [] S' = some (((ps.take k).map (·.2)).map D.str, S') := by
   rw [comp_all (ps.take k) encS (fun p => D.str p.2) gdOk_none (by rw [List.length_take]; omega) fun p hp => ⟨_, rfl, by simp only [e_L_sorts_0, EVS, Nat.reduceAdd, Nat.reduceSub, Nat.reduceLT, Nat.reduceLeDiff, Int.reduceLT, Int.reduceLE, Int.reduceNeg, Int.reducePow, Int.reduceToNat, ↓reduceIte, reduceCtorEq, List.map_cons, List.map_nil, Option.map_some, encS]⟩, List.map_map]
   rfl
  have hin : gNotIn (.str p.2) (.ref S'.length) (S' ++ [.lst (((ps.take k).map (·.2)).map D.str)]) = some (.bl (!decide (vals ps k ∈ (List.range k).map (vals ps))), S' ++ [.lst (((ps.take k).map (·.2)).map D.str)]) := by
   unfold gNotIn inD
   dsimp only
   rw [List.getElem?_concat_length]
   dsimp only
   have hpl : (pln 30 (.str p.2) && (((ps.take k).map (·.2)).map D.str).all (pln 30)) = true := by
    rw [Bool.and_eq_true]
    refine ⟨rfl, ?_⟩
    rw [List.all_map, List.all_eq_true]
    intro x _
    rfl
   rw [if_pos hpl, Option.map_some]
   have he : ((((ps.take k).map (·.2)).map D.str).any fun y => eqD y (.str p.2)) = decide (vals ps k ∈ (List.range k).map (vals ps)) := by
    rw [vals_take (Nat.le_of_lt hk'), vals_at hp, List.any_map, Bool.eq_iff_iff, List.any_eq_true, decide_eq_true_eq]
    constructor
    ·rintro ⟨x, x1, x2⟩
     have x3 : eqD (.str x) (.str p.2) = true := x2
     rw [eq_str, decide_eq_true_eq] at x3
     rw [← x3]; exact x1
    ·intro x1
     refine ⟨p.2, x1, ?_⟩
     show eqD (.str p.2) (.str p.2) = true
     rw [eq_str]; exact decide_eq_true rfl
   rw [he]
  refine ⟨_, [.lst (((ps.take k).map (·.2)).map D.str)], rfl, ?_, fun _ => ⟨[.lst (((ps.take k).map (·.2)).map D.str)], ?_⟩⟩
  ·simp only [c_L_sorts_0, EVS, Nat.reduceAdd, Nat.reduceSub, Nat.reduceLT, Nat.reduceLeDiff, Int.reduceLT, Int.reduceLE, Int.reduceNeg, Int.reducePow, Int.reduceToNat, ↓reduceIte, reduceCtorEq, List.map_cons, List.map_nil, Option.map_some, hix, hsl, c1, hin]
  ·simp only [e_L_sorts_1, EVS, Nat.reduceAdd, Nat.reduceSub, Nat.reduceLT, Nat.reduceLeDiff, Int.reduceLT, Int.reduceLE, Int.reduceNeg, Int.reducePow, Int.reduceToNat, ↓reduceIte, reduceCtorEq, List.map_cons, List.map_nil, Option.map_some]
 rw [← rngD_map, List.nil_append] at hc
 have hrg : -(2 ^ 62) ≤ (ps.length : Int) ∧ (ps.length : Int) < 2 ^ 62 := ⟨by omega, by omega⟩
 have hnn : Int.toNat (ps.length : Int) = ps.length := by omega
 simp only [EVS, Nat.reduceAdd, Nat.reduceSub, Nat.reduceLT, Nat.reduceLeDiff, Int.reduceLT, Int.reduceLE, Int.reduceNeg, Int.reducePow, Int.reduceToNat, ↓reduceIte, reduceCtorEq, List.map_cons, List.map_nil, Option.map_some, List.length_map, k_rng hrg, hnn, hc]
 generalize hX : ((List.range ps.length).filter fun k => !decide (vals ps k ∈ (List.range k).map (vals ps))).map (fun k : Nat => D.int (k : Nat)) = XS
 have hlen : XS.length = dN (vals ps) ps.length := by rw [← hX, List.length_map, dN_filter]
 have hk : kLen (some (.ref (S ++ G).length, S ++ G ++ [.lst XS])) = some (.int (dN (vals ps) ps.length), S ++ G ++ [.lst XS]) := by
  show (lenD (.ref (S ++ G).length) (S ++ G ++ [.lst XS])).map _ = _
  dsimp only [lenD]
  rw [List.getElem?_concat_length]
  dsimp only
  rw [← hlen]; rfl
 simp only [EVS, Nat.reduceAdd, Nat.reduceSub, Nat.reduceLT, Nat.reduceLeDiff, Int.reduceLT, Int.reduceLE, Int.reduceNeg, Int.reducePow, Int.reduceToNat, ↓reduceIte, reduceCtorEq, List.map_cons, List.map_nil, Option.map_some, hk]
 rw [List.append_assoc, trim_push _ _ (.int _) rfl]
theorem several_ev {ps : List (Mk × Str)} {S : Sto} (hl : ps.length ≤ 50) : F_has_several_sorts [.tup (ps.map encS)] S = some (.bl (decide ((1 : Int) < (dN (vals ps) ps.length : Nat))), S) := by
 unfold F_has_several_sorts
 have c1 : compGo (ps.map encS) .no [none] (gN 0) mTrue e_has_several_sorts_0 (ps.map encS) [] S = some ((ps.map (·.2)).map D.str, S) := by
  rw [comp_all ps encS (fun p => D.str p.2) gdOk_none (Nat.le_trans hl (by decide)) fun p hp => ⟨_, rfl, by simp only [e_has_several_sorts_0, EVS, Nat.reduceAdd, Nat.reduceSub, Nat.reduceLT, Nat.reduceLeDiff, Int.reduceLT, Int.reduceLE, Int.reduceNeg, Int.reducePow, Int.reduceToNat, ↓reduceIte, reduceCtorEq, List.map_cons, List.map_nil, Option.map_some, encS]⟩, List.map_map]
  rfl
 have h1 := lenSet_ev (a := mKeep (mComp (mIter (mVar 0)) 1 [] (gN 0) mTrue e_has_several_sorts_0)) (en := [some (.tup (ps.map encS))]) (S := S) (S1 := S ++ [.lst ((ps.map (·.2)).map D.str)]) (n := S.length) (ss := ps.map (·.2)) (by simp only [EVS, Nat.reduceAdd, Nat.reduceSub, Nat.reduceLT, Nat.reduceLeDiff, Int.reduceLT, Int.reduceLE, Int.reduceNeg, Int.reducePow, Int.reduceToNat, ↓reduceIte, reduceCtorEq, List.map_cons, List.map_nil, Option.map_some, c1]) (List.getElem?_concat_length ..) (by rw [List.length_map]; omega)
 rw [List.length_map] at h1
 simp only [EVS, Nat.reduceAdd, Nat.reduceSub, Nat.reduceLT, Nat.reduceLeDiff, Int.reduceLT, Int.reduceLE, Int.reduceNeg, Int.reducePow, Int.reduceToNat, ↓reduceIte, reduceCtorEq, List.map_cons, List.map_nil, Option.map_some, h1]
 rw [trim_push _ _ (.bl _) rfl]
 rfl
end K06
namespace K06
open PySem L2 DL
def mkG (a : D) (fx : Str) (ks : List Mk) (ns ts : List (Mk × Str)) : D := .tup [a, .str fx, .tup (ks.map enc), .tup (ns.map encS), .tup (ts.map encS)]
theorem tru_ps (ps : List (Mk × Str)) (S : Sto) : kTru (some (.tup (ps.map encS), S)) = some (!ps.isEmpty, S) := by cases ps <;> rfl
def qk (ns ts : List (Mk × Str)) : List Str := if ts.isEmpty then [] else (if (1 : Int) < (dN (vals ns) ns.length : Nat) then [Str.ofString "name"] else []) ++ (if (1 : Int) < (dN (vals ts) ts.length : Nat) then [Str.ofString "text"] else [])
theorem low_strs (n : Nat) (xs : List Str) : lowD n (.tup (xs.map D.str)) = true := by
 rw [lowD]
 induction xs with
 | nil => rw [List.map_nil, lowDs]
 | cons x xs ih =>
  rw [List.map_cons, lowDs, ih, Bool.and_true]
  unfold lowD
  rfl
theorem z01 : 0 < sizeLine ∧ 1 < sizeLine := by decide
section
variable {a : D} {fx : Str} {ks : List Mk} {ns ts : List (Mk × Str)} {S : Sto}
theorem gone_ev : F_is_gone [mkG a fx ks ns ts] S = some (.bl ts.isEmpty, S) := by
 unfold F_is_gone mkG
 simp only [EVS, Nat.reduceAdd, Nat.reduceSub, Nat.reduceLT, Nat.reduceLeDiff, Int.reduceLT, Int.reduceLE, Int.reduceNeg, Int.reducePow, Int.reduceToNat, ↓reduceIte, reduceCtorEq, List.map_cons, List.map_nil, Option.map_some, List.length_map]
 cases ts with
 | nil => rfl
 | cons t ts =>
  have : ¬ (((t :: ts).length : Nat) : Int) = 0 := by rw [List.length_cons]; omega
  rw [decide_eq_false this]; rfl
theorem quar_ev (hn : ns.length ≤ 50) (ht : ts.length ≤ 50) : F_quarrels_of [mkG a fx ks ns ts] S = some (.tup ((qk ns ts).map D.str), S) := by
 unfold F_quarrels_of
 have h0 : F_is_gone [mkG a fx ks ns ts] S = some (.bl ts.isEmpty, S) := gone_ev
 have h3 : ∀ S, gIx (mkG a fx ks ns ts) (.int 3) S = some (.tup (ns.map encS), S) := fun S => g_ix3
 have h4 : ∀ S, gIx (mkG a fx ks ns ts) (.int 4) S = some (.tup (ts.map encS), S) := fun S => g_ix4
 have s3 : ∀ S, F_has_several_sorts [.tup (ns.map encS)] S = some (.bl (decide ((1 : Int) < (dN (vals ns) ns.length : Nat))), S) := fun S => several_ev hn
 have s4 : ∀ S, F_has_several_sorts [.tup (ts.map encS)] S = some (.bl (decide ((1 : Int) < (dN (vals ts) ts.length : Nat))), S) := fun S => several_ev ht
 obtain ⟨z0, z1⟩ := z01
 unfold qk
 cases e : ts.isEmpty with
 | true =>
  rw [e] at h0
  simp only [EVS, Nat.reduceAdd, Nat.reduceSub, Nat.reduceLT, Nat.reduceLeDiff, Int.reduceLT, Int.reduceLE, Int.reduceNeg, Int.reducePow, Int.reduceToNat, ↓reduceIte, reduceCtorEq, List.map_cons, List.map_nil, Option.map_some, h0]
 | false =>
  rw [e] at h0
  by_cases p1 : (1 : Int) < (dN (vals ns) ns.length : Nat) <;> by_cases p2 : (1 : Int) < (dN (vals ts) ts.length : Nat)
  ·simp only [EVS, Nat.reduceAdd, Nat.reduceSub, Nat.reduceLT, Nat.reduceLeDiff, Int.reduceLT, Int.reduceLE, Int.reduceNeg, Int.reducePow, Int.reduceToNat, ↓reduceIte, reduceCtorEq, List.map_cons, List.map_nil, Option.map_some, h0, h3, h4, s3, s4, p1, p2, c_app2E, z0, z1, trim_push _ _ _ (low_strs _ [Str.ofString "name", Str.ofString "text"]), List.cons_append, List.nil_append]
   exact congrArg some (trim_push _ _ _ (low_strs _ [Str.ofString "name", Str.ofString "text"]))
  ·simp only [EVS, Nat.reduceAdd, Nat.reduceSub, Nat.reduceLT, Nat.reduceLeDiff, Int.reduceLT, Int.reduceLE, Int.reduceNeg, Int.reducePow, Int.reduceToNat, ↓reduceIte, reduceCtorEq, List.map_cons, List.map_nil, Option.map_some, h0, h3, h4, s3, s4, p1, p2, c_app2E, z0, z1, List.cons_append, List.nil_append]
   exact congrArg some (trim_push _ _ _ (low_strs _ [Str.ofString "name"]))
  ·simp only [EVS, Nat.reduceAdd, Nat.reduceSub, Nat.reduceLT, Nat.reduceLeDiff, Int.reduceLT, Int.reduceLE, Int.reduceNeg, Int.reducePow, Int.reduceToNat, ↓reduceIte, reduceCtorEq, List.map_cons, List.map_nil, Option.map_some, h0, h3, h4, s3, s4, p1, p2, c_app2E, z0, z1, List.cons_append, List.nil_append]
   exact congrArg some (trim_push _ _ _ (low_strs _ [Str.ofString "text"]))
  ·simp only [EVS, Nat.reduceAdd, Nat.reduceSub, Nat.reduceLT, Nat.reduceLeDiff, Int.reduceLT, Int.reduceLE, Int.reduceNeg, Int.reducePow, Int.reduceToNat, ↓reduceIte, reduceCtorEq, List.map_cons, List.map_nil, Option.map_some, h0, h3, h4, s3, s4, p1, p2, List.nil_append]
   exact congrArg some (trim_push _ _ _ (low_strs _ []))
theorem nameof_ev (hn : ns.length ≤ 50) : F_name_of [mkG a fx ks ns ts] S = some (.str (if ns.isEmpty then fx else minS (ns.map (·.2))), S) := by
 unfold F_name_of
 have h3 : ∀ S, gIx (mkG a fx ks ns ts) (.int 3) S = some (.tup (ns.map encS), S) := fun S => g_ix3
 have h1 : ∀ S, gIx (mkG a fx ks ns ts) (.int 1) S = some (.str fx, S) := fun S => g_ix1
 have c1 : compGo (ns.map encS) .no [none] (gN 0) mTrue e_name_of_0 (ns.map encS) [] S = some ((ns.map (·.2)).map D.str, S) := by
  rw [comp_all ns encS (fun p => D.str p.2) gdOk_none (Nat.le_trans hn (by decide)) fun p hp => ⟨_, rfl, by simp only [e_name_of_0, EVS, Nat.reduceAdd, Nat.reduceSub, Nat.reduceLT, Nat.reduceLeDiff, Int.reduceLT, Int.reduceLE, Int.reduceNeg, Int.reducePow, Int.reduceToNat, ↓reduceIte, reduceCtorEq, List.map_cons, List.map_nil, Option.map_some, encS]⟩, List.map_map]
  rfl
 have h := minD_ev (a := mKeep (mComp (mIter (mOp gIx (mVar 0) (mCon (D.int (3))))) 1 [] (gN 0) mTrue e_name_of_0)) (d := mOp gIx (mVar 0) (mCon (D.int (1)))) (en := [some (mkG a fx ks ns ts)]) (S := S) (S1 := S ++ [.lst ((ns.map (·.2)).map D.str)]) (S2 := S ++ [.lst ((ns.map (·.2)).map D.str)]) (n := S.length) (v := .str fx) (ss := ns.map (·.2)) (by simp only [EVS, Nat.reduceAdd, Nat.reduceSub, Nat.reduceLT, Nat.reduceLeDiff, Int.reduceLT, Int.reduceLE, Int.reduceNeg, Int.reducePow, Int.reduceToNat, ↓reduceIte, reduceCtorEq, List.map_cons, List.map_nil, Option.map_some, h3, c1]) (by simp only [EVS, Nat.reduceAdd, Nat.reduceSub, Nat.reduceLT, Nat.reduceLeDiff, Int.reduceLT, Int.reduceLE, Int.reduceNeg, Int.reducePow, Int.reduceToNat, ↓reduceIte, reduceCtorEq, List.map_cons, List.map_nil, Option.map_some, h1]) (List.getElem?_concat_length ..)
 simp only [EVS, Nat.reduceAdd, Nat.reduceSub, Nat.reduceLT, Nat.reduceLeDiff, Int.reduceLT, Int.reduceLE, Int.reduceNeg, Int.reducePow, Int.reduceToNat, ↓reduceIte, reduceCtorEq, List.map_cons, List.map_nil, Option.map_some, h]
 cases ns with
 | nil => exact congrArg some (trim_push _ _ _ rfl)
 | cons n ns => exact congrArg some (trim_push _ _ _ rfl)
theorem told_ev (hn : ns.length ≤ 50) (ht : ts.length ≤ 50) : F_L_is_told [mkG a fx ks ns ts] S = some (.bl true, S) := by
 unfold F_L_is_told
 have h1 : ∀ S, gIx (mkG a fx ks ns ts) (.int 1) S = some (.str fx, S) := fun S => g_ix1
 have h3 : ∀ S, gIx (mkG a fx ks ns ts) (.int 3) S = some (.tup (ns.map encS), S) := fun S => g_ix3
 have h4 : ∀ S, gIx (mkG a fx ks ns ts) (.int 4) S = some (.tup (ts.map encS), S) := fun S => g_ix4
 have s3 : ∀ S, F_L_sorts [.tup (ns.map encS)] S = some (.int (dN (vals ns) ns.length : Nat), S) := fun S => sorts_ev hn
 have s4 : ∀ S, F_L_sorts [.tup (ts.map encS)] S = some (.int (dN (vals ts) ts.length : Nat), S) := fun S => sorts_ev ht
 have q : ∀ S, F_quarrels_of [mkG a fx ks ns ts] S = some (.tup ((qk ns ts).map D.str), S) := fun S => quar_ev hn ht
 have nm : ∀ S, F_name_of [mkG a fx ks ns ts] S = some (.str (if ns.isEmpty then fx else minS (ns.map (·.2))), S) := fun S => nameof_ev hn
 have hq10 : (qk ns ts).length ≤ 10 := by
  unfold qk
  split
  ·exact Nat.zero_le _
  ·rw [List.length_append]
   split <;> split <;> simp
 have same1 : ∀ S, F_L_same 12 [.tup ((qk ns ts).map D.str), .tup ((qk ns ts).map D.str)] S = some (.bl true, S) := fun S => same_t 10 _ S hq10
 have same2 : ∀ x S, F_L_same 12 [.str x, .str x] S = some (.bl true, S) := fun x S => same_s 11 x S
 have tp : ∀ (b : Bool) (G : Sto), trim S (.bl b, S ++ G) = (.bl b, S) := fun b G => trim_push _ _ (.bl _) rfl
 have g1 : ∀ (x : D) (S : Sto), gAdd (.tup []) (.tup [x]) S = some (.tup [x], S) := fun x S => g_addT (show 0 + 1 ≤ sizeLine by decide)
 have g2 : ∀ (x y : D) (S : Sto), gAdd (.tup [x]) (.tup [y]) S = some (.tup [x, y], S) := fun x y S => g_addT (show 1 + 1 ≤ sizeLine by decide)
 cases hns : ns with
 | nil =>
  subst hns
  have p1 : ¬ (1 : Int) < (dN (vals []) ([] : List (Mk × Str)).length : Nat) := by show ¬ (1 : Int) < (0 : Nat); decide
  have tn : ∀ S, kTru (some (.tup [], S)) = some (false, S) := fun S => rfl
  rw [List.map_nil] at h3 s3
  cases e : ts.isEmpty <;> by_cases p2 : (1 : Int) < (dN (vals ts) ts.length : Nat) <;>
   (simp only [qk, e, p1, p2, if_true, if_false, Bool.false_eq_true, List.map_cons, List.map_nil, List.nil_append, List.cons_append, List.map_append, List.isEmpty_nil] at q same1 nm <;>
   simp only [EVS, Nat.reduceAdd, Nat.reduceSub, Nat.reduceLT, Nat.reduceLeDiff, Int.reduceLT, Int.reduceLE, Int.reduceNeg, Int.reducePow, Int.reduceToNat, ↓reduceIte, reduceCtorEq, List.map_cons, List.map_nil, Option.map_some, h1, h3, h4, s3, s4, q, nm, same1, same2, tru_ps, tn, e, p1, p2, tp, g1, g2])
 | cons n0 nr =>
  have hne : ns.map (·.2) ≠ [] := by rw [hns]; simp
  obtain ⟨r, hr⟩ := sort_head hne
  have hso : sortOk ((ns.map (·.2)).map D.str) = true := sortOk_str _ (by rw [List.length_map]; omega)
  have c2 : ∀ S, compGo (ns.map encS) .no [none, none] (gT 2 (gsCons (gN 0) (gsCons (gN 1) gsNil))) mTrue e_L_is_told_0 (ns.map encS) [] S = some ((ns.map (·.2)).map D.str, S) := fun S => by
   rw [comp_all ns encS (fun p => D.str p.2) gdOk_none (Nat.le_trans hn (by decide)) fun p hp => ⟨_, rfl, by simp only [e_L_is_told_0, EVS, Nat.reduceAdd, Nat.reduceSub, Nat.reduceLT, Nat.reduceLeDiff, Int.reduceLT, Int.reduceLE, Int.reduceNeg, Int.reducePow, Int.reduceToNat, ↓reduceIte, reduceCtorEq, List.map_cons, List.map_nil, Option.map_some]⟩, List.map_map]
   rfl
  have hix : gIx (.ref S.length) (.int 0) (S ++ [.lst (.str (minS (ns.map (·.2))) :: r)]) = some (.str (minS (ns.map (·.2))), S ++ [.lst (.str (minS (ns.map (·.2))) :: r)]) := by
   show (match (S ++ [Ob.lst (.str (minS (ns.map (·.2))) :: r)])[S.length]? with | some (Ob.lst xs) => _ | _ => _) = _
   rw [List.getElem?_concat_length]
   dsimp only
   have ha : atI (D.str (minS (ns.map (·.2))) :: r) 0 = some (D.str (minS (ns.map (·.2)))) := atI_nat rfl
   rw [ha]
   rfl
  have hemp : ns.isEmpty = false := by rw [hns]; rfl
  rw [← hns]
  cases e : ts.isEmpty <;> by_cases p1 : (1 : Int) < (dN (vals ns) ns.length : Nat) <;> by_cases p2 : (1 : Int) < (dN (vals ts) ts.length : Nat) <;>
   (simp only [qk, e, p1, p2, hemp, if_true, if_false, Bool.false_eq_true, List.map_cons, List.map_nil, List.nil_append, List.cons_append, List.map_append] at q same1 nm <;>
   simp only [EVS, Nat.reduceAdd, Nat.reduceSub, Nat.reduceLT, Nat.reduceLeDiff, Int.reduceLT, Int.reduceLE, Int.reduceNeg, Int.reducePow, Int.reduceToNat, ↓reduceIte, reduceCtorEq, List.map_cons, List.map_nil, Option.map_some, h1, h3, h4, s3, s4, q, nm, same1, same2, tru_ps, hemp, e, p1, p2, tp, g1, g2, c2, c_srt hso, hr, hix])
end
end K06
namespace K06
open PySem L2 DL
section
variable {a b c d e x y : D} {S : Sto}
theorem s5_2 : slD (.tup [a, b, c, d, e]) none (some 2) S = some (.tup [a, b], S) := rfl
theorem s5_3 : slD (.tup [a, b, c, d, e]) none (some 3) S = some (.tup [a, b, c], S) := rfl
theorem s5_4 : slD (.tup [a, b, c, d, e]) none (some 4) S = some (.tup [a, b, c, d], S) := rfl
theorem s5_f3 : slD (.tup [a, b, c, d, e]) (some 3) none S = some (.tup [d, e], S) := rfl
theorem s5_f4 : slD (.tup [a, b, c, d, e]) (some 4) none S = some (.tup [e], S) := rfl
theorem s5_f4' : slD (.tup [a, b, c, d, e]) (some (3 + 1)) none S = some (.tup [e], S) := rfl
theorem s5_f5' : slD (.tup [a, b, c, d, e]) (some (4 + 1)) none S = some (.tup [], S) := rfl
theorem a21 : gAdd (.tup [a, b]) (.tup [x]) S = some (.tup [a, b, x], S) := g_addT (show 2 + 1 ≤ sizeLine by decide)
theorem a31 : gAdd (.tup [a, b, c]) (.tup [x]) S = some (.tup [a, b, c, x], S) := g_addT (show 3 + 1 ≤ sizeLine by decide)
theorem a32 : gAdd (.tup [a, b, c]) (.tup [x, y]) S = some (.tup [a, b, c, x, y], S) := g_addT (show 3 + 2 ≤ sizeLine by decide)
theorem a41 : gAdd (.tup [a, b, c, d]) (.tup [x]) S = some (.tup [a, b, c, d, x], S) := g_addT (show 4 + 1 ≤ sizeLine by decide)
theorem a50 : gAdd (.tup [a, b, c, d, e]) (.tup []) S = some (.tup [a, b, c, d, e], S) := g_addT (show 5 + 0 ≤ sizeLine by decide)
end
def decS : D → Mk × Str
 | .tup [m, .str x] => (dec m, x)
 | _ => ((0, 0), default)
theorem cmpAll_encS (l : List (Mk × Str)) : cmpAll 30 (l.map encS) := by
 refine ⟨fun a ha => ?_, fun a ha b hb => ?_⟩
 ·obtain ⟨p, _, rfl⟩ := List.mem_map.mp ha; rfl
 ·obtain ⟨p, _, rfl⟩ := List.mem_map.mp ha
  obtain ⟨q, _, rfl⟩ := List.mem_map.mp hb
  rfl
theorem sortOk_encS (l : List (Mk × Str)) (h : l.length < 64) : sortOk (l.map encS) = true := by
 obtain ⟨h1, h2⟩ := cmpAll_encS l
 have a : skOk (l.map encS) = true := by
  unfold skOk
  rw [List.any_eq_true]
  refine ⟨4, by simp, ?_⟩
  rw [List.all_map, List.all_eq_true]
  intro p _
  rfl
 have b : cmpB (l.map encS) = true := by
  unfold cmpB
  rw [Bool.and_eq_true, List.all_eq_true, List.all_eq_true]
  exact ⟨h1, fun x hx => List.all_eq_true.mpr (h2 x hx)⟩
 unfold sortOk
 rw [a, b, List.length_map, decide_eq_true h]
 simp
theorem sort_encS (l : List (Mk × Str)) : ∃ l' : List (Mk × Str), sortD (l.map encS) = l'.map encS ∧ l'.length = l.length := by
 have hp := sort_perm (l.map encS)
 refine ⟨(sortD (l.map encS)).map decS, ?_, ?_⟩
 ·rw [List.map_map]
  conv => lhs; rw [← List.map_id (sortD (l.map encS))]
  refine List.map_congr_left fun e he => ?_
  obtain ⟨p, _, rfl⟩ := List.mem_map.mp (hp.mem_iff.mp he)
  rfl
 ·rw [List.length_map, hp.length_eq, List.length_map]
theorem slLast {ds : List D} {d : D} {S : Sto} : slD (.tup (ds ++ [d])) none (some (-1)) S = some (.tup ds, S) := by
 dsimp only [slD]
 have e : cutD (ds ++ [d]) none (some (-1)) = ds := by
  unfold cutD
  rw [HT.sIx_none, List.drop_zero]
  have : HT.sIx (ds ++ [d]).length (ds ++ [d]).length (some (-1)) = ds.length := by
   show (if (-1 : Int) < 0 then ((-1 : Int) + ((ds ++ [d]).length : Nat)).toNat else min (-1 : Int).toNat (ds ++ [d]).length) = _
   rw [if_pos (by decide), List.length_append]
   simp
   omega
  rw [this, Nat.sub_zero]
  exact List.take_left' rfl
 rw [e]
section
variable {a : D} {fx : Str} {ks : List Mk} {ns ts : List (Mk × Str)}
theorem more_ev (hk : 0 < ks.length) (hk2 : ks.length ≤ 20) (hn : ns.length ≤ 40) (ht : ts.length ≤ 40) (x : Str) :
  (∃ ks' ns', ks'.length = ks.length ∧ ns'.length = ns.length + 1 ∧ ∀ S, F_L_more [mkG a fx ks ns ts, .int 3, .str x] S = some (mkG a fx ks' ns' ts, S)) ∧
  ∃ ks' ts', ks'.length = ks.length ∧ ts'.length = ts.length + 1 ∧ ∀ S, F_L_more [mkG a fx ks ns ts, .int 4, .str x] S = some (mkG a fx ks' ns ts', S) := by
 obtain ⟨K0, l, eK⟩ : ∃ K0 l, ks = K0 ++ [l] := by
  rcases List.eq_nil_or_concat ks with q | ⟨K0, l, q⟩
  ·rw [q] at hk; cases hk
  ·exact ⟨K0, l, by rw [q, List.concat_eq_append]⟩
 have hz : 100 ≤ sizeLine := by decide
 have hlast : ∀ S, gIx (.tup (ks.map enc)) (.int (-1)) S = some (.tup [.int l.1, .int l.2], S) := fun S => by
  rw [eK, List.map_append]
  exact ixLast
 have hinit : ∀ S, slD (.tup (ks.map enc)) none (some (-1)) S = some (.tup (K0.map enc), S) := fun S => by
  rw [eK, List.map_append]
  exact slLast
 have lK : K0.length + 1 = ks.length := by rw [eK, List.length_append]; rfl
 have gK : ∀ S, gAdd (.tup (K0.map enc)) (.tup [.tup [.int l.1, .int (l.2 + 1)]]) S = some (.tup ((K0 ++ [(l.1, l.2 + 1)]).map enc), S) := fun S => by
  rw [g_addT (by rw [List.length_map]; show _ + 1 ≤ _; omega), List.map_append]
  rfl
 have key : ∀ ps : List (Mk × Str), ps.length ≤ 40 → ∃ ps' : List (Mk × Str), ps'.length = ps.length + 1 ∧ (∀ S, gAdd (.tup (ps.map encS)) (.tup [.tup [.tup [.int l.1, .int (l.2 + 1)], .str x]]) S = some (.tup ((ps ++ [((l.1, l.2 + 1), x)]).map encS), S)) ∧ ∀ S, kSrtV (some (.tup ((ps ++ [((l.1, l.2 + 1), x)]).map encS), S)) = some (ps'.map encS, S) := fun ps hp => by
  obtain ⟨ps', p1, p2⟩ := sort_encS (ps ++ [((l.1, l.2 + 1), x)])
  refine ⟨ps', by rw [p2, List.length_append]; rfl, fun S => ?_, fun S => ?_⟩
  ·rw [g_addT (by rw [List.length_map]; show _ + 1 ≤ _; omega), List.map_append]
   rfl
  ·rw [c_srtV (ds := (ps ++ [((l.1, l.2 + 1), x)]).map encS) rfl (sortOk_encS _ (by rw [List.length_append]; show _ + 1 < _; omega)), p1]
 have lK' : (K0 ++ [(l.1, l.2 + 1)]).length = ks.length := by rw [List.length_append, ← lK]; rfl
 constructor
 ·obtain ⟨ns', n1, n2, n3⟩ := key ns hn
  refine ⟨K0 ++ [(l.1, l.2 + 1)], ns', lK', n1, fun S => ?_⟩
  unfold F_L_more mkG
  simp only [EVS, Nat.reduceAdd, Nat.reduceSub, Nat.reduceLT, Nat.reduceLeDiff, Int.reduceLT, Int.reduceLE, Int.reduceNeg, Int.reducePow, Int.reduceToNat, ↓reduceIte, reduceCtorEq, List.map_cons, List.map_nil, Option.map_some, hlast, hinit, gK, s5_2, s5_f3, a21, a32, n2, n3, s5_3, s5_f4', a31, a41]
 ·obtain ⟨ts', t1, t2, t3⟩ := key ts ht
  refine ⟨K0 ++ [(l.1, l.2 + 1)], ts', lK', t1, fun S => ?_⟩
  unfold F_L_more mkG
  simp only [EVS, Nat.reduceAdd, Nat.reduceSub, Nat.reduceLT, Nat.reduceLeDiff, Int.reduceLT, Int.reduceLE, Int.reduceNeg, Int.reducePow, Int.reduceToNat, ↓reduceIte, reduceCtorEq, List.map_cons, List.map_nil, Option.map_some, hlast, hinit, gK, s5_2, s5_f3, a21, a32, t2, t3, s5_4, s5_f5', a41, a50]
end
end K06
namespace K06
open PySem L2 DL
theorem z58 : (5 < sizeLine ∧ 6 < sizeLine) ∧ (7 < sizeLine ∧ 8 < sizeLine) ∧ 9 ≤ sizeLine := by decide
def Sh (ns : List Int) (en : En) : Prop := ∃ x1 x2 x3 x4 x5 x6, en = [some (.scr ns), x1, x2, x3, x4, x5, x6]
theorem turn (ns : List Int) (k : Nat) {en : En} {S : Sto} (he : Sh ns en) : ∃ en' S', b_law_0 (en.set 1 (some (.int (k : Nat)))) S = some (.nx, en', S') ∧ Sh ns en' := by
 obtain ⟨x1, x2, x3, x4, x5, x6, rfl⟩ := he
 obtain ⟨c, hc⟩ := cell_ev ns k
 obtain ⟨c2, hc2⟩ := cell_ev ns (k + 1)
 have hc2' : ∀ S, F_L_cell [.scr ns, .int ((k : Int) + 1)] S = some (.int c2, S) := fun S => hc2 S
 obtain ⟨w, n, hw, hn, hwh⟩ := which_ev (c + 1)
 obtain ⟨x, hx1, hx2, hx⟩ := name_of (c + 2)
 obtain ⟨y, hy1, hy2, hy⟩ := name_of (c + 4)
 obtain ⟨t, ht1, ht2, ht⟩ := text_of (c + 5)
 obtain ⟨f, ps, ts, hf, hfw, hG, hfile⟩ := file_of c w n x c2 S hw hn ⟨hx1, hx2⟩
 have k0 := hG.hk0
 have k6 := hG.hk6
 have pl := hG.hn.1
 have tl := hG.ht.1
 generalize hks : kn f (List.range 6) = ks at *
 generalize hen : enc ((w : Int), n) = a
 have hfile' : F_L_file [.int c, .tup [.int (w : Int), .int n], .str x, .int c2] S = some (mkG a x ks ps ts, S) := by rw [hfile, ← hen]; rfl
 obtain ⟨⟨k3, n3, k31, n31, m3⟩, ⟨k4, t4, k41, t41, m4⟩⟩ := more_ev (a := a) (fx := x) (ks := ks) (ns := ps) (ts := ts) k0 (by omega) (by omega) (by omega) y
 obtain ⟨_, ⟨k5, t5, k51, t51, m5⟩⟩ := more_ev (a := a) (fx := x) (ks := ks) (ns := ps) (ts := ts) k0 (by omega) (by omega) (by omega) t
 obtain ⟨_, ⟨k6', t6, k61, t61, m6⟩⟩ := more_ev (a := a) (fx := x) (ks := k5) (ns := ps) (ts := t5) (by omega) (by omega) (by omega) (by omega) t
 obtain ⟨⟨k7, n7, k71, n71, m7⟩, _⟩ := more_ev (a := a) (fx := x) (ks := k3) (ns := n3) (ts := ts) (by omega) (by omega) (by omega) (by omega) y
 obtain ⟨_, ⟨k8, t8, k81, t81, m8⟩⟩ := more_ev (a := a) (fx := x) (ks := k3) (ns := n3) (ts := ts) (by omega) (by omega) (by omega) (by omega) t
 obtain ⟨_, ⟨k9, t9, k91, t91, m9⟩⟩ := more_ev (a := a) (fx := x) (ks := k4) (ns := ps) (ts := t4) (by omega) (by omega) (by omega) (by omega) (y ++ Str.ofString "a")
 have gy : ∀ S, gAdd (.str y) (.str (Str.ofString "a")) S = some (.str (y ++ Str.ofString "a"), S) := fun S => g_addS (by
  rw [len_cs, len_cs]
  have h1 : (cs (Str.ofString "a")).length = 1 := by decide +kernel
  rw [h1]
  exact Nat.le_trans (show _ ≤ 100 by omega) (by decide))
 have u1 : ∀ S, slD (mkG a x ks ps ts) none (some 4) S = some (.tup [a, .str x, .tup (ks.map enc), .tup (ps.map encS)], S) := fun S => s5_4
 have u2 : ∀ S, slD (mkG a x ks ps ts) none (some 3) S = some (.tup [a, .str x, .tup (ks.map enc)], S) := fun S => s5_3
 have u3 : ∀ S, slD (mkG a x ks ps ts) (some 4) none S = some (.tup [.tup (ts.map encS)], S) := fun S => s5_f4
 obtain ⟨⟨z5, z6⟩, ⟨z7, z8⟩, z9⟩ := z58
 have e1 : D.tup [a, .str x, .tup (ks.map enc), .tup (ps.map encS), .tup []] = mkG a x ks ps [] := rfl
 have e2 : D.tup [a, .str x, .tup (ks.map enc), .tup [], .tup (ts.map encS)] = mkG a x ks [] ts := rfl
 let L9 : List D := [mkG a x ks ps ts, mkG a x ks ps [], mkG a x ks [] ts, mkG a x k3 n3 ts, mkG a x k5 ps t5, mkG a x k6' ps t6, mkG a x k7 n7 ts, mkG a x k8 n3 t8, mkG a x k9 ps t9]
 have told : ∀ d ∈ L9, ∀ S, F_L_is_told [d] S = some (.bl true, S) := fun d hd S => by
  simp only [L9, List.mem_cons, List.not_mem_nil, or_false] at hd
  rcases hd with q | q | q | q | q | q | q | q | q <;> rw [q] <;> exact told_ev (by first | omega | (rw [List.length_nil]; omega)) (by first | omega | (rw [List.length_nil]; omega))
 have c9 : ∀ n S, S[n]? = some (.lst L9) → compGo L9 (.lst n) [none] (gN 0) mTrue e_law_0 L9 [] S = some ((L9.map fun _ => true).map D.bl, S) := fun n S hS => by
  have := comp_all (ds0 := L9) (gd := .lst n) (cap := [none]) (g := gN 0) (m := e_law_0) (S := S) L9 id (fun _ => D.bl true) hS z9 fun d hd => ⟨_, rfl, by simp only [e_law_0, EVS, Nat.reduceAdd, Nat.reduceSub, Nat.reduceLT, Nat.reduceLeDiff, Int.reduceLT, Int.reduceLE, Int.reduceNeg, Int.reducePow, Int.reduceToNat, ↓reduceIte, reduceCtorEq, List.map_cons, List.map_nil, Option.map_some, id, told d hd]⟩
  rw [List.map_id] at this
  rw [this, List.map_map]
  rfl
 have a9 : ((L9.map fun _ => true).all id) = true := by simp
 have hit : (S ++ [Ob.lst L9])[S.length]? = some (.lst L9) := List.getElem?_concat_length ..
 have c10 := c9 S.length (S ++ [Ob.lst L9]) hit
 have hit2 := iterL hit
 generalize hL9 : L9 = LL at *
 have hL : [mkG a x ks ps ts, mkG a x ks ps [], mkG a x ks [] ts, mkG a x k3 n3 ts, mkG a x k5 ps t5, mkG a x k6' ps t6, mkG a x k7 n7 ts, mkG a x k8 n3 t8, mkG a x k9 ps t9] = LL := hL9
 refine ⟨[some (.scr ns), some (.int (k : Nat)), some (.int c), some (mkG a x ks ps ts), some (.str y), some (.str t), some (.ref S.length)], S ++ [Ob.lst LL], ?_, _, _, _, _, _, _, rfl⟩
 simp only [b_law_0, EVS, Nat.reduceAdd, Nat.reduceSub, Nat.reduceLT, Nat.reduceLeDiff, Int.reduceLT, Int.reduceLE, Int.reduceNeg, Int.reducePow, Int.reduceToNat, ↓reduceIte, reduceCtorEq, List.map_cons, List.map_nil, Option.map_some, hc, hwh, hx, hc2', hfile', hy, ht, u1, u2, u3, a41, a31, e1, e2, m3, m5, c_app2E, z5, z6, z7, z8, m6, m7, m8, m4, gy, m9, hL, hit2, c10, k_all, a9]
theorem law_true (ns : List Int) (_ : ns.length ≤ 63) : ∃ S', F_law [.scr ns] [] = some (.bl true, S') := by
 unfold F_law
 have h0 : Sh ns [some (.scr ns), none, none, none, none, none, none] := ⟨_, _, _, _, _, _, rfl⟩
 obtain ⟨en', S', e, _⟩ := forGo_typ (g := gN 1) (ds0 := rngD 0 4) (gd := .no) (body := b_law_0) (List.range 4) (fun k => D.int (k : Nat)) (fun _ en _ => Sh ns en)
  (fun _ k _ en S _ hP => ⟨_, rfl, turn ns k hP⟩) (fun _ _ _ _ => trivial) (S := []) h0
 rw [← rngD_map] at e
 have h3 : Int.toNat 4 = 4 := rfl
 simp only [EVS, Nat.reduceAdd, Nat.reduceSub, Nat.reduceLT, Nat.reduceLeDiff, Int.reduceLT, Int.reduceLE, Int.reduceNeg, Int.reducePow, Int.reduceToNat, ↓reduceIte, reduceCtorEq, List.map_cons, List.map_nil, Option.map_some, k_rng (show -(2 ^ 62) ≤ (4 : Int) ∧ (4 : Int) < 2 ^ 62 by decide), h3, e]
 exact ⟨_, rfl⟩
end K06
open PySem PySem.W PyProof.Rows
set_option maxRecDepth 100000 in
set_option maxHeartbeats 0 in
theorem PySem.Challenge.cw_twinshelves_k06_names_and_quarrels_holds : PySem.Challenge.rw_twinshelves_k06_names_and_quarrels.Holds := by
 w_on; o_law; k_head; (case hw => w_witness2)
 k_fill
 refine DL.walk_d (l := PySem.Challenge.rw_twinshelves_k06_names_and_quarrels) (F := K06.F_law) (k := 15) (x := "_law_script") rfl rfl ⟨rfl, by decide, by decide⟩ (fun w h Y => PySem.W.kIn_of Y) ?F K06.law_true
 case F =>
  intro w mg fa h KX G hmg
  refine' K06.all_mk KX G hmg ?a0 ?l0 ?c0 ?k0 ?a1 ?l1 ?c1 ?k1 ?a2 ?l2 ?c2 ?k2 ?a3 ?l3 ?c3 ?k3 ?a4 ?l4 ?c4 ?k4 ?a5 ?l5 ?c5 ?k5 ?a6 ?l6 ?c6 ?k6 ?a7 ?l7 ?c7 ?k7 ?a8 ?l8 ?c8 ?k8 ?a9 ?l9 ?c9 ?k9 ?a10 ?l10 ?c10 ?k10 ?a11 ?l11 ?c11 ?k11 ?a12 ?l12 ?c12 ?k12 ?a13 ?l13 ?c13 ?k13 ?a14 ?l14 ?c14 ?k14 ?a15 ?l15 ?c15 ?k15 ?a16 ?l16 ?c16 ?k16 ?z_all ?z_bool ?z_int ?z_isinstance ?z_len ?z_min ?z_range ?z_set ?z_sorted ?z_str ?z_tuple ?z_zip
  (case a0 => k_is)
  (case l0 => k_is)
  (case c0 => k_is)
  (case k0 => k_is)
  (case a1 => k_is)
  (case l1 => k_is)
  (case c1 => k_is)
  (case k1 => k_is)
  (case a2 => k_is)
  (case l2 => k_is)
  (case c2 => k_is)
  (case k2 => k_is)
  (case a3 => k_is)
  (case l3 => k_is)
  (case c3 => k_is)
  (case k3 => k_is)
  (case a4 => k_is)
  (case l4 => k_is)
  (case c4 => k_is)
  (case k4 => k_is)
  (case a5 => k_is)
  (case l5 => k_is)
  (case c5 => k_is)
  (case k5 => k_is)
  (case a6 => k_is)
  (case l6 => k_is)
  (case c6 => k_is)
  (case k6 => k_is)
  (case a7 => k_is)
  (case l7 => k_is)
  (case c7 => k_is)
  (case k7 => k_is)
  (case a8 => k_is)
  (case l8 => k_is)
  (case c8 => k_is)
  (case k8 => k_is)
  (case a9 => k_is)
  (case l9 => k_is)
  (case c9 => k_is)
  (case k9 => k_is)
  (case a10 => k_is)
  (case l10 => k_is)
  (case c10 => k_is)
  (case k10 => k_is)
  (case a11 => k_is)
  (case l11 => k_is)
  (case c11 => k_is)
  (case k11 => k_is)
  (case a12 => k_is)
  (case l12 => k_is)
  (case c12 => k_is)
  (case k12 => k_is)
  (case a13 => k_is)
  (case l13 => k_is)
  (case c13 => k_is)
  (case k13 => k_is)
  (case a14 => k_is)
  (case l14 => k_is)
  (case c14 => k_is)
  (case k14 => k_is)
  (case a15 => k_is)
  (case l15 => k_is)
  (case c15 => k_is)
  (case k15 => k_is)
  (case a16 => k_is)
  (case l16 => k_is)
  (case c16 => k_is)
  (case k16 => k_is)
  (case z_all => k_is)
  (case z_bool => k_is)
  (case z_int => k_is)
  (case z_isinstance => k_is)
  (case z_len => k_is)
  (case z_min => k_is)
  (case z_range => k_is)
  (case z_set => k_is)
  (case z_sorted => k_is)
  (case z_str => k_is)
  (case z_tuple => k_is)
  (case z_zip => k_is)
