import PyProof.Rows.All
import Wide.All
import OpenK.AllK
import Wide.FinOn
import Lean
import PyProof.EqAt
import PyProof.EqKinds
import PyProof.TupleCall
import PySem.Challenge.RW_nestwright_k24_leaves
set_option Elab.async false
set_option linter.all false
set_option maxRecDepth 100000
/-! THE HAND LAYER, for ints, bools, texts, own classes, LISTS and tuples (index, slices, in, append, pop ..), calls, loops. Paste it whole ahead of your own text; what your proof does not reach may be deleted. -/
namespace L2
open PySem PySem.Spec PyProof.Rows

/-- a key: an int or a str -/
abbrev Key := Sum Int Str
def keyIs : Key → Value → Bool
  | .inl k, v => Value.isInt k v
  | .inr x, v => Value.isStrOf x v
def keyH (w : World) : Key → Int
  | .inl k => hashInt k
  | .inr x => hashStr w x
theorem keyIs_shape : ∀ {k : Key} {v : Value}, keyIs k v = true → (∃ i t, k = Sum.inl i ∧ v = Value.int i t) ∨ (∃ x t, k = Sum.inr x ∧ v = Value.str x t)
  | .inl i, v, h => by
    obtain ⟨t, e⟩ := Value.isInt_shape (k := i) (v := v) h
    exact .inl ⟨i, t, rfl, e⟩
  | .inr x, v, h => by
    obtain ⟨t, e⟩ := Value.isStrOf_shape (x := x) (v := v) h
    exact .inr ⟨x, t, rfl, e⟩
theorem key_ll (a b : Int) : decide ((Sum.inl a : Key) = Sum.inl b) = (a == b) := by
  by_cases e : a = b
  · subst e; simp
  · have h : ¬ (Sum.inl a : Key) = Sum.inl b := fun q => e (Sum.inl.inj q)
    rw [decide_eq_false h]
    exact (beq_eq_false_iff_ne.mpr e).symm
theorem key_rr (a b : Str) : decide ((Sum.inr a : Key) = Sum.inr b) = decide (a = b) := by
  by_cases e : a = b
  · subst e; simp
  · have h : ¬ (Sum.inr a : Key) = Sum.inr b := fun q => e (Sum.inr.inj q)
    rw [decide_eq_false h, decide_eq_false e]
theorem key_lr (a : Int) (b : Str) : decide ((Sum.inl a : Key) = Sum.inr b) = false := decide_eq_false (fun q => nomatch q)
theorem key_rl (a : Str) (b : Int) : decide ((Sum.inr a : Key) = Sum.inl b) = false := decide_eq_false (fun q => nomatch q)

def mixKind (prog : Program) (w : World) : PySem.KeyKind prog w Key where
  is := keyIs
  hash := keyH w
  inj := fun v a b ha hb => by
    rcases keyIs_shape ha with ⟨i, t, rfl, rfl⟩ | ⟨x, t, rfl, rfl⟩
    · rcases keyIs_shape hb with ⟨j, u, rfl, e⟩ | ⟨y, u, rfl, e⟩
      · injection e with e1 _; rw [e1]
      · exact nomatch e
    · rcases keyIs_shape hb with ⟨j, u, rfl, e⟩ | ⟨y, u, rfl, e⟩
      · exact nomatch e
      · injection e with e1 _; rw [e1]
  byValue := fun k v h => by
    rcases keyIs_shape h with ⟨i, t, rfl, rfl⟩ | ⟨x, t, rfl, rfl⟩ <;> rfl
  pyHash := fun hv h => by
    rcases keyIs_shape hv with ⟨i, t, rfl, rfl⟩ | ⟨x, t, rfl, rfl⟩
    · exact wpAny_pyHash_int h
    · exact wpAny_pyHash_str h
  eqBool := fun hu hv h => by
    rcases keyIs_shape hu with ⟨i, t, rfl, rfl⟩ | ⟨x, t, rfl, rfl⟩
    · rcases keyIs_shape hv with ⟨j, u, rfl, rfl⟩ | ⟨y, u, rfl, rfl⟩
      · rw [key_ll] at h; exact wpAny_eqBool_int h
      · rw [key_lr] at h; exact SeqAt.EqAt.int_str i t y u _ _ _ _ h
    · rcases keyIs_shape hv with ⟨j, u, rfl, rfl⟩ | ⟨y, u, rfl, rfl⟩
      · rw [key_rl] at h; exact SeqAt.EqAt.str_int x t j u _ _ _ _ h
      · rw [key_rr] at h; exact wpAny_eqBool_str h
  «strs» := fun k x t v h => by
    rcases keyIs_shape h with ⟨i, u, rfl, e⟩ | ⟨y, u, rfl, e⟩
    · exact nomatch e
    · injection e with e1 _
      subst e1
      cases v <;> rfl

end L2

namespace L2
open PySem PySem.Spec PyProof.Rows

/-- a value, without the heap -/
inductive V where
  | non | bl (b : Bool) | int (i : Int) | str (x : Str) | byt (b : Array UInt8) | flt (b : UInt64) | ref (a : Addr) | ty (n : String)
  deriving DecidableEq

def RelV : V → Value → Prop
  | .non, u => u = Value.none
  | .bl b, u => u = Value.bool b
  | .int i, u => ∃ t, u = Value.int i t
  | .str x, u => ∃ t, u = Value.str x t
  | .byt b, u => ∃ t, u = Value.bytes b t
  | .flt b, u => ∃ t, u = Value.float b t
  | .ref a, u => u = Value.ref a
  | .ty n, u => u = Value.type n

abbrev Vals : List V → List Value → Prop := Paired RelV
theorem Vals.length {xs : List V} {us : List Value} (r : Vals xs us) : xs.length = us.length := Paired.length r
theorem Vals.get : ∀ {xs : List V} {us : List Value} {i : Nat} {x : V}, Vals xs us → xs[i]? = some x → ∃ u, us[i]? = some u ∧ RelV x u
  | _, _, _, _, .nil, e => by simp at e
  | _, _, 0, _, .cons r _, e => by simp at e; subst e; exact ⟨_, rfl, r⟩
  | _, _, i + 1, x, .cons _ t, e => by
    obtain ⟨u, h1, h2⟩ := Vals.get (i := i) (x := x) t (by simpa using e)
    exact ⟨u, by simpa using h1, h2⟩
theorem Vals.set {x : V} {u : Value} (r : RelV x u) : ∀ {xs : List V} {us : List Value} (i : Nat), Vals xs us → Vals (xs.set i x) (us.set i u)
  | _, _, _, .nil => .nil
  | _, _, 0, .cons _ t => .cons r t
  | _, _, i + 1, .cons q t => .cons q (Vals.set r i t)
theorem Vals.append : ∀ {xs ys : List V} {us ws : List Value}, Vals xs us → Vals ys ws → Vals (xs ++ ys) (us ++ ws)
  | _, _, _, _, .nil, s => s
  | _, _, _, _, .cons r t, s => .cons r (Vals.append t s)
theorem Vals.take : ∀ {xs : List V} {us : List Value} (n : Nat), Vals xs us → Vals (xs.take n) (us.take n)
  | _, _, 0, _ => .nil
  | _, _, _ + 1, .nil => .nil
  | _, _, n + 1, .cons r t => .cons r (Vals.take n t)
theorem Vals.drop : ∀ {xs : List V} {us : List Value} (n : Nat), Vals xs us → Vals (xs.drop n) (us.drop n)
  | _, _, 0, r => r
  | _, _, _ + 1, .nil => .nil
  | _, _, n + 1, .cons _ t => Vals.drop n t

def RelO : Option V → Option Value → Prop
  | some v, some u => RelV v u
  | none, none => True
  | _, _ => False
def KV {κ : Type} : List (κ × V) → List (κ × Value) → Prop := Paired fun (p : κ × V) (q : κ × Value) => p.1 = q.1 ∧ RelV p.2 q.2

/-- a key of a dict (00_mix): an int or a text -/
def kV : Key → V
  | .inl i => .int i
  | .inr x => .str x

/-- what stands at a tracked address -/
inductive HO where
  /-- a list -/
  | lst (xs : List V)
  /-- a tuple (never changes) -/
  | tup (xs : List V)
  /-- a dict whose keys are ints and texts; one whose keys are tuples of ints and texts (the empty one is both) -/
  | dK (kvs : List (Key × V)) | dT (kvs : List (List Key × V))
  /-- a set of ints: its members, its size -/
  | set (S : Int → Bool) (n : Nat)
  /-- an instance of the class at C, its dict at dx, its attributes -/
  | ins (C dx : Addr) (fs : List (Str × V))
  /-- the dict of the instance at x -/
  | own (x : Addr)
  /-- the dict of an exception -/
  | xd (fs : List (Str × V))
  /-- a bound method, f of x -/
  | met (f x : Addr)
  /-- a range object lo, lo + 1, .. below hi -/
  | rng (lo hi : Int)
  /-- a thing that is known to the object (the script; a dict while a loop walks it): read, never written while it is so -/
  | frz (o : Obj) (u : HO)
  /-- a code object's table -/
  | tbl (ps : Array Value)
  /-- any other thing, by what is true of its one object (a def of one's own: SetO a S n := HO.ext fun h => ..) -/
  | ext (φ : Heap → Prop)

abbrev Hp := Addr → Option HO
def upd (H : Hp) (a : Addr) (o : HO) : Hp := fun b => if b = a then some o else H b
theorem upd_same {H : Hp} {a : Addr} {o : HO} : upd H a o a = some o := by unfold upd; rw [if_pos rfl]
theorem upd_ne {H : Hp} {a b : Addr} {o : HO} (h : b ≠ a) : upd H a o b = H b := by unfold upd; rw [if_neg h]
/-- two objects of different content stand apart -/
theorem ne_of {H : Hp} {a b : Addr} {o u : HO} (h : H a = some o) (h' : H b = some u) (d : o ≠ u) : a ≠ b := by
  intro e; subst e; rw [h] at h'; exact d (Option.some.inj h')
theorem ne_of_none {H : Hp} {a b : Addr} {o : HO} (h : H a = some o) (h' : H b = none) : a ≠ b := by
  intro e; subst e; rw [h] at h'; cases h'

section
variable (P : Program) (w : World)
def ObjOk (H : Hp) (h : Heap) (a : Addr) : HO → Prop
  | .lst xs => xs.length ≤ sizeLine ∧ ∃ (its : List Value) (n : Nat), Vals xs its ∧ h.get? a = some { cls := .type "list", data := .seq its.toArray n }
  | .tup xs => xs.length ≤ sizeLine ∧ ∃ its : List Value, Vals xs its ∧ IsTup h a its.toArray
  | .dK kvs => kvs.length ≤ sizeLine ∧ (a == sysModules) = false ∧ ∃ vs, KV kvs vs ∧ h.DictOf (mixKind P w) a vs
  | .dT kvs => kvs.length ≤ sizeLine ∧ (a == sysModules) = false ∧ ∃ xs : List (List Key × Addr × Value),
      Paired (fun (p : List Key × V) (q : List Key × Addr × Value) => p.1 = q.1 ∧ H q.2.1 = some (.tup (p.1.map kV)) ∧ RelV p.2 q.2.2) kvs xs ∧
      ∃ o es ep, h.get? a = some o ∧ o.ExactDict ∧ o.data = .dict es ep ∧ es.toList = xs.map (entryOfKey (tupleKind (mixKind P w))) ∧ (xs.map (·.1)).Nodup
  | .set S n => h.SetOf (intKind P w) a S n
  | .ins C dx fs => H dx = some (.own a) ∧ fs.length ≤ 1000 ∧ dx ≠ a ∧ h.get? a = some (PySem.W.instObj C dx) ∧
      ∃ mA, h.Ns1 dx mA ∧ (∀ f, RelO (fs.lookup f) (mA f)) ∧ PySem.Within mA (fs.map (·.1))
  | .own _ => ∃ o, h.get? a = some o
  | .xd fs => ∃ mA, h.Ns1 a mA ∧ ∀ f, RelO (fs.lookup f) (mA f)
  | .rng lo hi => ∃ t u v, h.get? a = some { cls := .type "range", data := .fields #[.int lo t, .int hi u, .int 1 v] }
  | .frz o u => h.get? a = some o ∧ ObjOk H h a u
  | .tbl ps => h.get? a = some { cls := .none, data := .fields ps }
  | .met f x => h.get? a = some (PySem.W.methodObj (.ref f) (.ref x))
  | .ext φ => φ h ∧ (∃ o, h.get? a = some o) ∧ ∀ h1 h2 : Heap, φ h1 → (∀ o, h1.get? a = some o → h2.get? a = some o) → φ h2
/-- the abstract heap is held -/
def HOk (H : Hp) (h : Heap) : Prop := ∀ a o, H a = some o → ObjOk P w H h a o
end

section
variable {P : Program} {w : World} {H H' : Hp} {h h' : Heap} {a : Addr} {o : HO}
theorem ObjOk.lt (x : ObjOk P w H h a o) : a < h.objs.size := by
  cases o with
  | lst xs => obtain ⟨_, _, _, _, e⟩ := x; exact Heap.lt_size e
  | tup xs => obtain ⟨_, _, _, p⟩ := x; exact p.lt
  | dK kvs => obtain ⟨_, _, _, _, o, _, _, e, _⟩ := x; exact Heap.lt_size e
  | dT kvs => obtain ⟨_, _, _, _, o, _, _, e, _⟩ := x; exact Heap.lt_size e
  | set S n => obtain ⟨o, _, _, _, e, _⟩ := x; exact Heap.lt_size e
  | ins C dx fs => obtain ⟨_, _, _, e, _⟩ := x; exact Heap.lt_size e
  | own y => obtain ⟨_, e⟩ := x; exact Heap.lt_size e
  | xd fs => obtain ⟨_, ⟨_, _, _, e, _⟩, _⟩ := x; exact Heap.lt_size e
  | rng lo hi => obtain ⟨_, _, _, e⟩ := x; exact Heap.lt_size e
  | frz ob u => obtain ⟨e, _⟩ := x; exact Heap.lt_size e
  | tbl ps => exact Heap.lt_size (show h.get? a = some _ from x)
  | met f y => exact Heap.lt_size (show h.get? a = some _ from x)
  | ext φ => obtain ⟨_, ⟨_, e⟩, _⟩ := x; exact Heap.lt_size e
theorem Paired.mapP {α β : Type} {F G : α → β → Prop} : ∀ {l₁ : List α} {l₂ : List β}, Paired F l₁ l₂ → (∀ a b, F a b → G a b) → Paired G l₁ l₂
  | _, _, .nil, _ => .nil
  | _, _, .cons r t, f => .cons (f _ _ r) (Paired.mapP t f)
/-- what an object's description leans on: its own object, its own dict, the tuples -/
theorem ObjOk.stay (x : ObjOk P w H h a o) (k : ∀ b u, (b = a ∨ H b = some (.own a)) → h.get? b = some u → h'.get? b = some u)
    (ho : ∀ b, H b = some (.own a) → H' b = some (.own a)) (ht : ∀ b xs, H b = some (.tup xs) → H' b = some (.tup xs)) : ObjOk P w H' h' a o := by
  induction o with
  | lst xs => obtain ⟨z, its, n, r, e⟩ := x; exact ⟨z, its, n, r, k _ _ (.inl rfl) e⟩
  | tup xs => obtain ⟨z, its, r, ob, e, c⟩ := x; exact ⟨z, its, r, ob, k _ _ (.inl rfl) e, c⟩
  | dK kvs => obtain ⟨z, y, vs, r, ob, es, ep, e, c⟩ := x; exact ⟨z, y, vs, r, ob, es, ep, k _ _ (.inl rfl) e, c⟩
  | dT kvs =>
    obtain ⟨z, y, xs, r, ob, es, ep, e, c⟩ := x
    exact ⟨z, y, xs, Paired.mapP r fun p q z => ⟨z.1, ht _ _ z.2.1, z.2.2⟩, ob, es, ep, k _ _ (.inl rfl) e, c⟩
  | set S n => obtain ⟨ob, es, ep, t, e, c⟩ := x; exact ⟨ob, es, ep, t, k _ _ (.inl rfl) e, c⟩
  | ins C dx fs =>
    obtain ⟨d, z, ne, e, mA, ⟨od, es, ep, e2, c⟩, r⟩ := x
    exact ⟨ho _ d, z, ne, k _ _ (.inl rfl) e, mA, ⟨od, es, ep, k _ _ (.inr d) e2, c⟩, r⟩
  | own y => obtain ⟨ob, e⟩ := x; exact ⟨ob, k _ _ (.inl rfl) e⟩
  | xd fs => obtain ⟨mA, ⟨od, es, ep, e, c⟩, r⟩ := x; exact ⟨mA, ⟨od, es, ep, k _ _ (.inl rfl) e, c⟩, r⟩
  | rng lo hi => obtain ⟨t, u, v, e⟩ := x; exact ⟨t, u, v, k _ _ (.inl rfl) e⟩
  | frz ob u ih => obtain ⟨e, q⟩ := x; exact ⟨k _ _ (.inl rfl) e, ih q⟩
  | tbl ps =>
    have e : h.get? a = some { cls := .none, data := .fields ps } := x
    show h'.get? a = some { cls := .none, data := .fields ps }
    exact k a _ (.inl rfl) e
  | met f y =>
    have e : h.get? a = some (PySem.W.methodObj (.ref f) (.ref y)) := x
    show h'.get? a = some (PySem.W.methodObj (.ref f) (.ref y))
    exact k a _ (.inl rfl) e
  | ext φ => obtain ⟨p, ⟨o, e⟩, st⟩ := x; exact ⟨st _ _ p fun o q => k _ _ (.inl rfl) q, ⟨o, k _ _ (.inl rfl) e⟩, st⟩
theorem HOk.lt (x : HOk P w H h) (e : H a = some o) : a < h.objs.size := (x a o e).lt
theorem HOk.fresh (x : HOk P w H h) (e : h.objs.size ≤ a) : H a = none := by
  cases q : H a with
  | none => rfl
  | some u => exact absurd (Nat.lt_of_lt_of_le (x.lt q) e) (Nat.lt_irrefl _)
/-- every object of the heap is kept -/
theorem HOk.kept (x : HOk P w H h) (k : ∀ b u, h.get? b = some u → h'.get? b = some u) : HOk P w H h' := fun a o e =>
  (x a o e).stay (fun b u _ q => k b u q) (fun _ q => q) fun _ _ q => q
/-- a new object is laid and tracked -/
theorem HOk.laid (x : HOk P w H h) (k : ∀ b u, h.get? b = some u → h'.get? b = some u) (hp : h.objs.size ≤ a) (new : ObjOk P w (upd H a o) h' a o) : HOk P w (upd H a o) h' := fun b u e => by
  have hn := x.fresh hp
  by_cases hb : b = a
  · subst hb; rw [upd_same] at e; cases e; exact new
  · rw [upd_ne hb] at e
    exact (x b u e).stay (fun c v _ q => k c v q) (fun c q => by rw [upd_ne (ne_of_none q hn)]; exact q) fun c xs q => by rw [upd_ne (ne_of_none q hn)]; exact q
end

/-- what may be read as u: it is u, or a known u -/
def Rd (H : Hp) (a : Addr) (u : HO) : Prop := H a = some u ∨ ∃ o, H a = some (.frz o u)
theorem Rd.ok {P : Program} {w : World} {H : Hp} {h : Heap} {a : Addr} {u : HO} (r : Rd H a u) (x : HOk P w H h) : ObjOk P w H h a u := by
  rcases r with r | ⟨o, r⟩
  · exact x a u r
  · obtain ⟨_, q⟩ := x a _ r
    exact q
/-- what may be written -/
def Mut : Option HO → Prop
  | some (.lst _) => True
  | some (.dK _) => True
  | some (.dT _) => True
  | some (.set _ _) => True
  | some (.ins _ _ _) => True
  | some (.ext _) => True
  | _ => False
section
variable {P : Program} {w : World} {H : Hp} {h h' : Heap} {x e : Addr} {o' : HO}
/-- the object at e is changed: x itself, or the dict of the instance x -/
theorem HOk.write (ok : HOk P w H h) (mu : Mut (H x)) (he : e = x ∨ H e = some (.own x)) (k : ∀ b u, b ≠ e → h.get? b = some u → h'.get? b = some u) (heo : ∃ u, h'.get? e = some u)
    (new : ObjOk P w (upd H x o') h' x o') : HOk P w (upd H x o') h' := fun b u q => by
  have nown : ∀ c y, H c = some (.own y) → c ≠ x := fun c y r z => by subst z; rw [r] at mu; exact mu
  have ntup : ∀ c xs, H c = some (.tup xs) → c ≠ x := fun c xs r z => by subst z; rw [r] at mu; exact mu
  by_cases hb : b = x
  · subst hb; rw [upd_same] at q; cases q; exact new
  · rw [upd_ne hb] at q
    by_cases hbe : b = e
    · have q' : H b = some (.own x) := by
        rcases he with z | z
        · exact absurd (hbe.trans z) hb
        · rw [hbe]; exact z
      rw [q] at q'; cases q'
      obtain ⟨v, hv⟩ := heo
      exact ⟨v, by rw [hbe]; exact hv⟩
    · refine (ok b u q).stay (fun c v hc r => k c v ?_ r) (fun c r => by rw [upd_ne (nown c b r)]; exact r) fun c xs r => by rw [upd_ne (ntup c xs r)]; exact r
      rcases hc with rfl | hc
      · exact hbe
      · rintro rfl
        rcases he with z | z
        · exact nown c b hc z
        · rw [hc] at z; cases z; exact hb rfl
end

/-! ### kept unless tracked; of the frames at fs (the callers') the slots may change (an exception that passes writes there); of the records at ex (iterators) nothing is said -/
structure Un (fs ex : List Addr) (H H' : Hp) (h h' : Heap) : Prop where
  keep : ∀ b o, h.get? b = some o → H b = none → b ∉ fs → b ∉ ex → h'.get? b = some o
  slot : ∀ b o, h.get? b = some o → H b = none → b ∈ fs → b ∉ ex → ∃ sl, h'.get? b = some { o with slots := sl }
  free : ∀ b o, h.get? b = some o → H b = none → b ∉ ex → H' b = none
  there : ∀ b o, h.get? b = some o → b ∉ ex → ∃ o', h'.get? b = some o'
  tups : ∀ b xs, H b = some (.tup xs) → H' b = some (.tup xs)
  frzs : ∀ b o u, H b = some (.frz o u) → H' b = some (.frz o u)
  tbls : ∀ b ps, H b = some (.tbl ps) → ∃ more, H' b = some (.tbl (ps ++ more))
section
variable {fs fs' ex ex' : List Addr} {H H1 H2 : Hp} {h h1 h2 h' : Heap} {a x e : Addr} {o : HO}
theorem Un.any (u : Un fs ex H H1 h h1) {b : Addr} {ob : Obj} (q : h.get? b = some ob) (n : H b = none) (hx : b ∉ ex) : ∃ sl, h1.get? b = some { ob with slots := sl } := by
  by_cases hb : b ∈ fs
  · exact u.slot b ob q n hb hx
  · exact ⟨ob.slots, u.keep b ob q n hb hx⟩
theorem Un.kept (k : ∀ b u, h.get? b = some u → h'.get? b = some u) : Un fs ex H H h h' :=
  ⟨fun b ob q _ _ _ => k b ob q, fun b ob q _ _ _ => ⟨ob.slots, k b ob q⟩, fun _ _ _ n _ => n, fun b ob q _ => ⟨ob, k b ob q⟩, fun _ _ q => q, fun _ _ _ q => q, fun _ ps q => ⟨#[], by rw [q]; simp⟩⟩
theorem Un.refl : Un fs ex H H h h := Un.kept fun _ _ q => q
theorem Un.laid (k : ∀ b u, h.get? b = some u → h'.get? b = some u) (hp : h.objs.size ≤ a) (hn : H a = none) : Un fs ex H (upd H a o) h h' where
  keep := fun b u q _ _ _ => k b u q
  slot := fun b u q _ _ _ => ⟨u.slots, k b u q⟩
  free := fun b u q n _ => by rw [upd_ne (Nat.ne_of_lt (Nat.lt_of_lt_of_le (Heap.lt_size q) hp))]; exact n
  there := fun b u q _ => ⟨u, k b u q⟩
  tups := fun b xs q => by rw [upd_ne (ne_of_none q hn)]; exact q
  frzs := fun b u xs q => by rw [upd_ne (ne_of_none q hn)]; exact q
  tbls := fun b ps q => ⟨#[], by rw [upd_ne (ne_of_none q hn), q]; simp⟩
theorem Un.write (mu : Mut (H x)) (he : e = x ∨ H e = some (.own x)) (k : ∀ b u, b ≠ e → h.get? b = some u → h'.get? b = some u) (heo : ∃ u, h'.get? e = some u) : Un fs ex H (upd H x o) h h' := by
  have hx : ∀ b, H b = none → b ≠ x := fun b n z => by subst z; rw [n] at mu; exact mu
  have hb : ∀ b, H b = none → b ≠ e := fun b n z => by
    subst z
    rcases he with r | r
    · exact hx b n r
    · rw [n] at r; cases r
  have hm : ∀ b u, H b = some u → ¬ Mut (some u) → b ≠ x := fun b u q nm z => by subst z; rw [q] at mu; exact nm mu
  refine ⟨fun b u q n _ _ => k b u (hb b n) q, fun b u q n _ _ => ⟨u.slots, k b u (hb b n) q⟩, fun b u q n _ => by rw [upd_ne (hx b n)]; exact n, fun b u q _ => ?_,
    fun b xs q => by rw [upd_ne (hm b _ q fun z => z)]; exact q, fun b u xs q => by rw [upd_ne (hm b _ q fun z => z)]; exact q, fun b ps q => ⟨#[], by rw [upd_ne (hm b _ q fun z => z), q]; simp⟩⟩
  by_cases hbe : b = e
  · subst hbe; exact heo
  · exact ⟨u, k b u hbe q⟩
end

/-! ### the heap without what is tracked -/
def trk (h : Heap) (H : Hp) : List Addr := (List.range h.objs.size).filter fun a => (H a).isSome
def hidT (h : Heap) (H : Hp) : Heap := PySem.W.hideAll h (trk h H)
theorem hidT_size (h : Heap) (H : Hp) : (hidT h H).objs.size = h.objs.size := PySem.W.hideAll_size _ _
theorem hidT_get {h : Heap} {H : Hp} {b : Addr} {o : Obj} (e : h.get? b = some o) (n : H b = none) : (hidT h H).get? b = some o :=
  PySem.W.hideAll_get _ e fun hm => by
    have q : (H b).isSome = true := (List.mem_filter.mp hm).2
    rw [n] at q; simp at q
theorem of_hidT {h : Heap} {H : Hp} {b : Addr} {o : Obj} (e : (hidT h H).get? b = some o) : h.get? b = some o ∧ H b = none := by
  have e' : h.get? b = some o := PySem.W.of_hideAll (trk h H) e
  refine ⟨e', ?_⟩
  cases q : H b with
  | none => rfl
  | some x =>
    have hm : b ∈ trk h H := List.mem_filter.mpr ⟨List.mem_range.mpr (Heap.lt_size e'), by simp [q]⟩
    have z : (hidT h H).get? b = none := PySem.W.hideAll_none (trk h H) hm
    rw [z] at e; cases e

/-! ### OpenK's ledger, filled with every new object but one -/
end L2

namespace L2
open PySem PySem.Spec PyProof.Rows

/-- the module's facts, over the base: the heap at the law's entry without what is tracked there -/
structure Mod (K : PySem.W.Frag) (mg : Str → Option Value) (base : Heap) : Prop where
  kin : K.In base
  glob : base.Ns mainGlobals mg
  blt : ∃ mb, base.Ns builtinsNs mb ∧ ∀ x : Str, x ≠ "__name__" → mb x = bootBuiltins x
  nolimit : base.NoLimit

/-- the context: a def's body (or a comprehension's block) running. base: fixed through the whole law; s₀, H₀: the entry; outer: the frames whose slots others may change (a def's callers); stack: all frames that run;
   ex: iterators that were made ahead of the entry and are walked here (a comprehension's); fn: the names whose cells were made at the entry (a def: all; a comprehension's block: its own); calm: not within an except suite; pn: pins that every state bears; xe: what is wanted of an exception that leaves the code -/
structure Cx where
  prog : Program
  w : World
  K : PySem.W.Frag
  mg : Str → Option Value
  base : Heap
  A : Around
  N : List Str
  s₀ : Shared
  H₀ : Hp
  env : Env
  outer : List Env
  stack : List Env
  ex : List Addr
  fn : Str → Bool
  calm : Bool
  pn : List (Addr × Obj)
  xe : Value → Shared → Prop
/-- the callers' frames -/
def frs (l : List Env) : List Addr := l.filterMap (·.frame)
abbrev Cx.fs (X : Cx) : List Addr := frs X.outer

def Vis (sc : Scope) (x : Str) : Prop := sc.names.lookup x = some .local ∨ sc.names.lookup x = some .cell ∨ sc.names.lookup x = some .free
def Loc (sc : Scope) (x : Str) : Prop := sc.names.lookup x = some .local ∨ sc.names.lookup x = some .cell
def Look (env : Env) (h : Heap) (m : Str → Option Value) (x : Str) (u : Value) : Prop :=
  (env.kindOf x = some .local ∧ m x = some u) ∨ ((env.kindOf x = some .cell ∨ env.kindOf x = some .free) ∧ ∃ c, env.cells.lookup x = some c ∧ h.IsCell c (some u))

structure Cx.Ok (X : Cx) : Prop where
  mod : Mod X.K X.mg X.base
  kind : X.env.scope.kind = .function
  glob : X.env.globals = mainGlobals
  blt : X.env.builtins = builtinsNs
  above : X.s₀.heap.objs.size ≤ X.env.locals
  inj : ∀ x y c, X.env.cells.lookup x = some c → X.env.cells.lookup y = some c → x = y
  has : ∀ x, (X.env.kindOf x = some .cell ∨ X.env.kindOf x = some .free) → ∃ c, X.env.cells.lookup x = some c
  cab : ∀ x c, X.fn x = true → X.env.cells.lookup x = some c → X.s₀.heap.objs.size ≤ c
  hd : X.calm = true → X.A.handled = none
  frames : X.A.frames = some X.stack
  stk : X.stack = X.outer ∨ (X.stack = X.env :: X.outer ∧ X.env.frame = some X.env.locals)
  exf : ∀ b ∈ X.ex, b ≠ X.env.locals ∧ ∀ x c, X.env.cells.lookup x = some c → c ≠ b
  bs : ∀ b o, X.base.get? b = some o → X.s₀.heap.get? b = some o ∧ X.H₀ b = none
  bsz : X.base.objs.size ≤ X.s₀.heap.objs.size
  noex : ∀ b o, X.base.get? b = some o → b ∉ X.ex
  exfs : ∀ b ∈ X.ex, b ∉ X.fs
  funs : X.s₀.heap.FunFrames X.base X.outer
  frf : ∀ b ∈ X.fs, X.H₀ b = none

structure Inv (X : Cx) (pins : List (Addr × Obj)) (σ : List (Option V)) (H : Hp) (s : Shared) : Prop where
  ok : X.Ok
  os : s.os = X.s₀.os
  bare : AllBare s.gens
  base : Un X.fs X.ex X.H₀ H X.s₀.heap s.heap
  loc : ∃ m, s.heap.Ns X.env.locals m ∧ ∀ (i : Nat) (x : Str) (v : V), X.N[i]? = some x → σ[i]? = some (some v) → Vis X.env.scope x → ∃ u, RelV v u ∧ Look X.env s.heap m x u
  cell : ∀ x c, X.env.cells.lookup x = some c → ∃ v, s.heap.IsCell c v
  free : H X.env.locals = none
  freeC : ∀ x c, X.env.cells.lookup x = some c → H c = none
  pin : ∀ p ∈ X.pn ++ pins, s.heap.get? p.1 = some p.2 ∧ H p.1 = none ∧ p.1 ≠ X.env.locals ∧ p.1 ∉ X.fs ∧ ∀ v, p.2.data ≠ .cell v
  hok : HOk X.prog X.w H s.heap
  len : σ.length = X.N.length

section
variable {X : Cx} {pins : List (Addr × Obj)} {σ : List (Option V)} {H H' : Hp} {s : Shared} {h' : Heap}

theorem Cx.Ok.nofr (ok : X.Ok) {b : Addr} {o : Obj} (e : X.base.get? b = some o) : b ∉ X.fs := fun hb => by
  have := (ok.funs.mem hb).1
  rw [e] at this; cases this
theorem Inv.bs (I : Inv X pins σ H s) : ∀ b o, X.base.get? b = some o → s.heap.get? b = some o ∧ H b = none := fun b o e =>
  ⟨I.base.keep b o (I.ok.bs b o e).1 (I.ok.bs b o e).2 (I.ok.nofr e) (I.ok.noex b o e), I.base.free b o (I.ok.bs b o e).1 (I.ok.bs b o e).2 (I.ok.noex b o e)⟩
theorem Inv.bk (I : Inv X pins σ H s) : ∀ b o, X.base.get? b = some o → s.heap.get? b = some o := fun b o e => (I.bs b o e).1
theorem Inv.mod (I : Inv X pins σ H s) : Mod X.K X.mg X.base := I.ok.mod
theorem Inv.kIn (I : Inv X pins σ H s) : X.K.In s.heap := I.ok.mod.kin.keeps I.bk
theorem Inv.lt (I : Inv X pins σ H s) : X.env.locals < s.heap.objs.size := let ⟨_, hn, _⟩ := I.loc; hn.lt
theorem Inv.sz (I : Inv X pins σ H s) : X.s₀.heap.objs.size ≤ s.heap.objs.size := Nat.le_trans I.ok.above (Nat.le_of_lt I.lt)
theorem Inv.nofs (I : Inv X pins σ H s) {a : Addr} (h : s.heap.objs.size ≤ a) : a ∉ X.fs := fun hb => by
  obtain ⟨_, o, ho, _⟩ := I.ok.funs.mem hb
  exact absurd (Nat.lt_of_lt_of_le (Heap.lt_size ho) (Nat.le_trans I.sz h)) (Nat.lt_irrefl _)
theorem Inv.cne (I : Inv X pins σ H s) : ∀ x c, X.env.cells.lookup x = some c → c ≠ X.env.locals := fun x c e z => by
  obtain ⟨v, o, ho, hd⟩ := I.cell x c e
  obtain ⟨m, ⟨o', es, ep, ho', hd', _⟩, _⟩ := I.loc
  rw [z, ho'] at ho; cases ho; rw [hd'] at hd; cases hd
theorem Inv.funs (I : Inv X pins σ H s) : s.heap.FunFrames X.base X.outer := by
  have all : ∀ (l : List Env), (∀ b ∈ frs l, b ∈ X.fs) → X.s₀.heap.FunFrames X.base l → s.heap.FunFrames X.base l := by
    intro l
    induction l with
    | nil => intro _ _; trivial
    | cons env r ih =>
      intro hs hl
      obtain ⟨hk, ⟨L, o, hf, hn, ho, hd⟩, hr⟩ := hl
      have hL : L ∈ X.fs := hs L (by unfold frs; rw [List.filterMap_cons, hf]; exact List.mem_cons_self)
      obtain ⟨sl, e⟩ := I.base.slot L o ho (I.ok.frf L hL) hL fun z => I.ok.exfs L z hL
      exact ⟨hk, ⟨L, _, hf, hn, e, hd⟩, ih (fun b hb => hs b (by unfold frs; rw [List.filterMap_cons, hf]; exact List.mem_cons_of_mem _ hb)) hr⟩
  exact all X.outer (fun _ hb => hb) I.ok.funs

/-- the frames that run, for a call -/
theorem Inv.stack (I : Inv X pins σ H s) : s.heap.FunFrames X.base X.stack := by
  rcases I.ok.stk with e | ⟨e, hf⟩
  · rw [e]; exact I.funs
  · rw [e]
    obtain ⟨m, hn, _⟩ := I.loc
    refine .cons (by rw [I.ok.kind]; decide) hf hn ?_ I.funs
    exact Heap.get?_none_of_le (Nat.le_trans I.ok.bsz I.ok.above)
theorem Inv.stkSub (I : Inv X pins σ H s) : ∀ b ∈ frs X.stack, b ∈ X.env.locals :: X.fs := fun b hb => by
  rcases I.ok.stk with e | ⟨e, hf⟩
  · rw [e] at hb; exact List.mem_cons_of_mem _ hb
  · rw [e] at hb
    unfold frs at hb
    rw [List.filterMap_cons, hf] at hb
    exact hb
theorem Inv.stkFree (I : Inv X pins σ H s) : ∀ b ∈ frs X.stack, H b = none := fun b hb => by
  rcases List.mem_cons.mp (I.stkSub b hb) with e | hb
  · rw [e]; exact I.free
  · obtain ⟨_, o, ho, _⟩ := I.ok.funs.mem hb
    exact I.base.free b o ho (I.ok.frf b hb) fun z => I.ok.exfs b z hb

/-- THE STEP: the untracked objects but the frame and the records at ch are kept (the callers' frames up to slots), the frame's map is kept, the new abstract heap is held -/
theorem Inv.step {g' : Array GenState} {t' : Nat} {d' : Drawn} {ch : List Addr} (I : Inv X pins σ H s)
    (hch : ∀ b ∈ ch, (b ∈ X.ex ∨ X.s₀.heap.objs.size ≤ b) ∧ b ≠ X.env.locals ∧ (∀ x c, X.env.cells.lookup x = some c → c ≠ b) ∧ ∀ p ∈ X.pn ++ pins, p.1 ≠ b)
    (keep : ∀ b o, b ≠ X.env.locals → b ∉ X.fs → b ∉ ch → s.heap.get? b = some o → H b = none → h'.get? b = some o)
    (slot : ∀ b o, b ≠ X.env.locals → b ∈ X.fs → b ∉ ch → s.heap.get? b = some o → H b = none → ∃ sl, h'.get? b = some { o with slots := sl }) (free : ∀ b o, b ∉ ch → s.heap.get? b = some o → H b = none → H' b = none)
    (there : ∀ b o, b ∉ ch → s.heap.get? b = some o → ∃ o', h'.get? b = some o')
    (tups : ∀ b xs, H b = some (.tup xs) → H' b = some (.tup xs)) (frzs : ∀ b o u, H b = some (.frz o u) → H' b = some (.frz o u)) (tbls : ∀ b ps, H b = some (.tbl ps) → ∃ more, H' b = some (.tbl (ps ++ more)))
    (ns : ∀ m, s.heap.Ns X.env.locals m → h'.Ns X.env.locals m) (hok : HOk X.prog X.w H' h') (hg : AllBare g') :
    Inv X pins σ H' { s with heap := h', gens := g', drawn := d', toks := t' } := by
  have neL : ∀ b o, X.s₀.heap.get? b = some o → b ≠ X.env.locals := fun b o e => Nat.ne_of_lt (Nat.lt_of_lt_of_le (Heap.lt_size e) I.ok.above)
  have neC : ∀ b o, X.s₀.heap.get? b = some o → b ∉ X.ex → b ∉ ch := fun b o e hx hb => by
    rcases (hch b hb).1 with z | z
    · exact hx z
    · exact absurd (Nat.lt_of_lt_of_le (Heap.lt_size e) z) (Nat.lt_irrefl _)
  have cellK : ∀ x c, X.env.cells.lookup x = some c → ∀ v, s.heap.IsCell c v → h'.IsCell c v := fun x c e v ⟨o, ho, hd⟩ => by
    have nch : c ∉ ch := fun z => (hch c z).2.2.1 x c e rfl
    by_cases hc : c ∈ X.fs
    · obtain ⟨sl, q⟩ := slot c o (I.cne x c e) hc nch ho (I.freeC x c e)
      exact ⟨_, q, hd⟩
    · exact ⟨o, keep c o (I.cne x c e) hc nch ho (I.freeC x c e), hd⟩
  refine ⟨I.ok, I.os, hg, ⟨fun b o e n hb hx => ?_, fun b o e n hb hx => ?_, fun b o e n hx => ?_, fun b o e hx => ?_, fun b xs e => tups b xs (I.base.tups b xs e), fun b o xs e => frzs b o xs (I.base.frzs b o xs e), fun b ps e => ?_⟩, ?_, fun x c e => ?_, ?_, fun x c e => ?_, fun p hp => ?_, hok, I.len⟩
  · exact keep b o (neL b o e) hb (neC b o e hx) (I.base.keep b o e n hb hx) (I.base.free b o e n hx)
  · obtain ⟨sl, e1⟩ := I.base.slot b o e n hb hx
    obtain ⟨sl', e2⟩ := slot b _ (neL b o e) hb (neC b o e hx) e1 (I.base.free b o e n hx)
    exact ⟨sl', e2⟩
  · obtain ⟨o', e1⟩ := I.base.there b o e hx
    exact free b o' (neC b o e hx) e1 (I.base.free b o e n hx)
  · obtain ⟨o', e1⟩ := I.base.there b o e hx
    exact there b o' (neC b o e hx) e1
  · obtain ⟨m1, e1⟩ := I.base.tbls b ps e
    obtain ⟨m2, e2⟩ := tbls b _ e1
    exact ⟨m1 ++ m2, by rw [e2, Array.append_assoc]⟩
  · obtain ⟨m, hn, hl⟩ := I.loc
    refine ⟨m, ns m hn, fun i x v e1 e2 e3 => ?_⟩
    obtain ⟨u, r, l⟩ := hl i x v e1 e2 e3
    refine ⟨u, r, ?_⟩
    rcases l with l | ⟨k, c, e, z⟩
    · exact .inl l
    · exact .inr ⟨k, c, e, cellK x c e _ z⟩
  · obtain ⟨v, z⟩ := I.cell x c e
    exact ⟨v, cellK x c e v z⟩
  · obtain ⟨m, ⟨o, _, _, ho, _⟩, _⟩ := I.loc
    exact free _ o (fun z => (hch _ z).2.1 rfl) ho I.free
  · obtain ⟨v, o, ho, hd⟩ := I.cell x c e
    exact free c o (fun z => (hch c z).2.2.1 x c e rfl) ho (I.freeC x c e)
  · obtain ⟨e, n, ne, nf, d⟩ := I.pin p hp
    have nch : p.1 ∉ ch := fun z => (hch p.1 z).2.2.2 p hp rfl
    exact ⟨keep p.1 p.2 ne nf nch e n, free p.1 p.2 nch e n, ne, nf, d⟩
/-- .. where the frame's own object is kept too -/
theorem Inv.un {t' : Nat} (I : Inv X pins σ H s) (u : Un X.fs [] H H' s.heap h') (hok : HOk X.prog X.w H' h') : Inv X pins σ H' { s with heap := h', toks := t' } := by
  obtain ⟨m, ⟨o, es, ep, ho, r⟩, _⟩ := id I.loc
  obtain ⟨sl, hL⟩ := u.any ho I.free (by simp)
  exact I.step (g' := s.gens) (d' := s.drawn) (ch := []) (fun _ z => nomatch z) (fun b o _ hb _ e n => u.keep b o e n hb (by simp)) (fun b o _ hb _ e n => u.slot b o e n hb (by simp)) (fun b o _ e n => u.free b o e n (by simp)) (fun b o _ e => u.there b o e (by simp)) u.tups u.frzs u.tbls (fun m' hm => by
    obtain ⟨o', es', ep', ho', r'⟩ := hm
    rw [ho] at ho'; cases ho'
    exact ⟨_, es', ep', hL, r'⟩) hok I.bare
/-- behind a call (or a comprehension's block): the slots of this frame may have changed too, the records at ch may have turned -/
theorem Inv.call {g' : Array GenState} {t' : Nat} {d' : Drawn} {ch : List Addr} (I : Inv X pins σ H s) (u : Un (frs X.stack) ch H H' s.heap h') (hok : HOk X.prog X.w H' h') (hg : AllBare g')
    (hch : ∀ b ∈ ch, (b ∈ X.ex ∨ X.s₀.heap.objs.size ≤ b) ∧ b ≠ X.env.locals ∧ (∀ x c, X.env.cells.lookup x = some c → c ≠ b) ∧ ∀ p ∈ X.pn ++ pins, p.1 ≠ b) :
    Inv X pins σ H' { s with heap := h', gens := g', drawn := d', toks := t' } := by
  obtain ⟨m, ⟨o, es, ep, ho, r⟩, _⟩ := id I.loc
  obtain ⟨sl, hL⟩ := u.any ho I.free fun z => (hch _ z).2.1 rfl
  exact I.step (ch := ch) hch (fun b o hL hb hc e n => u.keep b o e n (fun z => (List.mem_cons.mp (I.stkSub b z)).elim hL hb) hc) (fun b o _ _ hc e n => u.any e n hc) (fun b o hc e n => u.free b o e n hc) (fun b o hc e => u.there b o e hc) u.tups u.frzs u.tbls (fun m' hm => by
    obtain ⟨o', es', ep', ho', r'⟩ := hm
    rw [ho] at ho'; cases ho'
    exact ⟨_, es', ep', hL, r'⟩) hok hg
/-- an untracked record of ours (an iterator) has turned -/
theorem Inv.turned {t' : Nat} {it : Addr} (I : Inv X pins σ H s) (k : ∀ b o, b ≠ it → s.heap.get? b = some o → h'.get? b = some o) (hn : H it = none) (hL : it ≠ X.env.locals)
    (h1 : it ∈ X.ex ∨ X.s₀.heap.objs.size ≤ it) (h2 : ∀ x c, X.env.cells.lookup x = some c → c ≠ it) (h3 : ∀ p ∈ X.pn ++ pins, p.1 ≠ it) : Inv X pins σ H { s with heap := h', toks := t' } := by
  have nit : ∀ b u, H b = some u → b ≠ it := fun b u e z => by rw [z, hn] at e; cases e
  refine I.step (g' := s.gens) (d' := s.drawn) (ch := [it]) (fun b hb => ?_) (fun b o _ _ hc e _ => k b o (fun z => hc (by simp [z])) e) (fun b o _ _ hc e _ => ⟨o.slots, k b o (fun z => hc (by simp [z])) e⟩) (fun _ _ _ _ n => n)
    (fun b o hc e => ⟨o, k b o (fun z => hc (by simp [z])) e⟩) (fun _ _ e => e) (fun _ _ _ e => e) (fun b ps e => ⟨#[], by rw [e]; simp⟩) (fun m hm => ?_) (fun b u e => ?_) I.bare
  · have e : b = it := by simpa using hb
    subst e
    exact ⟨h1, hL, h2, h3⟩
  · obtain ⟨o, es, ep, ho, r⟩ := hm
    exact ⟨o, es, ep, k _ o (Ne.symm hL) ho, r⟩
  · refine (I.hok b u e).stay (fun c v hc q => k c v ?_ q) (fun _ q => q) fun _ _ q => q
    rcases hc with z | z
    · rw [z]; exact nit b u e
    · exact nit c _ z
theorem Inv.tok (I : Inv X pins σ H s) (t : Nat) : Inv X pins σ H { s with toks := t } := I.un (h' := s.heap) (t' := t) Un.refl I.hok
/-- all objects kept -/
theorem Inv.kept {t' : Nat} (I : Inv X pins σ H s) (k : ∀ b u, s.heap.get? b = some u → h'.get? b = some u) : Inv X pins σ H { s with heap := h', toks := t' } := I.un (Un.kept k) (I.hok.kept k)
/-- a new object laid and tracked -/
theorem Inv.laid {a : Addr} {o : HO} {t' : Nat} (I : Inv X pins σ H s) (k : ∀ b u, s.heap.get? b = some u → h'.get? b = some u) (hp : s.heap.objs.size ≤ a) (new : ObjOk X.prog X.w (upd H a o) h' a o) :
    Inv X pins σ (upd H a o) { s with heap := h', toks := t' } := I.un (Un.laid k hp (I.hok.fresh hp)) (I.hok.laid k hp new)
/-- an object written -/
theorem Inv.write {x e : Addr} {o : HO} {t' : Nat} (I : Inv X pins σ H s) (mu : Mut (H x)) (he : e = x ∨ H e = some (.own x)) (k : ∀ b u, b ≠ e → s.heap.get? b = some u → h'.get? b = some u) (heo : ∃ u, h'.get? e = some u)
    (new : ObjOk X.prog X.w (upd H x o) h' x o) : Inv X pins σ (upd H x o) { s with heap := h', toks := t' } := I.un (Un.write mu he k heo) (I.hok.write mu he k heo new)
theorem Inv.pins_of {pins' : List (Addr × Obj)} (I : Inv X pins σ H s) (h : ∀ p ∈ pins', s.heap.get? p.1 = some p.2 ∧ H p.1 = none ∧ p.1 ≠ X.env.locals ∧ p.1 ∉ X.fs ∧ ∀ v, p.2.data ≠ .cell v) : Inv X pins' σ H s :=
  ⟨I.ok, I.os, I.bare, I.base, I.loc, I.cell, I.free, I.freeC, fun p hp => (List.mem_append.mp hp).elim (fun z => I.pin p (List.mem_append_left _ z)) (h p), I.hok, I.len⟩

theorem nodup_ix {N : List Str} (hN : N.Nodup) {i j : Nat} {x : Str} (a : N[i]? = some x) (b : N[j]? = some x) : i = j := by
  obtain ⟨h1, e1⟩ := List.getElem?_eq_some_iff.mp a
  obtain ⟨h2, e2⟩ := List.getElem?_eq_some_iff.mp b
  exact (List.getElem_inj hN).mp (e1.trans e2.symm)

/-- a name is stored; what changed -/
theorem store_ok2 {M : Model} {A : Around} {E : Value → Shared → Prop} {i : Nat} {x : Str} {v : V} {u : Value} {Q : Unit → Shared → Prop} (I : Inv X pins σ H s) (hN : X.N.Nodup) (hi : X.N[i]? = some x) (hx : Loc X.env.scope x) (r : RelV v u)
    (h : ∀ s', Inv X pins (σ.set i (some v)) H s' → (∃ a, Heap.SameBut a s.heap s'.heap ∧ (a = X.env.locals ∨ X.env.cells.lookup x = some a)) → Q () s') (hf : X.fn x = true ∨ X.env.scope.names.lookup x = some .local := by first | exact .inl rfl | exact .inr rfl | assumption) : wpAny M A (storeName X.env x u) Q E s := by
  obtain ⟨m, hn, hl⟩ := id I.loc
  have hcls : (X.env.scope.kind == .class || (X.env.scope.kind == .module && X.env.locals != X.env.globals)) = false := by rw [I.ok.kind]; rfl
  have hiσ : i < σ.length := by rw [I.len]; exact (List.getElem?_eq_some_iff.mp hi).1
  have cne := I.cne
  have tracked : ∀ {a : Addr} {h' : Heap}, (∃ o, s.heap.get? a = some o ∧ H a = none) → Heap.SameBut a s.heap h' → HOk X.prog X.w H h' := fun {a h'} ha hs b ob e => by
    obtain ⟨_, _, hfree⟩ := ha
    refine (I.hok b ob e).stay (fun c w' hc q => (hs.2 c ?_).trans q) (fun _ q => q) fun _ _ q => q
    rintro rfl
    rcases hc with rfl | hc
    · rw [hfree] at e; cases e
    · rw [hfree] at hc; cases hc
  rcases hx with hk | hk
  · refine wpAny_storeName_local hk hn (fun h' hn' hs => ?_) hcls
    obtain ⟨oL, _, _, hoL, _⟩ := id hn
    refine h _ ⟨I.ok, I.os, I.bare, ⟨fun b o e n hb hx => ?_, fun b o e n hb hx => ?_, I.base.free, fun b o e hx => ?_, I.base.tups, I.base.frzs, I.base.tbls⟩, ⟨_, hn', fun j y v' e1 e2 e3 => ?_⟩, fun y c e => ?_, I.free, I.freeC, fun p hp => ?_, tracked ⟨oL, hoL, I.free⟩ hs, by simpa using I.len⟩ ⟨_, hs, .inl rfl⟩
    · exact (hs.2 b (Nat.ne_of_lt (Nat.lt_of_lt_of_le (Heap.lt_size e) I.ok.above))).trans (I.base.keep b o e n hb hx)
    · obtain ⟨sl, e1⟩ := I.base.slot b o e n hb hx
      exact ⟨sl, (hs.2 b (Nat.ne_of_lt (Nat.lt_of_lt_of_le (Heap.lt_size e) I.ok.above))).trans e1⟩
    · obtain ⟨o', e1⟩ := I.base.there b o e hx
      exact ⟨o', (hs.2 b (Nat.ne_of_lt (Nat.lt_of_lt_of_le (Heap.lt_size e) I.ok.above))).trans e1⟩
    · by_cases hj : j = i
      · subst hj
        rw [hi] at e1; cases e1
        rw [List.getElem?_set_self hiσ] at e2
        cases e2
        exact ⟨u, r, .inl ⟨hk, by simp⟩⟩
      · rw [List.getElem?_set_ne (Ne.symm hj)] at e2
        obtain ⟨u', r', q⟩ := hl j y v' e1 e2 e3
        refine ⟨u', r', ?_⟩
        rcases q with ⟨k, e⟩ | ⟨k, c, e, z⟩
        · refine .inl ⟨k, ?_⟩
          have : y ≠ x := fun e => hj (nodup_ix hN e1 (e ▸ hi))
          simp [this, e]
        · exact .inr ⟨k, c, e, z.sameBut hs (cne y c e)⟩
    · obtain ⟨w', z⟩ := I.cell y c e
      exact ⟨w', z.sameBut hs (cne y c e)⟩
    · obtain ⟨e, n, ne, nf, d⟩ := I.pin p hp
      exact ⟨(hs.2 p.1 ne).trans e, n, ne, nf, d⟩
  · have hfn : X.fn x = true := by
      rcases hf with z | z
      · exact z
      · rw [z] at hk; cases hk
    obtain ⟨c, hc⟩ := I.ok.has x (.inl hk)
    obtain ⟨w', z⟩ := I.cell x c hc
    refine wpAny_storeName_cell I.ok.kind hk hc z (fun h' hc' hs => ?_)
    obtain ⟨oc, hoc, hocd⟩ := id z
    refine h { s with heap := h' } ⟨I.ok, I.os, I.bare, ⟨fun b o e n hb hx => ?_, fun b o e n hb hx => ?_, I.base.free, fun b o e hx => ?_, I.base.tups, I.base.frzs, I.base.tbls⟩, ⟨m, hn.sameBut hs (Ne.symm (cne x c hc)), fun j y v' e1 e2 e3 => ?_⟩, fun y c' e => ?_, I.free, I.freeC, fun p hp => ?_, tracked ⟨oc, hoc, I.freeC x c hc⟩ hs, by simpa using I.len⟩ ⟨c, hs, .inr hc⟩
    · exact (hs.2 b (Nat.ne_of_lt (Nat.lt_of_lt_of_le (Heap.lt_size e) (I.ok.cab x c hfn hc)))).trans (I.base.keep b o e n hb hx)
    · obtain ⟨sl, e1⟩ := I.base.slot b o e n hb hx
      exact ⟨sl, (hs.2 b (Nat.ne_of_lt (Nat.lt_of_lt_of_le (Heap.lt_size e) (I.ok.cab x c hfn hc)))).trans e1⟩
    · obtain ⟨o', e1⟩ := I.base.there b o e hx
      exact ⟨o', (hs.2 b (Nat.ne_of_lt (Nat.lt_of_lt_of_le (Heap.lt_size e) (I.ok.cab x c hfn hc)))).trans e1⟩
    · by_cases hj : j = i
      · subst hj
        rw [hi] at e1; cases e1
        rw [List.getElem?_set_self hiσ] at e2
        cases e2
        exact ⟨u, r, .inr ⟨.inl hk, c, hc, hc'⟩⟩
      · rw [List.getElem?_set_ne (Ne.symm hj)] at e2
        obtain ⟨u', r', q⟩ := hl j y v' e1 e2 e3
        refine ⟨u', r', ?_⟩
        rcases q with q | ⟨k, c', e, z'⟩
        · exact .inl q
        · refine .inr ⟨k, c', e, z'.sameBut hs ?_⟩
          rintro rfl
          exact hj (nodup_ix hN e1 (I.ok.inj _ _ _ e hc ▸ hi))
    · by_cases hcc : c' = c
      · subst hcc; exact ⟨_, hc'⟩
      · obtain ⟨w2, z2⟩ := I.cell y c' e
        exact ⟨w2, z2.sameBut hs hcc⟩
    · obtain ⟨e, n, ne, nf, d⟩ := I.pin p hp
      refine ⟨(hs.2 p.1 ?_).trans e, n, ne, nf, d⟩
      intro q
      rw [q, hoc] at e
      have q' : oc = p.2 := Option.some.inj e
      exact d w' (by rw [← q']; exact hocd)
theorem store_ok {M : Model} {A : Around} {E : Value → Shared → Prop} {i : Nat} {x : Str} {v : V} {u : Value} {Q : Unit → Shared → Prop} (I : Inv X pins σ H s) (hN : X.N.Nodup) (hi : X.N[i]? = some x) (hx : Loc X.env.scope x) (r : RelV v u)
    (h : ∀ s', Inv X pins (σ.set i (some v)) H s' → Q () s') (hf : X.fn x = true ∨ X.env.scope.names.lookup x = some .local := by first | exact .inl rfl | exact .inr rfl | assumption) : wpAny M A (storeName X.env x u) Q E s :=
  store_ok2 I hN hi hx r (fun s' I' _ => h s' I') hf
/-- behind a call or a block, the state as it is -/
theorem Inv.call' {s' : Shared} {ch : List Addr} (I : Inv X pins σ H s) (ho : s'.os = s.os) (u : Un (frs X.stack) ch H H' s.heap s'.heap) (hok : HOk X.prog X.w H' s'.heap) (hg : AllBare s'.gens)
    (hch : ∀ b ∈ ch, (b ∈ X.ex ∨ X.s₀.heap.objs.size ≤ b) ∧ b ≠ X.env.locals ∧ (∀ x c, X.env.cells.lookup x = some c → c ≠ b) ∧ ∀ p ∈ X.pn ++ pins, p.1 ≠ b) : Inv X pins σ H' s' := by
  obtain ⟨h', g', d', t', o'⟩ := s'
  have e : o' = s.os := ho
  subst e
  exact I.call (g' := g') (t' := t') (d' := d') u hok hg hch
end

/-! ### the judgements -/
/-- an exception: its class, its own dict's address (where it has one), the abstract heap behind it -/
abbrev XK := Value → Option Addr → Hp → Prop
abbrev St := List (Option V)
abbrev VK := V → Hp → Prop
/-- an expression's reading; a test's; an argument list's -/
abbrev TE := St → Hp → VK → Prop
abbrev TT := St → Hp → (Bool → Hp → Prop) → Prop
abbrev TA := St → Hp → (List V → Hp → Prop) → Prop
/-- what is wanted behind a statement -/
structure Ends where
  nx : St → Hp → Prop
  rt : VK
  bk : St → Hp → Prop := fun _ _ => False
  ct : St → Hp → Prop := fun _ _ => False
abbrev TS := Ends → St → Hp → Prop

def EP (X : Cx) (pins : List (Addr × Obj)) (σ : St) (Q : VK) (u : Value) (s' : Shared) : Prop := ∃ v H', Inv X pins σ H' s' ∧ RelV v u ∧ Q v H'
def TP (X : Cx) (pins : List (Addr × Obj)) (σ : St) (Q : Bool → Hp → Prop) (b : Bool) (s' : Shared) : Prop := ∃ H', Inv X pins σ H' s' ∧ Q b H'
def AP (X : Cx) (pins : List (Addr × Obj)) (σ : St) (Q : List V → Hp → Prop) (us : List Value) (s' : Shared) : Prop := ∃ vs H', Inv X pins σ H' s' ∧ Vals vs us ∧ Q vs H'
def SP (X : Cx) (pins : List (Addr × Obj)) (D : Ends) (f : Flow) (s' : Shared) : Prop :=
  match f with
  | .next => ∃ σ' H', Inv X pins σ' H' s' ∧ D.nx σ' H'
  | .brk => ∃ σ' H', Inv X pins σ' H' s' ∧ D.bk σ' H'
  | .cont => ∃ σ' H', Inv X pins σ' H' s' ∧ D.ct σ' H'
  | .ret u => ∃ v σ' H', Inv X pins σ' H' s' ∧ RelV v u ∧ D.rt v H'

def PE (X : Cx) (e : Expr) (t : TE) : Prop :=
  ∀ (pins : List (Addr × Obj)) (s : Shared) (σ : St) (H : Hp) (Q : VK), Inv X pins σ H s → t σ H Q → wpAny (model X.prog X.w) X.A (eval e X.env) (EP X pins σ Q) X.xe s
def PT (X : Cx) (e : Expr) (t : TT) : Prop :=
  ∀ (pins : List (Addr × Obj)) (s : Shared) (σ : St) (H : Hp) (Q : Bool → Hp → Prop), Inv X pins σ H s → t σ H Q → wpAny (model X.prog X.w) X.A (isTrue e X.env (eval e X.env)) (TP X pins σ Q) X.xe s
/-- a test whatever its 'whole' is (and, or) -/
def PW (X : Cx) (e : Expr) (t : TT) : Prop :=
  ∀ (whole : Sem Value) (pins : List (Addr × Obj)) (s : Shared) (σ : St) (H : Hp) (Q : Bool → Hp → Prop), Inv X pins σ H s → t σ H Q → wpAny (model X.prog X.w) X.A (isTrue e X.env whole) (TP X pins σ Q) X.xe s
theorem PW.pt {X : Cx} {e : Expr} {t : TT} (h : PW X e t) : PT X e t := h _
/-- an argument list (no star), from the left -/
def PA (X : Cx) (es : List Expr) (t : TA) : Prop :=
  ∀ (pos : Pos) (pins : List (Addr × Obj)) (s : Shared) (σ : St) (H : Hp) (Q : List V → Hp → Prop), Inv X pins σ H s → t σ H Q → wpAny (model X.prog X.w) X.A (spliced (backTo pos (starEach es X.env))) (AP X pins σ Q) X.xe s
def PS (X : Cx) (st : Stmt) (t : TS) : Prop :=
  ∀ (pins : List (Addr × Obj)) (s : Shared) (σ : St) (H : Hp) (D : Ends), Inv X pins σ H s → t D σ H → wpAny (model X.prog X.w) X.A (exec st X.env) (SP X pins D) X.xe s
def PSs (X : Cx) (st : List Stmt) (t : TS) : Prop :=
  ∀ (pins : List (Addr × Obj)) (s : Shared) (σ : St) (H : Hp) (D : Ends), Inv X pins σ H s → t D σ H → wpAny (model X.prog X.w) X.A (execs st X.env) (SP X pins D) X.xe s
/-- weaken the end -/
theorem thn {α : Type} {t : Sem α} {Q Q' : α → Shared → Prop} {M : Model} {A : Around} {E : Value → Shared → Prop} {s : Shared} (h : wpAny M A t Q E s) (hQ : ∀ a s, Q a s → Q' a s) : wpAny M A t Q' E s := wpAny_mono h hQ fun _ _ x => x
end L2

namespace L2
open PySem PySem.Spec PyProof.Rows
section
variable {X : Cx}


/-! ### names and constants -/
def tVar (i : Nat) : TE := fun σ H Q => ∃ v, σ[i]? = some (some v) ∧ Q v H
def tC (v : V) : TE := fun _ H Q => Q v H
theorem pe_var {i : Nat} {x : Str} {pos : Pos} (hN : X.N[i]? = some x) (hv : Vis X.env.scope x) (hd : (x == ("__debug__" : Str)) = false := by decide) (hcd : (x == ("__classdict__" : Str)) = false := by decide) : PE X (.Name x pos) (tVar i) := by
  intro pins s σ H Q I h
  obtain ⟨v, e, h⟩ := h
  obtain ⟨m, hn, hl⟩ := I.loc
  obtain ⟨u, r, l⟩ := hl i x v hN e hv
  have fin : EP X pins σ Q u s := ⟨v, H, I, r, h⟩
  rcases l with ⟨hk, hm⟩ | ⟨hk, c, hc, hcell⟩
  · exact wpAny_Name (wpAny_loadName_local I.ok.kind hk hn hm fin) hd
  · rcases hk with hk | hk
    · exact wpAny_Name (wpAny_loadName_cell I.ok.kind hk hc hcell fin) hd
    · exact wpAny_Name (wpAny_loadName_free I.ok.kind hk hc hcell fin hcd) hd
theorem pe_int {i j pos} : PE X (.Constant (.int i) j pos) (tC (.int i)) := fun _ _ _ H _ I h => wpAny_Constant_int ⟨.int i, H, I.tok _, ⟨_, rfl⟩, h⟩
theorem pe_bl {b j pos} : PE X (.Constant (.bool b) j pos) (tC (.bl b)) := fun _ _ _ H _ I h => Constant_bool ⟨.bl b, H, I, rfl, h⟩

/-- a global name of the def -/
def Gl (X : Cx) (x : Str) : Prop := X.env.kindOf x = some .globalImplicit
theorem ld_glob {E : Value → Shared → Prop} {pins : List (Addr × Obj)} {s : Shared} {σ : St} {H : Hp} {x : Str} {u : Value} {pos : Pos} {Q : Value → Shared → Prop} (I : Inv X pins σ H s) (hg : Gl X x) (hm : X.mg x = some u) (h : Q u s)
    (hd : (x == ("__debug__" : Str)) = false := by decide) : wpAny (model X.prog X.w) X.A (eval (.Name x pos) X.env) Q E s :=
  Calls.Name_function_global I.ok.kind hg (Calls.loadGlobal_global (by rw [I.ok.glob]; exact I.mod.glob.keeps I.bk) hm h) hd
theorem ld_blt {E : Value → Shared → Prop} {pins : List (Addr × Obj)} {s : Shared} {σ : St} {H : Hp} {x : Str} {u : Value} {pos : Pos} {Q : Value → Shared → Prop} (I : Inv X pins σ H s) (hg : Gl X x) (hm : X.mg x = none) (hv : bootBuiltins x = some u) (h : Q u s)
    (hn : x ≠ "__name__" := by decide) (hd : (x == ("__debug__" : Str)) = false := by decide) : wpAny (model X.prog X.w) X.A (eval (.Name x pos) X.env) Q E s := by
  obtain ⟨mb, h1, h2⟩ := I.mod.blt
  exact Calls.Name_function_global I.ok.kind hg (Calls.loadGlobal_builtin (by rw [I.ok.glob]; exact I.mod.glob.keeps I.bk) hm (by rw [I.ok.blt]; exact h1.keeps I.bk) ((h2 x hn).trans hv) h) hd
/-- a module's constant, a class, a function, as a value -/
theorem pe_glob {x : Str} {v : V} {u : Value} {pos : Pos} (hg : Gl X x) (hm : X.mg x = some u) (r : RelV v u) (hd : (x == ("__debug__" : Str)) = false := by decide) : PE X (.Name x pos) (tC v) :=
  fun _ _ _ H _ I h => ld_glob I hg hm ⟨v, H, I, r, h⟩ hd
theorem pe_bltn {x : Str} {v : V} {u : Value} {pos : Pos} (hg : Gl X x) (hm : X.mg x = none) (hv : bootBuiltins x = some u) (r : RelV v u) (hn : x ≠ "__name__" := by decide) (hd : (x == ("__debug__" : Str)) = false := by decide) : PE X (.Name x pos) (tC v) :=
  fun _ _ _ H _ I h => ld_blt I hg hm hv ⟨v, H, I, r, h⟩ hn hd

/-! ### arithmetic -/
/-- two ints -/
def t2I (ta tb : TE) (k : Int → Int → Hp → Prop) : St → Hp → Prop := fun σ H => ta σ H fun x H1 => tb σ H1 fun y H2 => ∃ i j, x = .int i ∧ y = .int j ∧ k i j H2
variable {a b : Expr} {ta tb : TE} {pos : Pos}

/-! ### comparisons -/
def tCmp (p : Int → Int → Bool) (ta tb : TE) : TE := fun σ H Q => t2I ta tb (fun i j H2 => Q (.bl (p i j)) H2) σ H
abbrev tLt : TE → TE → TE := tCmp fun i j => decide (i < j)
abbrev tLe : TE → TE → TE := tCmp fun i j => decide (i ≤ j)
abbrev tGt : TE → TE → TE := tCmp fun i j => decide (j < i)
abbrev tGe : TE → TE → TE := tCmp fun i j => decide (j ≤ i)
abbrev tEqI : TE → TE → TE := tCmp fun i j => decide (i = j)
abbrev tNeI : TE → TE → TE := tCmp fun i j => !decide (i = j)

/-! ### and, or, not -/
variable {tA tB' : TT} {rest : List Expr}
def tAnd (t u : TT) : TT := fun σ H Q => t σ H fun c H1 => if c = true then u σ H1 Q else Q false H1
def tOr (t u : TT) : TT := fun σ H Q => t σ H fun c H1 => if c = true then Q true H1 else u σ H1 Q
def tNot (t : TT) : TT := fun σ H Q => t σ H fun c H1 => Q (!c) H1
theorem pw_and1 (ha : PT X a tA) : PW X (.BoolOp .And [a] pos) tA := by
  intro wh pins s σ H Q I h
  refine isTrue_and (thn (ha pins s σ H Q I h) fun c s1 e => ?_)
  cases c with
  | true => exact isTrue_and_nil e
  | false => exact e
theorem pw_or1 (ha : PT X a tA) : PW X (.BoolOp .Or [a] pos) tA := by
  intro wh pins s σ H Q I h
  refine isTrue_or (thn (ha pins s σ H Q I h) fun c s1 e => ?_)
  cases c with
  | false => exact isTrue_or_nil e
  | true => exact e
theorem pw_and (ha : PT X a tA) (hb : PW X (.BoolOp .And (b :: rest) pos) tB') : PW X (.BoolOp .And (a :: b :: rest) pos) (tAnd tA tB') := by
  intro wh pins s σ H Q I h
  refine isTrue_and (thn (ha pins s σ H _ I h) fun c s1 ⟨H1, I1, q1⟩ => ?_)
  cases c with
  | true => exact hb wh pins s1 σ H1 Q I1 q1
  | false => exact ⟨H1, I1, q1⟩
theorem pw_or (ha : PT X a tA) (hb : PW X (.BoolOp .Or (b :: rest) pos) tB') : PW X (.BoolOp .Or (a :: b :: rest) pos) (tOr tA tB') := by
  intro wh pins s σ H Q I h
  refine isTrue_or (thn (ha pins s σ H _ I h) fun c s1 ⟨H1, I1, q1⟩ => ?_)
  cases c with
  | true => exact ⟨H1, I1, q1⟩
  | false => exact hb wh pins s1 σ H1 Q I1 q1
theorem pt_not (ha : PT X a tA) : PT X (.UnaryOp .Not a pos) (tNot tA) := by
  intro pins s σ H Q I h
  exact isTrue_not (ha pins s σ H (fun c H1 => Q (!c) H1) I h)
/-- .. as values (bools) -/
def tAndV (ta tb : TE) : TE := fun σ H Q => ta σ H fun x H1 => ∃ c, x = .bl c ∧ if c = true then tb σ H1 Q else Q (.bl false) H1
theorem pe_one {op} {t : TE} (h : PE X a t) : PE X (.BoolOp op [a] pos) t := fun pins s σ H Q I hw => BoolOp_one (h pins s σ H Q I hw)
theorem pe_and (ha : PE X a ta) (hb : PE X (.BoolOp .And (b :: rest) pos) tb) : PE X (.BoolOp .And (a :: b :: rest) pos) (tAndV ta tb) := by
  intro pins s σ H Q I h
  refine BoolOp_and (thn (ha pins s σ H _ I h) fun v s1 ⟨x, H1, I1, r1, q1⟩ => ?_)
  obtain ⟨c, rfl, q1⟩ := q1
  cases r1
  refine wpAny_truthy_bool ?_
  cases c with
  | true => exact hb pins s1 σ H1 Q I1 q1
  | false => exact ⟨.bl false, H1, I1, rfl, q1⟩
/-- a if t else b -/
def tIf (t : TT) (ta tb : TE) : TE := fun σ H Q => t σ H fun c H1 => if c = true then ta σ H1 Q else tb σ H1 Q
theorem pe_ifExp {c : Expr} (hc : PT X c tA) (ha : PE X a ta) (hb : PE X b tb) : PE X (.IfExp c a b pos) (tIf tA ta tb) := by
  intro pins s σ H Q I h
  refine wpAny_IfExp (thn (hc pins s σ H _ I h) fun d s1 ⟨H1, I1, q1⟩ => ?_)
  cases d with
  | true => exact ha pins s1 σ H1 Q I1 q1
  | false => exact hb pins s1 σ H1 Q I1 q1
end
end L2

namespace L2
open PySem PySem.Spec PyProof.Rows

/-! ### a list, a tuple that is read: tracked, frozen, or an object of the module -/
def SqL (K : PySem.W.Frag) (H : Hp) (a : Addr) (xs : List V) : Prop :=
  Rd H a (.lst xs) ∨
    ∃ (o : Obj) (its : Array Value) (n : Nat), K.lookup a = some o ∧ o.cls = .type "list" ∧ o.dict = none ∧ o.data = .seq its n ∧ its.size ≤ sizeLine ∧ Vals xs its.toList
def SqT (K : PySem.W.Frag) (H : Hp) (a : Addr) (xs : List V) : Prop :=
  Rd H a (.tup xs) ∨
    ∃ (o : Obj) (its : Array Value) (n : Nat), K.lookup a = some o ∧ o.cls = .type "tuple" ∧ o.data = .seq its n ∧ its.size ≤ sizeLine ∧ Vals xs its.toList
def absV : Value → Option V
  | .none => some .non
  | .bool b => some (.bl b)
  | .int i _ => some (.int i)
  | .str x _ => some (.str x)
  | .bytes b _ => some (.byt b)
  | .float b _ => some (.flt b)
  | .ref a => some (.ref a)
  | .type n => some (.ty n)
  | _ => none
theorem RelV.abs {x : V} {u : Value} (r : RelV x u) : absV u = some x := by
  cases x with
  | non => cases r; rfl
  | bl _ => cases r; rfl
  | int _ => obtain ⟨t, rfl⟩ := r; rfl
  | str _ => obtain ⟨t, rfl⟩ := r; rfl
  | byt _ => obtain ⟨t, rfl⟩ := r; rfl
  | flt _ => obtain ⟨t, rfl⟩ := r; rfl
  | ref _ => cases r; rfl
  | ty _ => cases r; rfl
theorem RelV.inj {x y : V} {u : Value} (r : RelV x u) (q : RelV y u) : x = y := Option.some.inj (r.abs.symm.trans q.abs)
theorem Vals.inj : ∀ {xs ys : List V} {us : List Value}, Vals xs us → Vals ys us → xs = ys
  | _, _, _, .nil, .nil => rfl
  | _, _, _, .cons r t, .cons r' t' => by rw [r.inj r', Vals.inj t t']
section
variable {X : Cx} {pins : List (Addr × Obj)} {σ : St} {H : Hp} {s : Shared} {a : Addr} {xs ys : List V}
theorem SqL.of {K : PySem.W.Frag} (h : H a = some (.lst xs)) : SqL K H a xs := .inl (.inl h)
theorem SqT.of {K : PySem.W.Frag} (h : H a = some (.tup xs)) : SqT K H a xs := .inl (.inl h)
theorem Inv.list (I : Inv X pins σ H s) (h : SqL X.K H a xs) : ∃ its : List Value, Vals xs its ∧ PlainL s.heap a its.toArray ∧ xs.length ≤ sizeLine := by
  rcases h with h | ⟨o, its, n, hk, hc, hd, hs, hz, r⟩
  · obtain ⟨z, its, n, r, e⟩ := h.ok I.hok
    exact ⟨its, r, ⟨_, n, e, rfl, rfl, rfl⟩, z⟩
  · refine ⟨its.toList, r, ⟨o, n, I.kIn a o hk, hc, hd, by simpa using hs⟩, ?_⟩
    have e := r.length
    simp only [Array.length_toList] at e
    (first | lia | omega)
theorem Inv.tuple (I : Inv X pins σ H s) (h : SqT X.K H a xs) : ∃ its : List Value, Vals xs its ∧ IsTup s.heap a its.toArray ∧ xs.length ≤ sizeLine := by
  rcases h with h | ⟨o, its, n, hk, hc, hs, hz, r⟩
  · obtain ⟨z, its, r, p⟩ := h.ok I.hok
    exact ⟨its, r, p, z⟩
  · refine ⟨its.toList, r, ⟨o, I.kIn a o hk, hc, n, by simpa using hs⟩, ?_⟩
    have e := r.length
    simp only [Array.length_toList] at e
    (first | lia | omega)
theorem Inv.list_inj (I : Inv X pins σ H s) (h : SqL X.K H a xs) (h' : SqL X.K H a ys) : xs = ys := by
  obtain ⟨its, r, ⟨o, n, e, _, _, d⟩, _⟩ := I.list h
  obtain ⟨its', r', ⟨o', n', e', _, _, d'⟩, _⟩ := I.list h'
  rw [e] at e'; cases e'
  rw [d] at d'
  injection d' with d1 _
  have : its = its' := by simpa using congrArg Array.toList d1
  subst this
  exact r.inj r'
theorem Inv.tuple_inj (I : Inv X pins σ H s) (h : SqT X.K H a xs) (h' : SqT X.K H a ys) : xs = ys := by
  obtain ⟨its, r, ⟨o, e, _, n, d⟩, _⟩ := I.tuple h
  obtain ⟨its', r', ⟨o', e', _, n', d'⟩, _⟩ := I.tuple h'
  rw [e] at e'; cases e'
  rw [d] at d'
  injection d' with d1 _
  have : its = its' := by simpa using congrArg Array.toList d1
  subst this
  exact r.inj r'
end

/-! ### another wish about exceptions -/
abbrev Cx.wish (X : Cx) (E : Value → Shared → Prop) : Cx := { X with xe := E }
/-- no exception leaves -/
abbrev Cx.nox (X : Cx) : Cx := X.wish fun _ _ => False
theorem Cx.Ok.wish {X : Cx} (ok : X.Ok) (E : Value → Shared → Prop) : (X.wish E).Ok :=
  ⟨ok.mod, ok.kind, ok.glob, ok.blt, ok.above, ok.inj, ok.has, ok.cab, ok.hd, ok.frames, ok.stk, ok.exf, ok.bs, ok.bsz, ok.noex, ok.exfs, ok.funs, ok.frf⟩
theorem Cx.Ok.unwish {X : Cx} {E : Value → Shared → Prop} (ok : (X.wish E).Ok) : X.Ok :=
  ⟨ok.mod, ok.kind, ok.glob, ok.blt, ok.above, ok.inj, ok.has, ok.cab, ok.hd, ok.frames, ok.stk, ok.exf, ok.bs, ok.bsz, ok.noex, ok.exfs, ok.funs, ok.frf⟩
section
variable {X : Cx} {pins : List (Addr × Obj)} {σ : St} {H : Hp} {s : Shared} {E : Value → Shared → Prop}
theorem Inv.wish (I : Inv X pins σ H s) (E : Value → Shared → Prop) : Inv (X.wish E) pins σ H s := ⟨I.ok.wish E, I.os, I.bare, I.base, I.loc, I.cell, I.free, I.freeC, I.pin, I.hok, I.len⟩
theorem Inv.unwish (I : Inv (X.wish E) pins σ H s) : Inv X pins σ H s := ⟨I.ok.unwish, I.os, I.bare, I.base, I.loc, I.cell, I.free, I.freeC, I.pin, I.hok, I.len⟩
theorem SP.unwish {D : Ends} {f : Flow} {s' : Shared} (h : SP (X.wish E) pins D f s') : SP X pins D f s' := by
  cases f with
  | next => obtain ⟨σ', H', I, q⟩ := h; exact ⟨σ', H', I.unwish, q⟩
  | brk => obtain ⟨σ', H', I, q⟩ := h; exact ⟨σ', H', I.unwish, q⟩
  | cont => obtain ⟨σ', H', I, q⟩ := h; exact ⟨σ', H', I.unwish, q⟩
  | ret u => obtain ⟨v, σ', H', I, r, q⟩ := h; exact ⟨v, σ', H', I.unwish, r, q⟩
theorem PSs.nox {st : List Stmt} {t : TS} (h : PSs X.nox st t) : PSs X st t := fun pins s σ H D I hw =>
  wpAny_mono (h pins s σ H D (I.wish _) hw) (fun _ _ q => q.unwish) fun _ _ z => False.elim z
end

/-! ### blocks and small statements -/
section
variable {X : Cx} {st : Stmt} {rest : List Stmt} {t u : TS} {e : Expr} {te : TE} {pos : Pos}
def tNext : TS := fun D σ H => D.nx σ H
def tSeq (t u : TS) : TS := fun D σ H => t { D with nx := u D } σ H
theorem pss_nil : PSs X [] tNext := fun _ _ σ H _ I h => wpAny_execs_nil ⟨σ, H, I, h⟩
theorem pss_cons (h1 : PS X st t) (h2 : PSs X rest u) : PSs X (st :: rest) (tSeq t u) := by
  intro pins s σ H D I h
  refine wpAny_execs_cons (thn (h1 pins s σ H { D with nx := u D } I h) fun f s1 q => ?_)
  cases f with
  | next =>
    obtain ⟨σ', H', I', q⟩ := q
    exact h2 pins s1 σ' H' D I' q
  | ret v => exact q
  | brk => exact q
  | cont => exact q
theorem pss_one (h1 : PS X st t) : PSs X [st] t := by
  intro pins s σ H D I h
  refine wpAny_execs_cons (thn (h1 pins s σ H D I h) fun f s1 q => ?_)
  cases f with
  | next => exact wpAny_execs_nil q
  | ret v => exact q
  | brk => exact q
  | cont => exact q
def tBreak : TS := fun D σ H => D.bk σ H
theorem ps_break : PS X (.Break pos) tBreak := fun _ _ σ H _ I h => wpAny_Break ⟨σ, H, I, h⟩
/-- in a def's body nothing is shown -/
theorem Inv.quiet {pins : List (Addr × Obj)} {σ : St} {H : Hp} {s : Shared} (I : Inv X pins σ H s) : interactive X.env = false := by simp [interactive, I.ok.kind]
/-- an expression whose value is dropped -/
def tDrop (te : TE) : TS := fun D σ H => te σ H fun _ H1 => D.nx σ H1
theorem ps_expr (he : PE X e te) (hs : swapsWith e none pos.line X.env = pure false := by rfl) : PS X (.Expr e pos) (tDrop te) := by
  intro pins s σ H D I h
  exact wpAny_Expr_any (thn (he pins s σ H _ I h) fun v s1 ⟨x, H1, I1, r1, q1⟩ => ⟨σ, H1, I1, q1⟩) I.quiet hs
def tRet (te : TE) : TS := fun D σ H => te σ H D.rt
theorem ps_ret (he : PE X e te) : PS X (.Return (some e) pos) (tRet te) := by
  intro pins s σ H D I h
  exact wpAny_Return_some (thn (he pins s σ H _ I h) fun v s1 ⟨x, H1, I1, r1, q1⟩ => ⟨x, σ, H1, I1, r1, q1⟩)
def tIfS (c : TT) (t u : TS) : TS := fun D σ H => c σ H fun b H1 => if b = true then t D σ H1 else u D σ H1
theorem ps_if {c : Expr} {a b : List Stmt} {tc : TT} (hc : PT X c tc) (ha : PSs X a t) (hb : PSs X b u) : PS X (.If c a b pos) (tIfS tc t u) := by
  intro pins s σ H D I h
  refine wpAny_If (thn (hc pins s σ H _ I h) fun d s1 ⟨H1, I1, q1⟩ => ?_)
  cases d with
  | true => exact ha pins s1 σ H1 D I1 q1
  | false => exact hb pins s1 σ H1 D I1 q1
end

/-! ### targets -/
abbrev TG := V → St → Hp → (St → Hp → Prop) → Prop
abbrev TGs := List V → St → Hp → (St → Hp → Prop) → Prop
def PG (X : Cx) (target : Expr) (t : TG) : Prop :=
  ∀ (pins : List (Addr × Obj)) (s : Shared) (σ : St) (H : Hp) (v : V) (u : Value) (Q : St → Hp → Prop), Inv X pins σ H s → RelV v u → t v σ H Q →
    wpAny (model X.prog X.w) X.A (assign target X.env u) (fun _ s' => ∃ σ' H', Inv X pins σ' H' s' ∧ Q σ' H') X.xe s
/-- several targets, one after another -/
def PGs (X : Cx) (ts : List Expr) (t : TGs) : Prop :=
  ∀ (pins : List (Addr × Obj)) (s : Shared) (σ : St) (H : Hp) (vs : List V) (us : List Value) (Q : St → Hp → Prop), Inv X pins σ H s → Vals vs us → t vs σ H Q →
    wpAny (model X.prog X.w) X.A (assignInOrder ((assignEach ts X.env).map (·.2)) us) (fun _ s' => ∃ σ' H', Inv X pins σ' H' s' ∧ Q σ' H') X.xe s
/-- o[i] = v, by values -/
abbrev TSet := V → V → V → Hp → (Hp → Prop) → Prop
def PSet (X : Cx) (t : TSet) : Prop :=
  ∀ (pins : List (Addr × Obj)) (s : Shared) (σ : St) (H : Hp) (o i v : V) (ov iv u : Value) (Q : Hp → Prop), Inv X pins σ H s → RelV o ov → RelV i iv → RelV v u → t o i v H Q →
    wpAny (model X.prog X.w) X.A (setItem ov iv u) (fun _ s' => ∃ H', Inv X pins σ H' s' ∧ Q H') X.xe s
/-- a op= b, by values -/
abbrev TIp := V → V → Hp → VK → Prop
def PIp (X : Cx) (op : Operator) (t : TIp) : Prop :=
  ∀ (pins : List (Addr × Obj)) (s : Shared) (σ : St) (H : Hp) (x y : V) (v u : Value) (Q : VK), Inv X pins σ H s → RelV x v → RelV y u → t x y H Q →
    wpAny (model X.prog X.w) X.A (inplaceOp op v u) (EP X pins σ Q) X.xe s
section
variable {X : Cx} {pos : Pos}
def gName (i : Nat) : TG := fun v σ H Q => Q (σ.set i (some v)) H
theorem pg_name {i : Nat} {x : Str} (hN : X.N.Nodup) (hi : X.N[i]? = some x) (hx : Loc X.env.scope x) (hf : X.fn x = true ∨ X.env.scope.names.lookup x = some .local := by first | exact .inl rfl | exact .inr rfl | assumption) : PG X (.Name x pos) (gName i) := by
  intro pins s σ H v u Q I r h
  exact wpAny_assign_Name (store_ok I hN hi hx r (fun s' I' => ⟨_, H, I', h⟩) hf)
def gNil : TGs := fun vs σ H Q => vs = [] ∧ Q σ H
def gCons (t : TG) (u : TGs) : TGs := fun vs σ H Q => ∃ v r, vs = v :: r ∧ t v σ H fun σ' H' => u r σ' H' Q
theorem pgs_nil : PGs X [] gNil := by
  intro pins s σ H vs us Q I r h
  obtain ⟨e, h⟩ := h
  subst e
  cases r
  exact assignInOrder_nil ⟨σ, H, I, h⟩
theorem pgs_cons {e : Expr} {es : List Expr} {t : TG} {u : TGs} (h1 : PG X e t) (h2 : PGs X es u)
    (hs : (assignEach (e :: es) X.env).map (·.2) = assign e X.env :: (assignEach es X.env).map (·.2) := by rfl) : PGs X (e :: es) (gCons t u) := by
  intro pins s σ H vs us Q I r h
  obtain ⟨v, vr, e1, h⟩ := h
  subst e1
  cases r with
  | cons r rr =>
    rw [hs]
    refine assignInOrder_cons (thn (h1 pins s σ H _ _ _ I r h) fun _ s1 ⟨σ1, H1, I1, q1⟩ => ?_)
    exact h2 pins s1 σ1 H1 _ _ Q I1 rr q1
/-- (a, b, ..) = a tuple of that length -/
def gTup (K : PySem.W.Frag) (n : Nat) (t : TGs) : TG := fun v σ H Q => ∃ a xs, v = .ref a ∧ SqT K H a xs ∧ xs.length = n ∧ t xs σ H Q
theorem pg_tup {es : List Expr} {k : Nat} {t : TGs} {n : Nat} (hc : X.calm = true) (h : PGs X es t)
    (hn : (assignEach es X.env).length = n := by rfl) (hst : (assignEach es X.env).findIdx? (·.1) = none := by rfl) : PG X (.Tuple es k pos) (gTup X.K n t) := by
  intro pins s σ H v u Q I r hw
  obtain ⟨a, xs, e1, hq, hl, hw⟩ := hw
  subst e1
  cases r
  obtain ⟨its, rv, ht, hz⟩ := I.tuple hq
  refine assign_Tuple_tuple (I.ok.hd hc) ht (by simp [hn, ← hl, rv.length]) hst fun h' hx => ?_
  have I1 : Inv X pins σ H { s with heap := h' } := I.kept (t' := s.toks) fun b o e => hx b o (Nat.ne_of_lt (Heap.lt_size e)) e
  exact h pins _ σ H xs _ Q I1 (by simpa using rv) hw
/-- o[i] = .. -/
def gSub (to ti : TE) (t : TSet) : TG := fun v σ H Q => to σ H fun o H1 => ti σ H1 fun i H2 => t o i v H2 fun H3 => Q σ H3
theorem pg_sub {o i : Expr} {to ti : TE} {t : TSet} (ho : PE X o to) (hi : PE X i ti) (hs : PSet X t)
    (ha : ∀ v, assign (.Subscript o i pos) X.env v = (do
      let ov ← holding [v] (eval o X.env)
      let iv ← holding [v, ov] (eval i X.env)
      standAt pos
      holding [v, ov, iv] (setItem ov iv v)
      release [v, ov, iv] []) := by intro _; rfl) : PG X (.Subscript o i pos) (gSub to ti t) := by
  intro pins s σ H v u Q I r h
  rw [ha]
  refine wpAny_bind (wpAny_holding (thn (ho pins s σ H _ I h) fun ov s1 ⟨x, H1, I1, r1, q1⟩ => ?_))
  refine wpAny_bind (wpAny_holding (thn (hi pins s1 σ H1 _ I1 q1) fun iv s2 ⟨y, H2, I2, r2, q2⟩ => ?_))
  refine wpAny_bind (wpAny_standAt (wpAny_bind (wpAny_holding (thn (hs pins s2 σ H2 x y v ov iv u _ I2 r1 r2 r q2) fun _ s3 ⟨H3, I3, q3⟩ => ?_))))
  exact wpAny_release ⟨σ, H3, I3, q3⟩
/-- target = value -/
def tAsg (te : TE) (g : TG) : TS := fun D σ H => te σ H fun x H1 => g x σ H1 D.nx
theorem ps_asg {tg e : Expr} {te : TE} {g : TG} (he : PE X e te) (hg : PG X tg g) (hs : swapsWithSole [tg] e pos.line X.env = pure false := by rfl) (hw : swappedStores [tg] e X.env = pure none := by rfl)
    (h1 : (assignEach [tg] X.env).map (·.2) = [assign tg X.env] := by rfl) : PS X (.Assign [tg] e pos) (tAsg te g) := by
  intro pins s σ H D I h
  refine wpAny_Assign_stores (thn (he pins s σ H _ I h) fun v s1 ⟨x, H1, I1, r1, q1⟩ => ?_) hs hw
  rw [h1]
  exact thn (hg pins s1 σ H1 x v _ I1 r1 q1) fun _ s2 q => q
/-- name = value -/
theorem ps_set {i : Nat} {x : Str} {e : Expr} {te : TE} {pos' : Pos} (hN : X.N.Nodup) (hi : X.N[i]? = some x) (hx : Loc X.env.scope x) (he : PE X e te) (hs : swapsWith e (some (.Name x pos')) pos.line X.env = pure false := by rfl) (hf : X.fn x = true ∨ X.env.scope.names.lookup x = some .local := by first | exact .inl rfl | exact .inr rfl | assumption) :
    PS X (.Assign [.Name x pos'] e pos) (tAsg te (gName i)) := by
  intro pins s σ H D I h
  refine wpAny_Assign_Name (thn (he pins s σ H _ I h) fun v s1 ⟨y, H1, I1, r1, q1⟩ => ?_) hs
  exact store_ok I1 hN hi hx r1 (fun s2 I2 => ⟨_, H1, I2, q1⟩) hf
/-- a, b = x, y with plain local names: stored from the right; the pair itself is not tracked (the opening rows as in PyProof/Rows/TupAssign.lean:23) -/
def tPar (i j : Nat) (ta : TA) : TS := fun D σ H => ta σ H fun vs H1 => ∃ v w, vs = [v, w] ∧ D.nx ((σ.set i (some v)).set j (some w)) H1
theorem ps_par {i j : Nat} {x y : Str} {a b : Expr} {ta : TA} {px py pt : Pos} {kt k2 pt2} (hc : X.calm = true) (hN : X.N.Nodup) (hi : X.N[i]? = some x) (hj : X.N[j]? = some y) (hij : i ≠ j)
    (hx : X.env.scope.names.lookup x = some .local) (hy : X.env.scope.names.lookup y = some .local) (ha : PA X [a, b] ta)
    (hw : swappedStores [.Tuple [.Name x px, .Name y py] kt pt] (.Tuple [a, b] k2 pt2) X.env = pure (some [x, y]))
    (hs : swapsWithSole [.Tuple [.Name x px, .Name y py] kt pt] (.Tuple [a, b] k2 pt2) pos.line X.env = pure false := by rfl) :
    PS X (.Assign [.Tuple [.Name x px, .Name y py] kt pt] (.Tuple [a, b] k2 pt2) pos) (tPar i j ta) := by
  intro pins s σ H D I h
  rw [exec_Assign_arm]
  refine wpAny_bind (wpAny_standAt ?_)
  rw [hs]
  refine wpAny_bind (wpAny_pure ?_)
  rw [if_neg (by decide)]
  refine wpAny_bind (Tuple_ (thn (ha _ pins s σ H _ I h) fun us s1 ⟨vs, H1, I1, r1, q1⟩ => ?_))
  obtain ⟨v, w, e1, q1⟩ := q1
  subst e1
  obtain ⟨u1, u2, rfl, rv, rw'⟩ : ∃ u1 u2, us = [u1, u2] ∧ RelV v u1 ∧ RelV w u2 := by
    cases r1 with
    | cons p q =>
      cases q with
      | cons p' q' =>
        cases q'
        exact ⟨_, _, rfl, p, p'⟩
  refine wpAny_newObj_type ?_ (by show 2 ≤ sizeLine; decide)
  have I2 : Inv X pins σ H1 { s1 with heap := s1.heap.push { cls := .type "tuple", data := .seq [u1, u2].toArray } } := I1.kept (t' := s1.toks) fun b o e => Heap.get?_push_of_some _ e
  rw [hw]
  refine wpAny_bind (wpAny_pure ?_)
  show wpAny (model X.prog X.w) X.A (do rule "assign.swapped-stores"; let items ← unpackItems (.ref s1.heap.objs.size) 2 none; assignInOrder [fun v => bindName X.env y v, fun v => bindName X.env x v] items.reverse; pure Flow.next) _ _ _
  refine wpAny_bind (wpAny_rule (wpAny_bind (unpackItems_tuple (items := #[u1, u2]) (I.ok.hd hc) (IsTup.new s1.heap _) fun h' hx' => ?_)))
  have I3 := I2.kept (h' := h') (t' := s1.toks) fun b o e => hx' b o (Nat.ne_of_lt (Heap.lt_size e)) e
  show wpAny _ _ (assignInOrder [fun v => bindName X.env y v, fun v => bindName X.env x v] [u2, u1] >>= fun _ => pure Flow.next) _ _ _
  refine wpAny_bind (assignInOrder_cons (wpAny_bindName (store_ok I3 hN hj (.inl hy) rw' (fun s2 I4 => ?_) (.inr hy))))
  refine assignInOrder_cons (wpAny_bindName (store_ok I4 hN hi (.inl hx) rv (fun s3 I5 => assignInOrder_nil (wpAny_pure ?_)) (.inr hx)))
  rw [List.set_comm _ _ (Ne.symm hij)] at I5
  exact ⟨_, H1, I5, q1⟩
/-- name op= e -/
def tAug (i : Nat) (te : TE) (ti : TIp) : TS := fun D σ H => ∃ x, σ[i]? = some (some x) ∧ te σ H fun y H1 => ti x y H1 fun z H2 => D.nx (σ.set i (some z)) H2
theorem ps_aug {i : Nat} {x : Str} {e : Expr} {te : TE} {op : Operator} {ti : TIp} {pos' : Pos} (hN : X.N.Nodup) (hi : X.N[i]? = some x) (hx : Loc X.env.scope x) (he : PE X e te) (ho : PIp X op ti) (hf : X.fn x = true ∨ X.env.scope.names.lookup x = some .local := by first | exact .inl rfl | exact .inr rfl | assumption) :
    PS X (.AugAssign (.Name x pos') op e pos) (tAug i te ti) := by
  intro pins s σ H D I h
  obtain ⟨v, e1, h⟩ := h
  obtain ⟨m, hn, hl⟩ := I.loc
  have vis : Vis X.env.scope x := by rcases hx with k | k; exact .inl k; exact .inr (.inl k)
  obtain ⟨u, r, l⟩ := hl i x v hi e1 vis
  refine wpAny_AugAssign_Name ?_
  have go : wpAny (model X.prog X.w) X.A (eval e X.env) (fun w s₂ => wpAny (model X.prog X.w) X.A (inplaceOp op u w) (fun r s₃ => wpAny (model X.prog X.w) X.A (storeName X.env x r) (fun _ => SP X pins D .next) X.xe s₃) X.xe s₂) X.xe s := by
    refine thn (he pins s σ H _ I h) fun w s1 ⟨y, H1, I1, r1, q1⟩ => ?_
    refine thn (ho pins s1 σ H1 v y u w _ I1 r r1 q1) fun z s2 ⟨zv, H2, I2, r2, q2⟩ => ?_
    exact store_ok I2 hN hi hx r2 (fun s3 I3 => ⟨_, H2, I3, q2⟩) hf
  rcases l with ⟨hk, hm⟩ | ⟨hk, c, hc, hcell⟩
  · exact wpAny_loadName_local I.ok.kind hk hn hm go
  · rcases hk with hk | hk
    · exact wpAny_loadName_cell I.ok.kind hk hc hcell go
    · rcases hx with k | k
      · have : X.env.scope.names.lookup x = some .free := hk
        rw [k] at this; cases this
      · have : X.env.scope.names.lookup x = some .free := hk
        rw [k] at this; cases this
/-- o[i] op= e -/
def tAugS (to ti te : TE) (tget : V → V → Hp → VK → Prop) (tip : TIp) (tset : TSet) : TS := fun D σ H => to σ H fun o H1 => ti σ H1 fun i H2 => tget o i H2 fun x H3 => te σ H3 fun y H4 => tip x y H4 fun z H5 => tset o i z H5 fun H6 => D.nx σ H6
/-- o[i], by values -/
def PGet (X : Cx) (t : V → V → Hp → VK → Prop) : Prop :=
  ∀ (pins : List (Addr × Obj)) (s : Shared) (σ : St) (H : Hp) (o i : V) (ov iv : Value) (Q : VK), Inv X pins σ H s → RelV o ov → RelV i iv → t o i H Q →
    wpAny (model X.prog X.w) X.A (getItem ov iv) (EP X pins σ Q) X.xe s
theorem ps_augS {o i e : Expr} {to ti te : TE} {tget : V → V → Hp → VK → Prop} {tip : TIp} {tset : TSet} {op : Operator} {tpos : Pos} (ho : PE X o to) (hi : PE X i ti) (hg : PGet X tget) (he : PE X e te) (hp : PIp X op tip) (hs : PSet X tset)
    (ha : ∀ ov iv new, augStore i ov iv new = (do holding [new, ov, iv] (setItem ov iv new); release [new, ov, iv] []; pure .next) := by intros; rfl) : PS X (.AugAssign (.Subscript o i tpos) op e pos) (tAugS to ti te tget tip tset) := by
  intro pins s σ H D I h
  refine wpAny_AugAssign_SubscriptAny (thn (ho pins s σ H _ I h) fun ov s1 ⟨x1, H1, I1, r1, q1⟩ => ?_) ha
  refine thn (hi pins s1 σ H1 _ I1 q1) fun iv s2 ⟨x2, H2, I2, r2, q2⟩ => ?_
  refine thn (hg pins s2 σ H2 x1 x2 ov iv _ I2 r1 r2 q2) fun old s3 ⟨x3, H3, I3, r3, q3⟩ => ?_
  refine thn (he pins s3 σ H3 _ I3 q3) fun v s4 ⟨x4, H4, I4, r4, q4⟩ => ?_
  refine thn (hp pins s4 σ H4 x3 x4 old v _ I4 r3 r4 q4) fun new s5 ⟨x5, H5, I5, r5, q5⟩ => ?_
  exact thn (hs pins s5 σ H5 x1 x2 x5 ov iv new _ I5 r1 r2 r5 q5) fun _ s6 ⟨H6, I6, q6⟩ => ⟨σ, H6, I6, q6⟩
/-- ints -/
def ipI (f : Int → Int → Int) : TIp := fun x y H Q => ∃ i j, x = .int i ∧ y = .int j ∧ Q (.int (f i j)) H
theorem ip_add : PIp X .Add (ipI fun i j => i + j) := by
  intro pins s σ H x y v u Q I r1 r2 h
  obtain ⟨i, j, e1, e2, q⟩ := h
  subst e1; subst e2
  obtain ⟨t, rfl⟩ := r1
  obtain ⟨t', rfl⟩ := r2
  exact iadd_int ⟨.int _, H, I.tok _, ⟨_, rfl⟩, q⟩
theorem ip_sub : PIp X .Sub (ipI fun i j => i - j) := by
  intro pins s σ H x y v u Q I r1 r2 h
  obtain ⟨i, j, e1, e2, q⟩ := h
  subst e1; subst e2
  obtain ⟨t, rfl⟩ := r1
  obtain ⟨t', rfl⟩ := r2
  exact isub_int ⟨.int _, H, I.tok _, ⟨_, rfl⟩, q⟩
end

/-! ### while -/
section
variable {X : Cx} {pos : Pos}
/-- the invariant W with its measure -/
def tWhile (c : TT) (tb : TS) : TS := fun D σ H => ∃ W : Nat → St → Hp → Prop, (∃ m, W m σ H) ∧ ∀ m σ H, W m σ H →
  c σ H fun b H1 => if b = true then ∃ N : St → Hp → Prop, (∀ σ' H', N σ' H' → ∃ m', m' < m ∧ W m' σ' H') ∧ tb { D with nx := N, ct := N, bk := D.nx } σ H1 else D.nx σ H1
theorem ps_while {c : Expr} {body : List Stmt} {tc : TT} {tb : TS} (hp : PassesOwn (model X.prog X.w) X.A X.env X.xe) (hc : PT X c tc) (hb : PSs X body tb) : PS X (.While c body [] pos) (tWhile tc tb) := by
  intro pins s σ H D I h
  obtain ⟨W, ⟨m0, w0⟩, turn⟩ := h
  refine wpAny_While (codeAny_whileLoop (fun n s' => ∃ σ' H', Inv X pins σ' H' s' ∧ W n σ' H') ?_ m0 ⟨σ, H, I, w0⟩)
  rintro n s1 ⟨σ1, H1, I1, w1⟩
  refine wpAny_passesOwn hp (thn (hc pins s1 σ1 H1 _ I1 (turn n σ1 H1 w1)) fun b s2 ⟨H2, I2, q2⟩ => ?_)
  cases b with
  | true =>
    obtain ⟨N, hN, q2⟩ := q2
    rw [if_pos rfl]
    refine wpAny_passesOwn hp (thn (hb pins s2 σ1 H2 _ I2 q2) fun f s3 q3 => ?_)
    cases f with
    | next =>
      obtain ⟨σ3, H3, I3, n3⟩ := q3
      obtain ⟨m', hm, w3⟩ := hN σ3 H3 n3
      exact ⟨m', hm, σ3, H3, I3, w3⟩
    | cont =>
      obtain ⟨σ3, H3, I3, n3⟩ := q3
      obtain ⟨m', hm, w3⟩ := hN σ3 H3 n3
      exact ⟨m', hm, σ3, H3, I3, w3⟩
    | brk => exact q3
    | ret v => exact q3
  | false =>
    rw [if_neg Bool.false_ne_true]
    exact wpAny_execs_nil ⟨σ1, H2, I2, q2⟩
end

/-! ### what a loop or a comprehension walks -/
/-- at turn i: it yields x (the heap may grow), or it stops -/
structure It where
  go : Nat → Hp → Prop
  yld : Nat → Hp → V → Hp → Prop
  stop : Nat → Hp → Prop
/-- the iterator's own objects may turn: they are not the frame's, not pinned, younger than the entry (or a comprehension's own) -/
def FpOk (X : Cx) (pins : List (Addr × Obj)) (H : Hp) (b : Addr) : Prop :=
  H b = none ∧ b ≠ X.env.locals ∧ b ∉ X.fs ∧ (b ∈ X.ex ∨ X.s₀.heap.objs.size ≤ b) ∧ (∀ x c, X.env.cells.lookup x = some c → c ≠ b) ∧ ∀ p ∈ X.pn ++ pins, p.1 ≠ b
theorem Inv.fpOk {X : Cx} {pins : List (Addr × Obj)} {σ : St} {H H' : Hp} {s : Shared} {b : Addr} (I : Inv X pins σ H s) (hb : s.heap.objs.size ≤ b) (hn : H' b = none) : FpOk X pins H' b := by
  refine ⟨hn, Nat.ne_of_gt (Nat.lt_of_lt_of_le I.lt hb), I.nofs hb, .inr (Nat.le_trans I.sz hb), fun x c e z => ?_, fun p hp z => ?_⟩
  · obtain ⟨v, q⟩ := I.cell x c e
    exact absurd (Nat.lt_of_lt_of_le q.lt (by rw [z]; exact hb)) (Nat.lt_irrefl _)
  · exact absurd (Nat.lt_of_lt_of_le (Heap.lt_size (I.pin p hp).1) (by rw [z]; exact hb)) (Nat.lt_irrefl _)
structure Turn (P : Program) (w : World) (K : PySem.W.Frag) (tg : Expr) (J : It) (fp : List Addr) (it : Addr) (tn : Nat → Heap → Prop) : Prop where
  mem : it ∈ fp
  obj : ∀ i h, tn i h → ∀ b ∈ fp, ∃ o, h.get? b = some o ∧ ∀ v, o.data ≠ .cell v
  keep : ∀ i h h', tn i h → (∀ b ∈ fp, ∀ o, h.get? b = some o → h'.get? b = some o) → tn i h'
  item : ∀ (X : Cx), X.prog = P → X.w = w → X.K = K → X.calm = true → ∀ (i : Nat) (pins : List (Addr × Obj)) (s : Shared) (σ : St) (H : Hp) (E : Value → Shared → Prop), Inv X pins σ H s → (∀ b ∈ fp, FpOk X pins H b) → tn i s.heap → J.go i H →
    wpAny (model P w) X.A (pyNext (.ref it)) (fun r s1 => ∃ u, r = some u ∧
      wpAny (model P w) X.A (letOwnedTupleGo tg (.ref it) u) (fun _ s2 => ∃ x H', Inv X pins σ H' s2 ∧ RelV x u ∧ J.yld i H x H' ∧ tn (i + 1) s2.heap ∧ ∀ b ∈ fp, H' b = none) E s1) E s
  done : ∀ (X : Cx), X.prog = P → X.w = w → X.K = K → X.calm = true → ∀ (i : Nat) (pins : List (Addr × Obj)) (s : Shared) (σ : St) (H : Hp) (E : Value → Shared → Prop), Inv X pins σ H s → (∀ b ∈ fp, FpOk X pins H b) → tn i s.heap → J.stop i H →
    wpAny (model P w) X.A (pyNext (.ref it)) (fun r s1 => r = none ∧ Inv X pins σ H s1) E s
  self : ∀ (A : Around) (i : Nat) (s : Shared) (Q : Value → Shared → Prop) (E : Value → Shared → Prop), tn i s.heap → Q (.ref it) s → wpAny (model P w) A (pyIter (.ref it)) Q E s
abbrev TI := St → Hp → (It → Hp → Prop) → Prop
/-- an iterator has come -/
def PIE (X : Cx) (pins : List (Addr × Obj)) (σ : St) (tg : Expr) (R : It → Hp → Prop) (itv : Value) (s2 : Shared) : Prop :=
  ∃ (it : Addr) (fp : List Addr) (tn : Nat → Heap → Prop) (J : It) (H' : Hp), itv = .ref it ∧ Inv X pins σ H' s2 ∧ Turn X.prog X.w X.K tg J fp it tn ∧ tn 0 s2.heap ∧ (∀ b ∈ fp, FpOk X pins H' b) ∧ R J H'
def PI (X : Cx) (tg iter : Expr) (wi : TI) : Prop :=
  ∀ (pins : List (Addr × Obj)) (s : Shared) (σ : St) (H : Hp) (R : It → Hp → Prop), Inv X pins σ H s → wi σ H R →
    wpAny (model X.prog X.w) X.A (eval iter X.env) (fun v s1 => wpAny (model X.prog X.w) X.A (pyIter v) (PIE X pins σ tg R) X.xe s1) X.xe s

/-- the step ahead of the store is nothing for an iterator that keeps no tuple -/
theorem go_of {M : Model} {A : Around} {E : Value → Shared → Prop} {s : Shared} {tg : Expr} {it : Addr} {u : Value} {o : Obj} {n : String} {vs : Array Value} {Q : Unit → Shared → Prop} (ho : s.heap.get? it = some o) (hc : o.cls = .type n) (hd : o.data = .fields vs)
    (hn : ["enumerate", "zip", "dict_itemiterator", "dict_reverseitemiterator", "odict_iterator", "itertools.zip_longest", "itertools.pairwise"].contains n = false) (hQ : Q () s) : wpAny M A (letOwnedTupleGo tg (.ref it) u) Q E s := by
  unfold letOwnedTupleGo
  cases tg <;> first
    | exact wpAny_pure hQ
    | (cases u <;> first
        | exact wpAny_pure hQ
        | (refine wpAny_bind (wpAny_load ho ?_)
           rw [hc, hd]
           show wpAny M A (if (["enumerate", "zip", "dict_itemiterator", "dict_reverseitemiterator", "odict_iterator", "itertools.zip_longest", "itertools.pairwise"].contains n && vs[0]? == some (rawInt _)) = true then _ else _) Q E s
           rw [if_neg (by intro h; rw [hn, Bool.false_and] at h; cases h)]
           exact wpAny_pure hQ))

/-- the list at a, as it stands at each turn (a loop may append to it) -/
def Itl (K : PySem.W.Frag) (a : Addr) : It :=
  ⟨fun i H => ∃ xs x, SqL K H a xs ∧ xs[i]? = some x, fun i H x H' => H' = H ∧ ∀ xs, SqL K H a xs → xs[i]? = some x, fun i H => ∃ xs, SqL K H a xs ∧ xs.length ≤ i⟩
def Itt (K : PySem.W.Frag) (a : Addr) : It :=
  ⟨fun i H => ∃ xs x, SqT K H a xs ∧ xs[i]? = some x, fun i H x H' => H' = H ∧ ∀ xs, SqT K H a xs → xs[i]? = some x, fun i H => ∃ xs, SqT K H a xs ∧ xs.length ≤ i⟩
/-- lo, lo + 1, .. (n of them) -/
def Itr (lo : Int) (n : Nat) : It := ⟨fun i _ => i < n, fun i H x H' => H' = H ∧ x = .int (lo + i), fun i _ => n ≤ i⟩
theorem turn_list {P : Program} {w : World} {K : PySem.W.Frag} {tg : Expr} (a it : Addr) : Turn P w K tg (Itl K a) [it] it (fun i h => h.IsListIter it a i) where
  mem := by simp
  obj := fun i h st b hb => by
    have e : b = it := by simpa using hb
    subst e
    obtain ⟨o, e, c, d⟩ := st
    exact ⟨o, e, fun v z => by rw [d] at z; cases z⟩
  keep := fun i h h' st k => st.at fun o e => k it (by simp) o e
  item := by
    intro X hP hw hK hc i pins s σ H E I hf st hg
    subst hP hw hK
    obtain ⟨xs, x, hq, hx⟩ := hg
    obtain ⟨its, rv, p, hz⟩ := I.list hq
    obtain ⟨u, hu, ru⟩ := rv.get hx
    obtain ⟨f0, f1, f2, f3, f4, f5⟩ := hf it (by simp)
    refine wpAny_pyNext_list_item st p.isList (x := u) (by simpa using hu) fun h' st' sb => ?_
    have I1 : Inv X pins σ H { s with heap := h' } := I.turned (t' := s.toks) (fun b o hb e => (sb.2 b hb).trans e) f0 f1 f3 f4 f5
    obtain ⟨o, e, c, d⟩ := id st'
    exact ⟨u, rfl, go_of (s := { s with heap := h' }) e c d (by decide) ⟨x, H, I1, ru, ⟨rfl, fun ys hy => by rw [I.list_inj hy hq]; exact hx⟩, st', fun b hb => (hf b hb).1⟩⟩
  done := by
    intro X hP hw hK hc i pins s σ H E I hf st hg
    subst hP hw hK
    obtain ⟨xs, hq, hx⟩ := hg
    obtain ⟨its, rv, p, hz⟩ := I.list hq
    obtain ⟨f0, f1, f2, f3, f4, f5⟩ := hf it (by simp)
    have hl := rv.length
    exact wpAny_pyNext_list_end (I.ok.hd hc) st p.isList (by simp; (first | lia | omega)) fun h' eb => ⟨rfl, I.turned (t' := s.toks) (fun b o hb e => eb b o hb e) f0 f1 f3 f4 f5⟩
  self := fun _ _ _ _ _ st h => wpAny_pyIter_listiter st h
theorem turn_tuple {P : Program} {w : World} {K : PySem.W.Frag} {tg : Expr} (a it : Addr) : Turn P w K tg (Itt K a) [it] it (fun i h => h.IsTupleIter it a i) where
  mem := by simp
  obj := fun i h st b hb => by
    have e : b = it := by simpa using hb
    subst e
    obtain ⟨o, e, c, d⟩ := st
    exact ⟨o, e, fun v z => by rw [d] at z; cases z⟩
  keep := fun i h h' st k => st.at fun o e => k it (by simp) o e
  item := by
    intro X hP hw hK hc i pins s σ H E I hf st hg
    subst hP hw hK
    obtain ⟨xs, x, hq, hx⟩ := hg
    obtain ⟨its, rv, p, hz⟩ := I.tuple hq
    obtain ⟨u, hu, ru⟩ := rv.get hx
    obtain ⟨f0, f1, f2, f3, f4, f5⟩ := hf it (by simp)
    refine wpAny_pyNext_tuple_item st (show s.heap.IsTuple a its.toArray from p) (x := u) (by simpa using hu) fun h' st' sb => ?_
    have I1 : Inv X pins σ H { s with heap := h' } := I.turned (t' := s.toks) (fun b o hb e => (sb.2 b hb).trans e) f0 f1 f3 f4 f5
    obtain ⟨o, e, c, d⟩ := id st'
    exact ⟨u, rfl, go_of (s := { s with heap := h' }) e c d (by decide) ⟨x, H, I1, ru, ⟨rfl, fun ys hy => by rw [I.tuple_inj hy hq]; exact hx⟩, st', fun b hb => (hf b hb).1⟩⟩
  done := by
    intro X hP hw hK hc i pins s σ H E I hf st hg
    subst hP hw hK
    obtain ⟨xs, hq, hx⟩ := hg
    obtain ⟨its, rv, p, hz⟩ := I.tuple hq
    obtain ⟨f0, f1, f2, f3, f4, f5⟩ := hf it (by simp)
    have hl := rv.length
    exact wpAny_pyNext_tuple_end (I.ok.hd hc) st (show s.heap.IsTuple a its.toArray from p) (by simp; (first | lia | omega)) fun h' eb => ⟨rfl, I.turned (t' := s.toks) (fun b o hb e => eb b o hb e) f0 f1 f3 f4 f5⟩
  self := fun _ _ _ _ _ st h => wpAny_pyIter_tupleiter st h
theorem turn_range {P : Program} {w : World} {K : PySem.W.Frag} {tg : Expr} (it : Addr) (lo : Int) (n : Nat) : Turn P w K tg (Itr lo n) [it] it (fun i h => IsRangeIter h it (lo + (i : Nat) * 1) ((n : Int) - (i : Nat)) 1) where
  mem := by simp
  obj := fun i h st b hb => by
    have e : b = it := by simpa using hb
    subst e
    exact ⟨_, st, fun v z => by
      have z' : Data.fields _ = Data.cell v := z
      cases z'⟩
  keep := fun i h h' st k => k it (by simp) _ st
  item := by
    intro X hP hw hK hc i pins s σ H E I hf st hg
    subst hP hw hK
    obtain ⟨f0, f1, f2, f3, f4, f5⟩ := hf it (by simp)
    have W := Walks.range (prog := X.prog) (w := X.w) (I.ok.hd hc) it lo 1 n
    refine W.item i s _ _ hg st fun v h' tk hv st' kk => ?_
    obtain ⟨t, rfl⟩ := hv
    have I1 : Inv X pins σ H { s with heap := h', toks := tk } := I.turned (fun b o hb e => kk b o (by simpa using hb) e) f0 f1 f3 f4 f5
    refine ⟨_, rfl, go_of (s := { s with heap := h', toks := tk }) (n := "range_iterator") st' rfl rfl (by decide) ⟨.int (lo + i), H, I1, ⟨t, ?_⟩, ⟨rfl, rfl⟩, st', fun b hb => (hf b hb).1⟩⟩
    rw [Int.mul_one]
  done := by
    intro X hP hw hK hc i pins s σ H E I hf st hg
    subst hP hw hK
    obtain ⟨f0, f1, f2, f3, f4, f5⟩ := hf it (by simp)
    exact wpAny_pyNext_range_end (I.ok.hd hc) st (by have : n ≤ i := hg; (first | lia | omega)) fun h' eb => ⟨rfl, I.turned (t' := s.toks) (fun b o hb e => eb b o hb e) f0 f1 f3 f4 f5⟩
  self := fun _ _ _ _ _ st h => wpAny_pyIter_rangeiter st h
end L2

namespace L2
open PySem PySem.Spec PyProof.Rows
section
variable {X : Cx} {tg : Expr}
def iList (K : PySem.W.Frag) (tl : TE) : TI := fun σ H R => tl σ H fun x H1 => ∃ a, x = .ref a ∧ (∃ xs, SqL K H1 a xs) ∧ R (Itl K a) H1
def iTup (K : PySem.W.Frag) (tl : TE) : TI := fun σ H R => tl σ H fun x H1 => ∃ a, x = .ref a ∧ (∃ xs, SqT K H1 a xs) ∧ R (Itt K a) H1
theorem pi_list {l : Expr} {tl : TE} (hl : PE X l tl) : PI X tg l (iList X.K tl) := by
  intro pins s σ H R I h
  refine thn (hl pins s σ H _ I h) fun v s1 ⟨x, H1, I1, r1, q1⟩ => ?_
  obtain ⟨a, e, ⟨xs, hq⟩, q⟩ := q1
  subst e
  cases r1
  obtain ⟨its, rv, p, hz⟩ := I1.list hq
  refine wpAny_pyIter_list p.isList ?_
  refine ⟨s1.heap.objs.size, [s1.heap.objs.size], _, _, H1, rfl, I1.kept (t' := s1.toks) fun b o e => Heap.get?_push_of_some _ e, turn_list a _, ⟨_, Heap.get?_push_size _ rfl, rfl, rfl⟩, fun b hb => ?_, q⟩
  have e : b = s1.heap.objs.size := by simpa using hb
  subst e
  exact I1.fpOk (Nat.le_refl _) (I1.hok.fresh (Nat.le_refl _))
theorem pi_tup {l : Expr} {tl : TE} (hl : PE X l tl) : PI X tg l (iTup X.K tl) := by
  intro pins s σ H R I h
  refine thn (hl pins s σ H _ I h) fun v s1 ⟨x, H1, I1, r1, q1⟩ => ?_
  obtain ⟨a, e, ⟨xs, hq⟩, q⟩ := q1
  subst e
  cases r1
  obtain ⟨its, rv, p, hz⟩ := I1.tuple hq
  refine wpAny_pyIter_tuple (show s1.heap.IsTuple a its.toArray from p) ?_
  refine ⟨s1.heap.objs.size, [s1.heap.objs.size], _, _, H1, rfl, I1.kept (t' := s1.toks) fun b o e => Heap.get?_push_of_some _ e, turn_tuple a _, ⟨_, Heap.get?_push_size _ rfl, rfl, rfl⟩, fun b hb => ?_, q⟩
  have e : b = s1.heap.objs.size := by simpa using hb
  subst e
  exact I1.fpOk (Nat.le_refl _) (I1.hok.fresh (Nat.le_refl _))
/-- a range object just made, walked -/
theorem range_it {pins : List (Addr × Obj)} {σ : St} {H : Hp} {s : Shared} {R : It → Hp → Prop} {E : Value → Shared → Prop} {lo hi : Int} {t u v : Tok} {tk : Nat} (I : Inv X pins σ H s) (h1 : -(2 ^ 62) ≤ lo) (h2 : lo < 2 ^ 62) (h3 : -(2 ^ 62) ≤ hi) (h4 : hi < 2 ^ 62)
    (q : R (Itr lo (hi - lo).toNat) H) : wpAny (model X.prog X.w) X.A (pyIter (.ref s.heap.objs.size)) (PIE X pins σ tg R) E { s with heap := s.heap.push { cls := .type "range", data := .fields #[.int lo t, .int hi u, .int 1 v] }, toks := tk } := by
  refine wpAny_pyIter_range (IsRange.new ..) (small_one h1 h2 h3 h4) ?_
  have I1 : Inv X pins σ H { s with heap := s.heap.push { cls := .type "range", data := .fields #[.int lo t, .int hi u, .int 1 v] }, toks := tk } := I.kept fun b o e => Heap.get?_push_of_some _ e
  refine ⟨(s.heap.push { cls := .type "range", data := .fields #[.int lo t, .int hi u, .int 1 v] }).objs.size, [(s.heap.push { cls := .type "range", data := .fields #[.int lo t, .int hi u, .int 1 v] }).objs.size], _, _, H, rfl,
    I1.kept (t' := tk) fun b o e => Heap.get?_push_of_some _ e, turn_range _ lo (hi - lo).toNat, ?_, fun b hb => ?_, q⟩
  · have e1 : lo + ((0 : Nat) : Int) * 1 = lo := by simp
    have e2 : (((hi - lo).toNat : Nat) : Int) - ((0 : Nat) : Int) = Builtin.Range.rangeSize lo hi 1 := by rw [rangeSize_one]; split <;> (first | lia | omega)
    show IsRangeIter _ _ (lo + ((0 : Nat) : Int) * 1) ((((hi - lo).toNat : Nat) : Int) - ((0 : Nat) : Int)) 1
    rw [e1, e2]
    exact Heap.get?_push_size _ rfl
  · have e : b = (s.heap.push { cls := .type "range", data := .fields #[.int lo t, .int hi u, .int 1 v] }).objs.size := by simpa using hb
    subst e
    exact I1.fpOk (Nat.le_refl _) (I1.hok.fresh (Nat.le_refl _))
def iRng1 (ta : TA) : TI := fun σ H R => ta σ H fun vs H1 => ∃ j : Int, vs = [.int j] ∧ -(2 ^ 62) ≤ j ∧ j < 2 ^ 62 ∧ R (Itr 0 j.toNat) H1
theorem pi_range1 {a : Expr} {ta : TA} {p pos : Pos} (hg : Gl X "range") (hm : X.mg "range" = none) (ha : PA X [a] ta) (hs : starEach [a] X.env = [(false, eval a X.env)] := by rfl) : PI X tg (.Call (.Name "range" p) [a] [] pos) (iRng1 ta) := by
  intro pins s σ H R I h
  refine Call_ (ld_blt I hg hm boot_range (PyProof.Rows.callWith_type1 (thn (ha pos pins s σ H _ I h) fun us s1 ⟨vs, H1, I1, r1, q1⟩ => ?_) hs rfl))
  obtain ⟨j, e, q1, q2, q⟩ := q1
  subst e
  cases r1 with
  | cons r rr =>
    cases rr
    obtain ⟨t, rfl⟩ := r
    exact call_range_1 (range_it I1 (by first | lia | omega) (by first | lia | omega) q1 q2 (by simpa using q))

/-! ### for -/
/-- W: the invariant by the turn and a measure; N: what the body is to reach -/
def tFor (wi : TI) (g : TG) (tb : TS) : TS := fun D σ H => wi σ H fun J H1 => ∃ W : Nat → Nat → St → Hp → Prop, (∃ m, W 0 m σ H1) ∧ ∀ i m σ H, W i m σ H →
  (J.stop i H ∧ D.nx σ H) ∨ (J.go i H ∧ ∃ N : St → Hp → Prop, (∀ σ' H', N σ' H' → ∃ m', m' < m ∧ W (i + 1) m' σ' H') ∧ ∀ x H', J.yld i H x H' → g x σ H' fun σ2 H2 => tb { D with nx := N, ct := N, bk := D.nx } σ2 H2)
/-- the records at fp as they stand -/
def pinsAt (fp : List Addr) (h : Heap) : List (Addr × Obj) := fp.filterMap fun b => (h.get? b).map fun o => (b, o)
theorem mem_pinsAt {fp : List Addr} {h : Heap} {b : Addr} {o : Obj} (hb : b ∈ fp) (e : h.get? b = some o) : (b, o) ∈ pinsAt fp h := List.mem_filterMap.mpr ⟨b, hb, by rw [e]; rfl⟩
theorem of_pinsAt {fp : List Addr} {h : Heap} {p : Addr × Obj} (hp : p ∈ pinsAt fp h) : p.1 ∈ fp ∧ h.get? p.1 = some p.2 := by
  obtain ⟨b, hb, e⟩ := List.mem_filterMap.mp hp
  cases q : h.get? b with
  | none => rw [q] at e; cases e
  | some o =>
    rw [q] at e
    have e' : (b, o) = p := Option.some.inj e
    subst e'
    exact ⟨hb, q⟩
theorem Inv.pinned {pins : List (Addr × Obj)} {σ : St} {H : Hp} {s : Shared} {fp : List Addr} (I : Inv X pins σ H s) (hf : ∀ b ∈ fp, FpOk X pins H b) (ho : ∀ b ∈ fp, ∃ o, s.heap.get? b = some o ∧ ∀ v, o.data ≠ .cell v) : Inv X (pins ++ pinsAt fp s.heap) σ H s :=
  I.pins_of fun p hp => (List.mem_append.mp hp).elim (fun z => I.pin p (List.mem_append_right _ z)) fun z => by
    obtain ⟨hb, e⟩ := of_pinsAt z
    obtain ⟨f0, f1, f2, _⟩ := hf p.1 hb
    obtain ⟨o, e', d⟩ := ho p.1 hb
    rw [e] at e'; cases e'
    exact ⟨e, f0, f1, f2, d⟩
theorem Inv.unpinned {pins pl : List (Addr × Obj)} {σ : St} {H : Hp} {s : Shared} (I : Inv X (pins ++ pl) σ H s) : Inv X pins σ H s := I.pins_of fun p hp => I.pin p (List.mem_append_right _ (List.mem_append_left _ hp))
theorem ps_for {iter : Expr} {body : List Stmt} {wi : TI} {g : TG} {tb : TS} {pos : Pos} (hp : PassesOwn (model X.prog X.w) X.A X.env X.xe) (hc : X.calm = true) (hi : PI X tg iter wi) (hg : PG X tg g) (hb : PSs X body tb)
    (hs : ∀ x, foldedSetIterable iter X.env x = pure x := by intro _; rfl) : PS X (.For tg iter body [] pos) (tFor wi g tb) := by
  intro pins s σ H D I h
  refine wpAny_For (thn (hi pins s σ H _ I h) fun v s1 h1 => thn h1 fun itv s2 h2 => ?_) hs
  obtain ⟨it, fp, tn, J, H2, e, I2, T, st2, f2, W, ⟨m0, w0⟩, turn⟩ := h2
  subst e
  -- what stays true of the iterator's objects through the loop
  have stat : ∀ {H' : Hp}, (∀ b ∈ fp, H' b = none) → ∀ b ∈ fp, FpOk X pins H' b := fun hn b hb => ⟨hn b hb, (f2 b hb).2⟩
  refine codeAny_forLoop_any (fun n s' => ∃ i σ' H', Inv X pins σ' H' s' ∧ tn i s'.heap ∧ (∀ b ∈ fp, H' b = none) ∧ W i n σ' H') ?_ m0 ⟨0, σ, H2, I2, st2, fun b hb => (f2 b hb).1, w0⟩
  rintro n s3 ⟨i, σ3, H3, I3, st3, fr3, w3⟩
  rcases turn i n σ3 H3 w3 with ⟨stop, qn⟩ | ⟨go, N, hN, step⟩
  · refine wpAny_passesOwn hp (thn (T.done X rfl rfl rfl hc i pins s3 σ3 H3 X.xe I3 (stat fr3) st3 stop) fun r s4 ⟨hr, I4⟩ => ?_)
    subst hr
    exact wpAny_execs_nil ⟨σ3, H3, I4, qn⟩
  · refine wpAny_passesOwn hp (thn (T.item X rfl rfl rfl hc i pins s3 σ3 H3 X.xe I3 (stat fr3) st3 go) fun r s4 ⟨u, hr, h4⟩ => ?_)
    subst hr
    refine wpAny_passesOwn hp (thn h4 fun _ s5 ⟨x, H5, I5, r5, y5, st5, fr5⟩ => ?_)
    have I5' := I5.pinned (stat fr5) (T.obj _ _ st5)
    refine wpAny_passesOwn hp (thn (hg _ s5 σ3 H5 x u _ I5' r5 (step x H5 y5)) fun _ s6 ⟨σ6, H6, I6, q6⟩ => ?_)
    refine wpAny_passesOwn hp (thn (hb _ s6 σ6 H6 _ I6 q6) fun f s7 q7 => ?_)
    have again : ∀ {σ7 : St} {H7 : Hp}, Inv X (pins ++ pinsAt fp s5.heap) σ7 H7 s7 → N σ7 H7 → ∃ m, m < n ∧ ∃ i σ' H', Inv X pins σ' H' s7 ∧ tn i s7.heap ∧ (∀ b ∈ fp, H' b = none) ∧ W i m σ' H' := fun {σ7 H7} I7 n7 => by
      obtain ⟨m', hm, w7⟩ := hN σ7 H7 n7
      refine ⟨m', hm, i + 1, σ7, H7, I7.unpinned, T.keep _ _ _ st5 fun b hb o e => (I7.pin (b, o) (List.mem_append_right _ (List.mem_append_right _ (mem_pinsAt hb e)))).1, fun b hb => ?_, w7⟩
      obtain ⟨o, e, d⟩ := T.obj _ _ st5 b hb
      exact (I7.pin (b, o) (List.mem_append_right _ (List.mem_append_right _ (mem_pinsAt hb e)))).2.1
    cases f with
    | next => obtain ⟨σ7, H7, I7, n7⟩ := q7; exact again I7 n7
    | cont => obtain ⟨σ7, H7, I7, n7⟩ := q7; exact again I7 n7
    | brk => obtain ⟨σ7, H7, I7, q7⟩ := q7; exact ⟨σ7, H7, I7.unpinned, q7⟩
    | ret v => obtain ⟨x7, σ7, H7, I7, r7, q7⟩ := q7; exact ⟨x7, σ7, H7, I7.unpinned, r7, q7⟩
end

/-! ### the forms one uses -/
/-- over a list that the body leaves as it is -/
theorem for_list {K : PySem.W.Frag} {a : Addr} {xs : List V} {g : TG} {tb : TS} {D : Ends} {σ : St} {H : Hp} (Pv : Nat → St → Hp → Prop) (h0 : Pv 0 σ H) (hl : ∀ i σ H, i ≤ xs.length → Pv i σ H → SqL K H a xs)
    (hs : ∀ i x σ H, xs[i]? = some x → Pv i σ H → g x σ H fun σ2 H2 => tb { D with nx := Pv (i + 1), ct := Pv (i + 1), bk := D.nx } σ2 H2) (hd : ∀ σ H, Pv xs.length σ H → D.nx σ H) :
    ∃ W : Nat → Nat → St → Hp → Prop, (∃ m, W 0 m σ H) ∧ ∀ i m σ H, W i m σ H →
      ((Itl K a).stop i H ∧ D.nx σ H) ∨ ((Itl K a).go i H ∧ ∃ N : St → Hp → Prop, (∀ σ' H', N σ' H' → ∃ m', m' < m ∧ W (i + 1) m' σ' H') ∧ ∀ x H', (Itl K a).yld i H x H' → g x σ H' fun σ2 H2 => tb { D with nx := N, ct := N, bk := D.nx } σ2 H2) := by
  refine ⟨fun i m σ H => m = xs.length - i ∧ i ≤ xs.length ∧ Pv i σ H, ⟨xs.length, by simp, Nat.zero_le _, h0⟩, ?_⟩
  rintro i m σ H ⟨rfl, hi, p⟩
  have q := hl i σ H hi p
  by_cases hlt : i < xs.length
  · refine .inr ⟨⟨xs, xs[i], q, by simp [hlt]⟩, Pv (i + 1), fun σ' H' p' => ⟨xs.length - (i + 1), by first | lia | omega, rfl, hlt, p'⟩, fun x H' y => ?_⟩
    obtain ⟨e, y⟩ := y
    subst e
    exact hs i x σ _ (y xs q) p
  · have e : i = xs.length := by first | lia | omega
    subst e
    exact .inl ⟨⟨xs, q, Nat.le_refl _⟩, hd σ H p⟩
theorem for_tup {K : PySem.W.Frag} {a : Addr} {xs : List V} {g : TG} {tb : TS} {D : Ends} {σ : St} {H : Hp} (Pv : Nat → St → Hp → Prop) (h0 : Pv 0 σ H) (hl : ∀ i σ H, i ≤ xs.length → Pv i σ H → SqT K H a xs)
    (hs : ∀ i x σ H, xs[i]? = some x → Pv i σ H → g x σ H fun σ2 H2 => tb { D with nx := Pv (i + 1), ct := Pv (i + 1), bk := D.nx } σ2 H2) (hd : ∀ σ H, Pv xs.length σ H → D.nx σ H) :
    ∃ W : Nat → Nat → St → Hp → Prop, (∃ m, W 0 m σ H) ∧ ∀ i m σ H, W i m σ H →
      ((Itt K a).stop i H ∧ D.nx σ H) ∨ ((Itt K a).go i H ∧ ∃ N : St → Hp → Prop, (∀ σ' H', N σ' H' → ∃ m', m' < m ∧ W (i + 1) m' σ' H') ∧ ∀ x H', (Itt K a).yld i H x H' → g x σ H' fun σ2 H2 => tb { D with nx := N, ct := N, bk := D.nx } σ2 H2) := by
  refine ⟨fun i m σ H => m = xs.length - i ∧ i ≤ xs.length ∧ Pv i σ H, ⟨xs.length, by simp, Nat.zero_le _, h0⟩, ?_⟩
  rintro i m σ H ⟨rfl, hi, p⟩
  have q := hl i σ H hi p
  by_cases hlt : i < xs.length
  · refine .inr ⟨⟨xs, xs[i], q, by simp [hlt]⟩, Pv (i + 1), fun σ' H' p' => ⟨xs.length - (i + 1), by first | lia | omega, rfl, hlt, p'⟩, fun x H' y => ?_⟩
    obtain ⟨e, y⟩ := y
    subst e
    exact hs i x σ _ (y xs q) p
  · have e : i = xs.length := by first | lia | omega
    subst e
    exact .inl ⟨⟨xs, q, Nat.le_refl _⟩, hd σ H p⟩
/-- while, by a word and a measure of the state -/
theorem while_by {c : TT} {tb : TS} {D : Ends} {σ : St} {H : Hp} (Pv : St → Hp → Prop) (μ : St → Hp → Nat) (h0 : Pv σ H)
    (hs : ∀ σ H, Pv σ H → c σ H fun b H1 => if b = true then tb { D with nx := fun σ' H' => Pv σ' H' ∧ μ σ' H' < μ σ H, ct := fun σ' H' => Pv σ' H' ∧ μ σ' H' < μ σ H, bk := D.nx } σ H1 else D.nx σ H1)
    (mono : ∀ σ H Q Q', (∀ b H1, Q b H1 → Q' b H1) → c σ H Q → c σ H Q') : tWhile c tb D σ H := by
  refine ⟨fun m σ H => m = μ σ H ∧ Pv σ H, ⟨_, rfl, h0⟩, ?_⟩
  rintro m σ H ⟨rfl, p⟩
  refine mono σ H _ _ (fun b H1 q => ?_) (hs σ H p)
  cases b with
  | true => exact ⟨_, fun σ' H' ⟨p', l⟩ => ⟨_, l, rfl, p'⟩, q⟩
  | false => exact q
end L2

namespace L2
open PySem PySem.Spec PyProof.Rows

abbrev R2 := V → V → Hp → VK → Prop
/-- a two-place operation on values: f is binaryOp op, inplaceOp op or compareOp op -/
def OpR (X : Cx) (f : Value → Value → Sem Value) (r : R2) : Prop :=
  ∀ (pins : List (Addr × Obj)) (s : Shared) (σ : St) (H : Hp) (x y : V) (v u : Value) (Q : VK), Inv X pins σ H s → RelV x v → RelV y u → r x y H Q →
    wpAny (model X.prog X.w) X.A (f v u) (EP X pins σ Q) X.xe s
/-- a one-place operation -/
def UnR (X : Cx) (f : Value → Sem Value) (r : V → Hp → VK → Prop) : Prop :=
  ∀ (pins : List (Addr × Obj)) (s : Shared) (σ : St) (H : Hp) (x : V) (v : Value) (Q : VK), Inv X pins σ H s → RelV x v → r x H Q →
    wpAny (model X.prog X.w) X.A (f v) (EP X pins σ Q) X.xe s
/-- a call of a value that is known (a builtin, a type) with values -/
def CallR (X : Cx) (f : Value) (r : List V → Hp → VK → Prop) : Prop :=
  ∀ (pins : List (Addr × Obj)) (s : Shared) (σ : St) (H : Hp) (xs : List V) (us : List Value) (Q : VK), Inv X pins σ H s → Vals xs us → r xs H Q →
    wpAny (model X.prog X.w) X.A (call f us) (EP X pins σ Q) X.xe s
/-- a value's truth -/
def TruR (X : Cx) (r : V → Hp → (Bool → Hp → Prop) → Prop) : Prop :=
  ∀ (pins : List (Addr × Obj)) (s : Shared) (σ : St) (H : Hp) (x : V) (v : Value) (Q : Bool → Hp → Prop), Inv X pins σ H s → RelV x v → r x H Q →
    wpAny (model X.prog X.w) X.A (truthy v) (TP X pins σ Q) X.xe s

def tOp (r : R2) (ta tb : TE) : TE := fun σ H Q => ta σ H fun x H1 => tb σ H1 fun y H2 => r x y H2 Q
def tUn (r : V → Hp → VK → Prop) (ta : TE) : TE := fun σ H Q => ta σ H fun x H1 => r x H1 Q
/-- ints in, under C, and a value out -/
def rI (C : Int → Int → Prop) (g : Int → Int → V) : R2 := fun x y H Q => ∃ i j, x = .int i ∧ y = .int j ∧ C i j ∧ Q (g i j) H
def rI0 (g : Int → Int → V) : R2 := fun x y H Q => ∃ i j, x = .int i ∧ y = .int j ∧ Q (g i j) H
def rU (g : Int → V) : V → Hp → VK → Prop := fun x H Q => ∃ i, x = .int i ∧ Q (g i) H

section
variable {X : Cx} {a b c : Expr} {ta tb tc : TE} {pos : Pos}

theorem binT (ha : PE X a ta) (hb : PE X b tb) {pins : List (Addr × Obj)} {s : Shared} {σ : St} {H : Hp} {R : V → V → Hp → Prop} (I : Inv X pins σ H s)
    (h : ta σ H fun x H1 => tb σ H1 fun y H2 => R x y H2) {Q : Value → Shared → Prop} {f : Value → Value → Sem Value}
    (hf : ∀ v u s2 x y H2, Inv X pins σ H2 s2 → RelV x v → RelV y u → R x y H2 → wpAny (model X.prog X.w) X.A (f v u) Q X.xe s2) :
    wpAny (model X.prog X.w) X.A (eval a X.env) (fun v s₁ => wpAny (model X.prog X.w) X.A (eval b X.env) (fun u s₂ => wpAny (model X.prog X.w) X.A (f v u) Q X.xe s₂) X.xe s₁) X.xe s := by
  refine thn (ha pins s σ H _ I h) fun v s1 ⟨x, H1, I1, r1, q1⟩ => ?_
  refine thn (hb pins s1 σ H1 _ I1 q1) fun u s2 ⟨y, H2, I2, r2, q2⟩ => ?_
  exact hf v u s2 x y H2 I2 r1 r2 q2

theorem pe_op {op : Operator} {r : R2} (ho : OpR X (binaryOp op) r) (ha : PE X a ta) (hb : PE X b tb) : PE X (.BinOp a op b pos) (tOp r ta tb) := by
  intro pins s σ H Q I h
  exact wpAny_BinOp (binT ha hb I h fun v u s2 x y H2 I2 rx ry q => ho pins s2 σ H2 x y v u Q I2 rx ry q)
theorem pe_un {op : UnaryOp} {r : V → Hp → VK → Prop} (ho : UnR X (unaryOp op) r) (ha : PE X a ta) : PE X (.UnaryOp op a pos) (tUn r ta) := by
  intro pins s σ H Q I h
  exact UnaryOp_ (thn (ha pins s σ H _ I h) fun v s1 ⟨x, H1, I1, r1, q1⟩ => ho pins s1 σ H1 x v Q I1 r1 q1)
/-- a op= e at a name: the name's slot i -/
theorem augR {op : Operator} {r : R2} (ho : OpR X (inplaceOp op) r) {pins : List (Addr × Obj)} {s : Shared} {σ : St} {H : Hp} {x y : V} {v u : Value} {Q : VK} (I : Inv X pins σ H s)
    (rx : RelV x v) (ry : RelV y u) (q : r x y H Q) : wpAny (model X.prog X.w) X.A (inplaceOp op v u) (EP X pins σ Q) X.xe s := ho pins s σ H x y v u Q I rx ry q

/-! ### ints -/
theorem opI {f : Value → Value → Sem Value} {C : Int → Int → Prop} {g : Int → Int → Int}
    (rule : ∀ (i j : Int) (t u : Tok) (s : Shared) (Q : Value → Shared → Prop) (E : Value → Shared → Prop), C i j → Q (.int (g i j) s.toks) { s with toks := s.toks + 1 } → wpAny (model X.prog X.w) X.A (f (.int i t) (.int j u)) Q E s) :
    OpR X f (rI C fun i j => .int (g i j)) := by
  intro pins s σ H x y v u Q I rx ry h
  obtain ⟨i, j, rfl, rfl, hc, q⟩ := h
  obtain ⟨t, rfl⟩ := rx
  obtain ⟨t', rfl⟩ := ry
  exact rule i j t t' s _ _ hc ⟨.int (g i j), H, I.tok _, ⟨_, rfl⟩, q⟩
theorem opI0 {f : Value → Value → Sem Value} {g : Int → Int → Int}
    (rule : ∀ (i j : Int) (t u : Tok) (s : Shared) (Q : Value → Shared → Prop) (E : Value → Shared → Prop), Q (.int (g i j) s.toks) { s with toks := s.toks + 1 } → wpAny (model X.prog X.w) X.A (f (.int i t) (.int j u)) Q E s) :
    OpR X f (rI0 fun i j => .int (g i j)) := by
  intro pins s σ H x y v u Q I rx ry h
  obtain ⟨i, j, rfl, rfl, q⟩ := h
  obtain ⟨t, rfl⟩ := rx
  obtain ⟨t', rfl⟩ := ry
  exact rule i j t t' s _ _ ⟨.int (g i j), H, I.tok _, ⟨_, rfl⟩, q⟩
theorem opB0 {f : Value → Value → Sem Value} {g : Int → Int → Bool}
    (rule : ∀ (i j : Int) (t u : Tok) (s : Shared) (Q : Value → Shared → Prop) (E : Value → Shared → Prop), Q (.bool (g i j)) s → wpAny (model X.prog X.w) X.A (f (.int i t) (.int j u)) Q E s) :
    OpR X f (rI0 fun i j => .bl (g i j)) := by
  intro pins s σ H x y v u Q I rx ry h
  obtain ⟨i, j, rfl, rfl, q⟩ := h
  obtain ⟨t, rfl⟩ := rx
  obtain ⟨t', rfl⟩ := ry
  exact rule i j t t' s _ _ ⟨.bl (g i j), H, I, rfl, q⟩

def CDiv (i j : Int) : Prop := 0 < j ∧ j < 1073741824
def CPow (i j : Int) : Prop := 0 ≤ j ∧ j ≤ 1000000 ∧ i.natAbs < 2 ^ 64
def CMul (i j : Int) : Prop := (-(2 ^ 64) < i ∧ i < 2 ^ 64) ∨ (-(2 ^ 64) < j ∧ j < 2 ^ 64)
theorem CMul.ok {i j : Int} (h : CMul i j) : IntMulOk i j := by
  rcases h with ⟨h1, h2⟩ | ⟨h1, h2⟩
  · exact .of_left (intBits_le_64 h1 h2)
  · exact .of_right (intBits_le_64 h1 h2)

theorem op_add : OpR X (binaryOp .Add) (rI0 fun i j => .int (i + j)) := opI0 fun _ _ _ _ _ _ _ q => add_int q
theorem op_sub : OpR X (binaryOp .Sub) (rI0 fun i j => .int (i - j)) := opI0 fun _ _ _ _ _ _ _ q => sub_int q
theorem op_mul : OpR X (binaryOp .Mult) (rI CMul fun i j => .int (i * j)) := opI fun _ _ _ _ _ _ _ hc q => mul_int q hc.ok
/-- // by a positive divisor -/
theorem op_fdiv : OpR X (binaryOp .FloorDiv) (rI CDiv fun i j => .int (i / j)) := opI fun i j _ _ _ _ _ hc q => by
  have h1 : (0 : Int) < j := hc.1
  have h2 : j < 1073741824 := hc.2
  exact floordiv_int (by first | lia | omega) (by rw [Int.fdiv_eq_ediv_of_nonneg i (by first | lia | omega)]; exact q) (.inl (PyProof.noPylong_small (by first | lia | omega)))
/-- % by a positive divisor of any size -/
theorem op_mod : OpR X (binaryOp .Mod) (rI (fun _ j => 0 < j) fun i j => .int (i % j)) := opI fun i j _ _ _ _ _ hc q => by
  have h1 : (0 : Int) < j := hc
  exact mod_int' (by first | lia | omega) (by rw [Int.fmod_eq_emod_of_nonneg i (by first | lia | omega)]; exact q)
theorem op_modN : OpR X (binaryOp .Mod) (rI (fun _ j => j ≠ 0) fun i j => .int (i.fmod j)) := opI fun _ _ _ _ _ _ _ hc q => mod_int' hc q
theorem op_pow : OpR X (binaryOp .Pow) (rI CPow fun i j => .int (i ^ j.toNat)) := opI fun _ _ _ _ _ _ _ hc q => pow_int_small hc.1 hc.2.1 hc.2.2 q


theorem unI {f : Value → Sem Value} {g : Int → Int}
    (rule : ∀ (i : Int) (t : Tok) (s : Shared) (Q : Value → Shared → Prop) (E : Value → Shared → Prop), Q (.int (g i) s.toks) { s with toks := s.toks + 1 } → wpAny (model X.prog X.w) X.A (f (.int i t)) Q E s) :
    UnR X f (rU fun i => .int (g i)) := by
  intro pins s σ H x v Q I rx h
  obtain ⟨i, rfl, q⟩ := h
  obtain ⟨t, rfl⟩ := rx
  exact rule i t s _ _ ⟨.int (g i), H, I.tok _, ⟨_, rfl⟩, q⟩
theorem un_neg : UnR X (unaryOp .USub) (rU fun i => .int (-i)) := unI fun _ _ _ _ _ q => neg_int q

/-! ### bools among ints: n += (a < b) -/
end

/-! ### comparisons -/
/-- the scalars that == tells apart as data does -/
def scal : V → V → Bool
  | .non, .non => true | .non, .int _ => true | .int _, .non => true | .non, .bl _ => true | .bl _, .non => true | .non, .str _ => true | .str _, .non => true
  | .int _, .int _ => true | .bl _, .bl _ => true | .str _, .str _ => true | .byt _, .byt _ => true
  | .int _, .str _ => true | .str _, .int _ => true | .bl _, .str _ => true | .str _, .bl _ => true
  | _, _ => false
def rEq : R2 := fun x y H Q => scal x y = true ∧ Q (.bl (decide (x = y))) H
def rNe : R2 := fun x y H Q => scal x y = true ∧ Q (.bl (!decide (x = y))) H

theorem dec_int {i j : Int} : decide (V.int i = V.int j) = (i == j) := by
  rw [Bool.eq_iff_iff]
  simp
theorem dec_bl {i j : Bool} : decide (V.bl i = V.bl j) = (i == j) := by
  rw [Bool.eq_iff_iff]
  simp
theorem dec_str {i j : Str} : decide (V.str i = V.str j) = (i == j) := by
  rw [Bool.eq_iff_iff]
  simp
theorem dec_byt {i j : Array UInt8} : decide (V.byt i = V.byt j) = (i.toList == j.toList) := by
  rw [Bool.eq_iff_iff]
  cases i
  cases j
  simp

section
variable {X : Cx} {a b c : Expr} {ta tb tc : TE} {pos : Pos}
theorem fin_bl {pins : List (Addr × Obj)} {σ : St} {H : Hp} {s : Shared} {Q : VK} {k k' : Bool} (I : Inv X pins σ H s) (q : Q (.bl k) H) (e : k = k') : EP X pins σ Q (.bool k') s := by
  subst e
  exact ⟨.bl k, H, I, rfl, q⟩
theorem op_eq : OpR X (compareOp .Eq) rEq := by
  intro pins s σ H x y v u Q I rx ry h
  obtain ⟨hs, q⟩ := h
  cases x with
  | non =>
    cases rx
    cases y with
    | non => cases ry; exact PySem.EqNone.eq_none_none (fin_bl I q (by simp))
    | bl j => cases ry; exact PySem.EqNone.eq_none_bool (fin_bl I q (by simp))
    | int j => obtain ⟨t', rfl⟩ := ry; exact PySem.EqNone.eq_none_int (fin_bl I q (by simp))
    | str j => obtain ⟨t', rfl⟩ := ry; exact PySem.EqNone.eq_none_str (fin_bl I q (by simp))
    | _ => exact absurd (show false = true from hs) Bool.false_ne_true
  | bl i =>
    cases rx
    cases y with
    | non => cases ry; exact PySem.EqNone.eq_bool_none (fin_bl I q (by simp))
    | bl j => cases ry; exact eq_bool (fin_bl I q dec_bl)
    | str j => obtain ⟨t', rfl⟩ := ry; exact PySem.EqMixed.eq_bool_str (fin_bl I q (by simp))
    | _ => exact absurd (show false = true from hs) Bool.false_ne_true
  | int i =>
    obtain ⟨t, rfl⟩ := rx
    cases y with
    | non => cases ry; exact PySem.EqNone.eq_int_none (fin_bl I q (by simp))
    | int j => obtain ⟨t', rfl⟩ := ry; exact eq_int (fin_bl I q dec_int)
    | str j => obtain ⟨t', rfl⟩ := ry; exact PySem.EqMixed.eq_int_str (fin_bl I q (by simp))
    | _ => exact absurd (show false = true from hs) Bool.false_ne_true
  | str i =>
    obtain ⟨t, rfl⟩ := rx
    cases y with
    | non => cases ry; exact PySem.EqNone.eq_str_none (fin_bl I q (by simp))
    | bl j => cases ry; exact PySem.EqMixed.eq_str_bool (fin_bl I q (by simp))
    | int j => obtain ⟨t', rfl⟩ := ry; exact PySem.EqMixed.eq_str_int (fin_bl I q (by simp))
    | str j => obtain ⟨t', rfl⟩ := ry; exact eq_str (fin_bl I q dec_str)
    | _ => exact absurd (show false = true from hs) Bool.false_ne_true
  | byt i =>
    obtain ⟨t, rfl⟩ := rx
    cases y with
    | byt j => obtain ⟨t', rfl⟩ := ry; exact PySem.W.eq_bytes (fin_bl I q dec_byt)
    | _ => exact absurd (show false = true from hs) Bool.false_ne_true
  | _ => cases y <;> exact absurd (show false = true from hs) Bool.false_ne_true
theorem op_ne : OpR X (compareOp .NotEq) rNe := by
  intro pins s σ H x y v u Q I rx ry h
  obtain ⟨hs, q⟩ := h
  cases x with
  | non =>
    cases rx
    cases y with
    | non => cases ry; exact PySem.EqNone.ne_none_none (fin_bl I q (by simp))
    | bl j => cases ry; exact PySem.EqNone.ne_none_bool (fin_bl I q (by simp))
    | int j => obtain ⟨t', rfl⟩ := ry; exact PySem.EqNone.ne_none_int (fin_bl I q (by simp))
    | str j => obtain ⟨t', rfl⟩ := ry; exact PySem.EqNone.ne_none_str (fin_bl I q (by simp))
    | _ => exact absurd (show false = true from hs) Bool.false_ne_true
  | bl i =>
    cases rx
    cases y with
    | non => cases ry; exact PySem.EqNone.ne_bool_none (fin_bl I q (by simp))
    | bl j => cases ry; exact ne_bool (fin_bl I q (congrArg not dec_bl))
    | str j => obtain ⟨t', rfl⟩ := ry; exact PySem.EqMixed.ne_bool_str (fin_bl I q (by simp))
    | _ => exact absurd (show false = true from hs) Bool.false_ne_true
  | int i =>
    obtain ⟨t, rfl⟩ := rx
    cases y with
    | non => cases ry; exact PySem.EqNone.ne_int_none (fin_bl I q (by simp))
    | int j => obtain ⟨t', rfl⟩ := ry; exact ne_int (fin_bl I q (congrArg not dec_int))
    | str j => obtain ⟨t', rfl⟩ := ry; exact PySem.EqMixed.ne_int_str (fin_bl I q (by simp))
    | _ => exact absurd (show false = true from hs) Bool.false_ne_true
  | str i =>
    obtain ⟨t, rfl⟩ := rx
    cases y with
    | non => cases ry; exact PySem.EqNone.ne_str_none (fin_bl I q (by simp))
    | bl j => cases ry; exact PySem.EqMixed.ne_str_bool (fin_bl I q (by simp))
    | int j => obtain ⟨t', rfl⟩ := ry; exact PySem.EqMixed.ne_str_int (fin_bl I q (by simp))
    | str j => obtain ⟨t', rfl⟩ := ry; exact ne_str (fin_bl I q (congrArg not dec_str))
    | _ => exact absurd (show false = true from hs) Bool.false_ne_true
  | byt i =>
    obtain ⟨t, rfl⟩ := rx
    cases y with
    | byt j => obtain ⟨t', rfl⟩ := ry; exact PySem.W.ne_bytes (fin_bl I q (congrArg not dec_byt))
    | _ => exact absurd (show false = true from hs) Bool.false_ne_true
  | _ => cases y <;> exact absurd (show false = true from hs) Bool.false_ne_true

theorem op_lt : OpR X (compareOp .Lt) (rI0 fun i j => .bl (decide (i < j))) := opB0 fun _ _ _ _ _ _ _ q => lt_int q
theorem op_le : OpR X (compareOp .LtE) (rI0 fun i j => .bl (decide (i ≤ j))) := opB0 fun _ _ _ _ _ _ _ q => le_int q
theorem op_gt : OpR X (compareOp .Gt) (rI0 fun i j => .bl (decide (j < i))) := opB0 fun _ _ _ _ _ _ _ q => gt_int q
theorem op_ge : OpR X (compareOp .GtE) (rI0 fun i j => .bl (decide (j ≤ i))) := opB0 fun _ _ _ _ _ _ _ q => ge_int q




theorem nomark (b : Expr) {op : CmpOp} (h : op ≠ .In := by decide) (h2 : op ≠ .NotIn := by decide) : behindInMarks op b = false := by
  have e1 : (op == CmpOp.In) = false := by cases op <;> first | rfl | exact absurd rfl h
  have e2 : (op == CmpOp.NotIn) = false := by cases op <;> first | rfl | exact absurd rfl h2
  cases b <;> simp [behindInMarks, e1, e2]
/-- a comparison as a value; hm: nomark b, or (for in, not in) by with_unfolding_all rfl -/
theorem pe_cmpR {op : CmpOp} {r : R2} (ho : OpR X (compareOp op) r) (ha : PE X a ta) (hb : PE X b tb) (hm : behindInMarks op b = false) : PE X (.Compare a [op] [b] pos) (tOp r ta tb) := by
  intro pins s σ H Q I h
  exact wpAny_Compare1 (binT ha hb I h fun v u s2 x y H2 I2 rx ry q => ho pins s2 σ H2 x y v u Q I2 rx ry q) hm
/-- a reading of a value as a test -/
def tTest (t : TE) : TT := fun σ H Q => t σ H fun x H' => ∃ k, x = .bl k ∧ Q k H'
theorem pt_cmpR {op : CmpOp} {r : R2} (ho : OpR X (compareOp op) r) (ha : PE X a ta) (hb : PE X b tb) (hm : behindInMarks op b = false) : PT X (.Compare a [op] [b] pos) (tTest (tOp r ta tb)) := by
  intro pins s σ H Q I h
  refine wpAny_isTrue_Compare1 (thn (ha pins s σ H _ I h) fun v s1 ⟨x, H1, I1, r1, q1⟩ => thn (hb pins s1 σ H1 _ I1 q1) fun u s2 ⟨y, H2, I2, r2, q2⟩ =>
    thn (ho pins s2 σ H2 x y v u _ I2 r1 r2 q2) fun c s3 ⟨z, H3, I3, r3, k, e, q3⟩ => ?_) hm
  subst e
  cases r3
  exact wpAny_truthy_bool ⟨H3, I3, q3⟩
/-- a op1 b op2 c -/
def tChain (r r' : R2) (ta tb tc : TE) : TE := fun σ H Q => ta σ H fun x H1 => tb σ H1 fun y H2 => r x y H2 fun z H3 => ∃ k, z = .bl k ∧
  (if k = true then tc σ H3 fun w' H4 => r' y w' H4 Q else Q (.bl false) H3)
theorem pe_chain {op op' : CmpOp} {r r' : R2} (ho : OpR X (compareOp op) r) (ho' : OpR X (compareOp op') r') (ha : PE X a ta) (hb : PE X b tb) (hc : PE X c tc)
    (hm : lastMarks [op, op'] [b, c] = false := by with_unfolding_all rfl) : PE X (.Compare a [op, op'] [b, c] pos) (tChain r r' ta tb tc) := by
  intro pins s σ H Q I h
  refine Compare_chain (thn (ha pins s σ H _ I h) fun v s1 ⟨x, H1, I1, r1, q1⟩ => chain_link (thn (hb pins s1 σ H1 _ I1 q1) fun u s2 ⟨y, H2, I2, r2, q2⟩ =>
    thn (ho pins s2 σ H2 x y v u _ I2 r1 r2 q2) fun d s3 ⟨z, H3, I3, r3, k, e, q3⟩ => ?_)) hm
  subst e
  cases r3
  refine wpAny_truthy_bool ?_
  cases k with
  | false => exact ite_ff ⟨.bl false, H3, I3, rfl, q3⟩
  | true => exact ite_tt (chain_last (thn (hc pins s3 σ H3 _ I3 q3) fun w' s4 ⟨z', H4, I4, r4, q4⟩ => ho' pins s4 σ H4 y z' u w' Q I4 r2 r4 q4))
theorem pt_chain {op op' : CmpOp} {r r' : R2} (ho : OpR X (compareOp op) r) (ho' : OpR X (compareOp op') r') (ha : PE X a ta) (hb : PE X b tb) (hc : PE X c tc)
    (hm : lastMarks [op, op'] [b, c] = false := by with_unfolding_all rfl) : PT X (.Compare a [op, op'] [b, c] pos) (tTest (tChain r r' ta tb tc)) := by
  intro pins s σ H Q I h
  refine isTrue_chain (thn (ha pins s σ H _ I h) fun v s1 ⟨x, H1, I1, r1, q1⟩ => test_link (thn (hb pins s1 σ H1 _ I1 q1) fun u s2 ⟨y, H2, I2, r2, q2⟩ =>
    thn (ho pins s2 σ H2 x y v u _ I2 r1 r2 q2) fun d s3 ⟨z, H3, I3, r3, k, e, q3⟩ => ?_)) hm
  subst e
  cases r3
  refine wpAny_truthy_bool ?_
  cases k with
  | false =>
    obtain ⟨k', e', q'⟩ := q3
    cases e'
    exact ite_ff ⟨H3, I3, q'⟩
  | true =>
    refine ite_tt (test_last (thn (hc pins s3 σ H3 _ I3 q3) fun w' s4 ⟨z', H4, I4, r4, q4⟩ => thn (ho' pins s4 σ H4 y z' u w' _ I4 r2 r4 q4) fun d' s5 ⟨z2, H5, I5, r5, k2, e2, q5⟩ => ?_))
    subst e2
    cases r5
    exact wpAny_truthy_bool ⟨H5, I5, q5⟩

/-! ### truth -/
/-- a value's truth by the abstract heap -/
def TruV (K : PySem.W.Frag) (x : V) (H : Hp) (k : Bool) : Prop :=
  match x with
  | .non => k = false
  | .bl b => k = b
  | .int i => k = (i != 0)
  | .str y => y.length ≤ sizeLine ∧ k = ((y.length : Int) != 0)
  | .byt y => y.size ≤ sizeLine ∧ k = ((y.size : Int) != 0)
  | .ref p => (∃ xs, SqL K H p xs ∧ k = !xs.isEmpty) ∨ (∃ xs, SqT K H p xs ∧ k = !xs.isEmpty) ∨ ∃ kvs, H p = some (.dK kvs) ∧ k = !kvs.isEmpty
  | _ => False
theorem isEmpty_kv {κ : Type} {kvs : List (κ × V)} {vs : List (κ × Value)} (r : KV kvs vs) : (!vs.isEmpty) = !kvs.isEmpty := by
  cases r <;> rfl
theorem isEmpty_of {xs : List V} {its : List Value} (r : Vals xs its) : (!its.toArray.isEmpty) = !xs.isEmpty := by
  cases r <;> simp
theorem line63 : (sizeLine : Nat) < 2 ^ 63 := by rw [sizeLine_eq]; decide
theorem tru_ok : TruR X (fun x H Q => ∃ k, TruV X.K x H k ∧ Q k H) := by
  intro pins s σ H x v Q I rx h
  obtain ⟨k, e, q⟩ := h
  have hl := line63
  have hs : sizeLine = 16777216 := sizeLine_eq
  cases x with
  | non =>
    cases rx
    have e' : k = false := e
    subst e'
    exact truthy_none ⟨H, I, q⟩
  | bl b =>
    cases rx
    have e' : k = b := e
    subst e'
    exact wpAny_truthy_bool ⟨H, I, q⟩
  | int i =>
    obtain ⟨t, rfl⟩ := rx
    have e' : k = (i != 0) := e
    subst e'
    exact PySem.P.truthy_int ⟨H, I, q⟩
  | str y =>
    obtain ⟨t, rfl⟩ := rx
    obtain ⟨hy, e'⟩ : y.length ≤ sizeLine ∧ k = ((y.length : Int) != 0) := e
    subst e'
    exact PySem.P.truthy_str (by first | lia | omega) ⟨H, I.tok _, q⟩
  | byt y =>
    obtain ⟨t, rfl⟩ := rx
    obtain ⟨hy, e'⟩ : y.size ≤ sizeLine ∧ k = ((y.size : Int) != 0) := e
    subst e'
    exact PySem.W.truthy_bytes (by first | lia | omega) ⟨H, I.tok _, q⟩
  | ref p =>
    cases rx
    have e' : (∃ xs, SqL X.K H p xs ∧ k = !xs.isEmpty) ∨ (∃ xs, SqT X.K H p xs ∧ k = !xs.isEmpty) ∨ ∃ kvs, H p = some (.dK kvs) ∧ k = !kvs.isEmpty := e
    rcases e' with ⟨xs, hx, e'⟩ | ⟨xs, hx, e'⟩ | ⟨kvs, hx, e'⟩
    · subst e'
      obtain ⟨its, r, pl, hz⟩ := I.list hx
      have hlen := r.length
      exact wpAny_truthy_list pl.isList (by simp only [List.size_toArray]; (first | lia | omega)) ⟨H, I.tok _, by rw [isEmpty_of r]; exact q⟩
    · subst e'
      obtain ⟨its, r, pl, hz⟩ := I.tuple hx
      have hlen := r.length
      exact truthy_tuple pl (by simp only [List.size_toArray]; (first | lia | omega)) ⟨H, I.tok _, by rw [isEmpty_of r]; exact q⟩
    · subst e'
      obtain ⟨hz, hS, vs, r, m⟩ : kvs.length ≤ sizeLine ∧ (p == sysModules) = false ∧ ∃ vs, KV kvs vs ∧ s.heap.DictOf (mixKind X.prog X.w) p vs := I.hok p _ hx
      have hlen : kvs.length = vs.length := Paired.length r
      exact wpAny_truthy_dict hS m (by first | lia | omega) ⟨H, I.tok _, by rw [isEmpty_kv r]; exact q⟩
  | _ => exact (show False from e).elim
/-- any expression whose test is its value's truth (a name, a call, a subscript, a field ..: he by fun _ => rfl) -/
theorem pt_truth (ha : PE X a ta) (he : ∀ whole, isTrue a X.env whole = (do let v ← whole; standAt a.pos; holding [v] (truthy v))) :
    PT X a (fun σ H Q => ta σ H fun x H' => ∃ k, TruV X.K x H' k ∧ Q k H') := by
  intro pins s σ H Q I h
  exact isTrue_plain (thn (ha pins s σ H _ I h) fun v s1 ⟨x, H1, I1, r1, q1⟩ => tru_ok pins s1 σ H1 x v Q I1 r1 q1) (he _)

/-! ### strs and bytes -/


/-! ### scalar builtins, by CallR -/
theorem vals1 {x : V} {us : List Value} (r : Vals [x] us) : ∃ u, us = [u] ∧ RelV x u := by
  cases r with
  | cons r1 r2 => cases r2; exact ⟨_, rfl, r1⟩
theorem vals2 {x y : V} {us : List Value} (r : Vals [x, y] us) : ∃ u w', us = [u, w'] ∧ RelV x u ∧ RelV y w' := by
  cases r with
  | cons r1 r2 =>
    cases r2 with
    | cons r3 r4 => cases r4; exact ⟨_, _, rfl, r1, r3⟩
theorem call_abs : CallR X (.builtin "abs") (fun xs H Q => ∃ i, xs = [.int i] ∧ Q (.int (if i < 0 then -i else i)) H) := by
  intro pins s σ H xs us Q I r h
  obtain ⟨i, rfl, q⟩ := h
  obtain ⟨u, rfl, t, rfl⟩ := vals1 r
  exact call_abs_int fun u tk => ⟨.int (if i < 0 then -i else i), H, I.tok _, ⟨_, rfl⟩, q⟩
theorem call_max2 (hc : X.calm = true) : CallR X (.builtin "max") (fun xs H Q => ∃ i j, xs = [.int i, .int j] ∧ Q (.int (if j > i then j else i)) H) := by
  intro pins s σ H xs us Q I r h
  obtain ⟨i, j, rfl, q⟩ := h
  obtain ⟨u, w', rfl, ⟨t, rfl⟩, ⟨t', rfl⟩⟩ := vals2 r
  refine max_two_ints (I.ok.hd hc) fun h' tk k => ⟨_, H, I.kept k, ?_, q⟩
  by_cases hj : j > i
  · rw [if_pos hj, if_pos hj]; exact ⟨_, rfl⟩
  · rw [if_neg hj, if_neg hj]; exact ⟨_, rfl⟩
theorem call_int1 : CallR X (.type "int") (fun xs H Q => (∃ i, xs = [.int i] ∧ Q (.int i) H) ∨ ∃ k, xs = [.bl k] ∧ Q (.int (if k then 1 else 0)) H) := by
  intro pins s σ H xs us Q I r h
  rcases h with ⟨i, rfl, q⟩ | ⟨k, rfl, q⟩
  · obtain ⟨u, rfl, t, rfl⟩ := vals1 r
    exact call_int_int ⟨.int i, H, I, ⟨_, rfl⟩, q⟩
  · obtain ⟨u, rfl, r1⟩ := vals1 r
    cases r1
    exact call_int_bool ⟨.int (if k then 1 else 0), H, I.tok _, ⟨_, rfl⟩, q⟩
end
end L2

namespace L2
open PySem PySem.Spec PyProof.Rows

/-! ### an instance, its attributes a map -/
structure ObjM (h : Heap) (x dx C : Addr) (mA : Str → Option Value) : Prop where
  obj : h.get? x = some (PySem.W.instObj C dx)
  ns : h.Ns1 dx mA
  ne : dx ≠ x

theorem lookIn_ns {h : Heap} {dx : Addr} {mA : Str → Option Value} (n : h.Ns1 dx mA) : ∃ od, h.get? dx = some od ∧ ∀ name, PySem.W.lookIn name od = some (mA name) := by
  obtain ⟨o, es, ep, ho, hd, hk, _, hm⟩ := n
  refine ⟨o, ho, fun name => ?_⟩
  have e := hm name
  unfold nsFind findBy at e
  rw [← Array.find?_toList] at e
  unfold PySem.W.lookIn
  rw [hd]
  dsimp only
  split
  · rename_i y q
    rw [q] at e
    exact congrArg some e
  · rename_i q
    rw [q] at e
    have a : es.toList.any (·.refKey) = false := by
      rw [List.any_eq_false]
      intro y hy
      obtain ⟨z, t, hkey⟩ := hk y (Array.mem_toList_iff.mp hy)
      simp [DictEntry.refKey, hkey]
    have a' : ¬ es.toList.any (·.refKey) = true := by rw [a]; exact Bool.false_ne_true
    rw [if_neg a']
    exact congrArg some e

theorem ObjM.look {h : Heap} {x dx C : Addr} {mA : Str → Option Value} (I : ObjM h x dx C mA) : ∃ od, PySem.W.InstAt h x (PySem.W.instObj C dx) C (some od) ∧ ∀ name, PySem.W.lookIn name od = some (mA name) :=
  let ⟨od, ho, hl⟩ := lookIn_ns I.ns
  ⟨od, ⟨I.obj, rfl, rfl, ho⟩, hl⟩

section
variable {prog : Program} {w : World} {A : Around} {E : Value → Shared → Prop} {s : Shared} {K : PySem.W.Frag} {x dx C f : Addr} {mA : Str → Option Value} {name : Str} {v : Value}





end

/-! ### the attributes as a list of pairs -/


section
variable {P : Program} {w : World} {H H' : Hp} {h h' : Heap} {a C dx : Addr} {fs fs' : List (Str × V)}
theorem ins_get (hok : HOk P w H h) (e : H a = some (.ins C dx fs)) : ∃ mA, ObjM h a dx C mA ∧ (∀ f, RelO (fs.lookup f) (mA f)) ∧ PySem.Within mA (fs.map (·.1)) ∧ fs.length ≤ 1000 ∧ H dx = some (.own a) := by
  obtain ⟨d, z, ne, ob, mA, n, r, q⟩ := (show ObjOk P w H h a (.ins C dx fs) from hok a _ e)
  exact ⟨mA, ⟨ob, n, ne⟩, r, q, z, d⟩
end

/-! ### what of the text a class must have -/
structure Cls (K : PySem.W.Frag) (C : Addr) : Prop where
  pg : PySem.W.plainGet K C Str.empty = true
  hd : PySem.W.hasDictIn K C = true
  po : PySem.W.plainOver K C = true
  sa : PySem.W.findIn K (.ref C) "__setattr__" = some (some (.builtin "object.__setattr__"))
theorem Cls.get {K : PySem.W.Frag} {C : Addr} (c : Cls K C) (f : Str) : PySem.W.plainGet K C f = true := c.pg
/-- a constant of the class -/
structure Con (K : PySem.W.Frag) (C : Addr) (f : Str) (v : V) (u : Value) : Prop where
  at_ : PySem.W.findIn K (.ref C) f = some (some u)
  rel : RelV v u
  get : PySem.W.specialIn K u "__get__" = some none
  cp : PySem.W.copiedNames.contains f = false
/-- a method: a plain def of the class or of one above it -/
structure Meth (K : PySem.W.Frag) (C : Addr) (m : Str) (f : Addr) : Prop where
  at_ : PySem.W.findIn K (.ref C) m = some (some (.ref f))
  fn : PySem.W.isFn K (.ref f) = true
  kp : PySem.W.keepIn K (.ref f) = true

section
variable {X : Cx} {pins : List (Addr × Obj)} {σ : St} {H : Hp} {s : Shared} {a C dx : Addr} {fs : List (Str × V)} {f : Str} {v : V} {A : Around} {E : Value → Shared → Prop}






end

/-! ### readings and rules -/

section
variable {X : Cx} {o e value : Expr} {f : Str} {pos pos' tpos : Pos} {ta tv : TE}

end

/-! ### isinstance -/
section
variable {X : Cx} {pins : List (Addr × Obj)} {σ : St} {H : Hp} {s : Shared} {A : Around} {E : Value → Shared → Prop} {Q : Value → Shared → Prop} {c : Value} {b : Bool}
/-- the type of a value, as the fragment's deciders take it; for an instance its class -/
inductive TyOf (K : PySem.W.Frag) (H : Hp) : V → Value → Prop where
  | non : TyOf K H .non (.type "NoneType")
  | bl (x : Bool) : TyOf K H (.bl x) (.type "bool")
  | int (i : Int) : TyOf K H (.int i) (.type "int")
  | str (x : Str) : TyOf K H (.str x) (.type "str")
  | flt (x : UInt64) : TyOf K H (.flt x) (.type "float")
  | lst {a : Addr} {xs : List V} (e : H a = some (.lst xs)) : TyOf K H (.ref a) (.type "list")
  | frz {a : Addr} {o : Obj} {xs : List V} (e : H a = some (.frz o (.lst xs))) : TyOf K H (.ref a) (.type "list")
  | tup {a : Addr} {xs : List V} (e : H a = some (.tup xs)) : TyOf K H (.ref a) (.type "tuple")
  | dK {a : Addr} {kvs : List (Key × V)} (e : H a = some (.dK kvs)) : TyOf K H (.ref a) (.type "dict")
  | dT {a : Addr} {kvs : List (List Key × V)} (e : H a = some (.dT kvs)) : TyOf K H (.ref a) (.type "dict")
  | ins {a C dx : Addr} {fs : List (Str × V)} (e : H a = some (.ins C dx fs)) (cl : Cls K C) (ha : PySem.W.findIn K (.ref C) "__class__" = some (some (.builtin "object.__class__")))
      (hn : PySem.W.specialIn K (.builtin "object.__class__") "__get__" = some (some (.builtin "getset_descriptor.__get__"))) (htk : PySem.W.takesIn K (.builtin "object.__class__") = some true)
      (hm : PySem.W.mroIn K C (.type "object") = some true) : TyOf K H (.ref a) (.ref C)
/-- isinstance(x, c) for one class c, a built-in or an own one: kitOne's answer -/
theorem isinst_ok {x : V} {u t : Value} (I : Inv X pins σ H s) (rx : RelV x u) (ty : TyOf X.K H x t) (e : PySem.W.kitOne X.K t c = some b) (h : ∀ tk, Q (.bool b) { s with toks := tk }) :
    wpAny (model X.prog X.w) A (call (.builtin "isinstance") [u, c]) Q E s := by
  cases ty with
  | non => cases (show u = Value.none from rx); exact PySem.W.kia_one PySem.W.kitx_none I.kIn True.intro e (fun z => nomatch z) h
  | bl y => cases (show u = Value.bool y from rx); exact PySem.W.kia_one PySem.W.kitx_bool I.kIn True.intro e (fun z => nomatch z) h
  | int i => obtain ⟨t, q⟩ := (show ∃ t, u = Value.int i t from rx); cases q; exact PySem.W.kia_one PySem.W.kitx_int I.kIn True.intro e (fun z => nomatch z) h
  | str y => obtain ⟨t, q⟩ := (show ∃ t, u = Value.str y t from rx); cases q; exact PySem.W.kia_one PySem.W.kitx_str I.kIn True.intro e (fun z => nomatch z) h
  | flt y => obtain ⟨t, q⟩ := (show ∃ t, u = Value.float y t from rx); cases q; exact PySem.W.kia_one PySem.W.kitx_float I.kIn True.intro e (fun z => nomatch z) h
  | @lst a xs ea =>
    cases (show u = Value.ref a from rx)
    obtain ⟨_, _, n, _, h1⟩ := (show ObjOk X.prog X.w H s.heap a (.lst xs) from I.hok a _ ea)
    exact PySem.W.kia_one PySem.W.kitx_list I.kIn ⟨_, h1, rfl⟩ e (fun z => nomatch z) h
  | @frz a ob xs ea =>
    cases (show u = Value.ref a from rx)
    obtain ⟨_, _, _, n, _, h1⟩ := (show ObjOk X.prog X.w H s.heap a (.frz ob (.lst xs)) from I.hok a _ ea)
    exact PySem.W.kia_one PySem.W.kitx_list I.kIn ⟨_, h1, rfl⟩ e (fun z => nomatch z) h
  | @tup a xs ea =>
    cases (show u = Value.ref a from rx)
    obtain ⟨_, _, _, p⟩ := (show ObjOk X.prog X.w H s.heap a (.tup xs) from I.hok a _ ea)
    obtain ⟨o, h1, h2, _⟩ := p
    exact PySem.W.kia_one PySem.W.kitx_tuple I.kIn ⟨o, h1, h2⟩ e (fun z => nomatch z) h
  | @dK a kvs ea =>
    cases (show u = Value.ref a from rx)
    obtain ⟨_, _, vs, _, p⟩ := (show ObjOk X.prog X.w H s.heap a (.dK kvs) from I.hok a _ ea)
    obtain ⟨o, es, ep, h1, h2, _⟩ := p
    exact PySem.W.kia_one PySem.W.kitx_dict I.kIn ⟨o, h1, h2.1⟩ e (fun z => nomatch z) h
  | @dT a kvs ea =>
    cases (show u = Value.ref a from rx)
    obtain ⟨_, _, xs, _, o, es, ep, h1, h2, _⟩ := (show ObjOk X.prog X.w H s.heap a (.dT kvs) from I.hok a _ ea)
    exact PySem.W.kia_one PySem.W.kitx_dict I.kIn ⟨o, h1, h2.1⟩ e (fun z => nomatch z) h
  | @ins a C dx fs ea cl ha hn htk hm =>
    cases (show u = Value.ref a from rx)
    obtain ⟨mA, O, _⟩ := ins_get I.hok ea
    obtain ⟨od, J, _⟩ := O.look
    exact PySem.W.kia_one (PySem.W.kitx_own (cl.get _) cl.hd ha hn htk hm) I.kIn J e (fun z => nomatch z) h
end
end L2

namespace L2
open PySem PySem.Spec PyProof.Rows

/-! ### room -/
structure Room (k : Nat) (A : Around) : Prop where
  hd : A.handled = none
  dp : A.depth + 3 * k + 5 < recursionLimit
  un : A.units + 16 * k + 200 < cLine
theorem Room.mono {j k : Nat} {A : Around} (r : Room k A) (h : j ≤ k) : Room j A := ⟨r.hd, by have := r.dp; (first | lia | omega), by have := r.un; (first | lia | omega)⟩
theorem Room.deeper {k : Nat} {A : Around} (r : Room (k + 1) A) (env : Env) : Room k (A.deeper env) :=
  ⟨r.hd, by have := r.dp; show A.depth + 1 + 3 * k + 5 < _; (first | lia | omega), by have := r.un; show A.units + 3 + 16 * k + 200 < _; (first | lia | omega)⟩
theorem Room.depth {k : Nat} {A : Around} (r : Room k A) : A.depth < recursionLimit := by have := r.dp; (first | lia | omega)
theorem Room.units {k : Nat} {A : Around} (r : Room k A) : A.units + 64 < cLine := by have := r.un; (first | lia | omega)

/-! ### argument lists and displays -/
def tNil : TA := fun _ H Q => Q [] H
def tCons (ta : TE) (tr : TA) : TA := fun σ H Q => ta σ H fun x H1 => tr σ H1 fun xs H2 => Q (x :: xs) H2
section
variable {X : Cx} {e : Expr} {es : List Expr} {te : TE} {t : TA} {pos : Pos}
theorem pa_nil : PA X [] tNil := fun _ _ _ _ H Q I h => Calls.spliced_nil ⟨[], H, I, .nil, h⟩
theorem pa_cons (ha : PE X e te) (hr : PA X es t) (hs : starEach (e :: es) X.env = (false, eval e X.env) :: starEach es X.env := by rfl) : PA X (e :: es) (tCons te t) := by
  intro pos pins s σ H Q I h
  rw [hs]
  show wpAny _ _ (spliced ((false, eval e X.env) :: backTo pos (starEach es X.env))) _ _ s
  refine Calls.spliced_cons (thn (ha pins s σ H _ I h) fun u s1 ⟨x, H1, I1, r1, q1⟩ => ?_)
  exact thn (hr pos pins s1 σ H1 _ I1 q1) fun us s2 ⟨xs, H2, I2, r2, q2⟩ => ⟨x :: xs, H2, I2, .cons r1 r2, q2⟩

/-- a tuple, a list of written items -/
def tTup (t : TA) : TE := fun σ H Q => t σ H fun xs H1 => xs.length ≤ sizeLine ∧ ∀ p, H1 p = none → Q (.ref p) (upd H1 p (.tup xs))
def tLst (t : TA) : TE := fun σ H Q => t σ H fun xs H1 => xs.length ≤ sizeLine ∧ ∀ p, H1 p = none → Q (.ref p) (upd H1 p (.lst xs))
theorem pe_tup {x1} (h : PA X es t) : PE X (.Tuple es x1 pos) (tTup t) := by
  intro pins s σ H Q I hq
  refine wpAny_Tuple_spliced (thn (h pos pins s σ H _ I hq) fun us s1 ⟨xs, H1, I1, r, z, q⟩ => ⟨by rw [← r.length]; exact z, ?_⟩)
  have hf : H1 s1.heap.objs.size = none := I1.hok.fresh (Nat.le_refl _)
  refine ⟨.ref s1.heap.objs.size, upd H1 s1.heap.objs.size (.tup xs), I1.laid (t' := s1.toks) (fun b u e => Heap.get?_push_of_some _ e) (Nat.le_refl _) ?_, rfl, q _ hf⟩
  exact ⟨z, us, r, ⟨_, Heap.get?_push_size _ rfl, rfl, _, rfl⟩⟩
theorem pe_lst (h : PA X es t) : PE X (.List es pos) (tLst t) := by
  intro pins s σ H Q I hq
  refine wpAny_List_spliced (thn (h pos pins s σ H _ I hq) fun us s1 ⟨xs, H1, I1, r, z, q⟩ => ⟨by rw [← r.length]; exact z, ?_⟩)
  have hf : H1 s1.heap.objs.size = none := I1.hok.fresh (Nat.le_refl _)
  refine ⟨.ref s1.heap.objs.size, upd H1 s1.heap.objs.size (.lst xs), I1.laid (t' := s1.toks) (fun b u e => Heap.get?_push_of_some _ e) (Nat.le_refl _) ?_, rfl, q _ hf⟩
  exact ⟨z, us, 0, r, Heap.get?_push_size _ rfl⟩
end

/-! ### what a def promises -/
/-- a def's promise: the bound arguments in the parameters' order, the heap, the wanted end, the wanted exception -/
abbrev Sp := List V → Hp → VK → XK → Prop
/-- how an exception lies behind a call (file 08 gives it): the callers' frames, abstract heap and state ahead of the call, the wish, the exception, the state -/
abbrev CXT := List Env → Hp → Shared → XK → Value → Shared → Prop

/-- the state at a call -/
structure Env0 (P : Program) (w : World) (K : PySem.W.Frag) (mg : Str → Option Value) (base : Heap) (A : Around) (outer : List Env) (s : Shared) (H : Hp) : Prop where
  frames : A.frames = some outer
  mod : Mod K mg base
  bs : ∀ b o, base.get? b = some o → s.heap.get? b = some o ∧ H b = none
  bsz : base.objs.size ≤ s.heap.objs.size
  funs : s.heap.FunFrames base outer
  frf : ∀ b ∈ frs outer, H b = none
  hok : HOk P w H s.heap
  bare : AllBare s.gens
/-- a call's end -/
def CE (outer : List Env) (P : Program) (w : World) (H : Hp) (s : Shared) (Q : VK) (u : Value) (s' : Shared) : Prop :=
  ∃ v H', s'.os = s.os ∧ AllBare s'.gens ∧ Un (frs outer) [] H H' s.heap s'.heap ∧ HOk P w H' s'.heap ∧ RelV v u ∧ Q v H'
def CR (CX : CXT) (outer : List Env) (P : Program) (w : World) (H : Hp) (s : Shared) (Q : VK) (E : XK) (r : Result) (s' : Shared) : Prop :=
  match r with
  | .ok (.ret u) => CE outer P w H s Q u s'
  | .ok _ => False
  | .error e => CX outer H s E e s'
structure FnOk (P : Program) (w : World) (K : PySem.W.Frag) (mg : Str → Option Value) (base : Heap) (CX : CXT) (k : Nat) (f : Addr) (fd : FuncData) (ps : List Str) (sp : Sp) : Prop where
  len : ∀ vs H Q E, sp vs H Q E → vs.length = ps.length
  run : ∀ (A : Around) (outer : List Env) (s : Shared) (H : Hp) (args : Args) (us : List Value) (vs : List V) (Q : VK) (E : XK), Room k A → Env0 P w K mg base A outer s H → BindsTo s fd args (ps.zip us) → Vals vs us → sp vs H Q E →
    codeAny (model P w) A (.call (.ref f) args) (CR CX outer P w H s Q E) s
/-- a weaker promise -/
theorem FnOk.imp {P : Program} {w : World} {K : PySem.W.Frag} {mg : Str → Option Value} {base : Heap} {CX : CXT} {k : Nat} {f : Addr} {fd : FuncData} {ps : List Str} {sp sp' : Sp} (F : FnOk P w K mg base CX k f fd ps sp)
    (h : ∀ vs H Q E, sp' vs H Q E → sp vs H Q E) : FnOk P w K mg base CX k f fd ps sp' :=
  ⟨fun vs H Q E q => F.len vs H Q E (h _ _ _ _ q), fun A outer s H args us vs Q E hr he hb hv hs => F.run A outer s H args us vs Q E hr he hb hv (h _ _ _ _ hs)⟩


section
variable {X : Cx} {pins : List (Addr × Obj)} {σ : St} {H : Hp} {s s' : Shared}
/-- from a body: what a callee wants -/
theorem Inv.env0 (I : Inv X pins σ H s) : Env0 X.prog X.w X.K X.mg X.base X.A X.stack s H :=
  ⟨I.ok.frames, I.ok.mod, I.bs, Nat.le_trans I.ok.bsz I.sz, I.stack, I.stkFree, I.hok, I.bare⟩
/-- behind a call -/
theorem Inv.after {Q : VK} {u : Value} (I : Inv X pins σ H s) (h : CE X.stack X.prog X.w H s Q u s') : EP X pins σ Q u s' := by
  obtain ⟨v, H', os, bare, un, hok, r, q⟩ := h
  obtain ⟨hh, g, d, t, os'⟩ := s'
  obtain rfl : os' = s.os := os
  exact ⟨v, H', I.call (h' := hh) (g' := g) (d' := d) (t' := t) (ch := []) un hok bare (fun b z => absurd z (by simp)), r, q⟩
end

/-! ### calls -/
/-- f(..): the written arguments, then the defaults dvs; E: what is wanted of an exception -/
def tCall (sp : Sp) (dvs : List V) (E : XK) (t : TA) : TE := fun σ H Q => t σ H fun vs H1 => sp (vs ++ dvs) H1 Q E

/-- how the parameters are bound: us the positional arguments, kw the keywords' values by name, ds the defaults that fill up -/
def Binds (K : PySem.W.Frag) (fd : FuncData) (ps : List Str) (ds : List Value) : Prop :=
  ∀ (s : Shared) (us : List Value), K.In s.heap → (us ++ ds).length = ps.length → BindsTo s fd ⟨us, []⟩ (ps.zip (us ++ ds))
/-- every parameter is given -/
theorem Binds.all {K : PySem.W.Frag} {fd : FuncData} {ps : List Str} (h : ∀ us : List Value, us.length = ps.length → bindArgs fd ⟨us, []⟩ = pure (ps.zip us)) : Binds K fd ps [] := fun s us _ hl => by
  rw [List.append_nil] at hl ⊢
  exact .of_eq (h us hl)

/-- an exception of a callee reaches what this body wants of exceptions -/
def Passes (CX : CXT) (X : Cx) (E : XK) : Prop := ∀ (pins : List (Addr × Obj)) (σ : St) (H : Hp) (s : Shared) (e : Value) (s' : Shared), Inv X pins σ H s → CX X.stack H s E e s' → X.xe e s'

section
variable {X : Cx} {CX : CXT} {k : Nat} {f C : Addr} {fd : FuncData} {ps : List Str} {sp : Sp} {dvs : List V} {ds : List Value} {E : XK} {x m : Str} {p pos apos : Pos} {e o : Expr} {es : List Expr} {ta : TE} {t : TA}

/-- the callee runs -/
theorem run_fn {pins : List (Addr × Obj)} {σ : St} {H : Hp} {s : Shared} {Q : VK} {us : List Value} {vs : List V} (F : FnOk X.prog X.w X.K X.mg X.base CX k f fd ps sp) (hr : Room k X.A) (hb : Binds X.K fd ps ds) (hd : Vals dvs ds) (hx : Passes CX X E)
    (I : Inv X pins σ H s) (r : Vals vs us) (h : sp (vs ++ dvs) H Q E) : wpAny (model X.prog X.w) X.A (call (.ref f) us) (EP X pins σ Q) X.xe s := by
  have r2 : Vals (vs ++ dvs) (us ++ ds) := r.append hd
  have hl : (us ++ ds).length = ps.length := by rw [← r2.length]; exact F.len _ _ _ _ h
  refine wpAny_call (codeAny_mono (F.run X.A X.stack s H ⟨us, []⟩ (us ++ ds) (vs ++ dvs) Q E hr I.env0 (hb s us I.kIn hl) r2 h) fun r s' hq => ?_)
  cases r with
  | error e => exact hx pins σ H s e s' I hq
  | ok fl =>
    cases fl with
    | ret u => exact I.after hq
    | next => exact False.elim hq
    | brk => exact False.elim hq
    | cont => exact False.elim hq

theorem pe_call (F : FnOk X.prog X.w X.K X.mg X.base CX k f fd ps sp) (hr : Room k X.A) (hg : Gl X x) (hm : X.mg x = some (.ref f)) (hk : PySem.W.keepIn X.K (.ref f) = true) (hb : Binds X.K fd ps ds) (hd : Vals dvs ds) (hx : Passes CX X E)
    (ha : PA X (e :: es) t) (hdb : (x == ("__debug__" : Str)) = false := by decide) (he : starEach (e :: es) X.env = (false, eval e X.env) :: starEach es X.env := by rfl) (hpl : (backTo pos (starEach es X.env)).any (·.1) = false := by rfl) :
    PE X (.Call (.Name x p) (e :: es) [] pos) (tCall sp dvs E t) := by
  intro pins s σ H Q I h
  refine wpAny_Call_Name_kw (ld_glob I hg hm ?_ hdb)
  refine PySem.W.callWith_K (h₀ := X.base) I.ok.mod.kin hk (thn (ha pos pins s σ H _ I h) fun us s1 ⟨vs, H1, I1, r, q⟩ => ⟨I1.kIn, ?_⟩) he hpl
  exact run_fn F hr hb hd hx I1 r q


/-- what a class must have to be made -/
structure Mk (K : PySem.W.Frag) (C f : Addr) : Prop where
  makes : PySem.W.makesIn K C = true
  init : PySem.W.findIn K (.ref C) "__init__" = some (some (.ref f))
  fn : PySem.W.isFn K (.ref f) = true
  kp : PySem.W.keepIn K (.ref C) = true

end

/-! ### keywords -/
section
variable {X : Cx} {CX : CXT} {k : Nat} {f C : Addr} {fd : FuncData} {ps ks : List Str} {sp : Sp} {E : XK} {x m : Str} {p pos apos kpos : Pos} {e o : Expr} {es : List Expr} {kws : List Keyword} {te ta : TE} {t tk : TA} {nm : Option Str}

/-- how a call with keywords binds: g puts the positional values us and the keywords' values ws (names ks) in the parameters' order, defaults among them -/
structure KBinds (K : PySem.W.Frag) (fd : FuncData) (ps ks : List Str) (g : List Value → List Value → List Value) (gV : List V → List V → List V) : Prop where
  to : ∀ (s : Shared) (us ws : List Value), K.In s.heap → (g us ws).length = ps.length → BindsTo s fd ⟨us, ks.zip ws⟩ (ps.zip (g us ws))
  rel : ∀ {vs : List V} {us : List Value} {zs : List V} {ws : List Value}, Vals vs us → Vals zs ws → Vals (gV vs zs) (g us ws)
variable {g : List Value → List Value → List Value} {gV : List V → List V → List V}
end

/-! ### a def's body keeps its promise -/
/-- names: the parameters first -/
structure FnScope (N P : List Str) (sc : Scope) : Prop where
  kind : sc.kind = .function
  co : sc.isCoroutine = false
  gen : sc.isGenerator = false
  nd : N.Nodup
  pre : N.take P.length = P
  par : ∀ x ∈ P, sc.names.lookup x = some .local ∨ sc.names.lookup x = some .cell
  nofree : ∀ y ∈ sc.names, y.2 ≠ .free

theorem bindL_out {kindOf : Str → Option NameKind} {x : Str} : ∀ {binds : List (Str × Value)} {m : Str → Option Value}, (∀ v, (x, v) ∉ binds) → bindL kindOf binds m x = m x
  | [], _, _ => rfl
  | (n, v) :: r, m, h => by
    unfold bindL
    rw [bindL_out fun w hw => h w (List.mem_cons_of_mem _ hw)]
    split
    · have : x ≠ n := by rintro rfl; exact h v List.mem_cons_self
      simp [this]
    · rfl
theorem bindC_out {kindOf : Str → Option NameKind} {x : Str} : ∀ {binds : List (Str × Value)} {m : Str → Option Value}, (∀ v, (x, v) ∉ binds) → bindC kindOf binds m x = m x
  | [], _, _ => rfl
  | (n, v) :: r, m, h => by
    unfold bindC
    rw [bindC_out fun w hw => h w (List.mem_cons_of_mem _ hw)]
    split
    · rfl
    · have : x ≠ n := by rintro rfl; exact h v List.mem_cons_self
      simp [this]
theorem bindL_get {kindOf : Str → Option NameKind} {x : Str} {v : Value} : ∀ {P : List Str} {vs : List Value} {i : Nat} {m : Str → Option Value}, P.Nodup → P[i]? = some x → vs[i]? = some v → kindOf x = some .local →
    bindL kindOf (P.zip vs) m x = some v
  | [], _, _, _, _, h, _, _ => by simp at h
  | _ :: _, [], _, _, _, _, h, _ => by simp at h
  | p :: P, w :: vs, 0, m, nd, h1, h2, hk => by
    simp at h1 h2; subst h1; subst h2
    show bindL kindOf ((p, w) :: P.zip vs) m p = _
    unfold bindL
    rw [bindL_out fun v hv => (List.nodup_cons.mp nd).1 (List.of_mem_zip hv).1, if_pos hk]
    simp
  | p :: P, w :: vs, i + 1, m, nd, h1, h2, hk => by
    show bindL kindOf ((p, w) :: P.zip vs) m x = _
    unfold bindL
    exact bindL_get (i := i) (List.nodup_cons.mp nd).2 (by simpa using h1) (by simpa using h2) hk
theorem bindC_get {kindOf : Str → Option NameKind} {x : Str} {v : Value} : ∀ {P : List Str} {vs : List Value} {i : Nat} {m : Str → Option Value}, P.Nodup → P[i]? = some x → vs[i]? = some v → kindOf x ≠ some .local →
    bindC kindOf (P.zip vs) m x = some v
  | [], _, _, _, _, h, _, _ => by simp at h
  | _ :: _, [], _, _, _, _, h, _ => by simp at h
  | p :: P, w :: vs, 0, m, nd, h1, h2, hk => by
    simp at h1 h2; subst h1; subst h2
    show bindC kindOf ((p, w) :: P.zip vs) m p = _
    unfold bindC
    rw [bindC_out fun v hv => (List.nodup_cons.mp nd).1 (List.of_mem_zip hv).1, if_neg hk]
    simp
  | p :: P, w :: vs, i + 1, m, nd, h1, h2, hk => by
    show bindC kindOf ((p, w) :: P.zip vs) m x = _
    unfold bindC
    exact bindC_get (i := i) (List.nodup_cons.mp nd).2 (by simpa using h1) (by simpa using h2) hk

/-- the names' values at the entry -/
def start (N : List Str) (vs : List V) : St := vs.map some ++ List.replicate (N.length - vs.length) none

/-- the context of a def's body, at its entry; an exception leaves the frame, then lies as CX says -/
def cxOf (CX : CXT) (P : Program) (w : World) (K : PySem.W.Frag) (mg : Str → Option Value) (base : Heap) (N : List Str) (qual : Str) (scope : Scope) (f : Addr) (cd : Value) (A : Around) (outer : List Env) (s : Shared) (H : Hp) (E : XK) : Cx where
  prog := P
  w := w
  K := K
  mg := mg
  base := base
  A := A.deeper (envOfC qual scope s.heap.objs.size f cd)
  N := N
  s₀ := s
  H₀ := H
  env := envOfC qual scope s.heap.objs.size f cd
  outer := outer
  stack := envOfC qual scope s.heap.objs.size f cd :: outer
  ex := []
  calm := true
  fn := fun _ => true
  pn := []
  xe := fun e s' => wpAny (model P w) (A.deeper (envOfC qual scope s.heap.objs.size f cd)) (leaving (envOfC qual scope s.heap.objs.size f cd) e) (fun _ s'' => CX outer H s E e s'') (fun e' s'' => CX outer H s E e' s'') s'

theorem cell_has {sc : Scope} {n : Nat} {x : Str} (h : sc.names.lookup x = some .cell) : ∃ c, (cellsFrom n sc.names []).lookup x = some c := by
  have q := PySem.W.cellsFrom_some sc.names n [] (.inl h)
  exact Option.isSome_iff_exists.mp q

theorem inv_start {CX : CXT} {P : Program} {w : World} {K : PySem.W.Frag} {mg : Str → Option Value} {base : Heap} {N ps : List Str} {qual : Str} {scope : Scope} {f : Addr} {cd : Value} {A : Around} {outer : List Env} {s s1 : Shared} {H : Hp} {E : XK} {us : List Value} {vs : List V}
    (S : FnScope N ps scope) (hd : A.handled = none) (e0 : Env0 P w K mg base A outer s H) (hl : vs.length = ps.length) (r : Vals vs us)
    (x : InCallC s s.heap.objs.size (bindL (envOfC qual scope s.heap.objs.size f cd).kindOf (ps.zip us) fun _ => none) (cellsFrom (s.heap.objs.size + 1) scope.names []) (bindC (envOfC qual scope s.heap.objs.size f cd).kindOf (ps.zip us) fun _ => none) s1) :
    Inv (cxOf CX P w K mg base N qual scope f cd A outer s H E) [] (start N vs) H s1 := by
  have hpl : ps.length ≤ N.length := by have := congrArg List.length S.pre; rw [List.length_take] at this; (first | lia | omega)
  obtain ⟨h1, tk, rfl, hk⟩ := x.done
  have noA : ∀ b : Addr, b ∉ (cxOf CX P w K mg base N qual scope f cd A outer s H E).ex := fun b z => absurd (show b ∈ ([] : List Addr) from z) (by simp)
  refine ⟨⟨e0.mod, S.kind, rfl, rfl, Nat.le_refl _, fun y z c h1 h2 => ?_, fun y hy => ?_, fun y c _ h => ?_, fun _ => hd, Around.frames_deeper e0.frames, .inr ⟨rfl, rfl⟩, fun b z => absurd z (noA b), e0.bs, e0.bsz, fun b _ _ => noA b, fun b z => absurd z (noA b), e0.funs, e0.frf⟩,
    rfl, e0.bare, Un.kept hk, ⟨_, x.toInCall.ns, fun i y v h1 h2 h3 => ?_⟩, fun y c h => ⟨_, x.cell y c h⟩, e0.hok.fresh (Nat.le_refl _), fun y c h => ?_, fun p hp => absurd (show p ∈ ([] : List (Addr × Obj)) from hp) (by simp), e0.hok.kept hk, ?_⟩
  · exact name_of_addr x.apart (PySem.mem_of_lookup h1) (PySem.mem_of_lookup h2)
  · have hy : scope.names.lookup y = some .cell ∨ scope.names.lookup y = some .free := hy
    rcases hy with hy | hy
    · exact cell_has hy
    · exact absurd rfl (S.nofree _ (PySem.mem_of_lookup hy))
  · exact Nat.le_of_lt (x.above y c (PySem.mem_of_lookup h))
  · have hi : i < vs.length := by
      unfold start at h2
      by_cases hi : i < vs.length
      · exact hi
      · rw [List.getElem?_append_right (by simpa using hi)] at h2
        rw [List.getElem?_replicate] at h2
        split at h2 <;> cases h2
    have ha : vs[i]? = some v := by
      unfold start at h2
      rw [List.getElem?_append_left (by simpa using hi), List.getElem?_map] at h2
      cases e : vs[i]? with
      | none => rw [e] at h2; cases h2
      | some a => rw [e] at h2; cases h2; rfl
    obtain ⟨u, hu, rv⟩ := r.get ha
    have hp : ps[i]? = some y := by
      rw [← S.pre, List.getElem?_take_of_lt (by first | lia | omega)]; exact h1
    have ndP : ps.Nodup := by rw [← S.pre]; exact S.nd.sublist (List.take_sublist _ _)
    refine ⟨u, rv, ?_⟩
    rcases S.par y (List.mem_of_getElem? hp) with k | k
    · exact .inl ⟨k, bindL_get ndP hp hu k⟩
    · obtain ⟨c, e⟩ := cell_has (n := s.heap.objs.size + 1) k
      refine .inr ⟨.inl k, c, e, ?_⟩
      have q := x.cell y c e
      rw [bindC_get ndP hp hu (by show scope.names.lookup y ≠ _; rw [k]; decide)] at q
      exact q
  · exact e0.hok.fresh (Nat.le_of_lt (x.above y c (PySem.mem_of_lookup h)))
  · unfold start
    show _ = N.length
    rw [List.length_append, List.length_map, List.length_replicate]
    (first | lia | omega)

/-- THE RULE: a def (or a method) of the text, by its body. The body's reading t is chosen for each entry; it is run at the parameters' values -/
theorem fn_of {CX : CXT} {P : Program} {w : World} {K : PySem.W.Frag} {mg : Str → Option Value} {base : Heap} {k : Nat} {f : Addr} {name qual : Str} {params : Arguments} {body : List Stmt} {scope : Scope} {dV kV doc pm cdv ct oc : Value} {an od : Option Addr}
    {osl : Array (Option Value)} {N ps : List Str} {sp : Sp} (lk : K.lookup f = some ⟨oc, od, .func (PySem.W.fnOf name qual params body scope dV kV doc pm an cdv ct), osl⟩) (hcd : PySem.W.codeIn K cdv qual = true) (S : FnScope N ps scope)
    (len : ∀ vs H Q E, sp vs H Q E → vs.length = ps.length)
    (hbody : ∀ (A : Around) (outer : List Env) (s : Shared) (H : Hp) (vs : List V) (Q : VK) (E : XK), Room k (A.deeper (envOfC qual scope s.heap.objs.size f cdv)) → sp vs H Q E →
      ∃ t, PSs (cxOf CX P w K mg base N qual scope f cdv A outer s H E) body t ∧ t { nx := fun _ H' => Q .non H', rt := Q } (start N vs) H) :
    FnOk P w K mg base CX (k + 1) f (PySem.W.fnOf name qual params body scope dV kV doc pm an cdv ct) ps sp := by
  refine ⟨len, fun A outer s H args us vs Q E hr e0 hb r hsp => ?_⟩
  have hl := len _ _ _ _ hsp
  have KX : K.In s.heap := e0.mod.kin.keeps fun b o e => (e0.bs b o e).1
  have lim : s.heap.NoLimit := e0.mod.nolimit.keeps fun b o e => (e0.bs b o e).1
  have hkind : ∀ y ∈ ps.zip us, scope.names.lookup y.1 = some .local ∨ (scope.names.lookup y.1 = some .cell ∧ ((cellsFrom (s.heap.objs.size + 1) scope.names []).lookup y.1).isSome = true) := fun ⟨n, v⟩ hy => by
    rcases S.par n (List.of_mem_zip hy).1 with q | q
    · exact .inl q
    · exact .inr ⟨q, PySem.W.cellsFrom_some _ _ _ (.inl q)⟩
  refine codeAny_call_function hr.depth (KX _ _ lk) rfl S.co S.gen rfl (PySem.W.codeRec_of KX hcd) (hb _ _ _ _ ?_)
  refine wpAny_newFunctionEnv_cells S.kind hkind fun env he s1 x => ?_
  subst he
  refine ⟨lim.keeps x.toInCall.keep, codeAny_func ?_⟩
  obtain ⟨t, ht, hq⟩ := hbody A outer s H vs Q E (hr.deeper _) hsp
  have I : Inv (cxOf CX P w K mg base N qual scope f cdv A outer s H E) [] (start N vs) H s1 := inv_start S hr.hd e0 hl r x
  refine wpAny_mono (ht [] s1 (start N vs) H _ I hq) (fun fl s' hs => ?_) fun e s' hs => hs
  have fin : ∀ {σ' : St} {H' : Hp} {v : V} {u : Value}, Inv (cxOf CX P w K mg base N qual scope f cdv A outer s H E) [] σ' H' s' → RelV v u → Q v H' → CE outer P w H s Q u s' :=
    fun {σ' H' v u} J rv q => ⟨v, H', J.os, J.bare, J.base, J.hok, rv, q⟩
  cases fl with
  | ret u =>
    obtain ⟨v, σ', H', J, rv, q⟩ := hs
    exact fin J rv q
  | next =>
    obtain ⟨σ', H', J, q⟩ := hs
    exact fin (v := V.non) (u := Value.none) J rfl q
  | brk =>
    obtain ⟨_, _, _, q⟩ := hs
    exact False.elim q
  | cont =>
    obtain ⟨_, _, _, q⟩ := hs
    exact False.elim q
end L2

namespace L2
open PySem PySem.Spec PyProof.Rows
section
variable {X : Cx} {x : Str} {p pos : Pos} {e : Expr} {es : List Expr} {t : TA} {id T : String} {r : List V → Hp → VK → Prop}

def tCB (r : List V → Hp → VK → Prop) (t : TA) : TE := fun σ H Q => t σ H fun vs H1 => r vs H1 Q
/-- f(e, ..), f a built-in function -/
theorem pe_callB (hc : CallR X (.builtin id) r) (hg : Gl X x) (hm : X.mg x = none) (hv : bootBuiltins x = some (.builtin id)) (ha : PA X (e :: es) t) (hn : x ≠ "__name__" := by decide) (hdb : (x == ("__debug__" : Str)) = false := by decide)
    (he : starEach (e :: es) X.env = (false, eval e X.env) :: starEach es X.env := by rfl) (hpl : (backTo pos (starEach es X.env)).any (·.1) = false := by rfl) : PE X (.Call (.Name x p) (e :: es) [] pos) (tCB r t) := by
  intro pins s σ H Q I h
  refine wpAny_Call_Name_kw (ld_blt I hg hm hv ?_ hn hdb)
  exact PyProof.Rows.callWith_builtin1 (thn (ha pos pins s σ H _ I h) fun us s1 ⟨vs, H1, I1, r1, q1⟩ => hc pins s1 σ H1 vs us Q I1 r1 q1) he hpl
/-- T(e, ..), T a built-in type -/
theorem pe_callTy (hc : CallR X (.type T) r) (hg : Gl X x) (hm : X.mg x = none) (hv : bootBuiltins x = some (.type T)) (ha : PA X (e :: es) t) (hn : x ≠ "__name__" := by decide) (hdb : (x == ("__debug__" : Str)) = false := by decide)
    (he : starEach (e :: es) X.env = (false, eval e X.env) :: starEach es X.env := by rfl) (hpl : (backTo pos (starEach es X.env)).any (·.1) = false := by rfl) : PE X (.Call (.Name x p) (e :: es) [] pos) (tCB r t) := by
  intro pins s σ H Q I h
  refine wpAny_Call_Name_kw (ld_blt I hg hm hv ?_ hn hdb)
  exact PyProof.Rows.callWith_type1 (thn (ha pos pins s σ H _ I h) fun us s1 ⟨vs, H1, I1, r1, q1⟩ => hc pins s1 σ H1 vs us Q I1 r1 q1) he hpl
end
end L2

namespace HT
open PySem PyProof.Rows



section
open PySem.SeqAt
open PySem.AutoSeq1 (wpAny_loadPart')
open PySem.MeetsSeq PySem.MeetsSeq2 PySem.MeetsSeq3

end

section
variable {prog : Program} {w : World} {A : Around} {E : Value → Shared → Prop} {s : Shared}



/-! ### t[a:b], not the whole -/
/-- a slice's bound as a place among n (d where it is left out) -/
def sIx (n d : Nat) : Option Int → Nat
  | none => d
  | some v => if v < 0 then (v + (n : Int)).toNat else min v.toNat n
theorem sIx_none (n d : Nat) : sIx n d none = d := rfl
theorem sIx_nat (n d k : Nat) : sIx n d (some (k : Int)) = min k n := by
  show (if (k : Int) < 0 then ((k : Int) + (n : Int)).toNat else min (k : Int).toNat n) = min k n
  rw [if_neg (by first | lia | omega), Int.toNat_natCast]
theorem slicePart_ {v : Value} {o : Option Int} {Q : Option Int → Shared → Prop} (p : IsPart v o) (h : Q o s) : wpAny (model prog w) A (Builtin.Slice.slicePartIndex v) Q E s := by
  cases p with
  | none => exact slicePart_none h
  | int i t => exact slicePart_int h

end
end HT

namespace L2
open PySem PySem.Spec PyProof.Rows

/-! ### the parts of a slice -/
abbrev TO := St → Hp → (Option Int → Hp → Prop) → Prop
/-- a slice's part (left out, or an int) -/
def PO (X : Cx) (e : Option Expr) (t : TO) : Prop :=
  ∀ (pins : List (Addr × Obj)) (s : Shared) (σ : St) (H : Hp) (Q : Option Int → Hp → Prop), Inv X pins σ H s → t σ H Q →
    wpAny (model X.prog X.w) X.A (evalPart e X.env) (fun u s' => ∃ o H', Inv X pins σ H' s' ∧ IsPart u o ∧ Q o H') X.xe s
def tNoPart : TO := fun _ H Q => Q none H
def tPart (t : TE) : TO := fun σ H Q => t σ H fun x H1 => ∃ i, x = .int i ∧ Q (some i) H1


section
variable {X : Cx} {e : Expr} {te : TE} {lo hi : Option Expr} {tl th : TO} {pos p2 : Pos}

theorem po_none : PO X none tNoPart := by
  intro pins s σ H Q I h
  rw [evalPart_none]
  exact wpAny_pure ⟨none, H, I, .none, h⟩
theorem po_some (h : PE X e te) : PO X (some e) (tPart te) := by
  intro pins s σ H Q I hw
  rw [evalPart_some]
  refine thn (h pins s σ H _ I hw) fun u s1 ⟨x, H1, I1, r1, q1⟩ => ?_
  obtain ⟨i, rfl, q⟩ := q1
  obtain ⟨t, rfl⟩ := r1
  exact ⟨some i, H1, I1, .int i t, q⟩

/-- what a slice of a value is, by values: the slice object stands at sl -/
def SlR (X : Cx) (r : V → Option Int → Option Int → Hp → VK → Prop) : Prop :=
  ∀ (pins : List (Addr × Obj)) (s : Shared) (σ : St) (H : Hp) (x : V) (v vl vu : Value) (lo hi : Option Int) (sl : Addr) (Q : VK), Inv X pins σ H s → RelV x v → s.heap.IsSliceOf sl vl vu .none → IsPart vl lo → IsPart vu hi → r x lo hi H Q →
    ∃ T id, typeLookup (.type T) "__getitem__" = pure (some (.builtin id)) ∧ s.TypeIs v T ∧ wpAny (model X.prog X.w) X.A (getItem v (.ref sl)) (EP X pins σ Q) X.xe s
def tSl (r : V → Option Int → Option Int → Hp → VK → Prop) (te : TE) (tl th : TO) : TE := fun σ H Q => te σ H fun x H1 => tl σ H1 fun l H2 => th σ H2 fun u H3 => r x l u H3 Q
/-- a[lo:hi], any a -/
theorem pe_slice {r : V → Option Int → Option Int → Hp → VK → Prop} (hr : SlR X r) (he : PE X e te) (hl : PO X lo tl) (hu : PO X hi th) : PE X (.Subscript e (.Slice lo hi none p2) pos) (tSl r te tl th) := by
  intro pins s σ H Q I h
  refine Subscript_ (thn (he pins s σ H _ I h) fun v s1 ⟨x, H1, I1, r1, q1⟩ => ?_)
  refine wpAny_Slice (thn (hl pins s1 σ H1 _ I1 q1) fun vl s2 ⟨l, H2, I2, pl, q2⟩ => thn (hu pins s2 σ H2 _ I2 q2) fun vu s3 ⟨u, H3, I3, pu, q3⟩ => ?_)
  rw [evalPart_none]
  refine wpAny_pure ?_
  have I4 : Inv X pins σ H3 { s3 with heap := s3.heap.push { cls := .type "slice", data := .fields #[vl, vu, .none] } } := I3.kept (t' := s3.toks) fun b ob q => Heap.get?_push_of_some _ q
  obtain ⟨T, id, hT, ht, hg⟩ := hr pins { s3 with heap := s3.heap.push { cls := .type "slice", data := .fields #[vl, vu, .none] } } σ H3 x v vl vu l u s3.heap.objs.size Q I4 r1 (Heap.IsSliceOf.new ..) pl pu q3
  show wpAny (model X.prog X.w) X.A (subscriptTail e (.Slice lo hi none p2) v (.ref s3.heap.objs.size)) (EP X pins σ Q) X.xe { s3 with heap := s3.heap.push { cls := .type "slice", data := .fields #[vl, vu, .none] } }
  exact tail_any (ops := [.ref s3.heap.objs.size, v]) ht hT hg (by with_unfolding_all rfl)

/-- the items of xs[lo:hi] -/
def cutV (xs : List V) (lo hi : Option Int) : List V := (xs.drop (HT.sIx xs.length 0 lo)).take (HT.sIx xs.length xs.length hi - HT.sIx xs.length 0 lo)
theorem cutV_length (xs : List V) (lo hi : Option Int) : (cutV xs lo hi).length ≤ xs.length := by
  unfold cutV
  rw [List.length_take, List.length_drop]
  (first | lia | omega)

/-! ### t < u, t + u -/
end
end L2

namespace L2
open PySem PySem.Spec PyProof.Rows

/-! ### places -/
/-- the place that an index of any sign means -/
def ixN (n : Nat) (i : Int) : Option Nat := if 0 ≤ i then (if i < n then some i.toNat else none) else if -(n : Int) ≤ i then some (i + n).toNat else none
def atI {α : Type} (xs : List α) (i : Int) : Option α := (ixN xs.length i).bind fun j => xs[j]?
theorem ixN_seq {n : Nat} {i : Int} {j : Nat} (h : ixN n i = some j) : seqIndex? i n = some j ∧ j < n ∧ -(n : Int) ≤ i ∧ i < n := by
  unfold ixN at h
  by_cases h0 : 0 ≤ i
  · rw [if_pos h0] at h
    by_cases h1 : i < n
    · rw [if_pos h1] at h
      have e : i.toNat = j := Option.some.inj h
      exact ⟨by rw [seqIndex_of h0 h1, e], by first | lia | omega, by first | lia | omega, h1⟩
    · rw [if_neg h1] at h; cases h
  · rw [if_neg h0] at h
    by_cases h1 : -(n : Int) ≤ i
    · rw [if_pos h1] at h
      have e : (i + n).toNat = j := Option.some.inj h
      exact ⟨by rw [seqIndex_neg (by first | lia | omega) h1, e], by first | lia | omega, h1, by first | lia | omega⟩
    · rw [if_neg h1] at h; cases h
theorem atI_get {α : Type} {xs : List α} {i : Int} {v : α} (h : atI xs i = some v) : ∃ j, seqIndex? i xs.length = some j ∧ xs[j]? = some v ∧ j < xs.length ∧ -(xs.length : Int) ≤ i ∧ i < xs.length := by
  unfold atI at h
  cases e : ixN xs.length i with
  | none => rw [e] at h; cases h
  | some j =>
    rw [e] at h
    obtain ⟨h1, h2, h3, h4⟩ := ixN_seq e
    exact ⟨j, h1, h, h2, h3, h4⟩
theorem atI_nat {α : Type} {xs : List α} {j : Nat} {v : α} (h : xs[j]? = some v) : atI xs (j : Int) = some v := by
  have hj : j < xs.length := (List.getElem?_eq_some_iff.mp h).1
  have e : ixN xs.length (j : Int) = some j := by
    unfold ixN
    rw [if_pos (by first | lia | omega), if_pos (by first | lia | omega)]; simp
  unfold atI; rw [e]; exact h
theorem atI_last {α : Type} (xs : List α) (v : α) : atI (xs ++ [v]) (-1) = some v := by
  have hl : (xs ++ [v]).length = xs.length + 1 := by simp
  have e : ixN (xs ++ [v]).length (-1) = some xs.length := by
    unfold ixN
    rw [hl, if_neg (by decide), if_pos (by first | lia | omega)]
    congr 1
    (first | lia | omega)
  unfold atI
  rw [e]
  show (xs ++ [v])[xs.length]? = some v
  simp

/-! ### what may be subscripted -/
/-- what stands as an index of a plain subscript -/
def PlainIx (b : Expr) : Prop := ∀ o i, subscripted b false o i = operate [o, i] (getItem o i)
/-- a subscript by values -/
def IxR (X : Cx) (r : R2) : Prop :=
  ∀ (value slice : Expr) (pins : List (Addr × Obj)) (s : Shared) (σ : St) (H : Hp) (x y : V) (v u : Value) (Q : VK), Inv X pins σ H s → RelV x v → RelV y u → r x y H Q →
    subscripted slice false v u = operate [v, u] (getItem v u) → wpAny (model X.prog X.w) X.A (subscriptTail value slice v u) (EP X pins σ Q) X.xe s
/-- a call of a builtin's method by values: the receiver, the arguments -/
def MtR (X : Cx) (id : String) (r : V → List V → Hp → VK → Prop) : Prop :=
  ∀ (pins : List (Addr × Obj)) (s : Shared) (σ : St) (H : Hp) (x : V) (xs : List V) (v : Value) (us : List Value) (Q : VK), Inv X pins σ H s → RelV x v → Vals xs us → r x xs H Q →
    wpAny (model X.prog X.w) X.A (call (.builtin id) (v :: us)) (EP X pins σ Q) X.xe s
section
variable {X : Cx} {a b : Expr} {ta tb : TE} {pos : Pos}
theorem IxR.or {r r' : R2} (h : IxR X r) (h' : IxR X r') : IxR X (fun x y H Q => r x y H Q ∨ r' x y H Q) := by
  intro value slice pins s σ H x y v u Q I rx ry q hs
  rcases q with q | q
  · exact h value slice pins s σ H x y v u Q I rx ry q hs
  · exact h' value slice pins s σ H x y v u Q I rx ry q hs
/-- a[b] -/
theorem pe_ix {r : R2} (hr : IxR X r) (ha : PE X a ta) (hb : PE X b tb) (hs : PlainIx b) : PE X (.Subscript a b pos) (tOp r ta tb) := by
  intro pins s σ H Q I h
  exact Subscript_ (binT ha hb I h fun v u s2 x y H2 I2 rx ry q => hr a b pins s2 σ H2 x y v u Q I2 rx ry q (hs _ _))

def rIxL (K : PySem.W.Frag) : R2 := fun x y H Q => ∃ p xs i v, x = .ref p ∧ y = .int i ∧ SqL K H p xs ∧ atI xs i = some v ∧ Q v H
def rIxT (K : PySem.W.Frag) : R2 := fun x y H Q => ∃ p xs i v, x = .ref p ∧ y = .int i ∧ SqT K H p xs ∧ atI xs i = some v ∧ Q v H
def rIxS : R2 := fun x y H Q => ∃ z i c, x = .str z ∧ y = .int i ∧ z.length ≤ sizeLine ∧ atI z.cps.toList i = some c ∧ Q (.str ⟨#[c]⟩) H
theorem ix_list : IxR X (rIxL X.K) := by
  intro value slice pins s σ H x y v u Q I rx ry h hs
  obtain ⟨p, xs, i, z, rfl, rfl, hq, he, q⟩ := h
  cases rx
  obtain ⟨t, rfl⟩ := ry
  obtain ⟨its, r, pl, hz⟩ := I.list hq
  obtain ⟨j, h1, h2, h3, h4, h5⟩ := atI_get he
  obtain ⟨w, ew, rw'⟩ := r.get h2
  have hl := r.length
  have hn := line63
  have fin : EP X pins σ Q w s := ⟨z, H, I, rw', q⟩
  by_cases h0 : 0 ≤ i
  · have hj : i.toNat = j := by
      rw [seqIndex_of h0 h5] at h1
      exact Option.some.inj h1
    exact item_listR pl.isList h0 (by first | lia | omega) (by rw [hj]; simpa using ew) fin hs
  · have hj : (i + (its.toArray.size : Int)).toNat = j := by
      rw [seqIndex_neg (by first | lia | omega) h4] at h1
      rw [List.size_toArray, ← hl]
      exact Option.some.inj h1
    exact subscriptTail_builtinR (x := w) pl.isList.typeIs slot_list_getitem.lookup
      (wpAny_getItem_list_neg (Q := fun r s' => r = w ∧ EP X pins σ Q r s') pl.isList (by first | lia | omega) (by rw [List.size_toArray] <;> (first | lia | omega)) (by first | lia | omega) (by rw [hj]; simpa using ew) ⟨rfl, fin⟩) hs
theorem ix_tup : IxR X (rIxT X.K) := by
  intro value slice pins s σ H x y v u Q I rx ry h hs
  obtain ⟨p, xs, i, z, rfl, rfl, hq, he, q⟩ := h
  cases rx
  obtain ⟨t, rfl⟩ := ry
  obtain ⟨its, r, pl, hz⟩ := I.tuple hq
  obtain ⟨j, h1, h2, h3, h4, h5⟩ := atI_get he
  obtain ⟨w, ew, rw'⟩ := r.get h2
  have hl := r.length
  have hn := line63
  have fin : EP X pins σ Q w s := ⟨z, H, I, rw', q⟩
  exact subscriptTail_builtinR (x := w) pl.typeIs slot_tuple_getitem.lookup
    (getItem_tuple (j := j) (Q := fun r s' => r = w ∧ EP X pins σ Q r s') pl (by first | lia | omega) (by first | lia | omega) (by rw [List.size_toArray, ← hl]; exact h1) (by simpa using ew) ⟨rfl, fin⟩) hs
theorem ix_str : IxR X rIxS := by
  intro value slice pins s σ H x y v u Q I rx ry h hs
  obtain ⟨z, i, c, rfl, rfl, hz, he, q⟩ := h
  obtain ⟨t, rfl⟩ := rx
  obtain ⟨t', rfl⟩ := ry
  obtain ⟨j, h1, h2, h3, h4, h5⟩ := atI_get he
  have hl : z.cps.toList.length = z.length := by simp [Str.length]
  rw [hl] at h1 h4 h5
  have hn := line63
  exact tail_any (typeIs_str s z t) slot_str_getitem.lookup (getItem_str (c := c) (by
    have e1 : decide (i < -(2 ^ 63 : Int)) = false := decide_eq_false (by first | lia | omega)
    have e2 : decide (i ≥ 2 ^ 63) = false := decide_eq_false (by first | lia | omega)
    rw [e1, e2, Bool.or_false]) (by rw [h1]; simpa using h2) ⟨.str ⟨#[c]⟩, H, I.tok _, ⟨_, rfl⟩, q⟩) hs
/-- list, tuple or str -/
def rIx (K : PySem.W.Frag) : R2 := fun x y H Q => rIxL K x y H Q ∨ rIxT K x y H Q ∨ rIxS x y H Q
theorem ix_seq : IxR X (rIx X.K) := ix_list.or (ix_tup.or ix_str)

/-! ### xs[i] = v, any sign -/
/-- the list's object behind a store -/
theorem mapSeq_set (its : List Value) (n j : Nat) (u : Value) : Obj.mapSeq (·.setIfInBounds j u) { cls := .type "list", data := .seq its.toArray n } = { cls := .type "list", data := .seq (its.set j u).toArray n } := by
  simp [Obj.mapSeq]
theorem Inv.lst {pins : List (Addr × Obj)} {σ : St} {H : Hp} {s : Shared} {p : Addr} {xs : List V} (I : Inv X pins σ H s) (h : H p = some (.lst xs)) :
    ∃ (its : List Value) (n : Nat), Vals xs its ∧ s.heap.get? p = some { cls := .type "list", data := .seq its.toArray n } ∧ xs.length ≤ sizeLine := by
  obtain ⟨z, its, n, r, e⟩ := I.hok p _ h
  exact ⟨its, n, r, e, z⟩
/-- the list at p is written by an update of its object -/
theorem Inv.lstUpd {pins : List (Addr × Obj)} {σ : St} {H : Hp} {s : Shared} {p : Addr} {xs ys : List V} {its its' : List Value} {n n' : Nat} {f : Obj → Obj} (I : Inv X pins σ H s) (h : H p = some (.lst xs))
    (ho : s.heap.get? p = some { cls := .type "list", data := .seq its.toArray n }) (hf : f { cls := .type "list", data := .seq its.toArray n } = { cls := .type "list", data := .seq its'.toArray n' }) (r : Vals ys its') (hz : ys.length ≤ sizeLine) (t : Nat) :
    Inv X pins σ (upd H p (.lst ys)) { s with heap := s.heap.update p f, toks := t } := by
  have e : (s.heap.update p f).get? p = some { cls := .type "list", data := .seq its'.toArray n' } := by
    rw [Heap.get?_update_self f ho (by rw [hf] <;> rfl), hf]
  refine I.write (x := p) (e := p) (by rw [h]; trivial) (.inl rfl) (fun b u hb q => (Heap.get?_update_other _ _ (Ne.symm hb)).trans q) ⟨_, e⟩ ?_
  exact ⟨hz, its', n', r, e⟩
def rSetL : V → V → V → Hp → (Hp → Prop) → Prop := fun o i v H Q => ∃ p xs k j, o = .ref p ∧ i = .int k ∧ H p = some (.lst xs) ∧ ixN xs.length k = some j ∧ Q (upd H p (.lst (xs.set j v)))
theorem set_list : PSet X rSetL := by
  intro pins s σ H o i v ov iv u Q I ro ri rv h
  obtain ⟨p, xs, k, j, rfl, rfl, hp, hj, q⟩ := h
  cases ro
  obtain ⟨t, rfl⟩ := ri
  obtain ⟨its, n, r, ho, hz⟩ := I.lst hp
  obtain ⟨h1, h2, h3, h4⟩ := ixN_seq hj
  have hl := r.length
  have hn := line63
  have I' : Inv X pins σ (upd H p (.lst (xs.set j v))) { s with heap := s.heap.update p (Obj.mapSeq (·.setIfInBounds j u)) } :=
    I.lstUpd hp ho (mapSeq_set its n j u) (r.set rv j) (by rw [List.length_set]; exact hz) s.toks
  by_cases h0 : 0 ≤ k
  · have hk : k.toNat = j := by
      rw [seqIndex_of h0 h4] at h1
      exact Option.some.inj h1
    exact PySem.W.ki_setAt ho h0 (by first | lia | omega) (by rw [List.size_toArray, ← hl]; exact h4) (by rw [hk]; exact ⟨_, I', q⟩)
  · have hk : (k + (its.toArray.size : Int)).toNat = j := by
      rw [seqIndex_neg (by first | lia | omega) h3] at h1
      rw [List.size_toArray, ← hl]
      exact Option.some.inj h1
    exact PySem.W.ki_setBack ho (by first | lia | omega) (by rw [List.size_toArray, ← hl]; exact h3) (by first | lia | omega) (by rw [hk]; exact ⟨_, I', q⟩)

/-! ### slices -/
theorem slice_bounds (lo hi : Option Int) (n : Nat) : (sliceBounds lo hi none n).1 = ((HT.sIx n 0 lo : Nat) : Int) ∧ (sliceBounds lo hi none n).2.1 = ((HT.sIx n n hi : Nat) : Int) ∧ (sliceBounds lo hi none n).2.2 = 1 := by
  refine ⟨?_, ?_, rfl⟩
  · cases lo with
    | none => simp [sliceBounds, HT.sIx]
    | some i =>
      simp only [sliceBounds, HT.sIx, Option.getD_none, show (1 : Int) > 0 by decide, if_true]
      by_cases h : i < 0
      · simp only [h, if_true] <;> (first | lia | omega)
      · simp only [h, if_false] <;> (first | lia | omega)
  · cases hi with
    | none => simp [sliceBounds, HT.sIx]
    | some i =>
      simp only [sliceBounds, HT.sIx, Option.getD_none, show (1 : Int) > 0 by decide, if_true]
      by_cases h : i < 0
      · simp only [h, if_true] <;> (first | lia | omega)
      · simp only [h, if_false] <;> (first | lia | omega)
theorem slicePick_cut (its : List Value) (lo hi : Option Int) : slicePick its.toArray lo hi none = ((its.drop (HT.sIx its.length 0 lo)).take (HT.sIx its.length its.length hi - HT.sIx its.length 0 lo)).toArray := by
  obtain ⟨h1, h2, h3⟩ := slice_bounds lo hi its.toArray.size
  unfold slicePick
  rw [h1, h2, h3]
  simp only [sliceRange_one, pick_run, List.size_toArray] <;> rfl
/-- xs[lo:hi] of a list: a new list -/
def rSlL (K : PySem.W.Frag) : V → Option Int → Option Int → Hp → VK → Prop := fun x lo hi H Q => ∃ a xs, x = .ref a ∧ SqL K H a xs ∧ ∀ p, H p = none → Q (.ref p) (upd H p (.lst (cutV xs lo hi)))
theorem sl_list : SlR X (rSlL X.K) := by
  intro pins s σ H x v vl vu lo hi sl Q I rx hs pl pu h
  obtain ⟨a, xs, rfl, hx, q⟩ := h
  cases rx
  obtain ⟨its, r, ht, hz⟩ := I.list hx
  have hlen := r.length
  refine ⟨"list", _, slot_list_getitem.lookup, ht.isList.typeIs, ?_⟩
  refine wpAny_getItem_list_slice ht.isList hs pl pu .none (by simp) ?_ (by rw [List.size_toArray] <;> (first | lia | omega))
  rw [slicePick_cut, ← hlen]
  refine ⟨.ref s.heap.objs.size, _, I.laid (t' := s.toks) (o := .lst (cutV xs lo hi)) (fun b ob q => Heap.get?_push_of_some _ q) (Nat.le_refl _) ?_, rfl, q _ (I.hok.fresh (Nat.le_refl _))⟩
  exact ⟨Nat.le_trans (cutV_length xs lo hi) hz, _, 0, (r.drop (HT.sIx xs.length 0 lo)).take (HT.sIx xs.length xs.length hi - HT.sIx xs.length 0 lo), Heap.get?_push_size _ rfl⟩

/-! ### in, not in: flat items -/

/-! ### len, list(x), tuple(x) of any list or tuple that is read -/
theorem call_len_seq : CallR X (.builtin "len") (fun xs H Q => ∃ p ys, xs = [.ref p] ∧ (SqL X.K H p ys ∨ SqT X.K H p ys) ∧ Q (.int ys.length) H) := by
  intro pins s σ H xs us Q I r h
  obtain ⟨p, ys, rfl, hq, q⟩ := h
  obtain ⟨u, rfl, rx⟩ := vals1 r
  cases rx
  have hn := line63
  rcases hq with hq | hq
  · obtain ⟨its, r', pl, hz⟩ := I.list hq
    have hlen := r'.length
    exact Calls.call_len_list pl.isList (by simp only [List.size_toArray] <;> (first | lia | omega)) ⟨.int ys.length, H, I.tok _, ⟨s.toks + 1, by rw [List.size_toArray, hlen]⟩, q⟩
  · obtain ⟨its, r', pl, hz⟩ := I.tuple hq
    have hlen := r'.length
    exact len_tuple pl (by simp only [List.size_toArray] <;> (first | lia | omega)) ⟨.int ys.length, H, I.tok _, ⟨s.toks + 1, by rw [List.size_toArray, hlen]⟩, q⟩
theorem call_list_of : CallR X (.type "list") (fun xs H Q => ∃ p ys, xs = [.ref p] ∧ (SqL X.K H p ys ∨ SqT X.K H p ys) ∧ ∀ l, H l = none → Q (.ref l) (upd H l (.lst ys))) := by
  intro pins s σ H xs us Q I r h
  obtain ⟨p, ys, rfl, hq, q⟩ := h
  obtain ⟨u, rfl, rx⟩ := vals1 r
  cases rx
  have fin : ∀ (its : List Value), Vals ys its → ys.length ≤ sizeLine → ∀ (h' : Heap) (c' : Nat), (∀ b o', s.heap.get? b = some o' → h'.get? b = some o') →
      h'.get? s.heap.objs.size = some { cls := .type "list", dict := none, data := .seq its.toArray c', slots := #[] } → EP X pins σ Q (.ref s.heap.objs.size) { s with heap := h' } := fun its r' hz h' c' kp e =>
    ⟨.ref s.heap.objs.size, _, I.laid (t' := s.toks) kp (Nat.le_refl _) (show ObjOk X.prog X.w _ h' _ (.lst ys) from ⟨hz, its, c', r', e⟩), rfl, q _ (I.hok.fresh (Nat.le_refl _))⟩
  rcases hq with hq | hq
  · obtain ⟨its, r', pl, hz⟩ := I.list hq
    have hlen := r'.length
    obtain ⟨o, ho, hc, n, hd⟩ := pl.isList
    exact call_list_seq p (.inl rfl) ho hc hd (fun h' c' kp e => fin its r' hz h' c' kp e) (by simp only [List.size_toArray] <;> (first | lia | omega))
  · obtain ⟨its, r', pl, hz⟩ := I.tuple hq
    have hlen := r'.length
    obtain ⟨o, ho, hc, n, hd⟩ := pl
    exact call_list_seq p (.inr rfl) ho hc hd (fun h' c' kp e => fin its r' hz h' c' kp e) (by simp only [List.size_toArray] <;> (first | lia | omega))
theorem call_tuple_of : CallR X (.type "tuple") (fun xs H Q => ∃ p ys, xs = [.ref p] ∧ ((SqL X.K H p ys ∧ ∀ l, H l = none → Q (.ref l) (upd H l (.tup ys))) ∨ (SqT X.K H p ys ∧ Q (.ref p) H))) := by
  intro pins s σ H xs us Q I r h
  obtain ⟨p, ys, rfl, h⟩ := h
  obtain ⟨u, rfl, rx⟩ := vals1 r
  cases rx
  rcases h with ⟨hq, q⟩ | ⟨hq, q⟩
  · obtain ⟨its, r', pl, hz⟩ := I.list hq
    have hlen := r'.length
    refine call_tuple_list pl.isList (fun h' kp => ?_) (by simp only [List.size_toArray] <;> (first | lia | omega))
    have I1 : Inv X pins σ H { s with heap := h' } := I.kept (t' := s.toks) kp
    have I2 : Inv X pins σ (upd H h'.objs.size (.tup ys)) { s with heap := h'.push { cls := .type "tuple", data := .seq its.toArray } } :=
      I1.laid (t' := s.toks) (fun b o e => Heap.get?_push_of_some _ e) (Nat.le_refl _) (show ObjOk X.prog X.w _ _ _ (.tup ys) from ⟨hz, its, r', IsTup.new _ _⟩)
    exact ⟨.ref h'.objs.size, _, I2, rfl, q _ (I1.hok.fresh (Nat.le_refl _))⟩
  · obtain ⟨its, r', pl, hz⟩ := I.tuple hq
    exact call_tuple_same pl ⟨.ref p, H, I, rfl, q⟩

/-! ### the call of a builtin's method: o.m(..) -/
/-- the value is of that builtin type -/
def tyV (K : PySem.W.Frag) (T : String) (x : V) (H : Hp) : Prop := match x with
  | .str _ => T = "str"
  | .int _ => T = "int"
  | .ref p => (T = "list" ∧ ∃ xs, SqL K H p xs) ∨ (T = "tuple" ∧ ∃ o, K.lookup p = some o ∧ o.cls = .type "tuple" ∧ o.dict = none) ∨
      (T = "dict" ∧ ((∃ kvs, H p = some (.dK kvs)) ∨ ∃ kvs, H p = some (.dT kvs))) ∨ (T = "set" ∧ ∃ S n, H p = some (.set S n))
  | _ => False
theorem tyV_is {pins : List (Addr × Obj)} {σ : St} {H : Hp} {s : Shared} {T : String} {x : V} {v : Value} (I : Inv X pins σ H s) (r : RelV x v) (ty : tyV X.K T x H) :
    s.TypeIs v T ∧ ∀ a, v = .ref a → ∃ ob, s.heap.get? a = some ob ∧ ob.dict = none := by
  cases x with
  | str z =>
    obtain ⟨t, rfl⟩ := r
    cases (show T = "str" from ty)
    exact ⟨typeIs_str s z t, fun _ e => nomatch e⟩
  | int i =>
    obtain ⟨t, rfl⟩ := r
    cases (show T = "int" from ty)
    exact ⟨typeIs_int s i t, fun _ e => nomatch e⟩
  | ref p =>
    cases r
    rcases ty with ⟨rfl, xs, hq⟩ | ⟨rfl, o, hk, hc, hd⟩ | ⟨rfl, hk⟩ | ⟨rfl, S, n, hk⟩
    · obtain ⟨its, _, pl, _⟩ := I.list hq
      refine ⟨pl.isList.typeIs, fun a e => ?_⟩
      cases e
      obtain ⟨o, n, e, c, hd, _⟩ := pl
      exact ⟨o, e, hd⟩
    · refine ⟨⟨o, I.kIn p o hk, hc⟩, fun a e => ?_⟩
      cases e
      exact ⟨o, I.kIn _ o hk, hd⟩
    · have z : ∃ o, s.heap.get? p = some o ∧ o.ExactDict := by
        rcases hk with ⟨kvs, hk⟩ | ⟨kvs, hk⟩
        · obtain ⟨_, _, _, _, o, _, _, e, ex, _⟩ := I.hok p _ hk
          exact ⟨o, e, ex⟩
        · obtain ⟨_, _, _, _, o, _, _, e, ex, _⟩ := I.hok p _ hk
          exact ⟨o, e, ex⟩
      obtain ⟨o, e, ex⟩ := z
      refine ⟨⟨o, e, ex.1⟩, fun a e2 => ?_⟩
      cases e2
      exact ⟨o, e, ex.2.1⟩
    · obtain ⟨o, _, _, _, e, ex, _⟩ := I.hok p _ hk
      refine ⟨⟨o, e, ex.1⟩, fun a e2 => ?_⟩
      cases e2
      exact ⟨o, e, ex.2.1⟩
  | _ => exact False.elim ty
def tBM0 (K : PySem.W.Frag) (T : String) (r : V → List V → Hp → VK → Prop) (to : TE) : TE := fun σ H Q => to σ H fun x H1 => tyV K T x H1 ∧ r x [] H1 Q
def tBM (K : PySem.W.Frag) (T : String) (r : V → List V → Hp → VK → Prop) (to : TE) (t : TA) : TE := fun σ H Q => to σ H fun x H1 => tyV K T x H1 ∧ t σ H1 fun xs H2 => r x xs H2 Q
variable {o e : Expr} {es : List Expr} {to : TE} {t : TA} {name : Str} {apos cpos : Pos} {T id : String} {r : V → List V → Hp → VK → Prop}
theorem pe_bm0 (pa : PlainAttrs T) (slot : Slot T name id) (hty : typeOf (.builtin id) = pure (.type "method_descriptor")) (hm : MtR X id r) (ho : PE X o to)
    (hbase : attributeBase o name X.env (eval o X.env) = eval o X.env := by rfl) (hline : (apos.endLine == cpos.line) = true := by rfl) : PE X (.Call (.Attribute o name apos) [] [] cpos) (tBM0 X.K T r to) := by
  intro pins s σ H Q I h
  refine wpAny_Call_method0_late hbase hline (thn (ho pins s σ H _ I h) fun v s1 ⟨x, H1, I1, r1, ty, q1⟩ => ?_)
  obtain ⟨h1, h2⟩ := tyV_is I1 r1 ty
  exact ⟨T, id, pa, slot, hty, h1, h2, Calls.callWith_builtin rfl (PySem.evalArgs_none (hm pins s1 σ H1 x [] v [] Q I1 r1 .nil q1))⟩
theorem pe_bm (pa : PlainAttrs T) (slot : Slot T name id) (hty : typeOf (.builtin id) = pure (.type "method_descriptor")) (hm : MtR X id r) (ho : PE X o to) (ha : PA X (e :: es) t)
    (hbase : attributeBase o name X.env (eval o X.env) = eval o X.env := by rfl)
    (hfew : ((backTo cpos (starEach (e :: es) X.env)).all (fun x => !x.1) && (backToKw cpos (keywordEach [] X.env)).all (fun x => x.1.isSome)
      && decide ((e :: es).length + ([] : List Keyword).length + (if ([] : List Keyword).isEmpty then 0 else 1) < 30)) = true := by rfl)
    (hline : (apos.endLine == cpos.line) = true := by rfl) (hs : starEach (e :: es) X.env = (false, eval e X.env) :: starEach es X.env := by rfl) (hplain : (backTo cpos (starEach es X.env)).any (·.1) = false := by rfl) :
    PE X (.Call (.Attribute o name apos) (e :: es) [] cpos) (tBM X.K T r to t) := by
  intro pins s σ H Q I h
  refine wpAny_Call_method_late hbase hfew hline rfl (thn (ho pins s σ H _ I h) fun v s1 ⟨x, H1, I1, r1, ty, q1⟩ => ?_)
  obtain ⟨h1, h2⟩ := tyV_is I1 r1 ty
  refine ⟨T, id, pa, slot, hty, h1, h2, ?_⟩
  have hA := ha cpos pins s1 σ H1 _ I1 q1
  rw [hs] at hA ⊢
  refine Calls.callWith_builtin (by show (false || (backTo cpos (starEach es X.env)).any (·.1)) = false; rw [hplain] <;> rfl) (Calls.evalArgs_plain ?_)
  exact thn hA fun us s2 ⟨vs, H2, I2, r2, q2⟩ => hm pins s2 σ H2 x vs v us Q I2 r1 r2 q2
/- xs.append(e), list.index on a module's tuple .. are MtR facts of 06m -/
end
end L2

namespace L2
open PySem PySem.Spec PyProof.Rows

def MtM (X : Cx) (id : String) (r : V → List V → Hp → VK → Prop) : Prop :=
  ∀ (pins : List (Addr × Obj)) (s : Shared) (σ : St) (H : Hp) (x : V) (xs : List V) (v : Value) (us : List Value) (Q : VK), Inv X pins σ H s → RelV x v → Vals xs us → r x xs H Q →
    wpAny (model X.prog X.w) X.A (call (.builtin id) (v :: us)) (EP X pins σ Q) X.xe s

/-! ### lists of values -/
theorem Vals.one : ∀ {x : V} {us : List Value}, Vals [x] us → ∃ u, us = [u] ∧ RelV x u
  | _, _, .cons r .nil => ⟨_, rfl, r⟩
theorem Vals.two : ∀ {x y : V} {us : List Value}, Vals [x, y] us → ∃ u v, us = [u, v] ∧ RelV x u ∧ RelV y v
  | _, _, _, .cons r (.cons q .nil) => ⟨_, _, rfl, r, q⟩
theorem Vals.zero : ∀ {us : List Value}, Vals [] us → us = []
  | _, .nil => rfl
theorem Vals.dropLast {xs : List V} {us : List Value} (h : Vals xs us) : Vals xs.dropLast us.dropLast := by
  induction h with
  | nil => exact .nil
  | cons r t ih =>
    cases t with
    | nil => exact .nil
    | cons q t' => exact .cons r ih
theorem Vals.rep {xs : List V} {us : List Value} (h : Vals xs us) : ∀ k : Nat, Vals (List.replicate k xs).flatten (List.replicate k us).flatten
  | 0 => .nil
  | k + 1 => by
    rw [List.replicate_succ, List.replicate_succ, List.flatten_cons, List.flatten_cons]
    exact Vals.append h (Vals.rep h k)
theorem erase_last {α : Type} (l : List α) : l.eraseIdx (l.length - 1) = l.dropLast := by
  induction l with
  | nil => rfl
  | cons a r ih =>
    cases r with
    | nil => rfl
    | cons b r =>
      have e : (a :: b :: r).length - 1 = ((b :: r).length - 1) + 1 := by
        have h1 : (a :: b :: r).length = r.length + 2 := rfl
        have h2 : (b :: r).length = r.length + 1 := rfl
        (first | lia | omega)
      rw [e, List.eraseIdx_cons_succ, ih]
      all_goals rfl
theorem foldl_rep (its : List Value) : ∀ (k : Nat) (acc : List Value),
    List.foldl (fun x1 x2 => x1 ++ x2) acc.toArray (List.replicate k its.toArray) = (acc ++ (List.replicate k its).flatten).toArray
  | 0, acc => by simp
  | k + 1, acc => by
    have e : acc.toArray ++ its.toArray = (acc ++ its).toArray := by simp
    have e2 : (acc ++ its) ++ (List.replicate k its).flatten = acc ++ (List.replicate (k + 1) its).flatten := by
      rw [List.replicate_succ, List.flatten_cons, List.append_assoc]
    rw [← e2, ← foldl_rep its k (acc ++ its), ← e, List.replicate_succ, List.foldl_cons]

section
variable {X : Cx} {pins : List (Addr × Obj)} {σ : St} {H : Hp} {s : Shared} {l b : Addr} {xs ys zs : List V}

/-! ### the two steps: a tracked list is rewritten, a new list is laid -/
theorem Inv.lset {its its' : List Value} {n : Nat} {f : Array Value → Array Value} {t' : Nat} (I : Inv X pins σ H s) (hH : H l = some (.lst xs))
    (e : s.heap.get? l = some { cls := .type "list", data := .seq its.toArray n }) (hf : f its.toArray = its'.toArray) (hv : Vals ys its') (hz : ys.length ≤ sizeLine) :
    Inv X pins σ (upd H l (.lst ys)) { s with heap := s.heap.update l (Obj.mapSeq f), toks := t' } := by
  have q := PySem.IsL.update e f
  rw [hf] at q
  refine I.write (x := l) (e := l) (by rw [hH]; exact trivial) (.inl rfl) (fun b' u hb hu => (Heap.get?_update_other s.heap (Obj.mapSeq f) (Ne.symm hb)).trans hu) ⟨_, q⟩ ?_
  exact ⟨hz, its', _, hv, q⟩
theorem Inv.lnew {its : List Value} {t' : Nat} (I : Inv X pins σ H s) (hv : Vals ys its) (hz : ys.length ≤ sizeLine) :
    Inv X pins σ (upd H s.heap.objs.size (.lst ys)) { s with heap := s.heap.push { cls := .type "list", data := .seq its.toArray }, toks := t' } :=
  I.laid (fun _ _ q => Heap.get?_push_of_some _ q) (Nat.le_refl _) ⟨hz, its, 0, hv, Heap.get?_push_size _ rfl⟩
theorem Inv.fresh (I : Inv X pins σ H s) : H s.heap.objs.size = none := I.hok.fresh (Nat.le_refl _)
theorem Inv.lstM (I : Inv X pins σ H s) (hH : H l = some (.lst xs)) : xs.length ≤ sizeLine ∧ ∃ (its : List Value) (n : Nat), Vals xs its ∧ xs.length = its.length ∧ s.heap.get? l = some { cls := .type "list", data := .seq its.toArray n } := by
  obtain ⟨z, its, n, r, e⟩ := I.hok l _ hH
  exact ⟨z, its, n, r, r.length, e⟩

theorem notLongL {n : Nat} (h : n ≤ sizeLine) : Builtin.List.listTooLong n = false := by
  unfold Builtin.List.listTooLong
  exact decide_eq_false (by first | lia | omega)
end

section
variable {X : Cx}

/-! ### methods -/
def rAppend : V → List V → Hp → VK → Prop := fun x vs H Q => ∃ l xs y, x = .ref l ∧ vs = [y] ∧ H l = some (.lst xs) ∧ xs.length < sizeLine ∧ Q .non (upd H l (.lst (xs ++ [y])))
theorem mt_append : MtM X "list.append" rAppend := by
  intro pins s σ H x vs v us Q I rx rv h
  obtain ⟨l, xs, y, rfl, rfl, hH, hz, q⟩ := h
  cases rx
  obtain ⟨u, rfl, ru⟩ := rv.one
  obtain ⟨z, its, n, r, hl, e⟩ := I.lstM hH
  refine call_meets F.slot_list_append ⟨_, e, rfl⟩ F.entry_list_append (F.args_list_append_2 _ _) (PySem.list_append l its.toArray n u (by rw [List.size_toArray]; (first | lia | omega))) ⟨e, ?_⟩
  refine ⟨.non, _, I.lset (its' := its ++ [u]) hH e (by simp) (r.append (.cons ru .nil)) ?_, rfl, q⟩
  rw [List.length_append, List.length_singleton]
  (first | lia | omega)


def rPop : V → List V → Hp → VK → Prop := fun x vs H Q => ∃ l xs y, x = .ref l ∧ vs = [] ∧ H l = some (.lst xs) ∧ xs[xs.length - 1]? = some y ∧ Q y (upd H l (.lst xs.dropLast))
theorem mt_pop : MtM X "list.pop" rPop := by
  intro pins s σ H x vs v us Q I rx rv h
  obtain ⟨l, xs, y, rfl, rfl, hH, hy, q⟩ := h
  cases rx
  have hus := rv.zero
  subst hus
  obtain ⟨z, its, n, r, hl, e⟩ := I.lstM hH
  obtain ⟨u, hu, ru⟩ := r.get hy
  have hy' : its.toArray[its.toArray.size - 1]? = some u := by
    show its.toArray[its.length - 1]? = some u
    rw [← Array.getElem?_toList, ← hl]
    exact hu
  refine call_meets F.slot_list_pop ⟨_, e, rfl⟩ F.entry_list_pop (F.args_list_pop_1 _) (MeetsSeq.list_pop_last l its.toArray n u hy' (by rw [List.size_toArray]; (first | lia | omega))) ⟨e, ?_⟩
  refine ⟨y, _, I.lset (its' := its.dropLast) hH e ?_ r.dropLast ?_, ru, q⟩
  · show its.toArray.eraseIdxIfInBounds (its.toArray.size - 1) = its.dropLast.toArray
    rw [List.size_toArray, List.eraseIdxIfInBounds_toArray, erase_last]
  · rw [List.length_dropLast]
    (first | lia | omega)




/-! ### list + list, list += list, list * int -/
def rCat : R2 := fun x y H Q => ∃ l b xs zs, x = .ref l ∧ y = .ref b ∧ H l = some (.lst xs) ∧ H b = some (.lst zs) ∧ xs.length + zs.length ≤ sizeLine ∧ ∀ p, H p = none → Q (.ref p) (upd H p (.lst (xs ++ zs)))
theorem op_cat : OpR X (binaryOp .Add) rCat := by
  intro pins s σ H x y v u Q I rx ry h
  obtain ⟨l, b, xs, zs, rfl, rfl, hH, hB, hz, q⟩ := h
  cases rx
  cases ry
  obtain ⟨z, its, n, r, hl, e⟩ := I.lstM hH
  obtain ⟨z2, its2, n2, r2, hl2, e2⟩ := I.lstM hB
  refine PySem.P.add_list e e2 ?_ (by rw [List.size_toArray, List.size_toArray]; (first | lia | omega))
  have ea : its.toArray ++ its2.toArray = (its ++ its2).toArray := by simp
  rw [ea]
  exact ⟨.ref _, _, I.lnew (t' := s.toks) (r.append r2) (by rw [List.length_append]; (first | lia | omega)), rfl, q _ I.fresh⟩
/-- a list times an int (a negative one is nothing) -/
def rRep : R2 := fun x y H Q => ∃ l k xs, x = .ref l ∧ y = .int k ∧ H l = some (.lst xs) ∧ -(2 ^ 63) ≤ k ∧ k < 2 ^ 63 ∧ xs.length * k.toNat ≤ sizeLine ∧
  ∀ p, H p = none → Q (.ref p) (upd H p (.lst (List.replicate k.toNat xs).flatten))
theorem len_rep {α : Type} (xs : List α) (k : Nat) : (List.replicate k xs).flatten.length = k * xs.length := by
  induction k with
  | zero => simp
  | succ k ih => rw [List.replicate_succ, List.flatten_cons, List.length_append, ih, Nat.succ_mul, Nat.add_comm]
theorem op_rep : OpR X (binaryOp .Mult) rRep := by
  intro pins s σ H x y v u Q I rx ry h
  obtain ⟨l, k, xs, rfl, rfl, hH, h1, h2, hz, q⟩ := h
  cases rx
  obtain ⟨t, rfl⟩ := ry
  obtain ⟨z, its, n, r, hl, e⟩ := I.lstM hH
  have hlen : its.toArray.size * k.toNat ≤ sizeLine := by rw [List.size_toArray, ← hl]; exact hz
  have hcap : ¬ its.toArray.size * k.toNat > (2 ^ 63 - 1) / 8 := by
    have : (sizeLine : Nat) ≤ (2 ^ 63 - 1) / 8 := by decide
    (first | lia | omega)
  have hfit : ¬ (!Builtin.List.listFitsIndex k) = true := by
    rw [fitsIndex_both h1 h2]
    exact Bool.false_ne_true
  have hlong : ¬ Builtin.List.listTooLong (its.toArray.size * k.toNat) = true := by
    rw [notLongL hlen]
    exact Bool.false_ne_true
  have hnew : List.foldl (fun x1 x2 => x1 ++ x2) #[] (List.replicate (if its.toArray.isEmpty = true then 0 else k.toNat) its.toArray) = (List.replicate k.toNat its).flatten.toArray := by
    have f0 : ∀ m : Nat, List.foldl (fun x1 x2 => x1 ++ x2) #[] (List.replicate m its.toArray) = (List.replicate m its).flatten.toArray := fun m => by
      have := foldl_rep its m []
      rw [List.nil_append] at this
      exact this
    rw [f0]
    cases its with
    | nil => simp
    | cons a r' => rw [if_neg (by simp)]
  refine wpAny_binaryOp_repeat_ref (T := "list") (U := "int") (by decide) ⟨_, e, rfl⟩ (fun s' => typeIs_int s' k t) noFill_list_mul F.fills_int_mul F.slot_int_rmul repeat_list F.slot_int_index.lookup
    (call_meets F.slot_int_rmul (typeIs_int s k t) F.entry_int_rmul (F.args_int_rmul_2 _ _) (int___rmul___int_list k t l its.toArray n)
      ⟨e, rfl, ⟨_, e, rfl⟩, call_meets F.slot_list_mul ⟨_, e, rfl⟩ F.entry_list_mul (F.args_list_mul_2 _ _) (AutoListH.list___mul___list_int_3 l its.toArray n k t hfit hcap hlong) ⟨e, ?_⟩⟩)
  rw [hnew]
  exact ⟨.ref _, _, I.lnew (t' := s.toks) (r.rep k.toNat) (by rw [len_rep, Nat.mul_comm]; exact hz), rfl, q _ I.fresh⟩

/-! ### del xs[i] -/
end

/-! ### xs[a:b] = ys -/
section
variable {prog : Program} {w : World} {A : Around} {E : Value → Shared → Prop} {s : Shared}
set_option maxRecDepth 100000 in
end

section
variable {X : Cx}
end
end L2

namespace Att
open PySem PySem.W PySem.Calls PyProof.Rows

/-! ### the script -/
theorem ints_of_wellAll {P : Params} {h : Heap} : ∀ (ns : List Int) (vs : List Value), WellAll P h vs (ns.map WData.int) → IntsAre vs ns := by
  intro ns
  induction ns with
  | nil =>
    intro vs w
    rw [List.map_nil] at w
    cases w
    exact .nil
  | cons n ns ih =>
    intro vs w
    rw [List.map_cons] at w
    cases w with
    | cons a b =>
      cases a
      exact .cons _ _ (ih _ b)

theorem script_of {l : OpenLaw} {n : Nat} (hn : l.most = some n) {P : Params} {h : Heap} {args : List WData} {vals : List Value}
    (hpre : l.row.toRowW.claim.pre args = true) (hwl : WellAll P h vals args) :
    ∃ a vs ns, vals = [Value.ref a] ∧ args = [WData.list (ns.map WData.int)] ∧ h.get? a = some { cls := .type "list", data := .seq vs.toArray } ∧ IntsAre vs ns ∧ ns.length ≤ n := by
  have hsh : WShape.hasAll [] args [.list .int] = true := (pre_splitW hpre).1
  have hc : l.pre.holds [] { args := args } = true := (pre_splitW hpre).2
  obtain ⟨d, r, rfl, h1, h2⟩ := hasAllW_cons hsh
  obtain rfl := hasAllW_nil h2
  obtain ⟨xs, rfl, h3⟩ := hasW_list h1
  obtain ⟨ns, rfl⟩ := items_int h3
  have hlen : ns.length ≤ n := by
    unfold OpenLaw.pre at hc
    have h4 : (WTm.not (.lt (.lit (.int (n : Int))) (.len (.arg 0)))).holds [] { args := [.list (ns.map .int)] } = true := by
      have h4 := (holds_andW hc).1
      rw [hn] at h4
      exact h4
    have h5 := condW_of h4 (w_not (w_lt w_lit (w_len_list (w_arg rfl))))
    rw [List.length_map] at h5
    refine Nat.le_of_not_lt fun q => ?_
    have q' : (n : Int) < ((ns.length : Nat) : Int) := by first | lia | omega
    first
      | (rw [decide_eq_true q'] at h5; exact absurd h5 (by decide))
      | (simp at h5; (first | lia | omega))
  cases hwl with
  | cons w1 w2 =>
    cases w2
    cases w1 with
    | list ho hall => exact ⟨_, _, ns, rfl, rfl, ho, ints_of_wellAll ns _ hall, hlen⟩

theorem post_true (l : OpenLaw) (args : List WData) : l.row.toRowW.claim.post args (.bool true) args = true :=
  postW_of (r := l.row.toRowW) (X := (true == true))
    (show WShape.has [] (.bool true) .bool = true by first | rfl | decide | simp [WShape.has, WShape.arms, WShape.armsAll])
    (show (WTm.eq .res (.lit (.bool true))).value [] { args := args, res := some (.bool true), after := args } = some (.bool (true == true)) from w_eq_bool (w_res rfl) w_lit) rfl

/-! ### the attachment: holds_open's last premise (the goal 'hc' behind k_head) from a wpAny of the law's body -/

/-- the same from a codeAny of the CALL (for a layer whose function contracts speak of calls) -/
theorem attach_call {l : OpenLaw} {n : Nat} {q : Program} {loose : List Str} {XP : (Str → Option Value) → Heap → Prop} {YP : World → Heap → Prop} {d : DefRec}
    (hn : l.most = some n) (hdf : d.params.defaults = [])
    (call : ∀ (w : World) (s₀ s₁ : Shared) (mg mb : Str → Option Value) (fa : Addr) (o : Obj) (pm cd doc : Value) (a : Addr) (vs : List Value) (ns : List Int),
      Ground q loose [] XP w s₀ mg mb s₁.heap → YP w s₁.heap →
      s₁.heap.get? fa = some o → o.data = .func (docDef d.name d.params d.body d.scope pm cd doc) → s₁.heap.CodeRec cd d.name → mg d.name = some (.ref fa) →
      s₁.heap.get? a = some { cls := .type "list", data := .seq vs.toArray } → IntsAre vs ns → ns.length ≤ n → s₁.gens = #[] →
      codeAny (model l.prog w) callerA (.call (.ref fa) ⟨[.ref a], []⟩) (fun r s' => r = .ok (.ret (.bool true)) ∧ OldK s₁.heap s'.heap ∧ s'.os = s₁.os ∧ AllBare s'.gens) s₁) :
    WalkO q loose XP YP l.row.toRowW d [] (fun f vs => PySem.call f vs) := by
  intro w s₀ s₁ mg mb G Y fa o pm cd doc dV kV ho hd hcd hD hmg hg args vals as hpre hlay hrd hwl hlo
  obtain rfl : dV = .none := Dflts.none hD hdf
  obtain rfl : kV = .none := Dflts.noKw hD
  obtain ⟨a, vs, ns, rfl, rfl, hobj, hints, hlen⟩ := script_of hn hpre hwl
  refine enter_call (codeAny_mono (call w s₀ s₁ mg mb fa o pm cd doc a vs ns G Y ho (fd_plain hd) hcd hmg hobj hints hlen hg) fun r s' hq => ?_)
  obtain ⟨rfl, h2, h3, h4⟩ := hq
  exact ⟨.inl ⟨.bool true, .bool true, [], rfl, fun _ => rfl, .bool true, post_true l _, fun _ => ⟨List.Pairwise.nil, fun _ hm => (nomatch hm)⟩⟩, h2, h3, h4⟩


/-! ### rules over ANY heap (no ledger) from facts about the written part K: the library's own take a ledger (News) for what they write -/
section
variable {prog : Program} {w : World} {A : Around} {E : Value → Shared → Prop} {s : Shared} {K : Frag}





/-! the whole heap as the ledger: makes every rule that writes through a ledger a rule over any heap -/

end
end Att

namespace L2
open PySem PySem.Spec PyProof.Rows

theorem vals_ints : ∀ {vs : List Value} {ns : List Int}, IntsAre vs ns → Vals (ns.map V.int) vs
  | _, _, .nil => .nil
  | _, _, .cons n t h => .cons ⟨t, rfl⟩ (vals_ints h)

/-- nothing is tracked but the script, known to the object (or it is an object of the module) -/
def Only (H : Hp) : Prop := ∀ b, H b = none ∨ ∃ o xs, H b = some (.frz o (.lst xs))

/-- THE HEAD: the law's promise, at the heap behind the top. F, the promise of the law's def, may use that base is part of the heap (so K.In base, base.Ns mainGlobals mg stand in Mod) -/
theorem law_call {P : Program} {w : World} {K : PySem.W.Frag} {mg mb : Str → Option Value} {CX : CXT} {k : Nat} {fa a : Addr} {fd : FuncData} {x : Str} {sp : Sp} {s₁ : Shared} {vs : List Value} {ns : List Int}
    (KX : K.In s₁.heap) (hns : s₁.heap.Ns mainGlobals mg) (hb : s₁.heap.Ns builtinsNs mb) (hbb : ∀ x : Str, x ≠ "__name__" → mb x = bootBuiltins x) (hlim : s₁.heap.NoLimit) (hg : s₁.gens = #[])
    (ha : s₁.heap.get? a = some { cls := .type "list", data := .seq vs.toArray }) (hi : IntsAre vs ns) (hl : ns.length ≤ sizeLine) (hr : Room k callerA)
    (F : ∀ base : Heap, K.In base → base.Ns mainGlobals mg → FnOk P w K mg base CX k fa fd [x] sp) (hbind : ∀ (s : Shared) (u : Value), BindsTo s fd ⟨[u], []⟩ [(x, u)])
    (hsp : ∀ H : Hp, Only H → SqL K H a (ns.map V.int) → sp [.ref a] H (fun v _ => v = .bl true) fun _ _ _ => False)
    (hCX : ∀ H e s', CX [] H s₁ (fun _ _ _ => False) e s' → False) :
    codeAny (model P w) callerA (.call (.ref fa) ⟨[.ref a], []⟩) (fun r s' => r = .ok (.ret (.bool true)) ∧ OldK s₁.heap s'.heap ∧ s'.os = s₁.os ∧ AllBare s'.gens) s₁ := by
  have rv := vals_ints hi
  have lenV := hi.length
  -- from an abstract heap in which nothing but the script may be tracked
  have core : ∀ H : Hp, Only H → SqL K H a (ns.map V.int) → HOk P w H s₁.heap → (∀ b, H b ≠ none → b = a) → (H a ≠ none → K.lookup a = none) →
      codeAny (model P w) callerA (.call (.ref fa) ⟨[.ref a], []⟩) (fun r s' => r = .ok (.ret (.bool true)) ∧ OldK s₁.heap s'.heap ∧ s'.os = s₁.os ∧ AllBare s'.gens) s₁ := by
    intro H hO hS hok hA hK
    have base_of : ∀ {b : Addr} {o : Obj}, s₁.heap.get? b = some o → H b = none → (hidT s₁.heap H).get? b = some o := fun e n => hidT_get e n
    have noA : ∀ {b : Addr} {o : Obj} {es : Array DictEntry} {ep : Nat}, s₁.heap.get? b = some o → o.data = .dict es ep → H b = none := fun {b o es ep} e d => by
      cases q : H b with
      | none => rfl
      | some u =>
        have e' : b = a := hA b (by rw [q]; simp)
        subst e'
        rw [ha] at e; cases e
        have d' : Data.seq vs.toArray _ = Data.dict es ep := d
        cases d'
    have nsK : ∀ {b : Addr} {m : Str → Option Value}, s₁.heap.Ns b m → (hidT s₁.heap H).Ns b m := fun {b m} ⟨o, es, ep, e, d, r⟩ => ⟨o, es, ep, base_of e (noA e d), d, r⟩
    have hKb : K.In (hidT s₁.heap H) := fun b o e => base_of (KX b o e) (by
      cases q : H b with
      | none => rfl
      | some u =>
        have e' : b = a := hA b (by rw [q]; simp)
        subst e'
        rw [hK (by rw [q]; simp)] at e; cases e)
    have hM : Mod K mg (hidT s₁.heap H) := ⟨hKb, nsK hns, ⟨mb, nsK hb, hbb⟩, let ⟨mc, h1, h2⟩ := hlim; ⟨mc, nsK h1, h2⟩⟩
    have e0 : Env0 P w K mg (hidT s₁.heap H) callerA [] s₁ H := ⟨rfl, hM, fun b o e => of_hidT e, Nat.le_of_eq (hidT_size _ _), trivial, fun b hb => absurd (show b ∈ ([] : List Addr) from hb) (by simp), hok, .of_eq hg⟩
    refine codeAny_mono ((F _ hKb (nsK hns)).run callerA [] s₁ H ⟨[.ref a], []⟩ [.ref a] [.ref a] _ _ hr e0 (hbind s₁ (.ref a)) (.cons rfl .nil) (hsp H hO hS)) fun r s' h => ?_
    cases r with
    | error e => exact (hCX H e s' h).elim
    | ok fl =>
      cases fl with
      | next => exact False.elim h
      | brk => exact False.elim h
      | cont => exact False.elim h
      | ret u =>
        obtain ⟨v, H', os, bare, un, hok', r', q⟩ := h
        have q' : v = .bl true := q
        subst q'
        obtain rfl : u = Value.bool true := r'
        refine ⟨rfl, OldK.of_keep fun b o e => ?_, os, bare⟩
        cases q : H b with
        | none => exact un.keep b o e q (by intro z; exact absurd (show b ∈ ([] : List Addr) from z) (by simp)) (by simp)
        | some u =>
          rcases hO b with z | ⟨ob, xs, z⟩
          · rw [q] at z; cases z
          · have z2 := un.frzs b ob _ z
            obtain ⟨e1, _⟩ := hok b _ z
            obtain ⟨e2, _⟩ := hok' b _ z2
            rw [e] at e1; cases e1
            exact e2
  cases hk : K.lookup a with
  | some o =>
    -- the script is one of the module's own objects
    have e := KX a o hk
    rw [ha] at e
    cases e
    refine core (fun _ => none) (fun _ => .inl rfl) (.inr ⟨_, vs.toArray, _, hk, rfl, rfl, rfl, by rw [List.size_toArray, lenV]; exact hl, by simpa using rv⟩) (fun b u z => by have z' : (none : Option HO) = some u := z; cases z') (fun b z => absurd rfl z) fun z => absurd rfl z
  | none =>
    refine core (fun b => if b = a then some (.frz { cls := .type "list", data := .seq vs.toArray } (.lst (ns.map V.int))) else none) (fun b => ?_) (.inl (.inr ⟨{ cls := .type "list", data := .seq vs.toArray }, if_pos rfl⟩)) (fun b u z => ?_) (fun b z => ?_) fun _ => hk
    · by_cases hb : b = a
      · exact .inr ⟨_, _, if_pos hb⟩
      · exact .inl (if_neg hb)
    · by_cases hb : b = a
      · have z' := (if_pos hb).symm.trans z
        cases z'
        subst hb
        exact ⟨ha, by rw [List.length_map]; exact hl, vs, _, rv, ha⟩
      · have z' := (if_neg hb).symm.trans z
        cases z'
    · by_cases hb : b = a
      · exact hb
      · exact absurd (if_neg hb) z
end L2

namespace L2
open PySem PySem.Spec PyProof.Rows

abbrev KOf {K : PySem.W.Frag} {h : Heap} (_ : K.In h) : PySem.W.Frag := K

/-- the goal that k_head leaves (case hc), from the law's promise. F gives the function object fd (K's own) once, then the promise over every base -/
theorem walk_of {l : PySem.W.OpenLaw} {n k : Nat} {q : Program} {loose : List Str} {XP : (Str → Option Value) → Heap → Prop} {YP : World → Heap → Prop} {d : DefRec} {K : Params → PySem.W.Frag} {CX : World → CXT} {sp : World → Sp} {x : Str}
    (hn : l.most = some n) (hn2 : n ≤ sizeLine) (hdf : d.params.defaults = []) (hr : Room k callerA)
    (hY : ∀ (w : World) (h : Heap), YP w h → (K w.params).In h)
    (F : ∀ (w : World) (mg : Str → Option Value) (fa : Addr) (h : Heap), (K w.params).In h → h.Ns mainGlobals mg → mg d.name = some (.ref fa) →
      ∃ fd : FuncData, (∀ (s : Shared) (u : Value), BindsTo s fd ⟨[u], []⟩ [(x, u)]) ∧
        ∀ base : Heap, (K w.params).In base → base.Ns mainGlobals mg → FnOk l.prog w (K w.params) mg base (CX w) k fa fd [x] (sp w))
    (hsp : ∀ (w : World) (H : Hp) (a : Addr) (ns : List Int), ns.length ≤ n → Only H → SqL (K w.params) H a (ns.map V.int) → sp w [.ref a] H (fun v _ => v = .bl true) fun _ _ _ => False)
    (hCX : ∀ (w : World) (H : Hp) (s : Shared) (e : Value) (s' : Shared), CX w [] H s (fun _ _ _ => False) e s' → False) :
    PySem.W.WalkO q loose XP YP l.row.toRowW d [] (fun f vs => PySem.call f vs) := by
  refine Att.attach_call hn hdf fun w s₀ s₁ mg mb fa o pm cd doc a vs ns G Y ho hd hcd hmg hobj hints hlen hg => ?_
  have KX := hY w _ Y
  obtain ⟨fd, hb, hF⟩ := F w mg fa _ KX G.T.g hmg
  exact law_call KX G.T.g G.T.b G.T.builtins G.T.nolimit hg hobj hints (Nat.le_trans hlen hn2) hr hF hb (fun H hO hS => hsp w H a ns hlen hO hS) fun H e s' => hCX w H s₁ e s'
end L2

/- THE LAST THEOREM (shape; LID, My.* are yours):
   My.Adr: a structure of the addresses that your layer names (classes, functions); My.Txt K t: a structure (Prop) of the equations over K;
   My.txt_mk : {K} {implicit addresses ..} (e1 : nsIn K mainGlobals "law" = some (some (.ref f))) (e2 : K.lookup f = some ⟨oc, od, .func (fnOf "law" "law" params body scope dV kV doc pm an cdv ct), sl⟩) (e3 : codeIn K cdv "law" = true) .. : ∃ t, My.Txt K t

set_option maxRecDepth 100000 in
set_option maxHeartbeats 0 in
theorem PySem.Challenge.cw_LID_holds : PySem.Challenge.rw_LID.Holds := by
  w_on; o_law; k_head; (case hw => w_witness2)
  k_fill
  refine L2.walk_of (l := PySem.Challenge.rw_LID) (n := 63) (k := 40) (x := "script") (CX := fun w => ..) (sp := fun _ => My.sp_law) rfl (by decide) rfl ⟨rfl, by decide, by decide⟩ (fun w h Y => PySem.W.kIn_of Y) ?F ?S ?C
  case F =>
    intro w mg fa h KX G hmg
    have T : ∃ t, My.Txt (L2.KOf KX) t := by
      dsimp only [L2.KOf]                          -- K must stand as «<heap const> w.params» for k_is
      refine' My.txt_mk ?e1 ?e2 ?e3 ..
      (case e1 => PySem.W.k_is)                    -- in the order: a name -> its address -> its object -> its parts
      (case e2 => PySem.W.k_is)
      ..
    obtain ⟨t, T⟩ := T
    have e0 := hmg.symm.trans (PySem.W.mg_of KX G T.law)
    cases e0                                       -- fa is the law's own address
    exact ⟨_, fun s u => .of_eq rfl, fun base kb nb => My.law_fn T kb nb⟩     -- if «.of_eq rfl» comes too early: refine' ⟨_, ?b, fun base kb nb => My.law_fn T kb nb⟩; exact fun s u => .of_eq rfl
  case S => exact fun w H a ns hl hO hS => ..
  case C => exact ..
(the tactic k_is has no namespace: write k_is) -/

/-! SHORT WORDS over the layer: a def of the text, its body, what a loop and a test want. -/
namespace L2
open PySem PySem.Spec PyProof.Rows

/-! ### the text by places -/
def defArgs (s : Stmt) : Arguments := match s with
  | .FunctionDef _ a _ _ _ _ _ _ _ _ => a
  | _ => { posonlyargs := [], args := [], vararg := none, kwonlyargs := [], kw_defaults := [], kwarg := none, defaults := [] }
def defBody (s : Stmt) : List Stmt := match s with
  | .FunctionDef _ _ b _ _ _ _ _ _ _ => b
  | _ => []
def defScope (s : Stmt) : Scope := match s with
  | .FunctionDef _ _ _ _ _ _ sc _ _ _ => sc
  | _ => { kind := .function, names := [], isGenerator := false, isCoroutine := false }

/-! ### no exception leaves a def -/
abbrev CX0 : CXT := fun _ _ _ _ _ _ => False
abbrev E0 : XK := fun _ _ _ => False
theorem pass0 {X : Cx} : Passes CX0 X E0 := fun _ _ _ _ _ _ _ h => h.elim

/-! ### a def (or method) of the text as it stands behind the top -/
structure Fun (K : PySem.W.Frag) (x qual : Str) (st : Stmt) (f : Addr) (fd : FuncData) : Prop where
  ex : ∃ (oc : Value) (od : Option Addr) (kV doc pm : Value) (an : Option Addr) (cdv ct : Value) (osl : Array (Option Value)),
    fd = PySem.W.fnOf x qual (defArgs st) (defBody st) (defScope st) .none kV doc pm an cdv ct ∧ K.lookup f = some ⟨oc, od, .func fd, osl⟩ ∧ PySem.W.codeIn K cdv qual = true
  kp : PySem.W.keepIn K (.ref f) = true
section
variable {P : Program} {w : World} {K : PySem.W.Frag} {mg : Str → Option Value} {base : Heap}
/-- THE RULE for a def: its body as a term of rules, and the reading of that term -/
theorem Fun.ok {x qual : Str} {st : Stmt} {f : Addr} {fd : FuncData} {N ps : List Str} {k : Nat} {sp : Sp} (F : Fun K x qual st f fd) (S : FnScope N ps (defScope st)) (len : ∀ vs H Q E, sp vs H Q E → vs.length = ps.length)
    (hbody : ∀ (cdv : Value) (A : Around) (outer : List Env) (s : Shared) (H : Hp) (vs : List V) (Q : VK) (E : XK), Room k (A.deeper (envOfC qual (defScope st) s.heap.objs.size f cdv)) → sp vs H Q E →
      ∃ t, PSs (cxOf CX0 P w K mg base N qual (defScope st) f cdv A outer s H E).nox (defBody st) t ∧ t { nx := fun _ H' => Q .non H', rt := Q } (start N vs) H) : FnOk P w K mg base CX0 (k + 1) f fd ps sp := by
  obtain ⟨oc, od, kV, doc, pm, an, cdv, ct, osl, rfl, lk, hcd⟩ := F.ex
  refine fn_of lk hcd S len fun A outer s H vs Q E hr hsp => ?_
  obtain ⟨t, h, q⟩ := hbody cdv A outer s H vs Q E hr hsp
  exact ⟨t, h.nox, q⟩
/-- how its arguments bind (no defaults): h is «fun _ _ _ _ _ _ us hl => match us, hl with | [_, _], _ => rfl», one _ a parameter -/
theorem Fun.binds {x qual : Str} {st : Stmt} {f : Addr} {fd : FuncData} {ps : List Str} (F : Fun K x qual st f fd)
    (h : ∀ (kV doc pm : Value) (an : Option Addr) (cdv ct : Value) (us : List Value), us.length = ps.length → bindArgs (PySem.W.fnOf x qual (defArgs st) (defBody st) (defScope st) .none kV doc pm an cdv ct) ⟨us, []⟩ = pure (ps.zip us)) : Binds K fd ps [] := by
  obtain ⟨oc, od, kV, doc, pm, an, cdv, ct, osl, rfl, lk, hcd⟩ := F.ex
  exact .all (h kV doc pm an cdv ct)
theorem fun_mk {x qual : Str} {st : Stmt} {f : Addr} {oc : Value} {od an : Option Addr} {osl : Array (Option Value)} {kV doc pm cdv ct : Value} (l : K.lookup f = some ⟨oc, od, .func (PySem.W.fnOf x qual (defArgs st) (defBody st) (defScope st) .none kV doc pm an cdv ct), osl⟩)
    (c : PySem.W.codeIn K cdv qual = true) (k : PySem.W.keepIn K (.ref f) = true) : Fun K x qual st f (PySem.W.fnOf x qual (defArgs st) (defBody st) (defScope st) .none kV doc pm an cdv ct) := ⟨⟨oc, od, kV, doc, pm, an, cdv, ct, osl, rfl, l, c⟩, k⟩
end
theorem small1000 {n : Nat} (h : n ≤ 1000) : n < sizeLine := Nat.lt_of_le_of_lt h (by decide)

/-! ### expressions in short: the name that stands in the i-th slot -/
section
variable {X : Cx}
theorem pv (i : Nat) {x : Str} {pos : Pos} (hN : X.N[i]? = some x := by rfl) (hv : Vis X.env.scope x := by first | exact Or.inl rfl | exact Or.inr (Or.inl rfl) | exact Or.inr (Or.inr rfl)) (hd : (x == ("__debug__" : Str)) = false := by decide)
    (hcd : (x == ("__classdict__" : Str)) = false := by decide) : PE X (.Name x pos) (tVar i) := pe_var hN hv hd hcd
end

/-! ### tests -/
theorem iteF {A B : Prop} (h : B) : if false = true then A else B := by
  rw [if_neg Bool.false_ne_true]
  exact h
theorem iteT {A B : Prop} (h : A) : if true = true then A else B := by
  rw [if_pos rfl]
  exact h
theorem ite2 {c A B : Prop} [Decidable c] (h1 : c → A) (h2 : ¬ c → B) : if c then A else B := by
  by_cases h : c
  · rw [if_pos h]
    exact h1 h
  · rw [if_neg h]
    exact h2 h
theorem iteNS {c A B : Prop} [Decidable c] (hc : c) (h : B) : if (!decide c) = true then A else B := by
  rw [decide_eq_true hc]
  exact iteF h

/-! ### heaps -/
/-- all that was tracked is as it was -/
def Same (H H' : Hp) : Prop := ∀ b o, H b = some o → H' b = some o
theorem Same.refl (H : Hp) : Same H H := fun _ _ h => h
theorem Same.trans {H H1 H2 : Hp} (a : Same H H1) (b : Same H1 H2) : Same H H2 := fun c o h => b c o (a c o h)
theorem Same.seq {K : PySem.W.Frag} {H H' : Hp} {a : Addr} {xs : List V} (e : Same H H') (h : SqL K H a xs) : SqL K H' a xs := by
  rcases h with (h | ⟨o, h⟩) | h
  · exact .inl (.inl (e _ _ h))
  · exact .inl (.inr ⟨o, e _ _ h⟩)
  · exact .inr h

end L2

/-! List comprehensions over the layer: one clause, a name or a tuple of names as target, perhaps one test. -/
namespace L2
open PySem PySem.Spec PyProof.Rows

theorem lk_mem {β : Type} : ∀ {l : List (Str × β)} {x : Str} {k : β}, l.lookup x = some k → (x, k) ∈ l
  | [], _, _, h => by simp at h
  | (n, k') :: r, x, k, h => by
    rw [List.lookup_cons] at h
    cases e : x == n with
    | true =>
      rw [e] at h
      have e' : x = n := eq_of_beq e
      have h' : some k' = some k := h
      cases h'
      rw [e']
      exact List.mem_cons_self
    | false =>
      rw [e] at h
      exact List.mem_cons_of_mem _ (lk_mem h)
theorem lk_has {β : Type} : ∀ {l : List (Str × β)} {x : Str} {k : β}, (x, k) ∈ l → ∃ k', l.lookup x = some k'
  | [], _, _, h => by simp at h
  | (n, k') :: r, x, k, h => by
    rw [List.lookup_cons]
    cases e : x == n with
    | true => exact ⟨k', rfl⟩
    | false =>
      rcases List.mem_cons.mp h with q | q
      · cases q
        simp at e
      · exact lk_has q

/-- what a name of the comprehension's own scope is within the block -/
def reK (env : Env) (x : Str) (k : NameKind) : NameKind := if (k == .free && env.scope.kind == .function && env.kindOf x == some .cell) then .cell else k
theorem lk_re {env : Env} {x : Str} : ∀ {l : List (Str × NameKind)},
    (l.map fun (n, k) => if (k == NameKind.free && env.scope.kind == .function && env.kindOf n == some .cell) then (n, NameKind.cell) else (n, k)).lookup x = (l.lookup x).map (reK env x)
  | [] => rfl
  | (n, k) :: r => by
    rw [List.map_cons]
    have ih := @lk_re env x r
    have e0 : (match ((n, k) : Str × NameKind) with | (n, k) => if (k == NameKind.free && env.scope.kind == .function && env.kindOf n == some .cell) then (n, NameKind.cell) else (n, k)) = (n, reK env n k) := by
      show (if (k == NameKind.free && env.scope.kind == .function && env.kindOf n == some .cell) = true then (n, NameKind.cell) else (n, k)) = (n, reK env n k)
      unfold reK
      split <;> rfl
    rw [e0, List.lookup_cons, List.lookup_cons]
    cases e : x == n with
    | true =>
      have e' : x = n := eq_of_beq e
      subst e'
      rfl
    | false => exact ih

/-- the cells that a comprehension's block is handed -/
def clOf (cells : List (Str × Addr)) : List (Str × NameKind) → List (Str × Addr) → List (Str × Addr)
  | [], acc => acc
  | (n, k) :: r, acc => if k == .free then clOf cells r ((n, (cells.lookup n).getD 0) :: acc) else clOf cells r acc
theorem clOf_sub {cells : List (Str × Addr)} : ∀ {l : List (Str × NameKind)} {acc : List (Str × Addr)}, (∀ y ∈ l, y.2 = .free → ∃ c, cells.lookup y.1 = some c) → (∀ p ∈ acc, cells.lookup p.1 = some p.2) →
    ∀ p ∈ clOf cells l acc, cells.lookup p.1 = some p.2
  | [], acc, _, ha, p, hp => ha p hp
  | (n, k) :: r, acc, hl, ha, p, hp => by
    unfold clOf at hp
    have hl' : ∀ y ∈ r, y.2 = .free → ∃ c, cells.lookup y.1 = some c := fun y hy => hl y (List.mem_cons_of_mem _ hy)
    cases hk : k == NameKind.free with
    | true =>
      rw [hk, if_pos rfl] at hp
      refine clOf_sub hl' (fun q hq => ?_) p hp
      rcases List.mem_cons.mp hq with e | e
      · subst e
        obtain ⟨c, e⟩ := hl (n, k) List.mem_cons_self (eq_of_beq hk)
        show cells.lookup n = some ((cells.lookup n).getD 0)
        rw [show cells.lookup n = some c from e]
        rfl
      · exact ha q e
    | false =>
      rw [hk, if_neg Bool.false_ne_true] at hp
      exact clOf_sub hl' ha p hp
theorem clOf_acc {cells : List (Str × Addr)} : ∀ {l : List (Str × NameKind)} {acc : List (Str × Addr)} {p : Str × Addr}, p ∈ acc → p ∈ clOf cells l acc
  | [], _, _, h => h
  | (n, k) :: r, acc, p, h => by
    unfold clOf
    split
    · exact clOf_acc (List.mem_cons_of_mem _ h)
    · exact clOf_acc h
theorem clOf_has {cells : List (Str × Addr)} : ∀ {l : List (Str × NameKind)} {acc : List (Str × Addr)} {x : Str}, (x, NameKind.free) ∈ l → ∃ c, (x, c) ∈ clOf cells l acc
  | [], _, _, h => by simp at h
  | (n, k) :: r, acc, x, h => by
    unfold clOf
    rcases List.mem_cons.mp h with e | e
    · cases e
      rw [if_pos (by rfl)]
      exact ⟨_, clOf_acc List.mem_cons_self⟩
    · split
      · exact clOf_has e
      · exact clOf_has e
theorem closure_is {env : Env} : ∀ {l : List (Str × NameKind)} {acc : List (Str × Addr)}, (∀ y ∈ l, y.2 = .free → ∃ c, env.cells.lookup y.1 = some c) →
    (forIn l acc (fun (x : Str × NameKind) (r : List (Str × Addr)) => (if (x.2 == NameKind.free) = true then do let c ← cellOf env x.1; pure (ForInStep.yield ((x.1, c) :: r)) else pure (ForInStep.yield r) : Sem _))) = pure (clOf env.cells l acc)
  | [], _, _ => rfl
  | (n, k) :: r, acc, hl => by
    have hl' : ∀ y ∈ r, y.2 = .free → ∃ c, env.cells.lookup y.1 = some c := fun y hy => hl y (List.mem_cons_of_mem _ hy)
    rw [List.forIn_cons]
    unfold clOf
    cases hk : k == NameKind.free with
    | true =>
      obtain ⟨c, e⟩ := hl (n, k) List.mem_cons_self (eq_of_beq hk)
      have e' : env.cells.lookup n = some c := e
      simp only [hk, if_true]
      rw [show cellOf env n = pure c by unfold cellOf; rw [e']]
      simp only [pure_bind]
      rw [closure_is hl', e']
      rfl
    | false =>
      simp only [hk, Bool.false_eq_true, if_false, pure_bind]
      exact closure_is hl'

/-- the slots of the comprehension's own names are blank within -/
def hideS (hide : List Nat) (σ : St) : St := hide.foldl (fun s i => s.set i none) σ
theorem hideS_len : ∀ {hide : List Nat} {σ : St}, (hideS hide σ).length = σ.length
  | [], _ => rfl
  | i :: r, σ => by
    show (hideS r (σ.set i none)).length = _
    rw [hideS_len, List.length_set]
theorem hideS_get : ∀ {hide : List Nat} {σ : St} {i : Nat} {v : V}, (hideS hide σ)[i]? = some (some v) → i ∉ hide ∧ σ[i]? = some (some v)
  | [], _, _, _, h => ⟨by simp, h⟩
  | j :: r, σ, i, v, h => by
    obtain ⟨h1, h2⟩ := hideS_get (hide := r) (σ := σ.set j none) h
    by_cases e : j = i
    · subst e
      by_cases hl : j < σ.length
      · rw [List.getElem?_set_self hl] at h2
        cases h2
      · rw [List.getElem?_eq_none (by simp; (first | lia | omega))] at h2
        cases h2
    · rw [List.getElem?_set_ne e] at h2
      exact ⟨by simp [h1, Ne.symm e], h2⟩

/-- the context of a comprehension's block -/
def cCx (X : Cx) (scope : Scope) (s2 : Shared) (H2 : Hp) (fp : List Addr) (pins : List (Addr × Obj)) (C : Addr) : Cx where
  prog := X.prog
  w := X.w
  K := X.K
  mg := X.mg
  base := X.base
  A := X.A
  N := X.N
  s₀ := s2
  H₀ := H2
  env := compEnvC scope (clOf X.env.cells scope.names []) C X.env
  outer := X.stack
  stack := X.stack
  ex := fp
  fn := fun _ => false
  calm := X.calm
  pn := X.pn ++ pins
  xe := fun _ _ => False

/-- what the scope of a comprehension must be beside the scope around it -/
structure CompS (N : List Str) (out : Scope) (scope : Scope) (hide : List Nat) : Prop where
  kind : scope.kind = .function
  nocell : ∀ y ∈ scope.names, y.2 ≠ .cell
  free : ∀ y ∈ scope.names, y.2 = .free → out.names.lookup y.1 = some .cell ∨ out.names.lookup y.1 = some .free
  loc : ∀ y ∈ scope.names, y.2 = .local → scope.names.lookup y.1 = some .local
  own : ∀ (i : Nat), i < N.length → scope.names.lookup (N.getD i "") = some .local → i ∈ hide

section
variable {X : Cx} {pins : List (Addr × Obj)} {σ : St} {H : Hp} {s : Shared}

theorem cOk {scope : Scope} {hide : List Nat} (S : CompS X.N X.env.scope scope hide) {fp : List Addr} {C : Addr} (I : Inv X pins σ H s) (hf : ∀ b ∈ fp, FpOk X pins H b) (hfo : ∀ b ∈ fp, ∃ o, s.heap.get? b = some o)
    (hC : s.heap.objs.size ≤ C) : (cCx X scope s H fp pins C).Ok := by
  have hfr : ∀ y ∈ scope.names, y.2 = .free → ∃ c, X.env.cells.lookup y.1 = some c := fun y hy e => I.ok.has y.1 (S.free y hy e)
  have sub : ∀ x c, (clOf X.env.cells scope.names []).lookup x = some c → X.env.cells.lookup x = some c := fun x c e => clOf_sub hfr (fun _ z => absurd z List.not_mem_nil) (x, c) (lk_mem e)
  refine ⟨I.ok.mod, S.kind, I.ok.glob, I.ok.blt, hC, fun x y c e1 e2 => I.ok.inj x y c (sub x c e1) (sub y c e2), fun x hx => ?_, fun x c h => absurd h Bool.false_ne_true, I.ok.hd, I.ok.frames, .inl rfl, fun b hb => ⟨?_, fun x c e => (hf b hb).2.2.2.2.1 x c (sub x c e)⟩, I.bs,
    Nat.le_trans I.ok.bsz I.sz, fun b o e hb => ?_, fun b hb z => ?_, I.stack, I.stkFree⟩
  · have hx' : ((scope.names.lookup x).map (reK X.env x) = some .cell) ∨ ((scope.names.lookup x).map (reK X.env x) = some .free) := by
      rw [← lk_re]
      exact hx
    cases q : scope.names.lookup x with
    | none => rw [q] at hx'; rcases hx' with z | z <;> cases z
    | some k =>
      have mem := lk_mem q
      have kf : k = .free := by
        rw [q] at hx'
        have hx2 : reK X.env x k = .cell ∨ reK X.env x k = .free := hx'.imp Option.some.inj Option.some.inj
        unfold reK at hx2
        by_cases c : (k == NameKind.free && X.env.scope.kind == .function && X.env.kindOf x == some .cell) = true
        · simp only [Bool.and_eq_true, beq_iff_eq] at c
          exact c.1.1
        · rw [if_neg c] at hx2
          rcases hx2 with z | z
          · exact absurd z (S.nocell _ mem)
          · exact z
      subst kf
      obtain ⟨c, hc⟩ := clOf_has (cells := X.env.cells) (acc := []) mem
      exact lk_has hc
  · obtain ⟨o, e⟩ := hfo b hb
    exact Nat.ne_of_lt (Nat.lt_of_lt_of_le (Heap.lt_size e) hC)
  · rcases (hf b hb).2.2.2.1 with z | z
    · exact I.ok.noex b o e z
    · exact absurd (Nat.lt_of_lt_of_le (Heap.lt_size (I.ok.bs b o e).1) z) (Nat.lt_irrefl _)
  · rcases List.mem_cons.mp (I.stkSub b z) with q | q
    · exact (hf b hb).2.1 q
    · exact (hf b hb).2.2.1 q

theorem I_stk (I : Inv X pins σ H s) {a : Addr} (h : s.heap.objs.size ≤ a) : a ∉ frs X.stack := fun z => by
  rcases List.mem_cons.mp (I.stkSub a z) with q | q
  · exact absurd (Nat.lt_of_lt_of_le I.lt (by rw [← q]; exact h)) (Nat.lt_irrefl _)
  · exact I.nofs h q

/-- the block begins -/
theorem cInv {scope : Scope} {hide : List Nat} (S : CompS X.N X.env.scope scope hide) {fp : List Addr} {C D : Addr} {h4 : Heap} {tk : Nat} {ob : Obj} {m : Str → Option Value} (I : Inv X pins σ H s) (hf : ∀ b ∈ fp, FpOk X pins H b) (hfo : ∀ b ∈ fp, ∃ o, s.heap.get? b = some o)
    (hC : s.heap.objs.size ≤ C) (hD : s.heap.objs.size ≤ D) (hDC : D ≠ C) (k : ∀ b u, s.heap.get? b = some u → h4.get? b = some u) (hn : h4.Ns C m) (hDo : h4.get? D = some ob) (hob : ∀ v, ob.data ≠ .cell v) :
    Inv (cCx X scope s H fp pins C) [(D, ob)] (hideS hide σ) H { s with heap := h4, toks := tk } := by
  have ok := cOk S I hf hfo hC
  have hfr : ∀ y ∈ scope.names, y.2 = .free → ∃ c, X.env.cells.lookup y.1 = some c := fun y hy e => I.ok.has y.1 (S.free y hy e)
  have sub : ∀ x c, (clOf X.env.cells scope.names []).lookup x = some c → X.env.cells.lookup x = some c := fun x c e => clOf_sub hfr (fun _ z => absurd z List.not_mem_nil) (x, c) (lk_mem e)
  have ck : ∀ c v, s.heap.IsCell c v → h4.IsCell c v := fun c v ⟨o, ho, hd⟩ => ⟨o, k c o ho, hd⟩
  refine ⟨ok, rfl, I.bare, Un.kept k, ⟨m, hn, fun i x v e1 e2 e3 => ?_⟩, fun x c e => ?_, I.hok.fresh hC, fun x c e => I.freeC x c (sub x c e), fun p hp => ?_, I.hok.kept k, hideS_len.trans I.len⟩
  · obtain ⟨n1, n2⟩ := hideS_get e2
    have e3' : ((scope.names.lookup x).map (reK X.env x) = some .local) ∨ ((scope.names.lookup x).map (reK X.env x) = some .cell) ∨ ((scope.names.lookup x).map (reK X.env x) = some .free) := by
      rw [← lk_re]
      exact e3
    cases q : scope.names.lookup x with
    | none => rw [q] at e3'; rcases e3' with z | z | z <;> cases z
    | some kd =>
      rw [q] at e3'
      have e4 : reK X.env x kd = .local ∨ reK X.env x kd = .cell ∨ reK X.env x kd = .free := e3'.imp Option.some.inj fun z => z.imp Option.some.inj Option.some.inj
      have mem := lk_mem q
      by_cases kl : kd = .local
      · subst kl
        have hi : X.N[i]? = some x := e1
        obtain ⟨hlt, hge⟩ := List.getElem?_eq_some_iff.mp hi
        refine absurd (S.own i hlt ?_) n1
        rw [List.getD_eq_getElem?_getD, hi]
        exact q
      · have kf : kd = .free := by
          unfold reK at e4
          by_cases c : (kd == NameKind.free && X.env.scope.kind == .function && X.env.kindOf x == some .cell) = true
          · simp only [Bool.and_eq_true, beq_iff_eq] at c
            exact c.1.1
          · rw [if_neg c] at e4
            rcases e4 with z | z | z
            · exact absurd z kl
            · exact absurd z (S.nocell _ mem)
            · exact z
        subst kf
        have kx := S.free _ mem rfl
        obtain ⟨m0, _, hl⟩ := I.loc
        obtain ⟨u, r, l⟩ := hl i x v e1 n2 (.inr kx)
        refine ⟨u, r, ?_⟩
        rcases l with ⟨z, _⟩ | ⟨_, c, e, z⟩
        · have z' : X.env.scope.names.lookup x = some .local := z
          rw [z'] at kx
          rcases kx with w | w <;> cases w
        · obtain ⟨c', hc'⟩ := clOf_has (cells := X.env.cells) (acc := []) mem
          obtain ⟨c2, hc2⟩ := lk_has hc'
          have ec : c2 = c := Option.some.inj ((sub x c2 hc2).symm.trans e)
          subst ec
          refine .inr ⟨?_, c2, hc2, ck c2 _ z⟩
          have e5 : ((relabel scope X.env).names.lookup x) = some (reK X.env x .free) := by
            show (List.map _ scope.names).lookup x = _
            rw [lk_re, q]
            rfl
          rcases e4 with w | w | w
          · unfold reK at w
            split at w <;> cases w
          · exact .inl (e5.trans (by rw [w]))
          · exact .inr (e5.trans (by rw [w]))
  · obtain ⟨v, z⟩ := I.cell x c (sub x c e)
    exact ⟨v, ck c v z⟩
  · rcases List.mem_append.mp hp with z | z
    · obtain ⟨e, n, ne, nf, d⟩ := I.pin p z
      refine ⟨k _ _ e, n, Nat.ne_of_lt (Nat.lt_of_lt_of_le (Heap.lt_size e) hC), fun y => ?_, d⟩
      rcases List.mem_cons.mp (I.stkSub _ y) with q | q
      · exact ne q
      · exact nf q
    · have e : p = (D, ob) := by simpa using z
      subst e
      exact ⟨hDo, I.hok.fresh hD, hDC, I_stk I hD, hob⟩

/-- the block is left: its list is tracked now -/
theorem cOut {scope : Scope} {fp : List Addr} {C D : Addr} {n : Nat} {its : List Value} {ys : List V} {pins' : List (Addr × Obj)} {τ : St} {H' : Hp} {s' : Shared} (I : Inv X pins σ H s) (hf : ∀ b ∈ fp, FpOk X pins H b)
    (hD : s.heap.objs.size ≤ D) (J : Inv (cCx X scope s H fp pins C) pins' τ H' s') (hp : (D, ({ cls := .type "list", data := .seq its.toArray n } : Obj)) ∈ pins') (hv : Vals ys its) (hz : ys.length ≤ sizeLine) :
    Inv X pins σ (upd H' D (.lst ys)) s' := by
  obtain ⟨eD, nD, _⟩ := J.pin _ (List.mem_append_right _ hp)
  have u : Un (frs X.stack) fp H H' s.heap s'.heap := J.base
  have ne : ∀ b o, s.heap.get? b = some o → b ≠ D := fun b o e => Nat.ne_of_lt (Nat.lt_of_lt_of_le (Heap.lt_size e) hD)
  have u' : Un (frs X.stack) fp H (upd H' D (.lst ys)) s.heap s'.heap := by
    refine ⟨u.keep, u.slot, fun b o e q hx => ?_, u.there, fun b xs e => ?_, fun b o v e => ?_, fun b ps e => ?_⟩
    · rw [upd_ne (ne b o e)]
      exact u.free b o e q hx
    · have q := u.tups b xs e
      rw [upd_ne (ne_of_none q nD)]
      exact q
    · have q := u.frzs b o v e
      rw [upd_ne (ne_of_none q nD)]
      exact q
    · obtain ⟨more, q⟩ := u.tbls b ps e
      refine ⟨more, ?_⟩
      rw [upd_ne (ne_of_none q nD)]
      exact q
  have hok : HOk X.prog X.w (upd H' D (.lst ys)) s'.heap := fun b o e => by
    by_cases hb : b = D
    · subst hb
      rw [upd_same] at e
      cases e
      exact ⟨hz, its, n, hv, eD⟩
    · rw [upd_ne hb] at e
      exact (J.hok b o e).stay (fun _ _ _ q => q) (fun c q => by rw [upd_ne (ne_of_none q nD)]; exact q) fun c xs q => by rw [upd_ne (ne_of_none q nD)]; exact q
  refine I.call' (show s'.os = s.os from J.os) u' hok J.bare fun b hb => ?_
  obtain ⟨f0, f1, f2, f3, f4, f5⟩ := hf b hb
  exact ⟨f3, f1, f4, f5⟩
end

abbrev lObj (its : List Value) (n : Nat) : Obj := { cls := .type "list", data := .seq its.toArray n }
/-- the tests of a clause -/
def PTs (X : Cx) (ifs : List Expr) (t : TT) : Prop :=
  ∀ (pins : List (Addr × Obj)) (s : Shared) (σ : St) (H : Hp) (Q : Bool → Hp → Prop), Inv X pins σ H s → t σ H Q →
    wpAny (model X.prog X.w) X.A (forIn ifs true fun c r => if r = true then do let ok ← isTrue c X.env (eval c X.env); pure (ForInStep.yield ok) else pure (ForInStep.yield r)) (TP X pins σ Q) X.xe s
def tYes : TT := fun _ H Q => Q true H
theorem pts_nil {X : Cx} : PTs X [] tYes := fun _ _ _ H _ I h => wpAny_tests_nil ⟨H, I, h⟩
theorem pts_one {X : Cx} {c : Expr} {t : TT} (hc : PT X c t) : PTs X [c] t := fun pins s σ H Q I h => wpAny_tests_one (hc pins s σ H Q I h)

theorem cLoop {Y : Cx} {tg iter elt : Expr} {ifs : List Expr} {scope : Scope} {pos : Pos} {g : TG} {te : TE} {tt : TT} {J : It} {fp : List Addr} {it D : Addr} {tn : Nat → Heap → Prop} {R : Result → Shared → Prop}
    {W : Nat → Nat → St → List V → Hp → Prop} {Z : List V → Hp → Prop} {s : Shared} {σ : St} {H : Hp} {m n0 : Nat}
    (T : Turn Y.prog Y.w Y.K tg J fp it tn) (hc : Y.calm = true) (hg : PG Y tg g) (ht : PTs Y ifs tt) (he : PE Y elt te) (hx : ∀ e s, Y.xe e s → False)
    (stat : ∀ ob H', (∀ b ∈ fp, H' b = none) → ∀ b ∈ fp, FpOk Y [(D, ob)] H' b) (hDs : Y.s₀.heap.objs.size ≤ D) (hDc : ∀ x c, Y.env.cells.lookup x = some c → c ≠ D) (hDp : ∀ p ∈ Y.pn, p.1 ≠ D)
    (turn : ∀ k m τ ys H, W k m τ ys H → (J.stop k H ∧ Z ys H) ∨ (J.go k H ∧ ys.length < sizeLine ∧ ∀ x H', J.yld k H x H' → g x τ H' fun τ2 H2 => tt τ2 H2 fun b H3 =>
      if b = true then te τ2 H3 fun v H4 => ∃ m', m' < m ∧ W (k + 1) m' τ2 (ys ++ [v]) H4 else ∃ m', m' < m ∧ W (k + 1) m' τ2 ys H3))
    (out : ∀ (τ : St) (H' : Hp) (s' : Shared) (ys : List V) (its : List Value) (n : Nat), Inv Y [(D, lObj its n)] τ H' s' → Vals ys its → ys.length ≤ sizeLine → Z ys H' → R (.ok .next) s')
    (I : Inv Y [(D, lObj [] n0)] σ H s) (st : tn 0 s.heap) (fr : ∀ b ∈ fp, H b = none) (w0 : W 0 m σ [] H) :
    codeAny (model Y.prog Y.w) Y.A (.compLoop (.ListComp elt [⟨tg, iter, ifs, 0⟩] scope pos) 0 (.ref it) (.ref D) Y.env) R s := by
  refine codeAny_loop rfl (fun m s' => ∃ k τ H' ys its n, Inv Y [(D, lObj its n)] τ H' s' ∧ tn k s'.heap ∧ (∀ b ∈ fp, H' b = none) ∧ Vals ys its ∧ ys.length ≤ sizeLine ∧ W k m τ ys H') (fun m1 s1 h1 => ?_) m ⟨0, σ, H, [], [], n0, I, st, fr, .nil, Nat.zero_le _, w0⟩
  obtain ⟨k, τ, H1, ys, its, n, I1, st1, fr1, rv, hz, w1⟩ := h1
  have no : ∀ {E : Value → Shared → Prop} {α : Type} {c : Sem α} {Q : α → Shared → Prop} {s : Shared}, wpAny (model Y.prog Y.w) Y.A c Q Y.xe s → wpAny (model Y.prog Y.w) Y.A c Q E s := fun {E α c Q s} h => wpAny_mono h (fun _ _ q => q) fun e s' q => (hx e s' q).elim
  show wpAny _ Y.A ((compTurn (.ListComp elt [⟨tg, iter, ifs, 0⟩] scope pos) 0 (.ref it) (.ref D) Y.env).onRaise _) _ _ s1
  refine wpAny_noted ?_
  rw [compTurn_list]
  refine wpAny_bind (wpAny_standAt (wpAny_bind ?_))
  rcases turn k m1 τ ys H1 w1 with ⟨stop, z⟩ | ⟨go, hlt, step⟩
  · refine thn (T.done Y rfl rfl rfl hc k _ s1 τ H1 _ I1 (stat _ _ fr1) st1 stop) fun r s2 ⟨hr, I2⟩ => ?_
    subst hr
    exact wpAny_pure (out τ H1 s2 ys its n I2 rv hz z)
  · refine thn (T.item Y rfl rfl rfl hc k _ s1 τ H1 _ I1 (stat _ _ fr1) st1 go) fun r s2 ⟨u, hr, h2⟩ => ?_
    subst hr
    refine wpAny_bind (thn h2 fun _ s3 ⟨x, H3, I3, r3, y3, st3, fr3⟩ => ?_)
    have I3' := I3.pinned (stat _ _ fr3) (T.obj _ _ st3)
    refine wpAny_bind (no (thn (hg _ s3 τ H3 x u _ I3' r3 (step x H3 y3)) fun _ s4 ⟨τ4, H4, I4, q4⟩ => ?_))
    refine wpAny_bind (no (thn (ht _ s4 τ4 H4 _ I4 q4) fun ok s5 ⟨H5, I5, q5⟩ => ?_))
    have frs5 : ∀ {H' : Hp} {s' : Shared} {τ' : St}, Inv Y ([(D, lObj its n)] ++ pinsAt fp s3.heap) τ' H' s' → tn (k + 1) s'.heap ∧ ∀ b ∈ fp, H' b = none := fun {H' s' τ'} I' => by
      refine ⟨T.keep _ _ _ st3 fun b hb o e => (I'.pin (b, o) (List.mem_append_right _ (List.mem_append_right _ (mem_pinsAt hb e)))).1, fun b hb => ?_⟩
      obtain ⟨o, e, d⟩ := T.obj _ _ st3 b hb
      exact (I'.pin (b, o) (List.mem_append_right _ (List.mem_append_right _ (mem_pinsAt hb e)))).2.1
    cases ok with
    | false =>
      have q5' : ∃ m', m' < m1 ∧ W (k + 1) m' τ4 ys H5 := q5
      obtain ⟨m', hm, w5⟩ := q5'
      obtain ⟨a1, a2⟩ := frs5 I5
      exact wpAny_pure ⟨rfl, m', hm, k + 1, τ4, H5, ys, its, n, I5.unpinned, a1, a2, rv, hz, w5⟩
    | true =>
      have q5' : te τ4 H5 fun v H4 => ∃ m', m' < m1 ∧ W (k + 1) m' τ4 (ys ++ [v]) H4 := q5
      refine wpAny_bind (wpAny_bind (no (thn (he _ s5 τ4 H5 _ I5 q5') fun v s6 ⟨y, H6, I6, r6, m', hm, w6⟩ => ?_)))
      obtain ⟨a1, a2⟩ := frs5 I6
      have I7 := I6.unpinned
      obtain ⟨eD, nD, neD, nfD, _⟩ := I7.pin (D, lObj its n) (List.mem_append_right _ List.mem_cons_self)
      have hlen := rv.length
      have eD' : s6.heap.get? D = some { cls := .type "list", data := .seq its.toArray n } := eD
      refine wpAny_bind (call_meets F.slot_list_append ⟨_, eD', rfl⟩ F.entry_list_append (F.args_list_append_2 _ _) (PySem.list_append D its.toArray n v (by rw [List.size_toArray]; (first | lia | omega))) ⟨eD', ?_⟩)
      have qD := PySem.IsL.update eD' (·.push v)
      have I8 : Inv Y [] τ4 H6 s6 := I7.pins_of fun p hp => absurd hp List.not_mem_nil
      have I9 : Inv Y [] τ4 H6 { s6 with heap := s6.heap.update D (Obj.mapSeq (·.push v)) } := I8.turned (t' := s6.toks) (fun b o hb e => (Heap.get?_update_other s6.heap (Obj.mapSeq (·.push v)) (Ne.symm hb)).trans e) nD neD (.inr hDs) hDc fun p hp => hDp p (by simpa using hp)
      have ep : its.toArray.push v = (its ++ [v]).toArray := by simp
      rw [ep] at qD
      obtain ⟨n2, qD⟩ : ∃ n2, (s6.heap.update D (Obj.mapSeq (·.push v))).get? D = some (lObj (its ++ [v]) n2) := ⟨_, qD⟩
      have I10 : Inv Y [(D, lObj (its ++ [v]) n2)] τ4 H6 { s6 with heap := s6.heap.update D (Obj.mapSeq (·.push v)) } := I9.pins_of fun p hp => by
        have e : p = (D, lObj (its ++ [v]) n2) := by simpa using hp
        subst e
        exact ⟨qD, nD, neD, nfD, fun v z => by have z' : Data.seq _ _ = Data.cell v := z; cases z'⟩
      refine wpAny_pure (wpAny_pure ⟨rfl, m', hm, k + 1, τ4, H6, ys ++ [y], its ++ [v], _, I10, ?_, a2, rv.append (.cons r6 .nil), ?_, w6⟩)
      · refine T.keep _ _ _ a1 fun b hb o e => (Heap.get?_update_other s6.heap (Obj.mapSeq (·.push v)) ?_).trans e
        have f5 := (stat (lObj its n) H6 a2 b hb).2.2.2.2.2
        exact f5 (D, lObj its n) (List.mem_append_right _ List.mem_cons_self)
      · rw [List.length_append, List.length_singleton]
        (first | lia | omega)

theorem closure_of {scope : Scope} {env : Env} (h : ∀ y ∈ scope.names, y.2 = .free → ∃ c, env.cells.lookup y.1 = some c) : closureFor scope env = pure (clOf env.cells scope.names []) := by
  have q := closure_is (env := env) (acc := []) h
  unfold closureFor
  show (forIn scope.names [] _ >>= fun r => pure r) = _
  refine Eq.trans (congrArg (· >>= fun r => pure r) (Eq.trans ?_ q)) (by simp)
  refine congrArg (forIn scope.names []) ?_
  funext x r
  obtain ⟨n, k⟩ := x
  first
    | rfl
    | (dsimp only; split <;> simp)

def CompR (J : It) (g : TG) (tt : TT) (te : TE) (σ : St) (Q : VK) (H1 : Hp) : Prop := ∃ W : Nat → Nat → St → List V → Hp → Prop, (∃ m, W 0 m σ [] H1) ∧
  ∀ k m τ ys H, W k m τ ys H → (J.stop k H ∧ ∀ D, H D = none → Q (.ref D) (upd H D (.lst ys))) ∨ (J.go k H ∧ ys.length < sizeLine ∧ ∀ x H', J.yld k H x H' → g x τ H' fun τ2 H2 => tt τ2 H2 fun b H3 =>
      if b = true then te τ2 H3 fun v H4 => ∃ m', m' < m ∧ W (k + 1) m' τ2 (ys ++ [v]) H4 else ∃ m', m' < m ∧ W (k + 1) m' τ2 ys H3)
def tComp (wi : TI) (hide : List Nat) (g : TG) (tt : TT) (te : TE) : TE := fun σ H Q => wi σ H fun J H1 => CompR J g tt te (hideS hide σ) Q H1

theorem cBlock {X : Cx} {pins : List (Addr × Obj)} {σ : St} {H : Hp} {s : Shared} {elt tg iter : Expr} {ifs : List Expr} {scope : Scope} {pos : Pos} {hide : List Nat} {g : TG} {te : TE} {tt : TT} {J : It} {fp : List Addr} {it : Addr} {tn : Nat → Heap → Prop} {RR : Value → Addr → Result → Shared → Prop} {Q : VK} {E : Value → Shared → Prop}
    (hc : X.calm = true) (S : CompS X.N X.env.scope scope hide)
    (hg : ∀ s2 H2 fp pins C, PG (cCx X scope s2 H2 fp pins C) tg g) (ht : ∀ s2 H2 fp pins C, PTs (cCx X scope s2 H2 fp pins C) ifs tt) (he : ∀ s2 H2 fp pins C, PE (cCx X scope s2 H2 fp pins C) elt te)
    (I : Inv X pins σ H s) (T : Turn X.prog X.w X.K tg J fp it tn) (st : tn 0 s.heap) (hf : ∀ b ∈ fp, FpOk X pins H b)
    (h : ∃ W : Nat → Nat → St → List V → Hp → Prop, (∃ m, W 0 m (hideS hide σ) [] H) ∧
      ∀ k m τ ys H, W k m τ ys H → (J.stop k H ∧ ∀ D, H D = none → Q (.ref D) (upd H D (.lst ys))) ∨ (J.go k H ∧ ys.length < sizeLine ∧ ∀ x H', J.yld k H x H' → g x τ H' fun τ2 H2 => tt τ2 H2 fun b H3 =>
        if b = true then te τ2 H3 fun v H4 => ∃ m', m' < m ∧ W (k + 1) m' τ2 (ys ++ [v]) H4 else ∃ m', m' < m ∧ W (k + 1) m' τ2 ys H3))
    (hRR : ∀ D C s' ys H', Inv X pins σ (upd H' D (.lst ys)) s' → FpOk X pins (upd H' D (.lst ys)) C → (∃ m, s'.heap.Ns C m) → Q (.ref D) (upd H' D (.lst ys)) → RR (.ref D) C (.ok .next) s') :
    wpAny (model X.prog X.w) X.A (newList []) (fun acc s3 => wpAny (model X.prog X.w) X.A (newFunctionEnv scope X.env.globals (clOf X.env.cells scope.names []) [] X.env.qual none .none (some X.env)) (fun cenv s4 =>
      codeAny (model X.prog X.w) X.A (.compStart (.ListComp elt [⟨tg, iter, ifs, 0⟩] scope pos) 0 (.ref it) acc { cenv with scope := relabel scope X.env }) (RR acc cenv.locals) s4) E s3) E s := by
  obtain ⟨W, ⟨m0, w0⟩, turn⟩ := h
  refine wpAny_newList (wpAny_newFunctionEnv S.nocell (by intro y hy; simp at hy) (fun h₁ hns₁ hsb₁ => ?_) S.kind) (by simp)
  dsimp only at hns₁ hsb₁ ⊢
  generalize hH2 : s.heap.push { cls := .type "list", data := .seq ([] : List Value).toArray } = H2 at hns₁ hsb₁ ⊢
  have hC : H2.objs.size = s.heap.objs.size + 1 := by rw [← hH2, Heap.size_push]
  have k1 : ∀ b o, s.heap.get? b = some o → h₁.get? b = some o := fun b o e =>
    (hsb₁.2 b (by rw [hC]; exact Nat.ne_of_lt (Nat.lt_succ_of_lt (Heap.lt_size e)))).trans (Heap.get?_push_of_some _ (hH2 ▸ Heap.get?_push_of_some _ e))
  have hDC : s.heap.objs.size ≠ H2.objs.size := by rw [hC]; exact Nat.ne_of_lt (Nat.lt_succ_self _)
  have eD : h₁.get? s.heap.objs.size = some (lObj [] 0) := (hsb₁.2 _ hDC).trans (Heap.get?_push_of_some _ (hH2 ▸ Heap.get?_push_size _ rfl))
  have hfo : ∀ b ∈ fp, ∃ o, s.heap.get? b = some o := fun b hb => let ⟨o, e, _⟩ := T.obj _ _ st b hb; ⟨o, e⟩
  have hle : s.heap.objs.size ≤ H2.objs.size := by rw [hC]; exact Nat.le_succ _
  have I1 := cInv (tk := s.toks + ([] : List (Str × Value)).length) S I hf hfo hle (Nat.le_refl _) hDC k1 hns₁ eD (fun v z => by have z' : Data.seq _ _ = Data.cell v := z; cases z')
  have sub : ∀ x c, (clOf X.env.cells scope.names []).lookup x = some c → X.env.cells.lookup x = some c := fun x c e => clOf_sub (fun y hy e => I.ok.has y.1 (S.free y hy e)) (fun _ z => absurd z List.not_mem_nil) (x, c) (lk_mem e)
  have st1 : tn 0 h₁ := T.keep _ _ _ st fun b _ o e => k1 b o e
  have lp : codeAny (model X.prog X.w) X.A (.compLoop (.ListComp elt [⟨tg, iter, ifs, 0⟩] scope pos) 0 (.ref it) (.ref s.heap.objs.size) (compEnvC scope (clOf X.env.cells scope.names []) H2.objs.size X.env)) (RR (.ref s.heap.objs.size) H2.objs.size)
      { s with heap := h₁, toks := s.toks + ([] : List (Str × Value)).length } := by
    refine cLoop (Y := cCx X scope s H fp pins H2.objs.size) (Z := fun ys H => ∀ D, H D = none → Q (.ref D) (upd H D (.lst ys))) T hc (hg _ _ _ _ _) (ht _ _ _ _ _) (he _ _ _ _ _) (fun _ _ z => z) (fun ob H' hn b hb => ?_) (Nat.le_refl _) (fun x c e z => ?_) (fun p hp z => ?_) turn (fun τ H' s' ys its n J rv hz q => ?_) I1 st1 (fun b hb => (hf b hb).1) w0
    · obtain ⟨f0, f1, f2, f3, f4, f5⟩ := hf b hb
      obtain ⟨o, e⟩ := hfo b hb
      have lb := Heap.lt_size e
      refine ⟨hn b hb, Nat.ne_of_lt (Nat.lt_of_lt_of_le lb hle), fun z => ?_, .inl hb, fun x c e => f4 x c (sub x c e), fun p hp => ?_⟩
      · rcases List.mem_cons.mp (I.stkSub b z) with q | q
        · exact f1 q
        · exact f2 q
      · rcases List.mem_append.mp hp with z | z
        · exact f5 p z
        · have e : p = (s.heap.objs.size, ob) := by simpa using z
          subst e
          exact Nat.ne_of_gt lb
    · obtain ⟨v, o, ho, _⟩ := I.cell x c (sub x c e)
      exact absurd (Heap.lt_size ho) (by rw [z]; exact Nat.lt_irrefl _)
    · exact absurd (Heap.lt_size (I.pin p hp).1) (by rw [z]; exact Nat.lt_irrefl _)
    · obtain ⟨_, nD, _⟩ := J.pin _ (List.mem_append_right _ List.mem_cons_self)
      have nC : H' H2.objs.size = none := J.free
      refine hRR _ _ s' ys H' (cOut I hf (Nat.le_refl _) J List.mem_cons_self rv hz) (I.fpOk hle ?_) ?_ (q _ nD)
      · rw [upd_ne (Ne.symm hDC)]
        exact nC
      · obtain ⟨m, hm, _⟩ := J.loc
        exact ⟨m, hm⟩
  exact codeAny_compStart_list lp (T.self X.A 0 _ _ _ st1 lp)

section
variable {X : Cx} {elt tg iter : Expr} {ifs : List Expr} {scope : Scope} {pos : Pos} {hide : List Nat} {wi : TI} {g : TG} {te : TE} {tt : TT}
theorem pe_comp (hc : X.calm = true) (S : CompS X.N X.env.scope scope hide) (hi : PI X tg iter wi)
    (hg : ∀ s2 H2 fp pins C, PG (cCx X scope s2 H2 fp pins C) tg g) (ht : ∀ s2 H2 fp pins C, PTs (cCx X scope s2 H2 fp pins C) ifs tt) (he : ∀ s2 H2 fp pins C, PE (cCx X scope s2 H2 fp pins C) elt te)
    (hs : ∀ x, foldedSetIterable iter X.env x = pure x := by intro _; rfl) : PE X (.ListComp elt [⟨tg, iter, ifs, 0⟩] scope pos) (tComp wi hide g tt te) := by
  intro pins s σ H Q I h
  rw [eval_ListComp]
  refine wpAny_comprehension_free (use := none) rfl hs (closure_of fun y hy e => I.ok.has y.1 (S.free y hy e)) S.kind S.loc (thn (hi pins s σ H _ I h) fun v s1 h1 => thn h1 fun itv s2 h2 => ?_)
  obtain ⟨it, fp, tn, J, H2, e, I2, T, st2, f2, q2⟩ := h2
  subst e
  refine cBlock (RR := fun acc C => compPost (model X.prog X.w) X.A X.xe none (EP X pins σ Q) acc C) hc S hg ht he I2 T st2 f2 q2 fun D C s' ys H' I' fC hN q => ?_
  obtain ⟨m, hm⟩ := hN
  obtain ⟨f0, f1, f2, f3, f4, f5⟩ := fC
  refine ⟨m, hm, fun h' sb => ⟨.ref D, _, ?_, rfl, q⟩⟩
  exact I'.turned (t' := s'.toks) (fun b o hb e => (sb.2 b hb).trans e) f0 f1 f3 f4 f5
/-- y = [.. for ..], on one row -/
theorem ps_setC {i : Nat} {y : Str} {py spos : Pos} (hc : X.calm = true) (hN : X.N.Nodup) (hy : X.N[i]? = some y) (hl : Loc X.env.scope y) (S : CompS X.N X.env.scope scope hide) (hi : PI X tg iter wi)
    (hg : ∀ s2 H2 fp pins C, PG (cCx X scope s2 H2 fp pins C) tg g) (ht : ∀ s2 H2 fp pins C, PTs (cCx X scope s2 H2 fp pins C) ifs tt) (he : ∀ s2 H2 fp pins C, PE (cCx X scope s2 H2 fp pins C) elt te)
    (hs : ∀ x, foldedSetIterable iter X.env x = pure x := by intro _; rfl)
    (hsw : swapsWith (.ListComp elt [⟨tg, iter, ifs, 0⟩] scope pos) (some (.Name y py)) spos.line X.env = pure true := by rfl)
    (hf : X.fn y = true ∨ X.env.scope.names.lookup y = some .local := by first | exact .inl rfl | exact .inr rfl | assumption) :
    PS X (.Assign [.Name y py] (.ListComp elt [⟨tg, iter, ifs, 0⟩] scope pos) spos) (fun D σ H => tComp wi hide g tt te σ H fun v H1 => D.nx (σ.set i (some v)) H1) := by
  intro pins s σ H D I h
  rw [exec_Assign_Name_used _ _ _ _ hsw]
  refine wpAny_bind (wpAny_standAt (wpAny_bind ?_))
  show wpAny _ X.A (do let _ ← comprehension (.ListComp elt [⟨tg, iter, ifs, 0⟩] scope pos) scope X.env _ (newList []) false (eval iter X.env) (some (assign (.Name y py) X.env))) _ _ s
  refine wpAny_bind (thn (wpAny_comprehension_free (use := some (assign (.Name y py) X.env)) (Q := fun _ s' => SP X pins D .next s') rfl hs (closure_of fun y hy e => I.ok.has y.1 (S.free y hy e)) S.kind S.loc
    (thn (hi pins s σ H _ I h) fun v s1 h1 => thn h1 fun itv s2 h2 => ?_)) (fun _ s' hq => wpAny_pure (wpAny_pure hq)))
  obtain ⟨it, fp, tn, J, H2, e, I2, T, st2, f2, q2⟩ := h2
  subst e
  refine cBlock (Q := fun v H1 => D.nx (σ.set i (some v)) H1) (RR := fun acc C => compPost (model X.prog X.w) X.A X.xe (some (assign (.Name y py) X.env)) (fun _ s' => SP X pins D .next s') acc C) hc S hg ht he I2 T st2 f2 q2 fun A C s' ys H' I' fC hNs q => ?_
  obtain ⟨m, hm⟩ := hNs
  obtain ⟨f0, f1, f2, f3, f4, f5⟩ := fC
  show wpAny _ X.A (assign (.Name y py) X.env (.ref A)) _ _ s'
  refine wpAny_assign_Name (store_ok2 I' hN hy hl (v := .ref A) rfl (fun s'' I'' hch => ?_) hf)
  obtain ⟨a, sb, ha⟩ := hch
  have nC : C ≠ a := by
    rcases ha with z | z
    · rw [z]; exact f1
    · exact Ne.symm (f4 _ _ z)
  refine ⟨m, hm.sameBut sb nC, fun h3 sb3 => ⟨_, _, ?_, q⟩⟩
  exact I''.turned (t' := s''.toks) (fun b o hb e => (sb3.2 b hb).trans e) f0 f1 f3 f4 f5
end
end L2

/-! Great ints, deep data, ==, !=, all, any, isinstance over the layer. -/
namespace L2
open PySem PySem.Spec PyProof.Rows

/-! ### great ints -/
def Lt2 (n : Nat) (i : Int) : Prop := i.natAbs < 2 ^ n
theorem Lt2.mono {n m : Nat} {i : Int} (h : Lt2 n i) (l : n ≤ m) : Lt2 m i := Nat.lt_of_lt_of_le h (Nat.pow_le_pow_right (by decide) l)
theorem Lt2.mul {n m : Nat} {i j : Int} (h : Lt2 n i) (l : Lt2 m j) : Lt2 (n + m) (i * j) := by
  unfold Lt2
  rw [Int.natAbs_mul, Nat.pow_add]
  exact Nat.mul_lt_mul'' h l
theorem Lt2.add {n : Nat} {i j : Int} (h : Lt2 n i) (l : Lt2 n j) : Lt2 (n + 1) (i + j) := by
  unfold Lt2 at *
  rw [Nat.pow_succ]
  (first | lia | omega)
theorem Lt2.sub {n : Nat} {i j : Int} (h : Lt2 n i) (l : Lt2 n j) : Lt2 (n + 1) (i - j) := by
  unfold Lt2 at *
  rw [Nat.pow_succ]
  (first | lia | omega)
theorem Lt2.neg {n : Nat} {i : Int} (h : Lt2 n i) : Lt2 n (-i) := by
  unfold Lt2 at *
  rw [Int.natAbs_neg]
  exact h
theorem Lt2.of {n : Nat} {i : Int} (b : Nat) (h : i.natAbs ≤ b) (l : b < 2 ^ n) : Lt2 n i := Nat.lt_of_le_of_lt h l
theorem Lt2.le {n : Nat} {i j : Int} (h : Lt2 n i) (l : j.natAbs ≤ i.natAbs) : Lt2 n j := Nat.lt_of_le_of_lt l h
def CMulB (i j : Int) : Prop := ∃ n m, Lt2 n i ∧ Lt2 m j ∧ n + m ≤ 100000000
theorem CMulB.ok {i j : Int} (h : CMulB i j) : IntMulOk i j := by
  obtain ⟨n, m, h1, h2, h3⟩ := h
  have a := PyProof.Rows.intBits_le h1
  have b := PyProof.Rows.intBits_le h2
  unfold IntMulOk
  intro z
  simp only [Bool.and_eq_true, decide_eq_true_eq] at z
  have z2 : ((Builtin.Int.intBits i : Int) + (Builtin.Int.intBits j : Int)) > ((2 ^ 27 : Nat) : Int) := of_decide_eq_true z.2
  have e : (2 ^ 27 : Nat) = 134217728 := by decide
  rw [e] at z2
  (first | lia | omega)
def CDivB (i j : Int) : Prop := j ≠ 0 ∧ ∃ n, Lt2 n j ∧ n ≤ 9000
theorem CDivB.ok {i j : Int} (h : CDivB i j) : Builtin.divisionGoesByPylong i j = false := by
  obtain ⟨h0, n, h1, h2⟩ := h
  refine PyProof.noPylong_of_log2 ?_
  have : j.natAbs ≠ 0 := by first | lia | omega
  exact Nat.lt_of_lt_of_le ((Nat.log2_lt this).mpr h1) h2
section
variable {X : Cx}
theorem op_mulB : OpR X (binaryOp .Mult) (rI CMulB fun i j => .int (i * j)) := opI fun _ _ _ _ _ _ _ hc q => mul_int q hc.ok
theorem op_fdivB : OpR X (binaryOp .FloorDiv) (rI CDivB fun i j => .int (i.fdiv j)) := opI fun _ _ _ _ _ _ _ hc q => floordiv_int hc.1 q (.inl hc.ok)
theorem iop_mulB : OpR X (inplaceOp .Mult) (rI CMulB fun i j => .int (i * j)) := opI fun _ _ _ _ _ _ _ hc q => imul_int q hc.ok
end

/-! ### deep data -/
inductive DV where
  | int (i : Int) | str (x : Str) | non | bl (b : Bool) | tup (xs : List DV) | lst (xs : List DV)
mutual
def Rep (K : PySem.W.Frag) (H : Hp) : DV → V → Prop
  | .int i, v => v = .int i
  | .str x, v => v = .str x
  | .non, v => v = .non
  | .bl b, v => v = .bl b
  | .tup ds, v => ∃ a vs, v = .ref a ∧ SqT K H a vs ∧ Reps K H ds vs
  | .lst ds, v => ∃ a vs, v = .ref a ∧ SqL K H a vs ∧ Reps K H ds vs
def Reps (K : PySem.W.Frag) (H : Hp) : List DV → List V → Prop
  | [], vs => vs = []
  | d :: ds, vs => ∃ v r, vs = v :: r ∧ Rep K H d v ∧ Reps K H ds r
end
mutual
/-- no truth within -/
def DV.pl : DV → Bool
  | .int _ => true | .str _ => true | .non => true | .bl _ => false
  | .tup ds => DV.pls ds
  | .lst ds => DV.pls ds
def DV.pls : List DV → Bool
  | [] => true
  | d :: ds => DV.pl d && DV.pls ds
end
mutual
def DV.dp : DV → Nat
  | .tup ds => DV.dps ds + 1
  | .lst ds => DV.dps ds + 1
  | _ => 0
def DV.dps : List DV → Nat
  | [] => 0
  | d :: ds => max (DV.dp d) (DV.dps ds)
end
theorem SqT.same {K : PySem.W.Frag} {H H' : Hp} {a : Addr} {xs : List V} (e : Same H H') (h : SqT K H a xs) : SqT K H' a xs := by
  rcases h with (h | ⟨o, h⟩) | h
  · exact .inl (.inl (e _ _ h))
  · exact .inl (.inr ⟨o, e _ _ h⟩)
  · exact .inr h
theorem Reps.length {K : PySem.W.Frag} {H : Hp} : ∀ {ds : List DV} {vs : List V}, Reps K H ds vs → ds.length = vs.length
  | [], vs, h => by
    have h' : vs = [] := by unfold Reps at h; exact h
    rw [h']
    rfl
  | d :: ds, vs, h => by
    unfold Reps at h
    obtain ⟨v, r, e, _, h'⟩ := h
    rw [e, List.length_cons, List.length_cons, Reps.length h']
mutual
theorem Rep.same {K : PySem.W.Frag} {H H' : Hp} (e : Same H H') : ∀ {d : DV} {v : V}, Rep K H d v → Rep K H' d v
  | .int i, v, h => by unfold Rep at *; exact h
  | .str i, v, h => by unfold Rep at *; exact h
  | .non, v, h => by unfold Rep at *; exact h
  | .bl i, v, h => by unfold Rep at *; exact h
  | .tup ds, v, h => by
    unfold Rep at *
    obtain ⟨a, vs, h1, h2, h3⟩ := h
    exact ⟨a, vs, h1, h2.same e, Reps.same e h3⟩
  | .lst ds, v, h => by
    unfold Rep at *
    obtain ⟨a, vs, h1, h2, h3⟩ := h
    exact ⟨a, vs, h1, e.seq h2, Reps.same e h3⟩
theorem Reps.same {K : PySem.W.Frag} {H H' : Hp} (e : Same H H') : ∀ {ds : List DV} {vs : List V}, Reps K H ds vs → Reps K H' ds vs
  | [], v, h => by unfold Reps at *; exact h
  | d :: ds, vs, h => by
    unfold Reps at *
    obtain ⟨v, r, h1, h2, h3⟩ := h
    exact ⟨v, r, h1, Rep.same e h2, Reps.same e h3⟩
end
section
variable {X : Cx} {pins : List (Addr × Obj)} {σ : St} {H : Hp} {s : Shared}
mutual
theorem Rep.inj (I : Inv X pins σ H s) : ∀ {d d' : DV} {v : V}, Rep X.K H d v → Rep X.K H d' v → d = d'
  | .int i, d', v, h, h' => by
    unfold Rep at h
    subst h
    cases d' <;> unfold Rep at h' <;> first | (cases h'; done) | (cases h'; rfl) | (obtain ⟨_, _, e, _⟩ := h'; cases e)
  | .str i, d', v, h, h' => by
    unfold Rep at h
    subst h
    cases d' <;> unfold Rep at h' <;> first | (cases h'; done) | (cases h'; rfl) | (obtain ⟨_, _, e, _⟩ := h'; cases e)
  | .non, d', v, h, h' => by
    unfold Rep at h
    subst h
    cases d' <;> unfold Rep at h' <;> first | (cases h'; done) | (cases h'; rfl) | rfl | (obtain ⟨_, _, e, _⟩ := h'; cases e)
  | .bl i, d', v, h, h' => by
    unfold Rep at h
    subst h
    cases d' <;> unfold Rep at h' <;> first | (cases h'; done) | (cases h'; rfl) | (obtain ⟨_, _, e, _⟩ := h'; cases e)
  | .tup ds, d', v, h, h' => by
    unfold Rep at h
    obtain ⟨a, vs, rfl, h2, h3⟩ := h
    cases d' with
    | tup ds' =>
      unfold Rep at h'
      obtain ⟨a', vs', e, h2', h3'⟩ := h'
      cases e
      have := I.tuple_inj h2 h2'
      subst this
      rw [Reps.inj I h3 h3']
    | lst ds' =>
      unfold Rep at h'
      obtain ⟨a', vs', e, h2', h3'⟩ := h'
      cases e
      obtain ⟨_, _, p, _⟩ := I.tuple h2
      obtain ⟨_, _, p', _⟩ := I.list h2'
      exact absurd rfl (SeqAt.ne_of_list_tuple p'.isList p)
    | _ => unfold Rep at h'; cases h'
  | .lst ds, d', v, h, h' => by
    unfold Rep at h
    obtain ⟨a, vs, rfl, h2, h3⟩ := h
    cases d' with
    | lst ds' =>
      unfold Rep at h'
      obtain ⟨a', vs', e, h2', h3'⟩ := h'
      cases e
      have := I.list_inj h2 h2'
      subst this
      rw [Reps.inj I h3 h3']
    | tup ds' =>
      unfold Rep at h'
      obtain ⟨a', vs', e, h2', h3'⟩ := h'
      cases e
      obtain ⟨_, _, p, _⟩ := I.tuple h2'
      obtain ⟨_, _, p', _⟩ := I.list h2
      exact absurd rfl (SeqAt.ne_of_list_tuple p'.isList p)
    | _ => unfold Rep at h'; cases h'
theorem Reps.inj (I : Inv X pins σ H s) : ∀ {ds ds' : List DV} {vs : List V}, Reps X.K H ds vs → Reps X.K H ds' vs → ds = ds'
  | [], ds', vs, h, h' => by
    unfold Reps at h
    subst h
    cases ds' with
    | nil => rfl
    | cons d r => unfold Reps at h'; obtain ⟨_, _, e, _⟩ := h'; cases e
  | d :: ds, ds', vs, h, h' => by
    unfold Reps at h
    obtain ⟨v, r, e, h1, h2⟩ := h
    cases ds' with
    | nil => unfold Reps at h'; rw [h'] at e; cases e
    | cons d' r' =>
      unfold Reps at h'
      obtain ⟨v', r2, e', h1', h2'⟩ := h'
      rw [e] at e'
      cases e'
      rw [Rep.inj I h1 h1', Reps.inj I h2 h2']
end
end

/-! ### deep == -/
theorem all_cons {e : Nat → Bool} {n : Nat} : (List.range (n + 1)).all e = (e 0 && (List.range n).all fun j => e (j + 1)) := by
  rw [List.range_succ_eq_map, List.all_cons, List.all_map]
  rfl
theorem min_all {e : Nat → Bool} {n m : Nat} (h : n = m) : ((List.range (min n m)).all e && n == m) = (List.range n).all e := by
  subst h
  rw [Nat.min_self]
  simp
section
variable {X : Cx} {pins : List (Addr × Obj)} {σ : St} {H : Hp} {s : Shared}
mutual
theorem eqD (I : Inv X pins σ H s) : ∀ (d d' : DV) (A : Around) {x y : V} {u v : Value}, Rep X.K H d x → Rep X.K H d' y → RelV x u → RelV y v → d.pl = true → d'.pl = true → A.units + d.dp + 1 < cLine →
    ∃ b, SeqAt.EqAt A s u v b ∧ (b = true ↔ d = d')
  | .bl _, _, _, _, _, _, _, _, _, _, _, p, _, _ => by unfold DV.pl at p; cases p
  | _, .bl _, _, _, _, _, _, _, _, _, _, _, p, _ => by unfold DV.pl at p; cases p
  | .int i, d', A, x, y, u, v, h, h', rx, ry, _, _, hu => by
    have hu : A.units < cLine := by first | lia | omega
    unfold Rep at h
    subst h
    obtain ⟨t, rfl⟩ := rx
    cases d' with
    | bl b => contradiction
    | int j =>
      unfold Rep at h'
      subst h'
      obtain ⟨t', rfl⟩ := ry
      exact ⟨_, SeqAt.EqAt.int_int _ _ _ _, by rw [beq_iff_eq]; exact ⟨fun e => by rw [e], fun e => by cases e; rfl⟩⟩
    | str z =>
      unfold Rep at h'
      subst h'
      obtain ⟨t', rfl⟩ := ry
      exact ⟨_, SeqAt.EqAt.int_str _ _ _ _, by simp⟩
    | non =>
      unfold Rep at h'
      subst h'
      cases ry
      exact ⟨_, SeqAt.EqAt.int_none _ _, by simp⟩
    | tup ds' =>
      unfold Rep at h'
      obtain ⟨a, vs, rfl, h2, _⟩ := h'
      cases ry
      obtain ⟨_, _, p, _⟩ := I.tuple h2
      exact ⟨_, SeqAt.EqAt.int_tuple _ _ p hu, by simp⟩
    | lst ds' =>
      unfold Rep at h'
      obtain ⟨a, vs, rfl, h2, _⟩ := h'
      cases ry
      obtain ⟨_, _, p, _⟩ := I.list h2
      exact ⟨_, SeqAt.EqAt.int_list _ _ p.isList hu, by simp⟩
  | .str i, d', A, x, y, u, v, h, h', rx, ry, _, _, hu => by
    have hu : A.units < cLine := by first | lia | omega
    unfold Rep at h
    subst h
    obtain ⟨t, rfl⟩ := rx
    cases d' with
    | bl b => contradiction
    | int j =>
      unfold Rep at h'
      subst h'
      obtain ⟨t', rfl⟩ := ry
      exact ⟨_, SeqAt.EqAt.str_int _ _ _ _, by simp⟩
    | str z =>
      unfold Rep at h'
      subst h'
      obtain ⟨t', rfl⟩ := ry
      exact ⟨_, SeqAt.EqAt.str_str _ _ _ _, by rw [beq_iff_eq]; exact ⟨fun e => by rw [e], fun e => by cases e; rfl⟩⟩
    | non =>
      unfold Rep at h'
      subst h'
      cases ry
      exact ⟨_, SeqAt.EqAt.str_none _ _, by simp⟩
    | tup ds' =>
      unfold Rep at h'
      obtain ⟨a, vs, rfl, h2, _⟩ := h'
      cases ry
      obtain ⟨_, _, p, _⟩ := I.tuple h2
      exact ⟨_, SeqAt.EqAt.str_tuple _ _ p hu, by simp⟩
    | lst ds' =>
      unfold Rep at h'
      obtain ⟨a, vs, rfl, h2, _⟩ := h'
      cases ry
      obtain ⟨_, _, p, _⟩ := I.list h2
      exact ⟨_, SeqAt.EqAt.str_list _ _ p.isList hu, by simp⟩
  | .non, d', A, x, y, u, v, h, h', rx, ry, _, _, hu => by
    have hu : A.units < cLine := by first | lia | omega
    unfold Rep at h
    subst h
    cases rx
    cases d' with
    | bl b => contradiction
    | int j =>
      unfold Rep at h'
      subst h'
      obtain ⟨t', rfl⟩ := ry
      exact ⟨_, SeqAt.EqAt.none_int _ _, by simp⟩
    | str z =>
      unfold Rep at h'
      subst h'
      obtain ⟨t', rfl⟩ := ry
      exact ⟨_, SeqAt.EqAt.none_str _ _, by simp⟩
    | non =>
      unfold Rep at h'
      subst h'
      cases ry
      exact ⟨_, SeqAt.EqAt.same _, by simp⟩
    | tup ds' =>
      unfold Rep at h'
      obtain ⟨a, vs, rfl, h2, _⟩ := h'
      cases ry
      obtain ⟨_, _, p, _⟩ := I.tuple h2
      exact ⟨_, SeqAt.EqAt.none_tuple p hu, by simp⟩
    | lst ds' =>
      unfold Rep at h'
      obtain ⟨a, vs, rfl, h2, _⟩ := h'
      cases ry
      obtain ⟨_, _, p, _⟩ := I.list h2
      exact ⟨_, SeqAt.EqAt.none_list p.isList hu, by simp⟩
  | .tup ds, d', A, x, y, u, v, h, h', rx, ry, pp, pp', hu => by
    have hu0 : A.units < cLine := by first | lia | omega
    have hd := h
    unfold Rep at h
    obtain ⟨a, vs, rfl, h2, h3⟩ := h
    cases rx
    obtain ⟨its, rv, p, _⟩ := I.tuple h2
    cases d' with
    | bl b => contradiction
    | int j =>
      unfold Rep at h'
      subst h'
      obtain ⟨t', rfl⟩ := ry
      exact ⟨_, SeqAt.EqAt.tuple_int _ _ p hu0, by simp⟩
    | str z =>
      unfold Rep at h'
      subst h'
      obtain ⟨t', rfl⟩ := ry
      exact ⟨_, SeqAt.EqAt.tuple_str _ _ p hu0, by simp⟩
    | non =>
      unfold Rep at h'
      subst h'
      cases ry
      exact ⟨_, SeqAt.EqAt.tuple_none p hu0, by simp⟩
    | lst ds' =>
      unfold Rep at h'
      obtain ⟨a', vs', rfl, h2', _⟩ := h'
      cases ry
      obtain ⟨_, _, p', _⟩ := I.list h2'
      exact ⟨_, SeqAt.EqAt.tuple_list p p'.isList hu0, by simp⟩
    | tup ds' =>
      have hd' := h'
      unfold Rep at h'
      obtain ⟨a', vs', rfl, h2', h3'⟩ := h'
      cases ry
      obtain ⟨its', rv', p', _⟩ := I.tuple h2'
      by_cases e : a = a'
      · subst e
        exact ⟨true, SeqAt.EqAt.same _, by simp [Rep.inj I hd hd']⟩
      · unfold DV.pl at pp pp'
        unfold DV.dp at hu
        obtain ⟨f, hf, hi⟩ := eqDs I ds ds' A.in1 h3 h3' rv rv' pp pp' (by show A.units + 1 + _ + 1 < _; (first | lia | omega))
        refine ⟨_, SeqAt.EqAt.of_refs e (SeqAt.RcAt.tuples p p' hu0 (e := f) fun j h1 h2 => ?_), ?_⟩
        · have q := hf j (by simpa using h1) (by simpa using h2)
          simpa using q
        · simp only [List.size_toArray, DV.tup.injEq]
          exact hi
  | .lst ds, d', A, x, y, u, v, h, h', rx, ry, pp, pp', hu => by
    have hu0 : A.units < cLine := by first | lia | omega
    have hd := h
    unfold Rep at h
    obtain ⟨a, vs, rfl, h2, h3⟩ := h
    cases rx
    obtain ⟨its, rv, p, _⟩ := I.list h2
    cases d' with
    | bl b => contradiction
    | int j =>
      unfold Rep at h'
      subst h'
      obtain ⟨t', rfl⟩ := ry
      exact ⟨_, SeqAt.EqAt.list_int _ _ p.isList hu0, by simp⟩
    | str z =>
      unfold Rep at h'
      subst h'
      obtain ⟨t', rfl⟩ := ry
      exact ⟨_, SeqAt.EqAt.list_str _ _ p.isList hu0, by simp⟩
    | non =>
      unfold Rep at h'
      subst h'
      cases ry
      exact ⟨_, SeqAt.EqAt.list_none p.isList hu0, by simp⟩
    | tup ds' =>
      unfold Rep at h'
      obtain ⟨a', vs', rfl, h2', _⟩ := h'
      cases ry
      obtain ⟨_, _, p', _⟩ := I.tuple h2'
      exact ⟨_, SeqAt.EqAt.list_tuple p.isList p' hu0, by simp⟩
    | lst ds' =>
      have hd' := h'
      unfold Rep at h'
      obtain ⟨a', vs', rfl, h2', h3'⟩ := h'
      cases ry
      obtain ⟨its', rv', p', _⟩ := I.list h2'
      by_cases e : a = a'
      · subst e
        exact ⟨true, SeqAt.EqAt.same _, by simp [Rep.inj I hd hd']⟩
      · unfold DV.pl at pp pp'
        unfold DV.dp at hu
        obtain ⟨f, hf, hi⟩ := eqDs I ds ds' A.in1 h3 h3' rv rv' pp pp' (by show A.units + 1 + _ + 1 < _; (first | lia | omega))
        by_cases hz : its.length = its'.length
        · refine ⟨_, SeqAt.EqAt.of_refs e (SeqAt.RcAt.lists p.isList p'.isList (by simpa using hz) hu0 (e := f) fun j h1 h2 => ?_), ?_⟩
          · have q := hf j (by simpa using h1) (by simpa using h2)
            simpa using q
          · simp only [List.size_toArray, DV.lst.injEq]
            rw [min_all hz] at hi
            exact hi
        · refine ⟨_, SeqAt.EqAt.of_refs e (SeqAt.RcAt.lists_lengths p.isList p'.isList (by simpa using hz) hu0), ?_⟩
          simp only [Bool.false_eq_true, false_iff, DV.lst.injEq]
          intro z
          have l1 := h3.length
          have l2 := h3'.length
          rw [z] at l1
          exact hz (by rw [← rv.length, ← rv'.length, ← l1, ← l2])
theorem eqDs (I : Inv X pins σ H s) : ∀ (ds ds' : List DV) (A : Around) {xs ys : List V} {us vs : List Value}, Reps X.K H ds xs → Reps X.K H ds' ys → Vals xs us → Vals ys vs → DV.pls ds = true → DV.pls ds' = true → A.units + DV.dps ds + 1 < cLine →
    ∃ e : Nat → Bool, (∀ j (h1 : j < us.length) (h2 : j < vs.length), SeqAt.EqAt A s us[j] vs[j] (e j)) ∧ ((((List.range (min us.length vs.length)).all e && us.length == vs.length) = true) ↔ ds = ds')
  | [], ds', A, xs, ys, us, vs, h, h', rx, ry, _, _, _ => by
    unfold Reps at h
    subst h
    cases rx
    refine ⟨fun _ => true, fun j h1 _ => absurd h1 (by simp), ?_⟩
    cases ds' with
    | nil => unfold Reps at h'; subst h'; cases ry; simp
    | cons d r => unfold Reps at h'; obtain ⟨_, _, rfl, _⟩ := h'; cases ry; simp
  | d :: ds, ds', A, xs, ys, us, vs, h, h', rx, ry, pp, pp', hu => by
    unfold Reps at h
    obtain ⟨x, r, rfl, h1, h2⟩ := h
    cases rx with
    | cons rx rxs =>
      cases ds' with
      | nil =>
        unfold Reps at h'
        subst h'
        cases ry
        exact ⟨fun _ => true, fun j _ h2 => absurd h2 (by simp), by simp⟩
      | cons d' ds' =>
        unfold Reps at h'
        obtain ⟨y, r', rfl, h1', h2'⟩ := h'
        cases ry with
        | cons ry rys =>
          unfold DV.pls at pp pp'
          rw [Bool.and_eq_true] at pp pp'
          unfold DV.dps at hu
          obtain ⟨b, hb, ib⟩ := eqD I d d' A h1 h1' rx ry pp.1 pp'.1 (by first | lia | omega)
          obtain ⟨e, he, ie⟩ := eqDs I ds ds' A h2 h2' rxs rys pp.2 pp'.2 (by first | lia | omega)
          refine ⟨fun j => match j with | 0 => b | j + 1 => e j, fun j => ?_, ?_⟩
          · cases j with
            | zero => exact fun _ _ => hb
            | succ j => exact fun q1 q2 => he j (by simpa using q1) (by simpa using q2)
          · rw [List.length_cons, List.length_cons, Nat.succ_min_succ]
            have q : ∀ n, (List.range (n + 1)).all (fun j => match j with | 0 => b | j + 1 => e j) = (b && (List.range n).all e) := fun n => all_cons
            rw [q]
            have q2 : ∀ n m : Nat, (n + 1 == m + 1) = (n == m) := fun n m => by
              rw [Bool.eq_iff_iff]
              simp
            rw [q2, Bool.and_assoc, Bool.and_eq_true, ib, ie, List.cons.injEq]
end
/-- t == u, t != u of tuples of deep things without truths -/
def rEqT (K : PySem.W.Frag) (A : Around) (neg : Bool) : R2 := fun x y H Q => ∃ ds ds', Rep K H (.tup ds) x ∧ Rep K H (.tup ds') y ∧ DV.pls ds = true ∧ DV.pls ds' = true ∧ A.units + DV.dps ds + 2 < cLine ∧
  ∀ b, (b = true ↔ ds = ds') → Q (.bl (if neg then !b else b)) H
theorem op_eqT : OpR X (compareOp .Eq) (rEqT X.K X.A false) := by
  intro pins s σ H x y u v Q I rx ry h
  obtain ⟨ds, ds', h1, h2, p1, p2, hu, q⟩ := h
  unfold Rep at h1 h2
  obtain ⟨a, vs, rfl, t1, r1⟩ := h1
  obtain ⟨a', vs', rfl, t2, r2⟩ := h2
  cases rx
  cases ry
  obtain ⟨its, rv, p, _⟩ := I.tuple t1
  obtain ⟨its', rv', p', _⟩ := I.tuple t2
  obtain ⟨f, hf, hi⟩ := eqDs I ds ds' X.A.in1 r1 r2 rv rv' p1 p2 (by show X.A.units + 1 + _ + 1 < _; (first | lia | omega))
  refine SeqAt.RcAt.tuples p p' (by first | lia | omega) (e := f) (fun j h1 h2 => ?_) _ _ _ _ ⟨.bl _, H, I, rfl, q _ ?_⟩
  · have q := hf j (by simpa using h1) (by simpa using h2)
    simpa using q
  · simp only [List.size_toArray]
    exact hi
theorem op_neT : OpR X (compareOp .NotEq) (rEqT X.K X.A true) := by
  intro pins s σ H x y u v Q I rx ry h
  obtain ⟨ds, ds', h1, h2, p1, p2, hu, q⟩ := h
  unfold Rep at h1 h2
  obtain ⟨a, vs, rfl, t1, r1⟩ := h1
  obtain ⟨a', vs', rfl, t2, r2⟩ := h2
  cases rx
  cases ry
  obtain ⟨its, rv, p, _⟩ := I.tuple t1
  obtain ⟨its', rv', p', _⟩ := I.tuple t2
  obtain ⟨f, hf, hi⟩ := eqDs I ds ds' X.A.in1 r1 r2 rv rv' p1 p2 (by show X.A.units + 1 + _ + 1 < _; (first | lia | omega))
  refine SeqAt.RcNeAt.tuples p p' (by first | lia | omega) (e := f) (fun j h1 h2 => ?_) _ _ _ _ ⟨.bl _, H, I, rfl, q _ ?_⟩
  · have q := hf j (by simpa using h1) (by simpa using h2)
    simpa using q
  · simp only [List.size_toArray]
    exact hi

/-! ### all(xs), any(xs) of a list of truths -/
theorem range_all (bs : List Bool) : (List.range bs.length).all (fun j => bs.getD j false) = bs.all id := by
  induction bs with
  | nil => rfl
  | cons b r ih =>
    rw [List.length_cons, all_cons, List.all_cons]
    exact congrArg (b && ·) ih
theorem call_all (hc : X.calm = true) : CallR X (.builtin "all") (fun xs H Q => ∃ p, ∃ bs : List Bool, xs = [.ref p] ∧ SqL X.K H p (bs.map V.bl) ∧ Q (.bl (bs.all id)) H) := by
  intro pins s σ H xs us Q I rv h
  obtain ⟨p, bs, rfl, hp, q⟩ := h
  obtain ⟨u, rfl, ru⟩ := rv.one
  cases ru
  obtain ⟨its, rv', pl, _⟩ := I.list hp
  refine call_all_walk (wpAny_pyIter_list pl.isList ?_)
  have e : ∀ b o, s.heap.get? b = some o → (s.heap.push { cls := .type "list_iterator", data := .fields #[.ref p, .int 0 0] }).get? b = some o := fun b o e => Heap.get?_push_of_some _ e
  have hne : p ≠ s.heap.objs.size := by
    obtain ⟨o, ho, _⟩ := pl.isList
    exact Nat.ne_of_lt (Heap.lt_size ho)
  have lb : bs.length = its.length := by rw [← rv'.length, List.length_map]
  refine ⟨_, _, _, _, _, _, fun j => bs.getD j false, rfl, Walks.list (A := X.A.in1) (I.ok.hd hc) _ p hne its.toArray, ⟨⟨_, Heap.get?_push_size _ rfl, rfl, rfl⟩, pl.isList.at fun o ho => e _ o ho⟩, ?_, fun h' tk hk => ?_⟩
  · intro i v s Q E hv hq
    have hv' : its[i]? = some v := by simpa using hv
    have hi : i < bs.length := by
      rw [lb]
      exact (List.getElem?_eq_some_iff.mp hv').1
    obtain ⟨u, hu, ru⟩ := rv'.get (i := i) (x := .bl bs[i]) (by simp [hi])
    rw [hv'] at hu
    cases hu
    cases ru
    have : bs.getD i false = bs[i] := by simp [List.getD, hi]
    have hq : Q (bs.getD i false) s := hq
    rw [this] at hq
    exact wpAny_truthy_bool hq
  · refine ⟨.bl (bs.all id), H, I.kept (t' := tk) fun b o ho => hk b o ?_ (e b o ho), ?_, q⟩
    · simp only [List.mem_singleton]
      exact Nat.ne_of_lt (Heap.lt_size ho)
    · show Value.bool _ = _
      rw [← range_all, lb]
      simp

/-! ### isinstance -/
end
end L2

/-! Defs by their promises, the built-ins' names, loops in short. -/
namespace L2
open PySem PySem.Spec PyProof.Rows
/-- a def of the text that keeps a promise -/
structure Def (P : Program) (w : World) (K : PySem.W.Frag) (mg : Str → Option Value) (base : Heap) (x : Str) (k : Nat) (ps : List Str) (sp : Sp) : Prop where
  ex : ∃ f fd, FnOk P w K mg base CX0 k f fd ps sp ∧ mg x = some (.ref f) ∧ PySem.W.keepIn K (.ref f) = true ∧ Binds K fd ps []
theorem Def.of {P : Program} {w : World} {K : PySem.W.Frag} {mg : Str → Option Value} {base : Heap} {x q : Str} {k : Nat} {ps : List Str} {sp : Sp} {st : Stmt} {f : Addr} {fd : FuncData} (F : Fun K x q st f fd) (m : mg x = some (.ref f)) (b : Binds K fd ps [])
    (ok : FnOk P w K mg base CX0 k f fd ps sp) : Def P w K mg base x k ps sp := ⟨f, fd, ok, m, F.kp, b⟩
theorem pe_def {X : Cx} {e : Expr} {es : List Expr} {t : TA} {x : Str} {p pos : Pos} {j k : Nat} {ps : List Str} {sp : Sp} (g : Def X.prog X.w X.K X.mg X.base x j ps sp) (hr : Room k X.A) (ha : PA X (e :: es) t) (hjk : j ≤ k := by first | decide | omega | exact Nat.le_refl _) (hg : Gl X x := by rfl)
    (hdb : (x == ("__debug__" : Str)) = false := by decide) (he : starEach (e :: es) X.env = (false, eval e X.env) :: starEach es X.env := by rfl) (hpl : (backTo pos (starEach es X.env)).any (·.1) = false := by rfl) :
    PE X (.Call (.Name x p) (e :: es) [] pos) (tCall sp [] E0 t) := by
  obtain ⟨f, fd, F, m, kp, b⟩ := g.ex
  exact pe_call F (hr.mono hjk) hg m kp b .nil pass0 ha hdb he hpl
/-- the built-ins' names aren't taken -/
structure Bl (mg : Str → Option Value) : Prop where
  len : mg "len" = none
  range : mg "range" = none
  all : mg "all" = none
  any : mg "any" = none
  abs : mg "abs" = none
  int : mg "int" = none
  bool : mg "bool" = none
  str : mg "str" = none
  list : mg "list" = none
  tuple : mg "tuple" = none
  dict : mg "dict" = none
  isinstance : mg "isinstance" = none
  enumerate : mg "enumerate" = none
  reversed : mg "reversed" = none
  sorted : mg "sorted" = none
  max : mg "max" = none
  min : mg "min" = none
  sum : mg "sum" = none
/-- what a call leaves: all tracked things but the flow's own list -/
structure Sm (f : Addr) (H H' : Hp) : Prop where
  app : ∀ b o, b ≠ f → H b = some o → H' b = some o
  key : ∀ l r, H f = some (.lst (.ref l :: r)) → ∃ r', H' f = some (.lst (.ref l :: r'))
instance {f : Addr} {H H' : Hp} : CoeFun (Sm f H H') (fun _ => ∀ b o, b ≠ f → H b = some o → H' b = some o) := ⟨Sm.app⟩
theorem Sm.refl {f : Addr} (H : Hp) : Sm f H H := ⟨fun _ _ _ h => h, fun l r h => ⟨r, h⟩⟩
theorem Sm.trans {f : Addr} {H H1 H2 : Hp} (a : Sm f H H1) (b : Sm f H1 H2) : Sm f H H2 := ⟨fun c o n h => b.app c o n (a.app c o n h), fun l r h => by
  obtain ⟨r1, h1⟩ := a.key l r h
  exact b.key l r1 h1⟩
theorem Same.sm {f : Addr} {H H' : Hp} (h : Same H H') : Sm f H H' := ⟨fun b o _ e => h b o e, fun l r e => ⟨r, h _ _ e⟩⟩
theorem Same.new {p : Addr} {H : Hp} (h : H p = none) (o : HO) : Same H (upd H p o) := fun b u q => by rw [upd_ne (ne_of_none q h)]; exact q

/-! ### comprehensions in short -/
/-- one more item: Pv holds behind it -/
def Nxt (Pv : Nat → St → List V → Hp → Prop) (n i : Nat) (τ : St) (ys : List V) (v : V) (H : Hp) : Prop :=
  ∃ m', m' < n - i ∧ m' = n - (i + 1) ∧ i + 1 ≤ n ∧ (ys ++ [v]).length = i + 1 ∧ Pv (i + 1) τ (ys ++ [v]) H
theorem nxt {Pv : Nat → St → List V → Hp → Prop} {n i : Nat} {τ : St} {ys : List V} {v : V} {H : Hp} (hi : i < n) (hl : ys.length = i) (p : Pv (i + 1) τ (ys ++ [v]) H) : Nxt Pv n i τ ys v H :=
  ⟨n - (i + 1), by first | lia | omega, rfl, hi, by rw [List.length_append, List.length_singleton, hl], p⟩
theorem comp_range {lo : Int} {n : Nat} {g : TG} {te : TE} {Q : VK} {σ : St} {H : Hp} (hn : n ≤ sizeLine) (Pv : Nat → St → List V → Hp → Prop) (h0 : Pv 0 σ [] H)
    (hs : ∀ i τ ys H, i < n → ys.length = i → Pv i τ ys H → g (.int (lo + i)) τ H fun τ2 H2 => te τ2 H2 fun v H3 => Nxt Pv n i τ2 ys v H3)
    (hd : ∀ τ ys H D, ys.length = n → Pv n τ ys H → H D = none → Q (.ref D) (upd H D (.lst ys))) :
    CompR (Itr lo n) g tYes te σ Q H := by
  refine ⟨fun i m τ ys H => m = n - i ∧ i ≤ n ∧ ys.length = i ∧ Pv i τ ys H, ⟨n, by simp, Nat.zero_le _, rfl, h0⟩, ?_⟩
  rintro i m τ ys H ⟨rfl, hi, hl, p⟩
  by_cases hlt : i < n
  · refine .inr ⟨hlt, by first | lia | omega, fun x H' y => ?_⟩
    obtain ⟨e, y⟩ := y
    subst e y
    exact hs i τ ys _ hlt hl p
  · have e : i = n := by first | lia | omega
    subst e
    exact .inl ⟨Nat.le_refl _, fun D hD => hd τ ys H D hl p hD⟩
theorem comp_list {K : PySem.W.Frag} {a : Addr} {xs : List V} {g : TG} {te : TE} {Q : VK} {σ : St} {H : Hp} (hn : xs.length ≤ sizeLine) (Pv : Nat → St → List V → Hp → Prop) (h0 : Pv 0 σ [] H) (hq : ∀ i τ ys H, Pv i τ ys H → SqL K H a xs)
    (hs : ∀ i x τ ys H, xs[i]? = some x → ys.length = i → Pv i τ ys H → g x τ H fun τ2 H2 => te τ2 H2 fun v H3 => Nxt Pv xs.length i τ2 ys v H3)
    (hd : ∀ τ ys H D, ys.length = xs.length → Pv xs.length τ ys H → H D = none → Q (.ref D) (upd H D (.lst ys))) :
    CompR (Itl K a) g tYes te σ Q H := by
  refine ⟨fun i m τ ys H => m = xs.length - i ∧ i ≤ xs.length ∧ ys.length = i ∧ Pv i τ ys H, ⟨xs.length, by simp, Nat.zero_le _, rfl, h0⟩, ?_⟩
  rintro i m τ ys H ⟨rfl, hi, hl, p⟩
  have q := hq i τ ys H p
  by_cases hlt : i < xs.length
  · refine .inr ⟨⟨xs, xs[i], q, by simp [hlt]⟩, by first | lia | omega, fun x H' y => ?_⟩
    obtain ⟨e, y⟩ := y
    subst e
    exact hs i x τ ys _ (y xs q) hl p
  · have e : i = xs.length := by first | lia | omega
    subst e
    exact .inl ⟨⟨xs, q, Nat.le_refl _⟩, fun D hD => hd τ ys H D hl p hD⟩
theorem comp_tup {K : PySem.W.Frag} {a : Addr} {xs : List V} {g : TG} {te : TE} {Q : VK} {σ : St} {H : Hp} (hn : xs.length ≤ sizeLine) (Pv : Nat → St → List V → Hp → Prop) (h0 : Pv 0 σ [] H) (hq : ∀ i τ ys H, Pv i τ ys H → SqT K H a xs)
    (hs : ∀ i x τ ys H, xs[i]? = some x → ys.length = i → Pv i τ ys H → g x τ H fun τ2 H2 => te τ2 H2 fun v H3 => Nxt Pv xs.length i τ2 ys v H3)
    (hd : ∀ τ ys H D, ys.length = xs.length → Pv xs.length τ ys H → H D = none → Q (.ref D) (upd H D (.lst ys))) :
    CompR (Itt K a) g tYes te σ Q H := by
  refine ⟨fun i m τ ys H => m = xs.length - i ∧ i ≤ xs.length ∧ ys.length = i ∧ Pv i τ ys H, ⟨xs.length, by simp, Nat.zero_le _, rfl, h0⟩, ?_⟩
  rintro i m τ ys H ⟨rfl, hi, hl, p⟩
  have q := hq i τ ys H p
  by_cases hlt : i < xs.length
  · refine .inr ⟨⟨xs, xs[i], q, by simp [hlt]⟩, by first | lia | omega, fun x H' y => ?_⟩
    obtain ⟨e, y⟩ := y
    subst e
    exact hs i x τ ys _ (y xs q) hl p
  · have e : i = xs.length := by first | lia | omega
    subst e
    exact .inl ⟨⟨xs, q, Nat.le_refl _⟩, fun D hD => hd τ ys H D hl p hD⟩
end L2
namespace L2
open PySem
theorem bt_len : bootBuiltins "len" = some (.builtin "len") := by decide +kernel
theorem bt_abs : bootBuiltins "abs" = some (.builtin "abs") := by decide +kernel
theorem bt_all : bootBuiltins "all" = some (.builtin "all") := by decide +kernel
theorem bt_any : bootBuiltins "any" = some (.builtin "any") := by decide +kernel
theorem bt_isinstance : bootBuiltins "isinstance" = some (.builtin "isinstance") := by decide +kernel
theorem bt_int : bootBuiltins "int" = some (.type "int") := by decide +kernel
theorem bt_bool : bootBuiltins "bool" = some (.type "bool") := by decide +kernel
theorem bt_list : bootBuiltins "list" = some (.type "list") := by decide +kernel
theorem bt_tuple : bootBuiltins "tuple" = some (.type "tuple") := by decide +kernel
end L2
namespace L2
open PySem PySem.Spec PyProof.Rows
/-- a statement and what is behind it, parted by a word -/
def tCut (t u : TS) : TS := fun D σ H => ∃ R : St → Hp → Prop, t { D with nx := R } σ H ∧ ∀ σ H, R σ H → u D σ H
theorem pss_cut {X : Cx} {st : Stmt} {more : List Stmt} {t u : TS} (h1 : PS X st t) (h2 : PSs X more u) : PSs X (st :: more) (tCut t u) := by
  intro pins s σ H D I h
  obtain ⟨R, a, b⟩ := h
  refine wpAny_execs_cons (thn (h1 pins s σ H { D with nx := R } I a) fun f s1 q => ?_)
  cases f with
  | next =>
    obtain ⟨σ1, H1, I1, r1⟩ := q
    exact h2 pins s1 σ1 H1 D I1 (b σ1 H1 r1)
  | brk => exact q
  | cont => exact q
  | ret v => exact q
end L2
namespace L2
open PySem PySem.Spec PyProof.Rows
/-! ### the rules with the written part told apart, for a comprehension's block too -/
section
variable {X : Cx}
theorem ixL (K : PySem.W.Frag) (hK : X.K = K := by rfl) : IxR X (rIxL K) := hK ▸ ix_list
theorem ixT (K : PySem.W.Frag) (hK : X.K = K := by rfl) : IxR X (rIxT K) := hK ▸ ix_tup
theorem slL (K : PySem.W.Frag) (hK : X.K = K := by rfl) : SlR X (rSlL K) := hK ▸ sl_list
theorem lenS (K : PySem.W.Frag) (hK : X.K = K := by rfl) : CallR X (.builtin "len") (fun xs H Q => ∃ p ys, xs = [.ref p] ∧ (SqL K H p ys ∨ SqT K H p ys) ∧ Q (.int ys.length) H) := hK ▸ call_len_seq
theorem allS (K : PySem.W.Frag) (hc : X.calm = true := by rfl) (hK : X.K = K := by rfl) : CallR X (.builtin "all") (fun xs H Q => ∃ p, ∃ bs : List Bool, xs = [.ref p] ∧ SqL K H p (bs.map V.bl) ∧ Q (.bl (bs.all id)) H) := hK ▸ call_all hc
theorem listOf (K : PySem.W.Frag) (hK : X.K = K := by rfl) : CallR X (.type "list") (fun xs H Q => ∃ p ys, xs = [.ref p] ∧ (SqL K H p ys ∨ SqT K H p ys) ∧ ∀ l, H l = none → Q (.ref l) (upd H l (.lst ys))) := hK ▸ call_list_of
theorem tupleOf (K : PySem.W.Frag) (hK : X.K = K := by rfl) : CallR X (.type "tuple") (fun xs H Q => ∃ p ys, xs = [.ref p] ∧ ((SqL K H p ys ∧ ∀ l, H l = none → Q (.ref l) (upd H l (.tup ys))) ∨ (SqT K H p ys ∧ Q (.ref p) H))) := hK ▸ call_tuple_of
theorem piL (K : PySem.W.Frag) {tg l : Expr} {tl : TE} (hl : PE X l tl) (hK : X.K = K := by rfl) : PI X tg l (iList K tl) := hK ▸ pi_list hl
theorem piT (K : PySem.W.Frag) {tg l : Expr} {tl : TE} (hl : PE X l tl) (hK : X.K = K := by rfl) : PI X tg l (iTup K tl) := hK ▸ pi_tup hl
theorem pgT (K : PySem.W.Frag) {es : List Expr} {k : Nat} {t : TGs} {n : Nat} {pos : Pos} (hc : X.calm = true) (h : PGs X es t) (hK : X.K = K := by rfl)
    (hn : (assignEach es X.env).length = n := by rfl) (hst : (assignEach es X.env).findIdx? (·.1) = none := by rfl) : PG X (.Tuple es k pos) (gTup K n t) := hK ▸ pg_tup hc h hn hst
theorem ptT (K : PySem.W.Frag) {a : Expr} {ta : TE} (ha : PE X a ta) (he : ∀ whole, isTrue a X.env whole = (do let v ← whole; standAt a.pos; holding [v] (truthy v))) (hK : X.K = K := by rfl) :
    PT X a (fun σ H Q => ta σ H fun x H' => ∃ k, TruV K x H' k ∧ Q k H') := hK ▸ pt_truth ha he
def rEqK (K : PySem.W.Frag) (neg : Bool) : R2 := fun x y H Q => ∃ ds ds', Rep K H (.tup ds) x ∧ Rep K H (.tup ds') y ∧ DV.pls ds = true ∧ DV.pls ds' = true ∧ DV.dps ds ≤ 60 ∧ ∀ b, (b = true ↔ ds = ds') → Q (.bl (if neg then !b else b)) H
theorem eqT (K : PySem.W.Frag) {k : Nat} (hr : Room k X.A) (hK : X.K = K := by rfl) : OpR X (compareOp .Eq) (rEqK K false) := by
  subst hK
  intro pins s σ H x y u v Q I rx ry h
  obtain ⟨ds, ds', h1, h2, p1, p2, hu, q⟩ := h
  exact op_eqT pins s σ H x y u v Q I rx ry ⟨ds, ds', h1, h2, p1, p2, by have := hr.units; (first | lia | omega), q⟩
theorem neT (K : PySem.W.Frag) {k : Nat} (hr : Room k X.A) (hK : X.K = K := by rfl) : OpR X (compareOp .NotEq) (rEqK K true) := by
  subst hK
  intro pins s σ H x y u v Q I rx ry h
  obtain ⟨ds, ds', h1, h2, p1, p2, hu, q⟩ := h
  exact op_neT pins s σ H x y u v Q I rx ry ⟨ds, ds', h1, h2, p1, p2, by have := hr.units; (first | lia | omega), q⟩
end
end L2

/-! The mathematics of fractions in lowest terms. -/
namespace Fr
open L2
def cp (t b : Int) : Int := ((Int.gcd t b : Nat) : Int)
def part (t b : Int) : Int := if b < 0 then -cp t b else cp t b
def top (t b : Int) : Int := t.fdiv (part t b)
def bot (t b : Int) : Int := b.fdiv (part t b)
theorem gcd_step (a b : Int) : Int.gcd b (a.fmod b) = Int.gcd a b := by
  rw [Int.fmod_def, Int.gcd_sub_mul_left_right, Int.gcd_comm]
theorem fmod_lt (a b : Int) (h : b ≠ 0) : (a.fmod b).natAbs < b.natAbs := by
  rcases Int.lt_or_gt_of_ne h with hb | hb
  · have h1 := Int.fmod_lt_of_pos (-a) (b := -b) (by first | lia | omega)
    have h2 := Int.fmod_nonneg_of_pos (-a) (b := -b) (by first | lia | omega)
    have e : (-a).fmod (-b) = -(a.fmod b) := by
      rw [Int.fmod_def, Int.fmod_def, Int.neg_fdiv_neg, Int.neg_mul]
      (first | lia | omega)
    (first | lia | omega)
  · have h1 := Int.fmod_lt_of_pos a hb
    have h2 := Int.fmod_nonneg_of_pos a hb
    (first | lia | omega)
theorem cp_pos {t b : Int} (h : b ≠ 0) : 0 < cp t b := by
  unfold cp
  have : 0 < Int.gcd t b := Nat.pos_of_ne_zero (by rw [Ne, Int.gcd_eq_zero_iff]; exact fun z => h z.2)
  (first | lia | omega)
theorem cp_le {t b : Int} (h : b ≠ 0) : (cp t b).natAbs ≤ b.natAbs := by
  unfold cp
  rw [Int.natAbs_natCast]
  exact Nat.le_of_dvd (by first | lia | omega) (Nat.gcd_dvd_right _ _)
theorem part_ne {t b : Int} (h : b ≠ 0) : part t b ≠ 0 := by
  have := cp_pos (t := t) h
  unfold part
  split <;> (first | lia | omega)
theorem part_le {t b : Int} (h : b ≠ 0) : (part t b).natAbs ≤ b.natAbs := by
  have := cp_le (t := t) h
  unfold part
  split
  · rw [Int.natAbs_neg]; exact this
  · exact this
theorem of {p t' b' : Int} (hp : p ≠ 0) (hb : 0 < b') (hc : Int.gcd t' b' = 1) : top (p * t') (p * b') = t' ∧ bot (p * t') (p * b') = b' := by
  have e : part (p * t') (p * b') = p := by
    unfold part cp
    rw [Int.gcd_mul_left, hc, Nat.mul_one]
    rcases Int.lt_or_gt_of_ne hp with h | h
    · rw [if_pos (Int.mul_neg_of_neg_of_pos h hb)]
      (first | lia | omega)
    · rw [if_neg (Int.not_lt.mpr (Int.le_of_lt (Int.mul_pos h hb)))]
      (first | lia | omega)
  unfold top bot
  rw [e]
  exact ⟨Int.mul_fdiv_cancel_left _ hp, Int.mul_fdiv_cancel_left _ hp⟩
theorem ex {t b : Int} (h : b ≠ 0) : ∃ p t' b', p ≠ 0 ∧ 0 < b' ∧ Int.gcd t' b' = 1 ∧ t = p * t' ∧ b = p * b' := by
  have g0 : 0 < Int.gcd t b := Nat.pos_of_ne_zero (by rw [Ne, Int.gcd_eq_zero_iff]; exact fun z => h z.2)
  obtain ⟨t1, e1⟩ := Int.gcd_dvd_left t b
  obtain ⟨b1, e2⟩ := Int.gcd_dvd_right t b
  have hc : Int.gcd t1 b1 = 1 := by
    have q : Int.gcd ((Int.gcd t b : Int) * t1) ((Int.gcd t b : Int) * b1) = Int.gcd t b := by rw [← e1, ← e2]
    rw [Int.gcd_mul_left, Int.natAbs_natCast] at q
    exact Nat.eq_of_mul_eq_mul_left g0 (by first | lia | omega)
  have g1 : (0 : Int) < (Int.gcd t b : Int) := by first | lia | omega
  by_cases hb : b < 0
  · refine ⟨-(Int.gcd t b : Int), -t1, -b1, by first | lia | omega, ?_, by rw [Int.gcd_neg, Int.neg_gcd]; exact hc, by rw [Int.neg_mul_neg]; exact e1, by rw [Int.neg_mul_neg]; exact e2⟩
    rcases Int.lt_trichotomy b1 0 with z | z | z
    · (first | lia | omega)
    · rw [z, Int.mul_zero] at e2
      (first | lia | omega)
    · have := Int.mul_pos g1 z
      (first | lia | omega)
  · refine ⟨(Int.gcd t b : Int), t1, b1, by first | lia | omega, ?_, hc, e1, e2⟩
    rcases Int.lt_trichotomy b1 0 with z | z | z
    · have := Int.mul_neg_of_pos_of_neg g1 z
      (first | lia | omega)
    · rw [z, Int.mul_zero] at e2
      (first | lia | omega)
    · exact z
/-- both times a number -/
theorem times {t b q : Int} (h : b ≠ 0) (hq : q ≠ 0) : top (t * q) (b * q) = top t b ∧ bot (t * q) (b * q) = bot t b := by
  obtain ⟨p, t', b', hp, hb, hc, rfl, rfl⟩ := ex (t := t) h
  have e := of hp hb hc
  rw [e.1, e.2]
  have m1 : p * t' * q = (p * q) * t' := by rw [Int.mul_assoc, Int.mul_comm t' q, Int.mul_assoc]
  have m2 : p * b' * q = (p * q) * b' := by rw [Int.mul_assoc, Int.mul_comm b' q, Int.mul_assoc]
  rw [m1, m2]
  exact of (Int.mul_ne_zero hp hq) hb hc
theorem low {t b : Int} (h : b ≠ 0) : 0 < bot t b ∧ top t b * b = t * bot t b ∧ Int.gcd (top t b) (bot t b) = 1 := by
  obtain ⟨p, t', b', hp, hb, hc, rfl, rfl⟩ := ex (t := t) h
  have e := of hp hb hc
  rw [e.1, e.2]
  refine ⟨hb, ?_, hc⟩
  rw [Int.mul_left_comm, Int.mul_assoc]
theorem top_le {t b : Int} (h : b ≠ 0) : (top t b).natAbs ≤ t.natAbs ∧ (bot t b).natAbs ≤ b.natAbs := by
  obtain ⟨p, t', b', hp, hb, hc, rfl, rfl⟩ := ex (t := t) h
  have e := of hp hb hc
  rw [e.1, e.2, Int.natAbs_mul, Int.natAbs_mul]
  have : 0 < p.natAbs := by first | lia | omega
  exact ⟨Nat.le_mul_of_pos_left _ this, Nat.le_mul_of_pos_left _ this⟩
/-- a fraction in lowest terms is itself -/
theorem self {t b : Int} (hb : 0 < b) (hc : Int.gcd t b = 1) : top t b = t ∧ bot t b = b := by
  have := of (p := 1) (t' := t) (b' := b) (by decide) hb hc
  rw [Int.one_mul, Int.one_mul] at this
  exact this
/-- worth the same, in lowest terms: the same -/
theorem uniq {t b c d : Int} (hb : b ≠ 0) (hd : 0 < d) (hc : Int.gcd c d = 1) (h : t * d = c * b) : top t b = c ∧ bot t b = d := by
  have e1 := times (t := t) (b := b) (q := d) hb (by first | lia | omega)
  have e2 := times (t := c) (b := d) (q := b) (by first | lia | omega) hb
  have e3 := self hd hc
  rw [h, Int.mul_comm b d, e2.1, e2.2, e3.1, e3.2] at e1
  exact ⟨e1.1.symm, e1.2.symm⟩
end Fr

namespace L2
open PySem PySem.Spec PyProof.Rows
/-- the type of a value that is read -/
def TyW (K : PySem.W.Frag) (H : Hp) (x : V) (t : Value) : Prop := TyOf K H x t ∨ (∃ a xs, x = .ref a ∧ SqT K H a xs ∧ t = .type "tuple") ∨ (∃ a xs, x = .ref a ∧ SqL K H a xs ∧ t = .type "list")
section
variable {X : Cx} {pins : List (Addr × Obj)} {σ : St} {H : Hp} {s : Shared} {A : Around} {E : Value → Shared → Prop} {Q : Value → Shared → Prop}
theorem isw_ok {x : V} {u t c : Value} {b : Bool} (I : Inv X pins σ H s) (rx : RelV x u) (ty : TyW X.K H x t) (e : PySem.W.kitOne X.K t c = some b) (h : ∀ tk, Q (.bool b) { s with toks := tk }) :
    wpAny (model X.prog X.w) A (call (.builtin "isinstance") [u, c]) Q E s := by
  rcases ty with ty | ⟨a, xs, rfl, hq, rfl⟩ | ⟨a, xs, rfl, hq, rfl⟩
  · exact isinst_ok I rx ty e h
  · cases rx
    obtain ⟨its, rv, p, _⟩ := I.tuple hq
    obtain ⟨o, ho, hc, _⟩ := p
    exact PySem.W.kia_one PySem.W.kitx_tuple I.kIn ⟨o, ho, hc⟩ e (fun z => nomatch z) h
  · cases rx
    obtain ⟨its, rv, p, _⟩ := I.list hq
    obtain ⟨o, ho, hc, _⟩ := p.isList
    exact PySem.W.kia_one PySem.W.kitx_list I.kIn ⟨o, ho, hc⟩ e (fun z => nomatch z) h
theorem isws_ok {x : V} {u t : Value} {b : Bool} {tp : Addr} {dd : Option Addr} {its : List Value} {n : Nat} {sl : Array (Option Value)} (I : Inv X pins σ H s) (rx : RelV x u) (ty : TyW X.K H x t) (hs : ∀ C, t ≠ .ref C)
    (htp : s.heap.get? tp = some ⟨.type "tuple", dd, .seq its.toArray n, sl⟩) (e : PySem.W.kitAny X.K t its = some b) (h : ∀ tk, Q (.bool b) { s with toks := tk }) :
    wpAny (model X.prog X.w) A (call (.builtin "isinstance") [u, .ref tp]) Q E s := by
  rcases ty with ty | ⟨a, xs, rfl, hq, rfl⟩ | ⟨a, xs, rfl, hq, rfl⟩
  · cases ty with
    | non => cases (show u = Value.none from rx); exact PySem.W.kia_tup PySem.W.kitx_none I.kIn True.intro htp e (fun z => nomatch z) h
    | bl y => cases (show u = Value.bool y from rx); exact PySem.W.kia_tup PySem.W.kitx_bool I.kIn True.intro htp e (fun z => nomatch z) h
    | int i => obtain ⟨t, q⟩ := (show ∃ t, u = Value.int i t from rx); cases q; exact PySem.W.kia_tup PySem.W.kitx_int I.kIn True.intro htp e (fun z => nomatch z) h
    | str y => obtain ⟨t, q⟩ := (show ∃ t, u = Value.str y t from rx); cases q; exact PySem.W.kia_tup PySem.W.kitx_str I.kIn True.intro htp e (fun z => nomatch z) h
    | flt y => obtain ⟨t, q⟩ := (show ∃ t, u = Value.float y t from rx); cases q; exact PySem.W.kia_tup PySem.W.kitx_float I.kIn True.intro htp e (fun z => nomatch z) h
    | @lst a xs ea =>
      cases (show u = Value.ref a from rx)
      obtain ⟨_, _, n, _, h1⟩ := (show ObjOk X.prog X.w H s.heap a (.lst xs) from I.hok a _ ea)
      exact PySem.W.kia_tup PySem.W.kitx_list I.kIn ⟨_, h1, rfl⟩ htp e (fun z => nomatch z) h
    | @frz a ob xs ea =>
      cases (show u = Value.ref a from rx)
      obtain ⟨q1, _, _, n, _, h1⟩ := (show ObjOk X.prog X.w H s.heap a (.frz ob (.lst xs)) from I.hok a _ ea)
      exact PySem.W.kia_tup PySem.W.kitx_list I.kIn ⟨_, h1, rfl⟩ htp e (fun z => nomatch z) h
    | @tup a xs ea =>
      cases (show u = Value.ref a from rx)
      obtain ⟨its', rv, p, _⟩ := I.tuple (SqT.of ea)
      obtain ⟨o, ho, hc, _⟩ := p
      exact PySem.W.kia_tup PySem.W.kitx_tuple I.kIn ⟨o, ho, hc⟩ htp e (fun z => nomatch z) h
    | @dK a kvs ea =>
      cases (show u = Value.ref a from rx)
      obtain ⟨_, _, vs, _, p⟩ := (show ObjOk X.prog X.w H s.heap a (.dK kvs) from I.hok a _ ea)
      obtain ⟨o, es, ep, h1, h2, _⟩ := p
      exact PySem.W.kia_tup PySem.W.kitx_dict I.kIn ⟨o, h1, h2.1⟩ htp e (fun z => nomatch z) h
    | @dT a kvs ea =>
      cases (show u = Value.ref a from rx)
      obtain ⟨_, _, xs, _, o, es, ep, h1, h2, _⟩ := (show ObjOk X.prog X.w H s.heap a (.dT kvs) from I.hok a _ ea)
      exact PySem.W.kia_tup PySem.W.kitx_dict I.kIn ⟨o, h1, h2.1⟩ htp e (fun z => nomatch z) h
    | ins => exact absurd rfl (hs _)
  · cases rx
    obtain ⟨its', rv, p, _⟩ := I.tuple hq
    obtain ⟨o, ho, hc, _⟩ := p
    exact PySem.W.kia_tup PySem.W.kitx_tuple I.kIn ⟨o, ho, hc⟩ htp e (fun z => nomatch z) h
  · cases rx
    obtain ⟨its', rv, p, _⟩ := I.list hq
    obtain ⟨o, ho, hc, _⟩ := p.isList
    exact PySem.W.kia_tup PySem.W.kitx_list I.kIn ⟨o, ho, hc⟩ htp e (fun z => nomatch z) h
end
section
variable {X : Cx}
theorem isW (K : PySem.W.Frag) (hK : X.K = K := by rfl) : CallR X (.builtin "isinstance") (fun xs H Q => ∃ x n t b, xs = [x, .ty n] ∧ TyW K H x t ∧ PySem.W.kitOne K t (.type n) = some b ∧ Q (.bl b) H) := by
  subst hK
  intro pins s σ H xs us Q I rv h
  obtain ⟨x, n, t, b, rfl, ty, e, q⟩ := h
  obtain ⟨u, v, rfl, r1, r2⟩ := rv.two
  cases r2
  exact isw_ok I r1 ty e fun tk => ⟨.bl b, H, I.tok tk, rfl, q⟩
theorem vals_ty : ∀ {ns : List String} {us : List Value}, Vals (ns.map V.ty) us → us = ns.map Value.type
  | [], _, .nil => rfl
  | n :: ns, _, .cons r t => by
    have r' : _ = Value.type n := r
    rw [r', vals_ty t]
    rfl
theorem isWs (K : PySem.W.Frag) (hK : X.K = K := by rfl) : CallR X (.builtin "isinstance") (fun xs H Q => ∃ x tp t b, ∃ ns : List String, xs = [x, .ref tp] ∧ TyW K H x t ∧ (∀ C, t ≠ .ref C) ∧ H tp = some (.tup (ns.map V.ty)) ∧ PySem.W.kitAny K t (ns.map Value.type) = some b ∧ Q (.bl b) H) := by
  subst hK
  intro pins s σ H xs us Q I rv h
  obtain ⟨x, tp, t, b, ns, rfl, ty, hs, htp, e, q⟩ := h
  obtain ⟨u, v, rfl, r1, r2⟩ := rv.two
  cases r2
  obtain ⟨its, rv', p, _⟩ := I.tuple (SqT.of htp)
  obtain ⟨⟨cl, dd, dt, sl⟩, ho, hc, n, hd⟩ := p
  have hc' : cl = .type "tuple" := hc
  have hd' : dt = .seq its.toArray n := hd
  subst hc' hd'
  refine isws_ok I r1 ty hs ho ?_ fun tk => ⟨.bl b, H, I.tok tk, rfl, q⟩
  rw [vals_ty rv']
  exact e
theorem ixS (K : PySem.W.Frag) (hK : X.K = K := by rfl) : IxR X (rIx K) := hK ▸ ix_seq
end
end L2
namespace L2
open PySem PySem.Spec PyProof.Rows
mutual
/-- no longer row within than this -/
def DV.wd : DV → Nat
  | .tup ds => max ds.length (DV.wds ds)
  | .lst ds => max ds.length (DV.wds ds)
  | _ => 0
def DV.wds : List DV → Nat
  | [] => 0
  | d :: ds => max (DV.wd d) (DV.wds ds)
end
theorem wds_mem : ∀ {ds : List DV} {d : DV}, d ∈ ds → d.wd ≤ DV.wds ds ∧ d.dp ≤ DV.dps ds
  | [], _, h => absurd h List.not_mem_nil
  | e :: ds, d, h => by
    unfold DV.wds DV.dps
    rcases List.mem_cons.mp h with rfl | h
    · exact ⟨Nat.le_max_left _ _, Nat.le_max_left _ _⟩
    · have := wds_mem h
      (first | lia | omega)
theorem Reps.get {K : PySem.W.Frag} {H : Hp} : ∀ {ds : List DV} {vs : List V} {i : Nat} {v : V}, Reps K H ds vs → vs[i]? = some v → ∃ d, ds[i]? = some d ∧ Rep K H d v
  | [], vs, i, v, h, e => by
    unfold Reps at h
    subst h
    simp at e
  | d :: ds, vs, i, v, h, e => by
    unfold Reps at h
    obtain ⟨v', r, rfl, h1, h2⟩ := h
    cases i with
    | zero =>
      simp at e
      subst e
      exact ⟨d, rfl, h1⟩
    | succ i =>
      simp at e
      obtain ⟨d', a, b⟩ := Reps.get h2 e
      exact ⟨d', by simpa using a, b⟩
def SqX (K : PySem.W.Frag) (tt : String) (H : Hp) (a : Addr) (xs : List V) : Prop := (tt = "tuple" ∧ SqT K H a xs) ∨ (tt = "list" ∧ SqL K H a xs)
theorem SqX.same {K : PySem.W.Frag} {tt : String} {H H' : Hp} {a : Addr} {xs : List V} (h : SqX K tt H a xs) (e : Same H H') : SqX K tt H' a xs := h.imp (fun z => ⟨z.1, z.2.same e⟩) fun z => ⟨z.1, e.seq z.2⟩
theorem SqX.len {K : PySem.W.Frag} {tt : String} {H : Hp} {a : Addr} {xs : List V} (h : SqX K tt H a xs) : SqL K H a xs ∨ SqT K H a xs := h.elim (fun z => .inr z.2) fun z => .inl z.2
theorem SqX.ty {K : PySem.W.Frag} {tt : String} {H : Hp} {a : Addr} {xs : List V} (h : SqX K tt H a xs) : TyW K H (.ref a) (.type tt) := h.elim (fun z => .inr (.inl ⟨a, xs, rfl, z.2, by rw [z.1]⟩)) fun z => .inr (.inr ⟨a, xs, rfl, z.2, by rw [z.1]⟩)
theorem SqX.ix {K : PySem.W.Frag} {tt : String} {H : Hp} {a : Addr} {xs : List V} {i : Int} {v : V} {Q : VK} (h : SqX K tt H a xs) (e : atI xs i = some v) (q : Q v H) : rIx K (.ref a) (.int i) H Q :=
  h.elim (fun z => .inr (.inl ⟨a, xs, i, v, rfl, rfl, z.2, e, q⟩)) fun z => .inl ⟨a, xs, i, v, rfl, rfl, z.2, e, q⟩
theorem SqX.kit {K : PySem.W.Frag} {tt : String} {H : Hp} {a : Addr} {xs : List V} (h : SqX K tt H a xs) : PySem.W.kitAny K (.type tt) [.type "list", .type "tuple"] = some true ∧ (∃ b, PySem.W.kitOne K (.type tt) (.type "list") = some b) ∧ ∃ b, PySem.W.kitOne K (.type tt) (.type "tuple") = some b := by
  rcases h with ⟨rfl, _⟩ | ⟨rfl, _⟩
  · exact ⟨rfl, ⟨_, rfl⟩, ⟨_, rfl⟩⟩
  · exact ⟨rfl, ⟨_, rfl⟩, ⟨_, rfl⟩⟩
/-- a thing without parts -/
def Leaf (K : PySem.W.Frag) (x : V) : Prop := ∃ t bb, (∀ H, TyW K H x t) ∧ (∀ C, t ≠ .ref C) ∧ PySem.W.kitAny K t [.type "list", .type "tuple"] = some false ∧ PySem.W.kitOne K t (.type "bool") = some bb ∧ scal x x = true
/-- deep data: a leaf, or a row -/
theorem rep_cases {K : PySem.W.Frag} {H : Hp} {d : DV} {x y : V} (hx : Rep K H d x) (hy : Rep K H d y) : (x = y ∧ Leaf K x) ∨
    ∃ tt a a' xs ys ds, x = .ref a ∧ y = .ref a' ∧ SqX K tt H a xs ∧ SqX K tt H a' ys ∧ Reps K H ds xs ∧ Reps K H ds ys ∧ d.dp = DV.dps ds + 1 ∧ DV.wds ds ≤ d.wd ∧ ds.length ≤ d.wd := by
  cases d with
  | int i => unfold Rep at hx hy; subst hx hy; exact .inl ⟨rfl, .type "int", false, fun H => .inl (.int _), nofun, rfl, rfl, rfl⟩
  | str i => unfold Rep at hx hy; subst hx hy; exact .inl ⟨rfl, .type "str", false, fun H => .inl (.str _), nofun, rfl, rfl, rfl⟩
  | non => unfold Rep at hx hy; subst hx hy; exact .inl ⟨rfl, .type "NoneType", false, fun H => .inl .non, nofun, rfl, rfl, rfl⟩
  | bl i => unfold Rep at hx hy; subst hx hy; exact .inl ⟨rfl, .type "bool", true, fun H => .inl (.bl _), nofun, rfl, rfl, rfl⟩
  | tup ds =>
    unfold Rep at hx hy
    obtain ⟨a, xs, rfl, h1, h2⟩ := hx
    obtain ⟨a', ys, rfl, h1', h2'⟩ := hy
    exact .inr ⟨"tuple", a, a', xs, ys, ds, rfl, rfl, .inl ⟨rfl, h1⟩, .inl ⟨rfl, h1'⟩, h2, h2', by rw [DV.dp], by rw [DV.wd]; (first | lia | omega), by rw [DV.wd]; (first | lia | omega)⟩
  | lst ds =>
    unfold Rep at hx hy
    obtain ⟨a, xs, rfl, h1, h2⟩ := hx
    obtain ⟨a', ys, rfl, h1', h2'⟩ := hy
    exact .inr ⟨"list", a, a', xs, ys, ds, rfl, rfl, .inr ⟨rfl, h1⟩, .inr ⟨rfl, h1'⟩, h2, h2', by rw [DV.dp], by rw [DV.wd]; (first | lia | omega), by rw [DV.wd]; (first | lia | omega)⟩
end L2

namespace L2
open PySem PySem.Spec PyProof.Rows
section
variable {X : Cx}
theorem ip_mulB : PIp X .Mult (rI CMulB fun i j => .int (i * j)) := fun pins s σ H x y v u Q I rx ry q => augR iop_mulB I rx ry q
/-- a loop over a list or a tuple, whichever it is -/
def iSeq (K : PySem.W.Frag) (tl : TE) : TI := fun σ H R => tl σ H fun x H1 => ∃ a, x = .ref a ∧ (((∃ xs, SqL K H1 a xs) ∧ R (Itl K a) H1) ∨ ((∃ xs, SqT K H1 a xs) ∧ R (Itt K a) H1))
theorem piS (K : PySem.W.Frag) {tg l : Expr} {tl : TE} (hl : PE X l tl) (hK : X.K = K := by rfl) : PI X tg l (iSeq K tl) := by
  subst hK
  intro pins s σ H R I h
  refine thn (hl pins s σ H _ I h) fun v s1 ⟨x, H1, I1, r1, q1⟩ => ?_
  obtain ⟨a, e, q1⟩ := q1
  subst e
  cases r1
  have fp1 : ∀ b ∈ [s1.heap.objs.size], FpOk X pins H1 b := fun b hb => by
    have e : b = s1.heap.objs.size := by simpa using hb
    subst e
    exact I1.fpOk (Nat.le_refl _) (I1.hok.fresh (Nat.le_refl _))
  rcases q1 with ⟨⟨xs, hq⟩, q⟩ | ⟨⟨xs, hq⟩, q⟩
  · obtain ⟨its, rv, p, hz⟩ := I1.list hq
    exact wpAny_pyIter_list p.isList ⟨s1.heap.objs.size, [s1.heap.objs.size], _, _, H1, rfl, I1.kept (t' := s1.toks) fun b o e => Heap.get?_push_of_some _ e, turn_list a _, ⟨_, Heap.get?_push_size _ rfl, rfl, rfl⟩, fp1, q⟩
  · obtain ⟨its, rv, p, hz⟩ := I1.tuple hq
    exact wpAny_pyIter_tuple (show s1.heap.IsTuple a its.toArray from p) ⟨s1.heap.objs.size, [s1.heap.objs.size], _, _, H1, rfl, I1.kept (t' := s1.toks) fun b o e => Heap.get?_push_of_some _ e, turn_tuple a _, ⟨_, Heap.get?_push_size _ rfl, rfl, rfl⟩, fp1, q⟩
end
end L2

/-! The one form of a polynomial, by relation. -/
namespace Po
open L2
/-- the greatest common part of a bottom and of tops -/
def gl (b : Nat) (ts : List Int) : Nat := ts.foldl (fun g t => Nat.gcd g t.natAbs) b
theorem gl_one (ts : List Int) : gl 1 ts = 1 := by
  induction ts with
  | nil => rfl
  | cons t ts ih =>
    show gl (Nat.gcd 1 t.natAbs) ts = 1
    rw [Nat.gcd_one_left]
    exact ih
theorem gl_dvd : ∀ (ts : List Int) (b : Nat), gl b ts ∣ b ∧ ∀ t ∈ ts, gl b ts ∣ t.natAbs
  | [], b => ⟨Nat.dvd_refl b, fun t ht => absurd ht List.not_mem_nil⟩
  | t :: ts, b => by
    have ih := gl_dvd ts (Nat.gcd b t.natAbs)
    refine ⟨Nat.dvd_trans ih.1 (Nat.gcd_dvd_left _ _), fun u hu => ?_⟩
    rcases List.mem_cons.mp hu with rfl | hu
    · exact Nat.dvd_trans ih.1 (Nat.gcd_dvd_right _ _)
    · exact ih.2 u hu
/-- what goes into c times each goes into c times their common part -/
theorem dvd_gl {c d : Nat} : ∀ (ts : List Int) (b : Nat), d ∣ c * b → (∀ t ∈ ts, d ∣ c * t.natAbs) → d ∣ c * gl b ts
  | [], b, h, _ => h
  | t :: ts, b, h, ht => by
    refine dvd_gl ts (Nat.gcd b t.natAbs) ?_ fun u hu => ht u (List.mem_cons_of_mem _ hu)
    rw [← Nat.gcd_mul_left]
    exact Nat.dvd_gcd h (ht t List.mem_cons_self)
/-- a polynomial's one form -/
structure Fm (P : List Int) (B : Int) : Prop where
  pos : 0 < B
  last : P = [] ∨ P.getD (P.length - 1) 0 ≠ 0
  gcd : gl B.natAbs P = 1
theorem getD_mem {P : List Int} {t : Int} (h : t ∈ P) : ∃ k, P.getD k 0 = t := by
  obtain ⟨k, hk, e⟩ := List.getElem_of_mem h
  exact ⟨k, by simp [List.getD, hk, e]⟩
theorem dvd_of {P P' : List Int} {B B' : Int} (F : Fm P B) (h : ∀ k, P.getD k 0 * B' = P'.getD k 0 * B) : B.natAbs ∣ B'.natAbs := by
  have q := dvd_gl (c := B'.natAbs) (d := B.natAbs) P B.natAbs (Nat.dvd_mul_left _ _) fun t ht => by
    obtain ⟨k, rfl⟩ := getD_mem ht
    have e := congrArg Int.natAbs (h k)
    rw [Int.natAbs_mul, Int.natAbs_mul] at e
    rw [Nat.mul_comm, e]
    exact Nat.dvd_mul_left _ _
  rw [F.gcd, Nat.mul_one] at q
  exact q
theorem len_le {P P' : List Int} (l : P = [] ∨ P.getD (P.length - 1) 0 ≠ 0) (h : ∀ k, P.getD k 0 = P'.getD k 0) : P.length ≤ P'.length := by
  rcases l with rfl | l
  · exact Nat.zero_le _
  · rcases Nat.lt_or_ge P'.length P.length with z | z
    · refine absurd ?_ l
      rw [h, List.getD_eq_getElem?_getD, List.getElem?_eq_none (by first | lia | omega)]
      rfl
    · exact z
/-- worth the same, both in one form: the same -/
theorem uniq {P P' : List Int} {B B' : Int} (F : Fm P B) (F' : Fm P' B') (h : ∀ k, P.getD k 0 * B' = P'.getD k 0 * B) : P = P' ∧ B = B' := by
  have d1 := dvd_of F h
  have d2 := dvd_of F' fun k => (h k).symm
  have e := Nat.dvd_antisymm d1 d2
  have p1 := F.pos
  have p2 := F'.pos
  have eB : B = B' := by first | lia | omega
  subst eB
  have hk : ∀ k, P.getD k 0 = P'.getD k 0 := fun k => Int.eq_of_mul_eq_mul_right (by first | lia | omega) (h k)
  have l1 := len_le F.last hk
  have l2 := len_le F'.last fun k => (hk k).symm
  refine ⟨List.ext_getElem (by first | lia | omega) fun k h1 h2 => ?_, rfl⟩
  have q := hk k
  simp [List.getD, h1, h2] at q
  exact q
theorem gl_mul (g : Nat) : ∀ (ts : List Int) (b : Nat), gl (g * b) (ts.map fun t => (g : Int) * t) = g * gl b ts
  | [], b => rfl
  | t :: ts, b => by
    show gl (Nat.gcd (g * b) ((g : Int) * t).natAbs) (ts.map fun t => (g : Int) * t) = g * gl (Nat.gcd b t.natAbs) ts
    rw [Int.natAbs_mul, Int.natAbs_natCast, Nat.gcd_mul_left]
    exact gl_mul g ts _
theorem gl_pos {b : Nat} (h : 0 < b) (ts : List Int) : 0 < gl b ts := Nat.pos_of_dvd_of_pos (gl_dvd ts b).1 h
/-- what one_form comes to -/
theorem form {ts : List Int} {b : Int} {m : Nat} (hb : 0 < b) (hm : m ≤ ts.length) (h0 : ∀ j, m ≤ j → ts.getD j 0 = 0) (hl : m = 0 ∨ ts.getD (m - 1) 0 ≠ 0) :
    Fm ((ts.take m).map fun t => t.fdiv ((gl b.natAbs (ts.take m) : Nat) : Int)) (b.fdiv ((gl b.natAbs (ts.take m) : Nat) : Int)) ∧
    (∀ k, ((ts.take m).map fun t => t.fdiv ((gl b.natAbs (ts.take m) : Nat) : Int)).getD k 0 * b = ts.getD k 0 * (b.fdiv ((gl b.natAbs (ts.take m) : Nat) : Int))) := by
  have g0 : 0 < gl b.natAbs (ts.take m) := gl_pos (by first | lia | omega) _
  have gd := gl_dvd (ts.take m) b.natAbs
  generalize hg : gl b.natAbs (ts.take m) = g at *
  have gi : (g : Int) ≠ 0 := by first | lia | omega
  have ex : ∀ t : Int, g ∣ t.natAbs → t = (g : Int) * t.fdiv (g : Int) := fun t ht => by
    obtain ⟨c, e⟩ : (g : Int) ∣ t := by first | exact Int.ofNat_dvd_left.mpr ht | exact Int.natAbs_dvd_natAbs.mp (by rw [Int.natAbs_natCast]; exact ht)
    rw [e, Int.mul_fdiv_cancel_left _ gi]
  have eb := ex b gd.1
  have et : ts.take m = ((ts.take m).map fun t => t.fdiv (g : Int)).map fun t => (g : Int) * t := by
    rw [List.map_map]
    refine (List.map_id (ts.take m)).symm.trans (List.map_congr_left fun t ht => ?_)
    exact ex t (gd.2 t ht)
  have bp : 0 < b.fdiv (g : Int) := by
    rcases Int.lt_trichotomy (b.fdiv (g : Int)) 0 with z | z | z
    · have := Int.mul_neg_of_pos_of_neg (show (0 : Int) < (g : Int) by first | lia | omega) z
      (first | lia | omega)
    · rw [z, Int.mul_zero] at eb
      (first | lia | omega)
    · exact z
  have kk : ∀ k, ((ts.take m).map fun t => t.fdiv (g : Int)).getD k 0 * (g : Int) = ts.getD k 0 := fun k => by
    by_cases hk : k < m
    · have h1 : k < (ts.take m).length := by rw [List.length_take]; (first | lia | omega)
      have h2 : k < ts.length := by first | lia | omega
      have e1 : ((ts.take m).map fun t => t.fdiv (g : Int)).getD k 0 = (ts[k]).fdiv (g : Int) := by
        rw [List.getD_eq_getElem?_getD, List.getElem?_map, List.getElem?_take_of_lt hk, List.getElem?_eq_getElem h2]
        rfl
      have e2 : ts.getD k 0 = ts[k] := by rw [List.getD_eq_getElem?_getD, List.getElem?_eq_getElem h2]; rfl
      have mem : ts[k] ∈ ts.take m := by
        refine List.mem_of_getElem? (i := k) ?_
        rw [List.getElem?_take_of_lt hk, List.getElem?_eq_getElem h2]
      rw [e1, e2, Int.mul_comm]
      exact (ex _ (gd.2 _ mem)).symm
    · rw [h0 k (by first | lia | omega), List.getD_eq_getElem?_getD, List.getElem?_eq_none (by rw [List.length_map, List.length_take]; (first | lia | omega))]
      exact Int.zero_mul _
  refine ⟨⟨bp, ?_, ?_⟩, fun k => ?_⟩
  · have hlen : ((ts.take m).map fun t => t.fdiv (g : Int)).length = m := by rw [List.length_map, List.length_take]; (first | lia | omega)
    rcases hl with z | z
    · left
      subst z
      simp
    · right
      rw [hlen]
      intro c
      have q := kk (m - 1)
      rw [c, Int.zero_mul] at q
      exact z q.symm
  · have q := gl_mul g ((ts.take m).map fun t => t.fdiv (g : Int)) (b.fdiv (g : Int)).natAbs
    rw [← et] at q
    have e : g * (b.fdiv (g : Int)).natAbs = b.natAbs := by
      conv => rhs; rw [eb, Int.natAbs_mul, Int.natAbs_natCast]
    rw [e, hg] at q
    exact Nat.eq_of_mul_eq_mul_left g0 (by first | lia | omega)
  · rw [← kk k, Int.mul_assoc, ← eb]
end Po

namespace L2
open PySem PySem.Spec PyProof.Rows
/-- a loop over a row of whichever sort -/
theorem for_seq {K : PySem.W.Frag} {tt : String} {a : Addr} {xs : List V} {g : TG} {tb : TS} {D : Ends} {σ : St} {H : Hp} (Pv : Nat → St → Hp → Prop) (h0 : Pv 0 σ H) (hq : SqX K tt H a xs) (hl : ∀ i σ H, i ≤ xs.length → Pv i σ H → SqX K tt H a xs)
    (hs : ∀ i x σ H, xs[i]? = some x → Pv i σ H → g x σ H fun σ2 H2 => tb { D with nx := Pv (i + 1), ct := Pv (i + 1), bk := D.nx } σ2 H2) (hd : ∀ σ H, Pv xs.length σ H → D.nx σ H) :
    ∃ a', V.ref a = V.ref a' ∧ (((∃ xs, SqL K H a' xs) ∧ ∃ W : Nat → Nat → St → Hp → Prop, (∃ m, W 0 m σ H) ∧ ∀ i m σ H, W i m σ H →
      ((Itl K a').stop i H ∧ D.nx σ H) ∨ ((Itl K a').go i H ∧ ∃ N : St → Hp → Prop, (∀ σ' H', N σ' H' → ∃ m', m' < m ∧ W (i + 1) m' σ' H') ∧ ∀ x H', (Itl K a').yld i H x H' → g x σ H' fun σ2 H2 => tb { D with nx := N, ct := N, bk := D.nx } σ2 H2)) ∨
     ((∃ xs, SqT K H a' xs) ∧ ∃ W : Nat → Nat → St → Hp → Prop, (∃ m, W 0 m σ H) ∧ ∀ i m σ H, W i m σ H →
      ((Itt K a').stop i H ∧ D.nx σ H) ∨ ((Itt K a').go i H ∧ ∃ N : St → Hp → Prop, (∀ σ' H', N σ' H' → ∃ m', m' < m ∧ W (i + 1) m' σ' H') ∧ ∀ x H', (Itt K a').yld i H x H' → g x σ H' fun σ2 H2 => tb { D with nx := N, ct := N, bk := D.nx } σ2 H2))) := by
  refine ⟨a, rfl, ?_⟩
  rcases id hq with ⟨rfl, h⟩ | ⟨rfl, h⟩
  · exact .inr ⟨⟨xs, h⟩, for_tup Pv h0 (fun i σ H hi p => (hl i σ H hi p).elim (fun z => z.2) fun z => absurd z.1 (by decide)) hs hd⟩
  · exact .inl ⟨⟨xs, h⟩, for_list Pv h0 (fun i σ H hi p => (hl i σ H hi p).elim (fun z => absurd z.1 (by decide)) fun z => z.2) hs hd⟩
theorem comp_seq {K : PySem.W.Frag} {tt : String} {a : Addr} {xs : List V} {g : TG} {te : TE} {Q : VK} {σ : St} {H : Hp} (hn : xs.length ≤ sizeLine) (Pv : Nat → St → List V → Hp → Prop) (h0 : Pv 0 σ [] H) (hx : SqX K tt H a xs) (hq : ∀ i τ ys H, Pv i τ ys H → SqX K tt H a xs)
    (hs : ∀ i x τ ys H, xs[i]? = some x → ys.length = i → Pv i τ ys H → g x τ H fun τ2 H2 => te τ2 H2 fun v H3 => Nxt Pv xs.length i τ2 ys v H3)
    (hd : ∀ τ ys H D, ys.length = xs.length → Pv xs.length τ ys H → H D = none → Q (.ref D) (upd H D (.lst ys))) :
    ∃ a', V.ref a = V.ref a' ∧ (((∃ xs, SqL K H a' xs) ∧ CompR (Itl K a') g tYes te σ Q H) ∨ ((∃ xs, SqT K H a' xs) ∧ CompR (Itt K a') g tYes te σ Q H)) := by
  refine ⟨a, rfl, ?_⟩
  rcases id hx with ⟨rfl, h⟩ | ⟨rfl, h⟩
  · exact .inr ⟨⟨xs, h⟩, comp_tup hn Pv h0 (fun i τ ys H p => (hq i τ ys H p).elim (fun z => z.2) fun z => absurd z.1 (by decide)) hs hd⟩
  · exact .inl ⟨⟨xs, h⟩, comp_list hn Pv h0 (fun i τ ys H p => (hq i τ ys H p).elim (fun z => absurd z.1 (by decide)) fun z => z.2) hs hd⟩
section
variable {X : Cx}
theorem vals_toks : ∀ {ns : List Int} {us : List Value}, Vals (ns.map V.int) us → ∃ xs : List (Int × Tok), us = xs.map (fun p => Value.int p.1 p.2) ∧ xs.map (·.1) = ns
  | [], _, .nil => ⟨[], rfl, rfl⟩
  | n :: ns, _, .cons r t => by
    obtain ⟨tk, e⟩ : ∃ t, _ = Value.int n t := r
    obtain ⟨xs, e1, e2⟩ := vals_toks t
    exact ⟨(n, tk) :: xs, by rw [e, e1]; rfl, by rw [← e2]; rfl⟩
theorem maxS (K : PySem.W.Frag) (hc : X.calm = true := by rfl) (hK : X.K = K := by rfl) : CallR X (.builtin "max") (fun xs H Q => ∃ p, ∃ ns : List Int, xs = [.ref p] ∧ SqL K H p (ns.map V.int) ∧ ns ≠ [] ∧ ∀ M, M ∈ ns → (∀ a ∈ ns, a ≤ M) → Q (.int M) H) := by
  subst hK
  intro pins s σ H xs us Q I rv h
  obtain ⟨p, ns, rfl, hp, hn, q⟩ := h
  obtain ⟨u, rfl, ru⟩ := rv.one
  cases ru
  obtain ⟨its, rv', pl, _⟩ := I.list hp
  obtain ⟨ys, e1, e2⟩ := vals_toks rv'
  subst e1
  have hl : s.heap.IsList p (intItems ys.toArray) := by
    have : intItems ys.toArray = (ys.map (fun p => Value.int p.1 p.2)).toArray := by simp [intItems]
    rw [this]
    exact pl.isList
  have hsz : 0 < ys.toArray.size := by
    rcases ys with _ | ⟨y, ys⟩
    · exact absurd e2.symm hn
    · simp
  refine max_intList (I.ok.hd hc) hl hsz fun v h' tk hv hk => ?_
  obtain ⟨t, rfl⟩ := intItems_at hv
  obtain ⟨h1, h2⟩ := argBest_gt (numAt ys.toArray) (ys.toArray.size - 1)
  refine ⟨.int _, H, I.kept (t' := tk) hk, ⟨t, rfl⟩, q _ ?_ fun a ha => ?_⟩
  · rw [numAt_eq, ← e2]
    exact PySem.getD_mem (by simp only [List.size_toArray, List.length_map] at *; (first | lia | omega))
  · rw [← e2] at ha
    obtain ⟨j, hj, rfl⟩ := PySem.mem_getD ha
    rw [List.length_map] at hj
    have := h2 j (by rw [List.size_toArray]; (first | lia | omega))
    rw [numAt_eq] at this
    exact this
end
theorem reps_ints {K : PySem.W.Frag} {H : Hp} : ∀ ts : List Int, Reps K H (ts.map DV.int) (ts.map V.int)
  | [] => by unfold Reps; rfl
  | t :: ts => by
    show Reps K H (DV.int t :: ts.map DV.int) (V.int t :: ts.map V.int)
    unfold Reps
    exact ⟨_, _, rfl, by unfold Rep; rfl, reps_ints ts⟩
theorem pls_ints : ∀ ts : List Int, DV.pls (ts.map DV.int) = true
  | [] => by unfold DV.pls; rfl
  | t :: ts => by
    show DV.pls (DV.int t :: ts.map DV.int) = true
    unfold DV.pls
    rw [pls_ints ts]
    rfl
theorem dps_ints : ∀ ts : List Int, DV.dps (ts.map DV.int) = 0 ∧ DV.wds (ts.map DV.int) = 0
  | [] => by unfold DV.dps DV.wds; exact ⟨rfl, rfl⟩
  | t :: ts => by
    show DV.dps (DV.int t :: ts.map DV.int) = 0 ∧ DV.wds (DV.int t :: ts.map DV.int) = 0
    unfold DV.dps DV.wds
    rw [(dps_ints ts).1, (dps_ints ts).2]
    exact ⟨rfl, rfl⟩
/-- a polynomial as data -/
def pd (P : List Int) (B : Int) : List DV := [.tup (P.map DV.int), .int B]
def Pol (H : Hp) (v : V) (P : List Int) (B : Int) : Prop := ∃ a t, v = .ref a ∧ H a = some (.tup [.ref t, .int B]) ∧ H t = some (.tup (P.map V.int))
theorem Pol.same {H H' : Hp} {v : V} {P : List Int} {B : Int} (h : Pol H v P B) (s : Same H H') : Pol H' v P B := by
  obtain ⟨a, t, e, h1, h2⟩ := h
  exact ⟨a, t, e, s _ _ h1, s _ _ h2⟩
theorem Pol.rep {K : PySem.W.Frag} {H : Hp} {v : V} {P : List Int} {B : Int} (h : Pol H v P B) : Rep K H (.tup (pd P B)) v := by
  obtain ⟨a, t, rfl, h1, h2⟩ := h
  unfold Rep
  refine ⟨a, _, rfl, SqT.of h1, ?_⟩
  unfold pd Reps
  refine ⟨_, _, rfl, ?_, ?_⟩
  · unfold Rep
    exact ⟨t, _, rfl, SqT.of h2, reps_ints P⟩
  · unfold Reps
    refine ⟨_, _, rfl, by unfold Rep; rfl, ?_⟩
    unfold Reps
    rfl
theorem pd_pls (P : List Int) (B : Int) : DV.pls (pd P B) = true := by
  unfold pd
  simp [DV.pls, DV.pl, pls_ints]
theorem pd_dps (P : List Int) (B : Int) : DV.dps (pd P B) = 1 := by
  unfold pd
  simp [DV.dps, DV.dp, (dps_ints P).1]
theorem pd_wd (P : List Int) (B : Int) : (DV.tup (pd P B)).wd ≤ max 2 P.length ∧ (DV.tup (pd P B)).dp = 2 := by
  unfold pd
  simp [DV.wd, DV.wds, DV.dp, DV.dps, (dps_ints P).1, (dps_ints P).2]
theorem ints_inj : ∀ {P P' : List Int}, P.map DV.int = P'.map DV.int → P = P'
  | [], [], _ => rfl
  | [], _ :: _, h => by cases h
  | _ :: _, [], h => by cases h
  | p :: P, q :: Q, h => by
    injection h with h1 h2
    injection h1 with h1
    rw [h1, ints_inj h2]
theorem pd_inj {P P' : List Int} {B B' : Int} : pd P B = pd P' B' ↔ P = P' ∧ B = B' := by
  unfold pd
  constructor
  · intro h
    injection h with h1 h2
    injection h1 with h1
    injection h2 with h2 _
    injection h2 with h2
    exact ⟨ints_inj h1, h2⟩
  · rintro ⟨rfl, rfl⟩
    rfl
theorem bt_max : bootBuiltins "max" = some (.builtin "max") := by decide +kernel
end L2

/-! enumerate of a list or a tuple, as a loop's walk -/
namespace L2
open PySem PySem.Spec PyProof.Rows
section
variable {X : Cx} {pins : List (Addr × Obj)} {σ : St} {H : Hp} {s : Shared} {h' : Heap}
/-- the walk's own objects turned -/
theorem Inv.turnedL {t' : Nat} {fp : List Addr} (I : Inv X pins σ H s) (k : ∀ b o, b ∉ fp → s.heap.get? b = some o → h'.get? b = some o) (hf : ∀ b ∈ fp, FpOk X pins H b) : Inv X pins σ H { s with heap := h', toks := t' } := by
  have nit : ∀ b u, H b = some u → b ∉ fp := fun b u e z => by rw [(hf b z).1] at e; cases e
  have hL : X.env.locals ∉ fp := fun z => (hf _ z).2.1 rfl
  refine I.step (g' := s.gens) (d' := s.drawn) (ch := fp) (fun b hb => ⟨(hf b hb).2.2.2.1, (hf b hb).2.1, (hf b hb).2.2.2.2.1, (hf b hb).2.2.2.2.2⟩) (fun b o _ _ hc e _ => k b o hc e) (fun b o _ _ hc e _ => ⟨o.slots, k b o hc e⟩) (fun _ _ _ _ n => n)
    (fun b o hc e => ⟨o, k b o hc e⟩) (fun _ _ e => e) (fun _ _ _ e => e) (fun b ps e => ⟨#[], by rw [e]; simp⟩) (fun m ⟨o, es, ep, ho, r⟩ => ⟨o, es, ep, k _ o hL ho, r⟩) (fun b u e => ?_) I.bare
  refine (I.hok b u e).stay (fun c v hc q => k c v (hc.elim (fun z => by rw [z]; exact nit b u e) fun z => nit c _ z) q) (fun _ q => q) fun _ _ q => q
end
section
variable {prog : Program} {w : World} {A : Around} {E : Value → Shared → Prop} {s : Shared}
theorem nextT_item {it t : Addr} {i : Nat} {items : Array Value} {x : Value} {Q : Value → Shared → Prop} (hit : s.heap.IsTupleIter it t i) (ht : s.heap.IsTuple t items) (hx : items[i]? = some x)
    (hQ : ∀ h', h'.IsTupleIter it t (i + 1) → Heap.SameBut it s.heap h' → Q x { s with heap := h' }) : wpAny (model prog w) A (Builtin.SmallTypes.nextOf (.ref it)) Q E s := by
  obtain ⟨o, ho, hc, hd⟩ := id hit; obtain ⟨ol, hol, _, nl, hdl⟩ := ht
  unfold Builtin.SmallTypes.nextOf
  refine wpAny_bind (wpAny_callSpecial?_slot (name := Str.ofString "__next__") hit.typeIs F.slot_tuple_iterator_next (wpAny_call_entry F.slot_tuple_iterator_next hit.typeIs F.entry_tuple_iterator_next ?_ (F.args_tuple_iterator_next_1 _)))
  show wpAny _ _ (field (.ref it) 0 >>= _) _ _ s; refine wpAny_bind (wpAny_field ho hd (x := .ref t) rfl ?_)
  show wpAny _ _ (if (Value.ref t == Value.none) = true then _ else _) _ _ s; rw [if_neg (show ¬ ((Value.ref t == Value.none) = true) from Bool.false_ne_true)]
  show wpAny _ _ (field (.ref it) 1 >>= _) _ _ s; refine wpAny_bind (wpAny_field ho hd (x := .int i 0) rfl ?_)
  show wpAny _ _ (seqItems? (.ref t) >>= _) _ _ s; refine wpAny_bind (wpAny_seqItems hol hdl ?_); simp only [Int.toNat_natCast, hx]
  refine wpAny_bind (wpAny_setField ho hd (by simp) (wpAny_pure ⟨x, rfl, wpAny_pure (hQ _ ⟨_, Heap.get?_update_self _ ho (Obj.isFreed_of_fields (Obj.data_mapFields hd _)), (Obj.cls_mapFields ..).trans hc, by rw [Obj.data_mapFields hd]; simp [rawInt]⟩ (Heap.SameBut.update ..))⟩))
theorem nextT_end {it t : Addr} {i : Nat} {items : Array Value} {Q : Value → Shared → Prop} (hh : A.handled = none) (hit : s.heap.IsTupleIter it t i) (ht : s.heap.IsTuple t items) (hx : items[i]? = none)
    (hE : ∀ h' e, Heap.ExtBut it s.heap h' → (∃ o, h'.get? e = some o ∧ o.cls = .type "StopIteration") → E (.ref e) { s with heap := h' }) : wpAny (model prog w) A (Builtin.SmallTypes.nextOf (.ref it)) Q E s := by
  obtain ⟨o, ho, hc, hd⟩ := id hit; obtain ⟨ol, hol, _, nl, hdl⟩ := ht
  unfold Builtin.SmallTypes.nextOf
  refine wpAny_bind (wpAny_callSpecial?_slot (name := Str.ofString "__next__") hit.typeIs F.slot_tuple_iterator_next (wpAny_call_entry F.slot_tuple_iterator_next hit.typeIs F.entry_tuple_iterator_next ?_ (F.args_tuple_iterator_next_1 _)))
  show wpAny _ _ (field (.ref it) 0 >>= _) _ _ s; refine wpAny_bind (wpAny_field ho hd (x := .ref t) rfl ?_)
  show wpAny _ _ (if (Value.ref t == Value.none) = true then _ else _) _ _ s; rw [if_neg (show ¬ ((Value.ref t == Value.none) = true) from Bool.false_ne_true)]
  show wpAny _ _ (field (.ref it) 1 >>= _) _ _ s; refine wpAny_bind (wpAny_field ho hd (x := .int i 0) rfl ?_)
  show wpAny _ _ (seqItems? (.ref t) >>= _) _ _ s; refine wpAny_bind (wpAny_seqItems hol hdl ?_); simp only [Int.toNat_natCast, hx]
  refine wpAny_bind (wpAny_rule (wpAny_bind (wpAny_setField ho hd (by simp) ?_))); show wpAny _ _ (newExc (.type "StopIteration") [] >>= _) _ _ _
  refine wpAny_bind ?_; simp only [newExc, newTuple]; refine wpAny_bind (wpAny_newObj_type ?_ (by size_fits))
  refine wpAny_bind (m := firstArgMember _ _) (wpAny_of_eq (a := Value.none) (by first | rfl | (simp only [firstArgMember]; rfl)) ?_); refine wpAny_newObj_type ?_ (by size_fits); simp only [raiseNew]; refine wpAny_bind (wpAny_handled ?_)
  first | rw [show A.in1.handled = none from hh] | rw [hh]
  refine wpAny_bind (wpAny_pure (wpAny_throw ?_)); exact hE _ _ (((Heap.SameBut.update ..).extBut.push _).push _) ⟨_, Heap.get?_push_size _ rfl, rfl⟩
end
theorem drawsT {prog : Program} {w : World} {A : Around} (hh : A.handled = none) (it l : Addr) (hne : l ≠ it) (items : Array Value) : Draws prog w A it [it, l] items.size (fun i v => items[i]? = some v) (fun i h => h.IsTupleIter it l i ∧ h.IsTuple l items) where
  live := fun _ _ st => let ⟨o, ho, _⟩ := st.1; ⟨o, ho⟩
  frame := fun _ _ _ st hk => ⟨let ⟨o, ho, r⟩ := st.1; ⟨o, hk it (by simp) o ho, r⟩, let ⟨o, ho, r⟩ := st.2; ⟨o, hk l (by simp) o ho, r⟩⟩
  item := fun i s Q E hi st hQ => nextT_item st.1 st.2 (x := items[i]) (by simp [hi]) fun h' hit' hs' => hQ _ h' s.toks (by simp [hi]) ⟨hit', let ⟨o, ho, r⟩ := st.2; ⟨o, (hs'.2 l hne).trans ho, r⟩⟩ hs'
  done := fun s Q E st hE => nextT_end hh st.1 st.2 (by simp) hE
theorem enum_newT (l : Addr) (items : Array Value) (n : Nat) (dct : Option Addr) (sl : Array (Option Value)) :
    Meets (Builtin.«enumerate.__new__» ⟨[.type "enumerate", .ref l], []⟩) (fun _ R s => s.heap.get? l = some { cls := .type "tuple", dict := dct, data := .seq items n, slots := sl } ∧
      R (.ok (.ret (.ref (s.heap.push { cls := .type "tuple_iterator", data := .fields #[.ref l, .int 0 0] }).objs.size)))
        { s with heap := (s.heap.push { cls := .type "tuple_iterator", data := .fields #[.ref l, .int 0 0] }).push { cls := .type "enumerate", data := .fields #[.none, .bool false, .ref s.heap.objs.size, rawInt 0, .none, .none] } }) :=
  .of_wp fun prog w A R s h => by
    obtain ⟨hp, g, d, tk, os⟩ := s; obtain ⟨hl, h⟩ := h; have hsub := sub_enumerate; have hL : Heap.IsTuple (Shared.heap ⟨hp, g, d, tk, os⟩) l items := ⟨_, hl, rfl, n, rfl⟩
    wp_walk using AutoSeq1.wpAny_loadPart' hl
    refine wpAny_stack_any fun st => wpAny_pure ?_
    split
    · rename_i c _ _ _ _ _
      cases (c == Value.type "enumerate") <;> (wp_walk using AutoSeq1.wpAny_loadPart' hl, wpAny_pyIter_tuple hL; exact ⟨_, rfl, h⟩)
    · wp_walk using AutoSeq1.wpAny_loadPart' hl, wpAny_pyIter_tuple hL; exact ⟨_, rfl, h⟩
/-- a walk by pairs of number and thing -/
def ItE (Sq : Hp → List V → Prop) : It := ⟨fun i H => ∃ xs x, Sq H xs ∧ xs[i]? = some x, fun i H x H' => ∃ p v, x = .ref p ∧ H p = none ∧ H' = upd H p (.tup [.int i, v]) ∧ ∀ xs, Sq H xs → xs[i]? = some v, fun i H => ∃ xs, Sq H xs ∧ xs.length ≤ i⟩
theorem enum_laid {X : Cx} {pins : List (Addr × Obj)} {σ : St} {H : Hp} {s : Shared} {h1 h2 : Heap} {e it : Addr} {tk t2 : Nat} {i : Nat} {x : V} {u : Value} (I : Inv X pins σ H s) (hf : ∀ b ∈ [e, it], FpOk X pins H b) (le : e < s.heap.objs.size) (li : it < s.heap.objs.size) (ru : RelV x u)
    (hT : h1.get? s.heap.objs.size = some { cls := .type "tuple", data := .seq #[.int i tk, u] }) (hk : ∀ b o, b ≠ e → b ≠ it → s.heap.get? b = some o → h1.get? b = some o) (hs : Heap.SameBut e h1 h2) :
    Inv X pins σ (upd H s.heap.objs.size (.tup [.int i, x])) { s with heap := h2, toks := t2 } ∧ ∀ b ∈ [e, it], upd H s.heap.objs.size (.tup [.int i, x]) b = none := by
  have lt : ∀ b ∈ [e, it], b ≠ s.heap.objs.size := fun b hb => by
    rcases List.mem_cons.mp hb with z | z
    · rw [z]; exact Nat.ne_of_lt le
    · rw [List.mem_singleton.mp z]; exact Nat.ne_of_lt li
  have I1 : Inv X pins σ (upd H s.heap.objs.size (.tup [.int i, x])) { s with heap := s.heap.push { cls := .type "tuple", data := .seq #[.int i tk, u] }, toks := t2 } :=
    I.laid (t' := t2) (fun b u e => Heap.get?_push_of_some _ e) (Nat.le_refl _) ⟨by show 2 ≤ sizeLine; decide, [.int i tk, u], .cons ⟨tk, rfl⟩ (.cons ru .nil), ⟨_, Heap.get?_push_size _ rfl, rfl, _, rfl⟩⟩
  have nn : ∀ b ∈ [e, it], upd H s.heap.objs.size (.tup [.int i, x]) b = none := fun b hb => by
    rw [upd_ne (lt b hb)]
    exact (hf b hb).1
  refine ⟨Inv.turnedL (s := { s with heap := s.heap.push { cls := .type "tuple", data := .seq #[.int i tk, u] }, toks := t2 }) (t' := t2) (fp := [e, it]) I1 (fun b o hb q => ?_) fun b hb => ⟨nn b hb, (hf b hb).2⟩, nn⟩
  have be : b ≠ e := fun z => hb (by simp [z])
  have bi : b ≠ it := fun z => hb (by simp [z])
  refine (hs.2 b be).trans ?_
  rcases Heap.get?_push_cases q with ⟨z1, z2⟩ | z
  · rw [z1, z2]
    exact hT
  · exact hk b o be bi z
/-- the end of a walk over a tuple -/
theorem enumT_end {prog : Program} {w : World} {A : Around} {E : Value → Shared → Prop} {s : Shared} {e it l : Addr} {i : Nat} {items : Array Value} {old : Value} {Q : Option Value → Shared → Prop} (hh : A.handled = none) (he : IsEnum s.heap e it i old) (hit : s.heap.IsTupleIter it l i) (hl : s.heap.IsTuple l items)
    (hx : items[i]? = none) (hQ : ∀ h', Heap.ExtBut it s.heap h' → Q none { s with heap := h' }) : wpAny (model prog w) A (pyNext (.ref e)) Q E s := by
  have hT : s.TypeIs (.ref e) "enumerate" := ⟨_, he, rfl⟩
  unfold pyNext
  refine wpAny_bind (wpAny_attempt (wpAny_callSpecial?_slot (name := Str.ofString "__next__") hT F.slot_enumerate_next (wpAny_call_entry F.slot_enumerate_next hT F.entry_enumerate_next ?_ (F.args_enumerate_next_1 _))))
  show wpAny _ _ (field (.ref e) 2 >>= _) _ _ _; refine wpAny_bind (wpAny_field he rfl (x := .ref it) rfl ?_)
  refine wpAny_bind (nextT_end (A := A.in1) hh hit hl hx fun h' x he' hx' => ?_)
  obtain ⟨o, ho, hc⟩ := hx'
  exact wpAny_bind (wpAny_isInstance (T := "StopIteration") (b := true) ⟨o, ho, hc⟩ isSubtype_stop (wpAny_pure (hQ _ he')))
theorem enumT_call {prog : Program} {w : World} {A : Around} {E : Value → Shared → Prop} {s : Shared} {l : Addr} {items : Array Value} {Q : Value → Shared → Prop} (hL : s.heap.IsTuple l items)
    (h : ∀ h', IsEnum h' (s.heap.objs.size + 1) s.heap.objs.size 0 .none → h'.IsTupleIter s.heap.objs.size l 0 → h'.objs.size = s.heap.objs.size + 2 → (∀ b o, s.heap.get? b = some o → h'.get? b = some o) → Q (.ref (s.heap.objs.size + 1)) { s with heap := h' }) :
    wpAny (model prog w) A (call (.type "enumerate") [.ref l]) Q E s := by
  obtain ⟨⟨c, dct, dt, sl⟩, hl, hc, n, hd⟩ := hL
  have hc' : c = .type "tuple" := hc
  have hd' : dt = .seq items n := hd
  subst hc' hd'
  refine callType_new F.called_enumerate (by decide) (F.typeCall_enumerate_1 _) (F.newCall_enumerate_1 _) (fun obj => F.args_object_init_2 obj _) F.entry_enumerate_new (enum_newT l items n dct sl) ⟨hl, ?_⟩
  have hz : (s.heap.push { cls := .type "tuple_iterator", data := .fields #[.ref l, .int 0 0] }).objs.size = s.heap.objs.size + 1 := Heap.size_push ..
  show _ ∧ _
  rw [hz]
  have he : IsEnum ((s.heap.push { cls := .type "tuple_iterator", data := .fields #[.ref l, .int 0 0] }).push { cls := .type "enumerate", data := .fields #[.none, .bool false, .ref s.heap.objs.size, rawInt 0, .none, .none] }) (s.heap.objs.size + 1) s.heap.objs.size 0 .none := by
    have := Heap.get?_push_size (s.heap.push { cls := .type "tuple_iterator", data := .fields #[.ref l, .int 0 0] }) (o := { cls := .type "enumerate", data := .fields #[.none, .bool false, .ref s.heap.objs.size, rawInt 0, .none, .none] }) rfl
    rw [hz] at this
    exact this
  exact ⟨⟨_, he, rfl⟩, h _ he ⟨_, Heap.get?_push_of_some _ (Heap.get?_push_size _ rfl), rfl, rfl⟩ (by rw [Heap.size_push, hz]) fun b o x => Heap.get?_push_of_some _ (Heap.get?_push_of_some _ x)⟩
theorem turn_enumL {P : Program} {w : World} {K : PySem.W.Frag} {es : List Expr} {kk : Nat} {ps : Pos} (a e it : Addr) (hei : e ≠ it) : Turn P w K (.Tuple es kk ps) (ItE fun H xs => SqL K H a xs) [e, it] e (fun i h => (∃ old, IsEnum h e it i old) ∧ h.IsListIter it a i) where
  mem := by simp
  obj := fun i h st b hb => by
    obtain ⟨⟨old, he⟩, o, ho, hc, hd⟩ := st
    rcases List.mem_cons.mp hb with z | z
    · rw [z]; exact ⟨_, he, fun v q => by cases q⟩
    · rw [List.mem_singleton.mp z]; exact ⟨o, ho, fun v q => by rw [hd] at q; cases q⟩
  keep := fun i h h' st k => by
    obtain ⟨⟨old, he⟩, o, ho, r⟩ := st
    exact ⟨⟨old, k e (by simp) _ he⟩, o, k it (by simp) o ho, r⟩
  item := by
    intro X hP hw hK hc i pins s σ H E I hf st hg
    subst hP hw hK
    obtain ⟨xs, x, hq, hx⟩ := hg
    obtain ⟨its, rv, p, hz⟩ := I.list hq
    obtain ⟨u, hu, ru⟩ := rv.get hx
    obtain ⟨⟨old, he⟩, hit⟩ := st
    have hl : s.heap.IsList a its.toArray := p.isList
    have hne : a ≠ it := fun z => by
      obtain ⟨o, ho, c, _⟩ := id hl
      obtain ⟨o', ho', c', _⟩ := id hit
      rw [z, ho'] at ho
      cases ho
      rw [c'] at c
      revert c
      decide
    have hae : e ≠ a := fun z => by
      obtain ⟨o, ho, c, _⟩ := id hl
      rw [← z, he] at ho
      cases ho
      have c' : Value.type "enumerate" = Value.type _ := c
      revert c'
      decide
    have le : e < s.heap.objs.size := Heap.lt_size he
    have li : it < s.heap.objs.size := by obtain ⟨o, ho, _⟩ := id hit; exact Heap.lt_size ho
    refine wpAny_pyNext_enum_itemD (Draws.list (A := X.A.in1) (I.ok.hd hc) it a hne its.toArray) he ⟨hit, hl⟩ (by have := (List.getElem?_eq_some_iff.mp hu).1; simpa using this) hei (by simp [hei, hae]) fun y h1 tk hP ho hst hT hsz hk => ?_
    have hy : its[i]? = some y := by simpa using hP
    rw [hu] at hy
    cases hy
    refine ⟨_, rfl, wpAny_letOwnedTupleGo_enum ho fun h2 he2 hs2 => ?_⟩
    obtain ⟨I2, n2⟩ := enum_laid (t2 := tk + 1) I hf le li ru hT hk hs2
    refine ⟨.ref s.heap.objs.size, _, I2, rfl, ⟨_, x, rfl, I.hok.fresh (Nat.le_refl _), rfl, fun ys hy => by rw [I.list_inj hy hq]; exact hx⟩, ⟨⟨_, by simpa using he2⟩, ?_⟩, n2⟩
    obtain ⟨o, ho1, r⟩ := hst.1
    exact ⟨o, (hs2.2 it hei.symm).trans ho1, r⟩
  done := by
    intro X hP hw hK hc i pins s σ H E I hf st hg
    subst hP hw hK
    obtain ⟨xs, hq, hx⟩ := hg
    obtain ⟨its, rv, p, hz⟩ := I.list hq
    obtain ⟨⟨old, he⟩, hit⟩ := st
    have hl : s.heap.IsList a its.toArray := p.isList
    have hne : a ≠ it := fun z => by
      obtain ⟨o, ho, c, _⟩ := id hl
      obtain ⟨o', ho', c', _⟩ := id hit
      rw [z, ho'] at ho
      cases ho
      rw [c'] at c
      revert c
      decide
    obtain ⟨f0, f1, f2, f3, f4, f5⟩ := hf it (by simp)
    have le := rv.length
    refine wpAny_pyNext_enum_end (I.ok.hd hc) he hit hl (by simp; (first | lia | omega)) fun h' eb => ⟨rfl, I.turned (t' := s.toks) (fun b o hb e => eb b o hb e) f0 f1 f3 f4 f5⟩
  self := fun _ _ _ _ _ st h => by
    obtain ⟨⟨old, he⟩, _⟩ := st
    exact wpAny_pyIter_enum he h
theorem turn_enumT {P : Program} {w : World} {K : PySem.W.Frag} {es : List Expr} {kk : Nat} {ps : Pos} (a e it : Addr) (hei : e ≠ it) : Turn P w K (.Tuple es kk ps) (ItE fun H xs => SqT K H a xs) [e, it] e (fun i h => (∃ old, IsEnum h e it i old) ∧ h.IsTupleIter it a i) where
  mem := by simp
  obj := fun i h st b hb => by
    obtain ⟨⟨old, he⟩, o, ho, hc, hd⟩ := st
    rcases List.mem_cons.mp hb with z | z
    · rw [z]; exact ⟨_, he, fun v q => by cases q⟩
    · rw [List.mem_singleton.mp z]; exact ⟨o, ho, fun v q => by rw [hd] at q; cases q⟩
  keep := fun i h h' st k => by
    obtain ⟨⟨old, he⟩, o, ho, r⟩ := st
    exact ⟨⟨old, k e (by simp) _ he⟩, o, k it (by simp) o ho, r⟩
  item := by
    intro X hP hw hK hc i pins s σ H E I hf st hg
    subst hP hw hK
    obtain ⟨xs, x, hq, hx⟩ := hg
    obtain ⟨its, rv, p, hz⟩ := I.tuple hq
    obtain ⟨u, hu, ru⟩ := rv.get hx
    obtain ⟨⟨old, he⟩, hit⟩ := st
    have hl : s.heap.IsTuple a its.toArray := p
    have hne : a ≠ it := fun z => by
      obtain ⟨o, ho, c, _⟩ := id hl
      obtain ⟨o', ho', c', _⟩ := id hit
      rw [z, ho'] at ho
      cases ho
      rw [c'] at c
      revert c
      decide
    have hae : e ≠ a := fun z => by
      obtain ⟨o, ho, c, _⟩ := id hl
      rw [← z, he] at ho
      cases ho
      have c' : Value.type "enumerate" = Value.type _ := c
      revert c'
      decide
    have le : e < s.heap.objs.size := Heap.lt_size he
    have li : it < s.heap.objs.size := by obtain ⟨o, ho, _⟩ := id hit; exact Heap.lt_size ho
    refine wpAny_pyNext_enum_itemD (drawsT (A := X.A.in1) (I.ok.hd hc) it a hne its.toArray) he ⟨hit, hl⟩ (by have := (List.getElem?_eq_some_iff.mp hu).1; simpa using this) hei (by simp [hei, hae]) fun y h1 tk hP ho hst hT hsz hk => ?_
    have hy : its[i]? = some y := by simpa using hP
    rw [hu] at hy
    cases hy
    refine ⟨_, rfl, wpAny_letOwnedTupleGo_enum ho fun h2 he2 hs2 => ?_⟩
    obtain ⟨I2, n2⟩ := enum_laid (t2 := tk + 1) I hf le li ru hT hk hs2
    refine ⟨.ref s.heap.objs.size, _, I2, rfl, ⟨_, x, rfl, I.hok.fresh (Nat.le_refl _), rfl, fun ys hy => by rw [I.tuple_inj hy hq]; exact hx⟩, ⟨⟨_, by simpa using he2⟩, ?_⟩, n2⟩
    obtain ⟨o, ho1, r⟩ := hst.1
    exact ⟨o, (hs2.2 it hei.symm).trans ho1, r⟩
  done := by
    intro X hP hw hK hc i pins s σ H E I hf st hg
    subst hP hw hK
    obtain ⟨xs, hq, hx⟩ := hg
    obtain ⟨its, rv, p, hz⟩ := I.tuple hq
    obtain ⟨⟨old, he⟩, hit⟩ := st
    have hl : s.heap.IsTuple a its.toArray := p
    have hne : a ≠ it := fun z => by
      obtain ⟨o, ho, c, _⟩ := id hl
      obtain ⟨o', ho', c', _⟩ := id hit
      rw [z, ho'] at ho
      cases ho
      rw [c'] at c
      revert c
      decide
    obtain ⟨f0, f1, f2, f3, f4, f5⟩ := hf it (by simp)
    have le := rv.length
    refine enumT_end (I.ok.hd hc) he hit hl (by simp; (first | lia | omega)) fun h' eb => ⟨rfl, I.turned (t' := s.toks) (fun b o hb e => eb b o hb e) f0 f1 f3 f4 f5⟩
  self := fun _ _ _ _ _ st h => by
    obtain ⟨⟨old, he⟩, _⟩ := st
    exact wpAny_pyIter_enum he h
/-- enumerate(e), walked -/
def iEnum (K : PySem.W.Frag) (ta : TA) : TI := fun σ H R => ta σ H fun vs H1 => ∃ a, vs = [.ref a] ∧ (((∃ xs, SqL K H1 a xs) ∧ R (ItE fun H xs => SqL K H a xs) H1) ∨ ((∃ xs, SqT K H1 a xs) ∧ R (ItE fun H xs => SqT K H a xs) H1))
theorem boot_enumerate : bootBuiltins "enumerate" = some (.type "enumerate") := by decide +kernel
theorem pi_enum {X : Cx} (K : PySem.W.Frag) {es : List Expr} {kk : Nat} {ps : Pos} {a : Expr} {ta : TA} {p pos : Pos} (hg : Gl X "enumerate") (hm : X.mg "enumerate" = none) (ha : PA X [a] ta) (hK : X.K = K := by rfl) (hs : starEach [a] X.env = [(false, eval a X.env)] := by rfl) : PI X (.Tuple es kk ps) (.Call (.Name "enumerate" p) [a] [] pos) (iEnum K ta) := by
  subst hK
  intro pins s σ H R I h
  refine Call_ (ld_blt I hg hm boot_enumerate (PyProof.Rows.callWith_type1 (thn (ha pos pins s σ H _ I h) fun us s1 ⟨vs, H1, I1, r1, q1⟩ => ?_) hs rfl))
  obtain ⟨l, e, q1⟩ := q1
  subst e
  obtain ⟨u, rfl, ru⟩ := Vals.one r1
  cases ru
  have fp1 : ∀ {h' : Heap}, ∀ b ∈ [s1.heap.objs.size + 1, s1.heap.objs.size], FpOk X pins H1 b := fun b hb => by
    have hb' : s1.heap.objs.size ≤ b := by
      rcases List.mem_cons.mp hb with z | z
      · (first | lia | omega)
      · rw [List.mem_singleton.mp z]; exact Nat.le_refl _
    exact I1.fpOk hb' (I1.hok.fresh hb')
  rcases q1 with ⟨⟨xs, hq⟩, q⟩ | ⟨⟨xs, hq⟩, q⟩
  · obtain ⟨its, rv, pl, hz⟩ := I1.list hq
    refine call_enumerate_list pl.isList fun h' he hit hsz hk => ?_
    refine wpAny_pyIter_enum he ?_
    exact ⟨_, [s1.heap.objs.size + 1, s1.heap.objs.size], _, _, H1, rfl, I1.kept (t' := s1.toks) hk, turn_enumL l _ _ (Nat.succ_ne_self _), ⟨⟨_, he⟩, hit⟩, fp1 (h' := h'), q⟩
  · obtain ⟨its, rv, pl, hz⟩ := I1.tuple hq
    refine enumT_call pl fun h' he hit hsz hk => ?_
    refine wpAny_pyIter_enum he ?_
    exact ⟨_, [s1.heap.objs.size + 1, s1.heap.objs.size], _, _, H1, rfl, I1.kept (t' := s1.toks) hk, turn_enumT l _ _ (Nat.succ_ne_self _), ⟨⟨_, he⟩, hit⟩, fp1 (h' := h'), q⟩
/-- a loop over enumerate -/
theorem for_enum {K : PySem.W.Frag} {tt : String} {a : Addr} {xs : List V} {g : TG} {tb : TS} {D : Ends} {σ : St} {H : Hp} (Pv : Nat → St → Hp → Prop) (h0 : Pv 0 σ H) (hq : SqX K tt H a xs) (hl : ∀ i σ H, i ≤ xs.length → Pv i σ H → SqX K tt H a xs)
    (hs : ∀ i x σ H p, xs[i]? = some x → Pv i σ H → H p = none → g (.ref p) σ (upd H p (.tup [.int i, x])) fun σ2 H2 => tb { D with nx := Pv (i + 1), ct := Pv (i + 1), bk := D.nx } σ2 H2) (hd : ∀ σ H, Pv xs.length σ H → D.nx σ H) :
    ∃ a', [V.ref a] = [V.ref a'] ∧ (((∃ xs, SqL K H a' xs) ∧ ∃ W : Nat → Nat → St → Hp → Prop, (∃ m, W 0 m σ H) ∧ ∀ i m σ H, W i m σ H →
      ((ItE fun H xs => SqL K H a' xs).stop i H ∧ D.nx σ H) ∨ ((ItE fun H xs => SqL K H a' xs).go i H ∧ ∃ N : St → Hp → Prop, (∀ σ' H', N σ' H' → ∃ m', m' < m ∧ W (i + 1) m' σ' H') ∧ ∀ x H', (ItE fun H xs => SqL K H a' xs).yld i H x H' → g x σ H' fun σ2 H2 => tb { D with nx := N, ct := N, bk := D.nx } σ2 H2)) ∨
     ((∃ xs, SqT K H a' xs) ∧ ∃ W : Nat → Nat → St → Hp → Prop, (∃ m, W 0 m σ H) ∧ ∀ i m σ H, W i m σ H →
      ((ItE fun H xs => SqT K H a' xs).stop i H ∧ D.nx σ H) ∨ ((ItE fun H xs => SqT K H a' xs).go i H ∧ ∃ N : St → Hp → Prop, (∀ σ' H', N σ' H' → ∃ m', m' < m ∧ W (i + 1) m' σ' H') ∧ ∀ x H', (ItE fun H xs => SqT K H a' xs).yld i H x H' → g x σ H' fun σ2 H2 => tb { D with nx := N, ct := N, bk := D.nx } σ2 H2))) := by
  have gen : ∀ (Sq : Hp → List V → Prop), (∀ i σ H, i ≤ xs.length → Pv i σ H → Sq H xs) → ∃ W : Nat → Nat → St → Hp → Prop, (∃ m, W 0 m σ H) ∧ ∀ i m σ H, W i m σ H →
      ((ItE Sq).stop i H ∧ D.nx σ H) ∨ ((ItE Sq).go i H ∧ ∃ N : St → Hp → Prop, (∀ σ' H', N σ' H' → ∃ m', m' < m ∧ W (i + 1) m' σ' H') ∧ ∀ x H', (ItE Sq).yld i H x H' → g x σ H' fun σ2 H2 => tb { D with nx := N, ct := N, bk := D.nx } σ2 H2) := fun Sq hl => by
    refine ⟨fun i m σ H => m = xs.length - i ∧ i ≤ xs.length ∧ Pv i σ H, ⟨xs.length, by simp, Nat.zero_le _, h0⟩, ?_⟩
    rintro i m σ H ⟨rfl, hi, p⟩
    have q := hl i σ H hi p
    by_cases hlt : i < xs.length
    · refine .inr ⟨⟨xs, xs[i], q, by simp [hlt]⟩, Pv (i + 1), fun σ' H' p' => ⟨xs.length - (i + 1), by first | lia | omega, rfl, hlt, p'⟩, fun x H' y => ?_⟩
      obtain ⟨r, v, e, hr, e2, y⟩ := y
      subst e e2
      exact hs i v σ _ r (y xs q) p hr
    · have e : i = xs.length := by first | lia | omega
      subst e
      exact .inl ⟨⟨xs, q, Nat.le_refl _⟩, hd σ H p⟩
  refine ⟨a, rfl, ?_⟩
  rcases id hq with ⟨rfl, h⟩ | ⟨rfl, h⟩
  · exact .inr ⟨⟨xs, h⟩, gen _ fun i σ H hi p => (hl i σ H hi p).elim (fun z => z.2) fun z => absurd z.1 (by decide)⟩
  · exact .inl ⟨⟨xs, h⟩, gen _ fun i σ H hi p => (hl i σ H hi p).elim (fun z => absurd z.1 (by decide)) fun z => z.2⟩
/-- l[i] for l[i] op= e -/
theorem getL {X : Cx} (K : PySem.W.Frag) (hK : X.K = K := by rfl) : PGet X (fun o i H Q => ∃ p xs v, ∃ j : Nat, o = .ref p ∧ i = .int j ∧ SqL K H p xs ∧ xs[j]? = some v ∧ Q v H) := by
  subst hK
  intro pins s σ H o i ov iv Q I ro ri h
  obtain ⟨p, xs, v, j, rfl, rfl, hq, hv, q⟩ := h
  cases ro
  obtain ⟨t, rfl⟩ := ri
  obtain ⟨its, r, pl, hz⟩ := I.list hq
  obtain ⟨w, ew, rw'⟩ := r.get hv
  have hl := (List.getElem?_eq_some_iff.mp hv).1
  have hn := line63
  exact wpAny_getItem_list pl.isList (by first | lia | omega) (by first | lia | omega) (by rw [Int.toNat_natCast]; simpa using ew) ⟨v, H, I, rw', q⟩
theorem Same.over {H H' : Hp} {p : Addr} (s : Same H H') (h : H p = none) (o : HO) : Same H (upd H' p o) := fun b u q => by
  rw [upd_ne (ne_of_none q h)]
  exact s b u q
end L2
namespace L2
open PySem PySem.Spec PyProof.Rows
/-- a comprehension that makes an int of each int -/
theorem comp_intsT {K : PySem.W.Frag} {a : Addr} {ts : List Int} {i : Nat} {te : TE} {Q : VK} {σ : St} {H : Hp} (f : Int → Int) (hq : SqT K H a (ts.map V.int)) (hn : ts.length ≤ 100000) (hσ : σ.set i none = σ)
    (hs : ∀ z ∈ ts, ∀ R : VK, R (.int (f z)) H → te (σ.set i (some (.int z))) H R) (hd : ∀ D, H D = none → Q (.ref D) (upd H D (.lst ((ts.map f).map V.int)))) : CompR (Itt K a) (gName i) tYes te σ Q H := by
  refine comp_tup (xs := ts.map V.int) (by rw [List.length_map, sizeLine_eq]; (first | lia | omega)) (fun j τ ys H' => H' = H ∧ (∃ o, τ = σ.set i o) ∧ ys = ((ts.take j).map f).map V.int) ⟨rfl, ⟨none, hσ.symm⟩, rfl⟩ (fun j τ ys H' h => by rw [h.1]; exact hq) ?_ ?_
  · rintro j x _ _ _ hx hy ⟨rfl, ⟨o, rfl⟩, rfl⟩
    have hlt := (List.getElem?_eq_some_iff.mp hx).1
    rw [List.getElem?_map] at hx
    obtain ⟨z, hz, rfl⟩ := Option.map_eq_some_iff.mp hx
    show te ((σ.set i o).set i (some (.int z))) _ _
    rw [List.set_set]
    refine hs z (List.mem_of_getElem? hz) _ (nxt hlt hy ⟨rfl, ⟨_, rfl⟩, ?_⟩)
    obtain ⟨h2, e⟩ := List.getElem?_eq_some_iff.mp hz
    rw [List.take_succ_eq_append_getElem h2, e, List.map_append, List.map_append]
    rfl
  · rintro τ _ H D hy ⟨rfl, _, rfl⟩ hD
    rw [List.length_map, List.take_length]
    exact hd D hD
theorem comp_intsL {K : PySem.W.Frag} {a : Addr} {ts : List Int} {i : Nat} {te : TE} {Q : VK} {σ : St} {H : Hp} (f : Int → Int) (hq : SqL K H a (ts.map V.int)) (hn : ts.length ≤ 100000) (hσ : σ.set i none = σ)
    (hs : ∀ z ∈ ts, ∀ R : VK, R (.int (f z)) H → te (σ.set i (some (.int z))) H R) (hd : ∀ D, H D = none → Q (.ref D) (upd H D (.lst ((ts.map f).map V.int)))) : CompR (Itl K a) (gName i) tYes te σ Q H := by
  refine comp_list (xs := ts.map V.int) (by rw [List.length_map, sizeLine_eq]; (first | lia | omega)) (fun j τ ys H' => H' = H ∧ (∃ o, τ = σ.set i o) ∧ ys = ((ts.take j).map f).map V.int) ⟨rfl, ⟨none, hσ.symm⟩, rfl⟩ (fun j τ ys H' h => by rw [h.1]; exact hq) ?_ ?_
  · rintro j x _ _ _ hx hy ⟨rfl, ⟨o, rfl⟩, rfl⟩
    have hlt := (List.getElem?_eq_some_iff.mp hx).1
    rw [List.getElem?_map] at hx
    obtain ⟨z, hz, rfl⟩ := Option.map_eq_some_iff.mp hx
    show te ((σ.set i o).set i (some (.int z))) _ _
    rw [List.set_set]
    refine hs z (List.mem_of_getElem? hz) _ (nxt hlt hy ⟨rfl, ⟨_, rfl⟩, ?_⟩)
    obtain ⟨h2, e⟩ := List.getElem?_eq_some_iff.mp hz
    rw [List.take_succ_eq_append_getElem h2, e, List.map_append, List.map_append]
    rfl
  · rintro τ _ H D hy ⟨rfl, _, rfl⟩ hD
    rw [List.length_map, List.take_length]
    exact hd D hD
end L2
namespace HT
open PySem PyProof.Rows
variable {prog : Program} {w : World} {A : Around} {E : Value → Shared → Prop} {s : Shared}
end HT
namespace L2
open PySem PySem.Spec PyProof.Rows
end L2
namespace Po
open L2
theorem dvd_ofF {P : List Int} {f : Nat → Int} {B B' : Int} (F : Fm P B) (h : ∀ k, P.getD k 0 * B' = f k * B) : B.natAbs ∣ B'.natAbs := by
  have q := dvd_gl (c := B'.natAbs) (d := B.natAbs) P B.natAbs (Nat.dvd_mul_left _ _) fun t ht => by
    obtain ⟨k, rfl⟩ := getD_mem ht
    have e := congrArg Int.natAbs (h k)
    rw [Int.natAbs_mul, Int.natAbs_mul] at e
    rw [Nat.mul_comm, e]
    exact Nat.dvd_mul_left _ _
  rw [F.gcd, Nat.mul_one] at q
  exact q
/-- sizes stay -/
theorem size {P : List Int} {f : Nat → Int} {B b : Int} (F : Fm P B) (hb : 0 < b) (h : ∀ k, P.getD k 0 * b = f k * B) : B.natAbs ≤ b.natAbs ∧ ∀ k, (P.getD k 0).natAbs ≤ (f k).natAbs := by
  have d : B.natAbs ≤ b.natAbs := Nat.le_of_dvd (by first | lia | omega) (dvd_ofF F h)
  refine ⟨d, fun k => ?_⟩
  have e := congrArg Int.natAbs (h k)
  rw [Int.natAbs_mul, Int.natAbs_mul] at e
  have : (P.getD k 0).natAbs * b.natAbs ≤ (f k).natAbs * b.natAbs := by
    rw [e]
    exact Nat.mul_le_mul_left _ d
  exact Nat.le_of_mul_le_mul_right this (by first | lia | omega)
/-- a polynomial of that size -/
structure Pg (n : Nat) (P : List Int) (B : Int) : Prop where
  fm : Fm P B
  tops : ∀ k, Lt2 n (P.getD k 0)
  bot : Lt2 n B
end Po

/-! sums, products of rows -/
namespace Cv
open L2
/-- the sum of the first n -/
def sm (F : Nat → Int) : Nat → Int
  | 0 => 0
  | n + 1 => sm F n + F n
theorem sm_congr {F G : Nat → Int} {n : Nat} (h : ∀ j, j < n → F j = G j) : sm F n = sm G n := by
  induction n with
  | zero => rfl
  | succ n ih => rw [sm, sm, ih fun j hj => h j (by first | lia | omega), h n (by first | lia | omega)]
theorem sm_zero {F : Nat → Int} {n m : Nat} (h : n ≤ m) (z : ∀ j, n ≤ j → j < m → F j = 0) : sm F m = sm F n := by
  induction m with
  | zero => rw [show n = 0 by first | lia | omega]
  | succ m ih =>
    rcases Nat.eq_or_lt_of_le h with e | e
    · rw [e]
    · rw [sm, ih (by first | lia | omega) fun j a b => z j a (by first | lia | omega), z m (by first | lia | omega) (by first | lia | omega), Int.add_zero]
/-- the product's top at k -/
def cv (f g : Nat → Int) (k : Nat) : Int := sm (fun j => f j * g (k - j)) (k + 1)
/-- what has come by i rows -/
def tm (f g : Nat → Int) (i m : Nat) : Int := sm (fun j => if j ≤ m then f j * g (m - j) else 0) i
theorem tm_cv {f g : Nat → Int} {n m : Nat} (hf : ∀ j, n ≤ j → f j = 0) : tm f g n m = cv f g m := by
  unfold tm cv
  have e1 : sm (fun j => if j ≤ m then f j * g (m - j) else 0) (max n (m + 1)) = sm (fun j => if j ≤ m then f j * g (m - j) else 0) n := sm_zero (by first | lia | omega) fun j a b => by
    show (if j ≤ m then f j * g (m - j) else 0) = 0
    rw [hf j a, Int.zero_mul]
    split <;> rfl
  have e2 : sm (fun j => if j ≤ m then f j * g (m - j) else 0) (max n (m + 1)) = sm (fun j => if j ≤ m then f j * g (m - j) else 0) (m + 1) := sm_zero (by first | lia | omega) fun j a b => if_neg (by first | lia | omega)
  rw [← e1, e2]
  exact sm_congr fun j hj => if_pos (by first | lia | omega)
theorem tm_succ (f g : Nat → Int) (i m : Nat) : tm f g (i + 1) m = tm f g i m + (if i ≤ m then f i * g (m - i) else 0) := rfl
theorem cv_out {f g : Nat → Int} {a b k : Nat} (hf : ∀ j, a ≤ j → f j = 0) (hg : ∀ j, b ≤ j → g j = 0) (h : a + b - 1 ≤ k) : cv f g k = 0 := by
  unfold cv
  have : sm (fun j => f j * g (k - j)) (k + 1) = sm (fun j => f j * g (k - j)) 0 := sm_zero (Nat.zero_le _) fun j _ hj => by
    show f j * g (k - j) = 0
    rcases Nat.lt_or_ge j a with c | c
    · rw [hg (k - j) (by first | lia | omega), Int.mul_zero]
    · rw [hf j c, Int.zero_mul]
  rw [this]
  rfl
theorem cv_zl {f g : Nat → Int} {k : Nat} (h : ∀ j, f j = 0) : cv f g k = 0 := by
  unfold cv
  have : sm (fun j => f j * g (k - j)) (k + 1) = sm (fun j => f j * g (k - j)) 0 := sm_zero (Nat.zero_le _) fun j _ _ => by
    show f j * g (k - j) = 0
    rw [h j, Int.zero_mul]
  rw [this]
  rfl
theorem cv_zr {f g : Nat → Int} {k : Nat} (h : ∀ j, g j = 0) : cv f g k = 0 := by
  unfold cv
  have : sm (fun j => f j * g (k - j)) (k + 1) = sm (fun j => f j * g (k - j)) 0 := sm_zero (Nat.zero_le _) fun j _ _ => by
    show f j * g (k - j) = 0
    rw [h, Int.mul_zero]
  rw [this]
  rfl
theorem sm_lt {F : Nat → Int} {n b : Nat} : ∀ {i : Nat}, i ≤ 2 ^ b → (∀ j, j < i → Lt2 n (F j)) → (sm F i).natAbs ≤ i * 2 ^ n
  | 0, _, _ => by simp [sm]
  | i + 1, h, hF => by
    have ih := sm_lt (b := b) (i := i) (by first | lia | omega) fun j hj => hF j (by first | lia | omega)
    have h1 := hF i (by first | lia | omega)
    unfold Lt2 at h1
    rw [sm, Nat.succ_mul]
    (first | lia | omega)
theorem cv_lt {f g : Nat → Int} {n m k b : Nat} (hf : ∀ j, Lt2 n (f j)) (hg : ∀ j, Lt2 m (g j)) (hk : k + 1 < 2 ^ b) : Lt2 (n + m + b) (cv f g k) := by
  have := sm_lt (F := fun j => f j * g (k - j)) (n := n + m) (b := b) (i := k + 1) (by first | lia | omega) fun j _ => (hf j).mul (hg _)
  unfold Lt2 cv
  rw [Nat.pow_add 2 (n + m) b]
  have p : 0 < 2 ^ (n + m) := Nat.pow_pos (by decide)
  refine Nat.lt_of_le_of_lt this ?_
  rw [Nat.mul_comm]
  exact Nat.mul_lt_mul_of_pos_left hk p
theorem cv_congr {f g f' g' : Nat → Int} {k : Nat} (h : ∀ j, f j = f' j) (h' : ∀ j, g j = g' j) : cv f g k = cv f' g' k := sm_congr fun j _ => by rw [h, h']
theorem sm_mul (F : Nat → Int) (c : Int) (n : Nat) : sm (fun j => F j * c) n = sm F n * c := by
  induction n with
  | zero => simp [sm]
  | succ n ih => rw [sm, sm, ih, Int.add_mul]
theorem cv_scale (f g : Nat → Int) (c : Int) (k : Nat) : cv (fun j => f j * c) g k = cv f g k * c := by
  unfold cv
  rw [← sm_mul]
  exact sm_congr fun j _ => by grind
/-- the products' rows, the other way about -/
theorem sm_head (F : Nat → Int) (n : Nat) : sm F (n + 1) = F 0 + sm (fun j => F (j + 1)) n := by
  induction n with
  | zero => simp [sm]
  | succ n ih => rw [sm, ih, sm]; (first | lia | omega)
theorem sm_rev (F : Nat → Int) (n : Nat) : sm F n = sm (fun j => F (n - 1 - j)) n := by
  induction n generalizing F with
  | zero => rfl
  | succ n ih =>
    rw [sm_head (fun j => F (n + 1 - 1 - j)) n, sm, ih F]
    have : sm (fun j => F (n - 1 - j)) n = sm (fun j => F (n + 1 - 1 - (j + 1))) n := sm_congr fun j hj => by rw [show n + 1 - 1 - (j + 1) = n - 1 - j by first | lia | omega]
    rw [this, show n + 1 - 1 - 0 = n by first | lia | omega]
    (first | lia | omega)
theorem cv_comm (f g : Nat → Int) (k : Nat) : cv f g k = cv g f k := by
  unfold cv
  rw [sm_rev]
  refine sm_congr fun j hj => ?_
  rw [show k + 1 - 1 - j = k - j by first | lia | omega, show k - (k - j) = j by first | lia | omega, Int.mul_comm]
/-- a row's tops as a function -/
def fn (P : List Int) : Nat → Int := fun j => P.getD j 0
theorem fn_out {P : List Int} {j : Nat} (h : P.length ≤ j) : fn P j = 0 := by
  unfold fn
  rw [List.getD_eq_getElem?_getD, List.getElem?_eq_none h]
  rfl
end Cv

namespace RV
open PySem PyProof.Rows
theorem owner_rv : Manifest.owners.lookup (String.ofList ['d', 'e', 's', 'r', 'e', 'v', 'e', 'r'].reverse) = some Manifest.sig_reversed := by kernel_rfl
theorem slot_next : Slot "reversed" "__next__" "reversed.__next__" := .of (owner := "reversed") (n := "__next__") (by rw [typeLookup_type, builtinLookup_eq_fast]; kernel_rfl) (by decide +kernel) (by decide +kernel) (by decide +kernel) (by first | exact .inl (by decide +kernel) | exact .inr (by decide +kernel)) (by rw [isSubtype_type]; kernel_rfl)
theorem slot_iter : Slot "reversed" "__iter__" "reversed.__iter__" := .of (owner := "reversed") (n := "__iter__") (by rw [typeLookup_type, builtinLookup_eq_fast]; kernel_rfl) (by decide +kernel) (by decide +kernel) (by decide +kernel) (by first | exact .inl (by decide +kernel) | exact .inr (by decide +kernel)) (by rw [isSubtype_type]; kernel_rfl)
theorem slot_init : Slot "reversed" "__init__" "object.__init__" := .of (owner := "object") (n := "__init__") (by rw [typeLookup_type, builtinLookup_eq_fast]; kernel_rfl) (by decide +kernel) (by decide +kernel) (by decide +kernel) (by first | exact .inl (by decide +kernel) | exact .inr (by decide +kernel)) (by rw [isSubtype_type]; kernel_rfl)
theorem entry_next : entryFor table "reversed.__next__" = some Builtin.«reversed.__next__» := entryFor_of_tree (by kernel_rfl)
theorem entry_iter : entryFor table "reversed.__iter__" = some Builtin.«dict_keyiterator.__iter__» := entryFor_alias (id' := "dict_keyiterator.__iter__") (by kernel_rfl) (by first | rfl | decide +kernel | (unfold String.splitOn; simp +decide [String.splitOnAux])) (by decide +kernel) (by kernel_rfl)
theorem args_next (a : Value) : argsOk "reversed.__next__" ⟨[a], []⟩ := by
  unfold argsOk; rw [signature?_of (id := "reversed.__next__") (n := ['_', '_', 't', 'x', 'e', 'n', '_', '_']) (o := ['d', 'e', 's', 'r', 'e', 'v', 'e', 'r']) (by kernel_rfl) owner_rv]; kernel_rfl
theorem args_iter (a : Value) : argsOk "reversed.__iter__" ⟨[a], []⟩ := by
  unfold argsOk; rw [signature?_of (id := "reversed.__iter__") (n := ['_', '_', 'r', 'e', 't', 'i', '_', '_']) (o := ['d', 'e', 's', 'r', 'e', 'v', 'e', 'r']) (by kernel_rfl) owner_rv]; kernel_rfl
theorem no_rev : typeLookup (.type "tuple") "__reversed__" = pure none := by rw [typeLookup_type, builtinLookup_eq_fast]; kernel_rfl
theorem called : TypeCalled "reversed" "reversed.__new__" "object.__init__" := ⟨by decide +kernel, by decide +kernel, ⟨_, _, F.mro_reversed⟩, F.made_reversed, by decide +kernel, by rw [isSubtype_type]; kernel_rfl, slot_init⟩
theorem notDict : isSubtype (.type "tuple") (.type "dict") = pure false := by rw [isSubtype_type]; kernel_rfl
section
variable {prog : Program} {w : World} {A : Around} {E : Value → Shared → Prop} {s : Shared}
theorem new_tuple (t : Addr) (items : Array Value) (n : Nat) (dct : Option Addr) (sl : Array (Option Value)) :
    Meets (Builtin.«reversed.__new__» ⟨[.type "reversed", .ref t], []⟩) (fun _ R s => s.heap.get? t = some { cls := .type "tuple", dict := dct, data := .seq items n, slots := sl } ∧ (items.size : Int) < 2 ^ 63 ∧
      ∀ tk, R (.ok (.ret (.ref s.heap.objs.size))) { s with heap := s.heap.push { cls := .type "reversed", data := .fields #[.ref t, rawInt ((items.size : Int) - 1)] }, toks := tk }) :=
  .of_wp fun prog w A R s h => by
    obtain ⟨ht, hsz, h⟩ := h
    have hT : s.heap.IsTuple t items := ⟨_, ht, rfl, n, rfl⟩
    unfold Builtin.«reversed.__new__»
    refine wpAny_bind (wpAny_of_eq (newClass_reversed _) ?_)
    try dsimp only
    refine wpAny_bind (wpAny_of_eq (a := ()) (by first | rfl | kernel_rfl) ?_)
    refine wpAny_bind (wpAny_of_eq (a := ()) (by first | rfl | kernel_rfl) ?_)
    try dsimp only
    refine wpAny_bind (wpAny_specialOf hT.typeIs no_rev ?_)
    try dsimp only
    refine wpAny_bind ?_
    show wpAny _ _ (isInstance (.ref t) (.type "dict") >>= _) _ _ s
    refine wpAny_bind (wpAny_isInstance hT.typeIs notDict ?_)
    try dsimp only
    show wpAny _ _ (if false = true then _ else _) _ _ s
    rw [if_neg Bool.false_ne_true]
    refine wpAny_bind (wpAny_specialOf hT.typeIs PyProof.Rows.slot_tuple_getitem.lookup ?_)
    try dsimp only
    show wpAny _ _ (if _ = true then _ else _) _ _ s
    rw [if_pos (by decide)]
    refine wpAny_pure ?_
    show wpAny _ _ (if (!true) = true then _ else _) _ _ s
    rw [if_neg (by decide)]
    refine wpAny_bind (PyProof.Rows.len_tuple hT hsz ?_)
    refine wpAny_bind (m := asInt? _) (wpAny_pure ?_)
    try dsimp only
    refine wpAny_bind ?_
    show wpAny _ _ (newObj (.type "reversed") (.fields #[.ref t, rawInt ((items.size : Int) - 1)])) _ _ _
    refine wpAny_newObj_type ?_ (by size_fits)
    exact wpAny_pure ⟨_, rfl, h _⟩
/-- reversed(t) -/
theorem call_rev {t : Addr} {items : Array Value} {Q : Value → Shared → Prop} (hT : s.heap.IsTuple t items) (hsz : (items.size : Int) < 2 ^ 63)
    (h : ∀ tk, Q (.ref s.heap.objs.size) { s with heap := s.heap.push { cls := .type "reversed", data := .fields #[.ref t, rawInt ((items.size : Int) - 1)] }, toks := tk }) : wpAny (model prog w) A (call (.type "reversed") [.ref t]) Q E s := by
  obtain ⟨⟨c, dct, dt, sl⟩, hl, hc, n, hd⟩ := hT
  have hc' : c = .type "tuple" := hc
  have hd' : dt = .seq items n := hd
  subst hc' hd'
  refine callType_new called (by decide) (F.typeCall_reversed_1 _) (F.newCall_reversed_1 _) (fun obj => F.args_object_init_2 obj _) F.entry_reversed_new (new_tuple t items n dct sl) ⟨hl, hsz, fun tk => ?_⟩
  exact ⟨⟨_, Heap.get?_push_size _ rfl, rfl⟩, h tk⟩
/-- the walk's own record -/
def Is (h : Heap) (a t : Addr) (i : Int) : Prop := ∃ o, h.get? a = some o ∧ o.cls = .type "reversed" ∧ o.data = .fields #[.ref t, rawInt i]
theorem Is.ty {a t : Addr} {i : Int} (x : Is s.heap a t i) : s.TypeIs (.ref a) "reversed" := let ⟨o, ho, hc, _⟩ := x; ⟨o, ho, hc⟩
theorem iter_self {a t : Addr} {i : Int} {Q : Value → Shared → Prop} (x : Is s.heap a t i) (h : Q (.ref a) s) : wpAny (model prog w) A (pyIter (.ref a)) Q E s := by
  refine wpAny_pyIter_slot x.ty slot_iter (wpAny_call_entry slot_iter x.ty entry_iter ?_ (args_iter _))
  show wpAny _ _ (ret (.ref a)) _ _ s
  exact wpAny_pure ⟨_, rfl, "reversed", _, x.ty, slot_next.lookup, h⟩
theorem next_item {it t : Addr} {i : Nat} {items : Array Value} {x : Value} {Q : Option Value → Shared → Prop} (hit : Is s.heap it t (i : Int)) (hT : s.heap.IsTuple t items) (hx : items[i]? = some x) (hsz : (items.size : Int) < 2 ^ 63)
    (hQ : ∀ h' tk, Is h' it t ((i : Int) - 1) → Heap.SameBut it s.heap h' → Q (some x) { s with heap := h', toks := tk }) : wpAny (model prog w) A (pyNext (.ref it)) Q E s := by
  obtain ⟨o, ho, hc, hd⟩ := id hit
  unfold pyNext
  refine wpAny_bind (wpAny_attempt (wpAny_callSpecial?_slot (name := Str.ofString "__next__") hit.ty slot_next (wpAny_call_entry slot_next hit.ty entry_next ?_ (args_next _))))
  unfold Builtin.«reversed.__next__»
  refine wpAny_bind (wpAny_of_eq (a := (Value.ref it, [])) rfl ?_)
  try dsimp only
  refine wpAny_bind (wpAny_field ho hd (x := .ref t) rfl ?_)
  refine wpAny_bind (wpAny_field ho hd (x := rawInt (i : Int)) rfl ?_)
  try dsimp only [rawInt]
  rw [if_neg (by first | lia | omega)]
  refine wpAny_bind (wpAny_specialOf hT.typeIs PyProof.Rows.slot_tuple_getitem.lookup ?_)
  show wpAny _ _ (if false = true then _ else _) _ _ s
  rw [if_neg Bool.false_ne_true]
  refine wpAny_bind (wpAny_mkInt ?_)
  have hlt : i < items.size := (Array.getElem?_eq_some_iff.mp hx).1
  refine wpAny_bind (wpAny_attempt ?_)
  refine PyProof.Rows.getItem_tuple (j := i) (x := x) hT (by first | lia | omega) (by first | lia | omega) (by unfold seqIndex?; simp; (first | lia | omega)) hx ?_
  try dsimp only
  refine wpAny_bind (wpAny_field (s := { s with toks := s.toks + 1 }) ho hd (x := rawInt (i : Int)) rfl ?_)
  try dsimp only [rawInt]
  refine wpAny_bind (wpAny_setField (s := { s with toks := s.toks + 1 }) ho hd (by simp) (wpAny_pure ⟨x, rfl, wpAny_pure (hQ _ _ ?_ (Heap.SameBut.update ..))⟩))
  exact ⟨_, Heap.get?_update_self _ ho (Obj.isFreed_of_fields (Obj.data_mapFields hd _)), (Obj.cls_mapFields ..).trans hc, by rw [Obj.data_mapFields hd]; simp [rawInt]⟩
theorem next_end {it t : Addr} {Q : Option Value → Shared → Prop} (hh : A.handled = none) (hit : Is s.heap it t (-1)) (hQ : ∀ h', Heap.ExtBut it s.heap h' → Q none { s with heap := h' }) : wpAny (model prog w) A (pyNext (.ref it)) Q E s := by
  obtain ⟨o, ho, hc, hd⟩ := id hit
  unfold pyNext
  refine wpAny_bind (wpAny_attempt (wpAny_callSpecial?_slot (name := Str.ofString "__next__") hit.ty slot_next (wpAny_call_entry slot_next hit.ty entry_next ?_ (args_next _))))
  unfold Builtin.«reversed.__next__»
  refine wpAny_bind (wpAny_of_eq (a := (Value.ref it, [])) rfl ?_)
  try dsimp only
  refine wpAny_bind (wpAny_field ho hd (x := .ref t) rfl ?_)
  refine wpAny_bind (wpAny_field ho hd (x := rawInt (-1)) rfl ?_)
  try dsimp only [rawInt]
  rw [if_pos (by decide)]
  refine wpAny_bind (wpAny_rule ?_)
  refine wpAny_bind ?_
  show wpAny _ _ (setField (.ref it) 1 (rawInt (-1)) >>= _) _ _ s
  refine wpAny_bind (wpAny_setField ho hd (by simp) ?_)
  have ho' := Heap.get?_update_self (h := s.heap) (Obj.mapFields (·.setIfInBounds 1 (rawInt (-1)))) ho (Obj.isFreed_of_fields (Obj.data_mapFields hd _))
  refine wpAny_setField ho' (Obj.data_mapFields hd _) (by simp) ?_
  refine wpAny_bind ?_; unfold Builtin.SmallTypes.stopIteration; refine wpAny_bind ?_; simp only [newExc, newTuple]; refine wpAny_bind (wpAny_newObj_type ?_ (by size_fits))
  refine wpAny_bind (m := firstArgMember _ _) (wpAny_of_eq (a := Value.none) (by first | rfl | (simp only [firstArgMember]; rfl)) ?_); refine wpAny_newObj_type ?_ (by size_fits); simp only [raiseNew]; refine wpAny_bind (wpAny_handled ?_)
  first | rw [show A.in1.handled = none from hh] | rw [hh]
  refine wpAny_bind (wpAny_pure (wpAny_throw ?_))
  refine wpAny_bind (wpAny_isInstance (T := "StopIteration") (b := true) ⟨_, Heap.get?_push_size _ rfl, rfl⟩ isSubtype_stop ?_)
  refine wpAny_pure (hQ _ fun b o hb e => ?_)
  refine Heap.get?_push_of_some _ (Heap.get?_push_of_some _ ?_)
  exact (Heap.SameBut.update ..).extBut b o hb ((Heap.SameBut.update ..).extBut b o hb e)
end
end RV
namespace L2
open PySem PySem.Spec PyProof.Rows
theorem turn_rev {P : Program} {w : World} {K : PySem.W.Frag} {tg : Expr} (n : Nat) (a it : Addr) : Turn P w K tg (⟨fun i H => i < n ∧ ∃ xs x, SqT K H a xs ∧ xs.length = n ∧ xs.reverse[i]? = some x, fun i H x H' => H' = H ∧ ∀ xs, SqT K H a xs → xs.reverse[i]? = some x, fun i H => i = n⟩ : It) [it] it (fun i h => RV.Is h it a ((n : Int) - 1 - (i : Int))) where
  mem := by simp
  obj := fun i h st b hb => by
    have e : b = it := by simpa using hb
    subst e
    obtain ⟨o, e, c, d⟩ := st
    exact ⟨o, e, fun v z => by rw [d] at z; cases z⟩
  keep := fun i h h' st k => by
    obtain ⟨o, e, r⟩ := st
    exact ⟨o, k it (by simp) o e, r⟩
  item := by
    intro X hP hw hK hc i pins s σ H E I hf st hg
    subst hP hw hK
    obtain ⟨hlt, xs, x, hq, hn, hx⟩ := hg
    obtain ⟨its, rv, p, hz⟩ := I.tuple hq
    have hlen := rv.length
    rw [List.getElem?_reverse (by first | lia | omega)] at hx
    obtain ⟨u, hu, ru⟩ := rv.get hx
    obtain ⟨f0, f1, f2, f3, f4, f5⟩ := hf it (by simp)
    have e0 : (n : Int) - 1 - (i : Int) = ((xs.length - 1 - i : Nat) : Int) := by first | lia | omega
    have st' : RV.Is s.heap it a ((xs.length - 1 - i : Nat) : Int) := by rw [← e0]; exact st
    have hn63 := line63
    refine RV.next_item (i := xs.length - 1 - i) st' (show s.heap.IsTuple a its.toArray from p) (x := u) (by simpa using hu) (by rw [List.size_toArray]; (first | lia | omega)) fun h' tk st2 sb => ?_
    have I1 : Inv X pins σ H { s with heap := h', toks := tk } := I.turned (t' := tk) (fun b o hb e => (sb.2 b hb).trans e) f0 f1 f3 f4 f5
    obtain ⟨o, e, c, d⟩ := id st2
    refine ⟨u, rfl, go_of (s := { s with heap := h', toks := tk }) e c d (by decide) ⟨x, H, I1, ru, ⟨rfl, fun ys hy => ?_⟩, ?_, fun b hb => (hf b hb).1⟩⟩
    · rw [I.tuple_inj hy hq, List.getElem?_reverse (by first | lia | omega)]
      exact hx
    · show RV.Is h' it a ((n : Int) - 1 - ((i + 1 : Nat) : Int))
      rw [show (n : Int) - 1 - ((i + 1 : Nat) : Int) = ((xs.length - 1 - i : Nat) : Int) - 1 by first | lia | omega]
      exact st2
  done := by
    intro X hP hw hK hc i pins s σ H E I hf st hg
    subst hP hw hK
    have hg' : i = n := hg
    subst hg'
    obtain ⟨f0, f1, f2, f3, f4, f5⟩ := hf it (by simp)
    have st' : RV.Is s.heap it a (-1) := by
      have e : (i : Int) - 1 - (i : Int) = -1 := by first | lia | omega
      rw [← e]
      exact st
    exact RV.next_end (I.ok.hd hc) st' fun h' eb => ⟨rfl, I.turned (t' := s.toks) (fun b o hb e => eb b o hb e) f0 f1 f3 f4 f5⟩
  self := fun _ _ _ _ _ st h => RV.iter_self st h
def iRev (K : PySem.W.Frag) (ta : TA) : TI := fun σ H R => ta σ H fun vs H1 => ∃ a xs, vs = [.ref a] ∧ SqT K H1 a xs ∧ R ⟨fun i H => i < xs.length ∧ ∃ ys x, SqT K H a ys ∧ ys.length = xs.length ∧ ys.reverse[i]? = some x, fun i H x H' => H' = H ∧ ∀ xs, SqT K H a xs → xs.reverse[i]? = some x, fun i H => i = xs.length⟩ H1
theorem pi_revd {X : Cx} (K : PySem.W.Frag) {tg : Expr} {a : Expr} {ta : TA} {p pos : Pos} (hg : Gl X "reversed") (hm : X.mg "reversed" = none) (ha : PA X [a] ta) (hK : X.K = K := by rfl) (hs : starEach [a] X.env = [(false, eval a X.env)] := by rfl) : PI X tg (.Call (.Name "reversed" p) [a] [] pos) (iRev K ta) := by
  subst hK
  intro pins s σ H R I h
  refine Call_ (ld_blt I hg hm boot_reversed (PyProof.Rows.callWith_type1 (thn (ha pos pins s σ H _ I h) fun us s1 ⟨vs, H1, I1, r1, q1⟩ => ?_) hs rfl))
  obtain ⟨l, xs, e, hq, q1⟩ := q1
  subst e
  obtain ⟨u, rfl, ru⟩ := Vals.one r1
  cases ru
  obtain ⟨its, rv, pl, hz⟩ := I1.tuple hq
  have hlen := rv.length
  have hn63 := line63
  refine RV.call_rev (show s1.heap.IsTuple l its.toArray from pl) (by rw [List.size_toArray]; (first | lia | omega)) fun tk => ?_
  have st : RV.Is (s1.heap.push { cls := .type "reversed", data := .fields #[.ref l, rawInt ((its.toArray.size : Int) - 1)] }) s1.heap.objs.size l ((xs.length : Int) - 1 - ((0 : Nat) : Int)) := ⟨_, Heap.get?_push_size _ rfl, rfl, by
    rw [List.size_toArray, ← hlen, show (xs.length : Int) - 1 - ((0 : Nat) : Int) = (xs.length : Int) - 1 by first | lia | omega]⟩
  refine RV.iter_self st ?_
  refine ⟨_, [s1.heap.objs.size], _, _, H1, rfl, I1.kept (t' := tk) fun b o e => Heap.get?_push_of_some _ e, turn_rev xs.length l _, st, fun b hb => ?_, q1⟩
  rw [List.mem_singleton.mp hb]
  exact I1.fpOk (Nat.le_refl _) (I1.hok.fresh (Nat.le_refl _))
/-- a loop over reversed -/
theorem for_rev {K : PySem.W.Frag} {a : Addr} {xs : List V} {g : TG} {tb : TS} {D : Ends} {σ : St} {H : Hp} (Pv : Nat → St → Hp → Prop) (h0 : Pv 0 σ H) (hl : ∀ i σ H, i ≤ xs.length → Pv i σ H → SqT K H a xs)
    (hs : ∀ i x σ H, xs.reverse[i]? = some x → Pv i σ H → g x σ H fun σ2 H2 => tb { D with nx := Pv (i + 1), ct := Pv (i + 1), bk := D.nx } σ2 H2) (hd : ∀ σ H, Pv xs.length σ H → D.nx σ H) :
    ∃ W : Nat → Nat → St → Hp → Prop, (∃ m, W 0 m σ H) ∧ ∀ i m σ H, W i m σ H →
      ((i = xs.length) ∧ D.nx σ H) ∨ ((i < xs.length ∧ ∃ ys x, SqT K H a ys ∧ ys.length = xs.length ∧ ys.reverse[i]? = some x) ∧ ∃ N : St → Hp → Prop, (∀ σ' H', N σ' H' → ∃ m', m' < m ∧ W (i + 1) m' σ' H') ∧ ∀ x H', (H' = H ∧ ∀ xs, SqT K H a xs → xs.reverse[i]? = some x) → g x σ H' fun σ2 H2 => tb { D with nx := N, ct := N, bk := D.nx } σ2 H2) := by
  refine ⟨fun i m σ H => m = xs.length - i ∧ i ≤ xs.length ∧ Pv i σ H, ⟨xs.length, by simp, Nat.zero_le _, h0⟩, ?_⟩
  rintro i m σ H ⟨rfl, hi, p⟩
  have q := hl i σ H hi p
  by_cases hlt : i < xs.length
  · refine .inr ⟨⟨hlt, xs, xs.reverse[i]'(by rw [List.length_reverse]; exact hlt), q, rfl, by simp [hlt]⟩, Pv (i + 1), fun σ' H' p' => ⟨xs.length - (i + 1), by first | lia | omega, rfl, hlt, p'⟩, fun x H' y => ?_⟩
    obtain ⟨e, y⟩ := y
    subst e
    exact hs i x σ _ (y xs q) p
  · have e : i = xs.length := by first | lia | omega
    subst e
    exact .inl ⟨rfl, hd σ H p⟩
end L2

/-! a polynomial's worth at t / u, times u to a power -/
namespace Hv
open L2
def hv (F : Nat → Int) (t u : Int) : Nat → Int
  | 0 => 0
  | n + 1 => (hv F t u n + F n * t ^ n) * u
theorem pow_lt {r : Nat} {u : Int} (h : Lt2 r u) : ∀ i, Lt2 (r * i + 1) (u ^ i)
  | 0 => by rw [Int.pow_zero]; unfold Lt2; exact Nat.lt_of_lt_of_le (show (1 : Int).natAbs < 2 ^ 1 by decide) (Nat.pow_le_pow_right (by decide) (by first | lia | omega))
  | i + 1 => by
    rw [Int.pow_succ]
    exact ((pow_lt h i).mul h).mono (by rw [Nat.mul_succ]; (first | lia | omega))
theorem pow_pos {u : Int} (h : 0 < u) : ∀ i : Nat, 0 < u ^ i
  | 0 => by rw [Int.pow_zero]; decide
  | i + 1 => by rw [Int.pow_succ]; exact Int.mul_pos (pow_pos h i) h
theorem hv_lt {F : Nat → Int} {t u : Int} {n r : Nat} (hF : ∀ k, Lt2 n (F k)) (ht : Lt2 r t) (hu : Lt2 r u) : ∀ i, Lt2 (n + (r + 1) * i + 1) (hv F t u i)
  | 0 => by unfold Lt2 hv; exact Nat.pow_pos (by decide)
  | i + 1 => by
    have ih := hv_lt hF ht hu i
    have h2 : Lt2 (n + (r + 1) * i + 1) (F i * t ^ i) := ((hF i).mul (pow_lt ht i)).mono (by rw [Nat.succ_mul]; (first | lia | omega))
    exact ((ih.add h2).mul hu).mono (by rw [Nat.mul_succ]; (first | lia | omega))
theorem hv_congr {F G : Nat → Int} {t u : Int} {n : Nat} (h : ∀ j, j < n → F j = G j) : hv F t u n = hv G t u n := by
  induction n with
  | zero => rfl
  | succ n ih => rw [hv, hv, ih fun j hj => h j (by first | lia | omega), h n (by first | lia | omega)]
theorem hv_up {F : Nat → Int} {t u : Int} {n : Nat} (h : ∀ k, n ≤ k → F k = 0) : ∀ j, hv F t u (n + j) = hv F t u n * u ^ j
  | 0 => by rw [Nat.add_zero, Int.pow_zero, Int.mul_one]
  | j + 1 => by rw [← Nat.add_assoc, hv, hv_up h j, h (n + j) (by first | lia | omega), Int.zero_mul, Int.add_zero, Int.pow_succ, Int.mul_assoc]
theorem hv_add (F G : Nat → Int) (t u : Int) : ∀ n, hv (fun k => F k + G k) t u n = hv F t u n + hv G t u n
  | 0 => rfl
  | n + 1 => by rw [hv, hv, hv, hv_add F G t u n]; grind
theorem hv_mul (F : Nat → Int) (c t u : Int) : ∀ n, hv (fun k => F k * c) t u n = hv F t u n * c
  | 0 => by simp [hv]
  | n + 1 => by rw [hv, hv, hv_mul F c t u n]; grind
theorem hv_zero {F : Nat → Int} {t u : Int} {n : Nat} (h : ∀ j, j < n → F j = 0) : hv F t u n = 0 := by
  induction n with
  | zero => rfl
  | succ n ih => rw [hv, ih fun j hj => h j (by first | lia | omega), h n (by first | lia | omega)]; simp
theorem hv_shift (g : Nat → Int) (c t u : Int) (i : Nat) : ∀ k, hv (fun m => if i ≤ m then c * g (m - i) else 0) t u (i + k) = c * t ^ i * hv g t u k
  | 0 => by
    rw [Nat.add_zero, hv_zero fun j hj => if_neg (by first | lia | omega)]
    simp [hv]
  | k + 1 => by
    rw [← Nat.add_assoc, hv, hv_shift g c t u i k, if_pos (by first | lia | omega), show i + k - i = k by first | lia | omega, hv, Int.pow_add]
    grind
theorem hv_tm (f g : Nat → Int) (t u : Int) {m : Nat} (hg : ∀ k, m ≤ k → g k = 0) (n : Nat) : ∀ i, i ≤ n → hv (fun k => Cv.tm f g i k) t u (n + m) = hv f t u i * u ^ (n - i) * hv g t u m
  | 0, _ => by
    rw [hv_zero (F := fun k => Cv.tm f g 0 k) fun j _ => rfl]
    simp [hv]
  | i + 1, h => by
    have ih := hv_tm f g t u hg n i (by first | lia | omega)
    have e : hv (fun k => Cv.tm f g (i + 1) k) t u (n + m) = hv (fun k => Cv.tm f g i k + (if i ≤ k then f i * g (k - i) else 0)) t u (n + m) := hv_congr fun j _ => rfl
    rw [e, hv_add, ih]
    obtain ⟨d, rfl⟩ : ∃ d, n = i + 1 + d := ⟨n - (i + 1), by first | lia | omega⟩
    have e2 : i + 1 + d + m = i + (m + (d + 1)) := by first | lia | omega
    rw [e2, hv_shift, hv_up hg (d + 1), hv, show i + 1 + d - i = d + 1 by first | lia | omega, show i + 1 + d - (i + 1) = d by first | lia | omega, Int.pow_succ]
    grind
theorem hv_cv {f g : Nat → Int} {t u : Int} {n m : Nat} (hf : ∀ k, n ≤ k → f k = 0) (hg : ∀ k, m ≤ k → g k = 0) : hv (Cv.cv f g) t u (n + m) = hv f t u n * hv g t u m := by
  have e := hv_tm f g t u hg n n (Nat.le_refl _)
  rw [Nat.sub_self, Int.pow_zero, Int.mul_one] at e
  rw [← e]
  exact hv_congr fun j _ => (Cv.tm_cv hf).symm
/-- the worth of P by B at t / u is a / b -/
structure Wh (P : List Int) (B t u a b : Int) : Prop where
  pos : 0 < b
  low : Int.gcd a b = 1
  is : a * (B * u ^ P.length) = hv (Cv.fn P) t u P.length * b
end Hv

/-! one polynomial in another, by tops -/
namespace Pc
open L2 Cv Hv
theorem sm_app (F : Nat → Int) (i : Nat) : ∀ n, sm F (i + n) = sm F i + sm (fun j => F (i + j)) n
  | 0 => by simp [sm]
  | n + 1 => by rw [← Nat.add_assoc, sm, sm_app F i n, sm]; (first | lia | omega)
theorem sm_add (F G : Nat → Int) : ∀ n, sm (fun j => F j + G j) n = sm F n + sm G n
  | 0 => rfl
  | n + 1 => by rw [sm, sm, sm, sm_add F G n]; (first | lia | omega)
theorem cv_add_l (f g h : Nat → Int) (k : Nat) : cv (fun j => f j + g j) h k = cv f h k + cv g h k := by
  unfold cv
  rw [← sm_add]
  exact sm_congr fun j _ => by rw [Int.add_mul]
theorem cv_add_r (f g h : Nat → Int) (k : Nat) : cv h (fun j => f j + g j) k = cv h f k + cv h g k := by
  unfold cv
  rw [← sm_add]
  exact sm_congr fun j _ => by rw [Int.mul_add]
theorem cv_mul_r (f g : Nat → Int) (c : Int) (k : Nat) : cv f (fun j => g j * c) k = cv f g k * c := by
  unfold cv
  rw [← sm_mul]
  exact sm_congr fun j _ => by grind
theorem cv_shift (g h : Nat → Int) (c : Int) (i k : Nat) : cv (fun m => if i ≤ m then c * g (m - i) else 0) h k = if i ≤ k then c * cv g h (k - i) else 0 := by
  unfold cv
  by_cases hk : i ≤ k
  · rw [if_pos hk]
    obtain ⟨d, rfl⟩ : ∃ d, k = i + d := ⟨k - i, by first | lia | omega⟩
    rw [show i + d + 1 = i + (d + 1) by first | lia | omega, sm_app]
    have e1 : sm (fun j => (if i ≤ j then c * g (j - i) else 0) * h (i + d - j)) i = 0 := by
      rw [sm_zero (n := 0) (Nat.zero_le _) fun j _ hj => by show (if i ≤ j then _ else 0) * _ = 0; rw [if_neg (by first | lia | omega), Int.zero_mul]]
      rfl
    rw [e1, Int.zero_add, show i + d - i = d by first | lia | omega, Int.mul_comm c, ← sm_mul]
    refine sm_congr fun j _ => ?_
    show (if i ≤ i + j then c * g (i + j - i) else 0) * h (i + d - (i + j)) = g j * h (d - j) * c
    rw [if_pos (by first | lia | omega), show i + j - i = j by first | lia | omega, show i + d - (i + j) = d - j by first | lia | omega]
    grind
  · rw [if_neg hk, sm_zero (n := 0) (Nat.zero_le _) fun j _ hj => by show (if i ≤ j then _ else 0) * _ = 0; rw [if_neg (by first | lia | omega), Int.zero_mul]]
    rfl
theorem cv_tm (f g h : Nat → Int) : ∀ (n k : Nat), cv (fun m => tm f g n m) h k = tm f (fun m => cv g h m) n k
  | 0, k => by
    have : cv (fun m => tm f g 0 m) h k = 0 := cv_zl fun j => rfl
    rw [this]
    rfl
  | n + 1, k => by
    rw [tm_succ, ← cv_tm f g h n k, ← cv_shift g h (f n) n k, ← cv_add_l]
    rfl
/-- it is no matter which two come first -/
theorem cv_assoc {f g h : Nat → Int} {n : Nat} (hf : ∀ k, n ≤ k → f k = 0) (k : Nat) : cv (fun m => cv f g m) h k = cv f (fun m => cv g h m) k := by
  rw [← tm_cv (g := fun m => cv g h m) hf, ← cv_tm f g h n k]
  exact cv_congr (fun j => (tm_cv hf).symm) fun _ => rfl
/-- the one -/
def d0 : Nat → Int := fun k => if k = 0 then 1 else 0
theorem cv_d0 (f : Nat → Int) (k : Nat) : cv d0 f k = f k := by
  have : tm d0 f 1 k = cv d0 f k := tm_cv fun j hj => by show (if j = 0 then (1 : Int) else 0) = 0; rw [if_neg (by first | lia | omega)]
  rw [← this]
  show 0 + (if 0 ≤ k then d0 0 * f (k - 0) else 0) = f k
  rw [if_pos (Nat.zero_le _), Nat.sub_zero]
  show 0 + 1 * f k = f k
  (first | lia | omega)
/-- powers, by tops -/
def cp (g : Nat → Int) : Nat → (Nat → Int)
  | 0 => d0
  | n + 1 => fun k => cv (cp g n) g k
theorem cp_out {g : Nat → Int} {m : Nat} (hg : ∀ k, m ≤ k → g k = 0) : ∀ (n k : Nat), n * m + 1 ≤ k → cp g n k = 0
  | 0, k, h => by show (if k = 0 then (1 : Int) else 0) = 0; rw [if_neg (by first | lia | omega)]
  | n + 1, k, h => cv_out (a := n * m + 1) (b := m) (cp_out hg n) hg (by rw [Nat.succ_mul] at h; (first | lia | omega))
/-- F of g / U, times U to the n -/
def pc (F g : Nat → Int) (U : Int) : Nat → (Nat → Int)
  | 0 => fun _ => 0
  | n + 1 => fun k => (pc F g U n k + F n * cp g n k) * U
theorem pc_out {F g : Nat → Int} {U : Int} {m : Nat} (hg : ∀ k, m ≤ k → g k = 0) : ∀ (n k : Nat), n * m + 1 ≤ k → pc F g U n k = 0
  | 0, _, _ => rfl
  | n + 1, k, h => by
    rw [Nat.succ_mul] at h
    show (pc F g U n k + F n * cp g n k) * U = 0
    rw [pc_out hg n k (by first | lia | omega), cp_out hg n k (by first | lia | omega)]
    simp
/-- the sum from the top down -/
theorem horner {F g M : Nat → Int} {U : Int} {L i k : Nat} {m : Nat} (hg : ∀ k, m ≤ k → g k = 0) (hi : i < L) (h : ∀ j, pc F g U L j = U ^ i * pc F g U (L - i) j + U * cv (cp g (L - i)) M j) (M' : Nat → Int) (hM : ∀ j, M' j = cv M g j + (if j = 0 then F (L - 1 - i) * U ^ i else 0)) :
    pc F g U L k = U ^ (i + 1) * pc F g U (L - (i + 1)) k + U * cv (cp g (L - (i + 1))) M' k := by
  obtain ⟨d, rfl⟩ : ∃ d, L = i + 1 + d := ⟨L - (i + 1), by first | lia | omega⟩
  rw [h k, show i + 1 + d - i = d + 1 by first | lia | omega, show i + 1 + d - (i + 1) = d by first | lia | omega, pc, Int.pow_succ]
  have e1 : cv (cp g (d + 1)) M k = cv (cp g d) (fun m => cv M g m) k := by
    show cv (fun m => cv (cp g d) g m) M k = _
    rw [cv_assoc (n := d * m + 1) (cp_out hg d)]
    exact cv_congr (fun _ => rfl) fun j => cv_comm _ _ _
  have e2 : cv (cp g d) M' k = cv (cp g d) (fun m => cv M g m) k + cp g d k * (F d * U ^ i) := by
    have : cv (cp g d) M' k = cv (cp g d) (fun j => cv M g j + d0 j * (F d * U ^ i)) k := cv_congr (fun _ => rfl) fun j => by
      rw [hM j, show i + 1 + d - 1 - i = d by first | lia | omega]
      unfold d0
      by_cases z : j = 0
      · rw [if_pos z, if_pos z, Int.one_mul]
      · rw [if_neg z, if_neg z, Int.zero_mul]
    rw [this, cv_add_r, cv_mul_r, cv_comm (cp g d) d0, cv_d0]
  rw [e1, e2]
  show U ^ i * ((pc F g U d k + F d * cp g d k) * U) + _ = _
  grind
theorem hv_one {t u : Int} : hv d0 t u 1 = u := by
  show (0 + d0 0 * t ^ 0) * u = u
  rw [Int.pow_zero]
  show (0 + 1 * 1) * u = u
  (first | lia | omega)
theorem hv_cp {g : Nat → Int} {t u : Int} {m : Nat} (hg : ∀ k, m ≤ k → g k = 0) : ∀ n, hv (cp g n) t u (n * m + 1) = hv g t u m ^ n * u
  | 0 => by
    rw [Nat.zero_mul, Nat.zero_add, Int.pow_zero, Int.one_mul]
    exact hv_one
  | n + 1 => by
    rw [show (n + 1) * m + 1 = (n * m + 1) + m by rw [Nat.succ_mul]; (first | lia | omega)]
    show hv (cv (cp g n) g) t u _ = _
    rw [hv_cv (cp_out hg n) hg, hv_cp hg n, Int.pow_succ]
    grind
theorem hv_pc {F g : Nat → Int} {U t u : Int} {m : Nat} (hg : ∀ k, m ≤ k → g k = 0) : ∀ n, hv (pc F g U n) t u (n * m + 1) = u * hv F (hv g t u m) (U * u ^ m) n
  | 0 => by
    rw [hv_zero (F := pc F g U 0) fun j _ => rfl]
    simp [hv]
  | n + 1 => by
    have e : (n + 1) * m + 1 = (n * m + 1) + m := by rw [Nat.succ_mul]; (first | lia | omega)
    have e1 : hv (pc F g U (n + 1)) t u ((n + 1) * m + 1) = (hv (pc F g U n) t u ((n + 1) * m + 1) + hv (cp g n) t u ((n + 1) * m + 1) * F n) * U := by
      rw [← hv_mul (cp g n) (F n), ← hv_add, ← hv_mul]
      exact hv_congr fun j _ => by show (pc F g U n j + F n * cp g n j) * U = _; rw [Int.mul_comm (F n)]
    rw [e1, e, hv_up (pc_out hg n) m, hv_up (cp_out hg n) m, hv_pc hg n, hv_cp hg n, hv]
    grind
theorem hv_scale (F : Nat → Int) (t u c : Int) : ∀ n, hv F (t * c) (u * c) n = hv F t u n * c ^ n
  | 0 => by simp [hv]
  | n + 1 => by
    rw [hv, hv, hv_scale F t u c n, Int.mul_pow, Int.pow_succ]
    grind
/-- the worth of P by B at t / u is a / b, in whatever terms -/
structure Wq (P : List Int) (B t u a b : Int) : Prop where
  pos : 0 < b
  is : a * (B * u ^ P.length) = hv (fn P) t u P.length * b
theorem Wq.at {P : List Int} {B t u a b : Int} (h : Wq P B t u a b) {N : Nat} (hN : P.length ≤ N) : a * (B * u ^ N) = hv (fn P) t u N * b := by
  obtain ⟨j, rfl⟩ : ∃ j, N = P.length + j := ⟨N - P.length, by first | lia | omega⟩
  rw [hv_up (fun k hk => fn_out hk) j, Int.pow_add]
  have := h.is
  calc a * (B * (u ^ P.length * u ^ j)) = (a * (B * u ^ P.length)) * u ^ j := by grind
    _ = hv (fn P) t u P.length * b * u ^ j := by rw [this]
    _ = _ := by grind
theorem Wq.of_at {P : List Int} {B t u a b : Int} (hu : 0 < u) (hb : 0 < b) {N : Nat} (hN : P.length ≤ N) (h : a * (B * u ^ N) = hv (fn P) t u N * b) : Wq P B t u a b := by
  refine ⟨hb, ?_⟩
  obtain ⟨j, rfl⟩ : ∃ j, N = P.length + j := ⟨N - P.length, by first | lia | omega⟩
  rw [hv_up (fun k hk => fn_out hk) j, Int.pow_add] at h
  have U := pow_pos hu j
  refine Int.eq_of_mul_eq_mul_right (show u ^ j ≠ 0 by first | lia | omega) ?_
  calc a * (B * u ^ P.length) * u ^ j = a * (B * (u ^ P.length * u ^ j)) := by grind
    _ = hv (fn P) t u P.length * u ^ j * b := h
    _ = _ := by grind
/-- put in and worked out -/
theorem Wq.comp {P G R : List Int} {B U C t u a b x y : Int} (hB : 0 < B) (hU : 0 < U) (hu : 0 < u) (h1 : Wq G U t u a b) (h2 : Wq P B a b x y) (hR : ∀ k, R.getD k 0 * (B * U ^ P.length) = pc (fn P) (fn G) U P.length k * C) (hl : R.length ≤ P.length * G.length + 1) : Wq R C t u x y := by
  refine Wq.of_at hu h2.pos hl ?_
  have e0 : hv (fn R) t u (P.length * G.length + 1) * (B * U ^ P.length) = u * hv (fn P) (hv (fn G) t u G.length) (U * u ^ G.length) P.length * C := by
    rw [← hv_pc (fun k hk => fn_out hk), ← hv_mul, ← hv_mul]
    exact hv_congr fun j _ => hR j
  have e1 := h1.is
  have e2 := h2.is
  have e3 : hv (fn P) (hv (fn G) t u G.length) (U * u ^ G.length) P.length * b ^ P.length = hv (fn P) a b P.length * (U * u ^ G.length) ^ P.length := by
    rw [← hv_scale, ← hv_scale, ← e1, Int.mul_comm b]
  have e4 : (U * u ^ G.length) ^ P.length * u = U ^ P.length * u ^ (P.length * G.length + 1) := by
    rw [Int.mul_pow, ← Int.pow_mul, Int.pow_succ, Nat.mul_comm G.length]
    grind
  have b0 := pow_pos h1.pos P.length
  have U0 := pow_pos hU P.length
  generalize hv (fn R) t u (P.length * G.length + 1) = r at *
  generalize hv (fn P) (hv (fn G) t u G.length) (U * u ^ G.length) P.length = X2 at *
  generalize hv (fn P) a b P.length = X1 at *
  generalize (U * u ^ G.length) ^ P.length = W at *
  generalize u ^ (P.length * G.length + 1) = uN at *
  generalize U ^ P.length = UL at *
  generalize b ^ P.length = bL at *
  have nz : B * UL * bL ≠ 0 := Int.ne_of_gt (Int.mul_pos (Int.mul_pos hB U0) b0)
  refine Int.eq_of_mul_eq_mul_right nz ?_
  calc x * (C * uN) * (B * UL * bL) = (x * (B * bL)) * C * (UL * uN) := by grind
    _ = (X1 * y) * C * (W * u) := by rw [e2, e4]
    _ = (X1 * W) * y * C * u := by grind
    _ = (X2 * bL) * y * C * u := by rw [e3]
    _ = (u * X2 * C) * (bL * y) := by grind
    _ = (r * (B * UL)) * (bL * y) := by rw [e0]
    _ = r * y * (B * UL * bL) := by grind
/-- small tops that come to nothing at a great number are nothing -/
theorem all_zero {F : Nat → Int} {t : Int} (ht : 0 < t) : ∀ {n : Nat}, (∀ k, k < n → (F k).natAbs < t.natAbs) → sm (fun k => F k * t ^ k) n = 0 → ∀ k, k < n → F k = 0
  | 0, _, _, k, hk => absurd hk (Nat.not_lt_zero _)
  | n + 1, hF, h, k, hk => by
    rw [sm_head, Int.pow_zero, Int.mul_one] at h
    have e : sm (fun j => F (j + 1) * t ^ (j + 1)) n = sm (fun j => F (j + 1) * t ^ j) n * t := by
      rw [← sm_mul]
      exact sm_congr fun j _ => by rw [Int.pow_succ]; grind
    rw [e] at h
    have z : F 0 = 0 := by
      have d : t ∣ F 0 := ⟨- sm (fun j => F (j + 1) * t ^ j) n, by grind⟩
      have l := hF 0 (by first | lia | omega)
      exact Int.eq_zero_of_dvd_of_natAbs_lt_natAbs d l
    rw [z, Int.zero_add] at h
    have h' : sm (fun j => F (j + 1) * t ^ j) n = 0 := by
      rcases Int.mul_eq_zero.mp h with q | q
      · exact q
      · (first | lia | omega)
    cases k with
    | zero => exact z
    | succ k => exact all_zero (F := fun j => F (j + 1)) ht (fun j hj => hF (j + 1) (by first | lia | omega)) h' k (by first | lia | omega)
theorem hv_sm (F : Nat → Int) (t : Int) : ∀ n, hv F t 1 n = sm (fun k => F k * t ^ k) n
  | 0 => rfl
  | n + 1 => by rw [hv, hv_sm F t n, sm, Int.mul_one]
/-- worth the same at each whole number: the same -/
theorem same_of_worth {R S : List Int} {C D : Int} (f : Po.Fm R C) (f' : Po.Fm S D) (h : ∀ t : Int, 0 < t → ∃ x y, Wq R C t 1 x y ∧ Wq S D t 1 x y) : R = S ∧ C = D := by
  refine Po.uniq f f' fun k => ?_
  let N := max R.length S.length
  let F : Nat → Int := fun j => fn R j * D - fn S j * C
  have bd : ∃ t : Int, 0 < t ∧ ∀ j, j < N → (F j).natAbs < t.natAbs := by
    have : ∀ n : Nat, ∃ t : Int, 0 < t ∧ ∀ j, j < n → (F j).natAbs < t.natAbs := by
      intro n
      induction n with
      | zero => exact ⟨1, by decide, fun j h => absurd h (Nat.not_lt_zero _)⟩
      | succ n ih =>
        obtain ⟨t, t0, ht⟩ := ih
        refine ⟨t + ((F n).natAbs : Int) + 1, by first | lia | omega, fun j hj => ?_⟩
        rcases Nat.eq_or_lt_of_le (Nat.le_of_lt_succ hj) with e | e
        · rw [e]; (first | lia | omega)
        · have := ht j e; (first | lia | omega)
    exact this N
  obtain ⟨t, t0, ht⟩ := bd
  obtain ⟨x, y, w1, w2⟩ := h t t0
  have e1 := w1.at (N := N) (by first | lia | omega)
  have e2 := w2.at (N := N) (by first | lia | omega)
  rw [Int.one_pow, Int.mul_one] at e1 e2
  have z : sm (fun k => F k * t ^ k) N = 0 := by
    rw [← hv_sm]
    have : hv F t 1 N = hv (fn R) t 1 N * D + hv (fn S) t 1 N * (-C) := by
      rw [← hv_mul, ← hv_mul, ← hv_add]
      exact hv_congr fun j _ => by show fn R j * D - fn S j * C = _; grind
    rw [this]
    have y0 := w1.pos
    refine Int.eq_of_mul_eq_mul_right (show y ≠ 0 by first | lia | omega) ?_
    calc (hv (fn R) t 1 N * D + hv (fn S) t 1 N * -C) * y = (hv (fn R) t 1 N * y) * D - (hv (fn S) t 1 N * y) * C := by grind
      _ = (x * C) * D - (x * D) * C := by rw [e1, e2]
      _ = 0 * y := by grind
  rcases Nat.lt_or_ge k N with c | c
  · have := all_zero t0 ht z k c
    have q : fn R k * D - fn S k * C = 0 := this
    show fn R k * D = fn S k * C
    (first | lia | omega)
  · show fn R k * D = fn S k * C
    rw [fn_out (P := R) (by first | lia | omega), fn_out (P := S) (by first | lia | omega)]
    simp
/-! sizes -/
theorem cp_lt {g : Nat → Int} {m l : Nat} (hg : ∀ k, l ≤ k → g k = 0) (hs : ∀ k, Lt2 m (g k)) : ∀ n, n * l ≤ 400 → ∀ k, Lt2 ((m + 9) * n + 1) (cp g n k)
  | 0, _, k => by
    show Lt2 _ (if k = 0 then (1 : Int) else 0)
    split
    · unfold Lt2; exact Nat.lt_of_lt_of_le (show (1 : Int).natAbs < 2 ^ 1 by decide) (Nat.pow_le_pow_right (by decide) (by first | lia | omega))
    · exact Nat.pow_pos (by decide)
  | n + 1, h, k => by
    rw [Nat.succ_mul] at h
    have ih := cp_lt hg hs n (by first | lia | omega)
    rcases Nat.lt_or_ge k 500 with c | c
    · exact (cv_lt (b := 9) ih hs (by first | lia | omega)).mono (by rw [Nat.mul_succ]; (first | lia | omega))
    · rw [cp_out hg (n + 1) k (by rw [Nat.succ_mul]; (first | lia | omega))]
      exact Nat.pow_pos (by decide)
theorem pc_lt {F g : Nat → Int} {U : Int} {n m c l : Nat} (hg : ∀ k, l ≤ k → g k = 0) (hF : ∀ k, Lt2 n (F k)) (hs : ∀ k, Lt2 m (g k)) (hU : Lt2 c U) : ∀ i, i * l ≤ 400 → ∀ k, Lt2 (n + (m + c + 10) * i + 1) (pc F g U i k)
  | 0, _, k => Nat.pow_pos (by decide)
  | i + 1, h, k => by
    rw [Nat.succ_mul] at h
    have ih := pc_lt hg hF hs hU i (by first | lia | omega) k
    have h2 : Lt2 (n + (m + c + 10) * i + 1) (F i * cp g i k) := ((hF i).mul (cp_lt hg hs i (by first | lia | omega) k)).mono (by
      have : (m + 9) * i ≤ (m + c + 10) * i := Nat.mul_le_mul_right _ (by first | lia | omega)
      (first | lia | omega))
    exact ((ih.add h2).mul hU).mono (by rw [Nat.mul_succ]; (first | lia | omega))
/-! the letter -/
def X : List Int := [0, 1]
theorem fn_X (k : Nat) : fn X k = if k = 1 then 1 else 0 := by
  match k with
  | 0 => rfl
  | 1 => rfl
  | k + 2 =>
    rw [fn_out (P := X) (by show 2 ≤ _; (first | lia | omega)), if_neg (by first | lia | omega)]
theorem X_fm : Po.Fm X 1 := ⟨by decide, .inr (by decide), by decide⟩
/-- f of g, by its one form -/
def Of (P : List Int) (B : Int) (G : List Int) (U : Int) (R : List Int) (C : Int) : Prop := Po.Fm R C ∧ ∀ k, R.getD k 0 * (B * U ^ P.length) = pc (fn P) (fn G) U P.length k * C
theorem Of.len {P G R : List Int} {B U C : Int} (hB : 0 < B) (hU : 0 < U) (h : Of P B G U R C) : R.length ≤ P.length * G.length + 1 := by
  rcases h.1.last with e | e
  · subst e; exact Nat.zero_le _
  · rcases Nat.lt_or_ge (P.length * G.length + 1) R.length with c | c
    · refine absurd ?_ e
      have e3 := h.2 (R.length - 1)
      rw [pc_out (m := G.length) (fun k hk => fn_out hk) _ _ (by first | lia | omega), Int.zero_mul] at e3
      rcases Int.mul_eq_zero.mp e3 with q | q
      · exact q
      · have := Int.mul_pos hB (pow_pos hU P.length)
        (first | lia | omega)
    · exact c
/-- sizes, tops and bottom -/
structure Pz (n b : Nat) (P : List Int) (B : Int) : Prop where
  fm : Po.Fm P B
  tops : ∀ k, Lt2 n (P.getD k 0)
  bot : Lt2 b B
theorem Pz.mono {n b n' b' : Nat} {P : List Int} {B : Int} (h : Pz n b P B) (l : n ≤ n') (l' : b ≤ b') : Pz n' b' P B := ⟨h.fm, fun k => (h.tops k).mono l, h.bot.mono l'⟩
theorem Pz.mem {n b : Nat} {P : List Int} {B z : Int} (h : Pz n b P B) (m : z ∈ P) : Lt2 n z := by
  obtain ⟨k, rfl⟩ := Po.getD_mem m
  exact h.tops k
theorem Pz.of {n b : Nat} {P : List Int} {f : Nat → Int} {B c : Int} (F : Po.Fm P B) (hc : 0 < c) (h : ∀ k, P.getD k 0 * c = f k * B) (h1 : ∀ k, Lt2 n (f k)) (h2 : Lt2 b c) : Pz n b P B :=
  ⟨F, fun k => (h1 k).le ((Po.size F hc h).2 k), h2.le (Po.size F hc h).1⟩
theorem Of.size {P G R : List Int} {B U C : Int} {n b m c : Nat} (h : Of P B G U R C) (z1 : Pz n b P B) (z2 : Pz m c G U) (hl : P.length * G.length ≤ 400) : Pz (n + (m + c + 10) * P.length + 1) (b + (c * P.length + 1)) R C := by
  have Y := Int.mul_pos z1.fm.pos (pow_pos z2.fm.pos P.length)
  exact Pz.of h.1 Y h.2 (fun k => pc_lt (fun k hk => fn_out hk) (fun k => z1.tops k) (fun k => z2.tops k) z2.bot P.length hl k) (z1.bot.mul (pow_lt z2.bot P.length))
theorem cp_out' {g : Nat → Int} {m : Nat} (hg : ∀ k, m ≤ k → g k = 0) : ∀ (n k : Nat), n * (m - 1) + 1 ≤ k → cp g n k = 0
  | 0, k, h => by show (if k = 0 then (1 : Int) else 0) = 0; rw [if_neg (by first | lia | omega)]
  | n + 1, k, h => cv_out (a := n * (m - 1) + 1) (b := m) (cp_out' hg n) hg (by rw [Nat.succ_mul] at h; (first | lia | omega))
theorem pc_out' {F g : Nat → Int} {U : Int} {m : Nat} (hg : ∀ k, m ≤ k → g k = 0) : ∀ (n k : Nat), (n - 1) * (m - 1) + 1 ≤ k → pc F g U n k = 0
  | 0, _, _ => rfl
  | n + 1, k, h => by
    rw [Nat.add_sub_cancel] at h
    have : (n - 1) * (m - 1) ≤ n * (m - 1) := Nat.mul_le_mul_right _ (by first | lia | omega)
    show (pc F g U n k + F n * cp g n k) * U = 0
    rw [pc_out' hg n k (by first | lia | omega), cp_out' hg n k (by first | lia | omega)]
    simp
theorem len_of {R : List Int} {C c : Int} {f : Nat → Int} {N : Nat} (F : Po.Fm R C) (hc : 0 < c) (h : ∀ k, R.getD k 0 * c = f k * C) (hf : ∀ k, N ≤ k → f k = 0) : R.length ≤ N := by
  rcases F.last with e | e
  · subst e; exact Nat.zero_le _
  · rcases Nat.lt_or_ge N R.length with z | z
    · refine absurd ?_ e
      have e3 := h (R.length - 1)
      rw [hf _ (by first | lia | omega), Int.zero_mul] at e3
      rcases Int.mul_eq_zero.mp e3 with q | q
      · exact q
      · (first | lia | omega)
    · exact z
/-! the law's way, power by power -/
/-! sizes, again and again -/
theorem X_pz : Pz 1 1 X 1 := ⟨X_fm, fun k => by
  show Lt2 1 (fn X k)
  rw [fn_X]
  split <;> (unfold Lt2; decide), by unfold Lt2; decide⟩
end Pc

/-! a, b = l for a list l -/
namespace L2
open PySem PySem.Spec PyProof.Rows
section
variable {prog : Program} {w : World} {A : Around} {E : Value → Shared → Prop} {s : Shared}
end
section
variable {X : Cx}
end
end L2

/-! Straight polynomials: those of degree 1, and what turns them back. -/
namespace L2
instance decLt2 (n : Nat) (i : Int) : Decidable (Lt2 n i) := inferInstanceAs (Decidable (i.natAbs < 2 ^ n))
end L2
namespace Pc
open L2 Cv Hv
theorem cp1 (g : Nat → Int) (k : Nat) : cp g 1 k = g k := cv_d0 g k
theorem pc2 (F g : Nat → Int) (U : Int) (k : Nat) : pc F g U 2 k = (F 0 * d0 k * U + F 1 * g k) * U := by
  show ((0 + F 0 * d0 k) * U + F 1 * cp g 1 k) * U = _
  rw [cp1, Int.zero_add]
theorem Of.two {P G S : List Int} {B U D : Int} (h2 : P.length = 2) (hU : 0 < U) (h : Of P B G U S D) (k : Nat) : S.getD k 0 * (B * U) = (P.getD 0 0 * d0 k * U + P.getD 1 0 * G.getD k 0) * D := by
  have q := h.2 k
  rw [h2, pc2] at q
  have q' : S.getD k 0 * (B * U ^ 2) = (P.getD 0 0 * d0 k * U + P.getD 1 0 * G.getD k 0) * U * D := q
  refine Int.eq_of_mul_eq_mul_right (show U ≠ 0 by first | lia | omega) ?_
  rw [show (U : Int) ^ 2 = U * U by rw [Int.pow_succ, Int.pow_succ, Int.pow_zero, Int.one_mul]] at q'
  grind
/-- the straight one of the fractions ta / ba at 1, tb / bb at 0 -/
def St (ta ba tb bb : Int) (P : List Int) (B : Int) : Prop := Po.Fm P B ∧ ∀ k, P.getD k 0 * (ba * bb) = [tb * ba, ta * bb].getD k 0 * B
theorem two_out (x y : Int) (k : Nat) : [x, y].getD (k + 2) 0 = 0 := by simp
/-! one turn of the law's own putting in -/
theorem step_o {R G T : List Int} {M : Nat → Int} {B U W C tb : Int} {k : Nat} (c0 : 0 < C) (hR : ∀ j, R.getD j 0 * (B * W) = M j * U * C) (hT : T.getD k 0 * (C * U) = cv (fn R) (fn G) k * tb) : T.getD k 0 * (B * (W * U)) = cv M (fn G) k * U * tb := by
  have e1 : cv (fn R) (fn G) k * (B * W) = cv M (fn G) k * (U * C) := by
    rw [← cv_scale, ← cv_scale]
    exact cv_congr (fun j => by show R.getD j 0 * (B * W) = _; rw [hR j]; grind) fun _ => rfl
  refine Int.eq_of_mul_eq_mul_right (show C ≠ 0 by first | lia | omega) ?_
  generalize cv (fn R) (fn G) k = X at *
  generalize cv M (fn G) k = Y at *
  generalize T.getD k 0 = Tk at *
  calc Tk * (B * (W * U)) * C = (Tk * (C * U)) * (B * W) := by grind
    _ = (X * tb) * (B * W) := by rw [hT]
    _ = (X * (B * W)) * tb := by grind
    _ = (Y * (U * C)) * tb := by rw [e1]
    _ = _ := by grind
theorem step_p {S T E : Int} {B W U tb e sb q x : Int} (t0 : 0 < tb) (e0 : 0 < e) (hT : T * (B * (W * U)) = q * U * tb) (hE : E * B = x * e) (hS : S * (tb * e) = (T * e + E * tb) * sb) : S * (B * (W * U)) = (q + x * W) * U * sb := by
  refine Int.eq_of_mul_eq_mul_right (show tb * e ≠ 0 from Int.ne_of_gt (Int.mul_pos t0 e0)) ?_
  calc S * (B * (W * U)) * (tb * e) = (S * (tb * e)) * (B * (W * U)) := by grind
    _ = ((T * e + E * tb) * sb) * (B * (W * U)) := by rw [hS]
    _ = ((T * (B * (W * U))) * e + (E * B) * (W * U) * tb) * sb := by grind
    _ = ((q * U * tb) * e + (x * e) * (W * U) * tb) * sb := by rw [hT, hE]
    _ = _ := by grind
end Pc
namespace Pc
open L2 Cv Hv
end Pc

/-! Polynomials by what they come to at fractions. -/
namespace Qp
open L2 Cv Hv Pc
theorem ne_of_pos {b : Int} (h : 0 < b) : (b : Rat) ≠ 0 := fun z => by
  have := Rat.intCast_eq_zero_iff.mp z
  (first | lia | omega)
theorem ne_of_ne {b : Int} (h : b ≠ 0) : (b : Rat) ≠ 0 := fun z => h (Rat.intCast_eq_zero_iff.mp z)
theorem pow_ne {b : Rat} (h : b ≠ 0) : ∀ n : Nat, b ^ n ≠ 0
  | 0 => by rw [Rat.pow_zero]; decide
  | n + 1 => fun z => by
    rw [Rat.pow_succ] at z
    rcases Rat.mul_eq_zero.mp z with w | w
    · exact pow_ne h n w
    · exact h w
theorem pow_div (a : Rat) {b : Rat} (h : b ≠ 0) : ∀ n : Nat, (a / b) ^ n * b ^ n = a ^ n
  | 0 => by rw [Rat.pow_zero, Rat.pow_zero, Rat.pow_zero]; grind
  | n + 1 => by
    have ih := pow_div a h n
    rw [Rat.pow_succ, Rat.pow_succ, Rat.pow_succ, ← ih]
    grind
/-- cross-multiplied -/
theorem div_eq {a b c d : Int} (hb : b ≠ 0) (hd : d ≠ 0) : ((a : Rat) / (b : Rat) = (c : Rat) / (d : Rat)) ↔ a * d = c * b := by
  have h1 := ne_of_ne hb
  have h2 := ne_of_ne hd
  constructor
  · intro h
    have : (a : Rat) * (d : Rat) = (c : Rat) * (b : Rat) := by grind
    rw [← Rat.intCast_mul, ← Rat.intCast_mul] at this
    exact Rat.intCast_inj.mp this
  · intro h
    have : (a : Rat) * (d : Rat) = (c : Rat) * (b : Rat) := by rw [← Rat.intCast_mul, ← Rat.intCast_mul, h]
    grind
theorem num_den (x : Rat) : ∃ t u : Int, 0 < u ∧ x = (t : Rat) / (u : Rat) := by
  refine ⟨x.num, (x.den : Int), ?_, ?_⟩
  · have := Nat.pos_of_ne_zero x.den_nz
    (first | lia | omega)
  · have := Rat.num_divInt_den x
    rw [Rat.divInt_eq_div] at this
    exact this.symm
/-- what tops come to at x, the first n of them -/
def ei (F : Nat → Int) (x : Rat) : Nat → Rat
  | 0 => 0
  | n + 1 => ei F x n + (F n : Rat) * x ^ n
theorem ei_up {F : Nat → Int} {x : Rat} {n : Nat} (h : ∀ k, n ≤ k → F k = 0) : ∀ j, ei F x (n + j) = ei F x n
  | 0 => rfl
  | j + 1 => by
    rw [← Nat.add_assoc, ei, ei_up h j, h (n + j) (by first | lia | omega)]
    grind
theorem ei_lin {F G : Nat → Int} {a b : Int} {x : Rat} (h : ∀ k, F k * a = G k * b) : ∀ n, ei F x n * (a : Rat) = ei G x n * (b : Rat)
  | 0 => by rw [ei, ei]; grind
  | n + 1 => by
    have ih := ei_lin (x := x) h n
    have e : (F n : Rat) * (a : Rat) = (G n : Rat) * (b : Rat) := by rw [← Rat.intCast_mul, ← Rat.intCast_mul, h n]
    rw [ei, ei]
    grind
theorem ei_add (F G : Nat → Int) (x : Rat) : ∀ n, ei (fun k => F k + G k) x n = ei F x n + ei G x n
  | 0 => by rw [ei, ei, ei]; grind
  | n + 1 => by
    rw [ei, ei, ei, ei_add F G x n, Rat.intCast_add]
    grind
theorem ei_mul (F : Nat → Int) (c : Int) (x : Rat) : ∀ n, ei (fun k => F k * c) x n = ei F x n * (c : Rat)
  | 0 => by rw [ei, ei]; grind
  | n + 1 => by
    rw [ei, ei, ei_mul F c x n, Rat.intCast_mul]
    grind
theorem hv_ei (F : Nat → Int) (t : Int) {u : Int} (hu : 0 < u) : ∀ n, ((hv F t u n : Int) : Rat) = (u : Rat) ^ n * ei F ((t : Rat) / (u : Rat)) n
  | 0 => by rw [hv, ei]; grind
  | n + 1 => by
    have hn := ne_of_pos hu
    have ih := hv_ei F t hu n
    have p := pow_div (t : Rat) hn n
    rw [hv, ei, Rat.intCast_mul, Rat.intCast_add, Rat.intCast_mul, Rat.intCast_pow, ih, Rat.pow_succ, ← p]
    grind
/-- what a polynomial comes to at x -/
def E (P : List Int) (B : Int) (x : Rat) : Rat := ei (fn P) x P.length / (B : Rat)
theorem E_at {P : List Int} {B : Int} {x : Rat} {N : Nat} (h : P.length ≤ N) : E P B x = ei (fn P) x N / (B : Rat) := by
  obtain ⟨j, rfl⟩ : ∃ j, N = P.length + j := ⟨N - P.length, by first | lia | omega⟩
  rw [ei_up (fun k hk => fn_out hk) j]
  rfl
theorem wq {P : List Int} {B t u a b : Int} (hB : 0 < B) (hu : 0 < u) (hb : 0 < b) : Wq P B t u a b ↔ E P B ((t : Rat) / (u : Rat)) = (a : Rat) / (b : Rat) := by
  have nB := ne_of_pos hB
  have nu := ne_of_pos hu
  have nb := ne_of_pos hb
  have nU := pow_ne nu P.length
  have key := hv_ei (fn P) t hu P.length
  constructor
  · intro h
    have e := congrArg (fun z : Int => (z : Rat)) h.is
    simp only [Rat.intCast_mul, Rat.intCast_pow] at e
    rw [key] at e
    unfold E
    generalize (u : Rat) ^ P.length = U at *
    generalize ei (fn P) ((t : Rat) / (u : Rat)) P.length = X at *
    have : (a : Rat) * (B : Rat) = X * (b : Rat) := by
      have : ((a : Rat) * (B : Rat) - X * (b : Rat)) * U = 0 := by grind
      rcases Rat.mul_eq_zero.mp this with w | w
      · grind
      · exact absurd w nU
    grind
  · intro h
    refine ⟨hb, ?_⟩
    unfold E at h
    have : ((a * (B * u ^ P.length) : Int) : Rat) = ((hv (fn P) t u P.length * b : Int) : Rat) := by
      simp only [Rat.intCast_mul, Rat.intCast_pow]
      rw [key]
      generalize (u : Rat) ^ P.length = U at *
      generalize ei (fn P) ((t : Rat) / (u : Rat)) P.length = X at *
      have : X * (b : Rat) = (a : Rat) * (B : Rat) := by grind
      grind
    exact Rat.intCast_inj.mp this
/-- put in -/
theorem E_of {P G R : List Int} {B U C : Int} (hB : 0 < B) (hU : 0 < U) (h : Of P B G U R C) (x : Rat) : E R C x = E P B (E G U x) := by
  obtain ⟨t, u, hu, rfl⟩ := num_den x
  obtain ⟨a, b, hb, e1⟩ := num_den (E G U ((t : Rat) / (u : Rat)))
  obtain ⟨c, d, hd, e2⟩ := num_den (E P B ((a : Rat) / (b : Rat)))
  rw [e1, e2]
  exact (wq h.1.pos hu hd).mp (Wq.comp hB hU hu ((wq hU hu hb).mpr e1) ((wq hB hb hd).mpr e2) h.2 (h.len hB hU))
/-- the same everywhere: the same -/
theorem E_inj {R S : List Int} {C D : Int} (f : Po.Fm R C) (f' : Po.Fm S D) (h : ∀ x, E R C x = E S D x) : R = S ∧ C = D := by
  refine same_of_worth f f' fun t ht => ?_
  obtain ⟨a, b, hb, e⟩ := num_den (E R C ((t : Rat) / ((1 : Int) : Rat)))
  exact ⟨a, b, (wq f.pos (by decide) hb).mpr e, (wq f'.pos (by decide) hb).mpr ((h _).symm.trans e)⟩
/-- from tops -/
theorem E_tops {R : List Int} {C c : Int} {f : Nat → Int} {x : Rat} {N : Nat} (hC : 0 < C) (hc : c ≠ 0) (h : ∀ k, R.getD k 0 * c = f k * C) (hN : R.length ≤ N) : E R C x = ei f x N / (c : Rat) := by
  rw [E_at hN]
  have e := ei_lin (F := fn R) (G := f) (x := x) h N
  have n1 := ne_of_pos hC
  have n2 := ne_of_ne hc
  grind
theorem E_sum {P1 P2 R : List Int} {B1 B2 C : Int} (h1 : 0 < B1) (h2 : 0 < B2) (hC : 0 < C) (h : ∀ k, R.getD k 0 * (B1 * B2) = (P1.getD k 0 * B2 + P2.getD k 0 * B1) * C) (x : Rat) : E R C x = E P1 B1 x + E P2 B2 x := by
  have l1 : P1.length ≤ P1.length + P2.length + R.length := by first | lia | omega
  have l2 : P2.length ≤ P1.length + P2.length + R.length := by first | lia | omega
  have l3 : R.length ≤ P1.length + P2.length + R.length := by first | lia | omega
  rw [E_tops hC (Int.ne_of_gt (Int.mul_pos h1 h2)) h l3, E_at l1, E_at l2, ei_add, ei_mul, ei_mul, Rat.intCast_mul]
  have n1 := ne_of_pos h1
  have n2 := ne_of_pos h2
  show (ei (fn P1) x _ * _ + ei (fn P2) x _ * _) / _ = _
  generalize ei (fn P1) x (P1.length + P2.length + R.length) = X
  generalize ei (fn P2) x (P1.length + P2.length + R.length) = Y
  grind
theorem ei1 (F : Nat → Int) (x : Rat) : ei F x 1 = (F 0 : Rat) := by
  show 0 + (F 0 : Rat) * x ^ 0 = _
  rw [Rat.pow_zero]
  grind
theorem ei2 (F : Nat → Int) (x : Rat) : ei F x 2 = (F 0 : Rat) + (F 1 : Rat) * x := by
  show ei F x 1 + (F 1 : Rat) * x ^ 1 = _
  rw [ei1, Rat.pow_one]
theorem E_two {P : List Int} {B : Int} (l : P.length ≤ 2) (x : Rat) : E P B x = ((P.getD 0 0 : Int) : Rat) / (B : Rat) + ((P.getD 1 0 : Int) : Rat) / (B : Rat) * x := by
  rw [E_at l, ei2]
  show (((P.getD 0 0 : Int) : Rat) + ((P.getD 1 0 : Int) : Rat) * x) / _ = _
  grind
theorem E_const {R : List Int} {C c b : Int} (f : Po.Fm R C) (hb : 0 < b) (h : ∀ k, R.getD k 0 * b = [c].getD k 0 * C) (x : Rat) : E R C x = (c : Rat) / (b : Rat) := by
  have l : R.length ≤ 1 := len_of f hb h fun k hk => by
    obtain ⟨j, rfl⟩ : ∃ j, k = j + 1 := ⟨k - 1, by first | lia | omega⟩
    simp
  rw [E_tops f.pos (Int.ne_of_gt hb) h l, ei1]
  rfl
theorem E_St {ta ba tb bb B : Int} {P : List Int} (h : St ta ba tb bb P B) (h1 : 0 < ba) (h2 : 0 < bb) (x : Rat) : E P B x = (ta : Rat) / (ba : Rat) * x + (tb : Rat) / (bb : Rat) := by
  have p := Int.mul_pos h1 h2
  have l : P.length ≤ 2 := len_of h.1 p h.2 fun k hk => by
    obtain ⟨j, rfl⟩ : ∃ j, k = j + 2 := ⟨k - 2, by first | lia | omega⟩
    exact two_out _ _ _
  rw [E_tops h.1.pos (Int.ne_of_gt p) h.2 l, ei2]
  show (((tb * ba : Int) : Rat) + ((ta * bb : Int) : Rat) * x) / ((ba * bb : Int) : Rat) = _
  rw [Rat.intCast_mul, Rat.intCast_mul, Rat.intCast_mul]
  have n1 := ne_of_pos h1
  have n2 := ne_of_pos h2
  grind
theorem E_X (x : Rat) : E X 1 x = x := by
  rw [E_two (by decide)]
  show ((0 : Int) : Rat) / ((1 : Int) : Rat) + ((1 : Int) : Rat) / ((1 : Int) : Rat) * x = x
  grind
/-- a coefficient -/
def q (P : List Int) (B : Int) (k : Nat) : Rat := ((P.getD k 0 : Int) : Rat) / (B : Rat)
theorem q_of {R : List Int} {C c : Int} {f : Nat → Int} (hC : 0 < C) (hc : c ≠ 0) (h : ∀ k, R.getD k 0 * c = f k * C) (k : Nat) : q R C k = ((f k : Int) : Rat) / (c : Rat) := (div_eq (Int.ne_of_gt hC) hc).mpr (h k)
theorem q_out {P : List Int} {B : Int} {k : Nat} (h : P.length ≤ k) : q P B k = 0 := by
  unfold q
  rw [List.getD_eq_getElem?_getD, List.getElem?_eq_none h]
  show ((0 : Int) : Rat) / _ = 0
  grind
theorem q_lead {P : List Int} {B : Int} (f : Po.Fm P B) (h : P ≠ []) : q P B (P.length - 1) ≠ 0 := by
  rcases f.last with e | e
  · exact absurd e h
  · unfold q
    have n1 := ne_of_ne e
    have n2 := ne_of_pos f.pos
    intro z
    generalize ((P.getD (P.length - 1) 0 : Int) : Rat) = a at *
    grind
/-! the two greatest coefficients of one put into a straight one -/
theorem cp_st {g : Nat → Int} (hg : ∀ k, 2 ≤ k → g k = 0) : ∀ n, cp g n n = g 1 ^ n ∧ cp g (n + 1) n = (n + 1 : Int) * g 1 ^ n * g 0 ∧ ∀ k, n < k → cp g n k = 0
  | 0 => by
    refine ⟨by rw [Int.pow_zero]; rfl, ?_, fun k hk => by show (if k = 0 then (1 : Int) else 0) = 0; rw [if_neg (by first | lia | omega)]⟩
    rw [cp1]
    simp
  | n + 1 => by
    obtain ⟨h1, h2, h3⟩ := cp_st hg n
    have hz : ∀ (f : Nat → Int) (k : Nat), cv f g (k + 1) = f (k + 1) * g 0 + f k * g 1 := fun f k => by
      rw [cv_comm]
      have : tm g f 2 (k + 1) = cv g f (k + 1) := tm_cv hg
      rw [← this]
      show (0 + (if 0 ≤ k + 1 then g 0 * f (k + 1 - 0) else 0)) + (if 1 ≤ k + 1 then g 1 * f (k + 1 - 1) else 0) = _
      rw [if_pos (by first | lia | omega), if_pos (by first | lia | omega), Nat.sub_zero, Nat.add_sub_cancel]
      grind
    have a1 : cp g (n + 1) (n + 1) = g 1 ^ (n + 1) := by
      show cv (cp g n) g (n + 1) = _
      rw [hz, h3 (n + 1) (by first | lia | omega), h1, Int.pow_succ]
      grind
    refine ⟨a1, ?_, fun k hk => ?_⟩
    · show cv (cp g (n + 1)) g (n + 1) = _
      rw [hz, a1, h2, Int.pow_succ]
      push_cast
      grind
    · obtain ⟨j, rfl⟩ : ∃ j, k = j + 1 := ⟨k - 1, by first | lia | omega⟩
      show cv (cp g n) g (j + 1) = 0
      rw [hz, h3 (j + 1) (by first | lia | omega), h3 j (by first | lia | omega)]
      simp
theorem pc_st {F g : Nat → Int} {U : Int} (hg : ∀ k, 2 ≤ k → g k = 0) (n : Nat) : pc F g U (n + 1) n = F n * g 1 ^ n * U ∧ (∀ k, n < k → pc F g U (n + 1) k = 0) := by
  have z : ∀ n k, n ≤ k → pc F g U n k = 0 := fun n k hk => by
    cases n with
    | zero => rfl
    | succ n => exact pc_out' (m := 2) hg (n + 1) k (by first | lia | omega)
  refine ⟨?_, fun k hk => z _ _ hk⟩
  show (pc F g U n n + F n * cp g n n) * U = _
  rw [z n n (Nat.le_refl _), (cp_st hg n).1]
  grind
theorem pc_st2 {F g : Nat → Int} {U : Int} (hg : ∀ k, 2 ≤ k → g k = 0) (n : Nat) : pc F g U (n + 2) n = (F n * U + F (n + 1) * (n + 1 : Int) * g 0) * g 1 ^ n * U := by
  show (pc F g U (n + 1) n + F (n + 1) * cp g (n + 1) n) * U = _
  rw [(pc_st hg n).1, (cp_st hg n).2.1]
  grind
/-- the greatest coefficient, and the length -/
theorem of_st {P G R : List Int} {B U C : Int} (f : Po.Fm P B) (fG : Po.Fm G U) (lG : G.length = 2) (hP : P ≠ []) (g1 : G.getD 1 0 ≠ 0) (h : Of P B G U R C) :
    R.length = P.length ∧ q R C (P.length - 1) = q P B (P.length - 1) * q G U 1 ^ (P.length - 1) := by
  have hB := f.pos
  have hU := fG.pos
  have hC := h.1.pos
  have hg : ∀ k, 2 ≤ k → fn G k = 0 := fun k hk => fn_out (by first | lia | omega)
  obtain ⟨n, hn⟩ : ∃ n, P.length = n + 1 := ⟨P.length - 1, by cases P; exact absurd rfl hP; simp⟩
  have hW := Int.mul_pos hB (pow_pos hU (n + 1))
  have h2 := h.2
  rw [hn] at h2
  have e := q_of hC (Int.ne_of_gt hW) h2 n
  rw [(pc_st hg n).1, Rat.intCast_mul, Rat.intCast_mul, Rat.intCast_mul, Rat.intCast_pow, Rat.intCast_pow] at e
  have nB := ne_of_pos hB
  have nU := ne_of_pos hU
  have nUn := pow_ne nU n
  have e2 : q R C n = q P B n * q G U 1 ^ n := by
    rw [e]
    show ((P.getD n 0 : Int) : Rat) * ((G.getD 1 0 : Int) : Rat) ^ n * (U : Rat) / ((B : Rat) * (U : Rat) ^ (n + 1)) = ((P.getD n 0 : Int) : Rat) / (B : Rat) * (((G.getD 1 0 : Int) : Rat) / (U : Rat)) ^ n
    have p := pow_div ((G.getD 1 0 : Int) : Rat) nU n
    rw [← p, Rat.pow_succ]
    generalize (((G.getD 1 0 : Int) : Rat) / (U : Rat)) ^ n = Z
    generalize (U : Rat) ^ n = W at *
    grind
  have l1 : R.length ≤ n + 1 := len_of h.1 hW h2 fun k hk => (pc_st hg n).2 k (by first | lia | omega)
  rw [hn, Nat.add_sub_cancel]
  refine ⟨?_, e2⟩
  rcases Nat.lt_or_ge R.length (n + 1) with z | z
  · have z1 := q_out (B := C) (show R.length ≤ n by first | lia | omega)
    rw [z1] at e2
    have z2 := q_lead f hP
    rw [hn, Nat.add_sub_cancel] at z2
    have z3 : q G U 1 ≠ 0 := by
      unfold q
      have n1 := ne_of_ne g1
      generalize ((G.getD 1 0 : Int) : Rat) = a at *
      intro z
      grind
    have z4 := pow_ne z3 n
    rcases Rat.mul_eq_zero.mp e2.symm with w | w
    · exact absurd w z2
    · exact absurd w z4
  · (first | lia | omega)
/-- the one but greatest -/
theorem of_st2 {P G R : List Int} {B U C : Int} (f : Po.Fm P B) (fG : Po.Fm G U) (lG : G.length = 2) (hP : 2 ≤ P.length) (h : Of P B G U R C) :
    q R C (P.length - 2) = (q P B (P.length - 2) + q P B (P.length - 1) * ((P.length - 1 : Nat) : Rat) * q G U 0) * q G U 1 ^ (P.length - 2) := by
  have hB := f.pos
  have hU := fG.pos
  have hC := h.1.pos
  have hg : ∀ k, 2 ≤ k → fn G k = 0 := fun k hk => fn_out (by first | lia | omega)
  obtain ⟨n, hn⟩ : ∃ n, P.length = n + 2 := ⟨P.length - 2, by first | lia | omega⟩
  have hW := Int.mul_pos hB (pow_pos hU (n + 2))
  have h2 := h.2
  rw [hn] at h2
  have e := q_of hC (Int.ne_of_gt hW) h2 n
  rw [pc_st2 hg n] at e
  rw [hn, Nat.add_sub_cancel, show n + 2 - 1 = n + 1 by first | lia | omega, e]
  have nB := ne_of_pos hB
  have nU := ne_of_pos hU
  have nUn := pow_ne nU n
  have p := pow_div ((G.getD 1 0 : Int) : Rat) nU n
  have e3 : ((n + 1 : Nat) : Rat) = ((n : Int) : Rat) + 1 := by rw [Rat.natCast_add]; rfl
  rw [e3]
  simp only [Rat.intCast_mul, Rat.intCast_pow, Rat.intCast_add]
  show (((P.getD n 0 : Int) : Rat) * (U : Rat) + ((P.getD (n + 1) 0 : Int) : Rat) * (((n : Int) : Rat) + ((1 : Int) : Rat)) * ((G.getD 0 0 : Int) : Rat)) * ((G.getD 1 0 : Int) : Rat) ^ n * (U : Rat) / ((B : Rat) * (U : Rat) ^ (n + 2)) = (((P.getD n 0 : Int) : Rat) / (B : Rat) + ((P.getD (n + 1) 0 : Int) : Rat) / (B : Rat) * (((n : Int) : Rat) + 1) * (((G.getD 0 0 : Int) : Rat) / (U : Rat))) * (((G.getD 1 0 : Int) : Rat) / (U : Rat)) ^ n
  rw [← p, Rat.pow_succ, Rat.pow_succ]
  generalize (((G.getD 1 0 : Int) : Rat) / (U : Rat)) ^ n = Z
  generalize (U : Rat) ^ n = W at *
  generalize ((P.getD n 0 : Int) : Rat) = a
  generalize ((P.getD (n + 1) 0 : Int) : Rat) = b
  generalize ((n : Int) : Rat) = c
  generalize ((G.getD 0 0 : Int) : Rat) = d
  have : ((1 : Int) : Rat) = 1 := rfl
  rw [this]
  grind
end Qp

/-! Fractions by their worth. -/
namespace L2
open PySem Qp
def Fq (K : PySem.W.Frag) (n b : Nat) (H : Hp) (v : V) (r : Rat) : Prop := ∃ (p : Addr) (t u : Int), v = .ref p ∧ SqT K H p [.int t, .int u] ∧ 0 < u ∧ Int.gcd t u = 1 ∧ Lt2 n t ∧ Lt2 b u ∧ r = (t : Rat) / (u : Rat)
variable {K : PySem.W.Frag} {H H' : Hp} {v : V} {r : Rat} {n b n' b' : Nat}
theorem Fq.same (h : Fq K n b H v r) (s : Same H H') : Fq K n b H' v r := by
  obtain ⟨p, t, u, e, q, z⟩ := h
  exact ⟨p, t, u, e, q.same s, z⟩
theorem Fq.mono (h : Fq K n b H v r) (l : n ≤ n') (l' : b ≤ b') : Fq K n' b' H v r := by
  obtain ⟨p, t, u, e, q, z1, z2, z3, z4, z5⟩ := h
  exact ⟨p, t, u, e, q, z1, z2, z3.mono l, z4.mono l', z5⟩
/-- a fraction told in lowest terms -/
theorem Fq.of {p : Addr} {T U : Int} (h : SqT K H p [.int (Fr.top T U), .int (Fr.bot T U)]) (hU : U ≠ 0) (l1 : Lt2 n T) (l2 : Lt2 b U) : Fq K n b H (.ref p) ((T : Rat) / (U : Rat)) := by
  obtain ⟨x1, x2, x3⟩ := Fr.low (t := T) hU
  have x4 := Fr.top_le (t := T) hU
  exact ⟨p, _, _, rfl, h, x1, x3, l1.le x4.1, l2.le x4.2, (div_eq hU (by first | lia | omega)).mpr x2.symm⟩
/-- sizes by any way to tell it -/
theorem Fq.sharp (h : Fq K n b H v r) {T U : Int} (hU : U ≠ 0) (e : r = (T : Rat) / (U : Rat)) (l1 : Lt2 n' T) (l2 : Lt2 b' U) : Fq K n' b' H v r := by
  obtain ⟨p, t, u, e0, q, z1, z2, z3, z4, z5⟩ := h
  have c := (div_eq (by first | lia | omega) hU).mp (z5.symm.trans e)
  obtain ⟨y1, y2⟩ := Fr.uniq (t := T) (b := U) hU z1 z2 c.symm
  have x4 := Fr.top_le (t := T) hU
  rw [y1, y2] at x4
  exact ⟨p, t, u, e0, q, z1, z2, l1.le x4.1, l2.le x4.2, z5⟩
theorem Fq.lay {p : Addr} {t : Int} (h : SqT K H p [.int t, .int 1]) (l : Lt2 n t) : Fq K n 1 H (.ref p) (t : Rat) := by
  refine ⟨p, t, 1, rfl, h, by decide, by simp, l, by decide, ?_⟩
  show (t : Rat) = (t : Rat) / ((1 : Int) : Rat)
  have : ((1 : Int) : Rat) = 1 := rfl
  rw [this]
  grind
theorem Fq.ne {p : Addr} {t u : Int} (hu : 0 < u) (e : r = (t : Rat) / (u : Rat)) : r ≠ 0 ↔ t ≠ 0 := by
  have n1 := ne_of_pos hu
  subst e
  constructor
  · intro h z
    subst z
    refine h ?_
    have : ((0 : Int) : Rat) = 0 := rfl
    rw [this]
    grind
  · intro h z
    have h' := ne_of_ne h
    generalize (t : Rat) = a at *
    grind
/-- tops, tops' and bottoms' sizes of straight ones -/
theorem st_sz {ta ba tb bb B : Int} {P : List Int} {n1 b1 n2 b2 : Nat} (h : Pc.St ta ba tb bb P B) (a0 : 0 < ba) (b0 : 0 < bb) (l1 : Lt2 n1 ta) (l2 : Lt2 b1 ba) (l3 : Lt2 n2 tb) (l4 : Lt2 b2 bb) : Pc.Pz (n1 + n2 + b1 + b2) (b1 + b2) P B :=
  Pc.Pz.of h.1 (Int.mul_pos a0 b0) h.2 (fun k => by
    match k with
    | 0 => exact (l3.mul l2).mono (by first | lia | omega)
    | 1 => exact (l1.mul l4).mono (by first | lia | omega)
    | k + 2 => rw [Pc.two_out]; exact Nat.pow_pos (by decide)) (l2.mul l4)
theorem Def.imp {P : Program} {w : World} {mg : Str → Option Value} {base : Heap} {x : Str} {k : Nat} {ps : List Str} {sp sp' : Sp} (g : Def P w K mg base x k ps sp) (h : ∀ vs H Q E, sp' vs H Q E → sp vs H Q E) : Def P w K mg base x k ps sp' := by
  obtain ⟨f, fd, F, r⟩ := g.ex
  exact ⟨f, fd, F.imp h, r⟩
theorem comp_tupIf {a : Addr} {xs : List V} {g : TG} {tt : TT} {te : TE} {Q : VK} {σ : St} {H : Hp} (hn : xs.length ≤ sizeLine) (Pv : Nat → St → List V → Hp → Prop) (h0 : Pv 0 σ [] H) (hb : ∀ i τ ys H, Pv i τ ys H → ys.length ≤ i) (hq : ∀ i τ ys H, Pv i τ ys H → SqT K H a xs)
    (hs : ∀ i x τ ys H, xs[i]? = some x → Pv i τ ys H → g x τ H fun τ2 H2 => tt τ2 H2 fun b H3 => if b = true then te τ2 H3 fun v H4 => ∃ m', m' < xs.length - i ∧ m' = xs.length - (i + 1) ∧ i + 1 ≤ xs.length ∧ Pv (i + 1) τ2 (ys ++ [v]) H4 else ∃ m', m' < xs.length - i ∧ m' = xs.length - (i + 1) ∧ i + 1 ≤ xs.length ∧ Pv (i + 1) τ2 ys H3)
    (hd : ∀ τ ys H D, Pv xs.length τ ys H → H D = none → Q (.ref D) (upd H D (.lst ys))) : CompR (Itt K a) g tt te σ Q H := by
  refine ⟨fun i m τ ys H => m = xs.length - i ∧ i ≤ xs.length ∧ Pv i τ ys H, ⟨xs.length, by simp, Nat.zero_le _, h0⟩, ?_⟩
  rintro i m τ ys H ⟨rfl, hi, p⟩
  have hl := hb i τ ys H p
  have q := hq i τ ys H p
  by_cases hlt : i < xs.length
  · refine .inr ⟨⟨xs, xs[i], q, by simp [hlt]⟩, by first | lia | omega, fun x H' y => ?_⟩
    obtain ⟨e, y⟩ := y
    subst e
    exact hs i x τ ys _ (y xs q) p
  · have e : i = xs.length := by first | lia | omega
    subst e
    exact .inl ⟨⟨xs, q, Nat.le_refl _⟩, fun D hD => hd τ ys H D p hD⟩
end L2
namespace Qp
open L2 Cv Hv Pc
theorem q_zero {P : List Int} {B : Int} : E P B 0 = q P B 0 := by
  unfold E q
  have : ∀ n, 0 < n → ei (fn P) 0 n = ((P.getD 0 0 : Int) : Rat) := by
    intro n hn
    induction n with
    | zero => (first | lia | omega)
    | succ n ih =>
      rw [ei]
      cases n with
      | zero =>
        rw [ei, Rat.pow_zero]
        show 0 + ((P.getD 0 0 : Int) : Rat) * 1 = _
        grind
      | succ n =>
        rw [ih (by first | lia | omega), Rat.pow_succ]
        grind
  cases hP : P.length with
  | zero =>
    have : P = [] := List.length_eq_zero_iff.mp hP
    subst this
    show 0 / _ = ((0 : Int) : Rat) / _
    rfl
  | succ n => rw [this (n + 1) (by first | lia | omega)]
theorem q_sum {P1 P2 R : List Int} {B1 B2 C : Int} (h1 : 0 < B1) (h2 : 0 < B2) (hC : 0 < C) (h : ∀ k, R.getD k 0 * (B1 * B2) = (P1.getD k 0 * B2 + P2.getD k 0 * B1) * C) (k : Nat) : q R C k = q P1 B1 k + q P2 B2 k := by
  have e := q_of (f := fun k => P1.getD k 0 * B2 + P2.getD k 0 * B1) hC (Int.ne_of_gt (Int.mul_pos h1 h2)) h k
  rw [e]
  have n1 := ne_of_pos h1
  have n2 := ne_of_pos h2
  unfold q
  simp only [Rat.intCast_mul, Rat.intCast_add]
  grind
end Qp

namespace HT
open PySem PyProof.Rows
variable {prog : Program} {w : World} {A : Around} {E : Value → Shared → Prop} {s : Shared}
theorem fm_congr {α β : Type} {f g : α → Option β} : ∀ {l : List α}, (∀ a ∈ l, f a = g a) → l.filterMap f = l.filterMap g
  | [], _ => rfl
  | a :: l, h => by
    rw [List.filterMap_cons, List.filterMap_cons, h a List.mem_cons_self, fm_congr fun b hb => h b (List.mem_cons_of_mem _ hb)]
theorem sliceApplied_odd {sl : Addr} {vl vs : Value} {n : Nat} {Q : Int × Int × Nat → Shared → Prop} (hs : s.heap.IsSliceOf sl vl .none vs) (pl : IsPart vl (some 1)) (ps : IsPart vs (some 2))
    (h : Q (((min 1 n : Nat) : Int), 2, n / 2) s) : wpAny (model prog w) A (Builtin.Slice.sliceApplied (.ref sl) (pure (n : Int))) Q E s := by
  obtain ⟨os, hos, hcs, hds⟩ := id hs
  unfold Builtin.Slice.sliceApplied Builtin.Slice.sliceFields
  refine wpAny_bind (wpAny_bind (wpAny_field hos hds (x := vl) rfl (wpAny_bind (wpAny_field hos hds (x := .none) rfl (wpAny_bind (wpAny_field hos hds (x := vs) rfl (wpAny_pure ?_)))))))
  refine wpAny_bind (slicePart_ ps ?_)
  show wpAny _ _ (if ((2 : Int) == 0) = true then _ else _) _ _ s
  rw [if_neg (by decide)]
  refine wpAny_bind (slicePart_ pl (wpAny_bind (slicePart_none (wpAny_bind (wpAny_pure ?_)))))
  show wpAny _ _ (match Builtin.Slice.sliceAdjust (some 1) none 2 (n : Int) with | (lo, hi) => pure (lo, (2 : Int), Builtin.Slice.slicePlaces lo hi 2)) _ _ s
  have e : Builtin.Slice.sliceAdjust (some 1) none 2 (n : Int) = (((min 1 n : Nat) : Int), (n : Int)) := by
    unfold Builtin.Slice.sliceAdjust
    simp
    (first | lia | omega)
  rw [e]
  show wpAny _ _ (pure (((min 1 n : Nat) : Int), (2 : Int), Builtin.Slice.slicePlaces ((min 1 n : Nat) : Int) (n : Int) 2)) _ _ s
  have e2 : Builtin.Slice.slicePlaces ((min 1 n : Nat) : Int) (n : Int) 2 = n / 2 := by
    unfold Builtin.Slice.slicePlaces
    have h1 : (2 : Int) > 0 := by first | lia | omega
    simp only [h1, if_true]
    split <;> (first | lia | omega)
  rw [e2]
  exact wpAny_pure h
theorem getItem_tuple_odd {t sl : Addr} {items : Array Value} {vl vs : Value} {Q : Value → Shared → Prop} (ht : IsTup s.heap t items) (hs : s.heap.IsSliceOf sl vl .none vs) (pl : IsPart vl (some 1)) (ps : IsPart vs (some 2))
    (h : Q (.ref s.heap.objs.size) { s with heap := s.heap.push { cls := .type "tuple", data := .seq ((List.range (items.size / 2)).filterMap fun (m : Nat) => items[1 + m * 2]?).toArray } })
    (hsz : items.size ≤ sizeLine) : wpAny (model prog w) A (getItem (.ref t) (.ref sl)) Q E s := by
  have htake : sizeOk (.seq ((List.range (items.size / 2)).filterMap fun (m : Nat) => items[1 + m * 2]?).toArray) := by
    show ((List.range (items.size / 2)).filterMap fun (m : Nat) => items[1 + m * 2]?).toArray.size ≤ sizeLine
    rw [List.size_toArray]
    have := List.length_filterMap_le (fun (m : Nat) => items[1 + m * 2]?) (List.range (items.size / 2))
    rw [List.length_range] at this
    (first | lia | omega)
  obtain ⟨os, hos, hcs, hds⟩ := id hs
  have hTs : s.TypeIs (.ref sl) "slice" := ⟨os, hos, hcs⟩
  unfold getItem
  try with_reducible refine wpAny_holding ?_
  first | refine wpAny_bind (wpAny_pure ?_) | skip
  refine wpAny_bind (wpAny_sequenceKey ht.typeIs (by decide) ?_)
  refine wpAny_bind (wpAny_callSpecial?_slot (name := Str.ofString "__getitem__") ht.typeIs PyProof.Rows.slot_tuple_getitem
    (wpAny_call_entry PyProof.Rows.slot_tuple_getitem ht.typeIs entry_tuple_getitem ?_ (args_tuple_getitem _ _)))
  show wpAny _ _ (Builtin.Tuple.tupleItemsOf (.ref t) >>= _) _ _ s
  refine wpAny_bind (tupleItemsOf_ ht ?_)
  refine wpAny_bind (wpAny_typeOf hTs ?_)
  rw [if_pos (by decide)]
  refine wpAny_bind (sliceApplied_odd hs pl ps ?_)
  have hno : ¬ ((((min 1 items.size : Nat) : Int) == 0 && (2 : Int) == 1 && (items.size / 2) == items.size) = true) := by
    intro q
    rw [Bool.and_eq_true, Bool.and_eq_true] at q
    exact absurd q.1.2 (by decide)
  show wpAny _ _ (if (((min 1 items.size : Nat) : Int) == 0 && (2 : Int) == 1 && (items.size / 2) == items.size) = true then _ else _) _ _ s
  have ep : ((List.range (items.size / 2)).filterMap fun (m : Nat) => items[(((min 1 items.size : Nat) : Int) + (m : Int) * 2).toNat]?).toArray = ((List.range (items.size / 2)).filterMap fun (m : Nat) => items[1 + m * 2]?).toArray := by
    congr 1
    refine fm_congr fun m hm => ?_
    have := List.mem_range.mp hm
    congr 1
    (first | lia | omega)
  rw [if_neg hno, ep]
  first
    | exact wpAny_bind (m := Builtin.Tuple.tupleExact _) (wpAny_newObj_type (wpAny_pure ⟨_, rfl, wpAny_pure h⟩) htake)
    | exact wpAny_bind (m := Builtin.Tuple.tupleExact _) (wpAny_newObj_type (wpAny_bind (wpAny_pure (wpAny_pure ⟨_, rfl, wpAny_pure h⟩))) htake)
    | exact wpAny_bind (wpAny_bind (m := Builtin.Tuple.tupleExact _) (wpAny_newObj_type (wpAny_pure (wpAny_pure ⟨_, rfl, wpAny_pure h⟩)) htake))
    | exact wpAny_bind (wpAny_bind (m := Builtin.Tuple.tupleExact _) (wpAny_newObj_type (wpAny_pure ⟨_, rfl, wpAny_pure h⟩) htake))
end HT
namespace L2
open PySem PySem.Spec PyProof.Rows
section
variable {X : Cx} {e : Expr} {te : TE} {lo hi : Option Expr} {se : Expr} {tl th ts : TO} {pos p2 : Pos}
/-- slices with a step -/
def SlR3 (X : Cx) (r : V → Option Int → Option Int → Option Int → Hp → VK → Prop) : Prop :=
  ∀ (pins : List (Addr × Obj)) (s : Shared) (σ : St) (H : Hp) (x : V) (v vl vu vs : Value) (lo hi st : Option Int) (sl : Addr) (Q : VK), Inv X pins σ H s → RelV x v → s.heap.IsSliceOf sl vl vu vs → IsPart vl lo → IsPart vu hi → IsPart vs st → r x lo hi st H Q →
    ∃ T id, typeLookup (.type T) "__getitem__" = pure (some (.builtin id)) ∧ s.TypeIs v T ∧ wpAny (model X.prog X.w) X.A (getItem v (.ref sl)) (EP X pins σ Q) X.xe s
def tSl3 (r : V → Option Int → Option Int → Option Int → Hp → VK → Prop) (te : TE) (tl th ts : TO) : TE := fun σ H Q => te σ H fun x H1 => tl σ H1 fun l H2 => th σ H2 fun u H3 => ts σ H3 fun k H4 => r x l u k H4 Q
theorem pe_slice3 {r : V → Option Int → Option Int → Option Int → Hp → VK → Prop} (hr : SlR3 X r) (he : PE X e te) (hl : PO X lo tl) (hu : PO X hi th) (hs : PO X (some se) ts) : PE X (.Subscript e (.Slice lo hi (some se) p2) pos) (tSl3 r te tl th ts) := by
  intro pins s σ H Q I h
  refine Subscript_ (thn (he pins s σ H _ I h) fun v s1 ⟨x, H1, I1, r1, q1⟩ => ?_)
  refine wpAny_Slice (thn (hl pins s1 σ H1 _ I1 q1) fun vl s2 ⟨l, H2, I2, pl, q2⟩ => thn (hu pins s2 σ H2 _ I2 q2) fun vu s3 ⟨u, H3, I3, pu, q3⟩ => thn (hs pins s3 σ H3 _ I3 q3) fun vs s4 ⟨k, H4, I4, pk, q4⟩ => ?_)
  have I5 : Inv X pins σ H4 { s4 with heap := s4.heap.push { cls := .type "slice", data := .fields #[vl, vu, vs] } } := I4.kept (t' := s4.toks) fun b ob q => Heap.get?_push_of_some _ q
  obtain ⟨T, id, hT, ht, hg⟩ := hr pins { s4 with heap := s4.heap.push { cls := .type "slice", data := .fields #[vl, vu, vs] } } σ H4 x v vl vu vs l u k s4.heap.objs.size Q I5 r1 (Heap.IsSliceOf.new ..) pl pu pk q4
  show wpAny (model X.prog X.w) X.A (subscriptTail e (.Slice lo hi (some se) p2) v (.ref s4.heap.objs.size)) (EP X pins σ Q) X.xe { s4 with heap := s4.heap.push { cls := .type "slice", data := .fields #[vl, vu, vs] } }
  exact tail_any (ops := [v, .ref s4.heap.objs.size]) ht hT hg (by with_unfolding_all rfl)
/-- the items at odd places -/
def oddV (xs : List V) : List V := (List.range (xs.length / 2)).filterMap fun m => xs[1 + m * 2]?
theorem vals_odd {xs : List V} {its : List Value} (r : Vals xs its) : ∀ ms : List Nat, Vals (ms.filterMap fun m => xs[1 + m * 2]?) (ms.filterMap fun m => its.toArray[1 + m * 2]?)
  | [] => .nil
  | m :: ms => by
    have ih := vals_odd r ms
    rw [List.filterMap_cons, List.filterMap_cons]
    cases hx : xs[1 + m * 2]? with
    | none =>
      have : its.toArray[1 + m * 2]? = none := by
        have h1 := List.getElem?_eq_none_iff.mp hx
        rw [List.getElem?_toArray]
        exact List.getElem?_eq_none_iff.mpr (by rw [← r.length]; exact h1)
      rw [this]
      exact ih
    | some x =>
      obtain ⟨u, hu, ru⟩ := r.get hx
      have : its.toArray[1 + m * 2]? = some u := by rw [List.getElem?_toArray]; exact hu
      rw [this]
      exact .cons ru ih
theorem oddT (K : PySem.W.Frag) (hK : X.K = K := by rfl) : SlR3 X (fun x lo hi st H Q => lo = some 1 ∧ hi = none ∧ st = some 2 ∧ ∃ a xs, x = .ref a ∧ SqT K H a xs ∧ ∀ p, H p = none → Q (.ref p) (upd H p (.tup (oddV xs)))) := by
  subst hK
  intro pins s σ H x v vl vu vs lo hi st sl Q I rx hs pl pu pk h
  obtain ⟨rfl, rfl, rfl, a, xs, rfl, hx, q⟩ := h
  cases rx
  cases pu
  obtain ⟨its, r, ht, hz⟩ := I.tuple hx
  have hlen : its.toArray.size = xs.length := by rw [List.size_toArray]; exact r.length.symm
  refine ⟨"tuple", _, PyProof.Rows.slot_tuple_getitem.lookup, ht.typeIs, ?_⟩
  refine HT.getItem_tuple_odd ht hs pl pk ?_ (by rw [hlen]; exact hz)
  rw [hlen]
  refine ⟨.ref s.heap.objs.size, _, I.laid (t' := s.toks) (o := .tup (oddV xs)) (fun b ob q => Heap.get?_push_of_some _ q) (Nat.le_refl _) ?_, rfl, q _ (I.hok.fresh (Nat.le_refl _))⟩
  refine ⟨?_, _, vals_odd r _, IsTup.new _ _⟩
  have := List.length_filterMap_le (fun (m : Nat) => xs[1 + m * 2]?) (List.range (xs.length / 2))
  rw [List.length_range] at this
  show (oddV xs).length ≤ sizeLine
  unfold oddV
  (first | lia | omega)
theorem any_cons (b : Bool) (r : List Bool) : (List.range (r.length + 1)).any (fun j => (b :: r).getD j false) = (b || (List.range r.length).any (fun j => r.getD j false)) := by
  rw [List.range_succ_eq_map, List.any_cons, List.any_map]
  rfl
theorem range_any (bs : List Bool) : (List.range bs.length).any (fun j => bs.getD j false) = bs.any id := by
  induction bs with
  | nil => rfl
  | cons b r ih =>
    rw [List.length_cons, any_cons, List.any_cons]
    exact congrArg (b || ·) ih
theorem anyS (K : PySem.W.Frag) (hc : X.calm = true := by rfl) (hK : X.K = K := by rfl) : CallR X (.builtin "any") (fun xs H Q => ∃ p, ∃ bs : List Bool, xs = [.ref p] ∧ SqL K H p (bs.map V.bl) ∧ Q (.bl (bs.any id)) H) := by
  subst hK
  intro pins s σ H xs us Q I rv h
  obtain ⟨p, bs, rfl, hp, q⟩ := h
  obtain ⟨u, rfl, ru⟩ := rv.one
  cases ru
  obtain ⟨its, rv', pl, _⟩ := I.list hp
  refine call_any_walk (wpAny_pyIter_list pl.isList ?_)
  have e : ∀ b o, s.heap.get? b = some o → (s.heap.push { cls := .type "list_iterator", data := .fields #[.ref p, .int 0 0] }).get? b = some o := fun b o e => Heap.get?_push_of_some _ e
  have hne : p ≠ s.heap.objs.size := by
    obtain ⟨o, ho, _⟩ := pl.isList
    exact Nat.ne_of_lt (Heap.lt_size ho)
  have lb : bs.length = its.length := by rw [← rv'.length, List.length_map]
  refine ⟨_, _, _, _, _, _, fun j => bs.getD j false, rfl, Walks.list (A := X.A.in1) (I.ok.hd hc) _ p hne its.toArray, ⟨⟨_, Heap.get?_push_size _ rfl, rfl, rfl⟩, pl.isList.at fun o ho => e _ o ho⟩, ?_, fun h' tk hk => ?_⟩
  · intro i v s Q E hv hq
    have hv' : its[i]? = some v := by simpa using hv
    have hi : i < bs.length := by
      rw [lb]
      exact (List.getElem?_eq_some_iff.mp hv').1
    obtain ⟨u, hu, ru⟩ := rv'.get (i := i) (x := .bl bs[i]) (by simp [hi])
    rw [hv'] at hu
    cases hu
    cases ru
    have : bs.getD i false = bs[i] := by simp [List.getD, hi]
    have hq : Q (bs.getD i false) s := hq
    rw [this] at hq
    exact wpAny_truthy_bool hq
  · refine ⟨.bl (bs.any id), H, I.kept (t' := tk) fun b o ho => hk b o ?_ (e b o ho), ?_, q⟩
    · simp only [List.mem_singleton]
      exact Nat.ne_of_lt (Heap.lt_size ho)
    · show Value.bool _ = _
      rw [← range_any, lb]
      simp
end
/-- a polynomial that may stand among the globals -/
def PolK (K : PySem.W.Frag) (H : Hp) (v : V) (P : List Int) (B : Int) : Prop := ∃ a t, v = .ref a ∧ SqT K H a [.ref t, .int B] ∧ SqT K H t (P.map V.int)
theorem Pol.k {K : PySem.W.Frag} {H : Hp} {v : V} {P : List Int} {B : Int} (h : Pol H v P B) : PolK K H v P B := by
  obtain ⟨a, t, e, h1, h2⟩ := h
  exact ⟨a, t, e, SqT.of h1, SqT.of h2⟩
instance coePolK {K : PySem.W.Frag} {H : Hp} {v : V} {P : List Int} {B : Int} : Coe (Pol H v P B) (PolK K H v P B) := ⟨Pol.k⟩
theorem PolK.same {K : PySem.W.Frag} {H H' : Hp} {v : V} {P : List Int} {B : Int} (h : PolK K H v P B) (s : Same H H') : PolK K H' v P B := by
  obtain ⟨a, t, e, h1, h2⟩ := h
  exact ⟨a, t, e, h1.same s, h2.same s⟩
theorem PolK.rep {K : PySem.W.Frag} {H : Hp} {v : V} {P : List Int} {B : Int} (h : PolK K H v P B) : Rep K H (.tup (pd P B)) v := by
  obtain ⟨a, t, rfl, h1, h2⟩ := h
  unfold Rep
  refine ⟨a, _, rfl, h1, ?_⟩
  unfold pd Reps
  refine ⟨_, _, rfl, ?_, ?_⟩
  · unfold Rep
    exact ⟨t, _, rfl, h2, reps_ints P⟩
  · unfold Reps
    refine ⟨_, _, rfl, by unfold Rep; rfl, ?_⟩
    unfold Reps
    rfl
end L2

/-! even polynomials -/
namespace Qp
open L2 Cv Hv Pc
theorem ei_int (F : Nat → Int) (t : Int) : ∀ n, ei F (t : Rat) n = ((sm (fun k => F k * t ^ k) n : Int) : Rat)
  | 0 => rfl
  | n + 1 => by
    rw [ei, ei_int F t n]
    show _ = ((sm (fun k => F k * t ^ k) n + F n * t ^ n : Int) : Rat)
    rw [Rat.intCast_add, Rat.intCast_mul, Rat.intCast_pow]
theorem big (F : Nat → Int) : ∀ n, ∃ t : Int, 0 < t ∧ ∀ k, k < n → (F k).natAbs < t.natAbs
  | 0 => ⟨1, by decide, fun k h => absurd h (Nat.not_lt_zero _)⟩
  | n + 1 => by
    obtain ⟨t, h0, h⟩ := big F n
    refine ⟨t + ((F n).natAbs : Int) + 1, by first | lia | omega, fun k hk => ?_⟩
    rcases Nat.eq_or_lt_of_le (Nat.le_of_lt_succ hk) with e | e
    · rw [e]; (first | lia | omega)
    · have := h k e; (first | lia | omega)
/-- the same everywhere, top by top -/
theorem ei_inj {F G : Nat → Int} {n : Nat} (h : ∀ x, ei F x n = ei G x n) {k : Nat} (hk : k < n) : F k = G k := by
  obtain ⟨t, t0, ht⟩ := big (fun k => F k - G k) n
  have e : sm (fun k => (F k - G k) * t ^ k) n = 0 := by
    have a := ei_int (fun k => F k - G k) t n
    have b : ei (fun k => F k - G k) (t : Rat) n = 0 := by
      have : ei (fun k => F k - G k) (t : Rat) n = ei (fun k => F k + G k * (-1)) (t : Rat) n := by
        congr 1
        funext k
        (first | lia | omega)
      rw [this, ei_add, ei_mul, h]
      have : ((-1 : Int) : Rat) = -1 := rfl
      rw [this]
      grind
    rw [b] at a
    exact Rat.intCast_eq_zero_iff.mp a.symm
  have := all_zero t0 ht e k hk
  (first | lia | omega)
/-- every other sign turned -/
def alt (F : Nat → Int) : Nat → Int := fun k => if k % 2 = 1 then -F k else F k
theorem neg_pow (x : Rat) : ∀ k : Nat, (-x) ^ k = if k % 2 = 1 then -(x ^ k) else x ^ k
  | 0 => by rw [if_neg (by decide), Rat.pow_zero, Rat.pow_zero]
  | k + 1 => by
    rw [Rat.pow_succ, Rat.pow_succ, neg_pow x k]
    by_cases c : k % 2 = 1
    · rw [if_pos c, if_neg (by first | lia | omega)]; grind
    · rw [if_neg c, if_pos (by first | lia | omega)]; grind
theorem ei_alt (F : Nat → Int) (x : Rat) : ∀ n, ei (alt F) x n = ei F (-x) n
  | 0 => rfl
  | n + 1 => by
    rw [ei, ei, ei_alt F x n, neg_pow]
    unfold alt
    by_cases c : n % 2 = 1
    · rw [if_pos c, if_pos c, Rat.intCast_neg]; grind
    · rw [if_neg c, if_neg c]
theorem even_iff {P : List Int} {B : Int} (hB : 0 < B) : (∀ x, E P B (-x) = E P B x) ↔ ∀ m, P.getD (1 + m * 2) 0 = 0 := by
  have nB := ne_of_pos hB
  constructor
  · intro h m
    rcases Nat.lt_or_ge (1 + m * 2) P.length with c | c
    · have e := ei_inj (F := alt (fn P)) (G := fn P) (n := P.length) (fun x => by
        rw [ei_alt]
        have := h x
        unfold E at this
        grind) c
      unfold alt at e
      rw [if_pos (by first | lia | omega)] at e
      have e' : -P.getD (1 + m * 2) 0 = P.getD (1 + m * 2) 0 := e
      (first | lia | omega)
    · rw [List.getD_eq_getElem?_getD, List.getElem?_eq_none c]; rfl
  · intro h x
    unfold E
    rw [← ei_alt]
    congr 2
    funext k
    unfold alt
    by_cases c : k % 2 = 1
    · rw [if_pos c]
      have e := h (k / 2)
      rw [show 1 + k / 2 * 2 = k by first | lia | omega] at e
      have e' : fn P k = 0 := e
      rw [e']
      rfl
    · rw [if_neg c]
end Qp

set_option maxHeartbeats 4000000
namespace My
open PySem L2
def top (i : Nat) : Stmt := PySem.Challenge.pw_nestwright_k24_leaves.main.body.getD i (.Pass ⟨0, 0, 0, 0⟩)
abbrev s_common_part : Stmt := top 1
abbrev s_fraction : Stmt := top 2
abbrev s_taken : Stmt := top 3
abbrev s_multiplied : Stmt := top 4
abbrev s_divided : Stmt := top 5
abbrev s_one_form : Stmt := top 7
abbrev s_over_one_bottom : Stmt := top 8
abbrev s_poly : Stmt := top 9
abbrev s_fraction_at : Stmt := top 10
abbrev s_degree : Stmt := top 11
abbrev s_lead : Stmt := top 12
abbrev s_tops_together : Stmt := top 13
abbrev s_tops_multiplied : Stmt := top 14
abbrev s_plus : Stmt := top 15
abbrev s_minus : Stmt := top 16
abbrev s_scaled : Stmt := top 17
abbrev s_put : Stmt := top 19
abbrev s_straight : Stmt := top 22
abbrev s_turned_back : Stmt := top 23
abbrev s_plain : Stmt := top 25
abbrev s_leaves : Stmt := top 26
abbrev s_law_flow : Stmt := top 28
abbrev s_law_pick : Stmt := top 29
abbrev s_law_alike : Stmt := top 30
abbrev s_law_common : Stmt := top 31
abbrev s_law_fraction : Stmt := top 32
abbrev s_law_product : Stmt := top 33
abbrev s_law_poly : Stmt := top 34
abbrev s_law_sum : Stmt := top 35
abbrev s_law_times : Stmt := top 36
abbrev s_law_of : Stmt := top 37
abbrev s_law_straight : Stmt := top 38
abbrev s_law_number : Stmt := top 39
abbrev s_law_any_fraction : Stmt := top 40
abbrev s_law_any_poly : Stmt := top 41
abbrev s_law_any_straight : Stmt := top 42
abbrev s_law_at : Stmt := top 43
abbrev s_law_divided : Stmt := top 44
abbrev s_law_degree_drawn : Stmt := top 45
abbrev s_law_plain_one : Stmt := top 46
abbrev s_law_short : Stmt := top 47
abbrev s_law_drawn : Stmt := top 48
abbrev s_law_due : Stmt := top 49
abbrev s_law_right : Stmt := top 50
abbrev s_law : Stmt := top 51

section
variable {P : Program} {w : World} {K : PySem.W.Frag} {mg : Str → Option Value} {base : Heap}
/-! ### lists of ints -/
theorem getD_of {α : Type} {fs : List α} {i : Nat} {f d : α} (h : fs[i]? = some f) : fs.getD i d = f := by
  rw [List.getD_eq_getElem?_getD, h]
  rfl
theorem getD_out {α : Type} {fs : List α} {i : Nat} {d : α} (h : fs.length ≤ i) : fs.getD i d = d := by
  rw [List.getD_eq_getElem?_getD, List.getElem?_eq_none h]
  rfl
theorem int_at {ts : List Int} {i : Nat} {x : V} (h : (ts.map V.int)[i]? = some x) : i < ts.length ∧ ts[i]? = some (ts.getD i 0) ∧ x = .int (ts.getD i 0) := by
  rw [List.getElem?_map] at h
  obtain ⟨z, hz, rfl⟩ := Option.map_eq_some_iff.mp h
  rw [getD_of hz]
  exact ⟨(List.getElem?_eq_some_iff.mp hz).1, hz, rfl⟩
theorem at_int {ts : List Int} {i : Nat} (h : i < ts.length) : (ts.map V.int)[i]? = some (.int (ts.getD i 0)) := by
  rw [List.getElem?_map, List.getD_eq_getElem?_getD, List.getElem?_eq_getElem h]
  rfl
theorem take_snoc {ts : List Int} {i : Nat} (h : i < ts.length) : ts.take (i + 1) = ts.take i ++ [ts.getD i 0] := by
  rw [List.take_succ_eq_append_getElem h, List.getD_eq_getElem?_getD, List.getElem?_eq_getElem h]
  rfl
theorem map_getD (f : Int → Int) (f0 : f 0 = 0) (ts : List Int) (k : Nat) : (ts.map f).getD k 0 = f (ts.getD k 0) := by
  rw [List.getD_eq_getElem?_getD, List.getD_eq_getElem?_getD, List.getElem?_map]
  cases ts[k]? with
  | none => exact f0.symm
  | some z => rfl
theorem set_getD {ts : List Int} {i k : Nat} {z : Int} (h : i < ts.length) : (ts.set i z).getD k 0 = if k = i then z else ts.getD k 0 := by
  rw [List.getD_eq_getElem?_getD, List.getD_eq_getElem?_getD, List.getElem?_set]
  by_cases e : i = k
  · subst e
    rw [if_pos rfl, if_pos h, if_pos rfl]
    rfl
  · rw [if_neg e, if_neg (Ne.symm e)]
theorem set_ints {ts : List Int} {i : Nat} {z : Int} : (ts.map V.int).set i (.int z) = (ts.set i z).map V.int := by
  rw [List.map_set]
theorem ixN_nat {n j : Nat} (h : j < n) : ixN n (j : Int) = some j := by
  unfold ixN
  rw [if_pos (by first | lia | omega), if_pos (by first | lia | omega), Int.toNat_natCast]
/-! ### the flow of numbers that the law draws from its script -/
def Flow (H : Hp) (f : Addr) : Prop := ∃ (l : Addr) (ns : List Int) (i c a b : Int), H f = some (.lst [.ref l, .int i, .int c, .int a, .int b]) ∧ H l = some (.lst (ns.map V.int)) ∧ ns.length ≤ 63 ∧ 0 ≤ i ∧ i ≤ (ns.length : Int) ∧ 0 ≤ c ∧ 0 ≤ a ∧ a < 2147483647
theorem fl_ne {H : Hp} {f l : Addr} {ns : List Int} {x : Addr} {r : List V} (h1 : H f = some (.lst (.ref x :: r))) (h2 : H l = some (.lst (ns.map V.int))) : l ≠ f := by
  refine ne_of h2 h1 fun z => ?_
  injection z with z
  cases ns with
  | nil => cases z
  | cons n ns => rw [List.map_cons] at z; injection z with z1; cases z1
theorem Flow.sm {H H' : Hp} {f : Addr} (F : Flow H f) (e : Same H H') : Flow H' f := by
  obtain ⟨l, ns, i, c, a, b, h1, h2, h⟩ := F
  exact ⟨l, ns, i, c, a, b, e _ _ h1, e _ _ h2, h⟩
theorem Flow.ne {H : Hp} {f p : Addr} (F : Flow H f) (h : H p = none) : p ≠ f := by
  obtain ⟨l, ns, i, c, a, b, h1, _⟩ := F
  exact Ne.symm (ne_of_none h1 h)
/-- the flow's list is written -/
theorem fl_set {H : Hp} {f l : Addr} {ns : List Int} {i c a b i' c' a' b' : Int} (h1 : H f = some (.lst [.ref l, .int i, .int c, .int a, .int b])) (h2 : H l = some (.lst (ns.map V.int))) :
    upd H f (.lst [.ref l, .int i', .int c', .int a', .int b']) f = some (.lst [.ref l, .int i', .int c', .int a', .int b']) ∧ upd H f (.lst [.ref l, .int i', .int c', .int a', .int b']) l = some (.lst (ns.map V.int)) ∧ Sm f H (upd H f (.lst [.ref l, .int i', .int c', .int a', .int b'])) := by
  refine ⟨upd_same, ?_, fun b o n e => ?_, fun x r e => ?_⟩
  · rw [upd_ne (fl_ne h1 h2)]
    exact h2
  · rw [upd_ne n]
    exact e
  · rw [h1] at e
    injection e with e
    injection e with e
    injection e with e _
    rw [← e]
    exact ⟨_, upd_same⟩
theorem at_ints {ns : List Int} {i : Int} (h0 : 0 ≤ i) (h : i < (ns.length : Int)) : ∃ z, atI (ns.map V.int) i = some (V.int z) := by
  obtain ⟨k, rfl⟩ := Int.eq_ofNat_of_zero_le h0
  exact ⟨ns[k]'(by first | lia | omega), atI_nat (by rw [List.getElem?_map, List.getElem?_eq_getElem (by first | lia | omega)]; rfl)⟩
def spFlow (K : PySem.W.Frag) : Sp := fun vs H Q _ => ∃ (a : Addr) (ns : List Int), vs = [.ref a] ∧ SqL K H a (ns.map V.int) ∧ ns.length ≤ 63 ∧ ∀ f H', Same H H' → Flow H' f → H f = none → Q (.ref f) H'
def spPickB : Sp := fun vs H Q _ => ∃ (f : Addr) (m : Int), vs = [.ref f, .int m] ∧ Flow H f ∧ 0 < m ∧ Lt2 9000 m ∧ ∀ d H', 0 ≤ d → d < m → Flow H' f → Sm f H H' → Q (.int d) H'
theorem sc_flow : FnScope ["_law_script"] ["_law_script"] (defScope s_law_flow) := ⟨rfl, rfl, rfl, by decide +kernel, rfl, by decide +kernel, by decide +kernel⟩
theorem ok_flow {f : Addr} {fd : FuncData} (F : Fun K "_law_flow" "_law_flow" s_law_flow f fd) (B : Bl mg) : FnOk P w K mg base CX0 1 f fd ["_law_script"] (spFlow K) := by
  refine F.ok sc_flow (fun vs H Q E h => ?_) (fun cdv A outer s H vs Q E hr h => ?_)
  · obtain ⟨a, ns, rfl, _⟩ := h
    rfl
  obtain ⟨a, ns, rfl, hS, h63, q⟩ := h
  have nd := sc_flow.nd
  refine ⟨_, (@pss_one _ _ _ (@ps_ret _ _ _ _ (@pe_lst _ _ _ _ (@pa_cons _ _ _ _ _ (@pe_callTy _ _ _ _ _ _ _ _ _ (listOf K) rfl B.list bt_list (@pa_cons _ _ _ _ _ (@pv _ 0 _ _ (by rfl) (by first | exact Or.inl rfl | exact Or.inr (Or.inl rfl) | exact Or.inr (Or.inr rfl)) (by decide) (by decide)) pa_nil (by rfl)) (by decide) (by decide) (by rfl) (by rfl)) (@pa_cons _ _ _ _ _ pe_int (@pa_cons _ _ _ _ _ pe_int (@pa_cons _ _ _ _ _ pe_int (@pa_cons _ _ _ _ _ pe_int pa_nil (by rfl)) (by rfl)) (by rfl)) (by rfl)) (by rfl))))), ?_⟩
  refine ⟨_, rfl, a, _, rfl, .inl hS, fun l hl => ⟨(by show 5 ≤ sizeLine; decide), fun p hp => ?_⟩⟩
  have hpl : l ≠ p := ne_of_none upd_same hp
  refine q p _ ((Same.new hl _).trans (Same.new hp _)) ⟨l, ns, 0, 0, 1, 0, upd_same, ?_, h63, by decide, by first | lia | omega, by decide, by decide, by decide⟩ ?_
  · rw [upd_ne hpl]
    exact upd_same
  · rw [upd_ne (Ne.symm hpl)] at hp
    exact hp
theorem sc_pick : FnScope ["_law_flow_here", "_law_many", "_law_cell", "_law_digit"] ["_law_flow_here", "_law_many"] (defScope s_law_pick) := ⟨rfl, rfl, rfl, by decide +kernel, rfl, by decide +kernel, by decide +kernel⟩
theorem ok_pick {f0 : Addr} {fd : FuncData} (F : Fun K "_law_pick" "_law_pick" s_law_pick f0 fd) (B : Bl mg) : FnOk P w K mg base CX0 1 f0 fd ["_law_flow_here", "_law_many"] spPickB := by
  refine F.ok sc_pick (fun vs H Q E h => ?_) (fun cdv A outer s H vs Q E hr h => ?_)
  · obtain ⟨a, ns, rfl, _⟩ := h
    rfl
  obtain ⟨f, m, rfl, hF, hm0, hm1, q⟩ := h
  have nd := sc_pick.nd
  refine ⟨_, (@pss_cut _ _ _ _ _ (@ps_if _ _ _ _ _ _ _ _ (@PW.pt _ _ _ (@pw_and _ _ _ _ _ _ _ (@pt_cmpR _ _ _ _ _ _ _ _ op_eq (@pe_ix _ _ _ _ _ _ _ (ixL K) (@pv _ 0 _ _ (by rfl) (by first | exact Or.inl rfl | exact Or.inr (Or.inl rfl) | exact Or.inr (Or.inr rfl)) (by decide) (by decide)) pe_int (fun _ _ => rfl)) pe_int (nomark _)) (@pw_and1 _ _ _ _ (@pt_cmpR _ _ _ _ _ _ _ _ op_lt (@pe_ix _ _ _ _ _ _ _ (ixL K) (@pv _ 0 _ _ (by rfl) (by first | exact Or.inl rfl | exact Or.inr (Or.inl rfl) | exact Or.inr (Or.inr rfl)) (by decide) (by decide)) pe_int (fun _ _ => rfl)) (@pe_callB _ _ _ _ _ _ _ _ _ (lenS K) rfl B.len bt_len (@pa_cons _ _ _ _ _ (@pe_ix _ _ _ _ _ _ _ (ixL K) (@pv _ 0 _ _ (by rfl) (by first | exact Or.inl rfl | exact Or.inr (Or.inl rfl) | exact Or.inr (Or.inr rfl)) (by decide) (by decide)) pe_int (fun _ _ => rfl)) pa_nil (by rfl)) (by decide) (by decide) (by rfl) (by rfl)) (nomark _))))) (@pss_cons _ _ _ _ _ (@ps_set _ _ 2 _ _ _ _ nd rfl (by first | exact Or.inl rfl | exact Or.inr rfl) (@pe_ix _ _ _ _ _ _ _ (ixL K) (@pe_ix _ _ _ _ _ _ _ (ixL K) (@pv _ 0 _ _ (by rfl) (by first | exact Or.inl rfl | exact Or.inr (Or.inl rfl) | exact Or.inr (Or.inr rfl)) (by decide) (by decide)) pe_int (fun _ _ => rfl)) (@pe_ix _ _ _ _ _ _ _ (ixL K) (@pv _ 0 _ _ (by rfl) (by first | exact Or.inl rfl | exact Or.inr (Or.inl rfl) | exact Or.inr (Or.inr rfl)) (by decide) (by decide)) pe_int (fun _ _ => rfl)) (fun _ _ => rfl)) (by rfl) (by first | exact .inl rfl | exact .inr rfl | assumption)) (@pss_cons _ _ _ _ _ (@ps_asg _ _ _ _ _ _ (@pe_op _ _ _ _ _ _ _ _ op_add (@pe_ix _ _ _ _ _ _ _ (ixL K) (@pv _ 0 _ _ (by rfl) (by first | exact Or.inl rfl | exact Or.inr (Or.inl rfl) | exact Or.inr (Or.inr rfl)) (by decide) (by decide)) pe_int (fun _ _ => rfl)) pe_int) (@pg_sub _ _ _ _ _ _ _ (@pv _ 0 _ _ (by rfl) (by first | exact Or.inl rfl | exact Or.inr (Or.inl rfl) | exact Or.inr (Or.inr rfl)) (by decide) (by decide)) pe_int set_list (fun _ => rfl)) (by rfl) (by rfl) (by rfl)) (@pss_one _ _ _ (@ps_if _ _ _ _ _ _ _ _ (@pt_cmpR _ _ _ _ _ _ _ _ op_ge (@pv _ 2 _ _ (by rfl) (by first | exact Or.inl rfl | exact Or.inr (Or.inl rfl) | exact Or.inr (Or.inr rfl)) (by decide) (by decide)) (@pe_op _ _ _ _ _ _ _ _ op_pow pe_int pe_int) (nomark _)) (@pss_one _ _ _ (@ps_asg _ _ _ _ _ _ (@pv _ 2 _ _ (by rfl) (by first | exact Or.inl rfl | exact Or.inr (Or.inl rfl) | exact Or.inr (Or.inr rfl)) (by decide) (by decide)) (@pg_sub _ _ _ _ _ _ _ (@pv _ 0 _ _ (by rfl) (by first | exact Or.inl rfl | exact Or.inr (Or.inl rfl) | exact Or.inr (Or.inr rfl)) (by decide) (by decide)) pe_int set_list (fun _ => rfl)) (by rfl) (by rfl) (by rfl))) (@pss_one _ _ _ (@ps_asg _ _ _ _ _ _ (@pe_op _ _ _ _ _ _ _ _ op_mod (@pe_op _ _ _ _ _ _ _ _ op_add (@pe_op _ _ _ _ _ _ _ _ op_add (@pe_op _ _ _ _ _ _ _ _ op_mul (@pe_ix _ _ _ _ _ _ _ (ixL K) (@pv _ 0 _ _ (by rfl) (by first | exact Or.inl rfl | exact Or.inr (Or.inl rfl) | exact Or.inr (Or.inr rfl)) (by decide) (by decide)) pe_int (fun _ _ => rfl)) pe_int) (@pe_op _ _ _ _ _ _ _ _ op_mod (@pv _ 2 _ _ (by rfl) (by first | exact Or.inl rfl | exact Or.inr (Or.inl rfl) | exact Or.inr (Or.inr rfl)) (by decide) (by decide)) pe_int)) pe_int) pe_int) (@pg_sub _ _ _ _ _ _ _ (@pv _ 0 _ _ (by rfl) (by first | exact Or.inl rfl | exact Or.inr (Or.inl rfl) | exact Or.inr (Or.inr rfl)) (by decide) (by decide)) pe_int set_list (fun _ => rfl)) (by rfl) (by rfl) (by rfl))))))) pss_nil) (@pss_cut _ _ _ _ _ (@ps_if _ _ _ _ _ _ _ _ (@pt_cmpR _ _ _ _ _ _ _ _ op_gt (@pe_ix _ _ _ _ _ _ _ (ixL K) (@pv _ 0 _ _ (by rfl) (by first | exact Or.inl rfl | exact Or.inr (Or.inl rfl) | exact Or.inr (Or.inr rfl)) (by decide) (by decide)) pe_int (fun _ _ => rfl)) pe_int (nomark _)) (@pss_cons _ _ _ _ _ (@ps_set _ _ 3 _ _ _ _ nd rfl (by first | exact Or.inl rfl | exact Or.inr rfl) (@pe_op _ _ _ _ _ _ _ _ op_mod (@pe_ix _ _ _ _ _ _ _ (ixL K) (@pv _ 0 _ _ (by rfl) (by first | exact Or.inl rfl | exact Or.inr (Or.inl rfl) | exact Or.inr (Or.inr rfl)) (by decide) (by decide)) pe_int (fun _ _ => rfl)) (@pv _ 1 _ _ (by rfl) (by first | exact Or.inl rfl | exact Or.inr (Or.inl rfl) | exact Or.inr (Or.inr rfl)) (by decide) (by decide))) (by rfl) (by first | exact .inl rfl | exact .inr rfl | assumption)) (@pss_cons _ _ _ _ _ (@ps_asg _ _ _ _ _ _ (@pe_op _ _ _ _ _ _ _ _ op_fdivB (@pe_ix _ _ _ _ _ _ _ (ixL K) (@pv _ 0 _ _ (by rfl) (by first | exact Or.inl rfl | exact Or.inr (Or.inl rfl) | exact Or.inr (Or.inr rfl)) (by decide) (by decide)) pe_int (fun _ _ => rfl)) (@pv _ 1 _ _ (by rfl) (by first | exact Or.inl rfl | exact Or.inr (Or.inl rfl) | exact Or.inr (Or.inr rfl)) (by decide) (by decide))) (@pg_sub _ _ _ _ _ _ _ (@pv _ 0 _ _ (by rfl) (by first | exact Or.inl rfl | exact Or.inr (Or.inl rfl) | exact Or.inr (Or.inr rfl)) (by decide) (by decide)) pe_int set_list (fun _ => rfl)) (by rfl) (by rfl) (by rfl)) (@pss_one _ _ _ (@ps_ret _ _ _ _ (@pv _ 3 _ _ (by rfl) (by first | exact Or.inl rfl | exact Or.inr (Or.inl rfl) | exact Or.inr (Or.inr rfl)) (by decide) (by decide)))))) pss_nil) (@pss_cons _ _ _ _ _ (@ps_asg _ _ _ _ _ _ (@pe_op _ _ _ _ _ _ _ _ op_add (@pe_ix _ _ _ _ _ _ _ (ixL K) (@pv _ 0 _ _ (by rfl) (by first | exact Or.inl rfl | exact Or.inr (Or.inl rfl) | exact Or.inr (Or.inr rfl)) (by decide) (by decide)) pe_int (fun _ _ => rfl)) pe_int) (@pg_sub _ _ _ _ _ _ _ (@pv _ 0 _ _ (by rfl) (by first | exact Or.inl rfl | exact Or.inr (Or.inl rfl) | exact Or.inr (Or.inr rfl)) (by decide) (by decide)) pe_int set_list (fun _ => rfl)) (by rfl) (by rfl) (by rfl)) (@pss_cons _ _ _ _ _ (@ps_asg _ _ _ _ _ _ (@pe_op _ _ _ _ _ _ _ _ op_mod (@pe_op _ _ _ _ _ _ _ _ op_add (@pe_op _ _ _ _ _ _ _ _ op_add (@pe_op _ _ _ _ _ _ _ _ op_mul (@pe_ix _ _ _ _ _ _ _ (ixL K) (@pv _ 0 _ _ (by rfl) (by first | exact Or.inl rfl | exact Or.inr (Or.inl rfl) | exact Or.inr (Or.inr rfl)) (by decide) (by decide)) pe_int (fun _ _ => rfl)) pe_int) pe_int) (@pe_ix _ _ _ _ _ _ _ (ixL K) (@pv _ 0 _ _ (by rfl) (by first | exact Or.inl rfl | exact Or.inr (Or.inl rfl) | exact Or.inr (Or.inr rfl)) (by decide) (by decide)) pe_int (fun _ _ => rfl))) pe_int) (@pg_sub _ _ _ _ _ _ _ (@pv _ 0 _ _ (by rfl) (by first | exact Or.inl rfl | exact Or.inr (Or.inl rfl) | exact Or.inr (Or.inr rfl)) (by decide) (by decide)) pe_int set_list (fun _ => rfl)) (by rfl) (by rfl) (by rfl)) (@pss_one _ _ _ (@ps_ret _ _ _ _ (@pe_op _ _ _ _ _ _ _ _ op_mod (@pe_op _ _ _ _ _ _ _ _ op_fdiv (@pe_op _ _ _ _ _ _ _ _ op_mod (@pe_op _ _ _ _ _ _ _ _ op_mul (@pe_op _ _ _ _ _ _ _ _ op_add (@pe_op _ _ _ _ _ _ _ _ op_mod (@pe_ix _ _ _ _ _ _ _ (ixL K) (@pv _ 0 _ _ (by rfl) (by first | exact Or.inl rfl | exact Or.inr (Or.inl rfl) | exact Or.inr (Or.inr rfl)) (by decide) (by decide)) pe_int (fun _ _ => rfl)) pe_int) pe_int) (@pe_op _ _ _ _ _ _ _ _ op_add (@pe_op _ _ _ _ _ _ _ _ op_fdiv (@pe_ix _ _ _ _ _ _ _ (ixL K) (@pv _ 0 _ _ (by rfl) (by first | exact Or.inl rfl | exact Or.inr (Or.inl rfl) | exact Or.inr (Or.inr rfl)) (by decide) (by decide)) pe_int (fun _ _ => rfl)) pe_int) pe_int)) pe_int) pe_int) (@pv _ 1 _ _ (by rfl) (by first | exact Or.inl rfl | exact Or.inr (Or.inl rfl) | exact Or.inr (Or.inr rfl)) (by decide) (by decide))))))))), ?_⟩
  obtain ⟨l, ns, i, c, a, b, h1, h2, h63, i0, i1, c0, a0, a1⟩ := hF
  have hf := SqL.of (K := K) h1
  refine ⟨fun σ' H' => (∃ o1 o2, σ' = [some (.ref f), some (.int m), o1, o2]) ∧ Flow H' f ∧ Sm f H H', ?_, ?_⟩
  · refine ⟨_, rfl, f, _, 2, _, rfl, rfl, hf, rfl, rfl, _, rfl, ?_⟩
    refine ite2 (fun cz => ?_) (fun cz => ?_)
    · refine ⟨_, rfl, f, _, 1, _, rfl, rfl, hf, rfl, _, rfl, f, _, 0, _, rfl, rfl, hf, rfl, l, _, rfl, .inl (SqL.of h2), _, _, rfl, rfl, _, rfl, ?_⟩
      refine ite2 (fun cl => ?_) (fun cl => ?_)
      · have cl' : i < (((ns.map V.int).length : Nat) : Int) := of_decide_eq_true cl
        rw [List.length_map] at cl'
        obtain ⟨z, hz⟩ := at_ints i0 cl'
        obtain ⟨g1, g2, g3⟩ := fl_set (i' := i + 1) (c' := c) (a' := a) (b' := b) h1 h2
        have gf := SqL.of (K := K) g1
        refine ⟨_, rfl, f, _, 0, _, rfl, rfl, hf, rfl, _, rfl, f, _, 1, _, rfl, rfl, hf, rfl, l, _, i, _, rfl, rfl, SqL.of h2, hz, ?_⟩
        refine ⟨_, rfl, f, _, 1, _, rfl, rfl, hf, rfl, _, _, rfl, rfl, _, rfl, f, _, 1, 1, rfl, rfl, h1, rfl, ?_⟩
        refine ⟨_, rfl, _, _, rfl, rfl, ⟨by decide, by decide, by decide⟩, _, _, rfl, rfl, _, rfl, ?_⟩
        refine ite2 (fun cg => ?_) (fun cg => ?_)
        · have cg' : (10 : Int) ^ (18 : Int).toNat ≤ z := of_decide_eq_true cg
          have cg2 : (0 : Int) ≤ z := Int.le_trans (by decide) cg'
          obtain ⟨k1, k2, k3⟩ := fl_set (i' := i + 1) (c' := z) (a' := a) (b' := b) g1 g2
          refine ⟨_, rfl, _, rfl, f, _, 2, 2, rfl, rfl, g1, rfl, ?_⟩
          exact ⟨⟨_, _, rfl⟩, ⟨l, ns, i + 1, z, a, b, k1, k2, h63, by first | lia | omega, by first | lia | omega, cg2, a0, a1⟩, g3.trans k3⟩
        · obtain ⟨k1, k2, k3⟩ := fl_set (i' := i + 1) (c' := c) (a' := (a * 40013 + z % 1000003 + 1) % 2147483647) (b' := b) g1 g2
          refine ⟨_, rfl, f, _, 3, _, rfl, rfl, gf, rfl, _, _, rfl, rfl, .inr ⟨by decide, by decide⟩, _, rfl, _, _, rfl, rfl, (by show (0 : Int) < _; decide), _, _, rfl, rfl, _, _, rfl, rfl, _, _, rfl, rfl, (by show (0 : Int) < _; decide), _, rfl, f, _, 3, 3, rfl, rfl, g1, rfl, ?_⟩
          exact ⟨⟨_, _, rfl⟩, ⟨l, ns, i + 1, c, _, b, k1, k2, h63, by first | lia | omega, by first | lia | omega, c0, Int.emod_nonneg _ (by decide), Int.emod_lt_of_pos _ (by decide)⟩, g3.trans k3⟩
      · exact ⟨⟨_, _, rfl⟩, ⟨l, ns, i, c, a, b, h1, h2, h63, i0, i1, c0, a0, a1⟩, Sm.refl H⟩
    · exact iteF ⟨⟨_, _, rfl⟩, ⟨l, ns, i, c, a, b, h1, h2, h63, i0, i1, c0, a0, a1⟩, Sm.refl H⟩
  · rintro _ H1 ⟨⟨o1, o2, rfl⟩, hF1, sm1⟩
    clear hf h1 h2 i0 i1 c0 a0 a1 h63
    obtain ⟨l, ns, i, c, a, b, h1, h2, h63, i0, i1, c0, a0, a1⟩ := hF1
    have hf := SqL.of (K := K) h1
    refine ⟨fun σ' H' => σ' = [some (.ref f), some (.int m), o1, o2] ∧ H' = H1, ?_, ?_⟩
    · refine ⟨_, rfl, f, _, 2, _, rfl, rfl, hf, rfl, _, _, rfl, rfl, _, rfl, ?_⟩
      refine ite2 (fun cz => ?_) (fun cz => ?_)
      · obtain ⟨k1, k2, k3⟩ := fl_set (i' := i) (c' := c.fdiv m) (a' := a) (b' := b) h1 h2
        refine ⟨_, rfl, f, _, 2, _, rfl, rfl, hf, rfl, _, rfl, _, _, rfl, rfl, hm0, ?_⟩
        have fe : c.fdiv m = c / m := Int.fdiv_eq_ediv_of_nonneg _ (by first | lia | omega : (0 : Int) ≤ m)
        refine ⟨_, rfl, f, _, 2, _, rfl, rfl, hf, rfl, _, rfl, _, _, rfl, rfl, ⟨by first | lia | omega, 9000, hm1, by decide⟩, _, rfl, f, _, 2, 2, rfl, rfl, h1, rfl, ?_⟩
        refine ⟨_, rfl, q _ _ (Int.emod_nonneg _ (by first | lia | omega)) (Int.emod_lt_of_pos _ hm0) ⟨l, ns, i, c.fdiv m, a, b, k1, k2, h63, i0, i1, by rw [fe]; exact Int.ediv_nonneg c0 (by first | lia | omega), a0, a1⟩ (sm1.trans k3)⟩
      · exact ⟨rfl, rfl⟩
    · rintro _ _ ⟨rfl, rfl⟩
      obtain ⟨g1, g2, g3⟩ := fl_set (i' := i) (c' := c) (a' := a) (b' := b + 1) h1 h2
      have gf := SqL.of (K := K) g1
      refine ⟨_, rfl, f, _, 4, _, rfl, rfl, hf, rfl, _, _, rfl, rfl, _, rfl, f, _, 4, 4, rfl, rfl, h1, rfl, ?_⟩
      obtain ⟨k1, k2, k3⟩ := fl_set (i' := i) (c' := c) (a' := (a * 48271 + 12820163 + (b + 1)) % 2147483647) (b' := b + 1) g1 g2
      have kf := SqL.of (K := K) k1
      refine ⟨_, rfl, f, _, 3, _, rfl, rfl, gf, rfl, _, _, rfl, rfl, .inr ⟨by decide, by decide⟩, _, _, rfl, rfl, _, rfl, f, _, 4, _, rfl, rfl, gf, rfl, _, _, rfl, rfl, _, _, rfl, rfl, (by show (0 : Int) < _; decide), _, rfl, f, _, 3, 3, rfl, rfl, g1, rfl, ?_⟩
      have n0 := Int.emod_nonneg (a * 48271 + 12820163 + (b + 1)) (show (2147483647 : Int) ≠ 0 by decide)
      have n1 := Int.emod_lt_of_pos (a * 48271 + 12820163 + (b + 1)) (show (0 : Int) < 2147483647 by decide)
      refine ⟨_, rfl, f, _, 3, _, rfl, rfl, kf, rfl, _, _, rfl, rfl, (by show (0 : Int) < _; decide), _, _, rfl, rfl, _, rfl, f, _, 3, _, rfl, rfl, kf, rfl, _, _, rfl, rfl, ⟨by decide, by decide⟩, _, _, rfl, rfl, _, _, rfl, rfl, .inl ⟨by first | lia | omega, by first | lia | omega⟩, _, _, rfl, rfl, (by show (0 : Int) < _; decide), _, _, rfl, rfl, ⟨by decide, by decide⟩, _, rfl, _, _, rfl, rfl, hm0, ?_⟩
      exact q _ _ (Int.emod_nonneg _ (by first | lia | omega)) (Int.emod_lt_of_pos _ hm0) ⟨l, ns, i, c, _, b + 1, k1, k2, h63, i0, i1, c0, n0, n1⟩ ((sm1.trans g3).trans k3)
/-! ### common parts, fractions -/
theorem abs_is (a : Int) : (if a < 0 then -a else a) = ((a.natAbs : Nat) : Int) := by split <;> (first | lia | omega)
def spCommon : Sp := fun vs H Q _ => ∃ a b : Int, vs = [.int a, .int b] ∧ Q (.int (Fr.cp a b)) H
theorem sc_common_part : FnScope ["one", "other"] ["one", "other"] (defScope s_common_part) := ⟨rfl, rfl, rfl, by decide +kernel, rfl, by decide +kernel, by decide +kernel⟩
theorem ok_common_part {f0 : Addr} {fd : FuncData} (F : Fun K "common_part" "common_part" s_common_part f0 fd) (B : Bl mg) : FnOk P w K mg base CX0 1 f0 fd ["one", "other"] spCommon := by
  refine F.ok sc_common_part (fun vs H Q E h => ?_) (fun cdv A outer s H vs Q E hr h => ?_)
  · obtain ⟨a, ns, rfl, _⟩ := h
    rfl
  obtain ⟨a, b, rfl, q⟩ := h
  have nd := sc_common_part.nd
  refine ⟨_, (@pss_cons _ _ _ _ _ (@ps_par _ _ 0 1 _ _ _ _ _ _ _ _ _ _ _ rfl nd rfl rfl (by decide) rfl rfl (@pa_cons _ _ _ _ _ (@pe_callB _ _ _ _ _ _ _ _ _ call_abs rfl B.abs bt_abs (@pa_cons _ _ _ _ _ (@pv _ 0 _ _ (by rfl) (by first | exact Or.inl rfl | exact Or.inr (Or.inl rfl) | exact Or.inr (Or.inr rfl)) (by decide) (by decide)) pa_nil (by rfl)) (by decide) (by decide) (by rfl) (by rfl)) (@pa_cons _ _ _ _ _ (@pe_callB _ _ _ _ _ _ _ _ _ call_abs rfl B.abs bt_abs (@pa_cons _ _ _ _ _ (@pv _ 1 _ _ (by rfl) (by first | exact Or.inl rfl | exact Or.inr (Or.inl rfl) | exact Or.inr (Or.inr rfl)) (by decide) (by decide)) pa_nil (by rfl)) (by decide) (by decide) (by rfl) (by rfl)) pa_nil (by rfl)) (by rfl)) rfl (by rfl)) (@pss_cut _ _ _ _ _ (@ps_while _ _ _ _ _ _ PassesOwn.never (@ptT _ K _ _ (@pv _ 1 _ _ (by rfl) (by first | exact Or.inl rfl | exact Or.inr (Or.inl rfl) | exact Or.inr (Or.inr rfl)) (by decide) (by decide)) (fun _ => rfl) (by rfl)) (@pss_one _ _ _ (@ps_par _ _ 0 1 _ _ _ _ _ _ _ _ _ _ _ rfl nd rfl rfl (by decide) rfl rfl (@pa_cons _ _ _ _ _ (@pv _ 1 _ _ (by rfl) (by first | exact Or.inl rfl | exact Or.inr (Or.inl rfl) | exact Or.inr (Or.inr rfl)) (by decide) (by decide)) (@pa_cons _ _ _ _ _ (@pe_op _ _ _ _ _ _ _ _ op_mod (@pv _ 0 _ _ (by rfl) (by first | exact Or.inl rfl | exact Or.inr (Or.inl rfl) | exact Or.inr (Or.inr rfl)) (by decide) (by decide)) (@pv _ 1 _ _ (by rfl) (by first | exact Or.inl rfl | exact Or.inr (Or.inl rfl) | exact Or.inr (Or.inr rfl)) (by decide) (by decide))) pa_nil (by rfl)) (by rfl)) rfl (by rfl)))) (@pss_one _ _ _ (@ps_ret _ _ _ _ (@pv _ 0 _ _ (by rfl) (by first | exact Or.inl rfl | exact Or.inr (Or.inl rfl) | exact Or.inr (Or.inr rfl)) (by decide) (by decide)))))), ?_⟩
  refine ⟨_, rfl, _, rfl, _, rfl, _, rfl, _, _, rfl, ?_⟩
  refine ⟨fun σ H' => H' = H ∧ ∃ o, σ = [some (.int (Fr.cp a b)), o], ?_, ?_⟩
  · refine while_by (fun σ H' => H' = H ∧ ∃ x y : Nat, σ = [some (.int x), some (.int y)] ∧ Nat.gcd x y = Int.gcd a b) (fun σ _ => match σ with | [_, some (.int y)] => y.toNat | _ => 0) ?_ ?_ ?_
    · refine ⟨rfl, a.natAbs, b.natAbs, ?_, rfl⟩
      show [some (V.int _), some (V.int _)] = _
      rw [abs_is, abs_is]
    · rintro _ _ ⟨rfl, x, y, rfl, hg⟩
      refine ⟨_, rfl, _, rfl, ?_⟩
      refine ite2 (fun c => ?_) (fun c => ?_)
      · have c' : 0 < y := by
          rcases Nat.eq_zero_or_pos y with z | z
          · subst z; exact absurd c (by decide)
          · exact z
        refine ⟨_, rfl, _, rfl, _, rfl, _, _, rfl, rfl, (by show (0 : Int) < (y : Int); (first | lia | omega)), _, _, rfl, ?_⟩
        refine ⟨⟨rfl, y, x % y, rfl, ?_⟩, ?_⟩
        · rw [← hg, Nat.gcd_comm x y, Nat.gcd_comm y (x % y)]
          exact (Nat.gcd_rec y x).symm
        · show ((x : Int) % (y : Int)).toNat < (y : Int).toNat
          rw [← Int.natCast_emod, Int.toNat_natCast, Int.toNat_natCast]
          exact Nat.mod_lt _ c'
      · have c' : y = 0 := by
          rcases Nat.eq_zero_or_pos y with z | z
          · exact z
          · have : ((y : Int) != 0) = true := by simp; (first | lia | omega)
            exact absurd this c
        subst c'
        refine ⟨rfl, some (.int 0), ?_⟩
        rw [Nat.gcd_zero_right] at hg
        show _ = [some (V.int (Int.gcd a b : Nat)), _]
        rw [← hg]
        rfl
    · rintro σ H Q Q' h ⟨v, e, k, tk, q⟩
      exact ⟨v, e, k, tk, h _ _ q⟩
  · rintro _ _ ⟨rfl, o, rfl⟩
    exact ⟨_, rfl, q⟩
def spFrac : Sp := fun vs H Q _ => ∃ t b : Int, vs = [.int t, .int b] ∧ b ≠ 0 ∧ (∃ n, n ≤ 9000 ∧ Lt2 n b) ∧ ∀ p H', Same H H' → H' p = some (.tup [.int (Fr.top t b), .int (Fr.bot t b)]) → Q (.ref p) H'
theorem sc_fraction : FnScope ["top", "bottom", "part"] ["top", "bottom"] (defScope s_fraction) := ⟨rfl, rfl, rfl, by decide +kernel, rfl, by decide +kernel, by decide +kernel⟩
theorem ok_fraction {f0 : Addr} {fd : FuncData} (F : Fun K "fraction" "fraction" s_fraction f0 fd) (B : Bl mg) (g_common_part : Def P w K mg base "common_part" 1 ["one", "other"] spCommon) : FnOk P w K mg base CX0 2 f0 fd ["top", "bottom"] spFrac := by
  refine F.ok sc_fraction (fun vs H Q E h => ?_) (fun cdv A outer s H vs Q E hr h => ?_)
  · obtain ⟨a, ns, rfl, _⟩ := h
    rfl
  obtain ⟨t, b, rfl, hb, ⟨n, hn, hl⟩, q⟩ := h
  have nd := sc_fraction.nd
  refine ⟨_, (@pss_cons _ _ _ _ _ (@ps_set _ _ 2 _ _ _ _ nd rfl (by first | exact Or.inl rfl | exact Or.inr rfl) (@pe_def _ _ _ _ _ _ _ _ _ _ _ g_common_part hr (@pa_cons _ _ _ _ _ (@pv _ 0 _ _ (by rfl) (by first | exact Or.inl rfl | exact Or.inr (Or.inl rfl) | exact Or.inr (Or.inr rfl)) (by decide) (by decide)) (@pa_cons _ _ _ _ _ (@pv _ 1 _ _ (by rfl) (by first | exact Or.inl rfl | exact Or.inr (Or.inl rfl) | exact Or.inr (Or.inr rfl)) (by decide) (by decide)) pa_nil (by rfl)) (by rfl)) (by first | decide | omega | exact Nat.le_refl _) (by rfl) (by decide) (by rfl) (by rfl)) (by rfl) (by first | exact .inl rfl | exact .inr rfl | assumption)) (@pss_cut _ _ _ _ _ (@ps_if _ _ _ _ _ _ _ _ (@pt_cmpR _ _ _ _ _ _ _ _ op_lt (@pv _ 1 _ _ (by rfl) (by first | exact Or.inl rfl | exact Or.inr (Or.inl rfl) | exact Or.inr (Or.inr rfl)) (by decide) (by decide)) pe_int (nomark _)) (@pss_one _ _ _ (@ps_set _ _ 2 _ _ _ _ nd rfl (by first | exact Or.inl rfl | exact Or.inr rfl) (@pe_un _ _ _ _ _ _ un_neg (@pv _ 2 _ _ (by rfl) (by first | exact Or.inl rfl | exact Or.inr (Or.inl rfl) | exact Or.inr (Or.inr rfl)) (by decide) (by decide))) (by rfl) (by first | exact .inl rfl | exact .inr rfl | assumption))) pss_nil) (@pss_one _ _ _ (@ps_ret _ _ _ _ (@pe_tup _ _ _ _ _ (@pa_cons _ _ _ _ _ (@pe_op _ _ _ _ _ _ _ _ op_fdivB (@pv _ 0 _ _ (by rfl) (by first | exact Or.inl rfl | exact Or.inr (Or.inl rfl) | exact Or.inr (Or.inr rfl)) (by decide) (by decide)) (@pv _ 2 _ _ (by rfl) (by first | exact Or.inl rfl | exact Or.inr (Or.inl rfl) | exact Or.inr (Or.inr rfl)) (by decide) (by decide))) (@pa_cons _ _ _ _ _ (@pe_op _ _ _ _ _ _ _ _ op_fdivB (@pv _ 1 _ _ (by rfl) (by first | exact Or.inl rfl | exact Or.inr (Or.inl rfl) | exact Or.inr (Or.inr rfl)) (by decide) (by decide)) (@pv _ 2 _ _ (by rfl) (by first | exact Or.inl rfl | exact Or.inr (Or.inl rfl) | exact Or.inr (Or.inr rfl)) (by decide) (by decide))) pa_nil (by rfl)) (by rfl))))))), ?_⟩
  refine ⟨_, rfl, _, rfl, _, _, rfl, ?_⟩
  refine ⟨fun σ H' => H' = H ∧ σ = [some (.int t), some (.int b), some (.int (Fr.part t b))], ?_, ?_⟩
  · refine ⟨_, rfl, _, _, rfl, rfl, _, rfl, ?_⟩
    refine ite2 (fun c => ?_) (fun c => ?_)
    · have c' : b < 0 := of_decide_eq_true c
      refine ⟨_, rfl, _, rfl, ?_⟩
      refine ⟨rfl, ?_⟩
      unfold Fr.part
      rw [if_pos c']
      rfl
    · have c' : ¬ b < 0 := of_decide_eq_false (Bool.eq_false_iff.mpr c)
      refine ⟨rfl, ?_⟩
      unfold Fr.part
      rw [if_neg c']
      rfl
  · rintro _ _ ⟨rfl, rfl⟩
    have pn := Fr.part_ne (t := t) hb
    have pl := hl.le (Fr.part_le (t := t) hb)
    refine ⟨_, rfl, _, rfl, _, _, rfl, rfl, ⟨pn, n, pl, hn⟩, _, rfl, _, rfl, _, _, rfl, rfl, ⟨pn, n, pl, hn⟩, (by show 2 ≤ sizeLine; decide), fun p hp => ?_⟩
    exact q p _ (Same.new hp _) upd_same
/-! ### fractions reckoned -/
def spAr (K : PySem.W.Frag) (ok : Int → Prop) (T U : Int → Int → Int → Int → Int) : Sp := fun vs H Q _ => ∃ (p1 p2 : Addr) (t1 b1 t2 b2 : Int), vs = [.ref p1, .ref p2] ∧ SqT K H p1 [.int t1, .int b1] ∧ SqT K H p2 [.int t2, .int b2] ∧ 0 < b1 ∧ 0 < b2 ∧ ok t2 ∧
  Lt2 2000 t1 ∧ Lt2 2000 b1 ∧ Lt2 2000 t2 ∧ Lt2 2000 b2 ∧ ∀ p H', Same H H' → H' p = some (.tup [.int (Fr.top (T t1 b1 t2 b2) (U t1 b1 t2 b2)), .int (Fr.bot (T t1 b1 t2 b2) (U t1 b1 t2 b2))]) → Q (.ref p) H'
abbrev spAdded (K : PySem.W.Frag) : Sp := spAr K (fun _ => True) (fun t1 b1 t2 b2 => t1 * b2 + t2 * b1) (fun _ b1 _ b2 => b1 * b2)
abbrev spTaken (K : PySem.W.Frag) : Sp := spAr K (fun _ => True) (fun t1 b1 t2 b2 => t1 * b2 - t2 * b1) (fun _ b1 _ b2 => b1 * b2)
abbrev spMultiplied (K : PySem.W.Frag) : Sp := spAr K (fun _ => True) (fun t1 _ t2 _ => t1 * t2) (fun _ b1 _ b2 => b1 * b2)
abbrev spDivided (K : PySem.W.Frag) : Sp := spAr K (fun t => t ≠ 0) (fun t1 _ _ b2 => t1 * b2) (fun _ b1 t2 _ => b1 * t2)
theorem sc_taken : FnScope ["one", "other"] ["one", "other"] (defScope s_taken) := ⟨rfl, rfl, rfl, by decide +kernel, rfl, by decide +kernel, by decide +kernel⟩
theorem ok_taken {f0 : Addr} {fd : FuncData} (F : Fun K "taken" "taken" s_taken f0 fd) (B : Bl mg) (g_fraction : Def P w K mg base "fraction" 2 ["top", "bottom"] spFrac) : FnOk P w K mg base CX0 3 f0 fd ["one", "other"] (spTaken K) := by
  refine F.ok sc_taken (fun vs H Q E h => ?_) (fun cdv A outer s H vs Q E hr h => ?_)
  · obtain ⟨p1, p2, t1, b1, t2, b2, rfl, _⟩ := h
    rfl
  obtain ⟨p1, p2, t1, b1, t2, b2, rfl, h1, h2, n1, n2, hk, l1, l2, l3, l4, q⟩ := h
  have nd := sc_taken.nd
  refine ⟨_, (@pss_one _ _ _ (@ps_ret _ _ _ _ (@pe_def _ _ _ _ _ _ _ _ _ _ _ g_fraction hr (@pa_cons _ _ _ _ _ (@pe_op _ _ _ _ _ _ _ _ op_sub (@pe_op _ _ _ _ _ _ _ _ op_mulB (@pe_ix _ _ _ _ _ _ _ (ixT K) (@pv _ 0 _ _ (by rfl) (by first | exact Or.inl rfl | exact Or.inr (Or.inl rfl) | exact Or.inr (Or.inr rfl)) (by decide) (by decide)) pe_int (fun _ _ => rfl)) (@pe_ix _ _ _ _ _ _ _ (ixT K) (@pv _ 1 _ _ (by rfl) (by first | exact Or.inl rfl | exact Or.inr (Or.inl rfl) | exact Or.inr (Or.inr rfl)) (by decide) (by decide)) pe_int (fun _ _ => rfl))) (@pe_op _ _ _ _ _ _ _ _ op_mulB (@pe_ix _ _ _ _ _ _ _ (ixT K) (@pv _ 1 _ _ (by rfl) (by first | exact Or.inl rfl | exact Or.inr (Or.inl rfl) | exact Or.inr (Or.inr rfl)) (by decide) (by decide)) pe_int (fun _ _ => rfl)) (@pe_ix _ _ _ _ _ _ _ (ixT K) (@pv _ 0 _ _ (by rfl) (by first | exact Or.inl rfl | exact Or.inr (Or.inl rfl) | exact Or.inr (Or.inr rfl)) (by decide) (by decide)) pe_int (fun _ _ => rfl)))) (@pa_cons _ _ _ _ _ (@pe_op _ _ _ _ _ _ _ _ op_mulB (@pe_ix _ _ _ _ _ _ _ (ixT K) (@pv _ 0 _ _ (by rfl) (by first | exact Or.inl rfl | exact Or.inr (Or.inl rfl) | exact Or.inr (Or.inr rfl)) (by decide) (by decide)) pe_int (fun _ _ => rfl)) (@pe_ix _ _ _ _ _ _ _ (ixT K) (@pv _ 1 _ _ (by rfl) (by first | exact Or.inl rfl | exact Or.inr (Or.inl rfl) | exact Or.inr (Or.inr rfl)) (by decide) (by decide)) pe_int (fun _ _ => rfl))) pa_nil (by rfl)) (by rfl)) (by first | decide | omega | exact Nat.le_refl _) (by rfl) (by decide) (by rfl) (by rfl)))), ?_⟩
  refine ⟨_, rfl, p1, _, 0, _, rfl, rfl, h1, rfl, _, rfl, p2, _, 1, _, rfl, rfl, h2, rfl, _, _, rfl, rfl, ⟨_, _, l1, l4, by decide⟩, _, rfl, p2, _, 0, _, rfl, rfl, h2, rfl, _, rfl, p1, _, 1, _, rfl, rfl, h1, rfl, _, _, rfl, rfl, ⟨_, _, l3, l2, by decide⟩, _, _, rfl, rfl, _, rfl, p1, _, 1, _, rfl, rfl, h1, rfl, _, rfl, p2, _, 1, _, rfl, rfl, h2, rfl, _, _, rfl, rfl, ⟨_, _, l2, l4, by decide⟩, _, _, rfl, ?_⟩
  exact ⟨Int.ne_of_gt (Int.mul_pos n1 n2), ⟨4000, by decide, l2.mul l4⟩, q⟩
theorem sc_multiplied : FnScope ["one", "other"] ["one", "other"] (defScope s_multiplied) := ⟨rfl, rfl, rfl, by decide +kernel, rfl, by decide +kernel, by decide +kernel⟩
theorem ok_multiplied {f0 : Addr} {fd : FuncData} (F : Fun K "multiplied" "multiplied" s_multiplied f0 fd) (B : Bl mg) (g_fraction : Def P w K mg base "fraction" 2 ["top", "bottom"] spFrac) : FnOk P w K mg base CX0 3 f0 fd ["one", "other"] (spMultiplied K) := by
  refine F.ok sc_multiplied (fun vs H Q E h => ?_) (fun cdv A outer s H vs Q E hr h => ?_)
  · obtain ⟨p1, p2, t1, b1, t2, b2, rfl, _⟩ := h
    rfl
  obtain ⟨p1, p2, t1, b1, t2, b2, rfl, h1, h2, n1, n2, hk, l1, l2, l3, l4, q⟩ := h
  have nd := sc_multiplied.nd
  refine ⟨_, (@pss_one _ _ _ (@ps_ret _ _ _ _ (@pe_def _ _ _ _ _ _ _ _ _ _ _ g_fraction hr (@pa_cons _ _ _ _ _ (@pe_op _ _ _ _ _ _ _ _ op_mulB (@pe_ix _ _ _ _ _ _ _ (ixT K) (@pv _ 0 _ _ (by rfl) (by first | exact Or.inl rfl | exact Or.inr (Or.inl rfl) | exact Or.inr (Or.inr rfl)) (by decide) (by decide)) pe_int (fun _ _ => rfl)) (@pe_ix _ _ _ _ _ _ _ (ixT K) (@pv _ 1 _ _ (by rfl) (by first | exact Or.inl rfl | exact Or.inr (Or.inl rfl) | exact Or.inr (Or.inr rfl)) (by decide) (by decide)) pe_int (fun _ _ => rfl))) (@pa_cons _ _ _ _ _ (@pe_op _ _ _ _ _ _ _ _ op_mulB (@pe_ix _ _ _ _ _ _ _ (ixT K) (@pv _ 0 _ _ (by rfl) (by first | exact Or.inl rfl | exact Or.inr (Or.inl rfl) | exact Or.inr (Or.inr rfl)) (by decide) (by decide)) pe_int (fun _ _ => rfl)) (@pe_ix _ _ _ _ _ _ _ (ixT K) (@pv _ 1 _ _ (by rfl) (by first | exact Or.inl rfl | exact Or.inr (Or.inl rfl) | exact Or.inr (Or.inr rfl)) (by decide) (by decide)) pe_int (fun _ _ => rfl))) pa_nil (by rfl)) (by rfl)) (by first | decide | omega | exact Nat.le_refl _) (by rfl) (by decide) (by rfl) (by rfl)))), ?_⟩
  refine ⟨_, rfl, p1, _, 0, _, rfl, rfl, h1, rfl, _, rfl, p2, _, 0, _, rfl, rfl, h2, rfl, _, _, rfl, rfl, ⟨_, _, l1, l3, by decide⟩, _, rfl, p1, _, 1, _, rfl, rfl, h1, rfl, _, rfl, p2, _, 1, _, rfl, rfl, h2, rfl, _, _, rfl, rfl, ⟨_, _, l2, l4, by decide⟩, _, _, rfl, ?_⟩
  exact ⟨Int.ne_of_gt (Int.mul_pos n1 n2), ⟨4000, by decide, l2.mul l4⟩, q⟩
theorem sc_divided : FnScope ["one", "other"] ["one", "other"] (defScope s_divided) := ⟨rfl, rfl, rfl, by decide +kernel, rfl, by decide +kernel, by decide +kernel⟩
theorem ok_divided {f0 : Addr} {fd : FuncData} (F : Fun K "divided" "divided" s_divided f0 fd) (B : Bl mg) (g_fraction : Def P w K mg base "fraction" 2 ["top", "bottom"] spFrac) : FnOk P w K mg base CX0 3 f0 fd ["one", "other"] (spDivided K) := by
  refine F.ok sc_divided (fun vs H Q E h => ?_) (fun cdv A outer s H vs Q E hr h => ?_)
  · obtain ⟨p1, p2, t1, b1, t2, b2, rfl, _⟩ := h
    rfl
  obtain ⟨p1, p2, t1, b1, t2, b2, rfl, h1, h2, n1, n2, hk, l1, l2, l3, l4, q⟩ := h
  have nd := sc_divided.nd
  refine ⟨_, (@pss_one _ _ _ (@ps_ret _ _ _ _ (@pe_def _ _ _ _ _ _ _ _ _ _ _ g_fraction hr (@pa_cons _ _ _ _ _ (@pe_op _ _ _ _ _ _ _ _ op_mulB (@pe_ix _ _ _ _ _ _ _ (ixT K) (@pv _ 0 _ _ (by rfl) (by first | exact Or.inl rfl | exact Or.inr (Or.inl rfl) | exact Or.inr (Or.inr rfl)) (by decide) (by decide)) pe_int (fun _ _ => rfl)) (@pe_ix _ _ _ _ _ _ _ (ixT K) (@pv _ 1 _ _ (by rfl) (by first | exact Or.inl rfl | exact Or.inr (Or.inl rfl) | exact Or.inr (Or.inr rfl)) (by decide) (by decide)) pe_int (fun _ _ => rfl))) (@pa_cons _ _ _ _ _ (@pe_op _ _ _ _ _ _ _ _ op_mulB (@pe_ix _ _ _ _ _ _ _ (ixT K) (@pv _ 0 _ _ (by rfl) (by first | exact Or.inl rfl | exact Or.inr (Or.inl rfl) | exact Or.inr (Or.inr rfl)) (by decide) (by decide)) pe_int (fun _ _ => rfl)) (@pe_ix _ _ _ _ _ _ _ (ixT K) (@pv _ 1 _ _ (by rfl) (by first | exact Or.inl rfl | exact Or.inr (Or.inl rfl) | exact Or.inr (Or.inr rfl)) (by decide) (by decide)) pe_int (fun _ _ => rfl))) pa_nil (by rfl)) (by rfl)) (by first | decide | omega | exact Nat.le_refl _) (by rfl) (by decide) (by rfl) (by rfl)))), ?_⟩
  refine ⟨_, rfl, p1, _, 0, _, rfl, rfl, h1, rfl, _, rfl, p2, _, 1, _, rfl, rfl, h2, rfl, _, _, rfl, rfl, ⟨_, _, l1, l4, by decide⟩, _, rfl, p1, _, 1, _, rfl, rfl, h1, rfl, _, rfl, p2, _, 0, _, rfl, rfl, h2, rfl, _, _, rfl, rfl, ⟨_, _, l2, l3, by decide⟩, _, _, rfl, ?_⟩
  exact ⟨Int.mul_ne_zero (Int.ne_of_gt n1) hk, ⟨4000, by decide, l2.mul l3⟩, q⟩
/-! ### fractions reckoned, by worth -/
def spArQ (K : PySem.W.Frag) (ok : Rat → Prop) (op : Rat → Rat → Rat) (nn bb : Nat → Nat → Nat → Nat → Nat) : Sp := fun vs H Q _ => ∃ (v1 v2 : V) (r1 r2 : Rat) (n1 b1 n2 b2 : Nat), vs = [v1, v2] ∧ Fq K n1 b1 H v1 r1 ∧ Fq K n2 b2 H v2 r2 ∧ ok r2 ∧ n1 ≤ 2000 ∧ b1 ≤ 2000 ∧ n2 ≤ 2000 ∧ b2 ≤ 2000 ∧
  ∀ v H', Same H H' → Fq K (nn n1 b1 n2 b2) (bb n1 b1 n2 b2) H' v (op r1 r2) → Q v H'
abbrev spTakenQ (K : PySem.W.Frag) : Sp := spArQ K (fun _ => True) (fun a b => a - b) (fun n1 b1 n2 b2 => n1 + b2 + (n2 + b1) + 1) (fun _ b1 _ b2 => b1 + b2)
abbrev spAddedQ (K : PySem.W.Frag) : Sp := spArQ K (fun _ => True) (fun a b => a + b) (fun n1 b1 n2 b2 => n1 + b2 + (n2 + b1) + 1) (fun _ b1 _ b2 => b1 + b2)
abbrev spMultipliedQ (K : PySem.W.Frag) : Sp := spArQ K (fun _ => True) (fun a b => a * b) (fun n1 _ n2 _ => n1 + n2) (fun _ b1 _ b2 => b1 + b2)
abbrev spDividedQ (K : PySem.W.Frag) : Sp := spArQ K (fun r => r ≠ 0) (fun a b => a / b) (fun n1 _ _ b2 => n1 + b2) (fun _ b1 n2 _ => b1 + n2)
theorem arQ {x : Str} {k : Nat} {ps : List Str} {ok : Int → Prop} {okq : Rat → Prop} {T U : Int → Int → Int → Int → Int} {op : Rat → Rat → Rat} {nn bb : Nat → Nat → Nat → Nat → Nat} (g : Def P w K mg base x k ps (spAr K ok T U))
    (h : ∀ t1 b1 t2 b2 : Int, 0 < b1 → 0 < b2 → okq ((t2 : Rat) / (b2 : Rat)) → ok t2 ∧ U t1 b1 t2 b2 ≠ 0 ∧ ((T t1 b1 t2 b2 : Int) : Rat) / ((U t1 b1 t2 b2 : Int) : Rat) = op ((t1 : Rat) / (b1 : Rat)) ((t2 : Rat) / (b2 : Rat)))
    (hl : ∀ (t1 b1 t2 b2 : Int) (n1 m1 n2 m2 : Nat), Lt2 n1 t1 → Lt2 m1 b1 → Lt2 n2 t2 → Lt2 m2 b2 → Lt2 (nn n1 m1 n2 m2) (T t1 b1 t2 b2) ∧ Lt2 (bb n1 m1 n2 m2) (U t1 b1 t2 b2)) : Def P w K mg base x k ps (spArQ K okq op nn bb) := by
  refine g.imp fun vs H Q E z => ?_
  obtain ⟨v1, v2, r1, r2, n1, b1, n2, b2, rfl, ⟨p1, t1, u1, rfl, k1, c1, c2, c3, c4, rfl⟩, ⟨p2, t2, u2, rfl, k2, d1, d2, d3, d4, rfl⟩, hk, l1, l2, l3, l4, q⟩ := z
  obtain ⟨e1, e2, e3⟩ := h t1 u1 t2 u2 c1 d1 hk
  obtain ⟨f1, f2⟩ := hl t1 u1 t2 u2 n1 b1 n2 b2 c3 c4 d3 d4
  refine ⟨p1, p2, t1, u1, t2, u2, rfl, k1, k2, c1, d1, e1, c3.mono l1, c4.mono l2, d3.mono l3, d4.mono l4, fun p H' s hp => ?_⟩
  have := Fq.of (SqT.of (K := K) hp) e2 f1 f2
  rw [e3] at this
  exact q _ H' s this
theorem takenQ {x : Str} {k : Nat} {ps : List Str} (g : Def P w K mg base x k ps (spTaken K)) : Def P w K mg base x k ps (spTakenQ K) := by
  refine arQ g (fun t1 b1 t2 b2 h1 h2 _ => ⟨True.intro, Int.ne_of_gt (Int.mul_pos h1 h2), ?_⟩) fun t1 b1 t2 b2 n1 m1 n2 m2 l1 l2 l3 l4 => ⟨?_, l2.mul l4⟩
  · have a := Qp.ne_of_pos h1
    have b := Qp.ne_of_pos h2
    simp only [Rat.intCast_mul, Rat.intCast_sub]
    grind
  · exact (((l1.mul l4).mono (m := n1 + m2 + (n2 + m1)) (by first | lia | omega)).sub ((l3.mul l2).mono (by first | lia | omega))).mono (by first | lia | omega)
theorem multipliedQ {x : Str} {k : Nat} {ps : List Str} (g : Def P w K mg base x k ps (spMultiplied K)) : Def P w K mg base x k ps (spMultipliedQ K) := by
  refine arQ g (fun t1 b1 t2 b2 h1 h2 _ => ⟨True.intro, Int.ne_of_gt (Int.mul_pos h1 h2), ?_⟩) fun t1 b1 t2 b2 n1 m1 n2 m2 l1 l2 l3 l4 => ⟨l1.mul l3, l2.mul l4⟩
  have a := Qp.ne_of_pos h1
  have b := Qp.ne_of_pos h2
  simp only [Rat.intCast_mul]
  grind
theorem dividedQ {x : Str} {k : Nat} {ps : List Str} (g : Def P w K mg base x k ps (spDivided K)) : Def P w K mg base x k ps (spDividedQ K) := by
  refine arQ g (fun t1 b1 t2 b2 h1 h2 hk => ?_) fun t1 b1 t2 b2 n1 m1 n2 m2 l1 l2 l3 l4 => ⟨l1.mul l4, l2.mul l3⟩
  have tn : t2 ≠ 0 := (Fq.ne (p := 0) h2 rfl).mp hk
  refine ⟨tn, Int.mul_ne_zero (by first | lia | omega) tn, ?_⟩
  have a := Qp.ne_of_pos h1
  have b := Qp.ne_of_pos h2
  have c := Qp.ne_of_ne tn
  simp only [Rat.intCast_mul]
  grind
/-! ### the one form -/
def spOF (K : PySem.W.Frag) : Sp := fun vs H Q _ => ∃ (a : Addr) (ts : List Int) (b : Int), vs = [.ref a, .int b] ∧ SqL K H a (ts.map V.int) ∧ 0 < b ∧ (∃ n, n ≤ 9000 ∧ Lt2 n b) ∧ ts.length ≤ 1000 ∧
  ∀ v P B H', Same H H' → Pol H' v P B → Po.Fm P B → (∀ k, P.getD k 0 * b = ts.getD k 0 * B) → P.length ≤ ts.length → Q v H'
theorem cut_is {ts : List Int} {m : Nat} (hm : m ≤ ts.length) : cutV (ts.map V.int) none (some (m : Int)) = (ts.take m).map V.int := by
  unfold cutV
  rw [HT.sIx_none, HT.sIx_nat, List.length_map, Nat.min_eq_left hm, List.drop_zero, Nat.sub_zero, List.map_take]
theorem gl_snoc (b : Nat) (ts : List Int) (t : Int) : Po.gl b (ts ++ [t]) = Nat.gcd (Po.gl b ts) t.natAbs := by
  unfold Po.gl
  rw [List.foldl_append]
  rfl
theorem gl_app (b : Nat) (ts us : List Int) : Po.gl b (ts ++ us) = Po.gl (Po.gl b ts) us := by
  unfold Po.gl
  rw [List.foldl_append]
theorem sc_one_form : FnScope ["tops", "bottom", "many", "part", "top"] ["tops", "bottom"] (defScope s_one_form) := ⟨rfl, rfl, rfl, by decide +kernel, rfl, by decide +kernel, by decide +kernel⟩
theorem ok_one_form {f0 : Addr} {fd : FuncData} (F : Fun K "one_form" "one_form" s_one_form f0 fd) (B : Bl mg) (g_common_part : Def P w K mg base "common_part" 1 ["one", "other"] spCommon) : FnOk P w K mg base CX0 2 f0 fd ["tops", "bottom"] (spOF K) := by
  refine F.ok sc_one_form (fun vs H Q E h => ?_) (fun cdv A outer s H vs Q E hr h => ?_)
  · obtain ⟨a, ts, b, rfl, _⟩ := h
    rfl
  obtain ⟨a, ts, b, rfl, hS, hb, ⟨n, hn, hl⟩, hz, q⟩ := h
  have nd := sc_one_form.nd
  refine ⟨_, (@pss_cons _ _ _ _ _ (@ps_set _ _ 2 _ _ _ _ nd rfl (by first | exact Or.inl rfl | exact Or.inr rfl) (@pe_callB _ _ _ _ _ _ _ _ _ (lenS K) rfl B.len bt_len (@pa_cons _ _ _ _ _ (@pv _ 0 _ _ (by rfl) (by first | exact Or.inl rfl | exact Or.inr (Or.inl rfl) | exact Or.inr (Or.inr rfl)) (by decide) (by decide)) pa_nil (by rfl)) (by decide) (by decide) (by rfl) (by rfl)) (by rfl) (by first | exact .inl rfl | exact .inr rfl | assumption)) (@pss_cut _ _ _ _ _ (@ps_while _ _ _ _ _ _ PassesOwn.never (@PW.pt _ _ _ (@pw_and _ _ _ _ _ _ _ (@pt_cmpR _ _ _ _ _ _ _ _ op_gt (@pv _ 2 _ _ (by rfl) (by first | exact Or.inl rfl | exact Or.inr (Or.inl rfl) | exact Or.inr (Or.inr rfl)) (by decide) (by decide)) pe_int (nomark _)) (@pw_and1 _ _ _ _ (@pt_cmpR _ _ _ _ _ _ _ _ op_eq (@pe_ix _ _ _ _ _ _ _ (ixL K) (@pv _ 0 _ _ (by rfl) (by first | exact Or.inl rfl | exact Or.inr (Or.inl rfl) | exact Or.inr (Or.inr rfl)) (by decide) (by decide)) (@pe_op _ _ _ _ _ _ _ _ op_sub (@pv _ 2 _ _ (by rfl) (by first | exact Or.inl rfl | exact Or.inr (Or.inl rfl) | exact Or.inr (Or.inr rfl)) (by decide) (by decide)) pe_int) (fun _ _ => rfl)) pe_int (nomark _))))) (@pss_one _ _ _ (@ps_aug _ _ 2 _ _ _ _ _ _ nd rfl (by first | exact Or.inl rfl | exact Or.inr rfl) pe_int ip_sub (by first | exact .inl rfl | exact .inr rfl | assumption)))) (@pss_cons _ _ _ _ _ (@ps_set _ _ 3 _ _ _ _ nd rfl (by first | exact Or.inl rfl | exact Or.inr rfl) (@pv _ 1 _ _ (by rfl) (by first | exact Or.inl rfl | exact Or.inr (Or.inl rfl) | exact Or.inr (Or.inr rfl)) (by decide) (by decide)) (by rfl) (by first | exact .inl rfl | exact .inr rfl | assumption)) (@pss_cut _ _ _ _ _ (@ps_for _ _ _ _ _ _ _ _ PassesOwn.never rfl (@piL _ K _ _ _ (@pe_slice _ _ _ _ _ _ _ _ _ _ (slL K) (@pv _ 0 _ _ (by rfl) (by first | exact Or.inl rfl | exact Or.inr (Or.inl rfl) | exact Or.inr (Or.inr rfl)) (by decide) (by decide)) po_none (@po_some _ _ _ (@pv _ 2 _ _ (by rfl) (by first | exact Or.inl rfl | exact Or.inr (Or.inl rfl) | exact Or.inr (Or.inr rfl)) (by decide) (by decide)))) (by rfl)) (@pg_name _ _ 4 _ nd rfl (by first | exact Or.inl rfl | exact Or.inr rfl) (by first | exact .inl rfl | exact .inr rfl | assumption)) (@pss_cut _ _ _ _ _ (@ps_if _ _ _ _ _ _ _ _ (@pt_cmpR _ _ _ _ _ _ _ _ op_eq (@pv _ 3 _ _ (by rfl) (by first | exact Or.inl rfl | exact Or.inr (Or.inl rfl) | exact Or.inr (Or.inr rfl)) (by decide) (by decide)) pe_int (nomark _)) (@pss_one _ _ _ ps_break) pss_nil) (@pss_one _ _ _ (@ps_set _ _ 3 _ _ _ _ nd rfl (by first | exact Or.inl rfl | exact Or.inr rfl) (@pe_def _ _ _ _ _ _ _ _ _ _ _ g_common_part hr (@pa_cons _ _ _ _ _ (@pv _ 3 _ _ (by rfl) (by first | exact Or.inl rfl | exact Or.inr (Or.inl rfl) | exact Or.inr (Or.inr rfl)) (by decide) (by decide)) (@pa_cons _ _ _ _ _ (@pv _ 4 _ _ (by rfl) (by first | exact Or.inl rfl | exact Or.inr (Or.inl rfl) | exact Or.inr (Or.inr rfl)) (by decide) (by decide)) pa_nil (by rfl)) (by rfl)) (by first | decide | omega | exact Nat.le_refl _) (by rfl) (by decide) (by rfl) (by rfl)) (by rfl) (by first | exact .inl rfl | exact .inr rfl | assumption)))) (by intro _; rfl)) (@pss_one _ _ _ (@ps_ret _ _ _ _ (@pe_tup _ _ _ _ _ (@pa_cons _ _ _ _ _ (@pe_callTy _ _ _ _ _ _ _ _ _ (tupleOf K) rfl B.tuple bt_tuple (@pa_cons _ _ _ _ _ (@pe_comp _ _ _ _ _ _ _ _ _ _ _ _ rfl (show CompS ["tops", "bottom", "many", "part", "top"] (defScope s_one_form) _ [4] from by exact ⟨rfl, by decide +kernel, by decide +kernel, by decide +kernel, by decide +kernel⟩) (@piL _ K _ _ _ (@pe_slice _ _ _ _ _ _ _ _ _ _ (slL K) (@pv _ 0 _ _ (by rfl) (by first | exact Or.inl rfl | exact Or.inr (Or.inl rfl) | exact Or.inr (Or.inr rfl)) (by decide) (by decide)) po_none (@po_some _ _ _ (@pv _ 2 _ _ (by rfl) (by first | exact Or.inl rfl | exact Or.inr (Or.inl rfl) | exact Or.inr (Or.inr rfl)) (by decide) (by decide)))) (by rfl)) (fun _ _ _ _ _ => (@pg_name _ _ 4 _ nd rfl (by first | exact Or.inl rfl | exact Or.inr rfl) (by first | exact .inl rfl | exact .inr rfl | assumption))) (fun _ _ _ _ _ => pts_nil) (fun _ _ _ _ _ => (@pe_op _ _ _ _ _ _ _ _ op_fdivB (@pv _ 4 _ _ (by rfl) (by first | exact Or.inl rfl | exact Or.inr (Or.inl rfl) | exact Or.inr (Or.inr rfl)) (by decide) (by decide)) (@pv _ 3 _ _ (by rfl) (by first | exact Or.inl rfl | exact Or.inr (Or.inl rfl) | exact Or.inr (Or.inr rfl)) (by decide) (by decide)))) (by intro _; rfl)) pa_nil (by rfl)) (by decide) (by decide) (by rfl) (by rfl)) (@pa_cons _ _ _ _ _ (@pe_op _ _ _ _ _ _ _ _ op_fdivB (@pv _ 1 _ _ (by rfl) (by first | exact Or.inl rfl | exact Or.inr (Or.inl rfl) | exact Or.inr (Or.inr rfl)) (by decide) (by decide)) (@pv _ 3 _ _ (by rfl) (by first | exact Or.inl rfl | exact Or.inr (Or.inl rfl) | exact Or.inr (Or.inr rfl)) (by decide) (by decide))) pa_nil (by rfl)) (by rfl))))))))), ?_⟩
  have lm : (ts.map V.int).length = ts.length := List.length_map _
  refine ⟨_, rfl, a, _, rfl, .inl hS, ?_⟩
  refine ⟨fun σ H' => H' = H ∧ ∃ m : Nat, σ = [some (.ref a), some (.int b), some (.int m), none, none] ∧ m ≤ ts.length ∧ (∀ j, m ≤ j → ts.getD j 0 = 0) ∧ (m = 0 ∨ ts.getD (m - 1) 0 ≠ 0), ?_, ?_⟩
  · refine while_by (fun σ H' => H' = H ∧ ∃ m : Nat, σ = [some (.ref a), some (.int b), some (.int m), none, none] ∧ m ≤ ts.length ∧ ∀ j, m ≤ j → ts.getD j 0 = 0) (fun σ _ => match σ with | [_, _, some (.int m), _, _] => m.toNat | _ => 0) ?_ ?_ ?_
    · refine ⟨rfl, ts.length, by rw [← lm]; rfl, Nat.le_refl _, fun j hj => ?_⟩
      rw [List.getD_eq_getElem?_getD, List.getElem?_eq_none hj]
      rfl
    · rintro _ _ ⟨rfl, m, rfl, hm, h0⟩
      refine ⟨_, rfl, _, _, rfl, rfl, _, rfl, ?_⟩
      refine ite2 (fun c => ?_) (fun c => ?_)
      · have c' : (0 : Int) < (m : Int) := of_decide_eq_true c
        obtain ⟨k, rfl⟩ : ∃ k, m = k + 1 := ⟨m - 1, by first | lia | omega⟩
        have ek : ((k + 1 : Nat) : Int) - 1 = (k : Int) := by first | lia | omega
        have hk : (ts.map V.int)[k]? = some (.int (ts.getD k 0)) := by
          rw [List.getElem?_map, List.getD_eq_getElem?_getD, List.getElem?_eq_getElem (by first | lia | omega)]
          rfl
        refine ⟨_, rfl, _, rfl, _, _, rfl, rfl, a, _, _, _, rfl, rfl, hS, (by rw [ek]; exact atI_nat hk), rfl, _, rfl, ?_⟩
        refine ite2 (fun z => ?_) (fun z => ?_)
        · have z' : ts.getD k 0 = 0 := by
            have := of_decide_eq_true z
            injection this
          refine ⟨_, rfl, _, _, rfl, rfl, ⟨rfl, k, by show [some (V.ref a), some (V.int b), some (V.int (((k + 1 : Nat) : Int) - 1)), none, none] = _; rw [ek], by first | lia | omega, fun j hj => ?_⟩, ?_⟩
          · rcases Nat.eq_or_lt_of_le hj with e | e
            · rw [← e]; exact z'
            · exact h0 j e
          · show (((k + 1 : Nat) : Int) - 1).toNat < ((k + 1 : Nat) : Int).toNat
            (first | lia | omega)
        · refine ⟨rfl, k + 1, rfl, hm, h0, .inr fun e => z ?_⟩
          rw [show k + 1 - 1 = k from rfl] at e
          rw [e]
          rfl
      · have c' : ¬ (0 : Int) < (m : Int) := of_decide_eq_false (Bool.eq_false_iff.mpr c)
        exact iteF ⟨rfl, m, rfl, hm, h0, .inl (by first | lia | omega)⟩
    · rintro σ H Q Q' h ⟨v, e, i, j, e1, e2, k, tk, q⟩
      refine ⟨v, e, i, j, e1, e2, k, tk, ?_⟩
      cases k with
      | true =>
        obtain ⟨v1, w1, v2, w2, i2, j2, u1, u2, p, xs, ii, vv, x1, x2, x3, x4, sc, kk, tt, qq⟩ := q
        exact ⟨v1, w1, v2, w2, i2, j2, u1, u2, p, xs, ii, vv, x1, x2, x3, x4, sc, kk, tt, h _ _ qq⟩
      | false => exact h _ _ q
  · rintro _ H ⟨rfl, m, rfl, hm, h0, hlast⟩
    obtain ⟨fm, wr⟩ := Po.form hb hm h0 hlast
    have bn : ((b.natAbs : Nat) : Int) = b := by first | lia | omega
    refine ⟨_, rfl, ?_⟩
    refine ⟨fun σ H' => Same H H' ∧ ∃ o, σ = [some (.ref a), some (.int b), some (.int m), some (.int ((Po.gl b.natAbs (ts.take m) : Nat) : Int)), o], ?_, ?_⟩
    · refine ⟨_, rfl, _, rfl, _, rfl, a, _, rfl, hS, fun p hp => ?_⟩
      rw [cut_is hm]
      refine ⟨p, rfl, ⟨_, SqL.of upd_same⟩, ?_⟩
      have s1 := Same.new hp (.lst ((ts.take m).map V.int))
      refine for_list (xs := (ts.take m).map V.int) (fun i σ H' => Same (upd H p (.lst ((ts.take m).map V.int))) H' ∧ ∃ o, σ = [some (.ref a), some (.int b), some (.int m), some (.int ((Po.gl b.natAbs ((ts.take m).take i) : Nat) : Int)), o]) ⟨Same.refl _, none, ?_⟩ (fun i σ H' _ h => SqL.of (h.1 _ _ upd_same)) ?_ ?_
      · show [some (V.ref a), some (V.int b), some (V.int m), some (V.int b), none] = [some (V.ref a), some (V.int b), some (V.int m), some (V.int ((b.natAbs : Nat) : Int)), none]
        rw [bn]
      · rintro i x _ H1 hx ⟨s2, o, rfl⟩
        rw [List.getElem?_map] at hx
        obtain ⟨t, ht, rfl⟩ := Option.map_eq_some_iff.mp hx
        have snoc : (ts.take m).take (i + 1) = (ts.take m).take i ++ [t] := by
          obtain ⟨hlt, e⟩ := List.getElem?_eq_some_iff.mp ht
          rw [List.take_succ_eq_append_getElem hlt, e]
        refine ⟨fun σ H' => H' = H1 ∧ σ = [some (.ref a), some (.int b), some (.int m), some (.int ((Po.gl b.natAbs ((ts.take m).take i) : Nat) : Int)), some (.int t)], ?_, ?_⟩
        · refine ⟨_, rfl, rfl, _, rfl, ?_⟩
          refine ite2 (fun z => ?_) (fun z => ?_)
          · have z' : ((Po.gl b.natAbs ((ts.take m).take i) : Nat) : Int) = 1 := by
              have := of_decide_eq_true z
              injection this
            refine ⟨s1.trans s2, some (.int t), ?_⟩
            have e : Po.gl b.natAbs (ts.take m) = 1 := by
              rw [← List.take_append_drop i (ts.take m), gl_app, show Po.gl b.natAbs ((ts.take m).take i) = 1 by first | lia | omega, Po.gl_one]
            rw [e, z']
            rfl
          · exact ⟨rfl, rfl⟩
        · rintro _ _ ⟨rfl, rfl⟩
          refine ⟨_, rfl, _, rfl, _, _, rfl, s2, some (.int t), ?_⟩
          rw [snoc, gl_snoc]
          rfl
      · rintro _ H1 ⟨s2, o, rfl⟩
        refine ⟨s1.trans s2, o, ?_⟩
        rw [List.length_map, List.take_length]
    · rintro _ H1 ⟨s1, o, rfl⟩
      have g0 : 0 < Po.gl b.natAbs (ts.take m) := Po.gl_pos (by first | lia | omega) _
      have gle : Po.gl b.natAbs (ts.take m) ≤ b.natAbs := Nat.le_of_dvd (by first | lia | omega) (Po.gl_dvd _ _).1
      generalize Po.gl b.natAbs (ts.take m) = g at *
      have cd : ∀ x : Int, CDivB x (g : Int) := fun x => ⟨by first | lia | omega, n, hl.le (by rw [Int.natAbs_natCast]; exact gle), hn⟩
      refine ⟨_, rfl, _, rfl, _, rfl, a, _, rfl, s1.seq hS, fun p hp => ?_⟩
      rw [cut_is hm]
      have s2 := Same.new hp (.lst ((ts.take m).map V.int))
      refine ⟨p, rfl, ⟨_, SqL.of upd_same⟩, ?_⟩
      have lt : ((ts.take m).map V.int).length ≤ 1000 := by rw [List.length_map, List.length_take]; (first | lia | omega)
      refine comp_list (xs := (ts.take m).map V.int) (Nat.le_of_lt (small1000 lt)) (fun i τ ys H' => Same (upd H1 p (.lst ((ts.take m).map V.int))) H' ∧ (∃ o, τ = [some (.ref a), some (.int b), some (.int m), some (.int g), o]) ∧ ys = (((ts.take m).take i).map fun t => t.fdiv (g : Int)).map V.int) ⟨Same.refl _, ⟨_, rfl⟩, rfl⟩ (fun i τ ys H' h => SqL.of (h.1 _ _ upd_same)) ?_ ?_
      · rintro i x _ _ H2 hx hi ⟨s3, ⟨o, rfl⟩, rfl⟩
        have hlt : i < ((ts.take m).map V.int).length := (List.getElem?_eq_some_iff.mp hx).1
        rw [List.getElem?_map] at hx
        obtain ⟨t, ht, rfl⟩ := Option.map_eq_some_iff.mp hx
        refine ⟨_, rfl, _, rfl, _, _, rfl, rfl, cd _, nxt hlt hi ⟨s3, ⟨_, rfl⟩, ?_⟩⟩
        obtain ⟨hl2, e⟩ := List.getElem?_eq_some_iff.mp ht
        rw [List.take_succ_eq_append_getElem hl2, e, List.map_append, List.map_append]
        rfl
      · rintro _ _ H2 D hy ⟨s3, ⟨o, rfl⟩, rfl⟩ hD
        rw [List.length_map, List.take_length]
        refine ⟨D, _, rfl, .inl ⟨SqL.of upd_same, fun t ht => ?_⟩⟩
        refine ⟨_, rfl, _, rfl, _, _, rfl, rfl, cd _, (by show 2 ≤ sizeLine; decide), fun v hv => ?_⟩
        refine q _ _ _ _ (((((s1.trans s2).trans s3).trans (Same.new hD _)).trans (Same.new ht _)).trans (Same.new hv _)) ⟨v, t, rfl, upd_same, ?_⟩ fm wr (by rw [List.length_map, List.length_take]; (first | lia | omega))
        exact (Same.new hv _) _ _ upd_same
/-! ### poly -/
def Fra (K : PySem.W.Frag) (H : Hp) (v : V) (f : Int × Int) : Prop := ∃ p, v = .ref p ∧ SqT K H p [.int f.1, .int f.2]
def Fras (K : PySem.W.Frag) (H : Hp) (xs : List V) (fs : List (Int × Int)) : Prop := xs.length = fs.length ∧ ∀ (i : Nat) (x : V), xs[i]? = some x → ∃ f, fs[i]? = some f ∧ Fra K H x f
def spPolyQ (K : PySem.W.Frag) : Sp := fun vs H Q _ => ∃ (a : Addr) (tt : String) (xs : List V) (fs : List (Int × Int)) (n m : Nat), vs = [.ref a] ∧ SqX K tt H a xs ∧ Fras K H xs fs ∧ (∀ f ∈ fs, 0 < f.2 ∧ Lt2 m f.1 ∧ Lt2 n f.2) ∧ fs.length ≤ 100 ∧ n * fs.length ≤ 8000 ∧ n ≤ 8000 ∧ m ≤ 100000 ∧
  ∀ v P B H', Same H H' → Pol H' v P B → Po.Fm P B → Lt2 (n * fs.length + 1) B → (∀ k, P.getD k 0 * (fs.getD k (0, 1)).2 = (fs.getD k (0, 1)).1 * B) → P.length ≤ fs.length → Q v H'
def spOOB (K : PySem.W.Frag) : Sp := fun vs H Q _ => ∃ (a : Addr) (tt : String) (xs : List V) (fs : List (Int × Int)) (n m : Nat), vs = [.ref a] ∧ SqX K tt H a xs ∧ Fras K H xs fs ∧ (∀ f ∈ fs, 0 < f.2 ∧ Lt2 m f.1 ∧ Lt2 n f.2) ∧ fs.length ≤ 100 ∧ n * fs.length ≤ 8000 ∧ n ≤ 8000 ∧ m ≤ 100000 ∧
  ∀ (r D : Addr) (b0 : Int) (H' : Hp), Same H H' → SqT K H' r [.ref D, .int b0] → SqL K H' D ((fs.map fun f => f.1 * b0.fdiv f.2).map V.int) → 0 < b0 → Lt2 (n * fs.length + 1) b0 → (∀ (j : Nat) (f : Int × Int), fs[j]? = some f → f.2 ∣ b0) → Q (.ref r) H'
theorem cp_pos {a b : Int} (h : b ≠ 0) : 0 < Fr.cp a b := by
  unfold Fr.cp
  have : 0 < Int.gcd a b := Int.gcd_pos_of_ne_zero_right a h
  (first | lia | omega)
theorem cp_dvd (a b : Int) : Fr.cp a b ∣ a ∧ Fr.cp a b ∣ b := by
  unfold Fr.cp
  exact ⟨Int.gcd_dvd_left .., Int.gcd_dvd_right ..⟩
theorem fdiv_of_dvd {b c : Int} (hc : 0 < c) (hb : 0 < b) (d : c ∣ b) : b = c * b.fdiv c ∧ 0 < b.fdiv c ∧ (b.fdiv c).natAbs ≤ b.natAbs := by
  obtain ⟨q, rfl⟩ := d
  rw [Int.mul_fdiv_cancel_left _ (by first | lia | omega)]
  have q0 : 0 < q := by
    rcases Int.lt_trichotomy q 0 with z | z | z
    · have := Int.mul_neg_of_pos_of_neg hc z; (first | lia | omega)
    · rw [z, Int.mul_zero] at hb; (first | lia | omega)
    · exact z
  refine ⟨rfl, q0, ?_⟩
  rw [Int.natAbs_mul]
  exact Nat.le_mul_of_pos_left _ (by first | lia | omega)
/-- the next bottom -/
theorem bot_next {b r : Int} (hb : 0 < b) (hr : 0 < r) : 0 < b * r.fdiv (Fr.cp b r) ∧ r ∣ b * r.fdiv (Fr.cp b r) := by
  have g0 := cp_pos (a := b) (b := r) (by first | lia | omega)
  obtain ⟨g1, g2⟩ := cp_dvd b r
  obtain ⟨e, q0, _⟩ := fdiv_of_dvd g0 hr g2
  refine ⟨Int.mul_pos hb q0, ?_⟩
  obtain ⟨c, hc⟩ := g1
  refine ⟨c, ?_⟩
  generalize r.fdiv (Fr.cp b r) = q at *
  generalize Fr.cp b r = g at *
  subst hc e
  grind
theorem sc_over_one_bottom : FnScope ["some", "bottom", "r"] ["some"] (defScope s_over_one_bottom) := ⟨rfl, rfl, rfl, by decide +kernel, rfl, by decide +kernel, by decide +kernel⟩
theorem ok_over_one_bottom {f0 : Addr} {fd : FuncData} (F : Fun K "over_one_bottom" "over_one_bottom" s_over_one_bottom f0 fd) (B : Bl mg) (g_common_part : Def P w K mg base "common_part" 1 ["one", "other"] spCommon) : FnOk P w K mg base CX0 2 f0 fd ["some"] (spOOB K) := by
  refine F.ok sc_over_one_bottom (fun vs H Q E h => ?_) (fun cdv A outer s H vs Q E hr h => ?_)
  · obtain ⟨a, tt, xs, fs, n, m, rfl, _⟩ := h
    rfl
  obtain ⟨a, tt, xs, fs, n, m, rfl, hS, hF, hb, hl, hz, hn8, hm8, q⟩ := h
  have nd := sc_over_one_bottom.nd
  refine ⟨_, (@pss_cons _ _ _ _ _ (@ps_set _ _ 1 _ _ _ _ nd rfl (by first | exact Or.inl rfl | exact Or.inr rfl) pe_int (by rfl) (by first | exact .inl rfl | exact .inr rfl | assumption)) (@pss_cut _ _ _ _ _ (@ps_for _ _ _ _ _ _ _ _ PassesOwn.never rfl (@piS _ K _ _ _ (@pv _ 0 _ _ (by rfl) (by first | exact Or.inl rfl | exact Or.inr (Or.inl rfl) | exact Or.inr (Or.inr rfl)) (by decide) (by decide)) (by rfl)) (@pg_name _ _ 2 _ nd rfl (by first | exact Or.inl rfl | exact Or.inr rfl) (by first | exact .inl rfl | exact .inr rfl | assumption)) (@pss_one _ _ _ (@ps_aug _ _ 1 _ _ _ _ _ _ nd rfl (by first | exact Or.inl rfl | exact Or.inr rfl) (@pe_op _ _ _ _ _ _ _ _ op_fdivB (@pe_ix _ _ _ _ _ _ _ (ixT K) (@pv _ 2 _ _ (by rfl) (by first | exact Or.inl rfl | exact Or.inr (Or.inl rfl) | exact Or.inr (Or.inr rfl)) (by decide) (by decide)) pe_int (fun _ _ => rfl)) (@pe_def _ _ _ _ _ _ _ _ _ _ _ g_common_part hr (@pa_cons _ _ _ _ _ (@pv _ 1 _ _ (by rfl) (by first | exact Or.inl rfl | exact Or.inr (Or.inl rfl) | exact Or.inr (Or.inr rfl)) (by decide) (by decide)) (@pa_cons _ _ _ _ _ (@pe_ix _ _ _ _ _ _ _ (ixT K) (@pv _ 2 _ _ (by rfl) (by first | exact Or.inl rfl | exact Or.inr (Or.inl rfl) | exact Or.inr (Or.inr rfl)) (by decide) (by decide)) pe_int (fun _ _ => rfl)) pa_nil (by rfl)) (by rfl)) (by first | decide | omega | exact Nat.le_refl _) (by rfl) (by decide) (by rfl) (by rfl))) ip_mulB (by first | exact .inl rfl | exact .inr rfl | assumption))) (by intro _; rfl)) (@pss_one _ _ _ (@ps_ret _ _ _ _ (@pe_tup _ _ _ _ _ (@pa_cons _ _ _ _ _ (@pe_comp _ _ _ _ _ _ _ _ _ _ _ _ rfl (show CompS ["some", "bottom", "r"] (defScope s_over_one_bottom) _ [2] from by exact ⟨rfl, by decide +kernel, by decide +kernel, by decide +kernel, by decide +kernel⟩) (@piS _ K _ _ _ (@pv _ 0 _ _ (by rfl) (by first | exact Or.inl rfl | exact Or.inr (Or.inl rfl) | exact Or.inr (Or.inr rfl)) (by decide) (by decide)) (by rfl)) (fun _ _ _ _ _ => (@pg_name _ _ 2 _ nd rfl (by first | exact Or.inl rfl | exact Or.inr rfl) (by first | exact .inl rfl | exact .inr rfl | assumption))) (fun _ _ _ _ _ => pts_nil) (fun _ _ _ _ _ => (@pe_op _ _ _ _ _ _ _ _ op_mulB (@pe_ix _ _ _ _ _ _ _ (ixT K) (@pv _ 2 _ _ (by rfl) (by first | exact Or.inl rfl | exact Or.inr (Or.inl rfl) | exact Or.inr (Or.inr rfl)) (by decide) (by decide)) pe_int (fun _ _ => rfl)) (@pe_op _ _ _ _ _ _ _ _ op_fdivB (@pv _ 1 _ _ (by rfl) (by first | exact Or.inl rfl | exact Or.inr (Or.inl rfl) | exact Or.inr (Or.inr rfl)) (by decide) (by decide)) (@pe_ix _ _ _ _ _ _ _ (ixT K) (@pv _ 2 _ _ (by rfl) (by first | exact Or.inl rfl | exact Or.inr (Or.inl rfl) | exact Or.inr (Or.inr rfl)) (by decide) (by decide)) pe_int (fun _ _ => rfl))))) (by intro _; rfl)) (@pa_cons _ _ _ _ _ (@pv _ 1 _ _ (by rfl) (by first | exact Or.inl rfl | exact Or.inr (Or.inl rfl) | exact Or.inr (Or.inr rfl)) (by decide) (by decide)) pa_nil (by rfl)) (by rfl))))))), ?_⟩
  have lx : xs.length = fs.length := hF.1
  have at2 : ∀ {i : Nat} {x : V}, xs[i]? = some x → ∃ p t b, x = .ref p ∧ SqT K H p [.int t, .int b] ∧ fs[i]? = some (t, b) ∧ 0 < b ∧ Lt2 m t ∧ Lt2 n b := fun {i x} hx => by
    obtain ⟨f, hf, p, e, q⟩ := hF.2 i x hx
    obtain ⟨h1, h2, h3⟩ := hb f (List.mem_of_getElem? hf)
    exact ⟨p, f.1, f.2, e, q, hf, h1, h2, h3⟩
  refine ⟨fun σ H' => H' = H ∧ ∃ (o : Option V) (b0 : Int), σ = [some (.ref a), some (.int b0), o] ∧ 0 < b0 ∧ Lt2 (n * fs.length + 1) b0 ∧ ∀ (j : Nat) (f : Int × Int), fs[j]? = some f → f.2 ∣ b0, ?_, ?_⟩
  · refine ⟨_, rfl, for_seq (xs := xs) (tt := tt) (fun i σ H' => H' = H ∧ ∃ (o : Option V) (b0 : Int), σ = [some (.ref a), some (.int b0), o] ∧ 0 < b0 ∧ Lt2 (n * i + 1) b0 ∧ ∀ (j : Nat) (f : Int × Int), j < i → fs[j]? = some f → f.2 ∣ b0) ⟨rfl, none, 1, rfl, by decide, by unfold Lt2; rw [Nat.mul_zero]; decide, fun j f h => absurd h (Nat.not_lt_zero _)⟩ hS (fun i σ H' _ h => by rw [h.1]; exact hS) ?_ ?_⟩
    · rintro i x _ _ hx ⟨rfl, o, b0, rfl, h0, hl0, hd⟩
      obtain ⟨p, t, b, rfl, hp, hf, b1, l1, l2⟩ := at2 hx
      have hi : i < fs.length := (List.getElem?_eq_some_iff.mp hf).1
      have g0 := cp_pos (a := b0) (b := b) (by first | lia | omega)
      obtain ⟨e, q0, ql⟩ := fdiv_of_dvd g0 b1 (cp_dvd b0 b).2
      obtain ⟨k1, k2⟩ := bot_next h0 b1
      have gl : (Fr.cp b0 b).natAbs ≤ b.natAbs := Nat.le_of_dvd (by first | lia | omega) (Int.natAbs_dvd_natAbs.mpr (cp_dvd b0 b).2)
      refine ⟨_, rfl, _, rfl, p, _, 1, _, rfl, rfl, hp, rfl, _, rfl, _, rfl, p, _, 1, _, rfl, rfl, hp, rfl, _, _, rfl, ?_⟩
      have hm : n * (i + 1) + 1 = (n * i + 1) + n := by rw [Nat.mul_succ]; (first | lia | omega)
      refine ⟨_, _, rfl, rfl, ⟨by first | lia | omega, n, l2.le gl, by first | lia | omega⟩, _, _, rfl, rfl, ⟨_, _, hl0, l2.le ql, ?_⟩, rfl, _, _, rfl, k1, by rw [hm]; exact hl0.mul (l2.le ql), fun j f hj hfj => ?_⟩
      · have : n * i ≤ n * fs.length := Nat.mul_le_mul_left _ (by first | lia | omega)
        (first | lia | omega)
      · rcases Nat.eq_or_lt_of_le (Nat.le_of_lt_succ hj) with z | z
        · rw [z, hf] at hfj
          cases hfj
          exact k2
        · exact Int.dvd_mul_of_dvd_left (hd j f z hfj)
    · rintro _ _ ⟨rfl, o, b0, rfl, h0, hl0, hd⟩
      rw [lx] at hl0 hd
      exact ⟨rfl, o, b0, rfl, h0, hl0, fun j f h => hd j f (List.getElem?_eq_some_iff.mp h).1 h⟩
  · rintro _ H ⟨rfl, o, b0, rfl, h0, hl0, hd⟩
    refine ⟨_, rfl, comp_seq (xs := xs) (tt := tt) (by rw [sizeLine_eq]; (first | lia | omega)) (fun i τ ys H' => H' = H ∧ (∃ o, τ = [some (.ref a), some (.int b0), o]) ∧ ys = ((fs.take i).map fun f => f.1 * b0.fdiv f.2).map V.int) ⟨rfl, ⟨_, rfl⟩, rfl⟩ hS (fun i τ ys H' h => by rw [h.1]; exact hS) ?_ ?_⟩
    · rintro i x _ _ _ hx hy ⟨rfl, ⟨o, rfl⟩, rfl⟩
      obtain ⟨p, t, b, rfl, hp, hf, b1, l1, l2⟩ := at2 hx
      have hi : i < xs.length := (List.getElem?_eq_some_iff.mp hx).1
      obtain ⟨e, q0, ql⟩ := fdiv_of_dvd b1 h0 (hd _ _ hf)
      refine ⟨_, rfl, p, _, 0, _, rfl, rfl, hp, rfl, _, rfl, _, rfl, p, _, 1, _, rfl, rfl, hp, rfl, _, _, rfl, rfl, ⟨by first | lia | omega, n, l2, by first | lia | omega⟩, _, _, rfl, rfl, ⟨_, _, l1, hl0.le ql, by first | lia | omega⟩, nxt hi hy ⟨rfl, ⟨_, rfl⟩, ?_⟩⟩
      obtain ⟨hl2, e2⟩ := List.getElem?_eq_some_iff.mp hf
      rw [List.take_succ_eq_append_getElem hl2, e2, List.map_append, List.map_append]
      rfl
    · rintro _ _ H D hy ⟨rfl, ⟨o, rfl⟩, rfl⟩ hD
      rw [lx, List.take_length]
      have s1 := Same.new hD (.lst ((fs.map fun f => f.1 * b0.fdiv f.2).map V.int))
      have hD1 := upd_same (H := H) (a := D) (o := .lst ((fs.map fun f => f.1 * b0.fdiv f.2).map V.int))
      generalize upd H D (.lst ((fs.map fun f => f.1 * b0.fdiv f.2).map V.int)) = H1 at *
      refine ⟨_, rfl, (by show 2 ≤ sizeLine; decide), fun r hr => ?_⟩
      have s2 := Same.new hr (.tup [.ref D, .int b0])
      exact q r D b0 _ (s1.trans s2) (SqT.of upd_same) (SqL.of (s2 _ _ hD1)) h0 hl0 hd
theorem sc_poly : FnScope ["some", "tops", "bottom"] ["some"] (defScope s_poly) := ⟨rfl, rfl, rfl, by decide +kernel, rfl, by decide +kernel, by decide +kernel⟩
theorem ok_poly {f0 : Addr} {fd : FuncData} (F : Fun K "poly" "poly" s_poly f0 fd) (B : Bl mg) (g_over_one_bottom : Def P w K mg base "over_one_bottom" 2 ["some"] (spOOB K)) (g_one_form : Def P w K mg base "one_form" 2 ["tops", "bottom"] (spOF K)) : FnOk P w K mg base CX0 3 f0 fd ["some"] (spPolyQ K) := by
  refine F.ok sc_poly (fun vs H Q E h => ?_) (fun cdv A outer s H vs Q E hr h => ?_)
  · obtain ⟨a, tt, xs, fs, n, m, rfl, _⟩ := h
    rfl
  obtain ⟨a, tt, xs, fs, n, m, rfl, hS, hF, hb, hl, hz, hn8, hm8, q⟩ := h
  have nd := sc_poly.nd
  refine ⟨_, (@pss_cons _ _ _ _ _ (@ps_asg _ _ _ _ _ _ (@pe_def _ _ _ _ _ _ _ _ _ _ _ g_over_one_bottom hr (@pa_cons _ _ _ _ _ (@pv _ 0 _ _ (by rfl) (by first | exact Or.inl rfl | exact Or.inr (Or.inl rfl) | exact Or.inr (Or.inr rfl)) (by decide) (by decide)) pa_nil (by rfl)) (by first | decide | omega | exact Nat.le_refl _) (by rfl) (by decide) (by rfl) (by rfl)) (@pgT _ K _ _ _ 2 _ rfl (@pgs_cons _ _ _ _ _ (@pg_name _ _ 1 _ nd rfl (by first | exact Or.inl rfl | exact Or.inr rfl) (by first | exact .inl rfl | exact .inr rfl | assumption)) (@pgs_cons _ _ _ _ _ (@pg_name _ _ 2 _ nd rfl (by first | exact Or.inl rfl | exact Or.inr rfl) (by first | exact .inl rfl | exact .inr rfl | assumption)) pgs_nil (by rfl)) (by rfl)) (by rfl) (by rfl) (by rfl)) (by rfl) (by rfl) (by rfl)) (@pss_one _ _ _ (@ps_ret _ _ _ _ (@pe_def _ _ _ _ _ _ _ _ _ _ _ g_one_form hr (@pa_cons _ _ _ _ _ (@pv _ 1 _ _ (by rfl) (by first | exact Or.inl rfl | exact Or.inr (Or.inl rfl) | exact Or.inr (Or.inr rfl)) (by decide) (by decide)) (@pa_cons _ _ _ _ _ (@pv _ 2 _ _ (by rfl) (by first | exact Or.inl rfl | exact Or.inr (Or.inl rfl) | exact Or.inr (Or.inr rfl)) (by decide) (by decide)) pa_nil (by rfl)) (by rfl)) (by first | decide | omega | exact Nat.le_refl _) (by rfl) (by decide) (by rfl) (by rfl))))), ?_⟩
  refine ⟨_, rfl, a, tt, xs, fs, n, m, rfl, hS, hF, hb, hl, hz, hn8, hm8, fun r D b0 H1 s1 hr1 hD h0 hl0 hd => ?_⟩
  refine ⟨r, _, rfl, hr1, rfl, _, _, rfl, _, _, rfl, rfl, _, rfl, _, rfl, ?_⟩
  refine ⟨D, (fs.map fun f => f.1 * b0.fdiv f.2), b0, rfl, hD, h0, ⟨_, by first | lia | omega, hl0⟩, by rw [List.length_map]; (first | lia | omega), fun v P B H2 s2 hv fm hw hle => ?_⟩
  rw [List.length_map] at hle
  refine q v P B H2 (s1.trans s2) hv fm ?_ (fun k => ?_) hle
  · refine hl0.le ?_
    have dv := Po.dvd_of fm hw
    exact Nat.le_of_dvd (by first | lia | omega) dv
  · have hk := hw k
    cases hf : fs[k]? with
    | none =>
      rw [getD_out (fs := fs.map fun f => f.1 * b0.fdiv f.2) (by rw [List.length_map]; exact List.getElem?_eq_none_iff.mp hf), Int.zero_mul] at hk
      rw [getD_out (fs := fs) (List.getElem?_eq_none_iff.mp hf)]
      rcases Int.mul_eq_zero.mp hk with z | z
      · rw [z]; simp
      · (first | lia | omega)
    | some f =>
      have b1 := (hb f (List.mem_of_getElem? hf)).1
      obtain ⟨e, q0, ql⟩ := fdiv_of_dvd b1 h0 (hd _ _ hf)
      rw [getD_of (fs := fs.map fun f => f.1 * b0.fdiv f.2) (f := f.1 * b0.fdiv f.2) (by rw [List.getElem?_map, hf]; rfl)] at hk
      rw [getD_of hf]
      generalize b0.fdiv f.2 = c at *
      have : (P.getD k 0 * f.2) * c = (f.1 * B) * c := by
        rw [e] at hk
        grind
      exact Int.eq_of_mul_eq_mul_right (by first | lia | omega) this
/-! ### fraction_at, degree, lead -/
/-- the top at a power, 0 beyond -/
def tk (P : List Int) (k : Int) : Int := if k < 0 then 0 else P.getD k.toNat 0
theorem fr_zero {b : Int} (h : 0 < b) : Fr.top 0 b = 0 ∧ Fr.bot 0 b = 1 := by
  have := Fr.uniq (t := 0) (b := b) (c := 0) (d := 1) (by first | lia | omega) (by decide) (by decide) (by first | lia | omega)
  exact this
def spFAt (K : PySem.W.Frag) : Sp := fun vs H Q _ => ∃ (v : V) (P : List Int) (B k : Int), vs = [v, .int k] ∧ Pol H v P B ∧ 0 < B ∧ (∃ n, n ≤ 9000 ∧ Lt2 n B) ∧ ∀ p H', Same H H' → H' p = some (.tup [.int (Fr.top (tk P k) B), .int (Fr.bot (tk P k) B)]) → Q (.ref p) H'
theorem sc_fraction_at : FnScope ["p", "k", "tops", "bottom"] ["p", "k"] (defScope s_fraction_at) := ⟨rfl, rfl, rfl, by decide +kernel, rfl, by decide +kernel, by decide +kernel⟩
theorem ok_fraction_at {f0 : Addr} {fd : FuncData} (F : Fun K "fraction_at" "fraction_at" s_fraction_at f0 fd) (B : Bl mg) (g_fraction : Def P w K mg base "fraction" 2 ["top", "bottom"] spFrac) : FnOk P w K mg base CX0 3 f0 fd ["p", "k"] (spFAt K) := by
  refine F.ok sc_fraction_at (fun vs H Q E h => ?_) (fun cdv A outer s H vs Q E hr h => ?_)
  · obtain ⟨v, ts, b, k, rfl, _⟩ := h
    rfl
  obtain ⟨v, ts, b, k, rfl, ⟨a, t, rfl, h1, h2⟩, hb, hn, q⟩ := h
  have nd := sc_fraction_at.nd
  refine ⟨_, (@pss_cons _ _ _ _ _ (@ps_asg _ _ _ _ _ _ (@pv _ 0 _ _ (by rfl) (by first | exact Or.inl rfl | exact Or.inr (Or.inl rfl) | exact Or.inr (Or.inr rfl)) (by decide) (by decide)) (@pgT _ K _ _ _ 2 _ rfl (@pgs_cons _ _ _ _ _ (@pg_name _ _ 2 _ nd rfl (by first | exact Or.inl rfl | exact Or.inr rfl) (by first | exact .inl rfl | exact .inr rfl | assumption)) (@pgs_cons _ _ _ _ _ (@pg_name _ _ 3 _ nd rfl (by first | exact Or.inl rfl | exact Or.inr rfl) (by first | exact .inl rfl | exact .inr rfl | assumption)) pgs_nil (by rfl)) (by rfl)) (by rfl) (by rfl) (by rfl)) (by rfl) (by rfl) (by rfl)) (@pss_cut _ _ _ _ _ (@ps_if _ _ _ _ _ _ _ _ (@pt_chain _ _ _ _ _ _ _ _ _ _ _ _ op_le op_lt pe_int (@pv _ 1 _ _ (by rfl) (by first | exact Or.inl rfl | exact Or.inr (Or.inl rfl) | exact Or.inr (Or.inr rfl)) (by decide) (by decide)) (@pe_callB _ _ _ _ _ _ _ _ _ (lenS K) rfl B.len bt_len (@pa_cons _ _ _ _ _ (@pv _ 2 _ _ (by rfl) (by first | exact Or.inl rfl | exact Or.inr (Or.inl rfl) | exact Or.inr (Or.inr rfl)) (by decide) (by decide)) pa_nil (by rfl)) (by decide) (by decide) (by rfl) (by rfl)) (by with_unfolding_all rfl)) (@pss_one _ _ _ (@ps_ret _ _ _ _ (@pe_def _ _ _ _ _ _ _ _ _ _ _ g_fraction hr (@pa_cons _ _ _ _ _ (@pe_ix _ _ _ _ _ _ _ (ixT K) (@pv _ 2 _ _ (by rfl) (by first | exact Or.inl rfl | exact Or.inr (Or.inl rfl) | exact Or.inr (Or.inr rfl)) (by decide) (by decide)) (@pv _ 1 _ _ (by rfl) (by first | exact Or.inl rfl | exact Or.inr (Or.inl rfl) | exact Or.inr (Or.inr rfl)) (by decide) (by decide)) (fun _ _ => rfl)) (@pa_cons _ _ _ _ _ (@pv _ 3 _ _ (by rfl) (by first | exact Or.inl rfl | exact Or.inr (Or.inl rfl) | exact Or.inr (Or.inr rfl)) (by decide) (by decide)) pa_nil (by rfl)) (by rfl)) (by first | decide | omega | exact Nat.le_refl _) (by rfl) (by decide) (by rfl) (by rfl)))) pss_nil) (@pss_one _ _ _ (@ps_ret _ _ _ _ (@pe_tup _ _ _ _ _ (@pa_cons _ _ _ _ _ pe_int (@pa_cons _ _ _ _ _ pe_int pa_nil (by rfl)) (by rfl))))))), ?_⟩
  have k1 := SqT.of (K := K) h1
  have k2 := SqT.of (K := K) h2
  refine ⟨_, rfl, a, _, rfl, k1, rfl, _, _, rfl, _, _, rfl, rfl, ?_⟩
  refine ⟨fun σ H' => σ = [some (.ref a), some (.int k), some (.ref t), some (.int b)] ∧ H' = H ∧ tk ts k = 0, ?_, ?_⟩
  · refine ⟨_, rfl, _, _, rfl, rfl, _, rfl, ?_⟩
    refine ite2 (fun c => ?_) (fun c => ?_)
    · have c' : (0 : Int) ≤ k := of_decide_eq_true c
      refine ⟨_, rfl, t, _, rfl, .inr k2, _, _, rfl, rfl, _, rfl, ?_⟩
      refine ite2 (fun z => ?_) (fun z => ?_)
      · have z' : k < (((ts.map V.int).length : Nat) : Int) := of_decide_eq_true z
        rw [List.length_map] at z'
        obtain ⟨m, rfl⟩ := Int.eq_ofNat_of_zero_le c'
        have hm : (ts.map V.int)[m]? = some (.int (tk ts m)) := by
          rw [List.getElem?_map, List.getElem?_eq_getElem (by first | lia | omega)]
          unfold tk
          rw [if_neg (by first | lia | omega), Int.toNat_natCast, List.getD_eq_getElem?_getD, List.getElem?_eq_getElem (by first | lia | omega)]
          rfl
        refine ⟨_, rfl, _, rfl, t, _, _, _, rfl, rfl, k2, atI_nat hm, _, rfl, _, _, rfl, by first | lia | omega, hn, fun p H1 s1 hp => ?_⟩
        exact q p H1 s1 hp
      · have z' : ¬ k < (((ts.map V.int).length : Nat) : Int) := of_decide_eq_false (Bool.eq_false_iff.mpr z)
        rw [List.length_map] at z'
        refine ⟨rfl, rfl, ?_⟩
        unfold tk
        rw [if_neg (by first | lia | omega), getD_out (by first | lia | omega)]
    · have c' : ¬ (0 : Int) ≤ k := of_decide_eq_false (Bool.eq_false_iff.mpr c)
      refine ⟨_, rfl, iteF ⟨rfl, rfl, ?_⟩⟩
      unfold tk
      rw [if_pos (by first | lia | omega)]
  · rintro _ _ ⟨rfl, rfl, e⟩
    refine ⟨(by show 2 ≤ sizeLine; decide), fun p hp => ?_⟩
    refine q p _ (Same.new hp _) ?_
    rw [e, (fr_zero hb).1, (fr_zero hb).2]
    exact upd_same
def spDeg (K : PySem.W.Frag) : Sp := fun vs H Q _ => ∃ (v : V) (P : List Int) (B : Int), vs = [v] ∧ Pol H v P B ∧ Q (.int ((P.length : Int) - 1)) H
theorem sc_degree : FnScope ["p"] ["p"] (defScope s_degree) := ⟨rfl, rfl, rfl, by decide +kernel, rfl, by decide +kernel, by decide +kernel⟩
theorem ok_degree {f0 : Addr} {fd : FuncData} (F : Fun K "degree" "degree" s_degree f0 fd) (B : Bl mg) : FnOk P w K mg base CX0 1 f0 fd ["p"] (spDeg K) := by
  refine F.ok sc_degree (fun vs H Q E h => ?_) (fun cdv A outer s H vs Q E hr h => ?_)
  · obtain ⟨v, ts, b, rfl, _⟩ := h
    rfl
  obtain ⟨v, ts, b, rfl, ⟨a, t, rfl, h1, h2⟩, q⟩ := h
  have nd := sc_degree.nd
  refine ⟨_, (@pss_one _ _ _ (@ps_ret _ _ _ _ (@pe_op _ _ _ _ _ _ _ _ op_sub (@pe_callB _ _ _ _ _ _ _ _ _ (lenS K) rfl B.len bt_len (@pa_cons _ _ _ _ _ (@pe_ix _ _ _ _ _ _ _ (ixT K) (@pv _ 0 _ _ (by rfl) (by first | exact Or.inl rfl | exact Or.inr (Or.inl rfl) | exact Or.inr (Or.inr rfl)) (by decide) (by decide)) pe_int (fun _ _ => rfl)) pa_nil (by rfl)) (by decide) (by decide) (by rfl) (by rfl)) pe_int))), ?_⟩
  have k1 := SqT.of (K := K) h1
  refine ⟨_, rfl, a, _, 0, _, rfl, rfl, k1, rfl, t, _, rfl, .inr (SqT.of h2), _, _, rfl, rfl, ?_⟩
  rw [List.length_map]
  exact q
def spLead (K : PySem.W.Frag) : Sp := fun vs H Q _ => ∃ (v : V) (P : List Int) (B : Int), vs = [v] ∧ Pol H v P B ∧ 0 < B ∧ (∃ n, n ≤ 9000 ∧ Lt2 n B) ∧ ∀ p H', Same H H' → H' p = some (.tup [.int (Fr.top (tk P ((P.length : Int) - 1)) B), .int (Fr.bot (tk P ((P.length : Int) - 1)) B)]) → Q (.ref p) H'
theorem sc_lead : FnScope ["p"] ["p"] (defScope s_lead) := ⟨rfl, rfl, rfl, by decide +kernel, rfl, by decide +kernel, by decide +kernel⟩
theorem ok_lead {f0 : Addr} {fd : FuncData} (F : Fun K "lead" "lead" s_lead f0 fd) (B : Bl mg) (g_fraction_at : Def P w K mg base "fraction_at" 3 ["p", "k"] (spFAt K)) (g_degree : Def P w K mg base "degree" 1 ["p"] (spDeg K)) : FnOk P w K mg base CX0 4 f0 fd ["p"] (spLead K) := by
  refine F.ok sc_lead (fun vs H Q E h => ?_) (fun cdv A outer s H vs Q E hr h => ?_)
  · obtain ⟨v, ts, b, rfl, _⟩ := h
    rfl
  obtain ⟨v, ts, b, rfl, hp, hb, hn, q⟩ := h
  have nd := sc_lead.nd
  refine ⟨_, (@pss_one _ _ _ (@ps_ret _ _ _ _ (@pe_def _ _ _ _ _ _ _ _ _ _ _ g_fraction_at hr (@pa_cons _ _ _ _ _ (@pv _ 0 _ _ (by rfl) (by first | exact Or.inl rfl | exact Or.inr (Or.inl rfl) | exact Or.inr (Or.inr rfl)) (by decide) (by decide)) (@pa_cons _ _ _ _ _ (@pe_def _ _ _ _ _ _ _ _ _ _ _ g_degree hr (@pa_cons _ _ _ _ _ (@pv _ 0 _ _ (by rfl) (by first | exact Or.inl rfl | exact Or.inr (Or.inl rfl) | exact Or.inr (Or.inr rfl)) (by decide) (by decide)) pa_nil (by rfl)) (by first | decide | omega | exact Nat.le_refl _) (by rfl) (by decide) (by rfl) (by rfl)) pa_nil (by rfl)) (by rfl)) (by first | decide | omega | exact Nat.le_refl _) (by rfl) (by decide) (by rfl) (by rfl)))), ?_⟩
  exact ⟨_, rfl, _, rfl, v, ts, b, rfl, hp, v, ts, b, _, rfl, hp, hb, hn, q⟩
/-! ### fractions of polynomials, by worth -/
def spFAtQ (K : PySem.W.Frag) : Sp := fun vs H Q _ => ∃ (v : V) (P : List Int) (B : Int) (k n b : Nat), vs = [v, .int k] ∧ Pol H v P B ∧ Pc.Pz n b P B ∧ b ≤ 9000 ∧ ∀ v' H', Same H H' → Fq K n b H' v' (Qp.q P B k) → Q v' H'
theorem fatQ {x : Str} {k : Nat} {ps : List Str} (g : Def P w K mg base x k ps (spFAt K)) : Def P w K mg base x k ps (spFAtQ K) := by
  refine g.imp fun vs H Q E z => ?_
  obtain ⟨v, P1, B1, k, n, b, rfl, h1, z1, hb, q⟩ := z
  refine ⟨v, P1, B1, k, rfl, h1, z1.fm.pos, ⟨b, hb, z1.bot⟩, fun p H' s hp => ?_⟩
  have e : tk P1 (k : Int) = P1.getD k 0 := by
    unfold tk
    rw [if_neg (by first | lia | omega), Int.toNat_natCast]
  rw [e] at hp
  exact q _ H' s (Fq.of (SqT.of hp) (Int.ne_of_gt z1.fm.pos) (z1.tops k) z1.bot)
def spLeadQ (K : PySem.W.Frag) : Sp := fun vs H Q _ => ∃ (v : V) (P : List Int) (B : Int) (n b : Nat), vs = [v] ∧ Pol H v P B ∧ P ≠ [] ∧ Pc.Pz n b P B ∧ b ≤ 9000 ∧ ∀ v' H', Same H H' → Fq K n b H' v' (Qp.q P B (P.length - 1)) → Q v' H'
theorem leadQ {x : Str} {k : Nat} {ps : List Str} (g : Def P w K mg base x k ps (spLead K)) : Def P w K mg base x k ps (spLeadQ K) := by
  refine g.imp fun vs H Q E z => ?_
  obtain ⟨v, P1, B1, n, b, rfl, h1, hP, z1, hb, q⟩ := z
  refine ⟨v, P1, B1, rfl, h1, z1.fm.pos, ⟨b, hb, z1.bot⟩, fun p H' s hp => ?_⟩
  have l : 1 ≤ P1.length := by cases P1; exact absurd rfl hP; simp
  have e : tk P1 ((P1.length : Int) - 1) = P1.getD (P1.length - 1) 0 := by
    unfold tk
    rw [if_neg (by first | lia | omega)]
    congr 1
    (first | lia | omega)
  rw [e] at hp
  exact q _ H' s (Fq.of (SqT.of hp) (Int.ne_of_gt z1.fm.pos) (z1.tops _) z1.bot)
/-! ### tops together -/
def spTog (K : PySem.W.Frag) : Sp := fun vs H Q _ => ∃ (a b : Addr) (ts us : List Int), vs = [.ref a, .ref b] ∧ SqL K H a (ts.map V.int) ∧ SqL K H b (us.map V.int) ∧ ts.length ≤ 1000 ∧ us.length ≤ 1000 ∧
  ∀ (p : Addr) (H' : Hp) (rs : List Int), Same H H' → H' p = some (.lst (rs.map V.int)) → rs.length = max ts.length us.length → (∀ k, rs.getD k 0 = ts.getD k 0 + us.getD k 0) → Q (.ref p) H'
theorem sc_tops_together : FnScope ["tops", "others", "longer", "shorter", "made", "k", "top"] ["tops", "others"] (defScope s_tops_together) := ⟨rfl, rfl, rfl, by decide +kernel, rfl, by decide +kernel, by decide +kernel⟩
theorem ok_tops_together {f0 : Addr} {fd : FuncData} (F : Fun K "tops_together" "tops_together" s_tops_together f0 fd) (B : Bl mg) : FnOk P w K mg base CX0 1 f0 fd ["tops", "others"] (spTog K) := by
  refine F.ok sc_tops_together (fun vs H Q E h => ?_) (fun cdv A outer s H vs Q E hr h => ?_)
  · obtain ⟨a, b, ts, us, rfl, _⟩ := h
    rfl
  obtain ⟨a, b, ts, us, rfl, hA, hB, la, lb, q⟩ := h
  have nd := sc_tops_together.nd
  refine ⟨_, (@pss_cut _ _ _ _ _ (@ps_asg _ _ _ _ _ _ (@pe_ifExp _ _ _ _ _ _ _ _ (@pt_cmpR _ _ _ _ _ _ _ _ op_ge (@pe_callB _ _ _ _ _ _ _ _ _ (lenS K) rfl B.len bt_len (@pa_cons _ _ _ _ _ (@pv _ 0 _ _ (by rfl) (by first | exact Or.inl rfl | exact Or.inr (Or.inl rfl) | exact Or.inr (Or.inr rfl)) (by decide) (by decide)) pa_nil (by rfl)) (by decide) (by decide) (by rfl) (by rfl)) (@pe_callB _ _ _ _ _ _ _ _ _ (lenS K) rfl B.len bt_len (@pa_cons _ _ _ _ _ (@pv _ 1 _ _ (by rfl) (by first | exact Or.inl rfl | exact Or.inr (Or.inl rfl) | exact Or.inr (Or.inr rfl)) (by decide) (by decide)) pa_nil (by rfl)) (by decide) (by decide) (by rfl) (by rfl)) (nomark _)) (@pe_tup _ _ _ _ _ (@pa_cons _ _ _ _ _ (@pv _ 0 _ _ (by rfl) (by first | exact Or.inl rfl | exact Or.inr (Or.inl rfl) | exact Or.inr (Or.inr rfl)) (by decide) (by decide)) (@pa_cons _ _ _ _ _ (@pv _ 1 _ _ (by rfl) (by first | exact Or.inl rfl | exact Or.inr (Or.inl rfl) | exact Or.inr (Or.inr rfl)) (by decide) (by decide)) pa_nil (by rfl)) (by rfl))) (@pe_tup _ _ _ _ _ (@pa_cons _ _ _ _ _ (@pv _ 1 _ _ (by rfl) (by first | exact Or.inl rfl | exact Or.inr (Or.inl rfl) | exact Or.inr (Or.inr rfl)) (by decide) (by decide)) (@pa_cons _ _ _ _ _ (@pv _ 0 _ _ (by rfl) (by first | exact Or.inl rfl | exact Or.inr (Or.inl rfl) | exact Or.inr (Or.inr rfl)) (by decide) (by decide)) pa_nil (by rfl)) (by rfl)))) (@pgT _ K _ _ _ 2 _ rfl (@pgs_cons _ _ _ _ _ (@pg_name _ _ 2 _ nd rfl (by first | exact Or.inl rfl | exact Or.inr rfl) (by first | exact .inl rfl | exact .inr rfl | assumption)) (@pgs_cons _ _ _ _ _ (@pg_name _ _ 3 _ nd rfl (by first | exact Or.inl rfl | exact Or.inr rfl) (by first | exact .inl rfl | exact .inr rfl | assumption)) pgs_nil (by rfl)) (by rfl)) (by rfl) (by rfl) (by rfl)) (by rfl) (by rfl) (by rfl)) (@pss_cons _ _ _ _ _ (@ps_set _ _ 4 _ _ _ _ nd rfl (by first | exact Or.inl rfl | exact Or.inr rfl) (@pe_callTy _ _ _ _ _ _ _ _ _ (listOf K) rfl B.list bt_list (@pa_cons _ _ _ _ _ (@pv _ 2 _ _ (by rfl) (by first | exact Or.inl rfl | exact Or.inr (Or.inl rfl) | exact Or.inr (Or.inr rfl)) (by decide) (by decide)) pa_nil (by rfl)) (by decide) (by decide) (by rfl) (by rfl)) (by rfl) (by first | exact .inl rfl | exact .inr rfl | assumption)) (@pss_cut _ _ _ _ _ (@ps_for _ _ _ _ _ _ _ _ PassesOwn.never rfl (@pi_enum _ K _ _ _ _ _ _ _ rfl B.enumerate (@pa_cons _ _ _ _ _ (@pv _ 3 _ _ (by rfl) (by first | exact Or.inl rfl | exact Or.inr (Or.inl rfl) | exact Or.inr (Or.inr rfl)) (by decide) (by decide)) pa_nil (by rfl)) (by rfl) (by rfl)) (@pgT _ K _ _ _ 2 _ rfl (@pgs_cons _ _ _ _ _ (@pg_name _ _ 5 _ nd rfl (by first | exact Or.inl rfl | exact Or.inr rfl) (by first | exact .inl rfl | exact .inr rfl | assumption)) (@pgs_cons _ _ _ _ _ (@pg_name _ _ 6 _ nd rfl (by first | exact Or.inl rfl | exact Or.inr rfl) (by first | exact .inl rfl | exact .inr rfl | assumption)) pgs_nil (by rfl)) (by rfl)) (by rfl) (by rfl) (by rfl)) (@pss_one _ _ _ (@ps_augS _ _ _ _ _ _ _ _ _ _ _ _ _ (@pv _ 4 _ _ (by rfl) (by first | exact Or.inl rfl | exact Or.inr (Or.inl rfl) | exact Or.inr (Or.inr rfl)) (by decide) (by decide)) (@pv _ 5 _ _ (by rfl) (by first | exact Or.inl rfl | exact Or.inr (Or.inl rfl) | exact Or.inr (Or.inr rfl)) (by decide) (by decide)) (getL K) (@pv _ 6 _ _ (by rfl) (by first | exact Or.inl rfl | exact Or.inr (Or.inl rfl) | exact Or.inr (Or.inr rfl)) (by decide) (by decide)) ip_add set_list (by intros; rfl))) (by intro _; rfl)) (@pss_one _ _ _ (@ps_ret _ _ _ _ (@pv _ 4 _ _ (by rfl) (by first | exact Or.inl rfl | exact Or.inr (Or.inl rfl) | exact Or.inr (Or.inr rfl)) (by decide) (by decide))))))), ?_⟩
  refine ⟨fun σ H' => Same H H' ∧ ∃ (L S : Addr) (ls ss : List Int), σ = [some (.ref a), some (.ref b), some (.ref L), some (.ref S), none, none, none] ∧ SqL K H L (ls.map V.int) ∧ SqL K H S (ss.map V.int) ∧ ss.length ≤ ls.length ∧ ls.length ≤ 1000 ∧ ls.length = max ts.length us.length ∧ ∀ k, ls.getD k 0 + ss.getD k 0 = ts.getD k 0 + us.getD k 0, ?_, ?_⟩
  · refine ⟨_, rfl, a, _, rfl, .inl hA, _, rfl, b, _, rfl, .inl hB, _, _, rfl, rfl, _, rfl, ?_⟩
    rw [List.length_map, List.length_map]
    refine ite2 (fun c => ?_) (fun c => ?_)
    · have c' : (us.length : Int) ≤ (ts.length : Int) := of_decide_eq_true c
      refine ⟨_, rfl, _, rfl, (by show 2 ≤ sizeLine; decide), fun p hp => ⟨p, _, rfl, SqT.of upd_same, rfl, _, _, rfl, _, _, rfl, rfl, Same.new hp _, a, b, ts, us, rfl, hA, hB, by first | lia | omega, la, by first | lia | omega, fun k => rfl⟩⟩
    · have c' : ¬ (us.length : Int) ≤ (ts.length : Int) := of_decide_eq_false (Bool.eq_false_iff.mpr c)
      refine ⟨_, rfl, _, rfl, (by show 2 ≤ sizeLine; decide), fun p hp => ⟨p, _, rfl, SqT.of upd_same, rfl, _, _, rfl, _, _, rfl, rfl, Same.new hp _, b, a, us, ts, rfl, hB, hA, by first | lia | omega, lb, by first | lia | omega, fun k => Int.add_comm _ _⟩⟩
  rintro _ H1 ⟨s1, L, S, ls, ss, rfl, hL, hS, hle, l1, lm, hk⟩
  refine ⟨_, rfl, L, _, rfl, .inl (s1.seq hL), fun p hp => ?_⟩
  refine ⟨fun σ H' => ∃ (o5 o6 : Option V) (rs : List Int), σ = [some (.ref a), some (.ref b), some (.ref L), some (.ref S), some (.ref p), o5, o6] ∧ Same H1 H' ∧ H' p = some (.lst (rs.map V.int)) ∧ rs.length = ls.length ∧ ∀ k, rs.getD k 0 = ls.getD k 0 + ss.getD k 0, ?_, ?_⟩
  · refine ⟨_, rfl, for_enum (xs := ss.map V.int) (tt := "list") (fun i σ H' => ∃ (o5 o6 : Option V) (rs : List Int), σ = [some (.ref a), some (.ref b), some (.ref L), some (.ref S), some (.ref p), o5, o6] ∧ Same H1 H' ∧ H' p = some (.lst (rs.map V.int)) ∧ rs.length = ls.length ∧ ∀ k, rs.getD k 0 = ls.getD k 0 + (ss.take i).getD k 0) ⟨none, none, ls, rfl, Same.new hp _, upd_same, rfl, fun k => ?_⟩ (.inr ⟨rfl, (s1.trans (Same.new hp _)).seq hS⟩) (fun i σ H' _ h => ?_) ?_ ?_⟩
    · show _ = _ + ([] : List Int).getD k 0
      rw [getD_out (fs := ([] : List Int)) (Nat.zero_le _)]
      (first | lia | omega)
    · obtain ⟨_, _, _, _, s2, _⟩ := h
      exact .inr ⟨rfl, (s1.trans s2).seq hS⟩
    · rintro i x _ H2 r hx ⟨o5, o6, rs, rfl, s2, hp2, lr, hr2⟩ hr0
      obtain ⟨hi, hz, rfl⟩ := int_at hx
      have s3 := Same.new hr0 (.tup [.int i, .int (ss.getD i 0)])
      have hp3 := s3 _ _ hp2
      refine ⟨r, _, rfl, SqT.of upd_same, rfl, _, _, rfl, _, _, rfl, rfl, ?_⟩
      refine ⟨_, rfl, _, rfl, p, _, _, i, rfl, rfl, SqL.of hp3, at_int (by first | lia | omega), _, rfl, _, _, rfl, rfl, p, _, _, i, rfl, rfl, hp3, ixN_nat (by rw [List.length_map]; (first | lia | omega)), _, _, rs.set i (rs.getD i 0 + ss.getD i 0), rfl, (s2.trans s3).over hp _, by rw [set_ints]; exact upd_same, by rw [List.length_set]; exact lr, fun k => ?_⟩
      rw [set_getD (by first | lia | omega), take_snoc hi, hr2 i, hr2 k]
      by_cases e : k = i
      · subst e
        rw [if_pos rfl, getD_out (fs := ss.take k) (by rw [List.length_take]; (first | lia | omega))]
        have : (ss.take k ++ [ss.getD k 0]).getD k 0 = ss.getD k 0 := getD_of (by rw [List.getElem?_append_right (by rw [List.length_take]; (first | lia | omega)), List.length_take, Nat.min_eq_left (by first | lia | omega), Nat.sub_self]; rfl)
        rw [this]
        (first | lia | omega)
      · rw [if_neg e]
        congr 1
        rw [List.getD_eq_getElem?_getD, List.getD_eq_getElem?_getD, ← take_snoc hi, List.getElem?_take, List.getElem?_take]
        by_cases c : k < i
        · rw [if_pos c, if_pos (by first | lia | omega)]
        · rw [if_neg c, if_neg (by first | lia | omega)]
    · rintro _ H2 ⟨o5, o6, rs, rfl, s2, hp2, lr, hr2⟩
      rw [List.length_map, List.take_length] at hr2
      exact ⟨_, _, rs, rfl, s2, hp2, lr, hr2⟩
  rintro _ H2 ⟨o5, o6, rs, rfl, s2, hp2, lr, hr2⟩
  refine ⟨_, rfl, q p H2 rs (s1.trans s2) hp2 (by first | lia | omega) fun k => ?_⟩
  rw [hr2 k, hk k]
/-! ### products -/
def spMulT (K : PySem.W.Frag) : Sp := fun vs H Q _ => ∃ (a b : Addr) (t1 t2 : String) (ts us : List Int) (n m : Nat), vs = [.ref a, .ref b] ∧ SqX K t1 H a (ts.map V.int) ∧ SqX K t2 H b (us.map V.int) ∧ ts.length ≤ 1000 ∧ us.length ≤ 1000 ∧ (∀ z ∈ ts, Lt2 n z) ∧ (∀ z ∈ us, Lt2 m z) ∧ n + m ≤ 1000000 ∧
  ∀ (p : Addr) (H' : Hp) (rs : List Int), Same H H' → H' p = some (.lst (rs.map V.int)) → rs.length ≤ ts.length + us.length - 1 → (∀ k, rs.getD k 0 = Cv.cv (Cv.fn ts) (Cv.fn us) k) → Q (.ref p) H'
theorem getD_is_mem {ts : List Int} {i : Nat} (h : i < ts.length) : ts.getD i 0 ∈ ts := by
  rw [List.getD_eq_getElem?_getD, List.getElem?_eq_getElem h]
  exact List.getElem_mem h
theorem tru_seq {K : PySem.W.Frag} {tt : String} {H : Hp} {a : Addr} {ts : List Int} (h : SqX K tt H a (ts.map V.int)) : TruV K (.ref a) H (!ts.isEmpty) := by
  have e : (ts.map V.int).isEmpty = ts.isEmpty := by cases ts <;> rfl
  rcases h with ⟨_, h⟩ | ⟨_, h⟩
  · exact .inr (.inl ⟨_, h, by rw [e]⟩)
  · exact .inl ⟨_, h, by rw [e]⟩
theorem same_none {H H' : Hp} {p : Addr} (s : Same H H') (h : H' p = none) : H p = none := by
  cases q : H p with
  | none => rfl
  | some o => rw [s p o q] at h; cases h
theorem flat_rep (n : Nat) : (List.replicate n [V.int 0]).flatten = (List.replicate n (0 : Int)).map V.int := by
  induction n with
  | zero => rfl
  | succ n ih => rw [List.replicate_succ, List.flatten_cons, ih, List.replicate_succ]; rfl
theorem rep_getD (n k : Nat) : (List.replicate n (0 : Int)).getD k 0 = 0 := by
  rw [List.getD_eq_getElem?_getD, List.getElem?_replicate]
  split <;> rfl
theorem sc_tops_multiplied : FnScope ["tops", "others", "made", "i", "top", "k", "other"] ["tops", "others"] (defScope s_tops_multiplied) := ⟨rfl, rfl, rfl, by decide +kernel, rfl, by decide +kernel, by decide +kernel⟩
theorem ok_tops_multiplied {f0 : Addr} {fd : FuncData} (F : Fun K "tops_multiplied" "tops_multiplied" s_tops_multiplied f0 fd) (B : Bl mg) : FnOk P w K mg base CX0 1 f0 fd ["tops", "others"] (spMulT K) := by
  refine F.ok sc_tops_multiplied (fun vs H Q E h => ?_) (fun cdv A outer s H vs Q E hr h => ?_)
  · obtain ⟨a, b, t1, t2, ts, us, n, m, rfl, _⟩ := h
    rfl
  obtain ⟨a, b, t1, t2, ts, us, n, m, rfl, hA, hB, la, lb, sa, sb, hnm, q⟩ := h
  have nd := sc_tops_multiplied.nd
  refine ⟨_, (@pss_cut _ _ _ _ _ (@ps_if _ _ _ _ _ _ _ _ (@PW.pt _ _ _ (@pw_or _ _ _ _ _ _ _ (@pt_not _ _ _ _ (@ptT _ K _ _ (@pv _ 0 _ _ (by rfl) (by first | exact Or.inl rfl | exact Or.inr (Or.inl rfl) | exact Or.inr (Or.inr rfl)) (by decide) (by decide)) (fun _ => rfl) (by rfl))) (@pw_or1 _ _ _ _ (@pt_not _ _ _ _ (@ptT _ K _ _ (@pv _ 1 _ _ (by rfl) (by first | exact Or.inl rfl | exact Or.inr (Or.inl rfl) | exact Or.inr (Or.inr rfl)) (by decide) (by decide)) (fun _ => rfl) (by rfl)))))) (@pss_one _ _ _ (@ps_ret _ _ _ _ (@pe_lst _ _ _ _ pa_nil))) pss_nil) (@pss_cons _ _ _ _ _ (@ps_set _ _ 2 _ _ _ _ nd rfl (by first | exact Or.inl rfl | exact Or.inr rfl) (@pe_op _ _ _ _ _ _ _ _ op_rep (@pe_lst _ _ _ _ (@pa_cons _ _ _ _ _ pe_int pa_nil (by rfl))) (@pe_op _ _ _ _ _ _ _ _ op_sub (@pe_op _ _ _ _ _ _ _ _ op_add (@pe_callB _ _ _ _ _ _ _ _ _ (lenS K) rfl B.len bt_len (@pa_cons _ _ _ _ _ (@pv _ 0 _ _ (by rfl) (by first | exact Or.inl rfl | exact Or.inr (Or.inl rfl) | exact Or.inr (Or.inr rfl)) (by decide) (by decide)) pa_nil (by rfl)) (by decide) (by decide) (by rfl) (by rfl)) (@pe_callB _ _ _ _ _ _ _ _ _ (lenS K) rfl B.len bt_len (@pa_cons _ _ _ _ _ (@pv _ 1 _ _ (by rfl) (by first | exact Or.inl rfl | exact Or.inr (Or.inl rfl) | exact Or.inr (Or.inr rfl)) (by decide) (by decide)) pa_nil (by rfl)) (by decide) (by decide) (by rfl) (by rfl))) pe_int)) (by rfl) (by first | exact .inl rfl | exact .inr rfl | assumption)) (@pss_cut _ _ _ _ _ (@ps_for _ _ _ _ _ _ _ _ PassesOwn.never rfl (@pi_enum _ K _ _ _ _ _ _ _ rfl B.enumerate (@pa_cons _ _ _ _ _ (@pv _ 0 _ _ (by rfl) (by first | exact Or.inl rfl | exact Or.inr (Or.inl rfl) | exact Or.inr (Or.inr rfl)) (by decide) (by decide)) pa_nil (by rfl)) (by rfl) (by rfl)) (@pgT _ K _ _ _ 2 _ rfl (@pgs_cons _ _ _ _ _ (@pg_name _ _ 3 _ nd rfl (by first | exact Or.inl rfl | exact Or.inr rfl) (by first | exact .inl rfl | exact .inr rfl | assumption)) (@pgs_cons _ _ _ _ _ (@pg_name _ _ 4 _ nd rfl (by first | exact Or.inl rfl | exact Or.inr rfl) (by first | exact .inl rfl | exact .inr rfl | assumption)) pgs_nil (by rfl)) (by rfl)) (by rfl) (by rfl) (by rfl)) (@pss_one _ _ _ (@ps_for _ _ _ _ _ _ _ _ PassesOwn.never rfl (@pi_enum _ K _ _ _ _ _ _ _ rfl B.enumerate (@pa_cons _ _ _ _ _ (@pv _ 1 _ _ (by rfl) (by first | exact Or.inl rfl | exact Or.inr (Or.inl rfl) | exact Or.inr (Or.inr rfl)) (by decide) (by decide)) pa_nil (by rfl)) (by rfl) (by rfl)) (@pgT _ K _ _ _ 2 _ rfl (@pgs_cons _ _ _ _ _ (@pg_name _ _ 5 _ nd rfl (by first | exact Or.inl rfl | exact Or.inr rfl) (by first | exact .inl rfl | exact .inr rfl | assumption)) (@pgs_cons _ _ _ _ _ (@pg_name _ _ 6 _ nd rfl (by first | exact Or.inl rfl | exact Or.inr rfl) (by first | exact .inl rfl | exact .inr rfl | assumption)) pgs_nil (by rfl)) (by rfl)) (by rfl) (by rfl) (by rfl)) (@pss_one _ _ _ (@ps_augS _ _ _ _ _ _ _ _ _ _ _ _ _ (@pv _ 2 _ _ (by rfl) (by first | exact Or.inl rfl | exact Or.inr (Or.inl rfl) | exact Or.inr (Or.inr rfl)) (by decide) (by decide)) (@pe_op _ _ _ _ _ _ _ _ op_add (@pv _ 3 _ _ (by rfl) (by first | exact Or.inl rfl | exact Or.inr (Or.inl rfl) | exact Or.inr (Or.inr rfl)) (by decide) (by decide)) (@pv _ 5 _ _ (by rfl) (by first | exact Or.inl rfl | exact Or.inr (Or.inl rfl) | exact Or.inr (Or.inr rfl)) (by decide) (by decide))) (getL K) (@pe_op _ _ _ _ _ _ _ _ op_mulB (@pv _ 4 _ _ (by rfl) (by first | exact Or.inl rfl | exact Or.inr (Or.inl rfl) | exact Or.inr (Or.inr rfl)) (by decide) (by decide)) (@pv _ 6 _ _ (by rfl) (by first | exact Or.inl rfl | exact Or.inr (Or.inl rfl) | exact Or.inr (Or.inr rfl)) (by decide) (by decide))) ip_add set_list (by intros; rfl))) (by intro _; rfl))) (by intro _; rfl)) (@pss_one _ _ _ (@ps_ret _ _ _ _ (@pv _ 2 _ _ (by rfl) (by first | exact Or.inl rfl | exact Or.inr (Or.inl rfl) | exact Or.inr (Or.inr rfl)) (by decide) (by decide))))))), ?_⟩
  refine ⟨fun σ H' => H' = H ∧ σ = [some (.ref a), some (.ref b), none, none, none, none, none] ∧ ts ≠ [] ∧ us ≠ [], ?_, ?_⟩
  · refine ⟨_, rfl, _, tru_seq hA, ?_⟩
    by_cases c : ts = []
    · subst c
      refine iteT ⟨(by show 0 ≤ sizeLine; decide), fun p hp => q p _ [] (Same.new hp _) upd_same (Nat.zero_le _) fun k => ?_⟩
      rw [getD_out (fs := ([] : List Int)) (Nat.zero_le _)]
      exact (Cv.cv_zl fun j => Cv.fn_out (Nat.zero_le _)).symm
    have e : ts.isEmpty = false := by cases ts; exact absurd rfl c; rfl
    rw [e]
    refine iteF ?_
    refine ⟨_, rfl, _, tru_seq hB, ?_⟩
    by_cases c2 : us = []
    · subst c2
      refine iteT ⟨(by show 0 ≤ sizeLine; decide), fun p hp => q p _ [] (Same.new hp _) upd_same (Nat.zero_le _) fun k => ?_⟩
      rw [getD_out (fs := ([] : List Int)) (Nat.zero_le _)]
      exact (Cv.cv_zr fun j => Cv.fn_out (Nat.zero_le _)).symm
    have e2 : us.isEmpty = false := by cases us; exact absurd rfl c2; rfl
    rw [e2]
    exact iteF ⟨rfl, rfl, c, c2⟩
  rintro _ H ⟨rfl, rfl, c1, c2⟩
  have l1 : 1 ≤ ts.length := by cases ts; exact absurd rfl c1; simp
  have l2 : 1 ≤ us.length := by cases us; exact absurd rfl c2; simp
  refine ⟨(by show 1 ≤ sizeLine; decide), fun p0 hp0 => ?_⟩
  have s0 := Same.new hp0 (.lst [.int 0])
  refine ⟨_, rfl, a, _, rfl, (hA.same s0).len, _, rfl, b, _, rfl, (hB.same s0).len, _, _, rfl, rfl, _, _, rfl, rfl, p0, _, [.int 0], rfl, rfl, upd_same, ?_, ?_, ?_, fun p hp => ?_⟩
  · rw [List.length_map, List.length_map]; (first | lia | omega)
  · rw [List.length_map, List.length_map]; (first | lia | omega)
  · rw [List.length_map, List.length_map, sizeLine_eq]; show 1 * _ ≤ _; (first | lia | omega)
  have eN : ((((ts.map V.int).length : Nat) : Int) + (((us.map V.int).length : Nat) : Int) - 1).toNat = ts.length + us.length - 1 := by rw [List.length_map, List.length_map]; (first | lia | omega)
  rw [eN, flat_rep]
  have hpH := same_none s0 hp
  have s1 : Same H _ := s0.trans (Same.new hp (.lst ((List.replicate (ts.length + us.length - 1) (0 : Int)).map V.int)))
  have hp1 := upd_same (H := upd H p0 (.lst [.int 0])) (a := p) (o := .lst ((List.replicate (ts.length + us.length - 1) (0 : Int)).map V.int))
  generalize upd (upd H p0 (.lst [.int 0])) p (.lst ((List.replicate (ts.length + us.length - 1) (0 : Int)).map V.int)) = H1 at *
  refine ⟨fun σ H' => ∃ (o3 o4 o5 o6 : Option V) (rs : List Int), σ = [some (.ref a), some (.ref b), some (.ref p), o3, o4, o5, o6] ∧ Same H H' ∧ H' p = some (.lst (rs.map V.int)) ∧ rs.length = ts.length + us.length - 1 ∧ ∀ k, rs.getD k 0 = Cv.tm (Cv.fn ts) (Cv.fn us) ts.length k, ?_, ?_⟩
  · refine ⟨_, rfl, for_enum (xs := ts.map V.int) (tt := t1) (fun i σ H' => ∃ (o3 o4 o5 o6 : Option V) (rs : List Int), σ = [some (.ref a), some (.ref b), some (.ref p), o3, o4, o5, o6] ∧ Same H H' ∧ H' p = some (.lst (rs.map V.int)) ∧ rs.length = ts.length + us.length - 1 ∧ ∀ k, rs.getD k 0 = Cv.tm (Cv.fn ts) (Cv.fn us) i k)
      ⟨none, none, none, none, _, rfl, s1, hp1, List.length_replicate, fun k => rep_getD _ _⟩ (hA.same s1) (fun i σ H' _ h => by obtain ⟨_, _, _, _, _, _, s2, _⟩ := h; exact hA.same s2) ?_ ?_⟩
    · rintro i x _ H2 r hx ⟨o3, o4, o5, o6, rs, rfl, s2, hp2, lr, hr2⟩ hr0
      obtain ⟨hi, hz, rfl⟩ := int_at hx
      have s3 := Same.new hr0 (.tup [.int i, .int (ts.getD i 0)])
      have hp3 := s3 _ _ hp2
      have s23 := s2.trans s3
      refine ⟨r, _, rfl, SqT.of upd_same, rfl, _, _, rfl, _, _, rfl, rfl, ?_⟩
      generalize upd H2 r (.tup [.int i, .int (ts.getD i 0)]) = H3 at *
      refine ⟨_, rfl, for_enum (xs := us.map V.int) (tt := t2) (fun k σ H' => ∃ (o5 o6 : Option V) (rs : List Int), σ = [some (.ref a), some (.ref b), some (.ref p), some (.int i), some (.int (ts.getD i 0)), o5, o6] ∧ Same H H' ∧ H' p = some (.lst (rs.map V.int)) ∧ rs.length = ts.length + us.length - 1 ∧ ∀ m, rs.getD m 0 = Cv.tm (Cv.fn ts) (Cv.fn us) i m + (if i ≤ m ∧ m - i < k then Cv.fn ts i * Cv.fn us (m - i) else 0))
        ⟨_, _, rs, rfl, s23, hp3, lr, fun m => ?_⟩ (hB.same s23) (fun i σ H' _ h => by obtain ⟨_, _, _, _, s2, _⟩ := h; exact hB.same s2) ?_ ?_⟩
      · rw [hr2 m, if_neg (by first | lia | omega), Int.add_zero]
      · rintro k y _ H4 r' hy ⟨o5', o6', rs', rfl, s4, hp4, lr', hr4⟩ hr0'
        obtain ⟨hk, hz', rfl⟩ := int_at hy
        have s5 := Same.new hr0' (.tup [.int k, .int (us.getD k 0)])
        have hp5 := s5 _ _ hp4
        refine ⟨r', _, rfl, SqT.of upd_same, rfl, _, _, rfl, _, _, rfl, rfl, ?_⟩
        generalize upd H4 r' (.tup [.int k, .int (us.getD k 0)]) = H5 at *
        have ik : (i : Int) + (k : Int) = ((i + k : Nat) : Int) := by first | lia | omega
        refine ⟨_, rfl, _, rfl, _, rfl, _, _, rfl, rfl, p, _, _, i + k, rfl, (by show V.int ((i : Int) + (k : Int)) = _; rw [ik]), SqL.of hp5, at_int (by first | lia | omega), _, rfl, _, rfl, _, _, rfl, rfl, ⟨_, _, sa _ (getD_is_mem hi), sb _ (getD_is_mem hk), by first | lia | omega⟩, _, _, rfl, rfl, p, _, _, i + k, rfl, rfl, hp5, by rw [ik]; exact ixN_nat (by rw [List.length_map]; (first | lia | omega)), _, _, rs'.set (i + k) (rs'.getD (i + k) 0 + ts.getD i 0 * us.getD k 0), rfl, (s4.trans s5).over hpH _, by rw [set_ints]; exact upd_same, by rw [List.length_set]; exact lr', fun m => ?_⟩
        rw [set_getD (by first | lia | omega)]
        by_cases e : m = i + k
        · subst e
          rw [if_pos rfl, hr4, if_neg (by first | lia | omega), if_pos ⟨by first | lia | omega, by first | lia | omega⟩, show i + k - i = k by first | lia | omega, Int.add_zero]
          rfl
        · rw [if_neg e, hr4]
          congr 1
          by_cases c : i ≤ m ∧ m - i < k
          · rw [if_pos c, if_pos ⟨c.1, by first | lia | omega⟩]
          · rw [if_neg c, if_neg (by first | lia | omega)]
      · rintro _ H4 ⟨o5', o6', rs', rfl, s4, hp4, lr', hr4⟩
        rw [List.length_map] at hr4
        refine ⟨_, _, _, _, rs', rfl, s4, hp4, lr', fun m => ?_⟩
        rw [hr4 m, Cv.tm_succ]
        congr 1
        by_cases c : i ≤ m
        · rw [if_pos c]
          by_cases c' : m - i < us.length
          · rw [if_pos ⟨c, c'⟩]
          · rw [if_neg (fun z => c' z.2), Cv.fn_out (P := us) (by first | lia | omega), Int.mul_zero]
        · rw [if_neg c, if_neg (fun z => c z.1)]
    · rintro _ H2 ⟨o3, o4, o5, o6, rs, rfl, s2, hp2, lr, hr2⟩
      rw [List.length_map] at hr2
      exact ⟨_, _, _, _, rs, rfl, s2, hp2, lr, hr2⟩
  rintro _ H2 ⟨o3, o4, o5, o6, rs, rfl, s2, hp2, lr, hr2⟩
  refine ⟨_, rfl, q p H2 rs s2 hp2 (by first | lia | omega) fun k => ?_⟩
  rw [hr2 k]
  exact Cv.tm_cv fun j h => Cv.fn_out h
theorem cv_size {P1 P2 : List Int} {n m : Nat} (h1 : ∀ k, Lt2 n (P1.getD k 0)) (h2 : ∀ k, Lt2 m (P2.getD k 0)) (l1 : P1.length ≤ 200) (l2 : P2.length ≤ 200) (k : Nat) : Lt2 (n + m + 9) (Cv.cv (Cv.fn P1) (Cv.fn P2) k) := by
  rcases Nat.lt_or_ge k 500 with c | c
  · exact Cv.cv_lt h1 h2 (by first | lia | omega)
  · rw [Cv.cv_out (a := P1.length) (b := P2.length) (fun j h => Cv.fn_out h) (fun j h => Cv.fn_out h) (by first | lia | omega)]
    exact Nat.pow_pos (by decide)
/-! ### plus, scaled, minus -/
def spPlusQ (K : PySem.W.Frag) : Sp := fun vs H Q _ => ∃ (v1 v2 : V) (P1 P2 : List Int) (B1 B2 : Int) (n b m c : Nat), vs = [v1, v2] ∧ Pol H v1 P1 B1 ∧ Pol H v2 P2 B2 ∧ Pc.Pz n b P1 B1 ∧ Pc.Pz m c P2 B2 ∧ b + c ≤ 9000 ∧ n + m + b + c ≤ 900000 ∧ P1.length ≤ 400 ∧ P2.length ≤ 400 ∧
  ∀ (v : V) (R : List Int) (C : Int) (H' : Hp), Same H H' → Pol H' v R C → Pc.Pz (n + c + (m + b) + 1) (b + c) R C → (∀ k, R.getD k 0 * (B1 * B2) = (P1.getD k 0 * B2 + P2.getD k 0 * B1) * C) → R.length ≤ max P1.length P2.length → Q v H'
theorem sc_plus : FnScope ["p", "other", "mine", "top", "theirs"] ["p", "other"] (defScope s_plus) := ⟨rfl, rfl, rfl, by decide +kernel, rfl, by decide +kernel, by decide +kernel⟩
theorem ok_plus {f0 : Addr} {fd : FuncData} (F : Fun K "plus" "plus" s_plus f0 fd) (B : Bl mg) (g_one_form : Def P w K mg base "one_form" 2 ["tops", "bottom"] (spOF K)) (g_tops_together : Def P w K mg base "tops_together" 1 ["tops", "others"] (spTog K)) : FnOk P w K mg base CX0 3 f0 fd ["p", "other"] (spPlusQ K) := by
  refine F.ok sc_plus (fun vs H Q E h => ?_) (fun cdv A outer s H vs Q E hr h => ?_)
  · obtain ⟨v1, v2, P1, P2, B1, B2, n, nb, m, mb, rfl, _⟩ := h
    rfl
  obtain ⟨v1, v2, P1, P2, B1, B2, n, nb, m, mb, rfl, ⟨a, t, rfl, a1, a2⟩, ⟨b, u, rfl, b1, b2⟩, G1, G2, hb9, hn, l1, l2, q⟩ := h
  have nd := sc_plus.nd
  refine ⟨_, (@pss_cons _ _ _ _ _ (@ps_setC _ _ _ _ _ _ _ _ _ _ _ _ 2 _ _ _ rfl nd rfl (by first | exact Or.inl rfl | exact Or.inr rfl) (show CompS ["p", "other", "mine", "top", "theirs"] (defScope s_plus) _ [3] from by exact ⟨rfl, by decide +kernel, by decide +kernel, by decide +kernel, by decide +kernel⟩) (@piT _ K _ _ _ (@pe_ix _ _ _ _ _ _ _ (ixT K) (@pv _ 0 _ _ (by rfl) (by first | exact Or.inl rfl | exact Or.inr (Or.inl rfl) | exact Or.inr (Or.inr rfl)) (by decide) (by decide)) pe_int (fun _ _ => rfl)) (by rfl)) (fun _ _ _ _ _ => (@pg_name _ _ 3 _ nd rfl (by first | exact Or.inl rfl | exact Or.inr rfl) (by first | exact .inl rfl | exact .inr rfl | assumption))) (fun _ _ _ _ _ => pts_nil) (fun _ _ _ _ _ => (@pe_op _ _ _ _ _ _ _ _ op_mulB (@pv _ 3 _ _ (by rfl) (by first | exact Or.inl rfl | exact Or.inr (Or.inl rfl) | exact Or.inr (Or.inr rfl)) (by decide) (by decide)) (@pe_ix _ _ _ _ _ _ _ (ixT K) (@pv _ 1 _ _ (by rfl) (by first | exact Or.inl rfl | exact Or.inr (Or.inl rfl) | exact Or.inr (Or.inr rfl)) (by decide) (by decide)) pe_int (fun _ _ => rfl)))) (by intro _; rfl) (by rfl) (by first | exact .inl rfl | exact .inr rfl | assumption)) (@pss_cons _ _ _ _ _ (@ps_setC _ _ _ _ _ _ _ _ _ _ _ _ 4 _ _ _ rfl nd rfl (by first | exact Or.inl rfl | exact Or.inr rfl) (show CompS ["p", "other", "mine", "top", "theirs"] (defScope s_plus) _ [3] from by exact ⟨rfl, by decide +kernel, by decide +kernel, by decide +kernel, by decide +kernel⟩) (@piT _ K _ _ _ (@pe_ix _ _ _ _ _ _ _ (ixT K) (@pv _ 1 _ _ (by rfl) (by first | exact Or.inl rfl | exact Or.inr (Or.inl rfl) | exact Or.inr (Or.inr rfl)) (by decide) (by decide)) pe_int (fun _ _ => rfl)) (by rfl)) (fun _ _ _ _ _ => (@pg_name _ _ 3 _ nd rfl (by first | exact Or.inl rfl | exact Or.inr rfl) (by first | exact .inl rfl | exact .inr rfl | assumption))) (fun _ _ _ _ _ => pts_nil) (fun _ _ _ _ _ => (@pe_op _ _ _ _ _ _ _ _ op_mulB (@pv _ 3 _ _ (by rfl) (by first | exact Or.inl rfl | exact Or.inr (Or.inl rfl) | exact Or.inr (Or.inr rfl)) (by decide) (by decide)) (@pe_ix _ _ _ _ _ _ _ (ixT K) (@pv _ 0 _ _ (by rfl) (by first | exact Or.inl rfl | exact Or.inr (Or.inl rfl) | exact Or.inr (Or.inr rfl)) (by decide) (by decide)) pe_int (fun _ _ => rfl)))) (by intro _; rfl) (by rfl) (by first | exact .inl rfl | exact .inr rfl | assumption)) (@pss_one _ _ _ (@ps_ret _ _ _ _ (@pe_def _ _ _ _ _ _ _ _ _ _ _ g_one_form hr (@pa_cons _ _ _ _ _ (@pe_def _ _ _ _ _ _ _ _ _ _ _ g_tops_together hr (@pa_cons _ _ _ _ _ (@pv _ 2 _ _ (by rfl) (by first | exact Or.inl rfl | exact Or.inr (Or.inl rfl) | exact Or.inr (Or.inr rfl)) (by decide) (by decide)) (@pa_cons _ _ _ _ _ (@pv _ 4 _ _ (by rfl) (by first | exact Or.inl rfl | exact Or.inr (Or.inl rfl) | exact Or.inr (Or.inr rfl)) (by decide) (by decide)) pa_nil (by rfl)) (by rfl)) (by first | decide | omega | exact Nat.le_refl _) (by rfl) (by decide) (by rfl) (by rfl)) (@pa_cons _ _ _ _ _ (@pe_op _ _ _ _ _ _ _ _ op_mulB (@pe_ix _ _ _ _ _ _ _ (ixT K) (@pv _ 0 _ _ (by rfl) (by first | exact Or.inl rfl | exact Or.inr (Or.inl rfl) | exact Or.inr (Or.inr rfl)) (by decide) (by decide)) pe_int (fun _ _ => rfl)) (@pe_ix _ _ _ _ _ _ _ (ixT K) (@pv _ 1 _ _ (by rfl) (by first | exact Or.inl rfl | exact Or.inr (Or.inl rfl) | exact Or.inr (Or.inr rfl)) (by decide) (by decide)) pe_int (fun _ _ => rfl))) pa_nil (by rfl)) (by rfl)) (by first | decide | omega | exact Nat.le_refl _) (by rfl) (by decide) (by rfl) (by rfl)))))), ?_⟩
  have k1 := SqT.of (K := K) a1
  have k2 := SqT.of (K := K) a2
  have k3 := SqT.of (K := K) b1
  have k4 := SqT.of (K := K) b2
  have p1 := G1.fm.pos
  have p2 := G2.fm.pos
  refine ⟨_, rfl, a, _, 0, _, rfl, rfl, k1, rfl, t, rfl, ⟨_, k2⟩, comp_intsT (fun z => z * B2) k2 (by first | lia | omega) rfl (fun z hz R hR => ?_) fun D hD => ?_⟩
  · exact ⟨_, rfl, _, rfl, b, _, 1, _, rfl, rfl, k3, rfl, _, _, rfl, rfl, ⟨_, _, G1.mem hz, G2.bot, by first | lia | omega⟩, hR⟩
  have s1 := Same.new hD (.lst ((P1.map fun z => z * B2).map V.int))
  have hD1 := upd_same (H := H) (a := D) (o := .lst ((P1.map fun z => z * B2).map V.int))
  generalize upd H D (.lst ((P1.map fun z => z * B2).map V.int)) = H1 at *
  refine ⟨_, rfl, b, _, 0, _, rfl, rfl, k3.same s1, rfl, u, rfl, ⟨_, k4.same s1⟩, comp_intsT (fun z => z * B1) (k4.same s1) (by first | lia | omega) rfl (fun z hz R hR => ?_) fun D2 hD2 => ?_⟩
  · exact ⟨_, rfl, _, rfl, a, _, 1, _, rfl, rfl, k1.same s1, rfl, _, _, rfl, rfl, ⟨_, _, G2.mem hz, G1.bot, by first | lia | omega⟩, hR⟩
  have s2 := Same.new hD2 (.lst ((P2.map fun z => z * B1).map V.int))
  refine ⟨_, rfl, _, rfl, D, D2, _, _, rfl, SqL.of (s2 _ _ hD1), SqL.of upd_same, by rw [List.length_map]; (first | lia | omega), by rw [List.length_map]; (first | lia | omega), fun p H3 rs s3 hp lr hrs => ?_⟩
  have s13 : Same H H3 := (s1.trans s2).trans s3
  rw [List.length_map, List.length_map] at lr
  refine ⟨_, rfl, a, _, 1, _, rfl, rfl, k1.same s13, rfl, _, rfl, b, _, 1, _, rfl, rfl, k3.same s13, rfl, _, _, rfl, rfl, ⟨_, _, G1.bot, G2.bot, by first | lia | omega⟩, p, rs, _, rfl, SqL.of hp, Int.mul_pos p1 p2, ⟨nb + mb, by first | lia | omega, G1.bot.mul G2.bot⟩, by first | lia | omega, fun v R C H4 s4 hv fm hw hle => ?_⟩
  have hw' : ∀ k, R.getD k 0 * (B1 * B2) = (P1.getD k 0 * B2 + P2.getD k 0 * B1) * C := fun k => by
    rw [hw k, hrs k, map_getD (fun z => z * B2) (Int.zero_mul _), map_getD (fun z => z * B1) (Int.zero_mul _)]
  refine q v R C H4 (s13.trans s4) hv (Pc.Pz.of (f := fun k => P1.getD k 0 * B2 + P2.getD k 0 * B1) fm (Int.mul_pos p1 p2) hw' (fun k => ?_) (G1.bot.mul G2.bot)) hw' (by first | lia | omega)
  exact ((((G1.tops k).mul G2.bot).mono (m := n + mb + (m + nb)) (by first | lia | omega)).add (((G2.tops k).mul G1.bot).mono (by first | lia | omega))).mono (by first | lia | omega)
def spScaledQ (K : PySem.W.Frag) : Sp := fun vs H Q _ => ∃ (v1 v2 : V) (P1 : List Int) (B1 : Int) (r : Rat) (n b m c : Nat), vs = [v1, v2] ∧ Pol H v1 P1 B1 ∧ Fq K m c H v2 r ∧ Pc.Pz n b P1 B1 ∧ b + c ≤ 9000 ∧ n + m ≤ 900000 ∧ P1.length ≤ 400 ∧
  ∀ (v : V) (R : List Int) (C : Int) (H' : Hp), Same H H' → Pol H' v R C → Pc.Pz (n + m) (b + c) R C → (∀ k, Qp.q R C k = Qp.q P1 B1 k * r) → (∀ x, Qp.E R C x = Qp.E P1 B1 x * r) → R.length ≤ P1.length → Q v H'
theorem sc_scaled : FnScope ["p", "r", "top"] ["p", "r"] (defScope s_scaled) := ⟨rfl, rfl, rfl, by decide +kernel, rfl, by decide +kernel, by decide +kernel⟩
theorem ok_scaled {f0 : Addr} {fd : FuncData} (F : Fun K "scaled" "scaled" s_scaled f0 fd) (B : Bl mg) (g_one_form : Def P w K mg base "one_form" 2 ["tops", "bottom"] (spOF K)) : FnOk P w K mg base CX0 3 f0 fd ["p", "r"] (spScaledQ K) := by
  refine F.ok sc_scaled (fun vs H Q E h => ?_) (fun cdv A outer s H vs Q E hr h => ?_)
  · obtain ⟨v1, v2, P1, B1, r, n, nb, m, c, rfl, _⟩ := h
    rfl
  obtain ⟨v1, v2, P1, B1, r, n, nb, m, c, rfl, ⟨a, t, rfl, a1, a2⟩, ⟨b, t2, b2, rfl, k3, p2, g2, lt, lb, rfl⟩, G1, hb9, hn, l1, q⟩ := h
  have nd := sc_scaled.nd
  refine ⟨_, (@pss_one _ _ _ (@ps_ret _ _ _ _ (@pe_def _ _ _ _ _ _ _ _ _ _ _ g_one_form hr (@pa_cons _ _ _ _ _ (@pe_comp _ _ _ _ _ _ _ _ _ _ _ _ rfl (show CompS ["p", "r", "top"] (defScope s_scaled) _ [2] from by exact ⟨rfl, by decide +kernel, by decide +kernel, by decide +kernel, by decide +kernel⟩) (@piT _ K _ _ _ (@pe_ix _ _ _ _ _ _ _ (ixT K) (@pv _ 0 _ _ (by rfl) (by first | exact Or.inl rfl | exact Or.inr (Or.inl rfl) | exact Or.inr (Or.inr rfl)) (by decide) (by decide)) pe_int (fun _ _ => rfl)) (by rfl)) (fun _ _ _ _ _ => (@pg_name _ _ 2 _ nd rfl (by first | exact Or.inl rfl | exact Or.inr rfl) (by first | exact .inl rfl | exact .inr rfl | assumption))) (fun _ _ _ _ _ => pts_nil) (fun _ _ _ _ _ => (@pe_op _ _ _ _ _ _ _ _ op_mulB (@pv _ 2 _ _ (by rfl) (by first | exact Or.inl rfl | exact Or.inr (Or.inl rfl) | exact Or.inr (Or.inr rfl)) (by decide) (by decide)) (@pe_ix _ _ _ _ _ _ _ (ixT K) (@pv _ 1 _ _ (by rfl) (by first | exact Or.inl rfl | exact Or.inr (Or.inl rfl) | exact Or.inr (Or.inr rfl)) (by decide) (by decide)) pe_int (fun _ _ => rfl)))) (by intro _; rfl)) (@pa_cons _ _ _ _ _ (@pe_op _ _ _ _ _ _ _ _ op_mulB (@pe_ix _ _ _ _ _ _ _ (ixT K) (@pv _ 0 _ _ (by rfl) (by first | exact Or.inl rfl | exact Or.inr (Or.inl rfl) | exact Or.inr (Or.inr rfl)) (by decide) (by decide)) pe_int (fun _ _ => rfl)) (@pe_ix _ _ _ _ _ _ _ (ixT K) (@pv _ 1 _ _ (by rfl) (by first | exact Or.inl rfl | exact Or.inr (Or.inl rfl) | exact Or.inr (Or.inr rfl)) (by decide) (by decide)) pe_int (fun _ _ => rfl))) pa_nil (by rfl)) (by rfl)) (by first | decide | omega | exact Nat.le_refl _) (by rfl) (by decide) (by rfl) (by rfl)))), ?_⟩
  have k1 := SqT.of (K := K) a1
  have k2 := SqT.of (K := K) a2
  have p1 := G1.fm.pos
  refine ⟨_, rfl, a, _, 0, _, rfl, rfl, k1, rfl, t, rfl, ⟨_, k2⟩, comp_intsT (fun z => z * t2) k2 (by first | lia | omega) rfl (fun z hz R hR => ?_) fun D hD => ?_⟩
  · exact ⟨_, rfl, _, rfl, b, _, 0, _, rfl, rfl, k3, rfl, _, _, rfl, rfl, ⟨_, _, G1.mem hz, lt, by first | lia | omega⟩, hR⟩
  have s1 := Same.new hD (.lst ((P1.map fun z => z * t2).map V.int))
  refine ⟨_, rfl, a, _, 1, _, rfl, rfl, k1.same s1, rfl, _, rfl, b, _, 1, _, rfl, rfl, k3.same s1, rfl, _, _, rfl, rfl, ⟨_, _, G1.bot, lb, by first | lia | omega⟩, D, _, _, rfl, SqL.of upd_same, Int.mul_pos p1 p2, ⟨nb + c, by first | lia | omega, G1.bot.mul lb⟩, by rw [List.length_map]; (first | lia | omega), fun v R C H4 s4 hv fm hw hle => ?_⟩
  have hw' : ∀ k, R.getD k 0 * (B1 * b2) = (P1.getD k 0 * t2) * C := fun k => by
    rw [hw k, map_getD (fun z => z * t2) (Int.zero_mul _)]
  rw [List.length_map] at hle
  have cn := Int.ne_of_gt (Int.mul_pos p1 p2)
  have z1 := Qp.ne_of_pos p1
  have z2 := Qp.ne_of_pos p2
  refine q v R C H4 (s1.trans s4) hv (Pc.Pz.of (f := fun k => P1.getD k 0 * t2) fm (Int.mul_pos p1 p2) hw' (fun k => (G1.tops k).mul lt) (G1.bot.mul lb)) (fun k => ?_) (fun x => ?_) hle
  · rw [Qp.q_of fm.pos cn hw' k]
    simp only [Rat.intCast_mul]
    unfold Qp.q
    grind
  · rw [Qp.E_tops (f := fun k => P1.getD k 0 * t2) fm.pos cn hw' hle, Qp.ei_mul, Rat.intCast_mul]
    show Qp.ei (Cv.fn P1) x _ * _ / _ = Qp.ei (Cv.fn P1) x _ / _ * _
    grind
def spMinusQ (K : PySem.W.Frag) : Sp := fun vs H Q _ => ∃ (v1 v2 : V) (P1 P2 : List Int) (B1 B2 : Int) (n b m c : Nat), vs = [v1, v2] ∧ Pol H v1 P1 B1 ∧ Pol H v2 P2 B2 ∧ Pc.Pz n b P1 B1 ∧ Pc.Pz m c P2 B2 ∧ b + c < 9000 ∧ n + m + b + c ≤ 800000 ∧ P1.length ≤ 400 ∧ P2.length ≤ 400 ∧
  ∀ (v : V) (R : List Int) (C : Int) (H' : Hp), Same H H' → Pol H' v R C → Pc.Pz (n + m + b + c + 3) (b + c + 1) R C → (∀ k, Qp.q R C k = Qp.q P1 B1 k - Qp.q P2 B2 k) → (∀ x, Qp.E R C x = Qp.E P1 B1 x - Qp.E P2 B2 x) → R.length ≤ max P1.length P2.length → Q v H'
theorem sc_minus : FnScope ["p", "other"] ["p", "other"] (defScope s_minus) := ⟨rfl, rfl, rfl, by decide +kernel, rfl, by decide +kernel, by decide +kernel⟩
theorem ok_minus {f0 : Addr} {fd : FuncData} (F : Fun K "minus" "minus" s_minus f0 fd) (B : Bl mg) (g_plus : Def P w K mg base "plus" 3 ["p", "other"] (spPlusQ K)) (g_scaled : Def P w K mg base "scaled" 3 ["p", "r"] (spScaledQ K)) : FnOk P w K mg base CX0 4 f0 fd ["p", "other"] (spMinusQ K) := by
  refine F.ok sc_minus (fun vs H Q E h => ?_) (fun cdv A outer s H vs Q E hr h => ?_)
  · obtain ⟨v1, v2, P1, P2, B1, B2, n, b, m, c, rfl, _⟩ := h
    rfl
  obtain ⟨v1, v2, P1, P2, B1, B2, n, b, m, c, rfl, h1, h2, G1, G2, hb, hn, l1, l2, q⟩ := h
  have nd := sc_minus.nd
  refine ⟨_, (@pss_one _ _ _ (@ps_ret _ _ _ _ (@pe_def _ _ _ _ _ _ _ _ _ _ _ g_plus hr (@pa_cons _ _ _ _ _ (@pv _ 0 _ _ (by rfl) (by first | exact Or.inl rfl | exact Or.inr (Or.inl rfl) | exact Or.inr (Or.inr rfl)) (by decide) (by decide)) (@pa_cons _ _ _ _ _ (@pe_def _ _ _ _ _ _ _ _ _ _ _ g_scaled hr (@pa_cons _ _ _ _ _ (@pv _ 1 _ _ (by rfl) (by first | exact Or.inl rfl | exact Or.inr (Or.inl rfl) | exact Or.inr (Or.inr rfl)) (by decide) (by decide)) (@pa_cons _ _ _ _ _ (@pe_tup _ _ _ _ _ (@pa_cons _ _ _ _ _ (@pe_un _ _ _ _ _ _ un_neg pe_int) (@pa_cons _ _ _ _ _ pe_int pa_nil (by rfl)) (by rfl))) pa_nil (by rfl)) (by rfl)) (by first | decide | omega | exact Nat.le_refl _) (by rfl) (by decide) (by rfl) (by rfl)) pa_nil (by rfl)) (by rfl)) (by first | decide | omega | exact Nat.le_refl _) (by rfl) (by decide) (by rfl) (by rfl)))), ?_⟩
  have p1 := G1.fm.pos
  have p2 := G2.fm.pos
  refine ⟨_, rfl, _, rfl, _, rfl, (by show 2 ≤ sizeLine; decide), fun r hr0 => ?_⟩
  have s1 := Same.new hr0 (.tup [.int (-1), .int 1])
  refine ⟨v2, _, P2, B2, ((-1 : Int) : Rat), m, c, 1, 1, rfl, h2.same s1, Fq.lay (SqT.of upd_same) (by decide), G2, by first | lia | omega, by first | lia | omega, l2, fun v R C H2 s2 hv G hq hE hle => ?_⟩
  refine ⟨v1, v, P1, R, B1, C, n, b, m + 1, c + 1, rfl, h1.same (s1.trans s2), hv, G1, G, by first | lia | omega, by first | lia | omega, l1, by first | lia | omega, fun v' R' C' H3 s3 hv' G' hw' hle' => ?_⟩
  have e1 : ((-1 : Int) : Rat) = -1 := rfl
  refine q v' R' C' H3 ((s1.trans s2).trans s3) hv' (G'.mono (by first | lia | omega) (by first | lia | omega)) (fun k => ?_) (fun x => ?_) (by first | lia | omega)
  · rw [Qp.q_sum p1 G.fm.pos G'.fm.pos hw' k, hq k, e1]
    grind
  · rw [Qp.E_sum p1 G.fm.pos G'.fm.pos hw' x, hE x, e1]
    grind
/-! ### straight ones, by worth -/
def spStraightQ (K : PySem.W.Frag) : Sp := fun vs H Q _ => ∃ (v1 v2 : V) (r1 r2 : Rat) (n1 b1 n2 b2 : Nat), vs = [v1, v2] ∧ Fq K n1 b1 H v1 r1 ∧ Fq K n2 b2 H v2 r2 ∧ b1 + b2 ≤ 4000 ∧ n1 ≤ 100000 ∧ n2 ≤ 100000 ∧
  ∀ v P B H', Same H H' → Pol H' v P B → Pc.Pz (n1 + n2 + b1 + b2) (b1 + b2) P B → (∀ x, Qp.E P B x = r1 * x + r2) → P.length ≤ 2 → Qp.q P B 0 = r2 → Qp.q P B 1 = r1 → Q v H'
theorem fras2 {H : Hp} {p1 p2 : Addr} {ta ba tb bb : Int} (h1 : SqT K H p1 [.int ta, .int ba]) (h2 : SqT K H p2 [.int tb, .int bb]) : Fras K H [.ref p2, .ref p1] [(tb, bb), (ta, ba)] := by
  refine ⟨rfl, fun i x hx => ?_⟩
  match i, hx with
  | 0, hx => cases hx; exact ⟨_, rfl, p2, rfl, h2⟩
  | 1, hx => cases hx; exact ⟨_, rfl, p1, rfl, h1⟩
/-- what a straight one of fractions is -/
theorem stQ {ta ba tb bb B : Int} {P : List Int} {n1 b1 n2 b2 : Nat} (st : Pc.St ta ba tb bb P B) (a0 : 0 < ba) (b0 : 0 < bb) (l1 : Lt2 n1 ta) (l2 : Lt2 b1 ba) (l3 : Lt2 n2 tb) (l4 : Lt2 b2 bb) :
    Pc.Pz (n1 + n2 + b1 + b2) (b1 + b2) P B ∧ (∀ x, Qp.E P B x = (ta : Rat) / (ba : Rat) * x + (tb : Rat) / (bb : Rat)) ∧ P.length ≤ 2 ∧ Qp.q P B 0 = (tb : Rat) / (bb : Rat) ∧ Qp.q P B 1 = (ta : Rat) / (ba : Rat) := by
  have p := Int.mul_pos a0 b0
  have q := fun k => Qp.q_of (f := fun k => [tb * ba, ta * bb].getD k 0) st.1.pos (Int.ne_of_gt p) st.2 k
  refine ⟨st_sz st a0 b0 l1 l2 l3 l4, Qp.E_St st a0 b0, Pc.len_of st.1 p st.2 fun k hk => ?_, ?_, ?_⟩
  · obtain ⟨j, rfl⟩ : ∃ j, k = j + 2 := ⟨k - 2, by first | lia | omega⟩
    exact Pc.two_out _ _ _
  · rw [q 0]
    exact (Qp.div_eq (Int.ne_of_gt p) (by first | lia | omega)).mpr (by show tb * ba * bb = tb * (ba * bb); grind)
  · rw [q 1]
    exact (Qp.div_eq (Int.ne_of_gt p) (by first | lia | omega)).mpr (by show ta * bb * ba = ta * (ba * bb); grind)
theorem sc_straight : FnScope ["a", "b"] ["a", "b"] (defScope s_straight) := ⟨rfl, rfl, rfl, by decide +kernel, rfl, by decide +kernel, by decide +kernel⟩
theorem ok_straight {f0 : Addr} {fd : FuncData} (F : Fun K "straight" "straight" s_straight f0 fd) (B : Bl mg) (g_poly : Def P w K mg base "poly" 3 ["some"] (spPolyQ K)) : FnOk P w K mg base CX0 4 f0 fd ["a", "b"] (spStraightQ K) := by
  refine F.ok sc_straight (fun vs H Q E h => ?_) (fun cdv A outer s H vs Q E hr h => ?_)
  · obtain ⟨v1, v2, r1, r2, n1, b1, n2, b2, rfl, _⟩ := h
    rfl
  obtain ⟨v1, v2, r1, r2, n1, b1, n2, b2, rfl, ⟨p1, ta, ba, rfl, h1, a0, c2, l1, l2, rfl⟩, ⟨p2, tb, bb, rfl, h2, b0, d2, l3, l4, rfl⟩, ln, m1, m2, q⟩ := h
  have nd := sc_straight.nd
  refine ⟨_, (@pss_one _ _ _ (@ps_ret _ _ _ _ (@pe_def _ _ _ _ _ _ _ _ _ _ _ g_poly hr (@pa_cons _ _ _ _ _ (@pe_lst _ _ _ _ (@pa_cons _ _ _ _ _ (@pv _ 1 _ _ (by rfl) (by first | exact Or.inl rfl | exact Or.inr (Or.inl rfl) | exact Or.inr (Or.inr rfl)) (by decide) (by decide)) (@pa_cons _ _ _ _ _ (@pv _ 0 _ _ (by rfl) (by first | exact Or.inl rfl | exact Or.inr (Or.inl rfl) | exact Or.inr (Or.inr rfl)) (by decide) (by decide)) pa_nil (by rfl)) (by rfl))) pa_nil (by rfl)) (by first | decide | omega | exact Nat.le_refl _) (by rfl) (by decide) (by rfl) (by rfl)))), ?_⟩
  refine ⟨_, rfl, _, rfl, (by show 2 ≤ sizeLine; decide), fun p hp => ?_⟩
  have s1 := Same.new hp (.lst [.ref p2, .ref p1])
  refine ⟨p, "list", _, [(tb, bb), (ta, ba)], b1 + b2, max n1 n2, rfl, .inr ⟨rfl, SqL.of upd_same⟩, fras2 (h1.same s1) (h2.same s1), fun f hf => ?_, (by show 2 ≤ 100; decide), (by show (b1 + b2) * 2 ≤ 8000; (first | lia | omega)), by first | lia | omega, by first | lia | omega, fun v P B H1 s2 hv fm _ hw hle => ?_⟩
  · rcases List.mem_cons.mp hf with rfl | hf
    · exact ⟨b0, l3.mono (by first | lia | omega), l4.mono (by first | lia | omega)⟩
    · rw [List.mem_singleton.mp hf]
      exact ⟨a0, l1.mono (by first | lia | omega), l2.mono (by first | lia | omega)⟩
  have st : Pc.St ta ba tb bb P B := ⟨fm, fun k => by
    have e := hw k
    match k with
    | 0 =>
      have e' : P.getD 0 0 * bb = tb * B := e
      show P.getD 0 0 * (ba * bb) = tb * ba * B
      grind
    | 1 =>
      have e' : P.getD 1 0 * ba = ta * B := e
      show P.getD 1 0 * (ba * bb) = ta * bb * B
      grind
    | k + 2 =>
      have e' : P.getD (k + 2) 0 * 1 = 0 * B := e
      rw [Pc.two_out]
      grind⟩
  obtain ⟨x1, x2, x3, x4, x5⟩ := stQ st a0 b0 l1 l2 l3 l4
  exact q v P B H1 (s1.trans s2) hv x1 x2 x3 x4 x5
/-- of lead not 0 -/
theorem st_len {P : List Int} {B : Int} (h : Qp.q P B 1 ≠ 0) (l : P.length ≤ 2) : P.length = 2 ∧ P.getD 1 0 ≠ 0 := by
  have n1 : P.getD 1 0 ≠ 0 := fun z => h (by
    unfold Qp.q
    rw [z]
    show ((0 : Int) : Rat) / _ = 0
    have : ((0 : Int) : Rat) = 0 := rfl
    rw [this]
    grind)
  refine ⟨?_, n1⟩
  rcases Nat.lt_or_ge 1 P.length with z | z
  · (first | lia | omega)
  · exact absurd (getD_out z) n1
/-! ### put in -/
def spPut (K : PySem.W.Frag) : Sp := fun vs H Q _ => ∃ (v1 v2 : V) (P1 P2 : List Int) (B1 B2 : Int) (n b m c : Nat), vs = [v1, v2] ∧ PolK K H v1 P1 B1 ∧ PolK K H v2 P2 B2 ∧ Pc.Pz n b P1 B1 ∧ Pc.Pz m c P2 B2 ∧ b + c * P1.length ≤ 8900 ∧ n + (m + c + 10) * (P1.length + 1) ≤ 500000 ∧ P1.length * P2.length ≤ 190 ∧ P1.length ≤ 190 ∧ P2.length ≤ 190 ∧
  ∀ (v : V) (R : List Int) (C : Int) (H' : Hp), Same H H' → Pol H' v R C → Pc.Of P1 B1 P2 B2 R C → Q v H'
theorem sc_put : FnScope ["f", "g", "tops", "bottom", "inner", "under", "made", "scale", "top"] ["f", "g"] (defScope s_put) := ⟨rfl, rfl, rfl, by decide +kernel, rfl, by decide +kernel, by decide +kernel⟩
theorem ok_put {f0 : Addr} {fd : FuncData} (F : Fun K "put" "put" s_put f0 fd) (B : Bl mg) (g_one_form : Def P w K mg base "one_form" 2 ["tops", "bottom"] (spOF K)) (g_tops_together : Def P w K mg base "tops_together" 1 ["tops", "others"] (spTog K)) (g_tops_multiplied : Def P w K mg base "tops_multiplied" 1 ["tops", "others"] (spMulT K)) : FnOk P w K mg base CX0 3 f0 fd ["f", "g"] (spPut K) := by
  refine F.ok sc_put (fun vs H Q E h => ?_) (fun cdv A outer s H vs Q E hr h => ?_)
  · obtain ⟨v1, v2, P1, P2, B1, B2, n, b, m, c, rfl, _⟩ := h
    rfl
  obtain ⟨v1, v2, P1, P2, B1, B2, n, b, m, c, rfl, ⟨a, t, rfl, a1, a2⟩, ⟨d, u, rfl, b1, b2⟩, G1, G2, hb, hn, hl, l1, l2, q⟩ := h
  have nd := sc_put.nd
  refine ⟨_, (@pss_cons _ _ _ _ _ (@ps_asg _ _ _ _ _ _ (@pv _ 0 _ _ (by rfl) (by first | exact Or.inl rfl | exact Or.inr (Or.inl rfl) | exact Or.inr (Or.inr rfl)) (by decide) (by decide)) (@pgT _ K _ _ _ 2 _ rfl (@pgs_cons _ _ _ _ _ (@pg_name _ _ 2 _ nd rfl (by first | exact Or.inl rfl | exact Or.inr rfl) (by first | exact .inl rfl | exact .inr rfl | assumption)) (@pgs_cons _ _ _ _ _ (@pg_name _ _ 3 _ nd rfl (by first | exact Or.inl rfl | exact Or.inr rfl) (by first | exact .inl rfl | exact .inr rfl | assumption)) pgs_nil (by rfl)) (by rfl)) (by rfl) (by rfl) (by rfl)) (by rfl) (by rfl) (by rfl)) (@pss_cons _ _ _ _ _ (@ps_asg _ _ _ _ _ _ (@pv _ 1 _ _ (by rfl) (by first | exact Or.inl rfl | exact Or.inr (Or.inl rfl) | exact Or.inr (Or.inr rfl)) (by decide) (by decide)) (@pgT _ K _ _ _ 2 _ rfl (@pgs_cons _ _ _ _ _ (@pg_name _ _ 4 _ nd rfl (by first | exact Or.inl rfl | exact Or.inr rfl) (by first | exact .inl rfl | exact .inr rfl | assumption)) (@pgs_cons _ _ _ _ _ (@pg_name _ _ 5 _ nd rfl (by first | exact Or.inl rfl | exact Or.inr rfl) (by first | exact .inl rfl | exact .inr rfl | assumption)) pgs_nil (by rfl)) (by rfl)) (by rfl) (by rfl) (by rfl)) (by rfl) (by rfl) (by rfl)) (@pss_cons _ _ _ _ _ (@ps_par _ _ 6 7 _ _ _ _ _ _ _ _ _ _ _ rfl nd rfl rfl (by decide) rfl rfl (@pa_cons _ _ _ _ _ (@pe_lst _ _ _ _ pa_nil) (@pa_cons _ _ _ _ _ pe_int pa_nil (by rfl)) (by rfl)) rfl (by rfl)) (@pss_cut _ _ _ _ _ (@ps_for _ _ _ _ _ _ _ _ PassesOwn.never rfl (@pi_revd _ K _ _ _ _ _ rfl B.reversed (@pa_cons _ _ _ _ _ (@pv _ 2 _ _ (by rfl) (by first | exact Or.inl rfl | exact Or.inr (Or.inl rfl) | exact Or.inr (Or.inr rfl)) (by decide) (by decide)) pa_nil (by rfl)) (by rfl) (by rfl)) (@pg_name _ _ 8 _ nd rfl (by first | exact Or.inl rfl | exact Or.inr rfl) (by first | exact .inl rfl | exact .inr rfl | assumption)) (@pss_cons _ _ _ _ _ (@ps_set _ _ 6 _ _ _ _ nd rfl (by first | exact Or.inl rfl | exact Or.inr rfl) (@pe_def _ _ _ _ _ _ _ _ _ _ _ g_tops_together hr (@pa_cons _ _ _ _ _ (@pe_def _ _ _ _ _ _ _ _ _ _ _ g_tops_multiplied hr (@pa_cons _ _ _ _ _ (@pv _ 6 _ _ (by rfl) (by first | exact Or.inl rfl | exact Or.inr (Or.inl rfl) | exact Or.inr (Or.inr rfl)) (by decide) (by decide)) (@pa_cons _ _ _ _ _ (@pv _ 4 _ _ (by rfl) (by first | exact Or.inl rfl | exact Or.inr (Or.inl rfl) | exact Or.inr (Or.inr rfl)) (by decide) (by decide)) pa_nil (by rfl)) (by rfl)) (by first | decide | omega | exact Nat.le_refl _) (by rfl) (by decide) (by rfl) (by rfl)) (@pa_cons _ _ _ _ _ (@pe_lst _ _ _ _ (@pa_cons _ _ _ _ _ (@pe_op _ _ _ _ _ _ _ _ op_mulB (@pv _ 8 _ _ (by rfl) (by first | exact Or.inl rfl | exact Or.inr (Or.inl rfl) | exact Or.inr (Or.inr rfl)) (by decide) (by decide)) (@pv _ 7 _ _ (by rfl) (by first | exact Or.inl rfl | exact Or.inr (Or.inl rfl) | exact Or.inr (Or.inr rfl)) (by decide) (by decide))) pa_nil (by rfl))) pa_nil (by rfl)) (by rfl)) (by first | decide | omega | exact Nat.le_refl _) (by rfl) (by decide) (by rfl) (by rfl)) (by rfl) (by first | exact .inl rfl | exact .inr rfl | assumption)) (@pss_one _ _ _ (@ps_aug _ _ 7 _ _ _ _ _ _ nd rfl (by first | exact Or.inl rfl | exact Or.inr rfl) (@pv _ 5 _ _ (by rfl) (by first | exact Or.inl rfl | exact Or.inr (Or.inl rfl) | exact Or.inr (Or.inr rfl)) (by decide) (by decide)) ip_mulB (by first | exact .inl rfl | exact .inr rfl | assumption)))) (by intro _; rfl)) (@pss_one _ _ _ (@ps_ret _ _ _ _ (@pe_def _ _ _ _ _ _ _ _ _ _ _ g_one_form hr (@pa_cons _ _ _ _ _ (@pe_comp _ _ _ _ _ _ _ _ _ _ _ _ rfl (show CompS ["f", "g", "tops", "bottom", "inner", "under", "made", "scale", "top"] (defScope s_put) _ [8] from by exact ⟨rfl, by decide +kernel, by decide +kernel, by decide +kernel, by decide +kernel⟩) (@piL _ K _ _ _ (@pv _ 6 _ _ (by rfl) (by first | exact Or.inl rfl | exact Or.inr (Or.inl rfl) | exact Or.inr (Or.inr rfl)) (by decide) (by decide)) (by rfl)) (fun _ _ _ _ _ => (@pg_name _ _ 8 _ nd rfl (by first | exact Or.inl rfl | exact Or.inr rfl) (by first | exact .inl rfl | exact .inr rfl | assumption))) (fun _ _ _ _ _ => pts_nil) (fun _ _ _ _ _ => (@pe_op _ _ _ _ _ _ _ _ op_mulB (@pv _ 8 _ _ (by rfl) (by first | exact Or.inl rfl | exact Or.inr (Or.inl rfl) | exact Or.inr (Or.inr rfl)) (by decide) (by decide)) (@pv _ 5 _ _ (by rfl) (by first | exact Or.inl rfl | exact Or.inr (Or.inl rfl) | exact Or.inr (Or.inr rfl)) (by decide) (by decide)))) (by intro _; rfl)) (@pa_cons _ _ _ _ _ (@pe_op _ _ _ _ _ _ _ _ op_mulB (@pv _ 3 _ _ (by rfl) (by first | exact Or.inl rfl | exact Or.inr (Or.inl rfl) | exact Or.inr (Or.inr rfl)) (by decide) (by decide)) (@pv _ 7 _ _ (by rfl) (by first | exact Or.inl rfl | exact Or.inr (Or.inl rfl) | exact Or.inr (Or.inr rfl)) (by decide) (by decide))) pa_nil (by rfl)) (by rfl)) (by first | decide | omega | exact Nat.le_refl _) (by rfl) (by decide) (by rfl) (by rfl)))))))), ?_⟩
  have k1 := a1
  have k2 := a2
  have k3 := b1
  have k4 := b2
  have p1 := G1.fm.pos
  have p2 := G2.fm.pos
  have hL : (m + c + 10) * P1.length + (m + c + 10) = (m + c + 10) * (P1.length + 1) := by rw [Nat.mul_succ]
  refine ⟨_, rfl, a, _, rfl, k1, rfl, _, _, rfl, _, _, rfl, rfl, ?_⟩
  refine ⟨_, rfl, d, _, rfl, k3, rfl, _, _, rfl, _, _, rfl, rfl, ?_⟩
  refine ⟨(by show 0 ≤ sizeLine; decide), fun p0 hp0 => ⟨_, _, rfl, ?_⟩⟩
  have s0 := Same.new hp0 (.lst [])
  have hp00 := upd_same (H := H) (a := p0) (o := .lst [])
  generalize upd H p0 (.lst []) = H0 at *
  have hg : ∀ k, P2.length ≤ k → Cv.fn P2 k = 0 := fun k h => Cv.fn_out h
  refine ⟨fun σ H' => Same H H' ∧ ∃ (p : Addr) (rs : List Int) (o : Option V), σ = [some (.ref a), some (.ref d), some (.ref t), some (.int B1), some (.ref u), some (.int B2), some (.ref p), some (.int (B2 ^ P1.length)), o] ∧ H' p = some (.lst (rs.map V.int)) ∧ rs.length ≤ P1.length * P2.length + 1 ∧ (∀ k, Lt2 (n + (m + c + 10) * P1.length + 1) (rs.getD k 0)) ∧ ∀ k, Pc.pc (Cv.fn P1) (Cv.fn P2) B2 P1.length k = B2 * rs.getD k 0, ?_, ?_⟩
  · refine ⟨_, rfl, t, P1.map V.int, rfl, k2.same s0, ?_⟩
    refine for_rev (xs := P1.map V.int) (fun i σ H' => Same H H' ∧ ∃ (p : Addr) (rs : List Int) (o : Option V), σ = [some (.ref a), some (.ref d), some (.ref t), some (.int B1), some (.ref u), some (.int B2), some (.ref p), some (.int (B2 ^ i)), o] ∧ H' p = some (.lst (rs.map V.int)) ∧ rs.length ≤ i * P2.length + 1 ∧ (∀ k, Lt2 (n + (m + c + 10) * i + 1) (rs.getD k 0)) ∧ ∀ k, Pc.pc (Cv.fn P1) (Cv.fn P2) B2 P1.length k = B2 ^ i * Pc.pc (Cv.fn P1) (Cv.fn P2) B2 (P1.length - i) k + B2 * Cv.cv (Pc.cp (Cv.fn P2) (P1.length - i)) (Cv.fn rs) k)
      ⟨s0, p0, [], none, by rw [Int.pow_zero]; rfl, hp00, Nat.zero_le _, fun k => by rw [getD_out (fs := ([] : List Int)) (Nat.zero_le _)]; exact Nat.pow_pos (by decide), fun k => by rw [Cv.cv_zr fun j => Cv.fn_out (Nat.zero_le _)]; simp⟩ (fun i σ H' _ h => k2.same h.1) ?_ ?_
    · rintro i x _ H1 hx ⟨s1, p, rs, o, rfl, hp, lr, sr, hr1⟩
      have hi : i < P1.length := by have := (List.getElem?_eq_some_iff.mp hx).1; simpa using this
      rw [List.getElem?_reverse (by rw [List.length_map]; exact hi), List.length_map] at hx
      obtain ⟨_, _, rfl⟩ := int_at hx
      have hp1 := G1.tops (P1.length - 1 - i)
      have li : (m + c + 10) * (i + 1) ≤ (m + c + 10) * P1.length := Nat.mul_le_mul_left _ hi
      rw [Nat.mul_succ] at li
      have li2 : (i + 1) * P2.length ≤ P1.length * P2.length := Nat.mul_le_mul_right _ hi
      rw [Nat.succ_mul] at li2
      have li3 : c * i ≤ (m + c + 10) * i := Nat.mul_le_mul_right _ (by first | lia | omega)
      have ls := Hv.pow_lt G2.bot i
      refine ⟨_, rfl, _, rfl, p, u, "list", "tuple", rs, P2, n + (m + c + 10) * i + 1, m, rfl, .inr ⟨rfl, SqL.of hp⟩, .inl ⟨rfl, k4.same s1⟩, by first | lia | omega, by first | lia | omega, fun z hz => ?_, fun z hz => G2.mem hz, by first | lia | omega, fun p1' H2 qs s2 hp1' lq hq => ?_⟩
      · obtain ⟨k, rfl⟩ := Po.getD_mem hz
        exact sr k
      refine ⟨_, rfl, _, rfl, _, _, rfl, rfl, ⟨_, _, hp1, ls, by first | lia | omega⟩, (by show 1 ≤ sizeLine; decide), fun p2' hp2' => ?_⟩
      have s3 := Same.new hp2' (.lst [.int (P1.getD (P1.length - 1 - i) 0 * B2 ^ i)])
      refine ⟨p1', p2', qs, [P1.getD (P1.length - 1 - i) 0 * B2 ^ i], rfl, SqL.of (s3 _ _ hp1'), SqL.of upd_same, by first | lia | omega, (by show 1 ≤ 1000; decide), fun p3 H3 ws s4 hp3 lw hw => ?_⟩
      have hw0 : ∀ j, Cv.fn ws j = Cv.cv (Cv.fn rs) (Cv.fn P2) j + (if j = 0 then Cv.fn P1 (P1.length - 1 - i) * B2 ^ i else 0) := fun j => by
        have e := hw j
        rw [hq j] at e
        cases j with
        | zero => exact e
        | succ j => rw [if_neg (by first | lia | omega)]; rw [getD_out (fs := [P1.getD (P1.length - 1 - i) 0 * B2 ^ i]) (by simp)] at e; exact e
      refine ⟨_, rfl, _, rfl, _, _, rfl, rfl, ⟨_, _, ls, G2.bot, by first | lia | omega⟩, ((s1.trans s2).trans s3).trans s4, p3, ws, _, by rw [Int.pow_succ]; rfl, hp3, ?_, fun k => ?_, fun k => ?_⟩
      · rw [Nat.succ_mul]
        simp only [List.length_singleton] at lw
        (first | lia | omega)
      · show Lt2 _ (Cv.fn ws k)
        rw [hw0 k]
        have y1 : Lt2 (n + (m + c + 10) * i + 1 + m + 9) (Cv.cv (Cv.fn rs) (Cv.fn P2) k) := cv_size sr G2.tops (by first | lia | omega) (by first | lia | omega) k
        have y2 : Lt2 (n + (m + c + 10) * i + 1 + m + 9) (if k = 0 then Cv.fn P1 (P1.length - 1 - i) * B2 ^ i else 0) := by
          split
          · exact (hp1.mul ls).mono (by first | lia | omega)
          · exact Nat.pow_pos (by decide)
        exact (y1.add y2).mono (by rw [Nat.mul_succ]; (first | lia | omega))
      · exact Pc.horner hg hi hr1 _ hw0
    · rintro _ H1 ⟨s1, p, rs, o, rfl, hp, lr, sr, hr1⟩
      rw [List.length_map] at lr sr hr1 ⊢
      refine ⟨s1, p, rs, o, rfl, hp, lr, sr, fun k => ?_⟩
      rw [hr1 k, Nat.sub_self]
      show _ * 0 + B2 * Cv.cv Pc.d0 (Cv.fn rs) k = _
      rw [Pc.cv_d0, Int.mul_zero, Int.zero_add]
      rfl
  rintro _ H1 ⟨s1, p, rs, o, rfl, hp, lr, sr, hr1⟩
  have ls := Hv.pow_lt G2.bot P1.length
  refine ⟨_, rfl, p, rfl, ⟨_, SqL.of hp⟩, comp_intsL (fun z => z * B2) (SqL.of hp) (by first | lia | omega) rfl (fun z hz R hR => ?_) fun D hD => ?_⟩
  · obtain ⟨k, rfl⟩ := Po.getD_mem hz
    exact ⟨_, rfl, _, rfl, _, _, rfl, rfl, ⟨_, _, sr k, G2.bot, by first | lia | omega⟩, hR⟩
  have Y := Int.mul_pos p1 (Hv.pow_pos p2 P1.length)
  refine ⟨_, rfl, _, rfl, _, _, rfl, rfl, ⟨_, _, G1.bot, ls, by first | lia | omega⟩, D, _, _, rfl, SqL.of upd_same, Y, ⟨b + (c * P1.length + 1), by first | lia | omega, G1.bot.mul ls⟩, by rw [List.length_map]; (first | lia | omega), fun v R C H4 s4 hv fm hw hle => ?_⟩
  refine q v R C H4 ((s1.trans (Same.new hD _)).trans s4) hv ⟨fm, fun k => ?_⟩
  rw [hw k, map_getD (fun z => z * B2) (Int.zero_mul _), hr1 k, Int.mul_comm B2]
end
end My

set_option maxHeartbeats 4000000
namespace My
open PySem L2
section
variable {P : Program} {w : World} {K : PySem.W.Frag} {mg : Str → Option Value} {base : Heap}
/-! ### the plain one -/
/-- some way to tell a fraction by numbers of these sizes -/
def Szq (n b : Nat) (r : Rat) : Prop := ∃ T U : Int, U ≠ 0 ∧ r = (T : Rat) / (U : Rat) ∧ Lt2 n T ∧ Lt2 b U
theorem Fq.by' {H : Hp} {v : V} {r : Rat} {n b n' b' : Nat} (h : Fq K n b H v r) (s : Szq n' b' r) : Fq K n' b' H v r := by
  obtain ⟨T, U, h1, h2, h3, h4⟩ := s
  exact h.sharp h1 h2 h3 h4
theorem szq_at {n b : Nat} {P : List Int} {B : Int} (z : Pc.Pz n b P B) (k : Nat) : Szq n b (Qp.q P B k) := ⟨P.getD k 0, B, Int.ne_of_gt z.fm.pos, rfl, z.tops k, z.bot⟩
/-- sizes by coefficients -/
theorem pz_q {n b : Nat} {R : List Int} {C c : Int} {f : Nat → Int} (F : Po.Fm R C) (hc : c ≠ 0) (h : ∀ k, Qp.q R C k = ((f k : Int) : Rat) / (c : Rat)) (h1 : ∀ k, Lt2 n (f k)) (h2 : Lt2 b c) : Pc.Pz n b R C := by
  have e : ∀ k, R.getD k 0 * c = f k * C := fun k => (Qp.div_eq (Int.ne_of_gt F.pos) hc).mp (h k)
  rcases Int.lt_or_gt_of_ne hc with z | z
  · refine Pc.Pz.of (c := -c) (f := fun k => -f k) F (by first | lia | omega) (fun k => ?_) (fun k => (h1 k).neg) h2.neg
    have := e k
    rw [Int.mul_neg, this, Int.neg_mul]
  · exact Pc.Pz.of F z e h1 h2
/-- what plain tells of f: lead a, shift s, low -/
structure Pl (P : List Int) (B : Int) (a s low : Rat) (P1 : List Int) (B1 : Int) (P2 : List Int) (B2 : Int) (P3 : List Int) (B3 : Int) : Prop where
  f1 : Po.Fm P1 B1
  f2 : Po.Fm P2 B2
  f3 : Po.Fm P3 B3
  e1 : ∀ x, Qp.E P1 B1 x = a * x + low
  e2 : ∀ x, Qp.E P2 B2 x = (Qp.E P B (x - s) - low) * (1 / a)
  e3 : ∀ x, Qp.E P3 B3 x = 1 * x + s
/-- the shift of f -/
def shiftQ (P : List Int) (B : Int) : Rat := Qp.q P B (P.length - 2) / (Qp.q P B (P.length - 1) * ((P.length - 1 : Nat) : Rat))
def mo (n s L : Nat) : Nat := n + (s + s + s + 14) * L + 1
def mb (b s L : Nat) : Nat := b + ((s + 2) * L + 1)
/-- three polynomials in a tuple -/
def Pol3 (H : Hp) (v : V) (P1 : List Int) (B1 : Int) (P2 : List Int) (B2 : Int) (P3 : List Int) (B3 : Int) : Prop := ∃ p x1 x2 x3, v = .ref p ∧ H p = some (.tup [x1, x2, x3]) ∧ Pol H x1 P1 B1 ∧ Pol H x2 P2 B2 ∧ Pol H x3 P3 B3
def spPlain (K : PySem.W.Frag) : Sp := fun vs H Q _ => ∃ (v : V) (P : List Int) (B : Int) (n b a ab s l lb : Nat), vs = [v] ∧ Pol H v P B ∧ Pc.Pz n b P B ∧ 3 ≤ P.length ∧ P.length ≤ 13 ∧ Szq a ab (Qp.q P B (P.length - 1)) ∧ Szq a ab (Qp.q P B (P.length - 2)) ∧ a ≤ 900 ∧ ab ≤ 900 ∧ Szq s s (shiftQ P B) ∧ 4 ≤ s ∧ s ≤ 900 ∧ Szq l lb (Qp.E P B (-shiftQ P B)) ∧ l ≤ 90000 ∧
  ab + lb ≤ 4000 ∧ mb b s P.length + lb ≤ 4400 ∧ mo n s P.length ≤ 100000 ∧
  ∀ v' P1 B1 P2 B2 P3 B3 H', Same H H' → Pol3 H' v' P1 B1 P2 B2 P3 B3 → Pl P B (Qp.q P B (P.length - 1)) (shiftQ P B) (Qp.E P B (-shiftQ P B)) P1 B1 P2 B2 P3 B3 →
    P1.length = 2 → P2.length = P.length → P3.length = 2 → Pc.Pz (a + l + ab + lb) (ab + lb) P1 B1 → Pc.Pz (mo n s P.length + (1 + ab)) (mb b s P.length + (1 + a)) P2 B2 → Pc.Pz (s + s + 2) (s + 1) P3 B3 →
    Qp.q P2 B2 (P.length - 1) = 1 → Qp.q P2 B2 (P.length - 2) = 0 → Qp.q P2 B2 0 = 0 → Qp.q P1 B1 1 = Qp.q P B (P.length - 1) → Qp.q P3 B3 1 = 1 → Q v' H'
theorem len3 {P : List Int} {B : Int} (h : 3 ≤ P.length) : P ≠ [] := by
  intro e
  subst e
  simp at h
theorem sc_plain : FnScope ["f", "n", "most", "shift", "moved", "low", "p"] ["f"] (defScope s_plain) := ⟨rfl, rfl, rfl, by decide +kernel, rfl, by decide +kernel, by decide +kernel⟩
theorem ok_plain {f0 : Addr} {fd : FuncData} (F : Fun K "plain" "plain" s_plain f0 fd) (B : Bl mg) (g_degree : Def P w K mg base "degree" 1 ["p"] (spDeg K)) (g_lead : Def P w K mg base "lead" 4 ["p"] (spLeadQ K)) (g_divided : Def P w K mg base "divided" 3 ["one", "other"] (spDividedQ K)) (g_multiplied : Def P w K mg base "multiplied" 3 ["one", "other"] (spMultipliedQ K)) (g_taken : Def P w K mg base "taken" 3 ["one", "other"] (spTakenQ K))
    (g_fraction_at : Def P w K mg base "fraction_at" 3 ["p", "k"] (spFAtQ K)) (g_straight : Def P w K mg base "straight" 4 ["a", "b"] (spStraightQ K)) (g_put : Def P w K mg base "put" 3 ["f", "g"] (spPut K)) (g_poly : Def P w K mg base "poly" 3 ["some"] (spPolyQ K))
    (g_scaled : Def P w K mg base "scaled" 3 ["p", "r"] (spScaledQ K)) (g_minus : Def P w K mg base "minus" 4 ["p", "other"] (spMinusQ K)) : FnOk P w K mg base CX0 5 f0 fd ["f"] (spPlain K) := by
  refine F.ok sc_plain (fun vs H Q E h => ?_) (fun cdv A outer s H vs Q E hr h => ?_)
  · obtain ⟨v, P1, B1, n, b, a, ab, s, l, lb, rfl, _⟩ := h
    rfl
  obtain ⟨v, P1, B1, n, b, a, ab, sz, l, lb, rfl, h1, G1, l3, l13, za, za', ha9, hab9, zs, hs4, hs9, zl, hl9, c1, c2, c3, q⟩ := h
  have nd := sc_plain.nd
  refine ⟨_, (@pss_cons _ _ _ _ _ (@ps_par _ _ 1 2 _ _ _ _ _ _ _ _ _ _ _ rfl nd rfl rfl (by decide) rfl rfl (@pa_cons _ _ _ _ _ (@pe_def _ _ _ _ _ _ _ _ _ _ _ g_degree hr (@pa_cons _ _ _ _ _ (@pv _ 0 _ _ (by rfl) (by first | exact Or.inl rfl | exact Or.inr (Or.inl rfl) | exact Or.inr (Or.inr rfl)) (by decide) (by decide)) pa_nil (by rfl)) (by first | decide | omega | exact Nat.le_refl _) (by rfl) (by decide) (by rfl) (by rfl)) (@pa_cons _ _ _ _ _ (@pe_def _ _ _ _ _ _ _ _ _ _ _ g_lead hr (@pa_cons _ _ _ _ _ (@pv _ 0 _ _ (by rfl) (by first | exact Or.inl rfl | exact Or.inr (Or.inl rfl) | exact Or.inr (Or.inr rfl)) (by decide) (by decide)) pa_nil (by rfl)) (by first | decide | omega | exact Nat.le_refl _) (by rfl) (by decide) (by rfl) (by rfl)) pa_nil (by rfl)) (by rfl)) rfl (by rfl)) (@pss_cons _ _ _ _ _ (@ps_set _ _ 3 _ _ _ _ nd rfl (by first | exact Or.inl rfl | exact Or.inr rfl) (@pe_def _ _ _ _ _ _ _ _ _ _ _ g_divided hr (@pa_cons _ _ _ _ _ (@pe_def _ _ _ _ _ _ _ _ _ _ _ g_fraction_at hr (@pa_cons _ _ _ _ _ (@pv _ 0 _ _ (by rfl) (by first | exact Or.inl rfl | exact Or.inr (Or.inl rfl) | exact Or.inr (Or.inr rfl)) (by decide) (by decide)) (@pa_cons _ _ _ _ _ (@pe_op _ _ _ _ _ _ _ _ op_sub (@pv _ 1 _ _ (by rfl) (by first | exact Or.inl rfl | exact Or.inr (Or.inl rfl) | exact Or.inr (Or.inr rfl)) (by decide) (by decide)) pe_int) pa_nil (by rfl)) (by rfl)) (by first | decide | omega | exact Nat.le_refl _) (by rfl) (by decide) (by rfl) (by rfl)) (@pa_cons _ _ _ _ _ (@pe_def _ _ _ _ _ _ _ _ _ _ _ g_multiplied hr (@pa_cons _ _ _ _ _ (@pv _ 2 _ _ (by rfl) (by first | exact Or.inl rfl | exact Or.inr (Or.inl rfl) | exact Or.inr (Or.inr rfl)) (by decide) (by decide)) (@pa_cons _ _ _ _ _ (@pe_tup _ _ _ _ _ (@pa_cons _ _ _ _ _ (@pv _ 1 _ _ (by rfl) (by first | exact Or.inl rfl | exact Or.inr (Or.inl rfl) | exact Or.inr (Or.inr rfl)) (by decide) (by decide)) (@pa_cons _ _ _ _ _ pe_int pa_nil (by rfl)) (by rfl))) pa_nil (by rfl)) (by rfl)) (by first | decide | omega | exact Nat.le_refl _) (by rfl) (by decide) (by rfl) (by rfl)) pa_nil (by rfl)) (by rfl)) (by first | decide | omega | exact Nat.le_refl _) (by rfl) (by decide) (by rfl) (by rfl)) (by rfl) (by first | exact .inl rfl | exact .inr rfl | assumption)) (@pss_cons _ _ _ _ _ (@ps_set _ _ 4 _ _ _ _ nd rfl (by first | exact Or.inl rfl | exact Or.inr rfl) (@pe_def _ _ _ _ _ _ _ _ _ _ _ g_put hr (@pa_cons _ _ _ _ _ (@pv _ 0 _ _ (by rfl) (by first | exact Or.inl rfl | exact Or.inr (Or.inl rfl) | exact Or.inr (Or.inr rfl)) (by decide) (by decide)) (@pa_cons _ _ _ _ _ (@pe_def _ _ _ _ _ _ _ _ _ _ _ g_straight hr (@pa_cons _ _ _ _ _ (@pe_tup _ _ _ _ _ (@pa_cons _ _ _ _ _ pe_int (@pa_cons _ _ _ _ _ pe_int pa_nil (by rfl)) (by rfl))) (@pa_cons _ _ _ _ _ (@pe_def _ _ _ _ _ _ _ _ _ _ _ g_taken hr (@pa_cons _ _ _ _ _ (@pe_tup _ _ _ _ _ (@pa_cons _ _ _ _ _ pe_int (@pa_cons _ _ _ _ _ pe_int pa_nil (by rfl)) (by rfl))) (@pa_cons _ _ _ _ _ (@pv _ 3 _ _ (by rfl) (by first | exact Or.inl rfl | exact Or.inr (Or.inl rfl) | exact Or.inr (Or.inr rfl)) (by decide) (by decide)) pa_nil (by rfl)) (by rfl)) (by first | decide | omega | exact Nat.le_refl _) (by rfl) (by decide) (by rfl) (by rfl)) pa_nil (by rfl)) (by rfl)) (by first | decide | omega | exact Nat.le_refl _) (by rfl) (by decide) (by rfl) (by rfl)) pa_nil (by rfl)) (by rfl)) (by first | decide | omega | exact Nat.le_refl _) (by rfl) (by decide) (by rfl) (by rfl)) (by rfl) (by first | exact .inl rfl | exact .inr rfl | assumption)) (@pss_cons _ _ _ _ _ (@ps_set _ _ 5 _ _ _ _ nd rfl (by first | exact Or.inl rfl | exact Or.inr rfl) (@pe_def _ _ _ _ _ _ _ _ _ _ _ g_fraction_at hr (@pa_cons _ _ _ _ _ (@pv _ 4 _ _ (by rfl) (by first | exact Or.inl rfl | exact Or.inr (Or.inl rfl) | exact Or.inr (Or.inr rfl)) (by decide) (by decide)) (@pa_cons _ _ _ _ _ pe_int pa_nil (by rfl)) (by rfl)) (by first | decide | omega | exact Nat.le_refl _) (by rfl) (by decide) (by rfl) (by rfl)) (by rfl) (by first | exact .inl rfl | exact .inr rfl | assumption)) (@pss_cons _ _ _ _ _ (@ps_set _ _ 6 _ _ _ _ nd rfl (by first | exact Or.inl rfl | exact Or.inr rfl) (@pe_def _ _ _ _ _ _ _ _ _ _ _ g_scaled hr (@pa_cons _ _ _ _ _ (@pe_def _ _ _ _ _ _ _ _ _ _ _ g_minus hr (@pa_cons _ _ _ _ _ (@pv _ 4 _ _ (by rfl) (by first | exact Or.inl rfl | exact Or.inr (Or.inl rfl) | exact Or.inr (Or.inr rfl)) (by decide) (by decide)) (@pa_cons _ _ _ _ _ (@pe_def _ _ _ _ _ _ _ _ _ _ _ g_poly hr (@pa_cons _ _ _ _ _ (@pe_lst _ _ _ _ (@pa_cons _ _ _ _ _ (@pv _ 5 _ _ (by rfl) (by first | exact Or.inl rfl | exact Or.inr (Or.inl rfl) | exact Or.inr (Or.inr rfl)) (by decide) (by decide)) pa_nil (by rfl))) pa_nil (by rfl)) (by first | decide | omega | exact Nat.le_refl _) (by rfl) (by decide) (by rfl) (by rfl)) pa_nil (by rfl)) (by rfl)) (by first | decide | omega | exact Nat.le_refl _) (by rfl) (by decide) (by rfl) (by rfl)) (@pa_cons _ _ _ _ _ (@pe_def _ _ _ _ _ _ _ _ _ _ _ g_divided hr (@pa_cons _ _ _ _ _ (@pe_tup _ _ _ _ _ (@pa_cons _ _ _ _ _ pe_int (@pa_cons _ _ _ _ _ pe_int pa_nil (by rfl)) (by rfl))) (@pa_cons _ _ _ _ _ (@pv _ 2 _ _ (by rfl) (by first | exact Or.inl rfl | exact Or.inr (Or.inl rfl) | exact Or.inr (Or.inr rfl)) (by decide) (by decide)) pa_nil (by rfl)) (by rfl)) (by first | decide | omega | exact Nat.le_refl _) (by rfl) (by decide) (by rfl) (by rfl)) pa_nil (by rfl)) (by rfl)) (by first | decide | omega | exact Nat.le_refl _) (by rfl) (by decide) (by rfl) (by rfl)) (by rfl) (by first | exact .inl rfl | exact .inr rfl | assumption)) (@pss_one _ _ _ (@ps_ret _ _ _ _ (@pe_tup _ _ _ _ _ (@pa_cons _ _ _ _ _ (@pe_def _ _ _ _ _ _ _ _ _ _ _ g_straight hr (@pa_cons _ _ _ _ _ (@pv _ 2 _ _ (by rfl) (by first | exact Or.inl rfl | exact Or.inr (Or.inl rfl) | exact Or.inr (Or.inr rfl)) (by decide) (by decide)) (@pa_cons _ _ _ _ _ (@pv _ 5 _ _ (by rfl) (by first | exact Or.inl rfl | exact Or.inr (Or.inl rfl) | exact Or.inr (Or.inr rfl)) (by decide) (by decide)) pa_nil (by rfl)) (by rfl)) (by first | decide | omega | exact Nat.le_refl _) (by rfl) (by decide) (by rfl) (by rfl)) (@pa_cons _ _ _ _ _ (@pv _ 6 _ _ (by rfl) (by first | exact Or.inl rfl | exact Or.inr (Or.inl rfl) | exact Or.inr (Or.inr rfl)) (by decide) (by decide)) (@pa_cons _ _ _ _ _ (@pe_def _ _ _ _ _ _ _ _ _ _ _ g_straight hr (@pa_cons _ _ _ _ _ (@pe_tup _ _ _ _ _ (@pa_cons _ _ _ _ _ pe_int (@pa_cons _ _ _ _ _ pe_int pa_nil (by rfl)) (by rfl))) (@pa_cons _ _ _ _ _ (@pv _ 3 _ _ (by rfl) (by first | exact Or.inl rfl | exact Or.inr (Or.inl rfl) | exact Or.inr (Or.inr rfl)) (by decide) (by decide)) pa_nil (by rfl)) (by rfl)) (by first | decide | omega | exact Nat.le_refl _) (by rfl) (by decide) (by rfl) (by rfl)) pa_nil (by rfl)) (by rfl)) (by rfl)))))))))), ?_⟩
  have p1 := G1.fm.pos
  have hP : P1 ≠ [] := len3 (B := B1) l3
  have hb9 : b ≤ 4400 := by unfold mb at c2; (first | lia | omega)
  obtain ⟨N, hN⟩ : ∃ N : Nat, P1.length = N + 2 := ⟨P1.length - 2, by first | lia | omega⟩
  have e1 : P1.length - 1 = N + 1 := by first | lia | omega
  have e2 : P1.length - 2 = N := by first | lia | omega
  have eI : (P1.length : Int) - 1 = ((N + 1 : Nat) : Int) := by first | lia | omega
  have qn := Qp.q_lead G1.fm hP
  rw [e1] at za qn
  rw [e2] at za'
  have nQ : ((N + 1 : Nat) : Rat) ≠ 0 := fun z => by
    have := Rat.natCast_eq_zero_iff.mp z
    (first | lia | omega)
  have esh : shiftQ P1 B1 = Qp.q P1 B1 N / (Qp.q P1 B1 (N + 1) * ((N + 1 : Nat) : Rat)) := by
    unfold shiftQ
    rw [e1, e2]
  refine ⟨_, rfl, v, P1, B1, rfl, h1, ?_⟩
  rw [eI]
  refine ⟨_, rfl, v, P1, B1, n, b, rfl, h1, hP, G1, by first | lia | omega, fun x1 H1 s1 hx1 => ⟨_, _, rfl, ?_⟩⟩
  rw [e1] at hx1
  have fa := Fq.by' hx1 za
  have hNi : ((N + 1 : Nat) : Int) - 1 = ((N : Nat) : Int) := by first | lia | omega
  refine ⟨_, rfl, _, rfl, _, _, rfl, rfl, v, P1, B1, N, n, b, by show [v, V.int (((N + 1 : Nat) : Int) - 1)] = _; rw [hNi], h1.same s1, G1, by first | lia | omega, fun x2 H2 s2 hx2 => ?_⟩
  have fb := Fq.by' hx2 za'
  refine ⟨_, rfl, _, rfl, (by show 2 ≤ sizeLine; decide), fun r1 hr1 => ?_⟩
  have s3 := Same.new hr1 (.tup [.int ((N + 1 : Nat) : Int), .int 1])
  have fn1 : Fq K 4 1 (upd H2 r1 (.tup [.int ((N + 1 : Nat) : Int), .int 1])) (.ref r1) (((N + 1 : Nat) : Int) : Rat) := Fq.lay (SqT.of upd_same) (Lt2.of 13 (by first | lia | omega) (by decide))
  refine ⟨x1, _, _, _, a, ab, 4, 1, rfl, fa.same (s2.trans s3), fn1, True.intro, by first | lia | omega, by first | lia | omega, by first | lia | omega, by first | lia | omega, fun x3 H4 s4 hx3 => ?_⟩
  have nz3 : Qp.q P1 B1 (N + 1) * (((N + 1 : Nat) : Int) : Rat) ≠ 0 := fun z => by
    rcases Rat.mul_eq_zero.mp z with w | w
    · exact qn w
    · exact nQ w
  refine ⟨x2, x3, _, _, a, ab, a + 4, ab + 1, rfl, fb.same (s3.trans s4), hx3, nz3, by first | lia | omega, by first | lia | omega, by first | lia | omega, by first | lia | omega, fun x4 H5 s5 hx4 => ?_⟩
  have hsh : Fq K sz sz H5 x4 (shiftQ P1 B1) := by
    refine Fq.by' (n := a + (ab + 1)) (b := ab + (a + 4)) ?_ zs
    rw [esh]
    exact hx4
  have s15 := s1.trans (s2.trans (s3.trans (s4.trans s5)))
  have one : ((1 : Int) : Rat) = 1 := rfl
  have zero : ((0 : Int) : Rat) = 0 := rfl
  refine ⟨_, rfl, (by show 2 ≤ sizeLine; decide), fun r2 hr2 => ?_⟩
  have s6 := Same.new hr2 (.tup [.int 1, .int 1])
  have f11 : Fq K 1 1 (upd H5 r2 (.tup [.int 1, .int 1])) (.ref r2) ((1 : Int) : Rat) := Fq.lay (SqT.of upd_same) (by decide)
  refine ⟨(by show 2 ≤ sizeLine; decide), fun r3 hr3 => ?_⟩
  have s7 := Same.new hr3 (.tup [.int 0, .int 1])
  have f01 : Fq K 1 1 (upd (upd H5 r2 (.tup [.int 1, .int 1])) r3 (.tup [.int 0, .int 1])) (.ref r3) ((0 : Int) : Rat) := Fq.lay (SqT.of upd_same) (by decide)
  refine ⟨_, rfl, _, x4, _, _, 1, 1, sz, sz, rfl, f01, (hsh.same s6).same s7, True.intro, by first | lia | omega, by first | lia | omega, by first | lia | omega, by first | lia | omega, fun x5 H8 s8 hx5 => ?_⟩
  have hneg : Fq K sz sz H8 x5 (-shiftQ P1 B1) := by
    obtain ⟨T, U, u1, u2, u3, u4⟩ := zs
    have z : Fq K (1 + sz + (sz + 1) + 1) (1 + sz) H8 x5 (((0 : Int) : Rat) - shiftQ P1 B1) := hx5
    have e : ((0 : Int) : Rat) - shiftQ P1 B1 = -shiftQ P1 B1 := by rw [zero]; grind
    rw [e] at z
    refine Fq.sharp (T := -T) z u1 ?_ u3.neg u4
    rw [u2, Rat.intCast_neg]
    have := Qp.ne_of_ne u1
    grind
  refine ⟨_, x5, _, _, 1, 1, sz, sz, rfl, f11.same (s7.trans s8), hneg, by first | lia | omega, by first | lia | omega, by first | lia | omega, fun x6 G U H9 s9 hx6 zG eG lG qG0 qG1 => ?_⟩
  rw [one] at eG qG1
  have qG1n : Qp.q G U 1 ≠ 0 := by rw [qG1]; decide
  obtain ⟨lenG, nG1⟩ := st_len qG1n lG
  have s59 := s6.trans (s7.trans (s8.trans s9))
  have pm : P1.length * G.length ≤ 13 * 2 := Nat.mul_le_mul l13 lG
  have cG : (1 + sz) * P1.length + P1.length = (sz + 2) * P1.length := by rw [← Nat.succ_mul]; congr 1; (first | lia | omega)
  have cG2 : (1 + sz + 1 + sz + (1 + sz) + 10) * (P1.length + 1) ≤ (900 * 3 + 13) * 14 := Nat.mul_le_mul (by first | lia | omega) (by first | lia | omega)
  have hc1 : b + (1 + sz) * P1.length ≤ 8900 := by unfold mb at c2; (first | lia | omega)
  have hc2 : n + (1 + sz + 1 + sz + (1 + sz) + 10) * (P1.length + 1) ≤ 500000 := by unfold mo at c3; (first | lia | omega)
  refine ⟨v, x6, P1, G, B1, U, n, b, 1 + sz + 1 + sz, 1 + sz, rfl, h1.same (s15.trans s59), hx6, G1, zG, hc1, hc2, by first | lia | omega, by first | lia | omega, by first | lia | omega, fun x7 M C H10 s10 hx7 oM => ?_⟩
  have hC := oM.1.pos
  have pU := zG.fm.pos
  obtain ⟨lM, qMn⟩ := Qp.of_st G1.fm zG.fm lenG hP nG1 oM
  have qMn1 := Qp.of_st2 G1.fm zG.fm lenG (by first | lia | omega) oM
  have eM := Qp.E_of p1 pU oM
  have zM0 := oM.size G1 zG (by first | lia | omega)
  have cG3 : (1 + sz + 1 + sz + (1 + sz) + 10) * P1.length ≤ (sz + sz + sz + 14) * P1.length := Nat.mul_le_mul_right _ (by first | lia | omega)
  have zM : Pc.Pz (mo n sz P1.length) (mb b sz P1.length) M C := zM0.mono (by unfold mo; (first | lia | omega)) (by unfold mb; (first | lia | omega))
  generalize hmo : mo n sz P1.length = mO at *
  generalize hmb : mb b sz P1.length = mB at *
  have lM13 : M.length ≤ 13 := by first | lia | omega
  have elow : Qp.q M C 0 = Qp.E P1 B1 (-shiftQ P1 B1) := by
    rw [← Qp.q_zero, eM 0, eG 0]
    congr 1
    grind
  refine ⟨_, rfl, x7, M, C, 0, mO, mB, rfl, hx7, zM, by first | lia | omega, fun x8 H11 s11 hx8 => ?_⟩
  rw [elow] at hx8
  have flow := Fq.by' hx8 zl
  generalize hlow : Qp.E P1 B1 (-shiftQ P1 B1) = low at *
  obtain ⟨p8, tl, ul, e8, k8, ul0, gl8, ll1, ll2, elw⟩ := id flow
  subst e8
  refine ⟨_, rfl, _, rfl, (by show 1 ≤ sizeLine; decide), fun r4 hr4 => ?_⟩
  have s12 := Same.new hr4 (.lst [.ref p8])
  refine ⟨r4, "list", _, [(tl, ul)], lb, l, rfl, .inr ⟨rfl, SqL.of upd_same⟩, ⟨rfl, fun i x hx => ?_⟩, fun f hf => ?_, (by show 1 ≤ 100; decide), (by show lb * 1 ≤ 8000; (first | lia | omega)), by first | lia | omega, by first | lia | omega, fun x9 D dB H13 s13 hx9 fD _ wD lD => ?_⟩
  · match i, hx with
    | 0, hx => cases hx; exact ⟨_, rfl, p8, rfl, k8.same s12⟩
  · rw [List.mem_singleton.mp hf]
    exact ⟨ul0, ll1, ll2⟩
  have wD' : ∀ k, D.getD k 0 * ul = [tl].getD k 0 * dB := fun k => by
    have e := wD k
    cases k with
    | zero => exact e
    | succ k =>
      have e' : D.getD (k + 1) 0 * 1 = 0 * dB := e
      rw [getD_out (fs := [tl]) (by simp), Int.zero_mul]
      rw [Int.mul_one, Int.zero_mul] at e'
      rw [e', Int.zero_mul]
  have zD : Pc.Pz l lb D dB := Pc.Pz.of fD ul0 wD' (fun k => by
    cases k with
    | zero => exact ll1
    | succ k => rw [getD_out (fs := [tl]) (by simp)]; exact Nat.pow_pos (by decide)) ll2
  have qD : ∀ k, Qp.q D dB k = if k = 0 then low else 0 := fun k => by
    rw [Qp.q_of (f := fun k => [tl].getD k 0) fD.pos (by first | lia | omega) wD' k]
    cases k with
    | zero => rw [if_pos rfl, elw]; rfl
    | succ k =>
      rw [if_neg (by first | lia | omega), getD_out (fs := [tl]) (by simp)]
      show ((0 : Int) : Rat) / _ = 0
      rw [zero]
      grind
  have eD : ∀ x, Qp.E D dB x = low := fun x => by rw [Qp.E_const fD ul0 wD' x, elw]
  have lD' : D.length ≤ 1 := lD
  have s1013 := s11.trans (s12.trans s13)
  refine ⟨x7, x9, M, D, C, dB, mO, mB, l, lb, rfl, hx7.same s1013, hx9, zM, zD, by first | lia | omega, by first | lia | omega, by first | lia | omega, by first | lia | omega, fun x10 R RB H14 s14 hx10 zR qR eR lR => ?_⟩
  have nC := Qp.ne_of_pos hC
  have zR' : Pc.Pz mO mB R RB := pz_q (f := fun k => if k = 0 then 0 else M.getD k 0) zR.fm (Int.ne_of_gt hC) (fun k => by
    rw [qR k, qD k]
    cases k with
    | zero =>
      rw [if_pos rfl, elow]
      show low - low = ((0 : Int) : Rat) / _
      rw [zero]
      grind
    | succ k =>
      rw [if_neg (by first | lia | omega)]
      show Qp.q M C (k + 1) - 0 = ((M.getD (k + 1) 0 : Int) : Rat) / _
      unfold Qp.q
      grind) (fun k => by
    by_cases c : k = 0
    · rw [if_pos c]; exact Nat.pow_pos (by decide)
    · rw [if_neg c]; exact zM.tops k) zM.bot
  refine ⟨(by show 2 ≤ sizeLine; decide), fun r5 hr5 => ?_⟩
  have s15' := Same.new hr5 (.tup [.int 1, .int 1])
  have f11' : Fq K 1 1 (upd H14 r5 (.tup [.int 1, .int 1])) (.ref r5) ((1 : Int) : Rat) := Fq.lay (SqT.of upd_same) (by decide)
  have s215 := s2.trans (s3.trans (s4.trans (s5.trans (s59.trans (s10.trans (s1013.trans (s14.trans s15')))))))
  refine ⟨_, rfl, _, x1, _, _, 1, 1, a, ab, rfl, f11', fa.same s215, qn, by first | lia | omega, by first | lia | omega, by first | lia | omega, by first | lia | omega, fun x11 H16 s16 hx11 => ?_⟩
  refine ⟨x10, x11, R, RB, _, mO, mB, 1 + ab, 1 + a, rfl, hx10.same (s15'.trans s16), hx11, zR', by first | lia | omega, by first | lia | omega, by first | lia | omega, fun x12 P2 B2 H17 s17 hx12 z2 q2 e2' l2 => ?_⟩
  have s217 := s215.trans (s16.trans s17)
  have s1117 := s12.trans (s13.trans (s14.trans (s15'.trans (s16.trans s17))))
  refine ⟨_, rfl, _, rfl, x1, _, _, _, a, ab, l, lb, rfl, fa.same s217, flow.same s1117, by first | lia | omega, by first | lia | omega, by first | lia | omega, fun x13 P3 B3 H18 s18 hx13 z3 e3 l3' q30 q31 => ?_⟩
  refine ⟨_, rfl, (by show 2 ≤ sizeLine; decide), fun r6 hr6 => ?_⟩
  have s19 := Same.new hr6 (.tup [.int 1, .int 1])
  have f11'' : Fq K 1 1 (upd H18 r6 (.tup [.int 1, .int 1])) (.ref r6) ((1 : Int) : Rat) := Fq.lay (SqT.of upd_same) (by decide)
  have s519 := s59.trans (s10.trans (s1013.trans (s14.trans (s15'.trans (s16.trans (s17.trans (s18.trans s19)))))))
  refine ⟨_, rfl, _, x4, _, _, 1, 1, sz, sz, rfl, f11'', hsh.same s519, by first | lia | omega, by first | lia | omega, by first | lia | omega, fun x14 P4 B4 H20 s20 hx14 z4 e4 l4 q40 q41 => ?_⟩
  rw [one] at q41
  refine ⟨(by show 3 ≤ sizeLine; decide), fun r7 hr7 => ?_⟩
  have s21 := Same.new hr7 (.tup [x13, x12, x14])
  have hall : Same H _ := s15.trans (s519.trans (s20.trans s21))
  have l31 := st_len (P := P3) (B := B3) (by rw [q31]; exact qn) l3'
  have l41 := st_len (P := P4) (B := B4) (by rw [q41]; decide) l4
  have onep : ∀ k : Nat, (1 : Rat) ^ k = 1 := fun k => by
    induction k with
    | zero => rfl
    | succ k ih => rw [Rat.pow_succ, ih, Rat.mul_one]
  rw [e1, qG1, onep] at qMn
  rw [e1, e2, qG1, onep, qG0] at qMn1
  have q2n : Qp.q P2 B2 (N + 1) = 1 := by
    rw [q2, qR, qD, if_neg (by first | lia | omega), qMn, one]
    grind
  have q2m : Qp.q P2 B2 N = 0 := by
    rw [q2, qR, qD, if_neg (by first | lia | omega), qMn1, esh]
    grind
  have q20 : Qp.q P2 B2 0 = 0 := by
    rw [q2, qR, qD, if_pos rfl, elow]
    grind
  have len2 : P2.length = P1.length := by
    have : N + 1 < P2.length := by
      rcases Nat.lt_or_ge (N + 1) P2.length with z | z
      · exact z
      · rw [Qp.q_out z] at q2n
        exact absurd q2n (by decide)
    (first | lia | omega)
  refine q _ P3 B3 P2 B2 P4 B4 _ hall ⟨r7, x13, x12, x14, rfl, upd_same, hx13.same (s19.trans (s20.trans s21)), hx12.same (s18.trans (s19.trans (s20.trans s21))), hx14.same s21⟩ ⟨z3.fm, z2.fm, z4.fm, ?_, fun x => ?_, fun x => ?_⟩ l31.1 len2 l41.1 z3 z2 (z4.mono (by first | lia | omega) (by first | lia | omega)) ?_ ?_ q20 ?_ q41
  · rw [e1]
    exact e3
  · rw [e2', eR, eM, eD, eG, one, e1]
    congr 3
    grind
  · rw [e4 x, one]
  · rw [e1]
    exact q2n
  · rw [e2]
    exact q2m
  · rw [e1]
    exact q31
/-! ### turned back, by worth -/
def spTBackQ (K : PySem.W.Frag) : Sp := fun vs H Q _ => ∃ (v : V) (P : List Int) (B : Int) (n b : Nat), vs = [v] ∧ Pol H v P B ∧ Pc.Pz n b P B ∧ n ≤ 600 ∧ b ≤ 300 ∧ Qp.q P B 1 ≠ 0 ∧
  ∀ v' R C H', Same H H' → Pol H' v' R C → Pc.Pz (n + n + n + b + b + b + b + 30) (n + n + b + b + 10) R C → (∀ x, Qp.E R C x = 1 / Qp.q P B 1 * x + (0 - Qp.q P B 0) / Qp.q P B 1) → R.length = 2 → R.getD 1 0 ≠ 0 → Q v' H'
theorem sc_turned_back : FnScope ["l", "a", "b"] ["l"] (defScope s_turned_back) := ⟨rfl, rfl, rfl, by decide +kernel, rfl, by decide +kernel, by decide +kernel⟩
theorem ok_turned_back {f0 : Addr} {fd : FuncData} (F : Fun K "turned_back" "turned_back" s_turned_back f0 fd) (B : Bl mg) (g_fraction_at : Def P w K mg base "fraction_at" 3 ["p", "k"] (spFAtQ K)) (g_straight : Def P w K mg base "straight" 4 ["a", "b"] (spStraightQ K))
    (g_taken : Def P w K mg base "taken" 3 ["one", "other"] (spTakenQ K)) (g_divided : Def P w K mg base "divided" 3 ["one", "other"] (spDividedQ K)) : FnOk P w K mg base CX0 5 f0 fd ["l"] (spTBackQ K) := by
  refine F.ok sc_turned_back (fun vs H Q E h => ?_) (fun cdv A outer s H vs Q E hr h => ?_)
  · obtain ⟨v, P1, B1, n, b, rfl, _⟩ := h
    rfl
  obtain ⟨v, P1, B1, n, b, rfl, h1, G1, hn, hb, h1n, q⟩ := h
  have nd := sc_turned_back.nd
  refine ⟨_, (@pss_cons _ _ _ _ _ (@ps_par _ _ 1 2 _ _ _ _ _ _ _ _ _ _ _ rfl nd rfl rfl (by decide) rfl rfl (@pa_cons _ _ _ _ _ (@pe_def _ _ _ _ _ _ _ _ _ _ _ g_fraction_at hr (@pa_cons _ _ _ _ _ (@pv _ 0 _ _ (by rfl) (by first | exact Or.inl rfl | exact Or.inr (Or.inl rfl) | exact Or.inr (Or.inr rfl)) (by decide) (by decide)) (@pa_cons _ _ _ _ _ pe_int pa_nil (by rfl)) (by rfl)) (by first | decide | omega | exact Nat.le_refl _) (by rfl) (by decide) (by rfl) (by rfl)) (@pa_cons _ _ _ _ _ (@pe_def _ _ _ _ _ _ _ _ _ _ _ g_fraction_at hr (@pa_cons _ _ _ _ _ (@pv _ 0 _ _ (by rfl) (by first | exact Or.inl rfl | exact Or.inr (Or.inl rfl) | exact Or.inr (Or.inr rfl)) (by decide) (by decide)) (@pa_cons _ _ _ _ _ pe_int pa_nil (by rfl)) (by rfl)) (by first | decide | omega | exact Nat.le_refl _) (by rfl) (by decide) (by rfl) (by rfl)) pa_nil (by rfl)) (by rfl)) rfl (by rfl)) (@pss_one _ _ _ (@ps_ret _ _ _ _ (@pe_def _ _ _ _ _ _ _ _ _ _ _ g_straight hr (@pa_cons _ _ _ _ _ (@pe_def _ _ _ _ _ _ _ _ _ _ _ g_divided hr (@pa_cons _ _ _ _ _ (@pe_tup _ _ _ _ _ (@pa_cons _ _ _ _ _ pe_int (@pa_cons _ _ _ _ _ pe_int pa_nil (by rfl)) (by rfl))) (@pa_cons _ _ _ _ _ (@pv _ 1 _ _ (by rfl) (by first | exact Or.inl rfl | exact Or.inr (Or.inl rfl) | exact Or.inr (Or.inr rfl)) (by decide) (by decide)) pa_nil (by rfl)) (by rfl)) (by first | decide | omega | exact Nat.le_refl _) (by rfl) (by decide) (by rfl) (by rfl)) (@pa_cons _ _ _ _ _ (@pe_def _ _ _ _ _ _ _ _ _ _ _ g_divided hr (@pa_cons _ _ _ _ _ (@pe_def _ _ _ _ _ _ _ _ _ _ _ g_taken hr (@pa_cons _ _ _ _ _ (@pe_tup _ _ _ _ _ (@pa_cons _ _ _ _ _ pe_int (@pa_cons _ _ _ _ _ pe_int pa_nil (by rfl)) (by rfl))) (@pa_cons _ _ _ _ _ (@pv _ 2 _ _ (by rfl) (by first | exact Or.inl rfl | exact Or.inr (Or.inl rfl) | exact Or.inr (Or.inr rfl)) (by decide) (by decide)) pa_nil (by rfl)) (by rfl)) (by first | decide | omega | exact Nat.le_refl _) (by rfl) (by decide) (by rfl) (by rfl)) (@pa_cons _ _ _ _ _ (@pv _ 1 _ _ (by rfl) (by first | exact Or.inl rfl | exact Or.inr (Or.inl rfl) | exact Or.inr (Or.inr rfl)) (by decide) (by decide)) pa_nil (by rfl)) (by rfl)) (by first | decide | omega | exact Nat.le_refl _) (by rfl) (by decide) (by rfl) (by rfl)) pa_nil (by rfl)) (by rfl)) (by first | decide | omega | exact Nat.le_refl _) (by rfl) (by decide) (by rfl) (by rfl))))), ?_⟩
  have one : ((1 : Int) : Rat) = 1 := rfl
  have zero : ((0 : Int) : Rat) = 0 := rfl
  refine ⟨_, rfl, v, P1, B1, 1, n, b, rfl, h1, G1, by first | lia | omega, fun a H1 s1 ha => ?_⟩
  refine ⟨_, rfl, v, P1, B1, 0, n, b, rfl, h1.same s1, G1, by first | lia | omega, fun c H2 s2 hc => ⟨_, _, rfl, ?_⟩⟩
  refine ⟨(by show 2 ≤ sizeLine; decide), fun r1 hr1 => ?_⟩
  have s3 := Same.new hr1 (.tup [.int 1, .int 1])
  have f11 : Fq K 1 1 (upd H2 r1 (.tup [.int 1, .int 1])) (.ref r1) ((1 : Int) : Rat) := Fq.lay (SqT.of upd_same) (by decide)
  refine ⟨_, rfl, _, a, _, _, 1, 1, n, b, rfl, f11, ha.same (s2.trans s3), h1n, by first | lia | omega, by first | lia | omega, by first | lia | omega, by first | lia | omega, fun u H4 s4 hu0 => ?_⟩
  have hu : Fq K (1 + b) (1 + n) H4 u (((1 : Int) : Rat) / Qp.q P1 B1 1) := hu0
  refine ⟨(by show 2 ≤ sizeLine; decide), fun r2 hr2 => ?_⟩
  have s5 := Same.new hr2 (.tup [.int 0, .int 1])
  have f01 : Fq K 1 1 (upd H4 r2 (.tup [.int 0, .int 1])) (.ref r2) ((0 : Int) : Rat) := Fq.lay (SqT.of upd_same) (by decide)
  have s35 := s3.trans (s4.trans s5)
  refine ⟨_, rfl, _, c, _, _, 1, 1, n, b, rfl, f01, hc.same s35, True.intro, by first | lia | omega, by first | lia | omega, by first | lia | omega, by first | lia | omega, fun d H6 s6 hd0 => ?_⟩
  have hd : Fq K (1 + b + (n + 1) + 1) (1 + b) H6 d (((0 : Int) : Rat) - Qp.q P1 B1 0) := hd0
  refine ⟨_, rfl, d, a, _, _, 1 + b + (n + 1) + 1, 1 + b, n, b, rfl, hd, ha.same (s2.trans (s35.trans s6)), h1n, by first | lia | omega, by first | lia | omega, by first | lia | omega, by first | lia | omega, fun e H7 s7 he0 => ?_⟩
  have he : Fq K (1 + b + (n + 1) + 1 + b) (1 + b + n) H7 e ((((0 : Int) : Rat) - Qp.q P1 B1 0) / Qp.q P1 B1 1) := he0
  refine ⟨u, e, _, _, 1 + b, 1 + n, 1 + b + (n + 1) + 1 + b, 1 + b + n, rfl, hu.same (s5.trans (s6.trans s7)), he, by first | lia | omega, by first | lia | omega, by first | lia | omega, fun v' R C H8 s8 hv z1 e1 l1 q0 q1 => ?_⟩
  have q1n : Qp.q R C 1 ≠ 0 := by
    rw [q1, one]
    intro z
    grind
  obtain ⟨len, n1⟩ := st_len q1n l1
  refine q v' R C H8 ((s1.trans s2).trans (s35.trans (s6.trans (s7.trans s8)))) hv (z1.mono (by first | lia | omega) (by first | lia | omega)) (fun x => ?_) len n1
  rw [e1 x]
  rfl
def spLCommon : Sp := fun vs H Q _ => ∃ a b : Int, vs = [.int a, .int b] ∧ Q (.int (Fr.cp a b)) H
theorem sc_law_common : FnScope ["_law_a", "_law_b"] ["_law_a", "_law_b"] (defScope s_law_common) := ⟨rfl, rfl, rfl, by decide +kernel, rfl, by decide +kernel, by decide +kernel⟩
theorem ok_law_common {f0 : Addr} {fd : FuncData} (F : Fun K "_law_common" "_law_common" s_law_common f0 fd) (B : Bl mg) : FnOk P w K mg base CX0 1 f0 fd ["_law_a", "_law_b"] spLCommon := by
  refine F.ok sc_law_common (fun vs H Q E h => ?_) (fun cdv A outer s H vs Q E hr h => ?_)
  · obtain ⟨a, ns, rfl, _⟩ := h
    rfl
  obtain ⟨a, b, rfl, q⟩ := h
  have nd := sc_law_common.nd
  refine ⟨_, (@pss_cut _ _ _ _ _ (@ps_while _ _ _ _ _ _ PassesOwn.never (@pt_cmpR _ _ _ _ _ _ _ _ op_ne (@pv _ 1 _ _ (by rfl) (by first | exact Or.inl rfl | exact Or.inr (Or.inl rfl) | exact Or.inr (Or.inr rfl)) (by decide) (by decide)) pe_int (nomark _)) (@pss_one _ _ _ (@ps_par _ _ 0 1 _ _ _ _ _ _ _ _ _ _ _ rfl nd rfl rfl (by decide) rfl rfl (@pa_cons _ _ _ _ _ (@pv _ 1 _ _ (by rfl) (by first | exact Or.inl rfl | exact Or.inr (Or.inl rfl) | exact Or.inr (Or.inr rfl)) (by decide) (by decide)) (@pa_cons _ _ _ _ _ (@pe_op _ _ _ _ _ _ _ _ op_modN (@pv _ 0 _ _ (by rfl) (by first | exact Or.inl rfl | exact Or.inr (Or.inl rfl) | exact Or.inr (Or.inr rfl)) (by decide) (by decide)) (@pv _ 1 _ _ (by rfl) (by first | exact Or.inl rfl | exact Or.inr (Or.inl rfl) | exact Or.inr (Or.inr rfl)) (by decide) (by decide))) pa_nil (by rfl)) (by rfl)) rfl (by rfl)))) (@pss_one _ _ _ (@ps_ret _ _ _ _ (@pe_callB _ _ _ _ _ _ _ _ _ call_abs rfl B.abs bt_abs (@pa_cons _ _ _ _ _ (@pv _ 0 _ _ (by rfl) (by first | exact Or.inl rfl | exact Or.inr (Or.inl rfl) | exact Or.inr (Or.inr rfl)) (by decide) (by decide)) pa_nil (by rfl)) (by decide) (by decide) (by rfl) (by rfl))))), ?_⟩
  refine ⟨fun σ H' => H' = H ∧ ∃ (x : Int) (o : Option V), σ = [some (.int x), o] ∧ (x.natAbs : Int) = Fr.cp a b, ?_, ?_⟩
  · refine while_by (fun σ H' => H' = H ∧ ∃ x y : Int, σ = [some (.int x), some (.int y)] ∧ Int.gcd x y = Int.gcd a b) (fun σ _ => match σ with | [_, some (.int y)] => y.natAbs | _ => 0) ⟨rfl, a, b, rfl, rfl⟩ ?_ ?_
    · rintro _ _ ⟨rfl, x, y, rfl, hg⟩
      refine ⟨_, rfl, rfl, _, rfl, ?_⟩
      by_cases c : y = 0
      · refine iteNS (by rw [c]) ?_
        subst c
        refine ⟨rfl, x, _, rfl, ?_⟩
        rw [Int.gcd_zero_right] at hg
        unfold Fr.cp
        rw [hg]
      · rw [decide_eq_false (show ¬ V.int y = V.int 0 from fun z => c (by injection z))]
        refine iteT ?_
        refine ⟨_, rfl, _, rfl, _, rfl, _, _, rfl, rfl, c, _, _, rfl, ?_⟩
        exact ⟨⟨rfl, y, _, rfl, (Fr.gcd_step x y).trans hg⟩, Fr.fmod_lt x y c⟩
    · rintro σ H Q Q' h ⟨v, e, sc, k, tk, q⟩
      exact ⟨v, e, sc, k, tk, h _ _ q⟩
  · rintro _ _ ⟨rfl, x, o, rfl, hx⟩
    refine ⟨_, rfl, _, rfl, ?_⟩
    rw [abs_is, hx]
    exact q
theorem sc_law_fraction : FnScope ["_law_top", "_law_bottom", "_law_part"] ["_law_top", "_law_bottom"] (defScope s_law_fraction) := ⟨rfl, rfl, rfl, by decide +kernel, rfl, by decide +kernel, by decide +kernel⟩
theorem ok_law_fraction {f0 : Addr} {fd : FuncData} (F : Fun K "_law_fraction" "_law_fraction" s_law_fraction f0 fd) (B : Bl mg) (g_law_common : Def P w K mg base "_law_common" 1 ["_law_a", "_law_b"] spLCommon) : FnOk P w K mg base CX0 2 f0 fd ["_law_top", "_law_bottom"] spFrac := by
  refine F.ok sc_law_fraction (fun vs H Q E h => ?_) (fun cdv A outer s H vs Q E hr h => ?_)
  · obtain ⟨a, ns, rfl, _⟩ := h
    rfl
  obtain ⟨t, b, rfl, hb, ⟨n, hn, hl⟩, q⟩ := h
  have nd := sc_law_fraction.nd
  refine ⟨_, (@pss_cons _ _ _ _ _ (@ps_set _ _ 2 _ _ _ _ nd rfl (by first | exact Or.inl rfl | exact Or.inr rfl) (@pe_def _ _ _ _ _ _ _ _ _ _ _ g_law_common hr (@pa_cons _ _ _ _ _ (@pv _ 0 _ _ (by rfl) (by first | exact Or.inl rfl | exact Or.inr (Or.inl rfl) | exact Or.inr (Or.inr rfl)) (by decide) (by decide)) (@pa_cons _ _ _ _ _ (@pv _ 1 _ _ (by rfl) (by first | exact Or.inl rfl | exact Or.inr (Or.inl rfl) | exact Or.inr (Or.inr rfl)) (by decide) (by decide)) pa_nil (by rfl)) (by rfl)) (by first | decide | omega | exact Nat.le_refl _) (by rfl) (by decide) (by rfl) (by rfl)) (by rfl) (by first | exact .inl rfl | exact .inr rfl | assumption)) (@pss_cut _ _ _ _ _ (@ps_if _ _ _ _ _ _ _ _ (@pt_cmpR _ _ _ _ _ _ _ _ op_lt (@pv _ 1 _ _ (by rfl) (by first | exact Or.inl rfl | exact Or.inr (Or.inl rfl) | exact Or.inr (Or.inr rfl)) (by decide) (by decide)) pe_int (nomark _)) (@pss_one _ _ _ (@ps_set _ _ 2 _ _ _ _ nd rfl (by first | exact Or.inl rfl | exact Or.inr rfl) (@pe_op _ _ _ _ _ _ _ _ op_sub pe_int (@pv _ 2 _ _ (by rfl) (by first | exact Or.inl rfl | exact Or.inr (Or.inl rfl) | exact Or.inr (Or.inr rfl)) (by decide) (by decide))) (by rfl) (by first | exact .inl rfl | exact .inr rfl | assumption))) pss_nil) (@pss_one _ _ _ (@ps_ret _ _ _ _ (@pe_tup _ _ _ _ _ (@pa_cons _ _ _ _ _ (@pe_op _ _ _ _ _ _ _ _ op_fdivB (@pv _ 0 _ _ (by rfl) (by first | exact Or.inl rfl | exact Or.inr (Or.inl rfl) | exact Or.inr (Or.inr rfl)) (by decide) (by decide)) (@pv _ 2 _ _ (by rfl) (by first | exact Or.inl rfl | exact Or.inr (Or.inl rfl) | exact Or.inr (Or.inr rfl)) (by decide) (by decide))) (@pa_cons _ _ _ _ _ (@pe_op _ _ _ _ _ _ _ _ op_fdivB (@pv _ 1 _ _ (by rfl) (by first | exact Or.inl rfl | exact Or.inr (Or.inl rfl) | exact Or.inr (Or.inr rfl)) (by decide) (by decide)) (@pv _ 2 _ _ (by rfl) (by first | exact Or.inl rfl | exact Or.inr (Or.inl rfl) | exact Or.inr (Or.inr rfl)) (by decide) (by decide))) pa_nil (by rfl)) (by rfl))))))), ?_⟩
  refine ⟨_, rfl, _, rfl, _, _, rfl, ?_⟩
  refine ⟨fun σ H' => H' = H ∧ σ = [some (.int t), some (.int b), some (.int (Fr.part t b))], ?_, ?_⟩
  · refine ⟨_, rfl, _, _, rfl, rfl, _, rfl, ?_⟩
    refine ite2 (fun c => ?_) (fun c => ?_)
    · have c' : b < 0 := of_decide_eq_true c
      refine ⟨_, rfl, _, _, rfl, rfl, ?_⟩
      refine ⟨rfl, ?_⟩
      unfold Fr.part
      rw [if_pos c', ← Int.zero_sub]
      rfl
    · have c' : ¬ b < 0 := of_decide_eq_false (Bool.eq_false_iff.mpr c)
      refine ⟨rfl, ?_⟩
      unfold Fr.part
      rw [if_neg c']
      rfl
  · rintro _ _ ⟨rfl, rfl⟩
    have pn := Fr.part_ne (t := t) hb
    have pl := hl.le (Fr.part_le (t := t) hb)
    refine ⟨_, rfl, _, rfl, _, _, rfl, rfl, ⟨pn, n, pl, hn⟩, _, rfl, _, rfl, _, _, rfl, rfl, ⟨pn, n, pl, hn⟩, (by show 2 ≤ sizeLine; decide), fun p hp => ?_⟩
    exact q p _ (Same.new hp _) upd_same
/-! ### the law's own one form -/
def spLPoly (K : PySem.W.Frag) : Sp := fun vs H Q _ => ∃ (a : Addr) (tt : String) (ts : List Int) (b : Int), vs = [.ref a, .int b] ∧ SqX K tt H a (ts.map V.int) ∧ 0 < b ∧ (∃ n, n ≤ 9000 ∧ Lt2 n b) ∧ ts.length ≤ 1000 ∧
  ∀ v P B H', Same H H' → Pol H' v P B → Po.Fm P B → (∀ k, P.getD k 0 * b = ts.getD k 0 * B) → P.length ≤ ts.length → Q v H'
theorem sc_law_poly : FnScope ["_law_tops", "_law_bottom", "_law_part", "_law_top"] ["_law_tops", "_law_bottom"] (defScope s_law_poly) := ⟨rfl, rfl, rfl, by decide +kernel, rfl, by decide +kernel, by decide +kernel⟩
theorem ok_law_poly {f0 : Addr} {fd : FuncData} (F : Fun K "_law_poly" "_law_poly" s_law_poly f0 fd) (B : Bl mg) (g_law_common : Def P w K mg base "_law_common" 1 ["_law_a", "_law_b"] spLCommon) : FnOk P w K mg base CX0 2 f0 fd ["_law_tops", "_law_bottom"] (spLPoly K) := by
  refine F.ok sc_law_poly (fun vs H Q E h => ?_) (fun cdv A outer s H vs Q E hr h => ?_)
  · obtain ⟨a, tt, ts, b, rfl, _⟩ := h
    rfl
  obtain ⟨a, tt, ts, b, rfl, hS, hb, ⟨n, hn, hl⟩, hz, q⟩ := h
  have nd := sc_law_poly.nd
  refine ⟨_, (@pss_cons _ _ _ _ _ (@ps_set _ _ 0 _ _ _ _ nd rfl (by first | exact Or.inl rfl | exact Or.inr rfl) (@pe_callTy _ _ _ _ _ _ _ _ _ (listOf K) rfl B.list bt_list (@pa_cons _ _ _ _ _ (@pv _ 0 _ _ (by rfl) (by first | exact Or.inl rfl | exact Or.inr (Or.inl rfl) | exact Or.inr (Or.inr rfl)) (by decide) (by decide)) pa_nil (by rfl)) (by decide) (by decide) (by rfl) (by rfl)) (by rfl) (by first | exact .inl rfl | exact .inr rfl | assumption)) (@pss_cut _ _ _ _ _ (@ps_while _ _ _ _ _ _ PassesOwn.never (@PW.pt _ _ _ (@pw_and _ _ _ _ _ _ _ (@pt_cmpR _ _ _ _ _ _ _ _ op_gt (@pe_callB _ _ _ _ _ _ _ _ _ (lenS K) rfl B.len bt_len (@pa_cons _ _ _ _ _ (@pv _ 0 _ _ (by rfl) (by first | exact Or.inl rfl | exact Or.inr (Or.inl rfl) | exact Or.inr (Or.inr rfl)) (by decide) (by decide)) pa_nil (by rfl)) (by decide) (by decide) (by rfl) (by rfl)) pe_int (nomark _)) (@pw_and1 _ _ _ _ (@pt_cmpR _ _ _ _ _ _ _ _ op_eq (@pe_ix _ _ _ _ _ _ _ (ixL K) (@pv _ 0 _ _ (by rfl) (by first | exact Or.inl rfl | exact Or.inr (Or.inl rfl) | exact Or.inr (Or.inr rfl)) (by decide) (by decide)) (@pe_un _ _ _ _ _ _ un_neg pe_int) (fun _ _ => rfl)) pe_int (nomark _))))) (@pss_one _ _ _ (@ps_expr _ _ _ _ (@pe_bm0 _ _ _ _ _ _ _ _ _ PySem.F.plainAttrs_list PySem.F.slot_list_pop PySem.F.type_list_pop mt_pop (@pv _ 0 _ _ (by rfl) (by first | exact Or.inl rfl | exact Or.inr (Or.inl rfl) | exact Or.inr (Or.inr rfl)) (by decide) (by decide)) (by rfl) (by rfl)) (by rfl)))) (@pss_cons _ _ _ _ _ (@ps_set _ _ 2 _ _ _ _ nd rfl (by first | exact Or.inl rfl | exact Or.inr rfl) (@pv _ 1 _ _ (by rfl) (by first | exact Or.inl rfl | exact Or.inr (Or.inl rfl) | exact Or.inr (Or.inr rfl)) (by decide) (by decide)) (by rfl) (by first | exact .inl rfl | exact .inr rfl | assumption)) (@pss_cut _ _ _ _ _ (@ps_for _ _ _ _ _ _ _ _ PassesOwn.never rfl (@piL _ K _ _ _ (@pv _ 0 _ _ (by rfl) (by first | exact Or.inl rfl | exact Or.inr (Or.inl rfl) | exact Or.inr (Or.inr rfl)) (by decide) (by decide)) (by rfl)) (@pg_name _ _ 3 _ nd rfl (by first | exact Or.inl rfl | exact Or.inr rfl) (by first | exact .inl rfl | exact .inr rfl | assumption)) (@pss_one _ _ _ (@ps_set _ _ 2 _ _ _ _ nd rfl (by first | exact Or.inl rfl | exact Or.inr rfl) (@pe_def _ _ _ _ _ _ _ _ _ _ _ g_law_common hr (@pa_cons _ _ _ _ _ (@pv _ 2 _ _ (by rfl) (by first | exact Or.inl rfl | exact Or.inr (Or.inl rfl) | exact Or.inr (Or.inr rfl)) (by decide) (by decide)) (@pa_cons _ _ _ _ _ (@pv _ 3 _ _ (by rfl) (by first | exact Or.inl rfl | exact Or.inr (Or.inl rfl) | exact Or.inr (Or.inr rfl)) (by decide) (by decide)) pa_nil (by rfl)) (by rfl)) (by first | decide | omega | exact Nat.le_refl _) (by rfl) (by decide) (by rfl) (by rfl)) (by rfl) (by first | exact .inl rfl | exact .inr rfl | assumption))) (by intro _; rfl)) (@pss_one _ _ _ (@ps_ret _ _ _ _ (@pe_tup _ _ _ _ _ (@pa_cons _ _ _ _ _ (@pe_callTy _ _ _ _ _ _ _ _ _ (tupleOf K) rfl B.tuple bt_tuple (@pa_cons _ _ _ _ _ (@pe_comp _ _ _ _ _ _ _ _ _ _ _ _ rfl (show CompS ["_law_tops", "_law_bottom", "_law_part", "_law_top"] (defScope s_law_poly) _ [3] from by exact ⟨rfl, by decide +kernel, by decide +kernel, by decide +kernel, by decide +kernel⟩) (@piL _ K _ _ _ (@pv _ 0 _ _ (by rfl) (by first | exact Or.inl rfl | exact Or.inr (Or.inl rfl) | exact Or.inr (Or.inr rfl)) (by decide) (by decide)) (by rfl)) (fun _ _ _ _ _ => (@pg_name _ _ 3 _ nd rfl (by first | exact Or.inl rfl | exact Or.inr rfl) (by first | exact .inl rfl | exact .inr rfl | assumption))) (fun _ _ _ _ _ => pts_nil) (fun _ _ _ _ _ => (@pe_op _ _ _ _ _ _ _ _ op_fdivB (@pv _ 3 _ _ (by rfl) (by first | exact Or.inl rfl | exact Or.inr (Or.inl rfl) | exact Or.inr (Or.inr rfl)) (by decide) (by decide)) (@pv _ 2 _ _ (by rfl) (by first | exact Or.inl rfl | exact Or.inr (Or.inl rfl) | exact Or.inr (Or.inr rfl)) (by decide) (by decide)))) (by intro _; rfl)) pa_nil (by rfl)) (by decide) (by decide) (by rfl) (by rfl)) (@pa_cons _ _ _ _ _ (@pe_op _ _ _ _ _ _ _ _ op_fdivB (@pv _ 1 _ _ (by rfl) (by first | exact Or.inl rfl | exact Or.inr (Or.inl rfl) | exact Or.inr (Or.inr rfl)) (by decide) (by decide)) (@pv _ 2 _ _ (by rfl) (by first | exact Or.inl rfl | exact Or.inr (Or.inl rfl) | exact Or.inr (Or.inr rfl)) (by decide) (by decide))) pa_nil (by rfl)) (by rfl))))))))), ?_⟩
  refine ⟨_, rfl, a, _, rfl, hS.len, fun p hp => ?_⟩
  have s0 := Same.new hp (.lst (ts.map V.int))
  have hp0 := upd_same (H := H) (a := p) (o := .lst (ts.map V.int))
  generalize upd H p (.lst (ts.map V.int)) = H0 at *
  refine ⟨fun σ H' => Same H H' ∧ ∃ m : Nat, σ = [some (.ref p), some (.int b), none, none] ∧ H' p = some (.lst ((ts.take m).map V.int)) ∧ m ≤ ts.length ∧ (∀ j, m ≤ j → ts.getD j 0 = 0) ∧ (m = 0 ∨ ts.getD (m - 1) 0 ≠ 0), ?_, ?_⟩
  · refine while_by (fun σ H' => Same H H' ∧ ∃ m : Nat, σ = [some (.ref p), some (.int b), none, none] ∧ H' p = some (.lst ((ts.take m).map V.int)) ∧ m ≤ ts.length ∧ ∀ j, m ≤ j → ts.getD j 0 = 0) (fun _ H' => match H' p with | some (.lst xs) => xs.length | _ => 0) ?_ ?_ ?_
    · exact ⟨s0, ts.length, rfl, by rw [List.take_length]; exact hp0, Nat.le_refl _, fun j hj => getD_out hj⟩
    · rintro _ H1 ⟨s1, m, rfl, hp1, hm, h0⟩
      have lm : ((ts.take m).map V.int).length = m := by rw [List.length_map, List.length_take]; (first | lia | omega)
      refine ⟨_, rfl, p, _, rfl, .inl (SqL.of hp1), _, _, rfl, rfl, _, rfl, ?_⟩
      rw [lm]
      refine ite2 (fun c => ?_) (fun c => ?_)
      · have c' : (0 : Int) < (m : Int) := of_decide_eq_true c
        obtain ⟨k, rfl⟩ : ∃ k, m = k + 1 := ⟨m - 1, by first | lia | omega⟩
        have tk1 : ts.take (k + 1) = ts.take k ++ [ts.getD k 0] := take_snoc (by first | lia | omega)
        have la : atI ((ts.take (k + 1)).map V.int) (-1) = some (V.int (ts.getD k 0)) := by
          rw [tk1, List.map_append]
          exact atI_last _ _
        refine ⟨_, rfl, _, rfl, p, _, _, _, rfl, rfl, SqL.of hp1, la, rfl, _, rfl, ?_⟩
        refine ite2 (fun z => ?_) (fun z => ?_)
        · have z' : ts.getD k 0 = 0 := by
            have := of_decide_eq_true z
            injection this
          have e : ((ts.take (k + 1)).map V.int).dropLast = (ts.take k).map V.int := by
            rw [tk1, List.map_append]
            exact List.dropLast_concat
          refine ⟨_, rfl, .inl ⟨rfl, _, SqL.of hp1⟩, p, _, .int (ts.getD k 0), rfl, rfl, hp1, ?_, ?_⟩
          · rw [lm, List.getElem?_map, Nat.add_sub_cancel, List.getElem?_take_of_lt (by first | lia | omega), List.getD_eq_getElem?_getD, List.getElem?_eq_getElem (by first | lia | omega)]
            rfl
          · rw [e]
            refine ⟨⟨s1.over hp _, k, rfl, upd_same, by first | lia | omega, fun j hj => ?_⟩, ?_⟩
            · rcases Nat.eq_or_lt_of_le hj with w | w
              · rw [← w]; exact z'
              · exact h0 j w
            · have l2 : ((ts.take k).map V.int).length = k := by rw [List.length_map, List.length_take]; (first | lia | omega)
              show (match upd H1 p (.lst ((ts.take k).map V.int)) p with | some (.lst xs) => xs.length | _ => 0) < (match H1 p with | some (.lst xs) => xs.length | _ => 0)
              rw [upd_same, hp1]
              show ((ts.take k).map V.int).length < ((ts.take (k + 1)).map V.int).length
              (first | lia | omega)
        · refine ⟨s1, k + 1, rfl, hp1, hm, h0, .inr fun e => z ?_⟩
          rw [show k + 1 - 1 = k from rfl] at e
          rw [e]
          rfl
      · have c' : ¬ (0 : Int) < (m : Int) := of_decide_eq_false (Bool.eq_false_iff.mpr c)
        exact iteF ⟨s1, m, rfl, hp1, hm, h0, .inl (by first | lia | omega)⟩
    · rintro σ H Q Q' h ⟨v, e, p', ys, e0, hS', i, j, e1, e2, k, tk, q⟩
      refine ⟨v, e, p', ys, e0, hS', i, j, e1, e2, k, tk, ?_⟩
      cases k with
      | true =>
        obtain ⟨v1, w1, v2, w2, p2, xs, ii, vv, x1, x2, x3, x4, sc, kk, tt, qq⟩ := q
        exact ⟨v1, w1, v2, w2, p2, xs, ii, vv, x1, x2, x3, x4, sc, kk, tt, h _ _ qq⟩
      | false => exact h _ _ q
  rintro _ H1 ⟨s1, m, rfl, hp1, hm, h0, hlast⟩
  obtain ⟨fm, wr⟩ := Po.form hb hm h0 hlast
  have bn : ((b.natAbs : Nat) : Int) = b := by first | lia | omega
  refine ⟨_, rfl, ?_⟩
  refine ⟨fun σ H' => H' = H1 ∧ ∃ o, σ = [some (.ref p), some (.int b), some (.int ((Po.gl b.natAbs (ts.take m) : Nat) : Int)), o], ?_, ?_⟩
  · refine ⟨_, rfl, p, rfl, ⟨_, SqL.of hp1⟩, ?_⟩
    refine for_list (xs := (ts.take m).map V.int) (fun i σ H' => H' = H1 ∧ ∃ o, σ = [some (.ref p), some (.int b), some (.int ((Po.gl b.natAbs ((ts.take m).take i) : Nat) : Int)), o]) ⟨rfl, none, ?_⟩ (fun i σ H' _ h => by rw [h.1]; exact SqL.of hp1) ?_ ?_
    · show [some (V.ref p), some (V.int b), some (V.int b), none] = [some (V.ref p), some (V.int b), some (V.int ((b.natAbs : Nat) : Int)), none]
      rw [bn]
    · rintro i x _ _ hx ⟨rfl, o, rfl⟩
      obtain ⟨hi, ht, rfl⟩ := int_at hx
      refine ⟨_, rfl, _, rfl, _, _, rfl, rfl, some (.int ((ts.take m).getD i 0)), ?_⟩
      rw [take_snoc hi, gl_snoc]
      rfl
    · rintro _ _ ⟨rfl, o, rfl⟩
      rw [List.length_map, List.take_length]
      exact ⟨rfl, o, rfl⟩
  rintro _ H2 ⟨rfl, o, rfl⟩
  have g0 : 0 < Po.gl b.natAbs (ts.take m) := Po.gl_pos (by first | lia | omega) _
  have gle : Po.gl b.natAbs (ts.take m) ≤ b.natAbs := Nat.le_of_dvd (by first | lia | omega) (Po.gl_dvd _ _).1
  generalize Po.gl b.natAbs (ts.take m) = g at *
  have cd : ∀ x : Int, CDivB x (g : Int) := fun x => ⟨by first | lia | omega, n, hl.le (by rw [Int.natAbs_natCast]; exact gle), hn⟩
  refine ⟨_, rfl, p, rfl, ⟨_, SqL.of hp1⟩, comp_intsL (fun z => z.fdiv (g : Int)) (SqL.of hp1) (by rw [List.length_take]; (first | lia | omega)) rfl (fun z hz R hR => ?_) fun D hD => ?_⟩
  · exact ⟨_, rfl, _, rfl, _, _, rfl, rfl, cd _, hR⟩
  refine ⟨D, _, rfl, .inl ⟨SqL.of upd_same, fun t ht => ?_⟩⟩
  refine ⟨_, rfl, _, rfl, _, _, rfl, rfl, cd _, (by show 2 ≤ sizeLine; decide), fun v hv => ?_⟩
  refine q _ _ _ _ (((s1.trans (Same.new hD _)).trans (Same.new ht _)).trans (Same.new hv _)) ⟨v, t, rfl, upd_same, ?_⟩ fm wr (by rw [List.length_map, List.length_take]; (first | lia | omega))
  exact (Same.new hv _) _ _ upd_same
/-! ### the law's own sum and product -/
def spLSum (K : PySem.W.Frag) : Sp := fun vs H Q _ => ∃ (v1 v2 : V) (P1 P2 : List Int) (B1 B2 : Int) (n b m c : Nat), vs = [v1, v2] ∧ Pol H v1 P1 B1 ∧ Pol H v2 P2 B2 ∧ Pc.Pz n b P1 B1 ∧ Pc.Pz m c P2 B2 ∧ b + c ≤ 9000 ∧ n + m ≤ 1000000 ∧ P1.length ≤ 900 ∧ P2.length ≤ 900 ∧
  ∀ (v : V) (R : List Int) (C : Int) (H' : Hp), Same H H' → Pol H' v R C → Po.Fm R C → (∀ k, R.getD k 0 * (B1 * B2) = (P1.getD k 0 * B2 + P2.getD k 0 * B1) * C) → Q v H'
theorem snoc_getD {ts : List Int} {i k : Nat} (h : i < ts.length) : (ts.take (i + 1)).getD k 0 = (ts.take i).getD k 0 + (if k = i then ts.getD i 0 else 0) := by
  rw [take_snoc h]
  by_cases e : k = i
  · subst e
    rw [if_pos rfl, getD_out (fs := ts.take k) (by rw [List.length_take]; (first | lia | omega))]
    have : (ts.take k ++ [ts.getD k 0]).getD k 0 = ts.getD k 0 := getD_of (by rw [List.getElem?_append_right (by rw [List.length_take]; (first | lia | omega)), List.length_take, Nat.min_eq_left (by first | lia | omega), Nat.sub_self]; rfl)
    rw [this, Int.zero_add]
  · rw [if_neg e, Int.add_zero, ← take_snoc h, List.getD_eq_getElem?_getD, List.getD_eq_getElem?_getD, List.getElem?_take, List.getElem?_take]
    by_cases c : k < i
    · rw [if_pos c, if_pos (by first | lia | omega)]
    · rw [if_neg c, if_neg (by first | lia | omega)]
theorem sc_law_sum : FnScope ["_law_p", "_law_q", "_law_many", "_law_found", "_law_k", "_law_top"] ["_law_p", "_law_q"] (defScope s_law_sum) := ⟨rfl, rfl, rfl, by decide +kernel, rfl, by decide +kernel, by decide +kernel⟩
theorem ok_law_sum {f0 : Addr} {fd : FuncData} (F : Fun K "_law_sum" "_law_sum" s_law_sum f0 fd) (B : Bl mg) (g_law_poly : Def P w K mg base "_law_poly" 2 ["_law_tops", "_law_bottom"] (spLPoly K)) : FnOk P w K mg base CX0 3 f0 fd ["_law_p", "_law_q"] (spLSum K) := by
  refine F.ok sc_law_sum (fun vs H Q E h => ?_) (fun cdv A outer s H vs Q E hr h => ?_)
  · obtain ⟨v1, v2, P1, P2, B1, B2, n, b, m, c, rfl, _⟩ := h
    rfl
  obtain ⟨v1, v2, P1, P2, B1, B2, n, b, m, c, rfl, ⟨a, t, rfl, a1, a2⟩, ⟨d, u, rfl, b1, b2⟩, G1, G2, hb, hn, l1, l2, q⟩ := h
  have nd := sc_law_sum.nd
  refine ⟨_, (@pss_cons _ _ _ _ _ (@ps_set _ _ 2 _ _ _ _ nd rfl (by first | exact Or.inl rfl | exact Or.inr rfl) (@pe_callB _ _ _ _ _ _ _ _ _ (call_max2 rfl) rfl B.max bt_max (@pa_cons _ _ _ _ _ (@pe_callB _ _ _ _ _ _ _ _ _ (lenS K) rfl B.len bt_len (@pa_cons _ _ _ _ _ (@pe_ix _ _ _ _ _ _ _ (ixT K) (@pv _ 0 _ _ (by rfl) (by first | exact Or.inl rfl | exact Or.inr (Or.inl rfl) | exact Or.inr (Or.inr rfl)) (by decide) (by decide)) pe_int (fun _ _ => rfl)) pa_nil (by rfl)) (by decide) (by decide) (by rfl) (by rfl)) (@pa_cons _ _ _ _ _ (@pe_callB _ _ _ _ _ _ _ _ _ (lenS K) rfl B.len bt_len (@pa_cons _ _ _ _ _ (@pe_ix _ _ _ _ _ _ _ (ixT K) (@pv _ 1 _ _ (by rfl) (by first | exact Or.inl rfl | exact Or.inr (Or.inl rfl) | exact Or.inr (Or.inr rfl)) (by decide) (by decide)) pe_int (fun _ _ => rfl)) pa_nil (by rfl)) (by decide) (by decide) (by rfl) (by rfl)) pa_nil (by rfl)) (by rfl)) (by decide) (by decide) (by rfl) (by rfl)) (by rfl) (by first | exact .inl rfl | exact .inr rfl | assumption)) (@pss_cons _ _ _ _ _ (@ps_set _ _ 3 _ _ _ _ nd rfl (by first | exact Or.inl rfl | exact Or.inr rfl) (@pe_op _ _ _ _ _ _ _ _ op_rep (@pe_lst _ _ _ _ (@pa_cons _ _ _ _ _ pe_int pa_nil (by rfl))) (@pv _ 2 _ _ (by rfl) (by first | exact Or.inl rfl | exact Or.inr (Or.inl rfl) | exact Or.inr (Or.inr rfl)) (by decide) (by decide))) (by rfl) (by first | exact .inl rfl | exact .inr rfl | assumption)) (@pss_cut _ _ _ _ _ (@ps_for _ _ _ _ _ _ _ _ PassesOwn.never rfl (@pi_enum _ K _ _ _ _ _ _ _ rfl B.enumerate (@pa_cons _ _ _ _ _ (@pe_ix _ _ _ _ _ _ _ (ixT K) (@pv _ 0 _ _ (by rfl) (by first | exact Or.inl rfl | exact Or.inr (Or.inl rfl) | exact Or.inr (Or.inr rfl)) (by decide) (by decide)) pe_int (fun _ _ => rfl)) pa_nil (by rfl)) (by rfl) (by rfl)) (@pgT _ K _ _ _ 2 _ rfl (@pgs_cons _ _ _ _ _ (@pg_name _ _ 4 _ nd rfl (by first | exact Or.inl rfl | exact Or.inr rfl) (by first | exact .inl rfl | exact .inr rfl | assumption)) (@pgs_cons _ _ _ _ _ (@pg_name _ _ 5 _ nd rfl (by first | exact Or.inl rfl | exact Or.inr rfl) (by first | exact .inl rfl | exact .inr rfl | assumption)) pgs_nil (by rfl)) (by rfl)) (by rfl) (by rfl) (by rfl)) (@pss_one _ _ _ (@ps_asg _ _ _ _ _ _ (@pe_op _ _ _ _ _ _ _ _ op_add (@pe_ix _ _ _ _ _ _ _ (ixL K) (@pv _ 3 _ _ (by rfl) (by first | exact Or.inl rfl | exact Or.inr (Or.inl rfl) | exact Or.inr (Or.inr rfl)) (by decide) (by decide)) (@pv _ 4 _ _ (by rfl) (by first | exact Or.inl rfl | exact Or.inr (Or.inl rfl) | exact Or.inr (Or.inr rfl)) (by decide) (by decide)) (fun _ _ => rfl)) (@pe_op _ _ _ _ _ _ _ _ op_mulB (@pv _ 5 _ _ (by rfl) (by first | exact Or.inl rfl | exact Or.inr (Or.inl rfl) | exact Or.inr (Or.inr rfl)) (by decide) (by decide)) (@pe_ix _ _ _ _ _ _ _ (ixT K) (@pv _ 1 _ _ (by rfl) (by first | exact Or.inl rfl | exact Or.inr (Or.inl rfl) | exact Or.inr (Or.inr rfl)) (by decide) (by decide)) pe_int (fun _ _ => rfl)))) (@pg_sub _ _ _ _ _ _ _ (@pv _ 3 _ _ (by rfl) (by first | exact Or.inl rfl | exact Or.inr (Or.inl rfl) | exact Or.inr (Or.inr rfl)) (by decide) (by decide)) (@pv _ 4 _ _ (by rfl) (by first | exact Or.inl rfl | exact Or.inr (Or.inl rfl) | exact Or.inr (Or.inr rfl)) (by decide) (by decide)) set_list (fun _ => rfl)) (by rfl) (by rfl) (by rfl))) (by intro _; rfl)) (@pss_cut _ _ _ _ _ (@ps_for _ _ _ _ _ _ _ _ PassesOwn.never rfl (@pi_enum _ K _ _ _ _ _ _ _ rfl B.enumerate (@pa_cons _ _ _ _ _ (@pe_ix _ _ _ _ _ _ _ (ixT K) (@pv _ 1 _ _ (by rfl) (by first | exact Or.inl rfl | exact Or.inr (Or.inl rfl) | exact Or.inr (Or.inr rfl)) (by decide) (by decide)) pe_int (fun _ _ => rfl)) pa_nil (by rfl)) (by rfl) (by rfl)) (@pgT _ K _ _ _ 2 _ rfl (@pgs_cons _ _ _ _ _ (@pg_name _ _ 4 _ nd rfl (by first | exact Or.inl rfl | exact Or.inr rfl) (by first | exact .inl rfl | exact .inr rfl | assumption)) (@pgs_cons _ _ _ _ _ (@pg_name _ _ 5 _ nd rfl (by first | exact Or.inl rfl | exact Or.inr rfl) (by first | exact .inl rfl | exact .inr rfl | assumption)) pgs_nil (by rfl)) (by rfl)) (by rfl) (by rfl) (by rfl)) (@pss_one _ _ _ (@ps_asg _ _ _ _ _ _ (@pe_op _ _ _ _ _ _ _ _ op_add (@pe_ix _ _ _ _ _ _ _ (ixL K) (@pv _ 3 _ _ (by rfl) (by first | exact Or.inl rfl | exact Or.inr (Or.inl rfl) | exact Or.inr (Or.inr rfl)) (by decide) (by decide)) (@pv _ 4 _ _ (by rfl) (by first | exact Or.inl rfl | exact Or.inr (Or.inl rfl) | exact Or.inr (Or.inr rfl)) (by decide) (by decide)) (fun _ _ => rfl)) (@pe_op _ _ _ _ _ _ _ _ op_mulB (@pv _ 5 _ _ (by rfl) (by first | exact Or.inl rfl | exact Or.inr (Or.inl rfl) | exact Or.inr (Or.inr rfl)) (by decide) (by decide)) (@pe_ix _ _ _ _ _ _ _ (ixT K) (@pv _ 0 _ _ (by rfl) (by first | exact Or.inl rfl | exact Or.inr (Or.inl rfl) | exact Or.inr (Or.inr rfl)) (by decide) (by decide)) pe_int (fun _ _ => rfl)))) (@pg_sub _ _ _ _ _ _ _ (@pv _ 3 _ _ (by rfl) (by first | exact Or.inl rfl | exact Or.inr (Or.inl rfl) | exact Or.inr (Or.inr rfl)) (by decide) (by decide)) (@pv _ 4 _ _ (by rfl) (by first | exact Or.inl rfl | exact Or.inr (Or.inl rfl) | exact Or.inr (Or.inr rfl)) (by decide) (by decide)) set_list (fun _ => rfl)) (by rfl) (by rfl) (by rfl))) (by intro _; rfl)) (@pss_one _ _ _ (@ps_ret _ _ _ _ (@pe_def _ _ _ _ _ _ _ _ _ _ _ g_law_poly hr (@pa_cons _ _ _ _ _ (@pv _ 3 _ _ (by rfl) (by first | exact Or.inl rfl | exact Or.inr (Or.inl rfl) | exact Or.inr (Or.inr rfl)) (by decide) (by decide)) (@pa_cons _ _ _ _ _ (@pe_op _ _ _ _ _ _ _ _ op_mulB (@pe_ix _ _ _ _ _ _ _ (ixT K) (@pv _ 0 _ _ (by rfl) (by first | exact Or.inl rfl | exact Or.inr (Or.inl rfl) | exact Or.inr (Or.inr rfl)) (by decide) (by decide)) pe_int (fun _ _ => rfl)) (@pe_ix _ _ _ _ _ _ _ (ixT K) (@pv _ 1 _ _ (by rfl) (by first | exact Or.inl rfl | exact Or.inr (Or.inl rfl) | exact Or.inr (Or.inr rfl)) (by decide) (by decide)) pe_int (fun _ _ => rfl))) pa_nil (by rfl)) (by rfl)) (by first | decide | omega | exact Nat.le_refl _) (by rfl) (by decide) (by rfl) (by rfl)))))))), ?_⟩
  have k1 := SqT.of (K := K) a1
  have k2 := SqT.of (K := K) a2
  have k3 := SqT.of (K := K) b1
  have k4 := SqT.of (K := K) b2
  have p1 := G1.fm.pos
  have p2 := G2.fm.pos
  refine ⟨_, rfl, a, _, 0, _, rfl, rfl, k1, rfl, t, _, rfl, .inr k2, _, rfl, d, _, 0, _, rfl, rfl, k3, rfl, u, _, rfl, .inr k4, _, _, rfl, ?_⟩
  rw [List.length_map, List.length_map]
  obtain ⟨N, eN, N1, N2, N3⟩ : ∃ N : Nat, (if (P2.length : Int) > (P1.length : Int) then (P2.length : Int) else (P1.length : Int)) = (N : Int) ∧ P1.length ≤ N ∧ P2.length ≤ N ∧ N ≤ 900 := by
    split
    · exact ⟨P2.length, rfl, by first | lia | omega, by first | lia | omega, l2⟩
    · exact ⟨P1.length, rfl, by first | lia | omega, by first | lia | omega, l1⟩
  rw [eN]
  refine ⟨(by show 1 ≤ sizeLine; decide), fun p0 hp0 => ?_⟩
  have s0 := Same.new hp0 (.lst [.int 0])
  refine ⟨_, rfl, p0, _, [.int 0], rfl, rfl, upd_same, (by first | lia | omega), (by first | lia | omega), (by show 1 * _ ≤ _; rw [sizeLine_eq]; (first | lia | omega)), fun p hp => ?_⟩
  rw [Int.toNat_natCast, flat_rep]
  have hpH := same_none s0 hp
  have s1 : Same H _ := s0.trans (Same.new hp (.lst ((List.replicate N (0 : Int)).map V.int)))
  have hp1 := upd_same (H := upd H p0 (.lst [.int 0])) (a := p) (o := .lst ((List.replicate N (0 : Int)).map V.int))
  generalize upd (upd H p0 (.lst [.int 0])) p (.lst ((List.replicate N (0 : Int)).map V.int)) = H1 at *
  refine ⟨fun σ H' => Same H H' ∧ ∃ (o4 o5 : Option V) (rs : List Int), σ = [some (.ref a), some (.ref d), some (.int N), some (.ref p), o4, o5] ∧ H' p = some (.lst (rs.map V.int)) ∧ rs.length = N ∧ ∀ k, rs.getD k 0 = P1.getD k 0 * B2, ?_, ?_⟩
  · refine ⟨_, rfl, a, _, 0, _, rfl, rfl, k1.same s1, rfl, for_enum (xs := P1.map V.int) (tt := "tuple") (fun i σ H' => Same H H' ∧ ∃ (o4 o5 : Option V) (rs : List Int), σ = [some (.ref a), some (.ref d), some (.int N), some (.ref p), o4, o5] ∧ H' p = some (.lst (rs.map V.int)) ∧ rs.length = N ∧ ∀ k, rs.getD k 0 = (P1.take i).getD k 0 * B2)
      ⟨s1, none, none, _, rfl, hp1, List.length_replicate, fun k => by rw [rep_getD]; show 0 = ([] : List Int).getD k 0 * B2; rw [getD_out (fs := ([] : List Int)) (Nat.zero_le _), Int.zero_mul]⟩ (.inl ⟨rfl, k2.same s1⟩) (fun i σ H' _ h => .inl ⟨rfl, k2.same h.1⟩) ?_ ?_⟩
    · rintro i x _ H2 r hx ⟨s2, o4, o5, rs, rfl, hp2, lr, hr2⟩ hr0
      obtain ⟨hi, hz, rfl⟩ := int_at hx
      have s3 := Same.new hr0 (.tup [.int i, .int (P1.getD i 0)])
      have hp3 := s3 _ _ hp2
      refine ⟨r, _, rfl, SqT.of upd_same, rfl, _, _, rfl, _, _, rfl, rfl, ?_⟩
      generalize upd H2 r (.tup [.int i, .int (P1.getD i 0)]) = H3 at *
      have s23 := s2.trans s3
      refine ⟨_, rfl, _, rfl, p, _, _, _, rfl, rfl, SqL.of hp3, atI_nat (at_int (by first | lia | omega)), _, rfl, _, rfl, d, _, 1, _, rfl, rfl, k3.same s23, rfl, _, _, rfl, rfl, ⟨_, _, G1.tops i, G2.bot, by first | lia | omega⟩, _, _, rfl, rfl, _, rfl, _, rfl, p, _, _, i, rfl, rfl, hp3, ixN_nat (by rw [List.length_map]; (first | lia | omega)), ?_⟩
      refine ⟨s23.over hpH _, _, _, rs.set i (rs.getD i 0 + P1.getD i 0 * B2), rfl, by rw [set_ints]; exact upd_same, by rw [List.length_set]; exact lr, fun k => ?_⟩
      rw [set_getD (by first | lia | omega), snoc_getD hi, hr2 i, hr2 k]
      by_cases e : k = i
      · subst e
        rw [if_pos rfl, if_pos rfl]
        grind
      · rw [if_neg e, if_neg e, Int.add_zero]
    · rintro _ H2 ⟨s2, o4, o5, rs, rfl, hp2, lr, hr2⟩
      rw [List.length_map, List.take_length] at hr2
      exact ⟨s2, _, _, rs, rfl, hp2, lr, hr2⟩
  rintro _ H1' ⟨s1', o4, o5, rs0, rfl, hp1', lr0, hr0⟩
  refine ⟨fun σ H' => Same H H' ∧ ∃ (o4 o5 : Option V) (rs : List Int), σ = [some (.ref a), some (.ref d), some (.int N), some (.ref p), o4, o5] ∧ H' p = some (.lst (rs.map V.int)) ∧ rs.length = N ∧ ∀ k, rs.getD k 0 = P1.getD k 0 * B2 + P2.getD k 0 * B1, ?_, ?_⟩
  · refine ⟨_, rfl, d, _, 0, _, rfl, rfl, k3.same s1', rfl, for_enum (xs := P2.map V.int) (tt := "tuple") (fun i σ H' => Same H H' ∧ ∃ (o4 o5 : Option V) (rs : List Int), σ = [some (.ref a), some (.ref d), some (.int N), some (.ref p), o4, o5] ∧ H' p = some (.lst (rs.map V.int)) ∧ rs.length = N ∧ ∀ k, rs.getD k 0 = P1.getD k 0 * B2 + (P2.take i).getD k 0 * B1)
      ⟨s1', _, _, rs0, rfl, hp1', lr0, fun k => by rw [hr0 k]; show _ = _ + ([] : List Int).getD k 0 * B1; rw [getD_out (fs := ([] : List Int)) (Nat.zero_le _), Int.zero_mul, Int.add_zero]⟩ (.inl ⟨rfl, k4.same s1'⟩) (fun i σ H' _ h => .inl ⟨rfl, k4.same h.1⟩) ?_ ?_⟩
    · rintro i x _ H2 r hx ⟨s2, o4, o5, rs, rfl, hp2, lr, hr2⟩ hr0'
      obtain ⟨hi, hz, rfl⟩ := int_at hx
      have s3 := Same.new hr0' (.tup [.int i, .int (P2.getD i 0)])
      have hp3 := s3 _ _ hp2
      refine ⟨r, _, rfl, SqT.of upd_same, rfl, _, _, rfl, _, _, rfl, rfl, ?_⟩
      generalize upd H2 r (.tup [.int i, .int (P2.getD i 0)]) = H3 at *
      have s23 := s2.trans s3
      refine ⟨_, rfl, _, rfl, p, _, _, _, rfl, rfl, SqL.of hp3, atI_nat (at_int (by first | lia | omega)), _, rfl, _, rfl, a, _, 1, _, rfl, rfl, k1.same s23, rfl, _, _, rfl, rfl, ⟨_, _, G2.tops i, G1.bot, by first | lia | omega⟩, _, _, rfl, rfl, _, rfl, _, rfl, p, _, _, i, rfl, rfl, hp3, ixN_nat (by rw [List.length_map]; (first | lia | omega)), ?_⟩
      refine ⟨s23.over hpH _, _, _, rs.set i (rs.getD i 0 + P2.getD i 0 * B1), rfl, by rw [set_ints]; exact upd_same, by rw [List.length_set]; exact lr, fun k => ?_⟩
      rw [set_getD (by first | lia | omega), snoc_getD hi, hr2 i, hr2 k]
      by_cases e : k = i
      · subst e
        rw [if_pos rfl, if_pos rfl]
        grind
      · rw [if_neg e, if_neg e, Int.add_zero]
    · rintro _ H2 ⟨s2, o4, o5, rs, rfl, hp2, lr, hr2⟩
      rw [List.length_map, List.take_length] at hr2
      exact ⟨s2, _, _, rs, rfl, hp2, lr, hr2⟩
  rintro _ H2 ⟨s2, o4', o5', rs, rfl, hp2, lr, hr2⟩
  refine ⟨_, rfl, _, rfl, a, _, 1, _, rfl, rfl, k1.same s2, rfl, _, rfl, d, _, 1, _, rfl, rfl, k3.same s2, rfl, _, _, rfl, rfl, ⟨_, _, G1.bot, G2.bot, by first | lia | omega⟩, p, "list", rs, _, rfl, .inr ⟨rfl, SqL.of hp2⟩, Int.mul_pos p1 p2, ⟨b + c, hb, G1.bot.mul G2.bot⟩, by first | lia | omega, fun v R C H3 s3 hv fm hw hle => ?_⟩
  exact q v R C H3 (s2.trans s3) hv fm fun k => by rw [hw k, hr2 k]
def spLTimes (K : PySem.W.Frag) : Sp := fun vs H Q _ => ∃ (v1 v2 : V) (P1 P2 : List Int) (B1 B2 : Int) (n b m c : Nat), vs = [v1, v2] ∧ PolK K H v1 P1 B1 ∧ PolK K H v2 P2 B2 ∧ Pc.Pz n b P1 B1 ∧ Pc.Pz m c P2 B2 ∧ b + c ≤ 9000 ∧ n + m ≤ 1000000 ∧ P1.length ≤ 450 ∧ P2.length ≤ 450 ∧
  ∀ (v : V) (R : List Int) (C : Int) (H' : Hp), Same H H' → Pol H' v R C → Po.Fm R C → (∀ k, R.getD k 0 * (B1 * B2) = Cv.cv (Cv.fn P1) (Cv.fn P2) k * C) → Q v H'
theorem sc_law_times : FnScope ["_law_p", "_law_q", "_law_found", "_law_k", "_law_top", "_law_j", "_law_other"] ["_law_p", "_law_q"] (defScope s_law_times) := ⟨rfl, rfl, rfl, by decide +kernel, rfl, by decide +kernel, by decide +kernel⟩
theorem ok_law_times {f0 : Addr} {fd : FuncData} (F : Fun K "_law_times" "_law_times" s_law_times f0 fd) (B : Bl mg) (g_law_poly : Def P w K mg base "_law_poly" 2 ["_law_tops", "_law_bottom"] (spLPoly K)) : FnOk P w K mg base CX0 3 f0 fd ["_law_p", "_law_q"] (spLTimes K) := by
  refine F.ok sc_law_times (fun vs H Q E h => ?_) (fun cdv A outer s H vs Q E hr h => ?_)
  · obtain ⟨v1, v2, P1, P2, B1, B2, n, b, m, c, rfl, _⟩ := h
    rfl
  obtain ⟨v1, v2, P1, P2, B1, B2, n, b, m, c, rfl, ⟨a, t, rfl, a1, a2⟩, ⟨d, u, rfl, b1, b2⟩, G1, G2, hb, hn, l1, l2, q⟩ := h
  have nd := sc_law_times.nd
  refine ⟨_, (@pss_cons _ _ _ _ _ (@ps_set _ _ 2 _ _ _ _ nd rfl (by first | exact Or.inl rfl | exact Or.inr rfl) (@pe_op _ _ _ _ _ _ _ _ op_rep (@pe_lst _ _ _ _ (@pa_cons _ _ _ _ _ pe_int pa_nil (by rfl))) (@pe_op _ _ _ _ _ _ _ _ op_add (@pe_callB _ _ _ _ _ _ _ _ _ (lenS K) rfl B.len bt_len (@pa_cons _ _ _ _ _ (@pe_ix _ _ _ _ _ _ _ (ixT K) (@pv _ 0 _ _ (by rfl) (by first | exact Or.inl rfl | exact Or.inr (Or.inl rfl) | exact Or.inr (Or.inr rfl)) (by decide) (by decide)) pe_int (fun _ _ => rfl)) pa_nil (by rfl)) (by decide) (by decide) (by rfl) (by rfl)) (@pe_callB _ _ _ _ _ _ _ _ _ (lenS K) rfl B.len bt_len (@pa_cons _ _ _ _ _ (@pe_ix _ _ _ _ _ _ _ (ixT K) (@pv _ 1 _ _ (by rfl) (by first | exact Or.inl rfl | exact Or.inr (Or.inl rfl) | exact Or.inr (Or.inr rfl)) (by decide) (by decide)) pe_int (fun _ _ => rfl)) pa_nil (by rfl)) (by decide) (by decide) (by rfl) (by rfl)))) (by rfl) (by first | exact .inl rfl | exact .inr rfl | assumption)) (@pss_cut _ _ _ _ _ (@ps_for _ _ _ _ _ _ _ _ PassesOwn.never rfl (@pi_enum _ K _ _ _ _ _ _ _ rfl B.enumerate (@pa_cons _ _ _ _ _ (@pe_ix _ _ _ _ _ _ _ (ixT K) (@pv _ 0 _ _ (by rfl) (by first | exact Or.inl rfl | exact Or.inr (Or.inl rfl) | exact Or.inr (Or.inr rfl)) (by decide) (by decide)) pe_int (fun _ _ => rfl)) pa_nil (by rfl)) (by rfl) (by rfl)) (@pgT _ K _ _ _ 2 _ rfl (@pgs_cons _ _ _ _ _ (@pg_name _ _ 3 _ nd rfl (by first | exact Or.inl rfl | exact Or.inr rfl) (by first | exact .inl rfl | exact .inr rfl | assumption)) (@pgs_cons _ _ _ _ _ (@pg_name _ _ 4 _ nd rfl (by first | exact Or.inl rfl | exact Or.inr rfl) (by first | exact .inl rfl | exact .inr rfl | assumption)) pgs_nil (by rfl)) (by rfl)) (by rfl) (by rfl) (by rfl)) (@pss_one _ _ _ (@ps_for _ _ _ _ _ _ _ _ PassesOwn.never rfl (@pi_enum _ K _ _ _ _ _ _ _ rfl B.enumerate (@pa_cons _ _ _ _ _ (@pe_ix _ _ _ _ _ _ _ (ixT K) (@pv _ 1 _ _ (by rfl) (by first | exact Or.inl rfl | exact Or.inr (Or.inl rfl) | exact Or.inr (Or.inr rfl)) (by decide) (by decide)) pe_int (fun _ _ => rfl)) pa_nil (by rfl)) (by rfl) (by rfl)) (@pgT _ K _ _ _ 2 _ rfl (@pgs_cons _ _ _ _ _ (@pg_name _ _ 5 _ nd rfl (by first | exact Or.inl rfl | exact Or.inr rfl) (by first | exact .inl rfl | exact .inr rfl | assumption)) (@pgs_cons _ _ _ _ _ (@pg_name _ _ 6 _ nd rfl (by first | exact Or.inl rfl | exact Or.inr rfl) (by first | exact .inl rfl | exact .inr rfl | assumption)) pgs_nil (by rfl)) (by rfl)) (by rfl) (by rfl) (by rfl)) (@pss_one _ _ _ (@ps_asg _ _ _ _ _ _ (@pe_op _ _ _ _ _ _ _ _ op_add (@pe_ix _ _ _ _ _ _ _ (ixL K) (@pv _ 2 _ _ (by rfl) (by first | exact Or.inl rfl | exact Or.inr (Or.inl rfl) | exact Or.inr (Or.inr rfl)) (by decide) (by decide)) (@pe_op _ _ _ _ _ _ _ _ op_add (@pv _ 3 _ _ (by rfl) (by first | exact Or.inl rfl | exact Or.inr (Or.inl rfl) | exact Or.inr (Or.inr rfl)) (by decide) (by decide)) (@pv _ 5 _ _ (by rfl) (by first | exact Or.inl rfl | exact Or.inr (Or.inl rfl) | exact Or.inr (Or.inr rfl)) (by decide) (by decide))) (fun _ _ => rfl)) (@pe_op _ _ _ _ _ _ _ _ op_mulB (@pv _ 4 _ _ (by rfl) (by first | exact Or.inl rfl | exact Or.inr (Or.inl rfl) | exact Or.inr (Or.inr rfl)) (by decide) (by decide)) (@pv _ 6 _ _ (by rfl) (by first | exact Or.inl rfl | exact Or.inr (Or.inl rfl) | exact Or.inr (Or.inr rfl)) (by decide) (by decide)))) (@pg_sub _ _ _ _ _ _ _ (@pv _ 2 _ _ (by rfl) (by first | exact Or.inl rfl | exact Or.inr (Or.inl rfl) | exact Or.inr (Or.inr rfl)) (by decide) (by decide)) (@pe_op _ _ _ _ _ _ _ _ op_add (@pv _ 3 _ _ (by rfl) (by first | exact Or.inl rfl | exact Or.inr (Or.inl rfl) | exact Or.inr (Or.inr rfl)) (by decide) (by decide)) (@pv _ 5 _ _ (by rfl) (by first | exact Or.inl rfl | exact Or.inr (Or.inl rfl) | exact Or.inr (Or.inr rfl)) (by decide) (by decide))) set_list (fun _ => rfl)) (by rfl) (by rfl) (by rfl))) (by intro _; rfl))) (by intro _; rfl)) (@pss_one _ _ _ (@ps_ret _ _ _ _ (@pe_def _ _ _ _ _ _ _ _ _ _ _ g_law_poly hr (@pa_cons _ _ _ _ _ (@pv _ 2 _ _ (by rfl) (by first | exact Or.inl rfl | exact Or.inr (Or.inl rfl) | exact Or.inr (Or.inr rfl)) (by decide) (by decide)) (@pa_cons _ _ _ _ _ (@pe_op _ _ _ _ _ _ _ _ op_mulB (@pe_ix _ _ _ _ _ _ _ (ixT K) (@pv _ 0 _ _ (by rfl) (by first | exact Or.inl rfl | exact Or.inr (Or.inl rfl) | exact Or.inr (Or.inr rfl)) (by decide) (by decide)) pe_int (fun _ _ => rfl)) (@pe_ix _ _ _ _ _ _ _ (ixT K) (@pv _ 1 _ _ (by rfl) (by first | exact Or.inl rfl | exact Or.inr (Or.inl rfl) | exact Or.inr (Or.inr rfl)) (by decide) (by decide)) pe_int (fun _ _ => rfl))) pa_nil (by rfl)) (by rfl)) (by first | decide | omega | exact Nat.le_refl _) (by rfl) (by decide) (by rfl) (by rfl)))))), ?_⟩
  have k1 := a1
  have k2 := a2
  have k3 := b1
  have k4 := b2
  have p1 := G1.fm.pos
  have p2 := G2.fm.pos
  refine ⟨(by show 1 ≤ sizeLine; decide), fun p0 hp0 => ?_⟩
  have s0 := Same.new hp0 (.lst [.int 0])
  refine ⟨_, rfl, a, _, 0, _, rfl, rfl, k1.same s0, rfl, t, _, rfl, .inr (k2.same s0), _, rfl, d, _, 0, _, rfl, rfl, k3.same s0, rfl, u, _, rfl, .inr (k4.same s0), _, _, rfl, rfl, p0, _, [.int 0], rfl, rfl, upd_same, ?_, ?_, ?_, fun p hp => ?_⟩
  · rw [List.length_map, List.length_map]; (first | lia | omega)
  · rw [List.length_map, List.length_map]; (first | lia | omega)
  · rw [List.length_map, List.length_map, sizeLine_eq]; show 1 * _ ≤ _; (first | lia | omega)
  have eN : ((((P1.map V.int).length : Nat) : Int) + (((P2.map V.int).length : Nat) : Int)).toNat = P1.length + P2.length := by rw [List.length_map, List.length_map]; (first | lia | omega)
  rw [eN, flat_rep]
  have hpH := same_none s0 hp
  have s1 : Same H _ := s0.trans (Same.new hp (.lst ((List.replicate (P1.length + P2.length) (0 : Int)).map V.int)))
  have hp1 := upd_same (H := upd H p0 (.lst [.int 0])) (a := p) (o := .lst ((List.replicate (P1.length + P2.length) (0 : Int)).map V.int))
  generalize upd (upd H p0 (.lst [.int 0])) p (.lst ((List.replicate (P1.length + P2.length) (0 : Int)).map V.int)) = H1 at *
  refine ⟨fun σ H' => ∃ (o3 o4 o5 o6 : Option V) (rs : List Int), σ = [some (.ref a), some (.ref d), some (.ref p), o3, o4, o5, o6] ∧ Same H H' ∧ H' p = some (.lst (rs.map V.int)) ∧ rs.length = P1.length + P2.length ∧ ∀ k, rs.getD k 0 = Cv.tm (Cv.fn P1) (Cv.fn P2) P1.length k, ?_, ?_⟩
  · refine ⟨_, rfl, a, _, 0, _, rfl, rfl, k1.same s1, rfl, for_enum (xs := P1.map V.int) (tt := "tuple") (fun i σ H' => ∃ (o3 o4 o5 o6 : Option V) (rs : List Int), σ = [some (.ref a), some (.ref d), some (.ref p), o3, o4, o5, o6] ∧ Same H H' ∧ H' p = some (.lst (rs.map V.int)) ∧ rs.length = P1.length + P2.length ∧ ∀ k, rs.getD k 0 = Cv.tm (Cv.fn P1) (Cv.fn P2) i k)
      ⟨none, none, none, none, _, rfl, s1, hp1, List.length_replicate, fun k => rep_getD _ _⟩ (.inl ⟨rfl, k2.same s1⟩) (fun i σ H' _ h => by obtain ⟨_, _, _, _, _, _, s2, _⟩ := h; exact .inl ⟨rfl, k2.same s2⟩) ?_ ?_⟩
    · rintro i x _ H2 r hx ⟨o3, o4, o5, o6, rs, rfl, s2, hp2, lr, hr2⟩ hr0
      obtain ⟨hi, hz, rfl⟩ := int_at hx
      have s3 := Same.new hr0 (.tup [.int i, .int (P1.getD i 0)])
      have hp3 := s3 _ _ hp2
      have s23 := s2.trans s3
      refine ⟨r, _, rfl, SqT.of upd_same, rfl, _, _, rfl, _, _, rfl, rfl, ?_⟩
      generalize upd H2 r (.tup [.int i, .int (P1.getD i 0)]) = H3 at *
      refine ⟨_, rfl, d, _, 0, _, rfl, rfl, k3.same s23, rfl, for_enum (xs := P2.map V.int) (tt := "tuple") (fun k σ H' => ∃ (o5 o6 : Option V) (rs : List Int), σ = [some (.ref a), some (.ref d), some (.ref p), some (.int i), some (.int (P1.getD i 0)), o5, o6] ∧ Same H H' ∧ H' p = some (.lst (rs.map V.int)) ∧ rs.length = P1.length + P2.length ∧ ∀ m, rs.getD m 0 = Cv.tm (Cv.fn P1) (Cv.fn P2) i m + (if i ≤ m ∧ m - i < k then Cv.fn P1 i * Cv.fn P2 (m - i) else 0))
        ⟨_, _, rs, rfl, s23, hp3, lr, fun m => ?_⟩ (.inl ⟨rfl, k4.same s23⟩) (fun i σ H' _ h => by obtain ⟨_, _, _, _, s2, _⟩ := h; exact .inl ⟨rfl, k4.same s2⟩) ?_ ?_⟩
      · rw [hr2 m, if_neg (by first | lia | omega), Int.add_zero]
      · rintro k y _ H4 r' hy ⟨o5', o6', rs', rfl, s4, hp4, lr', hr4⟩ hr0'
        obtain ⟨hk, hz', rfl⟩ := int_at hy
        have s5 := Same.new hr0' (.tup [.int k, .int (P2.getD k 0)])
        have hp5 := s5 _ _ hp4
        refine ⟨r', _, rfl, SqT.of upd_same, rfl, _, _, rfl, _, _, rfl, rfl, ?_⟩
        generalize upd H4 r' (.tup [.int k, .int (P2.getD k 0)]) = H5 at *
        have ik : (i : Int) + (k : Int) = ((i + k : Nat) : Int) := by first | lia | omega
        refine ⟨_, rfl, _, rfl, _, rfl, _, _, rfl, rfl, p, _, _, _, rfl, rfl, SqL.of hp5, (by rw [ik]; exact atI_nat (at_int (by first | lia | omega))), _, rfl, _, rfl, _, _, rfl, rfl, ⟨_, _, G1.tops i, G2.tops k, by first | lia | omega⟩, _, _, rfl, rfl, _, rfl, _, rfl, _, rfl, _, _, rfl, rfl, p, _, _, i + k, rfl, rfl, hp5, by rw [ik]; exact ixN_nat (by rw [List.length_map]; (first | lia | omega)), _, _, rs'.set (i + k) (rs'.getD (i + k) 0 + P1.getD i 0 * P2.getD k 0), rfl, (s4.trans s5).over hpH _, by rw [set_ints]; exact upd_same, by rw [List.length_set]; exact lr', fun m => ?_⟩
        rw [set_getD (by first | lia | omega)]
        by_cases e : m = i + k
        · subst e
          rw [if_pos rfl, hr4, if_neg (by first | lia | omega), if_pos ⟨by first | lia | omega, by first | lia | omega⟩, show i + k - i = k by first | lia | omega, Int.add_zero]
          rfl
        · rw [if_neg e, hr4]
          congr 1
          by_cases c : i ≤ m ∧ m - i < k
          · rw [if_pos c, if_pos ⟨c.1, by first | lia | omega⟩]
          · rw [if_neg c, if_neg (by first | lia | omega)]
      · rintro _ H4 ⟨o5', o6', rs', rfl, s4, hp4, lr', hr4⟩
        rw [List.length_map] at hr4
        refine ⟨_, _, _, _, rs', rfl, s4, hp4, lr', fun m => ?_⟩
        rw [hr4 m, Cv.tm_succ]
        congr 1
        by_cases c : i ≤ m
        · rw [if_pos c]
          by_cases c' : m - i < P2.length
          · rw [if_pos ⟨c, c'⟩]
          · rw [if_neg (fun z => c' z.2), Cv.fn_out (P := P2) (by first | lia | omega), Int.mul_zero]
        · rw [if_neg c, if_neg (fun z => c z.1)]
    · rintro _ H2 ⟨o3, o4, o5, o6, rs, rfl, s2, hp2, lr, hr2⟩
      rw [List.length_map] at hr2
      exact ⟨_, _, _, _, rs, rfl, s2, hp2, lr, hr2⟩
  rintro _ H2 ⟨o3, o4, o5, o6, rs, rfl, s2, hp2, lr, hr2⟩
  refine ⟨_, rfl, _, rfl, a, _, 1, _, rfl, rfl, k1.same s2, rfl, _, rfl, d, _, 1, _, rfl, rfl, k3.same s2, rfl, _, _, rfl, rfl, ⟨_, _, G1.bot, G2.bot, by first | lia | omega⟩, p, "list", rs, _, rfl, .inr ⟨rfl, SqL.of hp2⟩, Int.mul_pos p1 p2, ⟨b + c, hb, G1.bot.mul G2.bot⟩, by first | lia | omega, fun v R C H3 s3 hv fm hw hle => ?_⟩
  refine q v R C H3 (s2.trans s3) hv fm fun k => ?_
  rw [hw k, hr2 k, Cv.tm_cv fun j h => Cv.fn_out h]
/-! ### the law's own putting in, from the top down -/
def spLOf (K : PySem.W.Frag) : Sp := fun vs H Q _ => ∃ (v1 v2 : V) (P1 P2 : List Int) (B1 B2 : Int) (n b m c : Nat), vs = [v1, v2] ∧ PolK K H v1 P1 B1 ∧ PolK K H v2 P2 B2 ∧ Pc.Pz n b P1 B1 ∧ Pc.Pz m c P2 B2 ∧ b + b + c * P1.length ≤ 8900 ∧ n + (m + c + 10) * (P1.length + 1) ≤ 400000 ∧ P1.length * P2.length ≤ 190 ∧ P1.length ≤ 190 ∧ P2.length ≤ 190 ∧
  ∀ (v : V) (R : List Int) (C : Int) (H' : Hp), Same H H' → Pol H' v R C → Pc.Of P1 B1 P2 B2 R C → Q v H'
theorem sc_law_of : FnScope ["_law_p", "_law_q", "_law_found", "_law_top"] ["_law_p", "_law_q"] (defScope s_law_of) := ⟨rfl, rfl, rfl, by decide +kernel, rfl, by decide +kernel, by decide +kernel⟩
theorem ok_law_of {f0 : Addr} {fd : FuncData} (F : Fun K "_law_of" "_law_of" s_law_of f0 fd) (B : Bl mg) (g_law_sum : Def P w K mg base "_law_sum" 3 ["_law_p", "_law_q"] (spLSum K)) (g_law_times : Def P w K mg base "_law_times" 3 ["_law_p", "_law_q"] (spLTimes K)) (g_law_poly : Def P w K mg base "_law_poly" 2 ["_law_tops", "_law_bottom"] (spLPoly K)) : FnOk P w K mg base CX0 4 f0 fd ["_law_p", "_law_q"] (spLOf K) := by
  refine F.ok sc_law_of (fun vs H Q E h => ?_) (fun cdv A outer s H vs Q E hr h => ?_)
  · obtain ⟨v1, v2, P1, P2, B1, B2, n, b, m, c, rfl, _⟩ := h
    rfl
  obtain ⟨v1, v2, P1, P2, B1, B2, n, b, m, c, rfl, h1, h2, G1, G2, hb, hn, hl, l1, l2, q⟩ := h
  have nd := sc_law_of.nd
  refine ⟨_, (@pss_cons _ _ _ _ _ (@ps_set _ _ 2 _ _ _ _ nd rfl (by first | exact Or.inl rfl | exact Or.inr rfl) (@pe_tup _ _ _ _ _ (@pa_cons _ _ _ _ _ (@pe_tup _ _ _ _ _ pa_nil) (@pa_cons _ _ _ _ _ pe_int pa_nil (by rfl)) (by rfl))) (by rfl) (by first | exact .inl rfl | exact .inr rfl | assumption)) (@pss_cut _ _ _ _ _ (@ps_for _ _ _ _ _ _ _ _ PassesOwn.never rfl (@pi_revd _ K _ _ _ _ _ rfl B.reversed (@pa_cons _ _ _ _ _ (@pe_ix _ _ _ _ _ _ _ (ixT K) (@pv _ 0 _ _ (by rfl) (by first | exact Or.inl rfl | exact Or.inr (Or.inl rfl) | exact Or.inr (Or.inr rfl)) (by decide) (by decide)) pe_int (fun _ _ => rfl)) pa_nil (by rfl)) (by rfl) (by rfl)) (@pg_name _ _ 3 _ nd rfl (by first | exact Or.inl rfl | exact Or.inr rfl) (by first | exact .inl rfl | exact .inr rfl | assumption)) (@pss_one _ _ _ (@ps_set _ _ 2 _ _ _ _ nd rfl (by first | exact Or.inl rfl | exact Or.inr rfl) (@pe_def _ _ _ _ _ _ _ _ _ _ _ g_law_sum hr (@pa_cons _ _ _ _ _ (@pe_def _ _ _ _ _ _ _ _ _ _ _ g_law_times hr (@pa_cons _ _ _ _ _ (@pv _ 2 _ _ (by rfl) (by first | exact Or.inl rfl | exact Or.inr (Or.inl rfl) | exact Or.inr (Or.inr rfl)) (by decide) (by decide)) (@pa_cons _ _ _ _ _ (@pv _ 1 _ _ (by rfl) (by first | exact Or.inl rfl | exact Or.inr (Or.inl rfl) | exact Or.inr (Or.inr rfl)) (by decide) (by decide)) pa_nil (by rfl)) (by rfl)) (by first | decide | omega | exact Nat.le_refl _) (by rfl) (by decide) (by rfl) (by rfl)) (@pa_cons _ _ _ _ _ (@pe_def _ _ _ _ _ _ _ _ _ _ _ g_law_poly hr (@pa_cons _ _ _ _ _ (@pe_lst _ _ _ _ (@pa_cons _ _ _ _ _ (@pv _ 3 _ _ (by rfl) (by first | exact Or.inl rfl | exact Or.inr (Or.inl rfl) | exact Or.inr (Or.inr rfl)) (by decide) (by decide)) pa_nil (by rfl))) (@pa_cons _ _ _ _ _ (@pe_ix _ _ _ _ _ _ _ (ixT K) (@pv _ 0 _ _ (by rfl) (by first | exact Or.inl rfl | exact Or.inr (Or.inl rfl) | exact Or.inr (Or.inr rfl)) (by decide) (by decide)) pe_int (fun _ _ => rfl)) pa_nil (by rfl)) (by rfl)) (by first | decide | omega | exact Nat.le_refl _) (by rfl) (by decide) (by rfl) (by rfl)) pa_nil (by rfl)) (by rfl)) (by first | decide | omega | exact Nat.le_refl _) (by rfl) (by decide) (by rfl) (by rfl)) (by rfl) (by first | exact .inl rfl | exact .inr rfl | assumption))) (by intro _; rfl)) (@pss_one _ _ _ (@ps_ret _ _ _ _ (@pv _ 2 _ _ (by rfl) (by first | exact Or.inl rfl | exact Or.inr (Or.inl rfl) | exact Or.inr (Or.inr rfl)) (by decide) (by decide)))))), ?_⟩
  have p1 := G1.fm.pos
  have p2 := G2.fm.pos
  have hL : (m + c + 10) * P1.length + (m + c + 10) = (m + c + 10) * (P1.length + 1) := by rw [Nat.mul_succ]
  have hg : ∀ k, P2.length ≤ k → Cv.fn P2 k = 0 := fun k h => Cv.fn_out h
  obtain ⟨a, t, ea, a1, a2⟩ := id h1
  subst ea
  have k1 := a1
  have k2 := a2
  refine ⟨(by show 0 ≤ sizeLine; decide), fun r0 hr0 => ?_⟩
  refine ⟨(by show 2 ≤ sizeLine; decide), fun r1 hr1 => ?_⟩
  have s1 := Same.new hr0 (.tup [])
  have s2 := Same.new hr1 (.tup [.ref r0, .int 1])
  have w0 : Pol (upd (upd H r0 (.tup [])) r1 (.tup [.ref r0, .int 1])) (.ref r1) [] 1 := ⟨r1, r0, rfl, upd_same, s2 _ _ upd_same⟩
  have s12 : Same H _ := s1.trans s2
  generalize upd (upd H r0 (.tup [])) r1 (.tup [.ref r0, .int 1]) = H2 at *
  refine ⟨fun σ H' => Same H H' ∧ ∃ (x : V) (R : List Int) (C : Int) (o3 : Option V), σ = [some (.ref a), some v2, some x, o3] ∧ Pol H' x R C ∧ Pc.Of P1 B1 P2 B2 R C, ?_, ?_⟩
  · refine ⟨_, rfl, a, _, 0, _, rfl, rfl, k1.same s12, rfl, t, P1.map V.int, rfl, k2.same s12, ?_⟩
    refine for_rev (xs := P1.map V.int) (fun i σ H' => Same H H' ∧ ∃ (x : V) (R : List Int) (C : Int) (o3 : Option V) (M : Nat → Int), σ = [some (.ref a), some v2, some x, o3] ∧ Pol H' x R C ∧ Po.Fm R C ∧ (∀ k, R.getD k 0 * (B1 * B2 ^ i) = M k * B2 * C) ∧ (∀ k, i * P2.length + 1 ≤ k → M k = 0) ∧ (∀ k, Lt2 (n + (m + c + 10) * i + 1) (M k)) ∧ ∀ k, Pc.pc (Cv.fn P1) (Cv.fn P2) B2 P1.length k = B2 ^ i * Pc.pc (Cv.fn P1) (Cv.fn P2) B2 (P1.length - i) k + B2 * Cv.cv (Pc.cp (Cv.fn P2) (P1.length - i)) M k)
      ⟨s12, .ref r1, [], 1, none, fun _ => 0, rfl, w0, ⟨by decide, .inl rfl, rfl⟩, fun k => by rw [getD_out (fs := ([] : List Int)) (Nat.zero_le _)]; simp, fun _ _ => rfl, fun k => Nat.pow_pos (by decide), fun k => by rw [Cv.cv_zr fun j => rfl]; simp⟩ (fun i σ H' _ h => k2.same h.1) ?_ ?_
    · rintro i z _ H5 hz ⟨s5, x, R, C, o3, M, rfl, hx, fx, ex, oM, lM, eM⟩
      have hi : i < P1.length := by have := (List.getElem?_eq_some_iff.mp hz).1; simpa using this
      rw [List.getElem?_reverse (by rw [List.length_map]; exact hi), List.length_map] at hz
      obtain ⟨_, _, rfl⟩ := int_at hz
      have li : (m + c + 10) * (i + 1) ≤ (m + c + 10) * P1.length := Nat.mul_le_mul_left _ hi
      rw [Nat.mul_succ] at li
      have li2 : (i + 1) * P2.length ≤ P1.length * P2.length := Nat.mul_le_mul_right _ hi
      rw [Nat.succ_mul] at li2
      have li3 : c * (i + 1) ≤ c * P1.length := Nat.mul_le_mul_left _ hi
      rw [Nat.mul_succ] at li3
      have W := Hv.pow_pos p2 i
      have lW := Hv.pow_lt G2.bot i
      have li5 : c * i ≤ (m + c + 10) * i := Nat.mul_le_mul_right _ (by first | lia | omega)
      have c0 := fx.pos
      have zx : Pc.Pz (n + (m + c + 10) * i + 1 + c) (b + (c * i + 1)) R C := Pc.Pz.of fx (Int.mul_pos p1 W) ex (fun k => (lM k).mul G2.bot) (G1.bot.mul lW)
      have lx : R.length ≤ i * P2.length + 1 := Pc.len_of fx (Int.mul_pos p1 W) ex (fun k hk => by rw [oM k hk, Int.zero_mul])
      have top := G1.tops (P1.length - 1 - i)
      refine ⟨_, rfl, _, rfl, x, v2, R, P2, C, B2, _, _, _, _, rfl, hx, h2.same s5, zx, G2, by first | lia | omega, by first | lia | omega, by first | lia | omega, by first | lia | omega, fun T TT tb H6 s6 hT fT eT => ?_⟩
      have t0 := fT.pos
      have eT' : ∀ k, TT.getD k 0 * (B1 * (B2 ^ i * B2)) = Cv.cv M (Cv.fn P2) k * B2 * tb := fun k => Pc.step_o c0 ex (eT k)
      have W2 := Int.mul_pos W p2
      have cM : ∀ k, Lt2 (n + (m + c + 10) * i + 1 + m + 9) (Cv.cv M (Cv.fn P2) k) := fun k => by
        rcases Nat.lt_or_ge k 500 with cc | cc
        · exact Cv.cv_lt lM G2.tops (by first | lia | omega)
        · rw [Cv.cv_out (a := i * P2.length + 1) (b := P2.length) oM hg (by first | lia | omega)]
          exact Nat.pow_pos (by decide)
      have oT : ∀ k, (i + 1) * P2.length + 1 ≤ k → Cv.cv M (Cv.fn P2) k = 0 := fun k hk => Cv.cv_out (a := i * P2.length + 1) (b := P2.length) oM hg (by rw [Nat.succ_mul] at hk; (first | lia | omega))
      have zT : Pc.Pz (n + (m + c + 10) * i + 1 + m + 9 + c) (b + (c * i + 1 + c)) TT tb := Pc.Pz.of fT (Int.mul_pos p1 W2) eT' (fun k => (cM k).mul G2.bot) (G1.bot.mul (lW.mul G2.bot))
      have lT : TT.length ≤ (i + 1) * P2.length + 1 := Pc.len_of fT (Int.mul_pos p1 W2) eT' (fun k hk => by rw [oT k hk, Int.zero_mul])
      rw [Nat.succ_mul] at lT
      refine ⟨_, rfl, (by show 1 ≤ sizeLine; decide), fun q1 hq1 => ?_⟩
      have s7 := Same.new hq1 (.lst [.int (P1.getD (P1.length - 1 - i) 0)])
      have hq7 := upd_same (H := H6) (a := q1) (o := .lst [.int (P1.getD (P1.length - 1 - i) 0)])
      generalize upd H6 q1 (.lst [.int (P1.getD (P1.length - 1 - i) 0)]) = H7 at *
      have s07 := s5.trans (s6.trans s7)
      refine ⟨_, rfl, a, _, 1, _, rfl, rfl, k1.same s07, rfl, q1, "list", [P1.getD (P1.length - 1 - i) 0], B1, rfl, .inr ⟨rfl, SqL.of hq7⟩, p1, ⟨b, by first | lia | omega, G1.bot⟩, (by show 1 ≤ 1000; decide), fun e E eb H8 s8 he fe ee le => ?_⟩
      have e0 := fe.pos
      have ze : Pc.Pz n b E eb := Pc.Pz.of fe p1 ee (fun k => by
        cases k with
        | zero => exact top
        | succ k => rw [getD_out (fs := [P1.getD (P1.length - 1 - i) 0]) (by simp)]; exact Nat.pow_pos (by decide)) G1.bot
      have le' : E.length ≤ 1 := le
      refine ⟨T, e, TT, E, tb, eb, _, _, _, _, rfl, hT.same (s7.trans s8), he, zT, ze, by first | lia | omega, by first | lia | omega, by first | lia | omega, by first | lia | omega, fun x' R' C' H9 s9 hx' fx' ex' => ?_⟩
      refine ⟨(s07.trans s8).trans s9, x', R', C', _, fun j => Cv.cv M (Cv.fn P2) j + (if j = 0 then Cv.fn P1 (P1.length - 1 - i) * B2 ^ i else 0), rfl, hx', fx', fun k => ?_, fun k hk => ?_, fun k => ?_, fun k => Pc.horner hg hi eM _ fun j => rfl⟩
      · rw [Int.pow_succ]
        have y := Pc.step_p t0 e0 (eT' k) (ee k) (ex' k)
        rw [y]
        congr 2
        show _ = _ + _
        congr 1
        cases k with
        | zero => rfl
        | succ k => rw [getD_out (fs := [P1.getD (P1.length - 1 - i) 0]) (by simp), if_neg (by first | lia | omega), Int.zero_mul]
      · show Cv.cv M (Cv.fn P2) k + (if k = 0 then Cv.fn P1 (P1.length - 1 - i) * B2 ^ i else 0) = 0
        rw [oT k hk, if_neg (by first | lia | omega)]
        rfl
      · have y2 : Lt2 (n + (m + c + 10) * i + 1 + m + 9) (if k = 0 then Cv.fn P1 (P1.length - 1 - i) * B2 ^ i else 0) := by
          split
          · exact (top.mul lW).mono (by first | lia | omega)
          · exact Nat.pow_pos (by decide)
        exact ((cM k).add y2).mono (by rw [Nat.mul_succ]; (first | lia | omega))
    · rintro _ H5 ⟨s5, x, R, C, o3, M, rfl, hx, fx, ex, oM, lM, eM⟩
      rw [List.length_map] at ex eM
      refine ⟨s5, x, R, C, _, rfl, hx, fx, fun k => ?_⟩
      rw [ex k, eM k, Nat.sub_self]
      show _ = (_ * 0 + B2 * Cv.cv Pc.d0 M k) * C
      rw [Pc.cv_d0, Int.mul_zero, Int.zero_add, Int.mul_comm B2]
  rintro _ H5 ⟨s5, x, R, C, o3, rfl, hx, of⟩
  exact ⟨_, rfl, q x R C H5 s5 hx of⟩
/-! ### the law's own straight ones -/
theorem sc_law_straight : FnScope ["_law_a", "_law_b"] ["_law_a", "_law_b"] (defScope s_law_straight) := ⟨rfl, rfl, rfl, by decide +kernel, rfl, by decide +kernel, by decide +kernel⟩
theorem ok_law_straight {f0 : Addr} {fd : FuncData} (F : Fun K "_law_straight" "_law_straight" s_law_straight f0 fd) (B : Bl mg) (g_law_poly : Def P w K mg base "_law_poly" 2 ["_law_tops", "_law_bottom"] (spLPoly K)) : FnOk P w K mg base CX0 3 f0 fd ["_law_a", "_law_b"] (spStraightQ K) := by
  refine F.ok sc_law_straight (fun vs H Q E h => ?_) (fun cdv A outer s H vs Q E hr h => ?_)
  · obtain ⟨v1, v2, r1, r2, n1, b1, n2, b2, rfl, _⟩ := h
    rfl
  obtain ⟨v1, v2, r1, r2, n1, b1, n2, b2, rfl, ⟨p1, ta, ba, rfl, h1, a0, c2, l1, l2, rfl⟩, ⟨p2, tb, bb, rfl, h2, b0, d2, l3, l4, rfl⟩, ln, m1, m2, q⟩ := h
  have nd := sc_law_straight.nd
  refine ⟨_, (@pss_one _ _ _ (@ps_ret _ _ _ _ (@pe_def _ _ _ _ _ _ _ _ _ _ _ g_law_poly hr (@pa_cons _ _ _ _ _ (@pe_lst _ _ _ _ (@pa_cons _ _ _ _ _ (@pe_op _ _ _ _ _ _ _ _ op_mulB (@pe_ix _ _ _ _ _ _ _ (ixT K) (@pv _ 1 _ _ (by rfl) (by first | exact Or.inl rfl | exact Or.inr (Or.inl rfl) | exact Or.inr (Or.inr rfl)) (by decide) (by decide)) pe_int (fun _ _ => rfl)) (@pe_ix _ _ _ _ _ _ _ (ixT K) (@pv _ 0 _ _ (by rfl) (by first | exact Or.inl rfl | exact Or.inr (Or.inl rfl) | exact Or.inr (Or.inr rfl)) (by decide) (by decide)) pe_int (fun _ _ => rfl))) (@pa_cons _ _ _ _ _ (@pe_op _ _ _ _ _ _ _ _ op_mulB (@pe_ix _ _ _ _ _ _ _ (ixT K) (@pv _ 0 _ _ (by rfl) (by first | exact Or.inl rfl | exact Or.inr (Or.inl rfl) | exact Or.inr (Or.inr rfl)) (by decide) (by decide)) pe_int (fun _ _ => rfl)) (@pe_ix _ _ _ _ _ _ _ (ixT K) (@pv _ 1 _ _ (by rfl) (by first | exact Or.inl rfl | exact Or.inr (Or.inl rfl) | exact Or.inr (Or.inr rfl)) (by decide) (by decide)) pe_int (fun _ _ => rfl))) pa_nil (by rfl)) (by rfl))) (@pa_cons _ _ _ _ _ (@pe_op _ _ _ _ _ _ _ _ op_mulB (@pe_ix _ _ _ _ _ _ _ (ixT K) (@pv _ 0 _ _ (by rfl) (by first | exact Or.inl rfl | exact Or.inr (Or.inl rfl) | exact Or.inr (Or.inr rfl)) (by decide) (by decide)) pe_int (fun _ _ => rfl)) (@pe_ix _ _ _ _ _ _ _ (ixT K) (@pv _ 1 _ _ (by rfl) (by first | exact Or.inl rfl | exact Or.inr (Or.inl rfl) | exact Or.inr (Or.inr rfl)) (by decide) (by decide)) pe_int (fun _ _ => rfl))) pa_nil (by rfl)) (by rfl)) (by first | decide | omega | exact Nat.le_refl _) (by rfl) (by decide) (by rfl) (by rfl)))), ?_⟩
  refine ⟨_, rfl, p2, _, 0, _, rfl, rfl, h2, rfl, _, rfl, p1, _, 1, _, rfl, rfl, h1, rfl, _, _, rfl, rfl, ⟨_, _, l3, l2, by first | lia | omega⟩, _, rfl, p1, _, 0, _, rfl, rfl, h1, rfl, _, rfl, p2, _, 1, _, rfl, rfl, h2, rfl, _, _, rfl, rfl, ⟨_, _, l1, l4, by first | lia | omega⟩, (by show 2 ≤ sizeLine; decide), fun p hp => ?_⟩
  have s1 := Same.new hp (.lst [.int (tb * ba), .int (ta * bb)])
  refine ⟨_, rfl, p1, _, 1, _, rfl, rfl, h1.same s1, rfl, _, rfl, p2, _, 1, _, rfl, rfl, h2.same s1, rfl, _, _, rfl, rfl, ⟨_, _, l2, l4, by first | lia | omega⟩, p, "list", [tb * ba, ta * bb], _, rfl, .inr ⟨rfl, SqL.of upd_same⟩, Int.mul_pos a0 b0, ⟨b1 + b2, by first | lia | omega, l2.mul l4⟩, (by show 2 ≤ 1000; decide), fun v P B H1 s2 hv fm hw hle => ?_⟩
  obtain ⟨x1, x2, x3, x4, x5⟩ := stQ ⟨fm, hw⟩ a0 b0 l1 l2 l3 l4
  exact q v P B H1 (s1.trans s2) hv x1 x2 x3 x4 x5
/-! ### a drawn number of either sign -/
def spNumber : Sp := fun vs H Q _ => ∃ (f : Addr) (m : Int), vs = [.ref f, .int m] ∧ Flow H f ∧ 0 ≤ m ∧ Lt2 8000 m ∧ ∀ z H', -m ≤ z → z ≤ m → Flow H' f → Sm f H H' → Q (.int z) H'
theorem sc_law_number : FnScope ["_law_flow_here", "_law_most"] ["_law_flow_here", "_law_most"] (defScope s_law_number) := ⟨rfl, rfl, rfl, by decide +kernel, rfl, by decide +kernel, by decide +kernel⟩
theorem ok_law_number {f0 : Addr} {fd : FuncData} (F : Fun K "_law_number" "_law_number" s_law_number f0 fd) (B : Bl mg) (g_law_pick : Def P w K mg base "_law_pick" 1 ["_law_flow_here", "_law_many"] spPickB) : FnOk P w K mg base CX0 2 f0 fd ["_law_flow_here", "_law_most"] spNumber := by
  refine F.ok sc_law_number (fun vs H Q E h => ?_) (fun cdv A outer s H vs Q E hr h => ?_)
  · obtain ⟨f, m, rfl, _⟩ := h
    rfl
  obtain ⟨f, m, rfl, hF, m0, m1, q⟩ := h
  have nd := sc_law_number.nd
  refine ⟨_, (@pss_one _ _ _ (@ps_ret _ _ _ _ (@pe_op _ _ _ _ _ _ _ _ op_sub (@pe_def _ _ _ _ _ _ _ _ _ _ _ g_law_pick hr (@pa_cons _ _ _ _ _ (@pv _ 0 _ _ (by rfl) (by first | exact Or.inl rfl | exact Or.inr (Or.inl rfl) | exact Or.inr (Or.inr rfl)) (by decide) (by decide)) (@pa_cons _ _ _ _ _ (@pe_op _ _ _ _ _ _ _ _ op_add (@pe_op _ _ _ _ _ _ _ _ op_mulB pe_int (@pv _ 1 _ _ (by rfl) (by first | exact Or.inl rfl | exact Or.inr (Or.inl rfl) | exact Or.inr (Or.inr rfl)) (by decide) (by decide))) pe_int) pa_nil (by rfl)) (by rfl)) (by first | decide | omega | exact Nat.le_refl _) (by rfl) (by decide) (by rfl) (by rfl)) (@pv _ 1 _ _ (by rfl) (by first | exact Or.inl rfl | exact Or.inr (Or.inl rfl) | exact Or.inr (Or.inr rfl)) (by decide) (by decide))))), ?_⟩
  have two : Lt2 2 2 := by decide
  have lm : Lt2 9000 (2 * m + 1) := ((two.mul m1).add ((show Lt2 1 1 by decide).mono (m := 2 + 8000) (by first | lia | omega))).mono (by first | lia | omega)
  refine ⟨_, rfl, _, rfl, _, _, rfl, rfl, ⟨_, _, two, m1, by first | lia | omega⟩, _, _, rfl, rfl, f, _, rfl, hF, by first | lia | omega, lm, fun d H1 d0 d1 F1 s1 => ?_⟩
  exact ⟨_, rfl, _, _, rfl, rfl, q _ _ (by first | lia | omega) (by first | lia | omega) F1 s1⟩
/-! ### _law_alike: the same deep data are alike -/
def spAlike (K : PySem.W.Frag) (n : Nat) : Sp := fun vs H Q _ => ∃ (d : DV) (x y : V), vs = [x, y] ∧ Rep K H d x ∧ Rep K H d y ∧ d.dp < n ∧ d.wd ≤ 100000 ∧ ∀ H', Same H H' → Q (.bl true) H'
theorem sc_law_alike : FnScope ["_law_found", "_law_due_here", "_law_k"] ["_law_found", "_law_due_here"] (defScope s_law_alike) := ⟨rfl, rfl, rfl, by decide +kernel, rfl, by decide +kernel, by decide +kernel⟩
theorem alike_turn {n : Nat} {f0 : Addr} {fd : FuncData} (F : Fun K "_law_alike" "_law_alike" s_law_alike f0 fd) (B : Bl mg) (g_law_alike : Def P w K mg base "_law_alike" n ["_law_found", "_law_due_here"] (spAlike K n)) : FnOk P w K mg base CX0 (n + 1) f0 fd ["_law_found", "_law_due_here"] (spAlike K (n + 1)) := by
  refine F.ok sc_law_alike (fun vs H Q E h => ?_) (fun cdv A outer s H vs Q E hr h => ?_)
  · obtain ⟨d, x, y, rfl, _⟩ := h
    rfl
  obtain ⟨d, x, y, rfl, hx, hy, hd, hw, q⟩ := h
  have nd := sc_law_alike.nd
  refine ⟨_, (@pss_cut _ _ _ _ _ (@ps_if _ _ _ _ _ _ _ _ (@ptT _ K _ _ (@pe_callB _ _ _ _ _ _ _ _ _ (isWs K) rfl B.isinstance bt_isinstance (@pa_cons _ _ _ _ _ (@pv _ 1 _ _ (by rfl) (by first | exact Or.inl rfl | exact Or.inr (Or.inl rfl) | exact Or.inr (Or.inr rfl)) (by decide) (by decide)) (@pa_cons _ _ _ _ _ (@pe_tup _ _ _ _ _ (@pa_cons _ _ _ _ _ (@pe_bltn _ _ (.ty "list") _ _ rfl B.list bt_list rfl (by decide) (by decide)) (@pa_cons _ _ _ _ _ (@pe_bltn _ _ (.ty "tuple") _ _ rfl B.tuple bt_tuple rfl (by decide) (by decide)) pa_nil (by rfl)) (by rfl))) pa_nil (by rfl)) (by rfl)) (by decide) (by decide) (by rfl) (by rfl)) (fun _ => rfl) (by rfl)) (@pss_cut _ _ _ _ _ (@ps_if _ _ _ _ _ _ _ _ (@pt_cmpR _ _ _ _ _ _ _ _ op_ne (@pe_callB _ _ _ _ _ _ _ _ _ (isW K) rfl B.isinstance bt_isinstance (@pa_cons _ _ _ _ _ (@pv _ 0 _ _ (by rfl) (by first | exact Or.inl rfl | exact Or.inr (Or.inl rfl) | exact Or.inr (Or.inr rfl)) (by decide) (by decide)) (@pa_cons _ _ _ _ _ (@pe_bltn _ _ (.ty "list") _ _ rfl B.list bt_list rfl (by decide) (by decide)) pa_nil (by rfl)) (by rfl)) (by decide) (by decide) (by rfl) (by rfl)) (@pe_callB _ _ _ _ _ _ _ _ _ (isW K) rfl B.isinstance bt_isinstance (@pa_cons _ _ _ _ _ (@pv _ 1 _ _ (by rfl) (by first | exact Or.inl rfl | exact Or.inr (Or.inl rfl) | exact Or.inr (Or.inr rfl)) (by decide) (by decide)) (@pa_cons _ _ _ _ _ (@pe_bltn _ _ (.ty "list") _ _ rfl B.list bt_list rfl (by decide) (by decide)) pa_nil (by rfl)) (by rfl)) (by decide) (by decide) (by rfl) (by rfl)) (nomark _)) (@pss_one _ _ _ (@ps_ret _ _ _ _ pe_bl)) pss_nil) (@pss_cut _ _ _ _ _ (@ps_if _ _ _ _ _ _ _ _ (@pt_cmpR _ _ _ _ _ _ _ _ op_ne (@pe_callB _ _ _ _ _ _ _ _ _ (isW K) rfl B.isinstance bt_isinstance (@pa_cons _ _ _ _ _ (@pv _ 0 _ _ (by rfl) (by first | exact Or.inl rfl | exact Or.inr (Or.inl rfl) | exact Or.inr (Or.inr rfl)) (by decide) (by decide)) (@pa_cons _ _ _ _ _ (@pe_bltn _ _ (.ty "tuple") _ _ rfl B.tuple bt_tuple rfl (by decide) (by decide)) pa_nil (by rfl)) (by rfl)) (by decide) (by decide) (by rfl) (by rfl)) (@pe_callB _ _ _ _ _ _ _ _ _ (isW K) rfl B.isinstance bt_isinstance (@pa_cons _ _ _ _ _ (@pv _ 1 _ _ (by rfl) (by first | exact Or.inl rfl | exact Or.inr (Or.inl rfl) | exact Or.inr (Or.inr rfl)) (by decide) (by decide)) (@pa_cons _ _ _ _ _ (@pe_bltn _ _ (.ty "tuple") _ _ rfl B.tuple bt_tuple rfl (by decide) (by decide)) pa_nil (by rfl)) (by rfl)) (by decide) (by decide) (by rfl) (by rfl)) (nomark _)) (@pss_one _ _ _ (@ps_ret _ _ _ _ pe_bl)) pss_nil) (@pss_cut _ _ _ _ _ (@ps_if _ _ _ _ _ _ _ _ (@pt_cmpR _ _ _ _ _ _ _ _ op_ne (@pe_callB _ _ _ _ _ _ _ _ _ (lenS K) rfl B.len bt_len (@pa_cons _ _ _ _ _ (@pv _ 0 _ _ (by rfl) (by first | exact Or.inl rfl | exact Or.inr (Or.inl rfl) | exact Or.inr (Or.inr rfl)) (by decide) (by decide)) pa_nil (by rfl)) (by decide) (by decide) (by rfl) (by rfl)) (@pe_callB _ _ _ _ _ _ _ _ _ (lenS K) rfl B.len bt_len (@pa_cons _ _ _ _ _ (@pv _ 1 _ _ (by rfl) (by first | exact Or.inl rfl | exact Or.inr (Or.inl rfl) | exact Or.inr (Or.inr rfl)) (by decide) (by decide)) pa_nil (by rfl)) (by decide) (by decide) (by rfl) (by rfl)) (nomark _)) (@pss_one _ _ _ (@ps_ret _ _ _ _ pe_bl)) pss_nil) (@pss_one _ _ _ (@ps_ret _ _ _ _ (@pe_callB _ _ _ _ _ _ _ _ _ (allS K) rfl B.all bt_all (@pa_cons _ _ _ _ _ (@pe_comp _ _ _ _ _ _ _ _ _ _ _ _ rfl (show CompS ["_law_found", "_law_due_here", "_law_k"] (defScope s_law_alike) _ [2] from by exact ⟨rfl, by decide +kernel, by decide +kernel, by decide +kernel, by decide +kernel⟩) (@pi_range1 _ _ _ _ _ _ rfl B.range (@pa_cons _ _ _ _ _ (@pe_callB _ _ _ _ _ _ _ _ _ (lenS K) rfl B.len bt_len (@pa_cons _ _ _ _ _ (@pv _ 1 _ _ (by rfl) (by first | exact Or.inl rfl | exact Or.inr (Or.inl rfl) | exact Or.inr (Or.inr rfl)) (by decide) (by decide)) pa_nil (by rfl)) (by decide) (by decide) (by rfl) (by rfl)) pa_nil (by rfl)) (by rfl)) (fun _ _ _ _ _ => (@pg_name _ _ 2 _ nd rfl (by first | exact Or.inl rfl | exact Or.inr rfl) (by first | exact .inl rfl | exact .inr rfl | assumption))) (fun _ _ _ _ _ => pts_nil) (fun _ _ _ _ _ => (@pe_def _ _ _ _ _ _ _ _ _ _ _ g_law_alike hr (@pa_cons _ _ _ _ _ (@pe_ix _ _ _ _ _ _ _ (ixS K) (@pv _ 0 _ _ (by rfl) (by first | exact Or.inl rfl | exact Or.inr (Or.inl rfl) | exact Or.inr (Or.inr rfl)) (by decide) (by decide)) (@pv _ 2 _ _ (by rfl) (by first | exact Or.inl rfl | exact Or.inr (Or.inl rfl) | exact Or.inr (Or.inr rfl)) (by decide) (by decide)) (fun _ _ => rfl)) (@pa_cons _ _ _ _ _ (@pe_ix _ _ _ _ _ _ _ (ixS K) (@pv _ 1 _ _ (by rfl) (by first | exact Or.inl rfl | exact Or.inr (Or.inl rfl) | exact Or.inr (Or.inr rfl)) (by decide) (by decide)) (@pv _ 2 _ _ (by rfl) (by first | exact Or.inl rfl | exact Or.inr (Or.inl rfl) | exact Or.inr (Or.inr rfl)) (by decide) (by decide)) (fun _ _ => rfl)) pa_nil (by rfl)) (by rfl)) (by first | decide | omega | exact Nat.le_refl _) (by rfl) (by decide) (by rfl) (by rfl))) (by intro _; rfl)) pa_nil (by rfl)) (by decide) (by decide) (by rfl) (by rfl))))))) pss_nil) (@pss_one _ _ _ (@ps_ret _ _ _ _ (@pe_and _ _ _ _ _ _ _ (@pe_cmpR _ _ _ _ _ _ _ _ op_eq (@pe_callB _ _ _ _ _ _ _ _ _ (isW K) rfl B.isinstance bt_isinstance (@pa_cons _ _ _ _ _ (@pv _ 0 _ _ (by rfl) (by first | exact Or.inl rfl | exact Or.inr (Or.inl rfl) | exact Or.inr (Or.inr rfl)) (by decide) (by decide)) (@pa_cons _ _ _ _ _ (@pe_bltn _ _ (.ty "bool") _ _ rfl B.bool bt_bool rfl (by decide) (by decide)) pa_nil (by rfl)) (by rfl)) (by decide) (by decide) (by rfl) (by rfl)) (@pe_callB _ _ _ _ _ _ _ _ _ (isW K) rfl B.isinstance bt_isinstance (@pa_cons _ _ _ _ _ (@pv _ 1 _ _ (by rfl) (by first | exact Or.inl rfl | exact Or.inr (Or.inl rfl) | exact Or.inr (Or.inr rfl)) (by decide) (by decide)) (@pa_cons _ _ _ _ _ (@pe_bltn _ _ (.ty "bool") _ _ rfl B.bool bt_bool rfl (by decide) (by decide)) pa_nil (by rfl)) (by rfl)) (by decide) (by decide) (by rfl) (by rfl)) (nomark _)) (@pe_one _ _ _ _ _ (@pe_cmpR _ _ _ _ _ _ _ _ op_eq (@pv _ 0 _ _ (by rfl) (by first | exact Or.inl rfl | exact Or.inr (Or.inl rfl) | exact Or.inr (Or.inr rfl)) (by decide) (by decide)) (@pv _ 1 _ _ (by rfl) (by first | exact Or.inl rfl | exact Or.inr (Or.inl rfl) | exact Or.inr (Or.inr rfl)) (by decide) (by decide)) (nomark _))))))), ?_⟩
  rcases rep_cases hx hy with ⟨rfl, t, bb, ty, hs, k1, k2, sc⟩ | ⟨tt, a, a', xs, ys, ds, rfl, rfl, q1, q2, r1, r2, e1, e2, e3⟩
  · refine ⟨fun σ H' => σ = [some x, some x, none] ∧ Same H H', ?_, ?_⟩
    · refine ⟨_, rfl, (by show 2 ≤ sizeLine; decide), fun p hp => ?_⟩
      refine ⟨x, p, t, false, ["list", "tuple"], rfl, ty _, hs, upd_same, k1, _, rfl, ?_⟩
      exact iteF ⟨rfl, Same.new hp _⟩
    · rintro _ H1 ⟨rfl, s1⟩
      refine ⟨_, rfl, _, _, _, _, rfl, ty _, k2, _, rfl, _, _, _, _, rfl, ty _, k2, rfl, _, rfl, ?_⟩
      rw [decide_eq_true rfl]
      refine iteT ?_
      refine ⟨_, rfl, _, rfl, sc, ?_⟩
      rw [decide_eq_true rfl]
      exact q H1 s1
  · have l1 := r1.length
    have l2 := r2.length
    obtain ⟨k0, ⟨b1, k1⟩, ⟨b2, k2⟩⟩ := q1.kit
    refine ⟨fun σ H' => False, ?_, fun _ _ z => z.elim⟩
    refine ⟨_, rfl, (by show 2 ≤ sizeLine; decide), fun p hp => ?_⟩
    have s1 := Same.new hp (.tup [.ty "list", .ty "tuple"])
    refine ⟨_, p, .type tt, true, ["list", "tuple"], rfl, (q2.same s1).ty, nofun, upd_same, k0, _, rfl, ?_⟩
    refine iteT ?_
    have e1' := q1.same s1
    have e2' := q2.same s1
    refine ⟨fun σ H' => σ = [some (.ref a), some (.ref a'), none] ∧ H' = upd H p (.tup [.ty "list", .ty "tuple"]), ?_, ?_⟩
    · refine ⟨_, rfl, _, _, _, _, rfl, e1'.ty, k1, _, rfl, _, _, _, _, rfl, e2'.ty, k1, rfl, _, rfl, ?_⟩
      exact iteNS rfl ⟨rfl, rfl⟩
    · rintro _ _ ⟨rfl, rfl⟩
      refine ⟨fun σ H' => σ = [some (.ref a), some (.ref a'), none] ∧ H' = upd H p (.tup [.ty "list", .ty "tuple"]), ?_, ?_⟩
      · refine ⟨_, rfl, _, _, _, _, rfl, e1'.ty, k2, _, rfl, _, _, _, _, rfl, e2'.ty, k2, rfl, _, rfl, ?_⟩
        exact iteNS rfl ⟨rfl, rfl⟩
      · rintro _ _ ⟨rfl, rfl⟩
        refine ⟨fun σ H' => σ = [some (.ref a), some (.ref a'), none] ∧ H' = upd H p (.tup [.ty "list", .ty "tuple"]), ?_, ?_⟩
        · refine ⟨_, rfl, a, xs, rfl, e1'.len, _, rfl, a', ys, rfl, e2'.len, rfl, _, rfl, ?_⟩
          exact iteNS (show V.int (xs.length : Int) = V.int (ys.length : Int) by rw [← l1, ← l2]) ⟨rfl, rfl⟩
        rintro _ _ ⟨rfl, rfl⟩
        refine ⟨_, rfl, a', ys, rfl, e2'.len, _, rfl, by first | lia | omega, by first | lia | omega, ?_⟩
        rw [Int.toNat_natCast]
        refine comp_range (n := ys.length) (by rw [sizeLine_eq]; (first | lia | omega)) (fun i τ zs H' => (∃ o, τ = [some (.ref a), some (.ref a'), o]) ∧ Same H H' ∧ zs = (List.replicate i true).map V.bl) ⟨⟨none, rfl⟩, s1, rfl⟩ ?_ ?_
        · rintro i _ _ H1 hi hl ⟨⟨o, rfl⟩, s2, rfl⟩
          obtain ⟨v1, hv1⟩ : ∃ v, xs[i]? = some v := ⟨xs[i]'(by first | lia | omega), List.getElem?_eq_getElem _⟩
          obtain ⟨v2, hv2⟩ : ∃ v, ys[i]? = some v := ⟨ys[i]'hi, List.getElem?_eq_getElem _⟩
          obtain ⟨d1, hd1, rp1⟩ := (r1.same s2).get hv1
          obtain ⟨d2, hd2, rp2⟩ := (r2.same s2).get hv2
          rw [hd1] at hd2
          cases hd2
          have wm := wds_mem (List.mem_of_getElem? hd1)
          have ei : (0 : Int) + (i : Int) = (i : Int) := Int.zero_add _
          refine ⟨_, rfl, _, rfl, (q1.same s2).ix (by rw [ei]; exact atI_nat hv1) ?_⟩
          refine ⟨_, rfl, _, rfl, (q2.same s2).ix (by rw [ei]; exact atI_nat hv2) ?_⟩
          refine ⟨d1, v1, v2, rfl, rp1, rp2, by first | lia | omega, by first | lia | omega, fun H2 s3 => ?_⟩
          refine nxt hi hl ⟨⟨_, rfl⟩, s2.trans s3, ?_⟩
          rw [List.replicate_succ', List.map_append]
          rfl
        · rintro _ _ H1 D hl ⟨⟨o, rfl⟩, s2, rfl⟩ hD
          refine ⟨D, _, rfl, SqL.of upd_same, ?_⟩
          have : (List.replicate ys.length true).all id = true := by simp
          rw [this]
          exact q _ (s2.trans (Same.new hD _))
theorem alike_none {f0 : Addr} {fd : FuncData} : FnOk P w K mg base CX0 0 f0 fd ["_law_found", "_law_due_here"] (spAlike K 0) := by
  have no : ∀ vs H Q E, ¬ spAlike K 0 vs H Q E := fun vs H Q E h => by
    obtain ⟨d, x, y, _, _, _, h1, _⟩ := h
    (first | lia | omega)
  exact ⟨fun vs H Q E h => absurd h (no vs H Q E), fun A outer s H args us vs Q E _ _ _ _ h => absurd h (no vs H Q E)⟩
theorem ok_law_alike {f0 : Addr} {fd : FuncData} (F : Fun K "_law_alike" "_law_alike" s_law_alike f0 fd) (B : Bl mg) (m : mg "_law_alike" = some (.ref f0)) (b : Binds K fd ["_law_found", "_law_due_here"] []) : ∀ n, FnOk P w K mg base CX0 n f0 fd ["_law_found", "_law_due_here"] (spAlike K n)
  | 0 => alike_none
  | n + 1 => alike_turn F B (.of F m b (ok_law_alike F B m b n))
theorem pol_sm {H H' : Hp} {v : V} {P : List Int} {B : Int} {f : Addr} (h : Pol H v P B) (F : Flow H f) (s : Sm f H H') : Pol H' v P B := by
  obtain ⟨a, t, e, h1, h2⟩ := h
  obtain ⟨l, ns, i, c, a', b', g1, _⟩ := F
  exact ⟨a, t, e, s _ _ (ne_of h1 g1 (fun z => by cases z)) h1, s _ _ (ne_of h2 g1 (fun z => by cases z)) h2⟩
/-! ### laid -/
/-- the letter, laid -/
theorem lay_X {H : Hp} {r0 r1 : Addr} (h0 : H r0 = none) (h1 : upd H r0 (.tup [.int 0, .int 1]) r1 = none) : Pol (upd (upd H r0 (.tup [.int 0, .int 1])) r1 (.tup [.ref r0, .int 1])) (.ref r1) Pc.X 1 ∧ Same H (upd (upd H r0 (.tup [.int 0, .int 1])) r1 (.tup [.ref r0, .int 1])) :=
  ⟨⟨r1, r0, rfl, upd_same, Same.new h1 _ _ _ upd_same⟩, (Same.new h0 _).trans (Same.new h1 _)⟩
theorem lt9 {m : Int} (h : m.natAbs ≤ 1000000000) : Lt2 9000 m := Lt2.of 1000000000 h (Nat.lt_of_lt_of_le (show 1000000000 < 2 ^ 30 by decide) (Nat.pow_le_pow_right (by decide) (by decide)))
theorem sc_law_product : FnScope ["_law_one", "_law_other"] ["_law_one", "_law_other"] (defScope s_law_product) := ⟨rfl, rfl, rfl, by decide +kernel, rfl, by decide +kernel, by decide +kernel⟩
theorem ok_law_product {f0 : Addr} {fd : FuncData} (F : Fun K "_law_product" "_law_product" s_law_product f0 fd) (B : Bl mg) (g_law_fraction : Def P w K mg base "_law_fraction" 2 ["_law_top", "_law_bottom"] spFrac) : FnOk P w K mg base CX0 3 f0 fd ["_law_one", "_law_other"] (spMultiplied K) := by
  refine F.ok sc_law_product (fun vs H Q E h => ?_) (fun cdv A outer s H vs Q E hr h => ?_)
  · obtain ⟨p1, p2, t1, b1, t2, b2, rfl, _⟩ := h
    rfl
  obtain ⟨p1, p2, t1, b1, t2, b2, rfl, h1, h2, n1, n2, hk, l1, l2, l3, l4, q⟩ := h
  have nd := sc_law_product.nd
  refine ⟨_, (@pss_one _ _ _ (@ps_ret _ _ _ _ (@pe_def _ _ _ _ _ _ _ _ _ _ _ g_law_fraction hr (@pa_cons _ _ _ _ _ (@pe_op _ _ _ _ _ _ _ _ op_mulB (@pe_ix _ _ _ _ _ _ _ (ixT K) (@pv _ 0 _ _ (by rfl) (by first | exact Or.inl rfl | exact Or.inr (Or.inl rfl) | exact Or.inr (Or.inr rfl)) (by decide) (by decide)) pe_int (fun _ _ => rfl)) (@pe_ix _ _ _ _ _ _ _ (ixT K) (@pv _ 1 _ _ (by rfl) (by first | exact Or.inl rfl | exact Or.inr (Or.inl rfl) | exact Or.inr (Or.inr rfl)) (by decide) (by decide)) pe_int (fun _ _ => rfl))) (@pa_cons _ _ _ _ _ (@pe_op _ _ _ _ _ _ _ _ op_mulB (@pe_ix _ _ _ _ _ _ _ (ixT K) (@pv _ 0 _ _ (by rfl) (by first | exact Or.inl rfl | exact Or.inr (Or.inl rfl) | exact Or.inr (Or.inr rfl)) (by decide) (by decide)) pe_int (fun _ _ => rfl)) (@pe_ix _ _ _ _ _ _ _ (ixT K) (@pv _ 1 _ _ (by rfl) (by first | exact Or.inl rfl | exact Or.inr (Or.inl rfl) | exact Or.inr (Or.inr rfl)) (by decide) (by decide)) pe_int (fun _ _ => rfl))) pa_nil (by rfl)) (by rfl)) (by first | decide | omega | exact Nat.le_refl _) (by rfl) (by decide) (by rfl) (by rfl)))), ?_⟩
  refine ⟨_, rfl, p1, _, 0, _, rfl, rfl, h1, rfl, _, rfl, p2, _, 0, _, rfl, rfl, h2, rfl, _, _, rfl, rfl, ⟨_, _, l1, l3, by decide⟩, _, rfl, p1, _, 1, _, rfl, rfl, h1, rfl, _, rfl, p2, _, 1, _, rfl, rfl, h2, rfl, _, _, rfl, rfl, ⟨_, _, l2, l4, by decide⟩, _, _, rfl, ?_⟩
  exact ⟨Int.ne_of_gt (Int.mul_pos n1 n2), ⟨4000, by decide, l2.mul l4⟩, q⟩
theorem sc_law_divided : FnScope ["_law_one", "_law_other"] ["_law_one", "_law_other"] (defScope s_law_divided) := ⟨rfl, rfl, rfl, by decide +kernel, rfl, by decide +kernel, by decide +kernel⟩
theorem ok_law_divided {f0 : Addr} {fd : FuncData} (F : Fun K "_law_divided" "_law_divided" s_law_divided f0 fd) (B : Bl mg) (g_law_fraction : Def P w K mg base "_law_fraction" 2 ["_law_top", "_law_bottom"] spFrac) : FnOk P w K mg base CX0 3 f0 fd ["_law_one", "_law_other"] (spDivided K) := by
  refine F.ok sc_law_divided (fun vs H Q E h => ?_) (fun cdv A outer s H vs Q E hr h => ?_)
  · obtain ⟨p1, p2, t1, b1, t2, b2, rfl, _⟩ := h
    rfl
  obtain ⟨p1, p2, t1, b1, t2, b2, rfl, h1, h2, n1, n2, hk, l1, l2, l3, l4, q⟩ := h
  have nd := sc_law_divided.nd
  refine ⟨_, (@pss_one _ _ _ (@ps_ret _ _ _ _ (@pe_def _ _ _ _ _ _ _ _ _ _ _ g_law_fraction hr (@pa_cons _ _ _ _ _ (@pe_op _ _ _ _ _ _ _ _ op_mulB (@pe_ix _ _ _ _ _ _ _ (ixT K) (@pv _ 0 _ _ (by rfl) (by first | exact Or.inl rfl | exact Or.inr (Or.inl rfl) | exact Or.inr (Or.inr rfl)) (by decide) (by decide)) pe_int (fun _ _ => rfl)) (@pe_ix _ _ _ _ _ _ _ (ixT K) (@pv _ 1 _ _ (by rfl) (by first | exact Or.inl rfl | exact Or.inr (Or.inl rfl) | exact Or.inr (Or.inr rfl)) (by decide) (by decide)) pe_int (fun _ _ => rfl))) (@pa_cons _ _ _ _ _ (@pe_op _ _ _ _ _ _ _ _ op_mulB (@pe_ix _ _ _ _ _ _ _ (ixT K) (@pv _ 0 _ _ (by rfl) (by first | exact Or.inl rfl | exact Or.inr (Or.inl rfl) | exact Or.inr (Or.inr rfl)) (by decide) (by decide)) pe_int (fun _ _ => rfl)) (@pe_ix _ _ _ _ _ _ _ (ixT K) (@pv _ 1 _ _ (by rfl) (by first | exact Or.inl rfl | exact Or.inr (Or.inl rfl) | exact Or.inr (Or.inr rfl)) (by decide) (by decide)) pe_int (fun _ _ => rfl))) pa_nil (by rfl)) (by rfl)) (by first | decide | omega | exact Nat.le_refl _) (by rfl) (by decide) (by rfl) (by rfl)))), ?_⟩
  refine ⟨_, rfl, p1, _, 0, _, rfl, rfl, h1, rfl, _, rfl, p2, _, 1, _, rfl, rfl, h2, rfl, _, _, rfl, rfl, ⟨_, _, l1, l4, by decide⟩, _, rfl, p1, _, 1, _, rfl, rfl, h1, rfl, _, rfl, p2, _, 0, _, rfl, rfl, h2, rfl, _, _, rfl, rfl, ⟨_, _, l2, l3, by decide⟩, _, _, rfl, ?_⟩
  exact ⟨Int.mul_ne_zero (Int.ne_of_gt n1) hk, ⟨4000, by decide, l2.mul l3⟩, q⟩
/-! ### the law's own look at a coefficient -/
theorem sc_law_at : FnScope ["_law_p", "_law_k"] ["_law_p", "_law_k"] (defScope s_law_at) := ⟨rfl, rfl, rfl, by decide +kernel, rfl, by decide +kernel, by decide +kernel⟩
theorem ok_law_at {f0 : Addr} {fd : FuncData} (F : Fun K "_law_at" "_law_at" s_law_at f0 fd) (B : Bl mg) (g_law_fraction : Def P w K mg base "_law_fraction" 2 ["_law_top", "_law_bottom"] spFrac) : FnOk P w K mg base CX0 3 f0 fd ["_law_p", "_law_k"] (spFAtQ K) := by
  refine F.ok sc_law_at (fun vs H Q E h => ?_) (fun cdv A outer s H vs Q E hr h => ?_)
  · obtain ⟨v, P1, B1, k, n, b, rfl, _⟩ := h
    rfl
  obtain ⟨v, P1, B1, k, n, b, rfl, ⟨a, t, rfl, h1, h2⟩, z1, hb, q⟩ := h
  have nd := sc_law_at.nd
  refine ⟨_, (@pss_cut _ _ _ _ _ (@ps_if _ _ _ _ _ _ _ _ (@pt_cmpR _ _ _ _ _ _ _ _ op_ge (@pv _ 1 _ _ (by rfl) (by first | exact Or.inl rfl | exact Or.inr (Or.inl rfl) | exact Or.inr (Or.inr rfl)) (by decide) (by decide)) (@pe_callB _ _ _ _ _ _ _ _ _ (lenS K) rfl B.len bt_len (@pa_cons _ _ _ _ _ (@pe_ix _ _ _ _ _ _ _ (ixT K) (@pv _ 0 _ _ (by rfl) (by first | exact Or.inl rfl | exact Or.inr (Or.inl rfl) | exact Or.inr (Or.inr rfl)) (by decide) (by decide)) pe_int (fun _ _ => rfl)) pa_nil (by rfl)) (by decide) (by decide) (by rfl) (by rfl)) (nomark _)) (@pss_one _ _ _ (@ps_ret _ _ _ _ (@pe_tup _ _ _ _ _ (@pa_cons _ _ _ _ _ pe_int (@pa_cons _ _ _ _ _ pe_int pa_nil (by rfl)) (by rfl))))) pss_nil) (@pss_one _ _ _ (@ps_ret _ _ _ _ (@pe_def _ _ _ _ _ _ _ _ _ _ _ g_law_fraction hr (@pa_cons _ _ _ _ _ (@pe_ix _ _ _ _ _ _ _ (ixT K) (@pe_ix _ _ _ _ _ _ _ (ixT K) (@pv _ 0 _ _ (by rfl) (by first | exact Or.inl rfl | exact Or.inr (Or.inl rfl) | exact Or.inr (Or.inr rfl)) (by decide) (by decide)) pe_int (fun _ _ => rfl)) (@pv _ 1 _ _ (by rfl) (by first | exact Or.inl rfl | exact Or.inr (Or.inl rfl) | exact Or.inr (Or.inr rfl)) (by decide) (by decide)) (fun _ _ => rfl)) (@pa_cons _ _ _ _ _ (@pe_ix _ _ _ _ _ _ _ (ixT K) (@pv _ 0 _ _ (by rfl) (by first | exact Or.inl rfl | exact Or.inr (Or.inl rfl) | exact Or.inr (Or.inr rfl)) (by decide) (by decide)) pe_int (fun _ _ => rfl)) pa_nil (by rfl)) (by rfl)) (by first | decide | omega | exact Nat.le_refl _) (by rfl) (by decide) (by rfl) (by rfl))))), ?_⟩
  have k1 := SqT.of (K := K) h1
  have k2 := SqT.of (K := K) h2
  have p1 := z1.fm.pos
  refine ⟨fun σ H' => σ = [some (.ref a), some (.int k)] ∧ H' = H ∧ k < P1.length, ?_, ?_⟩
  · refine ⟨_, rfl, _, rfl, a, _, 0, _, rfl, rfl, k1, rfl, t, _, rfl, .inr k2, _, _, rfl, rfl, _, rfl, ?_⟩
    rw [List.length_map]
    refine ite2 (fun c => ?_) (fun c => ?_)
    · have c' : (P1.length : Int) ≤ (k : Int) := of_decide_eq_true c
      refine ⟨(by show 2 ≤ sizeLine; decide), fun p hp => ?_⟩
      refine q _ _ (Same.new hp _) ?_
      rw [Qp.q_out (by first | lia | omega)]
      have := Fq.lay (n := n) (SqT.of (K := K) (upd_same (H := H) (a := p) (o := .tup [.int 0, .int 1]))) (Nat.pow_pos (by decide))
      refine this.mono (Nat.le_refl _) ?_
      cases b with
      | zero =>
        have : B1.natAbs < 1 := z1.bot
        (first | lia | omega)
      | succ b => (first | lia | omega)
    · have c' : ¬ (P1.length : Int) ≤ (k : Int) := of_decide_eq_false (Bool.eq_false_iff.mpr c)
      exact ⟨rfl, rfl, by first | lia | omega⟩
  · rintro _ _ ⟨rfl, rfl, hk⟩
    refine ⟨_, rfl, a, _, 0, _, rfl, rfl, k1, rfl, _, rfl, t, _, _, _, rfl, rfl, k2, atI_nat (at_int hk), _, rfl, a, _, 1, _, rfl, rfl, k1, rfl, _, _, rfl, by first | lia | omega, ⟨b, hb, z1.bot⟩, fun p H1 s1 hp => ?_⟩
    exact q _ H1 s1 (Fq.of (SqT.of hp) (by first | lia | omega) (z1.tops k) z1.bot)
end
end My

set_option maxHeartbeats 4000000
namespace My
open PySem L2
section
variable {P : Program} {w : World} {K : PySem.W.Frag} {mg : Str → Option Value} {base : Heap}
/-! ### drawn fractions, polynomials, straight ones -/
theorem sqt_sm {H H' : Hp} {f a : Addr} {xs : List V} (F : Flow H f) (s : Sm f H H') (h : SqT K H a xs) : SqT K H' a xs := by
  obtain ⟨l, ns, i, c, a', b', g1, _⟩ := F
  rcases h with (h | ⟨ob, h⟩) | h
  · exact .inl (.inl (s a _ (ne_of h g1 (fun z => by cases z)) h))
  · exact .inl (.inr ⟨ob, s a _ (ne_of h g1 (fun z => by cases z)) h⟩)
  · exact .inr h
theorem fq_sm {H H' : Hp} {f : Addr} {v : V} {r : Rat} {n b : Nat} (h : Fq K n b H v r) (F : Flow H f) (s : Sm f H H') : Fq K n b H' v r := by
  obtain ⟨p, t, u, e, q, z⟩ := h
  exact ⟨p, t, u, e, sqt_sm F s q, z⟩
def spAnyF (K : PySem.W.Frag) : Sp := fun vs H Q _ => ∃ (f : Addr) (m : Int) (M : Nat), vs = [.ref f, .int m] ∧ Flow H f ∧ 1 ≤ m ∧ Lt2 M m ∧ 2 ≤ M ∧ M ≤ 4000 ∧ ∀ v r H', Fq K M M H' v r → Flow H' f → Sm f H H' → Q v H'
theorem sc_law_any_fraction : FnScope ["_law_flow_here", "_law_most"] ["_law_flow_here", "_law_most"] (defScope s_law_any_fraction) := ⟨rfl, rfl, rfl, by decide +kernel, rfl, by decide +kernel, by decide +kernel⟩
theorem ok_law_any_fraction {f0 : Addr} {fd : FuncData} (F : Fun K "_law_any_fraction" "_law_any_fraction" s_law_any_fraction f0 fd) (B : Bl mg) (g_law_pick : Def P w K mg base "_law_pick" 1 ["_law_flow_here", "_law_many"] spPickB) (g_law_number : Def P w K mg base "_law_number" 2 ["_law_flow_here", "_law_most"] spNumber)
    (g_law_fraction : Def P w K mg base "_law_fraction" 2 ["_law_top", "_law_bottom"] spFrac) : FnOk P w K mg base CX0 3 f0 fd ["_law_flow_here", "_law_most"] (spAnyF K) := by
  refine F.ok sc_law_any_fraction (fun vs H Q E h => ?_) (fun cdv A outer s H vs Q E hr h => ?_)
  · obtain ⟨f, m, M, rfl, _⟩ := h
    rfl
  obtain ⟨f, m, M, rfl, hF, m1, lm, M2, M4, q⟩ := h
  have nd := sc_law_any_fraction.nd
  refine ⟨_, (@pss_one _ _ _ (@ps_ret _ _ _ _ (@pe_def _ _ _ _ _ _ _ _ _ _ _ g_law_fraction hr (@pa_cons _ _ _ _ _ (@pe_def _ _ _ _ _ _ _ _ _ _ _ g_law_number hr (@pa_cons _ _ _ _ _ (@pv _ 0 _ _ (by rfl) (by first | exact Or.inl rfl | exact Or.inr (Or.inl rfl) | exact Or.inr (Or.inr rfl)) (by decide) (by decide)) (@pa_cons _ _ _ _ _ (@pv _ 1 _ _ (by rfl) (by first | exact Or.inl rfl | exact Or.inr (Or.inl rfl) | exact Or.inr (Or.inr rfl)) (by decide) (by decide)) pa_nil (by rfl)) (by rfl)) (by first | decide | omega | exact Nat.le_refl _) (by rfl) (by decide) (by rfl) (by rfl)) (@pa_cons _ _ _ _ _ (@pe_op _ _ _ _ _ _ _ _ op_add pe_int (@pe_def _ _ _ _ _ _ _ _ _ _ _ g_law_pick hr (@pa_cons _ _ _ _ _ (@pv _ 0 _ _ (by rfl) (by first | exact Or.inl rfl | exact Or.inr (Or.inl rfl) | exact Or.inr (Or.inr rfl)) (by decide) (by decide)) (@pa_cons _ _ _ _ _ (@pe_ix _ _ _ _ _ _ _ (ixL K) (@pe_lst _ _ _ _ (@pa_cons _ _ _ _ _ pe_int (@pa_cons _ _ _ _ _ pe_int (@pa_cons _ _ _ _ _ pe_int (@pa_cons _ _ _ _ _ (@pv _ 1 _ _ (by rfl) (by first | exact Or.inl rfl | exact Or.inr (Or.inl rfl) | exact Or.inr (Or.inr rfl)) (by decide) (by decide)) pa_nil (by rfl)) (by rfl)) (by rfl)) (by rfl))) (@pe_def _ _ _ _ _ _ _ _ _ _ _ g_law_pick hr (@pa_cons _ _ _ _ _ (@pv _ 0 _ _ (by rfl) (by first | exact Or.inl rfl | exact Or.inr (Or.inl rfl) | exact Or.inr (Or.inr rfl)) (by decide) (by decide)) (@pa_cons _ _ _ _ _ pe_int pa_nil (by rfl)) (by rfl)) (by first | decide | omega | exact Nat.le_refl _) (by rfl) (by decide) (by rfl) (by rfl)) (fun _ _ => rfl)) pa_nil (by rfl)) (by rfl)) (by first | decide | omega | exact Nat.le_refl _) (by rfl) (by decide) (by rfl) (by rfl))) pa_nil (by rfl)) (by rfl)) (by first | decide | omega | exact Nat.le_refl _) (by rfl) (by decide) (by rfl) (by rfl)))), ?_⟩
  refine ⟨_, rfl, _, rfl, f, m, rfl, hF, by first | lia | omega, lm.mono (by first | lia | omega), fun z H1 z0 z1 F1 s1 => ?_⟩
  refine ⟨_, rfl, _, rfl, (by show 4 ≤ sizeLine; decide), fun p hp => ?_⟩
  have c1 := Same.new hp (.lst [.int 1, .int 1, .int 3, .int m])
  refine ⟨_, rfl, f, 4, rfl, F1.sm c1, by decide, lt9 (by decide), fun d H2 d0 d1 F2 s2 => ?_⟩
  obtain ⟨u, eu, u0, lu⟩ : ∃ u : Int, atI [V.int 1, V.int 1, V.int 3, V.int m] d = some (.int u) ∧ 1 ≤ u ∧ Lt2 M u := by
    have l3 : Lt2 M 3 := (show Lt2 2 3 by decide).mono M2
    rcases (by first | lia | omega : d = 0 ∨ d = 1 ∨ d = 2 ∨ d = 3) with rfl | rfl | rfl | rfl
    · exact ⟨1, rfl, by decide, l3.le (by decide)⟩
    · exact ⟨1, rfl, by decide, l3.le (by decide)⟩
    · exact ⟨3, rfl, by decide, l3⟩
    · exact ⟨m, rfl, m1, lm⟩
  refine ⟨p, _, d, _, rfl, rfl, SqL.of (s2 p _ (F1.ne hp) upd_same), eu, f, u, rfl, F2, by first | lia | omega, lu.mono (by first | lia | omega), fun e H3 e0 e1 F3 s3 => ⟨_, _, rfl, rfl, ?_⟩⟩
  have lb : Lt2 M (1 + e) := lu.le (by first | lia | omega)
  refine ⟨z, 1 + e, rfl, by first | lia | omega, ⟨M, by first | lia | omega, lb⟩, fun pp H4 s4 hpp => ?_⟩
  exact q _ _ H4 (Fq.of (SqT.of hpp) (by first | lia | omega) (lm.le (by first | lia | omega)) lb) (F3.sm s4) (((s1.trans c1.sm).trans s2).trans (s3.trans s4.sm))
def spAnyP (K : PySem.W.Frag) : Sp := fun vs H Q _ => ∃ (f : Addr) (N : Nat) (m : Int) (M : Nat), vs = [.ref f, .int N, .int m] ∧ Flow H f ∧ N ≤ 100 ∧ 1 ≤ m ∧ Lt2 M m ∧ M ≤ 4000 ∧
  ∀ v P B H', Pol H' v P B → Pc.Pz M 3 P B → P.length = N + 1 → Flow H' f → Sm f H H' → Q v H'
theorem sc_law_any_poly : FnScope ["_law_flow_here", "_law_many", "_law_most", "_law_tops", "_law_k", "_law_first"] ["_law_flow_here", "_law_many", "_law_most"] (defScope s_law_any_poly) := ⟨rfl, rfl, rfl, by decide +kernel, rfl, by decide +kernel, by decide +kernel⟩
theorem ok_law_any_poly {f0 : Addr} {fd : FuncData} (F : Fun K "_law_any_poly" "_law_any_poly" s_law_any_poly f0 fd) (B : Bl mg) (g_law_pick : Def P w K mg base "_law_pick" 1 ["_law_flow_here", "_law_many"] spPickB) (g_law_number : Def P w K mg base "_law_number" 2 ["_law_flow_here", "_law_most"] spNumber)
    (g_law_poly : Def P w K mg base "_law_poly" 2 ["_law_tops", "_law_bottom"] (spLPoly K)) : FnOk P w K mg base CX0 3 f0 fd ["_law_flow_here", "_law_many", "_law_most"] (spAnyP K) := by
  refine F.ok sc_law_any_poly (fun vs H Q E h => ?_) (fun cdv A outer s H vs Q E hr h => ?_)
  · obtain ⟨f, N, m, M, rfl, _⟩ := h
    rfl
  obtain ⟨f, N, m, M, rfl, hF, hN, m1, lm, M4, q⟩ := h
  have nd := sc_law_any_poly.nd
  refine ⟨_, (@pss_cons _ _ _ _ _ (@ps_setC _ _ _ _ _ _ _ _ _ _ _ _ 3 _ _ _ rfl nd rfl (by first | exact Or.inl rfl | exact Or.inr rfl) (show CompS ["_law_flow_here", "_law_many", "_law_most", "_law_tops", "_law_k", "_law_first"] (defScope s_law_any_poly) _ [4] from by exact ⟨rfl, by decide +kernel, by decide +kernel, by decide +kernel, by decide +kernel⟩) (@pi_range1 _ _ _ _ _ _ rfl B.range (@pa_cons _ _ _ _ _ (@pv _ 1 _ _ (by rfl) (by first | exact Or.inl rfl | exact Or.inr (Or.inl rfl) | exact Or.inr (Or.inr rfl)) (by decide) (by decide)) pa_nil (by rfl)) (by rfl)) (fun _ _ _ _ _ => (@pg_name _ _ 4 _ nd rfl (by first | exact Or.inl rfl | exact Or.inr rfl) (by first | exact .inl rfl | exact .inr rfl | assumption))) (fun _ _ _ _ _ => pts_nil) (fun _ _ _ _ _ => (@pe_op _ _ _ _ _ _ _ _ op_mulB (@pe_def _ _ _ _ _ _ _ _ _ _ _ g_law_number hr (@pa_cons _ _ _ _ _ (@pv _ 0 _ _ (by rfl) (by first | exact Or.inl rfl | exact Or.inr (Or.inl rfl) | exact Or.inr (Or.inr rfl)) (by decide) (by decide)) (@pa_cons _ _ _ _ _ (@pv _ 2 _ _ (by rfl) (by first | exact Or.inl rfl | exact Or.inr (Or.inl rfl) | exact Or.inr (Or.inr rfl)) (by decide) (by decide)) pa_nil (by rfl)) (by rfl)) (by first | decide | omega | exact Nat.le_refl _) (by rfl) (by decide) (by rfl) (by rfl)) (@pe_callTy _ _ _ _ _ _ _ _ _ call_int1 rfl B.int bt_int (@pa_cons _ _ _ _ _ (@pe_cmpR _ _ _ _ _ _ _ _ op_gt (@pe_def _ _ _ _ _ _ _ _ _ _ _ g_law_pick hr (@pa_cons _ _ _ _ _ (@pv _ 0 _ _ (by rfl) (by first | exact Or.inl rfl | exact Or.inr (Or.inl rfl) | exact Or.inr (Or.inr rfl)) (by decide) (by decide)) (@pa_cons _ _ _ _ _ pe_int pa_nil (by rfl)) (by rfl)) (by first | decide | omega | exact Nat.le_refl _) (by rfl) (by decide) (by rfl) (by rfl)) pe_int (nomark _)) pa_nil (by rfl)) (by decide) (by decide) (by rfl) (by rfl)))) (by intro _; rfl) (by rfl) (by first | exact .inl rfl | exact .inr rfl | assumption)) (@pss_cons _ _ _ _ _ (@ps_set _ _ 5 _ _ _ _ nd rfl (by first | exact Or.inl rfl | exact Or.inr rfl) (@pe_ix _ _ _ _ _ _ _ (ixL K) (@pe_lst _ _ _ _ (@pa_cons _ _ _ _ _ pe_int (@pa_cons _ _ _ _ _ (@pe_op _ _ _ _ _ _ _ _ op_sub pe_int pe_int) (@pa_cons _ _ _ _ _ (@pe_op _ _ _ _ _ _ _ _ op_add pe_int (@pe_def _ _ _ _ _ _ _ _ _ _ _ g_law_pick hr (@pa_cons _ _ _ _ _ (@pv _ 0 _ _ (by rfl) (by first | exact Or.inl rfl | exact Or.inr (Or.inl rfl) | exact Or.inr (Or.inr rfl)) (by decide) (by decide)) (@pa_cons _ _ _ _ _ (@pv _ 2 _ _ (by rfl) (by first | exact Or.inl rfl | exact Or.inr (Or.inl rfl) | exact Or.inr (Or.inr rfl)) (by decide) (by decide)) pa_nil (by rfl)) (by rfl)) (by first | decide | omega | exact Nat.le_refl _) (by rfl) (by decide) (by rfl) (by rfl))) (@pa_cons _ _ _ _ _ (@pe_op _ _ _ _ _ _ _ _ op_sub (@pe_op _ _ _ _ _ _ _ _ op_sub pe_int pe_int) (@pe_def _ _ _ _ _ _ _ _ _ _ _ g_law_pick hr (@pa_cons _ _ _ _ _ (@pv _ 0 _ _ (by rfl) (by first | exact Or.inl rfl | exact Or.inr (Or.inl rfl) | exact Or.inr (Or.inr rfl)) (by decide) (by decide)) (@pa_cons _ _ _ _ _ (@pv _ 2 _ _ (by rfl) (by first | exact Or.inl rfl | exact Or.inr (Or.inl rfl) | exact Or.inr (Or.inr rfl)) (by decide) (by decide)) pa_nil (by rfl)) (by rfl)) (by first | decide | omega | exact Nat.le_refl _) (by rfl) (by decide) (by rfl) (by rfl))) pa_nil (by rfl)) (by rfl)) (by rfl)) (by rfl))) (@pe_def _ _ _ _ _ _ _ _ _ _ _ g_law_pick hr (@pa_cons _ _ _ _ _ (@pv _ 0 _ _ (by rfl) (by first | exact Or.inl rfl | exact Or.inr (Or.inl rfl) | exact Or.inr (Or.inr rfl)) (by decide) (by decide)) (@pa_cons _ _ _ _ _ pe_int pa_nil (by rfl)) (by rfl)) (by first | decide | omega | exact Nat.le_refl _) (by rfl) (by decide) (by rfl) (by rfl)) (fun _ _ => rfl)) (by rfl) (by first | exact .inl rfl | exact .inr rfl | assumption)) (@pss_one _ _ _ (@ps_ret _ _ _ _ (@pe_def _ _ _ _ _ _ _ _ _ _ _ g_law_poly hr (@pa_cons _ _ _ _ _ (@pe_op _ _ _ _ _ _ _ _ op_cat (@pv _ 3 _ _ (by rfl) (by first | exact Or.inl rfl | exact Or.inr (Or.inl rfl) | exact Or.inr (Or.inr rfl)) (by decide) (by decide)) (@pe_lst _ _ _ _ (@pa_cons _ _ _ _ _ (@pv _ 5 _ _ (by rfl) (by first | exact Or.inl rfl | exact Or.inr (Or.inl rfl) | exact Or.inr (Or.inr rfl)) (by decide) (by decide)) pa_nil (by rfl)))) (@pa_cons _ _ _ _ _ (@pe_op _ _ _ _ _ _ _ _ op_add pe_int (@pe_def _ _ _ _ _ _ _ _ _ _ _ g_law_pick hr (@pa_cons _ _ _ _ _ (@pv _ 0 _ _ (by rfl) (by first | exact Or.inl rfl | exact Or.inr (Or.inl rfl) | exact Or.inr (Or.inr rfl)) (by decide) (by decide)) (@pa_cons _ _ _ _ _ (@pe_ix _ _ _ _ _ _ _ (ixL K) (@pe_lst _ _ _ _ (@pa_cons _ _ _ _ _ pe_int (@pa_cons _ _ _ _ _ pe_int (@pa_cons _ _ _ _ _ pe_int (@pa_cons _ _ _ _ _ pe_int pa_nil (by rfl)) (by rfl)) (by rfl)) (by rfl))) (@pe_def _ _ _ _ _ _ _ _ _ _ _ g_law_pick hr (@pa_cons _ _ _ _ _ (@pv _ 0 _ _ (by rfl) (by first | exact Or.inl rfl | exact Or.inr (Or.inl rfl) | exact Or.inr (Or.inr rfl)) (by decide) (by decide)) (@pa_cons _ _ _ _ _ pe_int pa_nil (by rfl)) (by rfl)) (by first | decide | omega | exact Nat.le_refl _) (by rfl) (by decide) (by rfl) (by rfl)) (fun _ _ => rfl)) pa_nil (by rfl)) (by rfl)) (by first | decide | omega | exact Nat.le_refl _) (by rfl) (by decide) (by rfl) (by rfl))) pa_nil (by rfl)) (by rfl)) (by first | decide | omega | exact Nat.le_refl _) (by rfl) (by decide) (by rfl) (by rfl)))))), ?_⟩
  refine ⟨_, rfl, N, rfl, by first | lia | omega, by first | lia | omega, ?_⟩
  refine comp_range (n := N) (by rw [sizeLine_eq]; (first | lia | omega)) (fun j τ ys H' => (∃ o, τ = [some (.ref f), some (.int N), some (.int m), none, o, none]) ∧ Flow H' f ∧ Sm f H H' ∧ ∃ ts : List Int, ys = ts.map V.int ∧ ∀ t ∈ ts, Lt2 M t) ⟨⟨none, rfl⟩, hF, Sm.refl H, [], rfl, fun t h => absurd h List.not_mem_nil⟩ ?_ ?_
  · rintro j _ _ H1 hj hy ⟨⟨o, rfl⟩, F1, s1, ts, rfl, ht⟩
    refine ⟨_, rfl, _, rfl, f, m, rfl, F1, by first | lia | omega, lm.mono (by first | lia | omega), fun z H2 z0 z1 F2 s2 => ?_⟩
    refine ⟨_, rfl, f, 4, rfl, F2, by decide, lt9 (by decide), fun d H3 d0 d1 F3 s3 => ?_⟩
    refine ⟨_, _, rfl, rfl, .inr ⟨_, rfl, _, _, rfl, rfl, ?_⟩⟩
    have lz : Lt2 M z := lm.le (by first | lia | omega)
    obtain ⟨g, eg, lg⟩ : ∃ g : Int, (if decide ((0 : Int) < d) = true then (1 : Int) else 0) = g ∧ (g = 0 ∨ g = 1) := by
      by_cases c : (0 : Int) < d
      · exact ⟨1, by rw [decide_eq_true c]; rfl, .inr rfl⟩
      · exact ⟨0, by rw [decide_eq_false c]; rfl, .inl rfl⟩
    refine ⟨⟨M, 1, lz, by rw [eg]; rcases lg with w | w <;> rw [w] <;> decide, by first | lia | omega⟩, nxt hj hy ⟨⟨_, rfl⟩, F3, s1.trans (s2.trans s3), ts ++ [z * g], by rw [List.map_append, ← eg]; rfl, fun t h => ?_⟩⟩
    rcases List.mem_append.mp h with w | w
    · exact ht t w
    · rw [List.mem_singleton.mp w]
      refine lz.le ?_
      rcases lg with w | w <;> rw [w] <;> simp
  rintro _ ys H1 D hy ⟨⟨o, rfl⟩, F1, s1, ts, rfl, ht⟩ hD
  rw [List.length_map] at hy
  have c1 := Same.new hD (.lst (ts.map V.int))
  have hD1 := upd_same (H := H1) (a := D) (o := .lst (ts.map V.int))
  have Df := F1.ne hD
  have F1' := F1.sm c1
  have s1' := s1.trans c1.sm
  generalize upd H1 D (.lst (ts.map V.int)) = H1' at *
  refine ⟨_, _, rfl, rfl, _, rfl, _, rfl, f, m, rfl, F1', by first | lia | omega, lm.mono (by first | lia | omega), fun d1 H2 d10 d11 F2 s2 => ⟨_, _, rfl, rfl, ?_⟩⟩
  refine ⟨_, _, rfl, rfl, _, rfl, _, rfl, f, m, rfl, F2, by first | lia | omega, lm.mono (by first | lia | omega), fun d2 H3 d20 d21 F3 s3 => ⟨_, _, rfl, rfl, ?_⟩⟩
  refine ⟨(by show 4 ≤ sizeLine; decide), fun p hp => ?_⟩
  have c2 := Same.new hp (.lst [.int 1, .int (0 - 1), .int (1 + d1), .int (0 - 1 - d2)])
  refine ⟨_, rfl, f, 4, rfl, F3.sm c2, by decide, lt9 (by decide), fun d3 H4 d30 d31 F4 s4 => ?_⟩
  obtain ⟨u, eu, u0, lu⟩ : ∃ u : Int, atI [V.int 1, V.int (0 - 1), V.int (1 + d1), V.int (0 - 1 - d2)] d3 = some (.int u) ∧ u ≠ 0 ∧ Lt2 M u := by
    rcases (by first | lia | omega : d3 = 0 ∨ d3 = 1 ∨ d3 = 2 ∨ d3 = 3) with rfl | rfl | rfl | rfl
    · exact ⟨1, rfl, by decide, lm.le (by first | lia | omega)⟩
    · exact ⟨0 - 1, rfl, by decide, lm.le (by first | lia | omega)⟩
    · exact ⟨_, rfl, by first | lia | omega, lm.le (by first | lia | omega)⟩
    · exact ⟨_, rfl, by first | lia | omega, lm.le (by first | lia | omega)⟩
  have hD4 := s4 _ _ Df (c2 _ _ (s3 _ _ Df (s2 _ _ Df hD1)))
  refine ⟨p, _, d3, _, rfl, rfl, SqL.of (s4 p _ (F3.ne hp) upd_same), eu, ?_⟩
  refine ⟨_, rfl, _, rfl, (by show 1 ≤ sizeLine; decide), fun p2 hp2 => ?_⟩
  have c3 := Same.new hp2 (.lst [.int u])
  refine ⟨D, p2, _, _, rfl, rfl, c3 _ _ hD4, upd_same, (by rw [List.length_map, sizeLine_eq]; show _ + 1 ≤ _; (first | lia | omega)), fun p3 hp3 => ?_⟩
  have c4 := Same.new hp3 (.lst (ts.map V.int ++ [.int u]))
  have F5 := (F4.sm c3).sm c4
  have pf3 : p3 ≠ f := (F4.sm c3).ne hp3
  have hp3' := upd_same (H := upd H4 p2 (.lst [.int u])) (a := p3) (o := .lst (ts.map V.int ++ [.int u]))
  have s15 := (s1'.trans (s2.trans (s3.trans (c2.sm.trans s4)))).trans (c3.sm.trans c4.sm)
  generalize upd (upd H4 p2 (.lst [.int u])) p3 (.lst (ts.map V.int ++ [.int u])) = H5 at *
  refine ⟨_, rfl, (by show 4 ≤ sizeLine; decide), fun p4 hp4 => ?_⟩
  have c5 := Same.new hp4 (.lst [.int 1, .int 1, .int 2, .int 6])
  refine ⟨_, rfl, f, 4, rfl, F5.sm c5, by decide, lt9 (by decide), fun d5 H6 d50 d51 F6 s6 => ?_⟩
  obtain ⟨c, ec, c0, c6⟩ : ∃ c : Int, atI [V.int 1, V.int 1, V.int 2, V.int 6] d5 = some (.int c) ∧ 1 ≤ c ∧ c ≤ 6 := by
    rcases (by first | lia | omega : d5 = 0 ∨ d5 = 1 ∨ d5 = 2 ∨ d5 = 3) with rfl | rfl | rfl | rfl
    · exact ⟨1, rfl, by decide, by decide⟩
    · exact ⟨1, rfl, by decide, by decide⟩
    · exact ⟨2, rfl, by decide, by decide⟩
    · exact ⟨6, rfl, by decide, by decide⟩
  refine ⟨p4, _, d5, _, rfl, rfl, SqL.of (s6 p4 _ (F5.ne hp4) upd_same), ec, f, c, rfl, F6, by first | lia | omega, lt9 (by first | lia | omega), fun d6 H7 d60 d61 F7 s7 => ⟨_, _, rfl, rfl, ?_⟩⟩
  have hp7 := s7 _ _ pf3 (s6 _ _ pf3 (c5 _ _ hp3'))
  have b3 : Lt2 3 (1 + d6) := Lt2.of 6 (by first | lia | omega) (by decide)
  have em : ts.map V.int ++ [V.int u] = (ts ++ [u]).map V.int := by rw [List.map_append]; rfl
  rw [em] at hp7
  have last : (ts ++ [u]).getD N 0 = u := getD_of (by rw [List.getElem?_append_right (by first | lia | omega), hy, Nat.sub_self]; rfl)
  refine ⟨p3, "list", ts ++ [u], 1 + d6, rfl, .inr ⟨rfl, SqL.of hp7⟩, by first | lia | omega, ⟨3, by decide, b3⟩, by rw [List.length_append, hy]; show N + 1 ≤ 1000; (first | lia | omega), fun v P1 B1 H8 s8 hv fm hw hle => ?_⟩
  have pB := fm.pos
  refine q v P1 B1 H8 hv (Pc.Pz.of (f := fun k => (ts ++ [u]).getD k 0) fm (by first | lia | omega) hw (fun k => ?_) b3) ?_ (F7.sm s8) (s15.trans (c5.sm.trans (s6.trans (s7.trans s8.sm))))
  · rcases Nat.lt_or_ge k (ts ++ [u]).length with z | z
    · have := getD_is_mem z
      rcases List.mem_append.mp this with y | y
      · exact ht _ y
      · rw [List.mem_singleton.mp y]; exact lu
    · rw [getD_out z]; exact Nat.pow_pos (by decide)
  · have l1 : P1.length ≤ N + 1 := by rw [List.length_append, hy] at hle; exact hle
    have l2 : N < P1.length := by
      rcases Nat.lt_or_ge N P1.length with z | z
      · exact z
      · have e := hw N
        rw [getD_out z, last, Int.zero_mul] at e
        rcases Int.mul_eq_zero.mp e.symm with y | y
        · exact absurd y u0
        · (first | lia | omega)
    (first | lia | omega)
def spAnyS (K : PySem.W.Frag) : Sp := fun vs H Q _ => ∃ (f : Addr) (m : Int) (M : Nat), vs = [.ref f, .int m] ∧ Flow H f ∧ 1 ≤ m ∧ Lt2 M m ∧ 2 ≤ M ∧ M ≤ 1000 ∧
  ∀ v P B H', Pol H' v P B → Pc.Pz (4 * M) (2 * M) P B → P.length = 2 → P.getD 1 0 ≠ 0 → Flow H' f → Sm f H H' → Q v H'
theorem sc_law_any_straight : FnScope ["_law_flow_here", "_law_most", "_law_first"] ["_law_flow_here", "_law_most"] (defScope s_law_any_straight) := ⟨rfl, rfl, rfl, by decide +kernel, rfl, by decide +kernel, by decide +kernel⟩
theorem ok_law_any_straight {f0 : Addr} {fd : FuncData} (F : Fun K "_law_any_straight" "_law_any_straight" s_law_any_straight f0 fd) (B : Bl mg) (g_law_pick : Def P w K mg base "_law_pick" 1 ["_law_flow_here", "_law_many"] spPickB) (g_law_fraction : Def P w K mg base "_law_fraction" 2 ["_law_top", "_law_bottom"] spFrac)
    (g_law_straight : Def P w K mg base "_law_straight" 3 ["_law_a", "_law_b"] (spStraightQ K)) (g_law_any_fraction : Def P w K mg base "_law_any_fraction" 3 ["_law_flow_here", "_law_most"] (spAnyF K)) : FnOk P w K mg base CX0 4 f0 fd ["_law_flow_here", "_law_most"] (spAnyS K) := by
  refine F.ok sc_law_any_straight (fun vs H Q E h => ?_) (fun cdv A outer s H vs Q E hr h => ?_)
  · obtain ⟨f, m, M, rfl, _⟩ := h
    rfl
  obtain ⟨f, m, M, rfl, hF, m1, lm, M2, M4, q⟩ := h
  have nd := sc_law_any_straight.nd
  refine ⟨_, (@pss_cons _ _ _ _ _ (@ps_set _ _ 2 _ _ _ _ nd rfl (by first | exact Or.inl rfl | exact Or.inr rfl) (@pe_ix _ _ _ _ _ _ _ (ixL K) (@pe_lst _ _ _ _ (@pa_cons _ _ _ _ _ (@pe_tup _ _ _ _ _ (@pa_cons _ _ _ _ _ pe_int (@pa_cons _ _ _ _ _ pe_int pa_nil (by rfl)) (by rfl))) (@pa_cons _ _ _ _ _ (@pe_tup _ _ _ _ _ (@pa_cons _ _ _ _ _ (@pe_op _ _ _ _ _ _ _ _ op_sub pe_int pe_int) (@pa_cons _ _ _ _ _ pe_int pa_nil (by rfl)) (by rfl))) (@pa_cons _ _ _ _ _ (@pe_def _ _ _ _ _ _ _ _ _ _ _ g_law_fraction hr (@pa_cons _ _ _ _ _ (@pe_op _ _ _ _ _ _ _ _ op_add pe_int (@pe_def _ _ _ _ _ _ _ _ _ _ _ g_law_pick hr (@pa_cons _ _ _ _ _ (@pv _ 0 _ _ (by rfl) (by first | exact Or.inl rfl | exact Or.inr (Or.inl rfl) | exact Or.inr (Or.inr rfl)) (by decide) (by decide)) (@pa_cons _ _ _ _ _ (@pv _ 1 _ _ (by rfl) (by first | exact Or.inl rfl | exact Or.inr (Or.inl rfl) | exact Or.inr (Or.inr rfl)) (by decide) (by decide)) pa_nil (by rfl)) (by rfl)) (by first | decide | omega | exact Nat.le_refl _) (by rfl) (by decide) (by rfl) (by rfl))) (@pa_cons _ _ _ _ _ (@pe_op _ _ _ _ _ _ _ _ op_add pe_int (@pe_def _ _ _ _ _ _ _ _ _ _ _ g_law_pick hr (@pa_cons _ _ _ _ _ (@pv _ 0 _ _ (by rfl) (by first | exact Or.inl rfl | exact Or.inr (Or.inl rfl) | exact Or.inr (Or.inr rfl)) (by decide) (by decide)) (@pa_cons _ _ _ _ _ pe_int pa_nil (by rfl)) (by rfl)) (by first | decide | omega | exact Nat.le_refl _) (by rfl) (by decide) (by rfl) (by rfl))) pa_nil (by rfl)) (by rfl)) (by first | decide | omega | exact Nat.le_refl _) (by rfl) (by decide) (by rfl) (by rfl)) pa_nil (by rfl)) (by rfl)) (by rfl))) (@pe_def _ _ _ _ _ _ _ _ _ _ _ g_law_pick hr (@pa_cons _ _ _ _ _ (@pv _ 0 _ _ (by rfl) (by first | exact Or.inl rfl | exact Or.inr (Or.inl rfl) | exact Or.inr (Or.inr rfl)) (by decide) (by decide)) (@pa_cons _ _ _ _ _ pe_int pa_nil (by rfl)) (by rfl)) (by first | decide | omega | exact Nat.le_refl _) (by rfl) (by decide) (by rfl) (by rfl)) (fun _ _ => rfl)) (by rfl) (by first | exact .inl rfl | exact .inr rfl | assumption)) (@pss_one _ _ _ (@ps_ret _ _ _ _ (@pe_def _ _ _ _ _ _ _ _ _ _ _ g_law_straight hr (@pa_cons _ _ _ _ _ (@pv _ 2 _ _ (by rfl) (by first | exact Or.inl rfl | exact Or.inr (Or.inl rfl) | exact Or.inr (Or.inr rfl)) (by decide) (by decide)) (@pa_cons _ _ _ _ _ (@pe_def _ _ _ _ _ _ _ _ _ _ _ g_law_any_fraction hr (@pa_cons _ _ _ _ _ (@pv _ 0 _ _ (by rfl) (by first | exact Or.inl rfl | exact Or.inr (Or.inl rfl) | exact Or.inr (Or.inr rfl)) (by decide) (by decide)) (@pa_cons _ _ _ _ _ (@pv _ 1 _ _ (by rfl) (by first | exact Or.inl rfl | exact Or.inr (Or.inl rfl) | exact Or.inr (Or.inr rfl)) (by decide) (by decide)) pa_nil (by rfl)) (by rfl)) (by first | decide | omega | exact Nat.le_refl _) (by rfl) (by decide) (by rfl) (by rfl)) pa_nil (by rfl)) (by rfl)) (by first | decide | omega | exact Nat.le_refl _) (by rfl) (by decide) (by rfl) (by rfl))))), ?_⟩
  refine ⟨(by show 2 ≤ sizeLine; decide), fun t1 ht1 => ?_⟩
  have c1 := Same.new ht1 (.tup [.int 1, .int 1])
  refine ⟨_, _, rfl, rfl, (by show 2 ≤ sizeLine; decide), fun t2 ht2 => ?_⟩
  have c2 := Same.new ht2 (.tup [.int (0 - 1), .int 1])
  have F2 := (hF.sm c1).sm c2
  have k1 := SqT.of (K := K) (c2 _ _ (upd_same (H := H) (a := t1) (o := .tup [.int 1, .int 1])))
  have k2 := SqT.of (K := K) (upd_same (H := upd H t1 (.tup [.int 1, .int 1])) (a := t2) (o := .tup [.int (0 - 1), .int 1]))
  have s12 := (c1.trans c2).sm (f := f)
  generalize upd (upd H t1 (.tup [.int 1, .int 1])) t2 (.tup [.int (0 - 1), .int 1]) = H2 at *
  refine ⟨_, rfl, _, rfl, f, m, rfl, F2, by first | lia | omega, lm.mono (by first | lia | omega), fun d1 H3 d10 d11 F3 s3 => ⟨_, _, rfl, rfl, ?_⟩⟩
  refine ⟨_, rfl, f, 3, rfl, F3, by decide, lt9 (by decide), fun d2 H4 d20 d21 F4 s4 => ⟨_, _, rfl, rfl, ?_⟩⟩
  have b2 : Lt2 M (1 + d2) := (show Lt2 2 (1 + d2) from Lt2.of 3 (by first | lia | omega) (by decide)).mono M2
  refine ⟨_, _, rfl, by first | lia | omega, ⟨M, by first | lia | omega, b2⟩, fun t3 H5 s5 ht3 => ?_⟩
  have f3 : Fq K M M H5 (.ref t3) _ := Fq.of (SqT.of ht3) (by first | lia | omega) (lm.le (j := 1 + d1) (by first | lia | omega)) b2
  have n3 : ((1 + d1 : Int) : Rat) / ((1 + d2 : Int) : Rat) ≠ 0 := (Fq.ne (p := 0) (by first | lia | omega) rfl).mpr (by first | lia | omega)
  have f1 : Fq K M M H5 (.ref t1) _ := (Fq.lay (n := 1) (sqt_sm F4 s5.sm (sqt_sm F3 s4 (sqt_sm F2 s3 k1))) (by decide)).mono (by first | lia | omega) (by first | lia | omega)
  have f2 : Fq K M M H5 (.ref t2) _ := (Fq.lay (n := 1) (sqt_sm F4 s5.sm (sqt_sm F3 s4 (sqt_sm F2 s3 k2))) (by decide)).mono (by first | lia | omega) (by first | lia | omega)
  have F5 := F4.sm s5
  have s15 := (s12.trans s3).trans (s4.trans s5.sm)
  refine ⟨(by show 3 ≤ sizeLine; decide), fun p hp => ?_⟩
  have c6 := Same.new hp (.lst [.ref t1, .ref t2, .ref t3])
  refine ⟨_, rfl, f, 3, rfl, F5.sm c6, by decide, lt9 (by decide), fun d3 H7 d30 d31 F7 s7 => ?_⟩
  have F6 := F5.sm c6
  obtain ⟨u, r, eu, fu, ru⟩ : ∃ (u : V) (r : Rat), atI [V.ref t1, V.ref t2, V.ref t3] d3 = some u ∧ Fq K M M H7 u r ∧ r ≠ 0 := by
    rcases (by first | lia | omega : d3 = 0 ∨ d3 = 1 ∨ d3 = 2) with rfl | rfl | rfl
    · exact ⟨_, _, rfl, fq_sm (f1.same c6) F6 s7, by decide⟩
    · exact ⟨_, _, rfl, fq_sm (f2.same c6) F6 s7, by decide⟩
    · exact ⟨_, _, rfl, fq_sm (f3.same c6) F6 s7, n3⟩
  refine ⟨p, _, d3, _, rfl, rfl, SqL.of (s7 p _ (F5.ne hp) upd_same), eu, ?_⟩
  refine ⟨_, rfl, _, rfl, _, rfl, f, m, M, rfl, F7, m1, lm, M2, by first | lia | omega, fun v2 r2 H8 f8 F8 s8 => ?_⟩
  refine ⟨u, v2, r, r2, M, M, M, M, rfl, fq_sm fu F7 s8, f8, by first | lia | omega, by first | lia | omega, by first | lia | omega, fun v P1 B1 H9 s9 hv z1 e1 l1 q0 q1 => ?_⟩
  obtain ⟨len, n1⟩ := st_len (by rw [q1]; exact ru) l1
  exact q v P1 B1 H9 hv (z1.mono (by first | lia | omega) (by first | lia | omega)) len n1 (F8.sm s9) (s15.trans (c6.sm.trans (s7.trans (s8.trans s9.sm))))
/-- the shift's sizes -/
theorem shift_sz {P : List Int} {B : Int} (z : Pc.Pz 133 133 P B) (l3 : 3 ≤ P.length) (l13 : P.length ≤ 13) : Szq 137 137 (shiftQ P B) := by
  have n1 := Qp.ne_of_pos z.fm.pos
  have hl : P.getD (P.length - 1) 0 ≠ 0 := by
    rcases z.fm.last with e | e
    · rw [e] at l3; simp at l3
    · exact e
  have n2 := Qp.ne_of_ne hl
  have h12 : (((P.length - 1 : Nat) : Int)) ≠ 0 := by first | lia | omega
  have n3 := Qp.ne_of_ne h12
  refine ⟨P.getD (P.length - 2) 0, P.getD (P.length - 1) 0 * ((P.length - 1 : Nat) : Int), Int.mul_ne_zero hl h12, ?_, (z.tops _).mono (by decide), ((z.tops _).mul (Lt2.of (n := 4) 12 (by first | lia | omega) (by decide))).mono (by decide)⟩
  unfold shiftQ Qp.q
  rw [Rat.intCast_mul]
  have e : ((P.length - 1 : Nat) : Rat) = (((P.length - 1 : Nat) : Int) : Rat) := rfl
  rw [e]
  generalize (((P.length - 1 : Nat) : Int) : Rat) = c at *
  generalize ((P.getD (P.length - 1) 0 : Int) : Rat) = a at *
  generalize ((P.getD (P.length - 2) 0 : Int) : Rat) = d at *
  generalize (B : Rat) = b at *
  grind
/-! ### k23, drawn ones -/
/-- a straight one outside leaves the length -/
theorem of_outer {P1 G S : List Int} {B1 U D : Int} (l : P1.length = 2) (n1 : P1.getD 1 0 ≠ 0) (f2 : Po.Fm G U) (hB : 0 < B1) (hG : 2 ≤ G.length) (o : Pc.Of P1 B1 G U S D) : S.length = G.length := by
  have hU := f2.pos
  have hD := o.1.pos
  have hW := Int.mul_pos hB hU
  have t := o.two l hU
  have d0 : ∀ k, 1 ≤ k → Pc.d0 k = 0 := fun k hk => by show (if k = 0 then (1 : Int) else 0) = 0; rw [if_neg (by first | lia | omega)]
  have gl : G.getD (G.length - 1) 0 ≠ 0 := by
    rcases f2.last with e | e
    · rw [e] at hG; simp at hG
    · exact e
  have l1 : S.length ≤ G.length := Pc.len_of o.1 hW t fun k hk => by rw [d0 k (by first | lia | omega), getD_out hk]; simp
  have l2 : G.length - 1 < S.length := by
    rcases Nat.lt_or_ge (G.length - 1) S.length with z | z
    · exact z
    · have e := t (G.length - 1)
      rw [getD_out z, d0 _ (by first | lia | omega), Int.zero_mul] at e
      have : P1.getD 1 0 * G.getD (G.length - 1) 0 * D = 0 := by grind
      rcases Int.mul_eq_zero.mp this with w | w
      · exact absurd w (Int.mul_ne_zero n1 gl)
      · (first | lia | omega)
  (first | lia | omega)
def spDegD : Sp := fun vs H Q _ => ∃ f, vs = [.ref f] ∧ Flow H f ∧ ∀ (n : Nat) H', 2 ≤ n → n ≤ 12 → Flow H' f → Sm f H H' → Q (.int n) H'
theorem sc_law_degree_drawn : FnScope ["_law_flow_here"] ["_law_flow_here"] (defScope s_law_degree_drawn) := ⟨rfl, rfl, rfl, by decide +kernel, rfl, by decide +kernel, by decide +kernel⟩
theorem ok_law_degree_drawn {f0 : Addr} {fd : FuncData} (F : Fun K "_law_degree_drawn" "_law_degree_drawn" s_law_degree_drawn f0 fd) (B : Bl mg) (g_law_pick : Def P w K mg base "_law_pick" 1 ["_law_flow_here", "_law_many"] spPickB) : FnOk P w K mg base CX0 2 f0 fd ["_law_flow_here"] spDegD := by
  refine F.ok sc_law_degree_drawn (fun vs H Q E h => ?_) (fun cdv A outer s H vs Q E hr h => ?_)
  · obtain ⟨f, rfl, _⟩ := h
    rfl
  obtain ⟨f, rfl, hF, q⟩ := h
  have nd := sc_law_degree_drawn.nd
  refine ⟨_, (@pss_cut _ _ _ _ _ (@ps_if _ _ _ _ _ _ _ _ (@pt_cmpR _ _ _ _ _ _ _ _ op_eq (@pe_def _ _ _ _ _ _ _ _ _ _ _ g_law_pick hr (@pa_cons _ _ _ _ _ (@pv _ 0 _ _ (by rfl) (by first | exact Or.inl rfl | exact Or.inr (Or.inl rfl) | exact Or.inr (Or.inr rfl)) (by decide) (by decide)) (@pa_cons _ _ _ _ _ pe_int pa_nil (by rfl)) (by rfl)) (by first | decide | omega | exact Nat.le_refl _) (by rfl) (by decide) (by rfl) (by rfl)) pe_int (nomark _)) (@pss_one _ _ _ (@ps_ret _ _ _ _ (@pe_op _ _ _ _ _ _ _ _ op_add pe_int (@pe_def _ _ _ _ _ _ _ _ _ _ _ g_law_pick hr (@pa_cons _ _ _ _ _ (@pv _ 0 _ _ (by rfl) (by first | exact Or.inl rfl | exact Or.inr (Or.inl rfl) | exact Or.inr (Or.inr rfl)) (by decide) (by decide)) (@pa_cons _ _ _ _ _ pe_int pa_nil (by rfl)) (by rfl)) (by first | decide | omega | exact Nat.le_refl _) (by rfl) (by decide) (by rfl) (by rfl))))) pss_nil) (@pss_one _ _ _ (@ps_ret _ _ _ _ (@pe_op _ _ _ _ _ _ _ _ op_add pe_int (@pe_def _ _ _ _ _ _ _ _ _ _ _ g_law_pick hr (@pa_cons _ _ _ _ _ (@pv _ 0 _ _ (by rfl) (by first | exact Or.inl rfl | exact Or.inr (Or.inl rfl) | exact Or.inr (Or.inr rfl)) (by decide) (by decide)) (@pa_cons _ _ _ _ _ pe_int pa_nil (by rfl)) (by rfl)) (by first | decide | omega | exact Nat.le_refl _) (by rfl) (by decide) (by rfl) (by rfl)))))), ?_⟩
  refine ⟨fun σ H' => σ = [some (.ref f)] ∧ Flow H' f ∧ Sm f H H', ?_, ?_⟩
  · refine ⟨_, rfl, f, 8, rfl, hF, by decide, lt9 (by decide), fun d H1 d0 d1 F1 s1 => ⟨rfl, _, rfl, ?_⟩⟩
    refine ite2 (fun c => ?_) (fun c => ?_)
    · refine ⟨_, rfl, f, 5, rfl, F1, by decide, lt9 (by decide), fun e H2 e0 e1 F2 s2 => ⟨_, _, rfl, rfl, ?_⟩⟩
      obtain ⟨n, rfl⟩ := Int.eq_ofNat_of_zero_le e0
      exact q (8 + n) H2 (by first | lia | omega) (by first | lia | omega) F2 (s1.trans s2)
    · exact ⟨rfl, F1, s1⟩
  · rintro _ H1 ⟨rfl, F1, s1⟩
    refine ⟨_, rfl, f, 5, rfl, F1, by decide, lt9 (by decide), fun e H2 e0 e1 F2 s2 => ⟨_, _, rfl, rfl, ?_⟩⟩
    obtain ⟨n, rfl⟩ := Int.eq_ofNat_of_zero_le e0
    exact q (2 + n) H2 (by first | lia | omega) (by first | lia | omega) F2 (s1.trans s2)
def spPlainOne (K : PySem.W.Frag) : Sp := fun vs H Q _ => ∃ (f : Addr) (N : Nat), vs = [.ref f, .int N] ∧ Flow H f ∧ 2 ≤ N ∧ N ≤ 12 ∧ ∀ v P B H', Pol H' v P B → Pc.Pz 4 4 P B → P.length = N + 1 → Flow H' f → Sm f H H' → Q v H'
theorem sc_law_plain_one : FnScope ["_law_flow_here", "_law_n", "_law_gap", "_law_p", "_law_tops", "_law_k"] ["_law_flow_here", "_law_n"] (defScope s_law_plain_one) := ⟨rfl, rfl, rfl, by decide +kernel, rfl, by decide +kernel, by decide +kernel⟩
theorem ok_law_plain_one {f0 : Addr} {fd : FuncData} (F : Fun K "_law_plain_one" "_law_plain_one" s_law_plain_one f0 fd) (B : Bl mg) (g_law_pick : Def P w K mg base "_law_pick" 1 ["_law_flow_here", "_law_many"] spPickB) (g_law_any_poly : Def P w K mg base "_law_any_poly" 3 ["_law_flow_here", "_law_many", "_law_most"] (spAnyP K))
    (g_law_poly : Def P w K mg base "_law_poly" 2 ["_law_tops", "_law_bottom"] (spLPoly K)) : FnOk P w K mg base CX0 4 f0 fd ["_law_flow_here", "_law_n"] (spPlainOne K) := by
  refine F.ok sc_law_plain_one (fun vs H Q E h => ?_) (fun cdv A outer s H vs Q E hr h => ?_)
  · obtain ⟨f, N, rfl, _⟩ := h
    rfl
  obtain ⟨f, N, rfl, hF, N2, N12, q⟩ := h
  have nd := sc_law_plain_one.nd
  refine ⟨_, (@pss_cons _ _ _ _ _ (@ps_set _ _ 2 _ _ _ _ nd rfl (by first | exact Or.inl rfl | exact Or.inr rfl) (@pe_op _ _ _ _ _ _ _ _ op_add pe_int (@pe_callTy _ _ _ _ _ _ _ _ _ call_int1 rfl B.int bt_int (@pa_cons _ _ _ _ _ (@pe_cmpR _ _ _ _ _ _ _ _ op_eq (@pe_def _ _ _ _ _ _ _ _ _ _ _ g_law_pick hr (@pa_cons _ _ _ _ _ (@pv _ 0 _ _ (by rfl) (by first | exact Or.inl rfl | exact Or.inr (Or.inl rfl) | exact Or.inr (Or.inr rfl)) (by decide) (by decide)) (@pa_cons _ _ _ _ _ pe_int pa_nil (by rfl)) (by rfl)) (by first | decide | omega | exact Nat.le_refl _) (by rfl) (by decide) (by rfl) (by rfl)) pe_int (nomark _)) pa_nil (by rfl)) (by decide) (by decide) (by rfl) (by rfl))) (by rfl) (by first | exact .inl rfl | exact .inr rfl | assumption)) (@pss_cons _ _ _ _ _ (@ps_set _ _ 3 _ _ _ _ nd rfl (by first | exact Or.inl rfl | exact Or.inr rfl) (@pe_def _ _ _ _ _ _ _ _ _ _ _ g_law_any_poly hr (@pa_cons _ _ _ _ _ (@pv _ 0 _ _ (by rfl) (by first | exact Or.inl rfl | exact Or.inr (Or.inl rfl) | exact Or.inr (Or.inr rfl)) (by decide) (by decide)) (@pa_cons _ _ _ _ _ (@pv _ 1 _ _ (by rfl) (by first | exact Or.inl rfl | exact Or.inr (Or.inl rfl) | exact Or.inr (Or.inr rfl)) (by decide) (by decide)) (@pa_cons _ _ _ _ _ pe_int pa_nil (by rfl)) (by rfl)) (by rfl)) (by first | decide | omega | exact Nat.le_refl _) (by rfl) (by decide) (by rfl) (by rfl)) (by rfl) (by first | exact .inl rfl | exact .inr rfl | assumption)) (@pss_cons _ _ _ _ _ (@ps_setC _ _ _ _ _ _ _ _ _ _ _ _ 4 _ _ _ rfl nd rfl (by first | exact Or.inl rfl | exact Or.inr rfl) (show CompS ["_law_flow_here", "_law_n", "_law_gap", "_law_p", "_law_tops", "_law_k"] (defScope s_law_plain_one) _ [5] from by exact ⟨rfl, by decide +kernel, by decide +kernel, by decide +kernel, by decide +kernel⟩) (@pi_range1 _ _ _ _ _ _ rfl B.range (@pa_cons _ _ _ _ _ (@pv _ 1 _ _ (by rfl) (by first | exact Or.inl rfl | exact Or.inr (Or.inl rfl) | exact Or.inr (Or.inr rfl)) (by decide) (by decide)) pa_nil (by rfl)) (by rfl)) (fun _ _ _ _ _ => (@pg_name _ _ 5 _ nd rfl (by first | exact Or.inl rfl | exact Or.inr rfl) (by first | exact .inl rfl | exact .inr rfl | assumption))) (fun _ _ _ _ _ => pts_nil) (fun _ _ _ _ _ => (@pe_op _ _ _ _ _ _ _ _ op_mulB (@pe_ix _ _ _ _ _ _ _ (ixT K) (@pe_ix _ _ _ _ _ _ _ (ixT K) (@pv _ 3 _ _ (by rfl) (by first | exact Or.inl rfl | exact Or.inr (Or.inl rfl) | exact Or.inr (Or.inr rfl)) (by decide) (by decide)) pe_int (fun _ _ => rfl)) (@pv _ 5 _ _ (by rfl) (by first | exact Or.inl rfl | exact Or.inr (Or.inl rfl) | exact Or.inr (Or.inr rfl)) (by decide) (by decide)) (fun _ _ => rfl)) (@pe_callTy _ _ _ _ _ _ _ _ _ call_int1 rfl B.int bt_int (@pa_cons _ _ _ _ _ (@pe_and _ _ _ _ _ _ _ (@pe_chain _ _ _ _ _ _ _ _ _ _ _ _ op_lt op_lt pe_int (@pv _ 5 _ _ (by rfl) (by first | exact Or.inl rfl | exact Or.inr (Or.inl rfl) | exact Or.inr (Or.inr rfl)) (by decide) (by decide)) (@pe_op _ _ _ _ _ _ _ _ op_sub (@pv _ 1 _ _ (by rfl) (by first | exact Or.inl rfl | exact Or.inr (Or.inl rfl) | exact Or.inr (Or.inr rfl)) (by decide) (by decide)) pe_int) (by with_unfolding_all rfl)) (@pe_one _ _ _ _ _ (@pe_cmpR _ _ _ _ _ _ _ _ op_eq (@pe_op _ _ _ _ _ _ _ _ op_mod (@pe_op _ _ _ _ _ _ _ _ op_sub (@pv _ 1 _ _ (by rfl) (by first | exact Or.inl rfl | exact Or.inr (Or.inl rfl) | exact Or.inr (Or.inr rfl)) (by decide) (by decide)) (@pv _ 5 _ _ (by rfl) (by first | exact Or.inl rfl | exact Or.inr (Or.inl rfl) | exact Or.inr (Or.inr rfl)) (by decide) (by decide))) (@pv _ 2 _ _ (by rfl) (by first | exact Or.inl rfl | exact Or.inr (Or.inl rfl) | exact Or.inr (Or.inr rfl)) (by decide) (by decide))) pe_int (nomark _)))) pa_nil (by rfl)) (by decide) (by decide) (by rfl) (by rfl)))) (by intro _; rfl) (by rfl) (by first | exact .inl rfl | exact .inr rfl | assumption)) (@pss_one _ _ _ (@ps_ret _ _ _ _ (@pe_def _ _ _ _ _ _ _ _ _ _ _ g_law_poly hr (@pa_cons _ _ _ _ _ (@pe_op _ _ _ _ _ _ _ _ op_cat (@pv _ 4 _ _ (by rfl) (by first | exact Or.inl rfl | exact Or.inr (Or.inl rfl) | exact Or.inr (Or.inr rfl)) (by decide) (by decide)) (@pe_lst _ _ _ _ (@pa_cons _ _ _ _ _ (@pe_ix _ _ _ _ _ _ _ (ixT K) (@pv _ 3 _ _ (by rfl) (by first | exact Or.inl rfl | exact Or.inr (Or.inl rfl) | exact Or.inr (Or.inr rfl)) (by decide) (by decide)) pe_int (fun _ _ => rfl)) pa_nil (by rfl)))) (@pa_cons _ _ _ _ _ (@pe_ix _ _ _ _ _ _ _ (ixT K) (@pv _ 3 _ _ (by rfl) (by first | exact Or.inl rfl | exact Or.inr (Or.inl rfl) | exact Or.inr (Or.inr rfl)) (by decide) (by decide)) pe_int (fun _ _ => rfl)) pa_nil (by rfl)) (by rfl)) (by first | decide | omega | exact Nat.le_refl _) (by rfl) (by decide) (by rfl) (by rfl))))))), ?_⟩
  refine ⟨_, rfl, f, 3, rfl, hF, by decide, lt9 (by decide), fun d H1 d0 d1 F1 s1 => ⟨rfl, .inr ⟨_, rfl, _, _, rfl, rfl, ?_⟩⟩⟩
  have hg : ∀ b : Bool, (0 : Int) < 1 + (if b = true then 1 else 0) := fun b => by cases b <;> decide
  refine ⟨_, rfl, _, rfl, f, N, 9, 4, rfl, F1, by first | lia | omega, by decide, by decide, by decide, fun v P1 B1 H2 h1 z1 l1 F2 s2 => ?_⟩
  obtain ⟨a0, t0, ea, a1, a2⟩ := id h1
  subst ea
  have k1 := SqT.of (K := K) a1
  have k2 := SqT.of (K := K) a2
  have p1 := z1.fm.pos
  have s02 := s1.trans s2
  refine ⟨_, rfl, N, rfl, by first | lia | omega, by first | lia | omega, ?_⟩
  refine comp_range (n := N) (by rw [sizeLine_eq]; (first | lia | omega)) (fun j τ ys H' => (∃ o, τ = [some (.ref f), some (.int N), some (.int (1 + (if decide (V.int d = V.int 0) = true then 1 else 0))), some (.ref a0), none, o]) ∧ H' = H2 ∧ ∃ ts : List Int, ys = ts.map V.int ∧ ∀ t ∈ ts, Lt2 4 t) ⟨⟨none, rfl⟩, rfl, [], rfl, fun t h => absurd h List.not_mem_nil⟩ ?_ ?_
  · rintro j _ _ _ hj hy ⟨⟨o, rfl⟩, rfl, ts, rfl, ht⟩
    have ej : (0 : Int) + (j : Int) = (j : Int) := Int.zero_add _
    rw [ej]
    have lz := z1.tops j
    have fin : ∀ b : Bool, Lt2 1 (if b = true then (1 : Int) else 0) ∧ ∀ t ∈ ts ++ [P1.getD j 0 * (if b = true then 1 else 0)], Lt2 4 t := fun b => by
      refine ⟨by cases b <;> decide, fun t h => ?_⟩
      rcases List.mem_append.mp h with w | w
      · exact ht t w
      · rw [List.mem_singleton.mp w]
        refine lz.le ?_
        cases b <;> simp
    have em : ∀ x : Int, ts.map V.int ++ [V.int x] = (ts ++ [x]).map V.int := fun x => by rw [List.map_append]; rfl
    refine ⟨_, rfl, a0, _, 0, _, rfl, rfl, k1, rfl, _, rfl, t0, _, _, _, rfl, rfl, k2, atI_nat (at_int (by first | lia | omega)), ?_⟩
    refine ⟨_, rfl, _, _, rfl, rfl, _, rfl, ite2 (fun c1 => ?_) (fun c1 => ?_)⟩
    · refine ⟨_, rfl, _, _, rfl, rfl, _, _, rfl, rfl, _, rfl, ite2 (fun c2 => ?_) (fun c2 => ?_)⟩
      · refine ⟨_, rfl, _, rfl, _, _, rfl, rfl, _, rfl, _, _, rfl, rfl, hg _, rfl, .inr ⟨_, rfl, _, _, rfl, rfl, ⟨_, _, lz, (fin _).1, by first | lia | omega⟩, nxt hj hy ⟨⟨_, rfl⟩, rfl, _, em _, (fin _).2⟩⟩⟩
      · exact .inr ⟨_, rfl, _, _, rfl, rfl, ⟨_, _, lz, (fin false).1, by first | lia | omega⟩, nxt hj hy ⟨⟨_, rfl⟩, rfl, _, em _, (fin false).2⟩⟩
    · refine ⟨_, rfl, iteF ?_⟩
      exact .inr ⟨_, rfl, _, _, rfl, rfl, ⟨_, _, lz, (fin false).1, by first | lia | omega⟩, nxt hj hy ⟨⟨_, rfl⟩, rfl, _, em _, (fin false).2⟩⟩
  rintro _ ys H2 D hy ⟨⟨o, rfl⟩, rfl, ts, rfl, ht⟩ hD
  rw [List.length_map] at hy
  have c1 := Same.new hD (.lst (ts.map V.int))
  have hD1 := upd_same (H := H2) (a := D) (o := .lst (ts.map V.int))
  generalize upd H2 D (.lst (ts.map V.int)) = H3 at *
  refine ⟨_, rfl, _, rfl, a0, _, 1, _, rfl, rfl, k1.same c1, rfl, (by show 1 ≤ sizeLine; decide), fun p2 hp2 => ?_⟩
  have c3 := Same.new hp2 (.lst [.int B1])
  refine ⟨D, p2, _, _, rfl, rfl, c3 _ _ hD1, upd_same, (by rw [List.length_map, sizeLine_eq]; show _ + 1 ≤ _; (first | lia | omega)), fun p3 hp3 => ?_⟩
  have c4 := Same.new hp3 (.lst (ts.map V.int ++ [.int B1]))
  have hp3' := upd_same (H := upd H3 p2 (.lst [.int B1])) (a := p3) (o := .lst (ts.map V.int ++ [.int B1]))
  have s25 := c1.trans (c3.trans c4)
  generalize upd (upd H3 p2 (.lst [.int B1])) p3 (.lst (ts.map V.int ++ [.int B1])) = H5 at *
  have em : ts.map V.int ++ [V.int B1] = (ts ++ [B1]).map V.int := by rw [List.map_append]; rfl
  rw [em] at hp3'
  have last : (ts ++ [B1]).getD N 0 = B1 := getD_of (by rw [List.getElem?_append_right (by first | lia | omega), hy, Nat.sub_self]; rfl)
  refine ⟨_, rfl, a0, _, 1, _, rfl, rfl, k1.same s25, rfl, p3, "list", ts ++ [B1], B1, rfl, .inr ⟨rfl, SqL.of hp3'⟩, p1, ⟨3, by decide, z1.bot⟩, by rw [List.length_append, hy]; show N + 1 ≤ 1000; (first | lia | omega), fun v R C H8 s8 hv fm hw hle => ?_⟩
  have pB := fm.pos
  refine q v R C H8 hv (Pc.Pz.of (f := fun k => (ts ++ [B1]).getD k 0) fm p1 hw (fun k => ?_) (z1.bot.mono (by decide))) ?_ ((F2.sm s25).sm s8) (s02.trans (s25.sm.trans s8.sm))
  · rcases Nat.lt_or_ge k (ts ++ [B1]).length with z | z
    · have := getD_is_mem z
      rcases List.mem_append.mp this with y | y
      · exact ht _ y
      · rw [List.mem_singleton.mp y]; exact z1.bot.mono (by decide)
    · rw [getD_out z]; exact Nat.pow_pos (by decide)
  · have l1 : R.length ≤ N + 1 := by rw [List.length_append, hy] at hle; exact hle
    have l2 : N < R.length := by
      rcases Nat.lt_or_ge N R.length with z | z
      · exact z
      · have e := hw N
        rw [getD_out z, last, Int.zero_mul] at e
        rcases Int.mul_eq_zero.mp e.symm with y | y
        · (first | lia | omega)
        · (first | lia | omega)
    (first | lia | omega)
def spShort (K : PySem.W.Frag) : Sp := fun vs H Q _ => ∃ (a : Addr) (v : V) (P : List Int) (B : Int), vs = [.ref a] ∧ SqL K H a [v] ∧ Pol H v P B ∧ Po.Fm P B ∧ P.length ≤ 100 ∧ ∀ (b : Bool) H', Same H H' → (b = true → Pc.Pz 133 133 P B) → Q (.bl b) H'
theorem sc_law_short : FnScope ["_law_some", "_law_top", "_law_p"] ["_law_some"] (defScope s_law_short) := ⟨rfl, rfl, rfl, by decide +kernel, rfl, by decide +kernel, by decide +kernel⟩
theorem ok_law_short {f0 : Addr} {fd : FuncData} (F : Fun K "_law_short" "_law_short" s_law_short f0 fd) (B : Bl mg) : FnOk P w K mg base CX0 1 f0 fd ["_law_some"] (spShort K) := by
  refine F.ok sc_law_short (fun vs H Q E h => ?_) (fun cdv A outer s H vs Q E hr h => ?_)
  · obtain ⟨a, v, P1, B1, rfl, _⟩ := h
    rfl
  obtain ⟨a, v, P1, B1, rfl, hS, ⟨a0, t0, rfl, a1, a2⟩, fm, hl, q⟩ := h
  have nd := sc_law_short.nd
  refine ⟨_, (@pss_one _ _ _ (@ps_ret _ _ _ _ (@pe_callB _ _ _ _ _ _ _ _ _ (allS K) rfl B.all bt_all (@pa_cons _ _ _ _ _ (@pe_comp _ _ _ _ _ _ _ _ _ _ _ _ rfl (show CompS ["_law_some", "_law_top", "_law_p"] (defScope s_law_short) _ [2] from by exact ⟨rfl, by decide +kernel, by decide +kernel, by decide +kernel, by decide +kernel⟩) (@piL _ K _ _ _ (@pv _ 0 _ _ (by rfl) (by first | exact Or.inl rfl | exact Or.inr (Or.inl rfl) | exact Or.inr (Or.inr rfl)) (by decide) (by decide)) (by rfl)) (fun _ _ _ _ _ => (@pg_name _ _ 2 _ nd rfl (by first | exact Or.inl rfl | exact Or.inr rfl) (by first | exact .inl rfl | exact .inr rfl | assumption))) (fun _ _ _ _ _ => pts_nil) (fun _ _ _ _ _ => (@pe_cmpR _ _ _ _ _ _ _ _ op_lt (@pe_callB _ _ _ _ _ _ _ _ _ (maxS K) rfl B.max bt_max (@pa_cons _ _ _ _ _ (@pe_op _ _ _ _ _ _ _ _ op_cat (@pe_lst _ _ _ _ (@pa_cons _ _ _ _ _ (@pe_ix _ _ _ _ _ _ _ (ixT K) (@pv _ 2 _ _ (by rfl) (by first | exact Or.inl rfl | exact Or.inr (Or.inl rfl) | exact Or.inr (Or.inr rfl)) (by decide) (by decide)) pe_int (fun _ _ => rfl)) pa_nil (by rfl))) (@pe_comp _ _ _ _ _ _ _ _ _ _ _ _ rfl (show CompS ["_law_some", "_law_top", "_law_p"] _ _ [1] from by dsimp only [cCx, compEnvC]; exact ⟨rfl, by decide +kernel, by first | decide +kernel | exact fun y hy e => absurd e ((by decide +kernel : ∀ z ∈ _, z.2 ≠ NameKind.free) y hy), by decide +kernel, by decide +kernel⟩) (@piT _ K _ _ _ (@pe_ix _ _ _ _ _ _ _ (ixT K) (@pv _ 2 _ _ (by rfl) (by first | exact Or.inl rfl | exact Or.inr (Or.inl rfl) | exact Or.inr (Or.inr rfl)) (by decide) (by decide)) pe_int (fun _ _ => rfl)) (by rfl)) (fun _ _ _ _ _ => (@pg_name _ _ 1 _ nd rfl (by first | exact Or.inl rfl | exact Or.inr rfl) (by first | exact .inl rfl | exact .inr rfl | assumption))) (fun _ _ _ _ _ => pts_nil) (fun _ _ _ _ _ => (@pe_callB _ _ _ _ _ _ _ _ _ call_abs rfl B.abs bt_abs (@pa_cons _ _ _ _ _ (@pv _ 1 _ _ (by rfl) (by first | exact Or.inl rfl | exact Or.inr (Or.inl rfl) | exact Or.inr (Or.inr rfl)) (by decide) (by decide)) pa_nil (by rfl)) (by decide) (by decide) (by rfl) (by rfl))) (by intro _; rfl))) pa_nil (by rfl)) (by decide) (by decide) (by rfl) (by rfl)) (@pe_op _ _ _ _ _ _ _ _ op_pow pe_int pe_int) (nomark _))) (by intro _; rfl)) pa_nil (by rfl)) (by decide) (by decide) (by rfl) (by rfl)))), ?_⟩
  have k1 := SqT.of (K := K) a1
  have k2 := SqT.of (K := K) a2
  have pB := fm.pos
  refine ⟨_, rfl, a, rfl, ⟨_, hS⟩, ?_⟩
  refine comp_list (xs := [V.ref a0]) (by show 1 ≤ sizeLine; decide) (fun i τ ys H' => Same H H' ∧ (∃ o1 o2, τ = [some (.ref a), o1, o2]) ∧ ∃ bs : List Bool, ys = bs.map V.bl ∧ (0 < i → bs.all id = true → Pc.Pz 133 133 P1 B1)) ⟨Same.refl H, ⟨none, none, rfl⟩, [], rfl, fun h => absurd h (by decide)⟩ (fun i τ ys H' h => h.1.seq hS) ?_ ?_
  · rintro i x _ _ H1 hx hy ⟨s1, ⟨o1, o2, rfl⟩, bs, rfl, hbs⟩
    obtain ⟨hi, ex⟩ := List.getElem?_eq_some_iff.mp hx
    have hi' : i < 1 := hi
    have : i = 0 := by first | lia | omega
    subst this
    have ex' : V.ref a0 = x := ex
    subst ex'
    rw [List.length_map] at hy
    have : bs = [] := List.length_eq_zero_iff.mp hy
    subst this
    refine ⟨_, rfl, a0, _, 1, _, rfl, rfl, k1.same s1, rfl, (by show 1 ≤ sizeLine; decide), fun r hr => ?_⟩
    have c1 := Same.new hr (.lst [.int B1])
    have s2 := s1.trans c1
    refine ⟨_, rfl, a0, _, 0, _, rfl, rfl, k1.same s2, rfl, t0, rfl, ⟨_, k2.same s2⟩, comp_intsT (fun z => ((z.natAbs : Nat) : Int)) (k2.same s2) (by first | lia | omega) rfl (fun z hz R hR => ?_) fun D hD => ?_⟩
    · refine ⟨_, rfl, _, rfl, ?_⟩
      rw [abs_is]
      exact hR
    have c2 := Same.new hD (.lst ((P1.map fun z => ((z.natAbs : Nat) : Int)).map V.int))
    have hr2 := c2 _ _ (upd_same (H := H1) (a := r) (o := .lst [.int B1]))
    refine ⟨r, D, _, _, rfl, rfl, hr2, upd_same, (by rw [List.length_map, List.length_map, sizeLine_eq]; show 1 + _ ≤ _; (first | lia | omega)), fun p3 hp3 => ?_⟩
    have c3 := Same.new hp3 (.lst ([V.int B1] ++ (P1.map fun z => ((z.natAbs : Nat) : Int)).map V.int))
    refine ⟨p3, B1 :: P1.map fun z => ((z.natAbs : Nat) : Int), rfl, SqL.of upd_same, List.cons_ne_nil _ _, fun M hM hle => ?_⟩
    refine ⟨_, _, rfl, rfl, ⟨by decide, by decide, by decide⟩, _, _, rfl, rfl, nxt (by show 0 < 1; decide) rfl ⟨s2.trans (c2.trans c3), ⟨_, _, rfl⟩, [decide (M < 10 ^ (40 : Int).toNat)], rfl, fun _ hb => ?_⟩⟩
    have hM' : M < 10 ^ (40 : Int).toNat := by simpa using hb
    have lt : ∀ z : Int, ((z.natAbs : Nat) : Int) ≤ M → Lt2 133 z := fun z hz => by
      show z.natAbs < 2 ^ 133
      have e1 : (10 : Int) ^ (40 : Int).toNat = ((10 ^ 40 : Nat) : Int) := by decide
      have e2 : (10 : Nat) ^ 40 < 2 ^ 133 := by decide
      (first | lia | omega)
    refine ⟨fm, fun k => ?_, lt _ (by have := hle B1 List.mem_cons_self; (first | lia | omega))⟩
    rcases Nat.lt_or_ge k P1.length with z | z
    · exact lt _ (hle _ (List.mem_cons_of_mem _ (List.mem_map.mpr ⟨_, getD_is_mem z, rfl⟩)))
    · rw [getD_out z]; exact Nat.pow_pos (by decide)
  · rintro _ _ H1 D hy ⟨s1, ⟨o1, o2, rfl⟩, bs, rfl, hbs⟩ hD
    refine ⟨D, bs, rfl, SqL.of upd_same, ?_⟩
    exact q _ _ (s1.trans (Same.new hD _)) (hbs (by show 0 < 1; decide))
def spDrawn (K : PySem.W.Frag) : Sp := fun vs H Q _ => ∃ f, vs = [.ref f] ∧ Flow H f ∧ ∀ v P B H', Pol H' v P B → Po.Fm P B → 3 ≤ P.length → P.length ≤ 13 → Flow H' f → Sm f H H' → Q v H'
theorem sc_law_drawn : FnScope ["_law_flow_here", "_law_n", "_law_p"] ["_law_flow_here"] (defScope s_law_drawn) := ⟨rfl, rfl, rfl, by decide +kernel, rfl, by decide +kernel, by decide +kernel⟩
theorem ok_law_drawn {f0 : Addr} {fd : FuncData} (F : Fun K "_law_drawn" "_law_drawn" s_law_drawn f0 fd) (B : Bl mg) (g_law_pick : Def P w K mg base "_law_pick" 1 ["_law_flow_here", "_law_many"] spPickB) (g_law_degree_drawn : Def P w K mg base "_law_degree_drawn" 2 ["_law_flow_here"] spDegD) (g_law_any_poly : Def P w K mg base "_law_any_poly" 3 ["_law_flow_here", "_law_many", "_law_most"] (spAnyP K))
    (g_law_plain_one : Def P w K mg base "_law_plain_one" 4 ["_law_flow_here", "_law_n"] (spPlainOne K)) (g_law_of : Def P w K mg base "_law_of" 4 ["_law_p", "_law_q"] (spLOf K)) (g_law_any_straight : Def P w K mg base "_law_any_straight" 4 ["_law_flow_here", "_law_most"] (spAnyS K)) : FnOk P w K mg base CX0 5 f0 fd ["_law_flow_here"] (spDrawn K) := by
  refine F.ok sc_law_drawn (fun vs H Q E h => ?_) (fun cdv A outer s H vs Q E hr h => ?_)
  · obtain ⟨f, rfl, _⟩ := h
    rfl
  obtain ⟨f, rfl, hF, q⟩ := h
  have nd := sc_law_drawn.nd
  refine ⟨_, (@pss_cons _ _ _ _ _ (@ps_set _ _ 1 _ _ _ _ nd rfl (by first | exact Or.inl rfl | exact Or.inr rfl) (@pe_def _ _ _ _ _ _ _ _ _ _ _ g_law_degree_drawn hr (@pa_cons _ _ _ _ _ (@pv _ 0 _ _ (by rfl) (by first | exact Or.inl rfl | exact Or.inr (Or.inl rfl) | exact Or.inr (Or.inr rfl)) (by decide) (by decide)) pa_nil (by rfl)) (by first | decide | omega | exact Nat.le_refl _) (by rfl) (by decide) (by rfl) (by rfl)) (by rfl) (by first | exact .inl rfl | exact .inr rfl | assumption)) (@pss_cut _ _ _ _ _ (@ps_if _ _ _ _ _ _ _ _ (@pt_cmpR _ _ _ _ _ _ _ _ op_eq (@pe_def _ _ _ _ _ _ _ _ _ _ _ g_law_pick hr (@pa_cons _ _ _ _ _ (@pv _ 0 _ _ (by rfl) (by first | exact Or.inl rfl | exact Or.inr (Or.inl rfl) | exact Or.inr (Or.inr rfl)) (by decide) (by decide)) (@pa_cons _ _ _ _ _ pe_int pa_nil (by rfl)) (by rfl)) (by first | decide | omega | exact Nat.le_refl _) (by rfl) (by decide) (by rfl) (by rfl)) pe_int (nomark _)) (@pss_one _ _ _ (@ps_ret _ _ _ _ (@pe_def _ _ _ _ _ _ _ _ _ _ _ g_law_any_poly hr (@pa_cons _ _ _ _ _ (@pv _ 0 _ _ (by rfl) (by first | exact Or.inl rfl | exact Or.inr (Or.inl rfl) | exact Or.inr (Or.inr rfl)) (by decide) (by decide)) (@pa_cons _ _ _ _ _ (@pv _ 1 _ _ (by rfl) (by first | exact Or.inl rfl | exact Or.inr (Or.inl rfl) | exact Or.inr (Or.inr rfl)) (by decide) (by decide)) (@pa_cons _ _ _ _ _ (@pe_ix _ _ _ _ _ _ _ (ixL K) (@pe_lst _ _ _ _ (@pa_cons _ _ _ _ _ pe_int (@pa_cons _ _ _ _ _ (@pe_op _ _ _ _ _ _ _ _ op_sub (@pe_op _ _ _ _ _ _ _ _ op_pow pe_int pe_int) pe_int) pa_nil (by rfl)) (by rfl))) (@pe_callTy _ _ _ _ _ _ _ _ _ call_int1 rfl B.int bt_int (@pa_cons _ _ _ _ _ (@pe_cmpR _ _ _ _ _ _ _ _ op_eq (@pe_def _ _ _ _ _ _ _ _ _ _ _ g_law_pick hr (@pa_cons _ _ _ _ _ (@pv _ 0 _ _ (by rfl) (by first | exact Or.inl rfl | exact Or.inr (Or.inl rfl) | exact Or.inr (Or.inr rfl)) (by decide) (by decide)) (@pa_cons _ _ _ _ _ pe_int pa_nil (by rfl)) (by rfl)) (by first | decide | omega | exact Nat.le_refl _) (by rfl) (by decide) (by rfl) (by rfl)) pe_int (nomark _)) pa_nil (by rfl)) (by decide) (by decide) (by rfl) (by rfl)) (fun _ _ => rfl)) pa_nil (by rfl)) (by rfl)) (by rfl)) (by first | decide | omega | exact Nat.le_refl _) (by rfl) (by decide) (by rfl) (by rfl)))) pss_nil) (@pss_cons _ _ _ _ _ (@ps_set _ _ 2 _ _ _ _ nd rfl (by first | exact Or.inl rfl | exact Or.inr rfl) (@pe_def _ _ _ _ _ _ _ _ _ _ _ g_law_plain_one hr (@pa_cons _ _ _ _ _ (@pv _ 0 _ _ (by rfl) (by first | exact Or.inl rfl | exact Or.inr (Or.inl rfl) | exact Or.inr (Or.inr rfl)) (by decide) (by decide)) (@pa_cons _ _ _ _ _ (@pv _ 1 _ _ (by rfl) (by first | exact Or.inl rfl | exact Or.inr (Or.inl rfl) | exact Or.inr (Or.inr rfl)) (by decide) (by decide)) pa_nil (by rfl)) (by rfl)) (by first | decide | omega | exact Nat.le_refl _) (by rfl) (by decide) (by rfl) (by rfl)) (by rfl) (by first | exact .inl rfl | exact .inr rfl | assumption)) (@pss_one _ _ _ (@ps_ret _ _ _ _ (@pe_def _ _ _ _ _ _ _ _ _ _ _ g_law_of hr (@pa_cons _ _ _ _ _ (@pe_def _ _ _ _ _ _ _ _ _ _ _ g_law_of hr (@pa_cons _ _ _ _ _ (@pe_def _ _ _ _ _ _ _ _ _ _ _ g_law_any_straight hr (@pa_cons _ _ _ _ _ (@pv _ 0 _ _ (by rfl) (by first | exact Or.inl rfl | exact Or.inr (Or.inl rfl) | exact Or.inr (Or.inr rfl)) (by decide) (by decide)) (@pa_cons _ _ _ _ _ pe_int pa_nil (by rfl)) (by rfl)) (by first | decide | omega | exact Nat.le_refl _) (by rfl) (by decide) (by rfl) (by rfl)) (@pa_cons _ _ _ _ _ (@pv _ 2 _ _ (by rfl) (by first | exact Or.inl rfl | exact Or.inr (Or.inl rfl) | exact Or.inr (Or.inr rfl)) (by decide) (by decide)) pa_nil (by rfl)) (by rfl)) (by first | decide | omega | exact Nat.le_refl _) (by rfl) (by decide) (by rfl) (by rfl)) (@pa_cons _ _ _ _ _ (@pe_def _ _ _ _ _ _ _ _ _ _ _ g_law_any_straight hr (@pa_cons _ _ _ _ _ (@pv _ 0 _ _ (by rfl) (by first | exact Or.inl rfl | exact Or.inr (Or.inl rfl) | exact Or.inr (Or.inr rfl)) (by decide) (by decide)) (@pa_cons _ _ _ _ _ pe_int pa_nil (by rfl)) (by rfl)) (by first | decide | omega | exact Nat.le_refl _) (by rfl) (by decide) (by rfl) (by rfl)) pa_nil (by rfl)) (by rfl)) (by first | decide | omega | exact Nat.le_refl _) (by rfl) (by decide) (by rfl) (by rfl))))))), ?_⟩
  refine ⟨_, rfl, f, rfl, hF, fun N H1 N2 N12 F1 s1 => ?_⟩
  refine ⟨fun σ H' => σ = [some (.ref f), some (.int N), none] ∧ Flow H' f ∧ Sm f H H', ?_, ?_⟩
  · refine ⟨_, rfl, f, _, rfl, F1, by decide, lt9 (by decide), fun d H2 d0 d1 F2 s2 => ⟨rfl, _, rfl, ?_⟩⟩
    refine ite2 (fun c => ?_) (fun c => ?_)
    · refine ⟨_, rfl, _, rfl, _, _, rfl, rfl, ⟨by decide, by decide, by decide⟩, _, _, rfl, rfl, (by show 2 ≤ sizeLine; decide), fun p hp => ?_⟩
      have c1 := Same.new hp (.lst [.int 9, .int (10 ^ (39 : Int).toNat - 1)])
      refine ⟨_, rfl, f, 8, rfl, F2.sm c1, by decide, lt9 (by decide), fun e H3 e0 e1 F3 s3 => ⟨rfl, .inr ⟨_, rfl, ?_⟩⟩⟩
      obtain ⟨u, eu, u0, lu⟩ : ∃ u : Int, atI [V.int 9, V.int (10 ^ (39 : Int).toNat - 1)] (if decide (V.int e = V.int 0) = true then 1 else 0) = some (.int u) ∧ 1 ≤ u ∧ Lt2 133 u := by
        by_cases c : V.int e = V.int 0
        · rw [decide_eq_true c]
          exact ⟨_, rfl, by decide, by decide⟩
        · rw [decide_eq_false c]
          exact ⟨9, rfl, by decide, by decide⟩
      refine ⟨p, _, _, _, rfl, rfl, SqL.of (s3 p _ (F2.ne hp) upd_same), eu, f, N, u, 133, rfl, F3, by first | lia | omega, u0, lu, by decide, fun v P1 B1 H4 h4 z4 l4 F4 s4 => ?_⟩
      exact q v P1 B1 H4 h4 z4.fm (by first | lia | omega) (by first | lia | omega) F4 ((s1.trans s2).trans (c1.sm.trans (s3.trans s4)))
    · exact ⟨rfl, F2, s1.trans s2⟩
  rintro _ H2 ⟨rfl, F2, s2⟩
  refine ⟨_, rfl, _, rfl, f, N, rfl, F2, N2, N12, fun v P1 B1 H3 h3 z3 l3 F3 s3 => ?_⟩
  refine ⟨_, rfl, f, 3, 2, rfl, F3, by decide, by decide, by decide, by decide, fun w1 L1 b1 H4 h4 z4 l4 n4 F4 s4 => ?_⟩
  have pm : L1.length * P1.length ≤ 2 * 13 := Nat.mul_le_mul (by first | lia | omega) (by first | lia | omega)
  refine ⟨_, rfl, w1, v, L1, P1, b1, B1, 8, 4, 4, 4, rfl, h4, pol_sm h3 F3 s4, z4, z3, by rw [l4]; decide, by rw [l4]; decide, by first | lia | omega, by first | lia | omega, by first | lia | omega, fun x1 S D H5 s5 h5 o5 => ?_⟩
  have lS := of_outer l4 n4 z3.fm z4.fm.pos (by first | lia | omega) o5
  have zS := (o5.size z4 z3 (by first | lia | omega)).mono (n' := 60) (b' := 20) (by rw [l4]; decide) (by rw [l4]; decide)
  have F5 := F4.sm s5
  refine ⟨_, rfl, f, 3, 2, rfl, F5, by decide, by decide, by decide, by decide, fun w2 L2 b2 H6 h6 z6 l6 n6 F6 s6 => ?_⟩
  have pm2 : S.length * L2.length ≤ 13 * 2 := Nat.mul_le_mul (by first | lia | omega) (by first | lia | omega)
  refine ⟨x1, w2, S, L2, D, b2, 60, 20, 8, 4, rfl, pol_sm h5 F5 s6, h6, zS, z6, by first | lia | omega, by first | lia | omega, by first | lia | omega, by first | lia | omega, by first | lia | omega, fun x2 R C H7 s7 h7 o7 => ?_⟩
  have lR := (Qp.of_st zS.fm z6.fm l6 (by intro e; rw [e] at lS; simp at lS; (first | lia | omega)) n6 o7).1
  exact q x2 R C H7 h7 o7.1 (by first | lia | omega) (by first | lia | omega) (F6.sm s7) (s2.trans (s3.trans (s4.trans (s5.sm.trans (s6.trans s7.sm)))))
/-! ### three polynomials -/
theorem reps1 {H : Hp} {d : DV} {v : V} (h : Rep K H d v) : Reps K H [d] [v] := by
  unfold Reps
  exact ⟨_, _, rfl, h, by unfold Reps; rfl⟩
theorem repsC {H : Hp} {d : DV} {ds : List DV} {v : V} {vs : List V} (h : Rep K H d v) (t : Reps K H ds vs) : Reps K H (d :: ds) (v :: vs) := by
  unfold Reps
  exact ⟨_, _, rfl, h, t⟩
/-- sizes of what a polynomial comes to -/
theorem szq_E {n b r : Nat} {P1 : List Int} {B1 : Int} {x : Rat} (z : Pc.Pz n b P1 B1) (h : Szq r r x) : Szq (n + (r + 1) * P1.length + 1) (b + (r * P1.length + 1)) (Qp.E P1 B1 x) := by
  obtain ⟨T, U, u1, u2, u3, u4⟩ : ∃ T U : Int, 0 < U ∧ x = (T : Rat) / (U : Rat) ∧ Lt2 r T ∧ Lt2 r U := by
    obtain ⟨T, U, h1, h2, h3, h4⟩ := h
    rcases Int.lt_or_gt_of_ne h1 with c | c
    · refine ⟨-T, -U, by first | lia | omega, ?_, h3.neg, h4.neg⟩
      rw [h2, Rat.intCast_neg, Rat.intCast_neg]
      have := Qp.ne_of_ne h1
      grind
    · exact ⟨T, U, c, h2, h3, h4⟩
  have hB := z.fm.pos
  refine ⟨Hv.hv (Cv.fn P1) T U P1.length, B1 * U ^ P1.length, Int.ne_of_gt (Int.mul_pos hB (Hv.pow_pos u1 _)), ?_, Hv.hv_lt (fun k => z.tops k) u3 u4 _, z.bot.mul (Hv.pow_lt u4 _)⟩
  rw [Qp.hv_ei _ _ u1, Rat.intCast_mul, Rat.intCast_pow, u2]
  have n1 := Qp.ne_of_pos hB
  have n2 := Qp.pow_ne (Qp.ne_of_pos u1) P1.length
  unfold Qp.E
  generalize (U : Rat) ^ P1.length = W at *
  generalize Qp.ei (Cv.fn P1) ((T : Rat) / (U : Rat)) P1.length = X at *
  grind
theorem szq_neg {n b : Nat} {r : Rat} (h : Szq n b r) : Szq n b (-r) := by
  obtain ⟨T, U, h1, h2, h3, h4⟩ := h
  refine ⟨-T, U, h1, ?_, h3.neg, h4⟩
  rw [h2, Rat.intCast_neg]
  have := Qp.ne_of_ne h1
  grind
end
end My

set_option maxHeartbeats 4000000
namespace My
open PySem L2
section
variable {P : Program} {w : World} {K : PySem.W.Frag} {mg : Str → Option Value} {base : Heap}
theorem letter_k {la lt : Addr} {dL dT : Option Addr} {nL nT : Nat} {sL sT : Array (Option Value)} {t1 t2 t3 : Tok} (lL : K.lookup la = some ⟨.type "tuple", dL, .seq #[.ref lt, .int 1 t1] nL, sL⟩) (lT : K.lookup lt = some ⟨.type "tuple", dT, .seq #[.int 0 t2, .int 1 t3] nT, sT⟩) (H : Hp) : PolK K H (.ref la) Pc.X 1 :=
  ⟨la, lt, rfl, .inr ⟨_, _, _, lL, rfl, rfl, (by show 2 ≤ sizeLine; decide), .cons rfl (.cons ⟨_, rfl⟩ .nil)⟩, .inr ⟨_, _, _, lT, rfl, rfl, (by show 2 ≤ sizeLine; decide), .cons ⟨_, rfl⟩ (.cons ⟨_, rfl⟩ .nil)⟩⟩
/-! ### the straight ones by which f stays -/
theorem ints_odd (P1 : List Int) : oddV (P1.map V.int) = ((List.range (P1.length / 2)).map fun m => P1.getD (1 + m * 2) 0).map V.int := by
  unfold oddV
  rw [List.length_map, List.map_map]
  have : ∀ ms : List Nat, (∀ m ∈ ms, 1 + m * 2 < P1.length) → (ms.filterMap fun m => (P1.map V.int)[1 + m * 2]?) = ms.map (V.int ∘ fun m => P1.getD (1 + m * 2) 0) := by
    intro ms
    induction ms with
    | nil => intro _; rfl
    | cons m ms ih =>
      intro h
      rw [List.filterMap_cons, at_int (h m List.mem_cons_self), List.map_cons, ih fun a ha => h a (List.mem_cons_of_mem _ ha)]
      rfl
  refine this _ fun m hm => ?_
  have := List.mem_range.mp hm
  (first | lia | omega)
/-- turned about the middle, f stays -/
def Sym (P : List Int) (B : Int) : Prop := ∀ x, Qp.E P B (-1 * x + (0 - 2) * shiftQ P B) = Qp.E P B x
def spLeaves (K : PySem.W.Frag) : Sp := fun vs H Q _ => ∃ (v : V) (P : List Int) (B : Int), vs = [v] ∧ Pol H v P B ∧ Pc.Pz 133 133 P B ∧ 3 ≤ P.length ∧ P.length ≤ 13 ∧
  ∀ (D : Addr) (H' : Hp) (v0 : V), Same H H' → H D = none → PolK K H' v0 Pc.X 1 → ((¬ Sym P B ∧ H' D = some (.lst [v0])) ∨ (Sym P B ∧ ∃ v1 R C, H' D = some (.lst [v0, v1]) ∧ Pol H' v1 R C ∧ Po.Fm R C ∧ R.length ≤ 2 ∧ ∀ x, Qp.E R C x = -1 * x + (0 - 2) * shiftQ P B)) → Q (.ref D) H'
theorem sc_leaves : FnScope ["f", "l1", "p", "l2", "told", "top"] ["f"] (defScope s_leaves) := ⟨rfl, rfl, rfl, by decide +kernel, rfl, by decide +kernel, by decide +kernel⟩
theorem ok_leaves {la : Addr} (hLETTER : mg "LETTER" = some (.ref la)) (hL : ∀ H, PolK K H (.ref la) Pc.X 1) {f0 : Addr} {fd : FuncData} (F : Fun K "leaves" "leaves" s_leaves f0 fd) (B : Bl mg) (g_plain : Def P w K mg base "plain" 5 ["f"] (spPlain K)) (g_put : Def P w K mg base "put" 3 ["f", "g"] (spPut K))
    (g_turned_back : Def P w K mg base "turned_back" 5 ["l"] (spTBackQ K)) (g_straight : Def P w K mg base "straight" 4 ["a", "b"] (spStraightQ K)) : FnOk P w K mg base CX0 6 f0 fd ["f"] (spLeaves K) := by
  refine F.ok sc_leaves (fun vs H Q E h => ?_) (fun cdv A outer s H vs Q E hr h => ?_)
  · obtain ⟨v, P1, B1, rfl, _⟩ := h
    rfl
  obtain ⟨v, P1, B1, rfl, h1, G1, l3, l13, q⟩ := h
  have nd := sc_leaves.nd
  refine ⟨_, (@pss_cons _ _ _ _ _ (@ps_asg _ _ _ _ _ _ (@pe_def _ _ _ _ _ _ _ _ _ _ _ g_plain hr (@pa_cons _ _ _ _ _ (@pv _ 0 _ _ (by rfl) (by first | exact Or.inl rfl | exact Or.inr (Or.inl rfl) | exact Or.inr (Or.inr rfl)) (by decide) (by decide)) pa_nil (by rfl)) (by first | decide | omega | exact Nat.le_refl _) (by rfl) (by decide) (by rfl) (by rfl)) (@pgT _ K _ _ _ 3 _ rfl (@pgs_cons _ _ _ _ _ (@pg_name _ _ 1 _ nd rfl (by first | exact Or.inl rfl | exact Or.inr rfl) (by first | exact .inl rfl | exact .inr rfl | assumption)) (@pgs_cons _ _ _ _ _ (@pg_name _ _ 2 _ nd rfl (by first | exact Or.inl rfl | exact Or.inr rfl) (by first | exact .inl rfl | exact .inr rfl | assumption)) (@pgs_cons _ _ _ _ _ (@pg_name _ _ 3 _ nd rfl (by first | exact Or.inl rfl | exact Or.inr rfl) (by first | exact .inl rfl | exact .inr rfl | assumption)) pgs_nil (by rfl)) (by rfl)) (by rfl)) (by rfl) (by rfl) (by rfl)) (by rfl) (by rfl) (by rfl)) (@pss_cons _ _ _ _ _ (@ps_set _ _ 4 _ _ _ _ nd rfl (by first | exact Or.inl rfl | exact Or.inr rfl) (@pe_lst _ _ _ _ (@pa_cons _ _ _ _ _ (@pe_glob _ _ (.ref la) _ _ rfl hLETTER rfl (by decide)) pa_nil (by rfl))) (by rfl) (by first | exact .inl rfl | exact .inr rfl | assumption)) (@pss_cut _ _ _ _ _ (@ps_if _ _ _ _ _ _ _ _ (@ptT _ K _ _ (@pe_callB _ _ _ _ _ _ _ _ _ (allS K) rfl B.all bt_all (@pa_cons _ _ _ _ _ (@pe_comp _ _ _ _ _ _ _ _ _ _ _ _ rfl (show CompS ["f", "l1", "p", "l2", "told", "top"] (defScope s_leaves) _ [5] from by exact ⟨rfl, by decide +kernel, by decide +kernel, by decide +kernel, by decide +kernel⟩) (@piT _ K _ _ _ (@pe_slice3 _ _ _ _ _ _ _ _ _ _ _ _ (oddT K) (@pe_ix _ _ _ _ _ _ _ (ixT K) (@pv _ 2 _ _ (by rfl) (by first | exact Or.inl rfl | exact Or.inr (Or.inl rfl) | exact Or.inr (Or.inr rfl)) (by decide) (by decide)) pe_int (fun _ _ => rfl)) (@po_some _ _ _ pe_int) po_none (@po_some _ _ _ pe_int)) (by rfl)) (fun _ _ _ _ _ => (@pg_name _ _ 5 _ nd rfl (by first | exact Or.inl rfl | exact Or.inr rfl) (by first | exact .inl rfl | exact .inr rfl | assumption))) (fun _ _ _ _ _ => pts_nil) (fun _ _ _ _ _ => (@pe_cmpR _ _ _ _ _ _ _ _ op_eq (@pv _ 5 _ _ (by rfl) (by first | exact Or.inl rfl | exact Or.inr (Or.inl rfl) | exact Or.inr (Or.inr rfl)) (by decide) (by decide)) pe_int (nomark _))) (by intro _; rfl)) pa_nil (by rfl)) (by decide) (by decide) (by rfl) (by rfl)) (fun _ => rfl) (by rfl)) (@pss_one _ _ _ (@ps_expr _ _ _ _ (@pe_bm _ _ _ _ _ _ _ _ _ _ _ _ PySem.F.plainAttrs_list PySem.F.slot_list_append PySem.F.type_list_append mt_append (@pv _ 4 _ _ (by rfl) (by first | exact Or.inl rfl | exact Or.inr (Or.inl rfl) | exact Or.inr (Or.inr rfl)) (by decide) (by decide)) (@pa_cons _ _ _ _ _ (@pe_def _ _ _ _ _ _ _ _ _ _ _ g_put hr (@pa_cons _ _ _ _ _ (@pe_def _ _ _ _ _ _ _ _ _ _ _ g_turned_back hr (@pa_cons _ _ _ _ _ (@pv _ 3 _ _ (by rfl) (by first | exact Or.inl rfl | exact Or.inr (Or.inl rfl) | exact Or.inr (Or.inr rfl)) (by decide) (by decide)) pa_nil (by rfl)) (by first | decide | omega | exact Nat.le_refl _) (by rfl) (by decide) (by rfl) (by rfl)) (@pa_cons _ _ _ _ _ (@pe_def _ _ _ _ _ _ _ _ _ _ _ g_put hr (@pa_cons _ _ _ _ _ (@pe_def _ _ _ _ _ _ _ _ _ _ _ g_straight hr (@pa_cons _ _ _ _ _ (@pe_tup _ _ _ _ _ (@pa_cons _ _ _ _ _ (@pe_un _ _ _ _ _ _ un_neg pe_int) (@pa_cons _ _ _ _ _ pe_int pa_nil (by rfl)) (by rfl))) (@pa_cons _ _ _ _ _ (@pe_tup _ _ _ _ _ (@pa_cons _ _ _ _ _ pe_int (@pa_cons _ _ _ _ _ pe_int pa_nil (by rfl)) (by rfl))) pa_nil (by rfl)) (by rfl)) (by first | decide | omega | exact Nat.le_refl _) (by rfl) (by decide) (by rfl) (by rfl)) (@pa_cons _ _ _ _ _ (@pv _ 3 _ _ (by rfl) (by first | exact Or.inl rfl | exact Or.inr (Or.inl rfl) | exact Or.inr (Or.inr rfl)) (by decide) (by decide)) pa_nil (by rfl)) (by rfl)) (by first | decide | omega | exact Nat.le_refl _) (by rfl) (by decide) (by rfl) (by rfl)) pa_nil (by rfl)) (by rfl)) (by first | decide | omega | exact Nat.le_refl _) (by rfl) (by decide) (by rfl) (by rfl)) pa_nil (by rfl)) (by rfl) (by rfl) (by rfl) (by rfl) (by rfl)) (by rfl))) pss_nil) (@pss_one _ _ _ (@ps_ret _ _ _ _ (@pv _ 4 _ _ (by rfl) (by first | exact Or.inl rfl | exact Or.inr (Or.inl rfl) | exact Or.inr (Or.inr rfl)) (by decide) (by decide))))))), ?_⟩
  have p1 := G1.fm.pos
  have hP : P1 ≠ [] := len3 (B := B1) l3
  have zs := shift_sz G1 l3 l13
  have ze := szq_E G1 (szq_neg zs)
  have ze' : Szq 1930 1930 (Qp.E P1 B1 (-shiftQ P1 B1)) := by
    obtain ⟨T, U, t1, t2, t3, t4⟩ := ze
    exact ⟨T, U, t1, t2, t3.mono (by first | lia | omega), t4.mono (by first | lia | omega)⟩
  have hmb : mb 133 137 P1.length ≤ 1941 := by unfold mb; (first | lia | omega)
  have hmo : mo 133 137 P1.length ≤ 5660 := by unfold mo; (first | lia | omega)
  refine ⟨_, rfl, v, P1, B1, 133, 133, 133, 133, 137, 1930, 1930, rfl, h1, G1, l3, l13, szq_at G1 _, szq_at G1 _, by decide, by decide, zs, by decide, by decide, ze', by decide, by decide, by first | lia | omega, by first | lia | omega, fun t Pa Ba Pb Bb Pc' Bc H1 s1 ht pl lena lenb lenc za zb zc qn qm q0 qa qc => ?_⟩
  have zc := zc.mono (n' := 280) (b' := 140) (by first | lia | omega) (by first | lia | omega)
  have an := Qp.q_lead G1.fm hP
  obtain ⟨tp, xa, xb, xc, rfl, t0, ha, hb, hc⟩ := ht
  obtain ⟨a0, tt, ea, b1, b2⟩ := id hb
  subst ea
  have k1 := SqT.of (K := K) b1
  have k2 := SqT.of (K := K) b2
  -- f stays just where the plain one is even
  have key : Sym P1 B1 ↔ ∀ m, Pb.getD (1 + m * 2) 0 = 0 := by
    rw [← Qp.even_iff (P := Pb) pl.f2.pos]
    have back : ∀ x, Qp.E P1 B1 x = Qp.q P1 B1 (P1.length - 1) * Qp.E Pb Bb (x + shiftQ P1 B1) + Qp.E P1 B1 (-shiftQ P1 B1) := fun x => by
      rw [pl.e2]
      have : x + shiftQ P1 B1 - shiftQ P1 B1 = x := by grind
      rw [this]
      grind
    constructor
    · intro h x
      have e := h (x - shiftQ P1 B1)
      rw [back, back (x - shiftQ P1 B1)] at e
      have e1 : -1 * (x - shiftQ P1 B1) + (0 - 2) * shiftQ P1 B1 + shiftQ P1 B1 = -x := by grind
      have e2 : x - shiftQ P1 B1 + shiftQ P1 B1 = x := by grind
      rw [e1, e2] at e
      grind
    · intro h x
      rw [back, back x]
      have e1 : -1 * x + (0 - 2) * shiftQ P1 B1 + shiftQ P1 B1 = -(x + shiftQ P1 B1) := by grind
      rw [e1, h]
  refine ⟨tp, _, rfl, SqT.of t0, rfl, _, _, rfl, _, _, rfl, _, _, rfl, rfl, ?_⟩
  refine ⟨(by show 1 ≤ sizeLine; decide), fun D hD => ?_⟩
  have s2 := Same.new hD (.lst [.ref la])
  have hD1 := upd_same (H := H1) (a := D) (o := .lst [.ref la])
  have hDH : H D = none := same_none s1 hD
  generalize upd H1 D (.lst [.ref la]) = H2 at *
  refine ⟨fun σ H' => ∃ o1 o2 o3 o4, σ = [some v, o1, o2, o3, some (.ref D), o4] ∧ Same H H' ∧ ((¬ Sym P1 B1 ∧ H' D = some (.lst [.ref la])) ∨ (Sym P1 B1 ∧ ∃ v1 R C, H' D = some (.lst [.ref la, v1]) ∧ Pol H' v1 R C ∧ Po.Fm R C ∧ R.length ≤ 2 ∧ ∀ x, Qp.E R C x = -1 * x + (0 - 2) * shiftQ P1 B1)), ?_, ?_⟩
  · refine ⟨_, rfl, a0, _, 0, _, rfl, rfl, k1.same s2, rfl, 1, rfl, 2, rfl, rfl, rfl, rfl, tt, _, rfl, k2.same s2, fun p hp => ?_⟩
    have s3 := Same.new hp (.tup (oddV (Pb.map V.int)))
    have kp := SqT.of (K := K) (upd_same (H := H2) (a := p) (o := .tup (oddV (Pb.map V.int))))
    have hD2 := s3 _ _ hD1
    have hpD : D ≠ p := ne_of_none hD1 hp
    generalize upd H2 p (.tup (oddV (Pb.map V.int))) = H3 at *
    rw [ints_odd] at kp
    refine ⟨p, rfl, ⟨_, kp⟩, ?_⟩
    refine comp_tup (xs := ((List.range (Pb.length / 2)).map fun m => Pb.getD (1 + m * 2) 0).map V.int) (by rw [List.length_map, List.length_map, List.length_range, sizeLine_eq]; (first | lia | omega)) (fun i τ ys H' => H' = H3 ∧ (∃ o, τ = [some v, some xa, some (.ref a0), some xc, some (.ref D), o]) ∧ ys = ((List.range i).map fun m => decide (Pb.getD (1 + m * 2) 0 = 0)).map V.bl) ⟨rfl, ⟨none, rfl⟩, rfl⟩ (fun i τ ys H' h => by rw [h.1]; exact kp) ?_ ?_
    · rintro i x _ _ _ hx hy ⟨rfl, ⟨o, rfl⟩, rfl⟩
      have hi : i < (((List.range (Pb.length / 2)).map fun m => Pb.getD (1 + m * 2) 0).map V.int).length := (List.getElem?_eq_some_iff.mp hx).1
      have hi' : i < Pb.length / 2 := by rw [List.length_map, List.length_map, List.length_range] at hi; exact hi
      rw [List.getElem?_map, List.getElem?_map, List.getElem?_range hi'] at hx
      cases hx
      refine ⟨_, rfl, rfl, nxt hi hy ⟨rfl, ⟨_, rfl⟩, ?_⟩⟩
      rw [List.range_succ, List.map_append, List.map_append]
      congr 1
      show [V.bl (decide (V.int (Pb.getD (1 + i * 2) 0) = V.int 0))] = [V.bl (decide (Pb.getD (1 + i * 2) 0 = 0))]
      congr 2
      exact decide_eq_decide.mpr ⟨fun h => by injection h, fun h => by rw [h]⟩
    · rintro _ _ H3 E0 hy ⟨rfl, ⟨o, rfl⟩, rfl⟩ hE
      rw [List.length_map, List.length_map, List.length_range] at *
      have s4 := Same.new hE (.lst (((List.range (Pb.length / 2)).map fun m => decide (Pb.getD (1 + m * 2) 0 = 0)).map V.bl))
      refine ⟨E0, _, rfl, SqL.of upd_same, _, rfl, ?_⟩
      have hall : (((List.range (Pb.length / 2)).map fun m => decide (Pb.getD (1 + m * 2) 0 = 0)).all id = true) ↔ Sym P1 B1 := by
        rw [key, List.all_map, List.all_eq_true]
        constructor
        · intro h m
          rcases Nat.lt_or_ge m (Pb.length / 2) with c | c
          · exact of_decide_eq_true (h m (List.mem_range.mpr c))
          · exact getD_out (by first | lia | omega)
        · intro h m _
          exact decide_eq_true (h m)
      have hD4 := s4 _ _ hD2
      have s14 := s2.trans (s3.trans s4)
      have s04 := s1.trans s14
      generalize upd H3 E0 (.lst (((List.range (Pb.length / 2)).map fun m => decide (Pb.getD (1 + m * 2) 0 = 0)).map V.bl)) = H4 at *
      refine ite2 (fun c => ?_) (fun c => ?_)
      · refine ⟨_, rfl, .inl ⟨rfl, _, SqL.of hD4⟩, _, rfl, xc, Pc', Bc, 280, 140, rfl, hc.same s14, zc, by decide, by decide, by rw [qc]; decide, fun y1 R1 C1 H5 s5 hy1 z1 e1 len1 n1 => ?_⟩
        have one : ((1 : Int) : Rat) = 1 := rfl
        have zero : ((0 : Int) : Rat) = 0 := rfl
        have mone : ((-1 : Int) : Rat) = -1 := rfl
        refine ⟨_, rfl, (by show 2 ≤ sizeLine; decide), fun r1 hr1 => ?_⟩
        have s6 := Same.new hr1 (.tup [.int (-1), .int 1])
        have fm1 : Fq K 1 1 (upd H5 r1 (.tup [.int (-1), .int 1])) (.ref r1) ((-1 : Int) : Rat) := Fq.lay (SqT.of upd_same) (by decide)
        refine ⟨(by show 2 ≤ sizeLine; decide), fun r2 hr2 => ?_⟩
        have s7 := Same.new hr2 (.tup [.int 0, .int 1])
        have f01 : Fq K 1 1 (upd (upd H5 r1 (.tup [.int (-1), .int 1])) r2 (.tup [.int 0, .int 1])) (.ref r2) ((0 : Int) : Rat) := Fq.lay (SqT.of upd_same) (by decide)
        refine ⟨_, _, _, _, 1, 1, 1, 1, rfl, fm1.same s7, f01, by decide, by decide, by decide, fun y2 R2 C2 H8 s8 hy2 z2 e2 l2 q20 q21 => ?_⟩
        obtain ⟨len2, n2⟩ := st_len (P := R2) (B := C2) (by rw [q21]; decide) l2
        have s48 := s5.trans (s6.trans (s7.trans s8))
        refine ⟨_, rfl, y2, xc, R2, Pc', C2, Bc, 4, 2, 280, 140, rfl, hy2, hc.same (s14.trans s48), z2, zc, by rw [len2]; decide, by rw [len2]; decide, by rw [len2, lenc]; decide, by rw [len2]; decide, by rw [lenc]; decide, fun y3 R3 C3 H9 s9 hy3 o3 => ?_⟩
        have z3 := (o3.size z2 zc (by rw [len2, lenc]; decide)).mono (n' := 900) (b' := 300) (by rw [len2]; decide) (by rw [len2]; decide)
        have len3 := of_outer len2 n2 zc.fm z2.fm.pos (by first | lia | omega) o3
        refine ⟨y1, y3, R1, R3, C1, C3, _, _, 900, 300, rfl, hy1.same (s6.trans (s7.trans (s8.trans s9))), hy3, z1, z3, by rw [len1]; decide, by rw [len1]; decide, by rw [len1, len3, lenc]; decide, by rw [len1]; decide, by rw [len3, lenc]; decide, fun y4 R4 C4 H10 s10 hy4 o4 => ?_⟩
        have len4 := of_outer len1 n1 o3.1 z1.fm.pos (by first | lia | omega) o4
        have hD10 := (s48.trans (s9.trans s10)) _ _ hD4
        refine ⟨D, _, _, rfl, rfl, hD10, (by show 1 < sizeLine; decide), ?_⟩
        refine ⟨_, _, _, _, rfl, (s04.trans (s48.trans (s9.trans s10))).over hDH _, .inr ⟨hall.mp c, y4, R4, C4, upd_same, ?_, o4.1, by first | lia | omega, fun x => ?_⟩⟩
        · obtain ⟨a4, t4, e4, g1, g2⟩ := hy4
          exact ⟨a4, t4, e4, by rw [upd_ne (ne_of g1 hD10 (fun z => by cases z))]; exact g1, by rw [upd_ne (ne_of g2 hD10 (fun z => by cases z))]; exact g2⟩
        · have qc0 : Qp.q Pc' Bc 0 = shiftQ P1 B1 := by
            rw [← Qp.q_zero, pl.e3]
            grind
          rw [Qp.E_of z1.fm.pos o3.1.pos o4, e1, Qp.E_of z2.fm.pos zc.fm.pos o3, e2, pl.e3, qc, qc0, mone, zero]
          grind
      · refine ⟨_, _, _, _, rfl, s04, .inl ⟨fun z => c (hall.mpr z), hD4⟩⟩
  · rintro _ H4 ⟨o1, o2, o3, o4, rfl, s04, h⟩
    exact ⟨_, rfl, q D H4 (.ref la) s04 hDH (hL H4) h⟩
end
end My

set_option maxHeartbeats 4000000
namespace My
open PySem L2
section
variable {P : Program} {w : World} {K : PySem.W.Frag} {mg : Str → Option Value} {base : Heap}
/-! ### k24 -/
/-- the list of those by which f stays -/
def LvL (K : PySem.W.Frag) (H : Hp) (D : Addr) (P : List Int) (B : Int) : Prop := ∃ v0, PolK K H v0 Pc.X 1 ∧ ((¬ Sym P B ∧ H D = some (.lst [v0])) ∨ (Sym P B ∧ ∃ v1 R C, H D = some (.lst [v0, v1]) ∧ Pol H v1 R C ∧ Po.Fm R C ∧ R.length ≤ 2 ∧ ∀ x, Qp.E R C x = -1 * x + (0 - 2) * shiftQ P B))
theorem LvL.same {H H' : Hp} {D : Addr} {P1 : List Int} {B1 : Int} (h : LvL K H D P1 B1) (s : Same H H') : LvL K H' D P1 B1 := by
  obtain ⟨v0, h0, h⟩ := h
  refine ⟨v0, h0.same s, ?_⟩
  rcases h with ⟨n, h⟩ | ⟨y, v1, R, C, h, hp, f, lR, e⟩
  · exact .inl ⟨n, s _ _ h⟩
  · exact .inr ⟨y, v1, R, C, s _ _ h, hp.same s, f, lR, e⟩
theorem repLst {H : Hp} {D : Addr} {ds : List DV} {vs : List V} (h : H D = some (.lst vs)) (r : Reps K H ds vs) : Rep K H (.lst ds) (.ref D) := by
  unfold Rep
  exact ⟨D, vs, rfl, SqL.of h, r⟩
theorem two_lists {H : Hp} {D D' : Addr} {P1 : List Int} {B1 : Int} (h : LvL K H D P1 B1) (h' : LvL K H D' P1 B1) : ∃ d, Rep K H d (.ref D) ∧ Rep K H d (.ref D') ∧ d.dp < 4 ∧ d.wd ≤ 100000 := by
  obtain ⟨v0, h0, h⟩ := h
  obtain ⟨w0, g0, h'⟩ := h'
  have x2 := pd_wd Pc.X 1
  have lX : Pc.X.length = 2 := rfl
  rcases h with ⟨n, h⟩ | ⟨y, v1, R, C, h, hp, f, lR, e⟩
  · rcases h' with ⟨n', h'⟩ | ⟨y', _⟩
    · refine ⟨.lst [.tup (pd Pc.X 1)], repLst h (reps1 h0.rep), repLst h' (reps1 g0.rep), ?_, ?_⟩
      · show DV.dps [.tup (pd Pc.X 1)] + 1 < 4
        simp [DV.dps, x2.2]
      · show max 1 (DV.wds [.tup (pd Pc.X 1)]) ≤ 100000
        simp only [DV.wds]
        (first | lia | omega)
    · exact absurd y' n
  · rcases h' with ⟨n', _⟩ | ⟨y', v1', R', C', h', hp', f', lR', e'⟩
    · exact absurd y n'
    · obtain ⟨rfl, rfl⟩ := Qp.E_inj f f' fun x => by rw [e, e']
      have xR := pd_wd R C
      refine ⟨.lst [.tup (pd Pc.X 1), .tup (pd R C)], repLst h (repsC h0.rep (reps1 hp.rep)), repLst h' (repsC g0.rep (reps1 hp'.rep)), ?_, ?_⟩
      · show DV.dps [.tup (pd Pc.X 1), .tup (pd R C)] + 1 < 4
        simp [DV.dps, x2.2, xR.2]
      · show max 2 (DV.wds [.tup (pd Pc.X 1), .tup (pd R C)]) ≤ 100000
        simp only [DV.wds]
        (first | lia | omega)
def spDue (K : PySem.W.Frag) : Sp := fun vs H Q _ => ∃ (v : V) (P : List Int) (B : Int), vs = [v] ∧ Pol H v P B ∧ Pc.Pz 133 133 P B ∧ 3 ≤ P.length ∧ P.length ≤ 13 ∧ ∀ (D : Addr) (H' : Hp), Same H H' → LvL K H' D P B → Q (.ref D) H'
theorem sc_law_due : FnScope ["_law_f", "_law_n", "_law_twice", "_law_about"] ["_law_f"] (defScope s_law_due) := ⟨rfl, rfl, rfl, by decide +kernel, rfl, by decide +kernel, by decide +kernel⟩
theorem ok_law_due {f0 : Addr} {fd : FuncData} (F : Fun K "_law_due" "_law_due" s_law_due f0 fd) (B : Bl mg) (g_law_divided : Def P w K mg base "_law_divided" 3 ["_law_one", "_law_other"] (spDividedQ K)) (g_law_product : Def P w K mg base "_law_product" 3 ["_law_one", "_law_other"] (spMultipliedQ K)) (g_law_at : Def P w K mg base "_law_at" 3 ["_law_p", "_law_k"] (spFAtQ K))
    (g_law_straight : Def P w K mg base "_law_straight" 3 ["_law_a", "_law_b"] (spStraightQ K)) (g_law_of : Def P w K mg base "_law_of" 4 ["_law_p", "_law_q"] (spLOf K)) : FnOk P w K mg base CX0 5 f0 fd ["_law_f"] (spDue K) := by
  refine F.ok sc_law_due (fun vs H Q E h => ?_) (fun cdv A outer s H vs Q E hr h => ?_)
  · obtain ⟨v, P1, B1, rfl, _⟩ := h
    rfl
  obtain ⟨v, P1, B1, rfl, h1, G1, l3, l13, q⟩ := h
  have nd := sc_law_due.nd
  refine ⟨_, (@pss_cons _ _ _ _ _ (@ps_set _ _ 1 _ _ _ _ nd rfl (by first | exact Or.inl rfl | exact Or.inr rfl) (@pe_op _ _ _ _ _ _ _ _ op_sub (@pe_callB _ _ _ _ _ _ _ _ _ (lenS K) rfl B.len bt_len (@pa_cons _ _ _ _ _ (@pe_ix _ _ _ _ _ _ _ (ixT K) (@pv _ 0 _ _ (by rfl) (by first | exact Or.inl rfl | exact Or.inr (Or.inl rfl) | exact Or.inr (Or.inr rfl)) (by decide) (by decide)) pe_int (fun _ _ => rfl)) pa_nil (by rfl)) (by decide) (by decide) (by rfl) (by rfl)) pe_int) (by rfl) (by first | exact .inl rfl | exact .inr rfl | assumption)) (@pss_cons _ _ _ _ _ (@ps_set _ _ 2 _ _ _ _ nd rfl (by first | exact Or.inl rfl | exact Or.inr rfl) (@pe_def _ _ _ _ _ _ _ _ _ _ _ g_law_divided hr (@pa_cons _ _ _ _ _ (@pe_def _ _ _ _ _ _ _ _ _ _ _ g_law_product hr (@pa_cons _ _ _ _ _ (@pe_tup _ _ _ _ _ (@pa_cons _ _ _ _ _ (@pe_op _ _ _ _ _ _ _ _ op_sub pe_int pe_int) (@pa_cons _ _ _ _ _ pe_int pa_nil (by rfl)) (by rfl))) (@pa_cons _ _ _ _ _ (@pe_def _ _ _ _ _ _ _ _ _ _ _ g_law_at hr (@pa_cons _ _ _ _ _ (@pv _ 0 _ _ (by rfl) (by first | exact Or.inl rfl | exact Or.inr (Or.inl rfl) | exact Or.inr (Or.inr rfl)) (by decide) (by decide)) (@pa_cons _ _ _ _ _ (@pe_op _ _ _ _ _ _ _ _ op_sub (@pv _ 1 _ _ (by rfl) (by first | exact Or.inl rfl | exact Or.inr (Or.inl rfl) | exact Or.inr (Or.inr rfl)) (by decide) (by decide)) pe_int) pa_nil (by rfl)) (by rfl)) (by first | decide | omega | exact Nat.le_refl _) (by rfl) (by decide) (by rfl) (by rfl)) pa_nil (by rfl)) (by rfl)) (by first | decide | omega | exact Nat.le_refl _) (by rfl) (by decide) (by rfl) (by rfl)) (@pa_cons _ _ _ _ _ (@pe_def _ _ _ _ _ _ _ _ _ _ _ g_law_product hr (@pa_cons _ _ _ _ _ (@pe_tup _ _ _ _ _ (@pa_cons _ _ _ _ _ (@pv _ 1 _ _ (by rfl) (by first | exact Or.inl rfl | exact Or.inr (Or.inl rfl) | exact Or.inr (Or.inr rfl)) (by decide) (by decide)) (@pa_cons _ _ _ _ _ pe_int pa_nil (by rfl)) (by rfl))) (@pa_cons _ _ _ _ _ (@pe_def _ _ _ _ _ _ _ _ _ _ _ g_law_at hr (@pa_cons _ _ _ _ _ (@pv _ 0 _ _ (by rfl) (by first | exact Or.inl rfl | exact Or.inr (Or.inl rfl) | exact Or.inr (Or.inr rfl)) (by decide) (by decide)) (@pa_cons _ _ _ _ _ (@pv _ 1 _ _ (by rfl) (by first | exact Or.inl rfl | exact Or.inr (Or.inl rfl) | exact Or.inr (Or.inr rfl)) (by decide) (by decide)) pa_nil (by rfl)) (by rfl)) (by first | decide | omega | exact Nat.le_refl _) (by rfl) (by decide) (by rfl) (by rfl)) pa_nil (by rfl)) (by rfl)) (by first | decide | omega | exact Nat.le_refl _) (by rfl) (by decide) (by rfl) (by rfl)) pa_nil (by rfl)) (by rfl)) (by first | decide | omega | exact Nat.le_refl _) (by rfl) (by decide) (by rfl) (by rfl)) (by rfl) (by first | exact .inl rfl | exact .inr rfl | assumption)) (@pss_cons _ _ _ _ _ (@ps_set _ _ 3 _ _ _ _ nd rfl (by first | exact Or.inl rfl | exact Or.inr rfl) (@pe_def _ _ _ _ _ _ _ _ _ _ _ g_law_straight hr (@pa_cons _ _ _ _ _ (@pe_tup _ _ _ _ _ (@pa_cons _ _ _ _ _ (@pe_op _ _ _ _ _ _ _ _ op_sub pe_int pe_int) (@pa_cons _ _ _ _ _ pe_int pa_nil (by rfl)) (by rfl))) (@pa_cons _ _ _ _ _ (@pv _ 2 _ _ (by rfl) (by first | exact Or.inl rfl | exact Or.inr (Or.inl rfl) | exact Or.inr (Or.inr rfl)) (by decide) (by decide)) pa_nil (by rfl)) (by rfl)) (by first | decide | omega | exact Nat.le_refl _) (by rfl) (by decide) (by rfl) (by rfl)) (by rfl) (by first | exact .inl rfl | exact .inr rfl | assumption)) (@pss_one _ _ _ (@ps_ret _ _ _ _ (@pe_op _ _ _ _ _ _ _ _ op_cat (@pe_lst _ _ _ _ (@pa_cons _ _ _ _ _ (@pe_tup _ _ _ _ _ (@pa_cons _ _ _ _ _ (@pe_tup _ _ _ _ _ (@pa_cons _ _ _ _ _ pe_int (@pa_cons _ _ _ _ _ pe_int pa_nil (by rfl)) (by rfl))) (@pa_cons _ _ _ _ _ pe_int pa_nil (by rfl)) (by rfl))) pa_nil (by rfl))) (@pe_op _ _ _ _ _ _ _ _ op_rep (@pe_lst _ _ _ _ (@pa_cons _ _ _ _ _ (@pv _ 3 _ _ (by rfl) (by first | exact Or.inl rfl | exact Or.inr (Or.inl rfl) | exact Or.inr (Or.inr rfl)) (by decide) (by decide)) pa_nil (by rfl))) (@pe_callTy _ _ _ _ _ _ _ _ _ call_int1 rfl B.int bt_int (@pa_cons _ _ _ _ _ (@pe_cmpR _ _ _ _ _ _ _ _ (eqT K hr) (@pe_def _ _ _ _ _ _ _ _ _ _ _ g_law_of hr (@pa_cons _ _ _ _ _ (@pv _ 0 _ _ (by rfl) (by first | exact Or.inl rfl | exact Or.inr (Or.inl rfl) | exact Or.inr (Or.inr rfl)) (by decide) (by decide)) (@pa_cons _ _ _ _ _ (@pv _ 3 _ _ (by rfl) (by first | exact Or.inl rfl | exact Or.inr (Or.inl rfl) | exact Or.inr (Or.inr rfl)) (by decide) (by decide)) pa_nil (by rfl)) (by rfl)) (by first | decide | omega | exact Nat.le_refl _) (by rfl) (by decide) (by rfl) (by rfl)) (@pv _ 0 _ _ (by rfl) (by first | exact Or.inl rfl | exact Or.inr (Or.inl rfl) | exact Or.inr (Or.inr rfl)) (by decide) (by decide)) (nomark _)) pa_nil (by rfl)) (by decide) (by decide) (by rfl) (by rfl))))))))), ?_⟩
  have p1 := G1.fm.pos
  have hP : P1 ≠ [] := len3 (B := B1) l3
  have zs := shift_sz G1 l3 l13
  obtain ⟨a0, t0, ea, a1, a2⟩ := id h1
  subst ea
  have k1 := SqT.of (K := K) a1
  obtain ⟨N, hN⟩ : ∃ N : Nat, P1.length = N + 2 := ⟨P1.length - 2, by first | lia | omega⟩
  have e1 : P1.length - 1 = N + 1 := by first | lia | omega
  have e2 : P1.length - 2 = N := by first | lia | omega
  have eI : (P1.length : Int) - 1 = ((N + 1 : Nat) : Int) := by first | lia | omega
  have qn := Qp.q_lead G1.fm hP
  rw [e1] at qn
  have nQ : ((N + 1 : Nat) : Rat) ≠ 0 := fun z => by
    have := Rat.natCast_eq_zero_iff.mp z
    (first | lia | omega)
  have esh : shiftQ P1 B1 = Qp.q P1 B1 N / (Qp.q P1 B1 (N + 1) * ((N + 1 : Nat) : Rat)) := by
    unfold shiftQ
    rw [e1, e2]
  have one : ((1 : Int) : Rat) = 1 := rfl
  have mone : ((0 - 1 : Int) : Rat) = -1 := rfl
  have mtwo : ((0 - 2 : Int) : Rat) = 0 - 2 := by rw [Rat.intCast_sub]; rfl
  refine ⟨_, rfl, a0, _, 0, _, rfl, rfl, k1, rfl, t0, _, rfl, .inr (SqT.of a2), _, _, rfl, rfl, ?_⟩
  rw [List.length_map, show (fun (i j : Int) => V.int (i - j)) (P1.length : Int) 1 = V.int ((N + 1 : Nat) : Int) from by show V.int ((P1.length : Int) - 1) = _; rw [eI]]
  have hNi : ((N + 1 : Nat) : Int) - 1 = ((N : Nat) : Int) := by first | lia | omega
  refine ⟨_, _, rfl, rfl, (by show 2 ≤ sizeLine; decide), fun r0 hr0 => ?_⟩
  have s1 := Same.new hr0 (.tup [.int (0 - 2), .int 1])
  have f2 : Fq K 2 1 (upd H r0 (.tup [.int (0 - 2), .int 1])) (.ref r0) ((0 - 2 : Int) : Rat) := Fq.lay (SqT.of upd_same) (by decide)
  refine ⟨_, rfl, _, rfl, _, _, rfl, rfl, _, P1, B1, N, 133, 133, by show [V.ref a0, V.int (((N + 1 : Nat) : Int) - 1)] = _; rw [hNi], h1.same s1, G1, by decide, fun x2 H2 s2 hx2 => ?_⟩
  refine ⟨_, x2, _, _, 2, 1, 133, 133, rfl, f2.same s2, hx2, True.intro, by decide, by decide, by decide, by decide, fun x3 H3 s3 hx3 => ?_⟩
  refine ⟨_, rfl, (by show 2 ≤ sizeLine; decide), fun r1 hr1 => ?_⟩
  have s4 := Same.new hr1 (.tup [.int ((N + 1 : Nat) : Int), .int 1])
  have fn1 : Fq K 4 1 (upd H3 r1 (.tup [.int ((N + 1 : Nat) : Int), .int 1])) (.ref r1) (((N + 1 : Nat) : Int) : Rat) := Fq.lay (SqT.of upd_same) (Lt2.of 13 (by first | lia | omega) (by decide))
  have s14 := s1.trans (s2.trans (s3.trans s4))
  refine ⟨_, rfl, _, rfl, _, P1, B1, N + 1, 133, 133, rfl, h1.same s14, G1, by decide, fun x4 H5 s5 hx4 => ?_⟩
  refine ⟨_, x4, _, _, 4, 1, 133, 133, rfl, fn1.same s5, hx4, True.intro, by decide, by decide, by decide, by decide, fun x5 H6 s6 hx5 => ?_⟩
  have nz3 : (((N + 1 : Nat) : Int) : Rat) * Qp.q P1 B1 (N + 1) ≠ 0 := fun z => by
    rcases Rat.mul_eq_zero.mp z with w | w
    · exact nQ w
    · exact qn w
  refine ⟨x3, x5, _, _, 2 + 133, 1 + 133, 4 + 133, 1 + 133, rfl, hx3.same (s4.trans (s5.trans s6)), hx5, nz3, by decide, by decide, by decide, by decide, fun x6 H7 s7 hx6 => ?_⟩
  have z2s : Szq 139 139 ((0 - 2) * shiftQ P1 B1) := by
    obtain ⟨T, U, u1, u2, u3, u4⟩ := zs
    refine ⟨(0 - 2) * T, U, u1, ?_, ((show Lt2 2 (0 - 2) by decide).mul u3).mono (by decide), u4.mono (by decide)⟩
    rw [u2, Rat.intCast_mul, mtwo]
    have := Qp.ne_of_ne u1
    grind
  have htw : Fq K 139 139 H7 x6 ((0 - 2) * shiftQ P1 B1) := by
    refine Fq.by' (n := 2 + 133 + (1 + 133)) (b := 1 + 133 + (4 + 133)) ?_ z2s
    have e : (0 - 2) * shiftQ P1 B1 = ((0 - 2 : Int) : Rat) * Qp.q P1 B1 N / ((((N + 1 : Nat) : Int) : Rat) * Qp.q P1 B1 (N + 1)) := by
      rw [esh, mtwo, Rat.mul_comm (((N + 1 : Nat) : Int) : Rat)]
      have : (((N + 1 : Nat) : Int) : Rat) = ((N + 1 : Nat) : Rat) := rfl
      rw [this]
      grind
    rw [e]
    exact hx6
  have s17 := s14.trans (s5.trans (s6.trans s7))
  refine ⟨_, _, rfl, rfl, (by show 2 ≤ sizeLine; decide), fun r2 hr2 => ?_⟩
  have s8 := Same.new hr2 (.tup [.int (0 - 1), .int 1])
  have fm1 : Fq K 1 1 (upd H7 r2 (.tup [.int (0 - 1), .int 1])) (.ref r2) ((0 - 1 : Int) : Rat) := Fq.lay (SqT.of upd_same) (by decide)
  refine ⟨_, rfl, _, x6, _, _, 1, 1, 139, 139, rfl, fm1, htw.same s8, by decide, by decide, by decide, fun y A aB H9 s9 hy zA eA lA q0 q1 => ?_⟩
  have eA' : ∀ x, Qp.E A aB x = -1 * x + (0 - 2) * shiftQ P1 B1 := fun x => by rw [eA, mone]
  have s19 := s17.trans (s8.trans s9)
  refine ⟨(by show 2 ≤ sizeLine; decide), fun r3 hr3 => ⟨(by show 2 ≤ sizeLine; decide), fun r4 hr4 => ?_⟩⟩
  obtain ⟨wX, s10⟩ := lay_X hr3 hr4
  generalize upd (upd H9 r3 (.tup [.int 0, .int 1])) r4 (.tup [.ref r3, .int 1]) = H10 at *
  refine ⟨(by show 1 ≤ sizeLine; decide), fun r5 hr5 => ?_⟩
  have s11 := Same.new hr5 (.lst [.ref r4])
  have h5 := upd_same (H := H10) (a := r5) (o := .lst [.ref r4])
  generalize upd H10 r5 (.lst [.ref r4]) = H11 at *
  refine ⟨_, rfl, (by show 1 ≤ sizeLine; decide), fun r6 hr6 => ?_⟩
  have s12 := Same.new hr6 (.lst [y])
  have h6 := upd_same (H := H11) (a := r6) (o := .lst [y])
  generalize upd H11 r6 (.lst [y]) = H12 at *
  have s912 := s10.trans (s11.trans s12)
  have pm : P1.length * A.length ≤ 13 * 2 := Nat.mul_le_mul l13 lA
  refine ⟨_, rfl, _, rfl, _, y, P1, A, B1, aB, 133, 133, 280, 140, rfl, h1.same (s19.trans s912), hy.same s912, G1, zA, by first | lia | omega, by first | lia | omega, by first | lia | omega, by first | lia | omega, by first | lia | omega, fun z R C H13 s13 hz o => ?_⟩
  have s913 := s912.trans s13
  refine ⟨_, rfl, _, _, hz.rep, (h1.same (s19.trans s913)).rep, pd_pls _ _, pd_pls _ _, by rw [pd_dps]; decide, fun b hb => .inr ⟨_, rfl, ?_⟩⟩
  have hsym : b = true ↔ Sym P1 B1 := by
    rw [hb, pd_inj]
    constructor
    · rintro ⟨e1, e2⟩ x
      have := Qp.E_of p1 zA.fm.pos o x
      rw [e1, e2, eA'] at this
      exact this.symm
    · intro h
      exact Qp.E_inj o.1 G1.fm fun x => by rw [Qp.E_of p1 zA.fm.pos o, eA']; exact h x
  have kb : (if (if false = true then !b else b) = true then (1 : Int) else 0).toNat = (if b = true then 1 else 0) := by cases b <;> rfl
  refine ⟨r6, _, [y], rfl, rfl, s13 _ _ h6, by cases b <;> decide, by cases b <;> decide, (by rw [kb, sizeLine_eq]; show 1 * _ ≤ _; split <;> (first | lia | omega)), fun r7 hr7 => ?_⟩
  rw [kb]
  have s14' := Same.new hr7 (.lst (List.replicate (if b = true then 1 else 0) [y]).flatten)
  have h7 := upd_same (H := H13) (a := r7) (o := .lst (List.replicate (if b = true then 1 else 0) [y]).flatten)
  have h514 := (s12.trans (s13.trans s14')) _ _ h5
  generalize upd H13 r7 (.lst (List.replicate (if b = true then 1 else 0) [y]).flatten) = H14 at *
  refine ⟨r5, r7, _, _, rfl, rfl, h514, h7, (by show 1 + (List.replicate (if b = true then 1 else 0) [y]).flatten.length ≤ sizeLine; rw [len_rep, sizeLine_eq]; show 1 + _ * 1 ≤ _; split <;> (first | lia | omega)), fun r8 hr8 => ?_⟩
  have s15 := Same.new hr8 (.lst ([.ref r4] ++ (List.replicate (if b = true then 1 else 0) [y]).flatten))
  have wX' : PolK K (upd H14 r8 (.lst ([.ref r4] ++ (List.replicate (if b = true then 1 else 0) [y]).flatten))) (.ref r4) Pc.X 1 := (wX.same (s11.trans (s12.trans (s13.trans (s14'.trans s15))))).k
  have hy' := hy.same (s913.trans (s14'.trans s15))
  refine q r8 _ (s19.trans (s913.trans (s14'.trans s15))) ⟨.ref r4, wX', ?_⟩
  cases b with
  | false => exact .inl ⟨fun z => absurd (hsym.mpr z) (by decide), upd_same⟩
  | true => exact .inr ⟨hsym.mp rfl, y, A, aB, upd_same, hy', zA.fm, lA, eA'⟩
def spRight (K : PySem.W.Frag) : Sp := fun vs H Q _ => ∃ (v : V) (P : List Int) (B : Int), vs = [v] ∧ Pol H v P B ∧ Pc.Pz 133 133 P B ∧ 3 ≤ P.length ∧ P.length ≤ 13 ∧ ∀ H', Same H H' → Q (.bl true) H'
theorem sc_law_right : FnScope ["_law_f", "_law_due_here", "_law_found", "_law_l"] ["_law_f"] (defScope s_law_right) := ⟨rfl, rfl, rfl, by decide +kernel, rfl, by decide +kernel, by decide +kernel⟩
theorem ok_law_right {f0 : Addr} {fd : FuncData} (F : Fun K "_law_right" "_law_right" s_law_right f0 fd) (B : Bl mg) (g_law_due : Def P w K mg base "_law_due" 5 ["_law_f"] (spDue K)) (g_leaves : Def P w K mg base "leaves" 6 ["f"] (spLeaves K)) (g_law_alike : Def P w K mg base "_law_alike" 4 ["_law_found", "_law_due_here"] (spAlike K 4))
    (g_law_of : Def P w K mg base "_law_of" 4 ["_law_p", "_law_q"] (spLOf K)) : FnOk P w K mg base CX0 7 f0 fd ["_law_f"] (spRight K) := by
  refine F.ok sc_law_right (fun vs H Q E h => ?_) (fun cdv A outer s H vs Q E hr h => ?_)
  · obtain ⟨v, P1, B1, rfl, _⟩ := h
    rfl
  obtain ⟨v, P1, B1, rfl, h1, G1, l3, l13, q⟩ := h
  have nd := sc_law_right.nd
  refine ⟨_, (@pss_cons _ _ _ _ _ (@ps_set _ _ 1 _ _ _ _ nd rfl (by first | exact Or.inl rfl | exact Or.inr rfl) (@pe_def _ _ _ _ _ _ _ _ _ _ _ g_law_due hr (@pa_cons _ _ _ _ _ (@pv _ 0 _ _ (by rfl) (by first | exact Or.inl rfl | exact Or.inr (Or.inl rfl) | exact Or.inr (Or.inr rfl)) (by decide) (by decide)) pa_nil (by rfl)) (by first | decide | omega | exact Nat.le_refl _) (by rfl) (by decide) (by rfl) (by rfl)) (by rfl) (by first | exact .inl rfl | exact .inr rfl | assumption)) (@pss_cons _ _ _ _ _ (@ps_set _ _ 2 _ _ _ _ nd rfl (by first | exact Or.inl rfl | exact Or.inr rfl) (@pe_def _ _ _ _ _ _ _ _ _ _ _ g_leaves hr (@pa_cons _ _ _ _ _ (@pv _ 0 _ _ (by rfl) (by first | exact Or.inl rfl | exact Or.inr (Or.inl rfl) | exact Or.inr (Or.inr rfl)) (by decide) (by decide)) pa_nil (by rfl)) (by first | decide | omega | exact Nat.le_refl _) (by rfl) (by decide) (by rfl) (by rfl)) (by rfl) (by first | exact .inl rfl | exact .inr rfl | assumption)) (@pss_cut _ _ _ _ _ (@ps_if _ _ _ _ _ _ _ _ (@PW.pt _ _ _ (@pw_or _ _ _ _ _ _ _ (@pt_not _ _ _ _ (@ptT _ K _ _ (@pe_def _ _ _ _ _ _ _ _ _ _ _ g_law_alike hr (@pa_cons _ _ _ _ _ (@pv _ 2 _ _ (by rfl) (by first | exact Or.inl rfl | exact Or.inr (Or.inl rfl) | exact Or.inr (Or.inr rfl)) (by decide) (by decide)) (@pa_cons _ _ _ _ _ (@pv _ 1 _ _ (by rfl) (by first | exact Or.inl rfl | exact Or.inr (Or.inl rfl) | exact Or.inr (Or.inr rfl)) (by decide) (by decide)) pa_nil (by rfl)) (by rfl)) (by first | decide | omega | exact Nat.le_refl _) (by rfl) (by decide) (by rfl) (by rfl)) (fun _ => rfl) (by rfl))) (@pw_or1 _ _ _ _ (@ptT _ K _ _ (@pe_callB _ _ _ _ _ _ _ _ _ (anyS K) rfl B.any bt_any (@pa_cons _ _ _ _ _ (@pe_comp _ _ _ _ _ _ _ _ _ _ _ _ rfl (show CompS ["_law_f", "_law_due_here", "_law_found", "_law_l"] (defScope s_law_right) _ [3] from by exact ⟨rfl, by decide +kernel, by decide +kernel, by decide +kernel, by decide +kernel⟩) (@piL _ K _ _ _ (@pv _ 2 _ _ (by rfl) (by first | exact Or.inl rfl | exact Or.inr (Or.inl rfl) | exact Or.inr (Or.inr rfl)) (by decide) (by decide)) (by rfl)) (fun _ _ _ _ _ => (@pg_name _ _ 3 _ nd rfl (by first | exact Or.inl rfl | exact Or.inr rfl) (by first | exact .inl rfl | exact .inr rfl | assumption))) (fun _ _ _ _ _ => pts_nil) (fun _ _ _ _ _ => (@pe_cmpR _ _ _ _ _ _ _ _ (neT K hr) (@pe_def _ _ _ _ _ _ _ _ _ _ _ g_law_of hr (@pa_cons _ _ _ _ _ (@pv _ 0 _ _ (by rfl) (by first | exact Or.inl rfl | exact Or.inr (Or.inl rfl) | exact Or.inr (Or.inr rfl)) (by decide) (by decide)) (@pa_cons _ _ _ _ _ (@pv _ 3 _ _ (by rfl) (by first | exact Or.inl rfl | exact Or.inr (Or.inl rfl) | exact Or.inr (Or.inr rfl)) (by decide) (by decide)) pa_nil (by rfl)) (by rfl)) (by first | decide | omega | exact Nat.le_refl _) (by rfl) (by decide) (by rfl) (by rfl)) (@pv _ 0 _ _ (by rfl) (by first | exact Or.inl rfl | exact Or.inr (Or.inl rfl) | exact Or.inr (Or.inr rfl)) (by decide) (by decide)) (nomark _))) (by intro _; rfl)) pa_nil (by rfl)) (by decide) (by decide) (by rfl) (by rfl)) (fun _ => rfl) (by rfl))))) (@pss_one _ _ _ (@ps_ret _ _ _ _ pe_bl)) pss_nil) (@pss_cons _ _ _ _ _ (@ps_expr _ _ _ _ (@pe_bm0 _ _ _ _ _ _ _ _ _ PySem.F.plainAttrs_list PySem.F.slot_list_pop PySem.F.type_list_pop mt_pop (@pv _ 2 _ _ (by rfl) (by first | exact Or.inl rfl | exact Or.inr (Or.inl rfl) | exact Or.inr (Or.inr rfl)) (by decide) (by decide)) (by rfl) (by rfl)) (by rfl)) (@pss_one _ _ _ (@ps_ret _ _ _ _ (@pe_def _ _ _ _ _ _ _ _ _ _ _ g_law_alike hr (@pa_cons _ _ _ _ _ (@pe_def _ _ _ _ _ _ _ _ _ _ _ g_leaves hr (@pa_cons _ _ _ _ _ (@pv _ 0 _ _ (by rfl) (by first | exact Or.inl rfl | exact Or.inr (Or.inl rfl) | exact Or.inr (Or.inr rfl)) (by decide) (by decide)) pa_nil (by rfl)) (by first | decide | omega | exact Nat.le_refl _) (by rfl) (by decide) (by rfl) (by rfl)) (@pa_cons _ _ _ _ _ (@pv _ 1 _ _ (by rfl) (by first | exact Or.inl rfl | exact Or.inr (Or.inl rfl) | exact Or.inr (Or.inr rfl)) (by decide) (by decide)) pa_nil (by rfl)) (by rfl)) (by first | decide | omega | exact Nat.le_refl _) (by rfl) (by decide) (by rfl) (by rfl)))))))), ?_⟩
  refine ⟨_, rfl, v, P1, B1, rfl, h1, G1, l3, l13, fun D H1 s1 hD => ?_⟩
  refine ⟨_, rfl, v, P1, B1, rfl, h1.same s1, G1, l3, l13, fun D2 H2 v0 s2 n2 h0 hl2 => ?_⟩
  have hD2 : LvL K H2 D2 P1 B1 := ⟨v0, h0, hl2⟩
  have hD' := hD.same s2
  have h12 := h1.same (s1.trans s2)
  have hne : D ≠ D2 := by
    obtain ⟨w0, _, h⟩ := hD
    rcases h with ⟨_, h⟩ | ⟨_, _, _, _, h, _⟩
    · exact ne_of_none h n2
    · exact ne_of_none h n2
  have n2H : H D2 = none := same_none s1 n2
  refine ⟨fun σ H' => Same H2 H' ∧ ∃ o, σ = [some v, some (.ref D), some (.ref D2), o], ?_, ?_⟩
  · obtain ⟨d, x1, x2, x3, x4⟩ := two_lists hD2 hD'
    refine ⟨_, rfl, _, rfl, d, _, _, rfl, x1, x2, x3, x4, fun H3 s3 => ⟨_, rfl, iteF ?_⟩⟩
    obtain ⟨xs, hxs, lxs, hall⟩ : ∃ xs, H3 D2 = some (.lst xs) ∧ xs.length ≤ 2 ∧ ∀ x ∈ xs, ∃ R C, PolK K H3 x R C ∧ Pc.Pz 280 140 R C ∧ R.length ≤ 2 ∧ ∀ y, Qp.E P1 B1 (Qp.E R C y) = Qp.E P1 B1 y := by
      obtain ⟨v0, h0, h⟩ := hD2.same s3
      have zX : Pc.Pz 280 140 Pc.X 1 := Pc.X_pz.mono (by decide) (by decide)
      rcases h with ⟨_, h⟩ | ⟨sy, v1, R, C, h, hp, f, lR, e⟩
      · refine ⟨_, h, (by show 1 ≤ 2; decide), fun x hx => ?_⟩
        rw [List.mem_singleton.mp hx]
        exact ⟨_, _, h0, zX, by decide, fun y => by rw [Qp.E_X]⟩
      · refine ⟨_, h, (by show 2 ≤ 2; decide), fun x hx => ?_⟩
        rcases List.mem_cons.mp hx with rfl | hx
        · exact ⟨_, _, h0, zX, by decide, fun y => by rw [Qp.E_X]⟩
        · rw [List.mem_singleton.mp hx]
          refine ⟨R, C, hp.k, ?_, lR, fun y => by rw [e]; exact sy y⟩
          obtain ⟨T, U, u1, u2, u3, u4⟩ := shift_sz G1 l3 l13
          have nU := Qp.ne_of_ne u1
          have two0 := e 0
          have two1 := e 1
          rw [Qp.E_two lR] at two0 two1
          refine pz_q (f := fun k => if k = 0 then (0 - 2) * T else if k = 1 then -U else 0) f u1 (fun k => ?_) (fun k => ?_) (u4.mono (by decide))
          · match k with
            | 0 =>
              rw [if_pos rfl, Rat.intCast_mul]
              have mtwo : ((0 - 2 : Int) : Rat) = 0 - 2 := by rw [Rat.intCast_sub]; rfl
              rw [mtwo]
              show ((R.getD 0 0 : Int) : Rat) / (C : Rat) = _
              rw [u2] at two0
              grind
            | 1 =>
              rw [if_neg (by first | lia | omega), if_pos rfl, Rat.intCast_neg]
              show ((R.getD 1 0 : Int) : Rat) / (C : Rat) = _
              grind
            | k + 2 =>
              rw [if_neg (by first | lia | omega), if_neg (by first | lia | omega), Qp.q_out (by first | lia | omega)]
              have zero : ((0 : Int) : Rat) = 0 := rfl
              rw [zero]
              grind
          · match k with
            | 0 => rw [if_pos rfl]; exact ((show Lt2 2 (0 - 2) by decide).mul u3).mono (by decide)
            | 1 => rw [if_neg (by first | lia | omega), if_pos rfl]; exact u4.neg.mono (by decide)
            | k + 2 => rw [if_neg (by first | lia | omega), if_neg (by first | lia | omega)]; exact Nat.pow_pos (by decide)
    refine ⟨_, rfl, D2, rfl, ⟨_, SqL.of hxs⟩, ?_⟩
    refine comp_list (xs := xs) (by rw [sizeLine_eq]; (first | lia | omega)) (fun i τ zs H' => Same H3 H' ∧ (∃ o, τ = [some v, some (.ref D), some (.ref D2), o]) ∧ zs = (List.replicate i false).map V.bl) ⟨Same.refl _, ⟨none, rfl⟩, rfl⟩ (fun i τ ys H' h => SqL.of (h.1 _ _ hxs)) ?_ ?_
    · rintro i x _ _ H4 hx4 hl4 ⟨s4, ⟨o, rfl⟩, rfl⟩
      obtain ⟨R, C, hR, zR, lR, eR⟩ := hall x (List.mem_of_getElem? hx4)
      have hi : i < xs.length := (List.getElem?_eq_some_iff.mp hx4).1
      have pm : P1.length * R.length ≤ 13 * 2 := Nat.mul_le_mul l13 lR
      refine ⟨_, rfl, _, rfl, v, x, P1, R, B1, C, 133, 133, 280, 140, rfl, h12.same (s3.trans s4), hR.same s4, G1, zR, by first | lia | omega, by first | lia | omega, by first | lia | omega, by first | lia | omega, by first | lia | omega, fun y S T H5 s5 hy o5 => ?_⟩
      obtain ⟨eS, eT⟩ := Qp.E_inj o5.1 G1.fm fun x => by rw [Qp.E_of G1.fm.pos zR.fm.pos o5]; exact eR x
      rw [eS, eT] at hy
      refine ⟨_, rfl, _, _, hy.rep, (h12.same (s3.trans (s4.trans s5))).rep, pd_pls _ _, pd_pls _ _, by rw [pd_dps]; decide, fun b hb => ?_⟩
      have : b = true := hb.mpr rfl
      subst this
      refine nxt hi hl4 ⟨s4.trans s5, ⟨_, rfl⟩, ?_⟩
      rw [List.replicate_succ', List.map_append]
      rfl
    · rintro _ _ H4 E0 hl4 ⟨s4, ⟨o, rfl⟩, rfl⟩ hE
      refine ⟨E0, _, rfl, SqL.of upd_same, _, rfl, ?_⟩
      have : (List.replicate xs.length false).any id = false := by simp
      rw [this]
      exact iteF ⟨s3.trans (s4.trans (Same.new hE _)), _, rfl⟩
  rintro _ H3 ⟨s3, o, rfl⟩
  have hD3 := hD'.same s3
  have h13 := h12.same s3
  obtain ⟨xs, hxs, lne⟩ : ∃ xs, H3 D2 = some (.lst xs) ∧ xs ≠ [] := by
    obtain ⟨v0, h0, h⟩ := hD2.same s3
    rcases h with ⟨_, h⟩ | ⟨_, v1, R, C, h, _⟩
    · exact ⟨_, h, List.cons_ne_nil _ _⟩
    · exact ⟨_, h, List.cons_ne_nil _ _⟩
  obtain ⟨y, hy⟩ : ∃ y, xs[xs.length - 1]? = some y := ⟨xs[xs.length - 1]'(by have := List.length_pos_iff.mpr lne; (first | lia | omega)), List.getElem?_eq_getElem _⟩
  refine ⟨_, rfl, .inl ⟨rfl, _, SqL.of hxs⟩, D2, xs, y, rfl, rfl, hxs, hy, ?_⟩
  have pol_upd : ∀ {u : V} {R : List Int} {C : Int}, Pol H3 u R C → Pol (upd H3 D2 (.lst xs.dropLast)) u R C := fun {u R C} h => by
    obtain ⟨a, t, e, g1, g2⟩ := h
    exact ⟨a, t, e, by rw [upd_ne (ne_of g1 hxs (fun z => by cases z))]; exact g1, by rw [upd_ne (ne_of g2 hxs (fun z => by cases z))]; exact g2⟩
  have sqt_upd : ∀ {a : Addr} {ys : List V}, SqT K H3 a ys → SqT K (upd H3 D2 (.lst xs.dropLast)) a ys := fun {a ys} h => by
    rcases h with (h | ⟨ob, h⟩) | h
    · exact .inl (.inl (by rw [upd_ne (ne_of h hxs (fun z => by cases z))]; exact h))
    · exact .inl (.inr ⟨ob, by rw [upd_ne (ne_of h hxs (fun z => by cases z))]; exact h⟩)
    · exact .inr h
  have hD4 : LvL K (upd H3 D2 (.lst xs.dropLast)) D P1 B1 := by
    obtain ⟨v0, ⟨a, t, e, g1, g2⟩, h⟩ := hD3
    refine ⟨v0, ⟨a, t, e, sqt_upd g1, sqt_upd g2⟩, ?_⟩
    rcases h with ⟨n, h⟩ | ⟨y, v1, R, C, h, hp, f, lR, e⟩
    · exact .inl ⟨n, by rw [upd_ne hne]; exact h⟩
    · exact .inr ⟨y, v1, R, C, by rw [upd_ne hne]; exact h, pol_upd hp, f, lR, e⟩
  have h14 := pol_upd h13
  have s04 : Same H (upd H3 D2 (.lst xs.dropLast)) := (s1.trans (s2.trans s3)).over n2H _
  generalize upd H3 D2 (.lst xs.dropLast) = H4 at *
  refine ⟨_, rfl, v, P1, B1, rfl, h14, G1, l3, l13, fun D3 H5 w0 s5 n3 g0 gl3 => ?_⟩
  obtain ⟨d, x1, x2, x3, x4⟩ := two_lists (⟨w0, g0, gl3⟩ : LvL K H5 D3 P1 B1) (hD4.same s5)
  exact ⟨_, rfl, d, _, _, rfl, x1, x2, x3, x4, fun H6 s6 => q H6 (s04.trans (s5.trans s6))⟩
def spLaw (K : PySem.W.Frag) : Sp := fun vs H Q _ => ∃ (a : Addr) (ns : List Int), vs = [.ref a] ∧ SqL K H a (ns.map V.int) ∧ ns.length ≤ 63 ∧ ∀ H', Q (.bl true) H'
theorem sc_law : FnScope ["_law_script", "_law_flow_here", "_law_one", "_law_other", "_law_asked", "_law_f"] ["_law_script"] (defScope s_law) := ⟨rfl, rfl, rfl, by decide +kernel, rfl, by decide +kernel, by decide +kernel⟩
theorem ok_law {f0 : Addr} {fd : FuncData} (F : Fun K "law" "law" s_law f0 fd) (B : Bl mg) (g_law_flow : Def P w K mg base "_law_flow" 1 ["_law_script"] (spFlow K)) (g_law_drawn : Def P w K mg base "_law_drawn" 5 ["_law_flow_here"] (spDrawn K))
    (g_law_short : Def P w K mg base "_law_short" 1 ["_law_some"] (spShort K)) (g_law_right : Def P w K mg base "_law_right" 7 ["_law_f"] (spRight K)) : FnOk P w K mg base CX0 8 f0 fd ["_law_script"] (spLaw K) := by
  refine F.ok sc_law (fun vs H Q E h => ?_) (fun cdv A outer s H vs Q E hr h => ?_)
  · obtain ⟨a, ns, rfl, _⟩ := h
    rfl
  obtain ⟨a, ns, rfl, hS, h63, q⟩ := h
  have nd := sc_law.nd
  refine ⟨_, (@pss_cons _ _ _ _ _ (@ps_set _ _ 1 _ _ _ _ nd rfl (by first | exact Or.inl rfl | exact Or.inr rfl) (@pe_def _ _ _ _ _ _ _ _ _ _ _ g_law_flow hr (@pa_cons _ _ _ _ _ (@pv _ 0 _ _ (by rfl) (by first | exact Or.inl rfl | exact Or.inr (Or.inl rfl) | exact Or.inr (Or.inr rfl)) (by decide) (by decide)) pa_nil (by rfl)) (by first | decide | omega | exact Nat.le_refl _) (by rfl) (by decide) (by rfl) (by rfl)) (by rfl) (by first | exact .inl rfl | exact .inr rfl | assumption)) (@pss_cons _ _ _ _ _ (@ps_par _ _ 2 3 _ _ _ _ _ _ _ _ _ _ _ rfl nd rfl rfl (by decide) rfl rfl (@pa_cons _ _ _ _ _ (@pe_def _ _ _ _ _ _ _ _ _ _ _ g_law_drawn hr (@pa_cons _ _ _ _ _ (@pv _ 1 _ _ (by rfl) (by first | exact Or.inl rfl | exact Or.inr (Or.inl rfl) | exact Or.inr (Or.inr rfl)) (by decide) (by decide)) pa_nil (by rfl)) (by first | decide | omega | exact Nat.le_refl _) (by rfl) (by decide) (by rfl) (by rfl)) (@pa_cons _ _ _ _ _ (@pe_def _ _ _ _ _ _ _ _ _ _ _ g_law_drawn hr (@pa_cons _ _ _ _ _ (@pv _ 1 _ _ (by rfl) (by first | exact Or.inl rfl | exact Or.inr (Or.inl rfl) | exact Or.inr (Or.inr rfl)) (by decide) (by decide)) pa_nil (by rfl)) (by first | decide | omega | exact Nat.le_refl _) (by rfl) (by decide) (by rfl) (by rfl)) pa_nil (by rfl)) (by rfl)) rfl (by rfl)) (@pss_cons _ _ _ _ _ (@ps_setC _ _ _ _ _ _ _ _ _ _ _ _ 4 _ _ _ rfl nd rfl (by first | exact Or.inl rfl | exact Or.inr rfl) (show CompS ["_law_script", "_law_flow_here", "_law_one", "_law_other", "_law_asked", "_law_f"] (defScope s_law) _ [5] from by exact ⟨rfl, by decide +kernel, by decide +kernel, by decide +kernel, by decide +kernel⟩) (@piT _ K _ _ _ (@pe_tup _ _ _ _ _ (@pa_cons _ _ _ _ _ (@pv _ 2 _ _ (by rfl) (by first | exact Or.inl rfl | exact Or.inr (Or.inl rfl) | exact Or.inr (Or.inr rfl)) (by decide) (by decide)) (@pa_cons _ _ _ _ _ (@pv _ 3 _ _ (by rfl) (by first | exact Or.inl rfl | exact Or.inr (Or.inl rfl) | exact Or.inr (Or.inr rfl)) (by decide) (by decide)) (@pa_cons _ _ _ _ _ (@pv _ 2 _ _ (by rfl) (by first | exact Or.inl rfl | exact Or.inr (Or.inl rfl) | exact Or.inr (Or.inr rfl)) (by decide) (by decide)) pa_nil (by rfl)) (by rfl)) (by rfl))) (by rfl)) (fun _ _ _ _ _ => (@pg_name _ _ 5 _ nd rfl (by first | exact Or.inl rfl | exact Or.inr rfl) (by first | exact .inl rfl | exact .inr rfl | assumption))) (fun _ _ _ _ _ => (@pts_one _ _ _ (@ptT _ K _ _ (@pe_def _ _ _ _ _ _ _ _ _ _ _ g_law_short hr (@pa_cons _ _ _ _ _ (@pe_lst _ _ _ _ (@pa_cons _ _ _ _ _ (@pv _ 5 _ _ (by rfl) (by first | exact Or.inl rfl | exact Or.inr (Or.inl rfl) | exact Or.inr (Or.inr rfl)) (by decide) (by decide)) pa_nil (by rfl))) pa_nil (by rfl)) (by first | decide | omega | exact Nat.le_refl _) (by rfl) (by decide) (by rfl) (by rfl)) (fun _ => rfl) (by rfl)))) (fun _ _ _ _ _ => (@pv _ 5 _ _ (by rfl) (by first | exact Or.inl rfl | exact Or.inr (Or.inl rfl) | exact Or.inr (Or.inr rfl)) (by decide) (by decide))) (by intro _; rfl) (by rfl) (by first | exact .inl rfl | exact .inr rfl | assumption)) (@pss_one _ _ _ (@ps_ret _ _ _ _ (@pe_callB _ _ _ _ _ _ _ _ _ (allS K) rfl B.all bt_all (@pa_cons _ _ _ _ _ (@pe_comp _ _ _ _ _ _ _ _ _ _ _ _ rfl (show CompS ["_law_script", "_law_flow_here", "_law_one", "_law_other", "_law_asked", "_law_f"] (defScope s_law) _ [5] from by exact ⟨rfl, by decide +kernel, by decide +kernel, by decide +kernel, by decide +kernel⟩) (@piL _ K _ _ _ (@pv _ 4 _ _ (by rfl) (by first | exact Or.inl rfl | exact Or.inr (Or.inl rfl) | exact Or.inr (Or.inr rfl)) (by decide) (by decide)) (by rfl)) (fun _ _ _ _ _ => (@pg_name _ _ 5 _ nd rfl (by first | exact Or.inl rfl | exact Or.inr rfl) (by first | exact .inl rfl | exact .inr rfl | assumption))) (fun _ _ _ _ _ => pts_nil) (fun _ _ _ _ _ => (@pe_def _ _ _ _ _ _ _ _ _ _ _ g_law_right hr (@pa_cons _ _ _ _ _ (@pv _ 5 _ _ (by rfl) (by first | exact Or.inl rfl | exact Or.inr (Or.inl rfl) | exact Or.inr (Or.inr rfl)) (by decide) (by decide)) pa_nil (by rfl)) (by first | decide | omega | exact Nat.le_refl _) (by rfl) (by decide) (by rfl) (by rfl))) (by intro _; rfl)) pa_nil (by rfl)) (by decide) (by decide) (by rfl) (by rfl))))))), ?_⟩
  refine ⟨_, rfl, a, ns, rfl, hS, h63, fun f H0 s0 F0 f0' => ?_⟩
  refine ⟨_, rfl, f, rfl, F0, fun v1 P1 B1 H1 h1 f1 l1 l1' F1 s1 => ?_⟩
  refine ⟨_, rfl, f, rfl, F1, fun v2 P2 B2 H2 h2 f2 l2 l2' F2 s2 => ⟨_, _, rfl, ?_⟩⟩
  have h12 := pol_sm h1 F1 s2
  clear F0 F1 F2 s0 s1 s2 h1 hS
  refine ⟨_, rfl, _, rfl, _, rfl, (by show 3 ≤ sizeLine; decide), fun p hp => ?_⟩
  have c1 := Same.new hp (.tup [v1, v2, v1])
  have kp := SqT.of (K := K) (upd_same (H := H2) (a := p) (o := .tup [v1, v2, v1]))
  have hx : ∀ v ∈ [v1, v2, v1], ∃ P B, Pol (upd H2 p (.tup [v1, v2, v1])) v P B ∧ Po.Fm P B ∧ 3 ≤ P.length ∧ P.length ≤ 13 := fun v hv => by
    rcases List.mem_cons.mp hv with rfl | hv
    · exact ⟨P1, B1, h12.same c1, f1, l1, l1'⟩
    rcases List.mem_cons.mp hv with rfl | hv
    · exact ⟨P2, B2, h2.same c1, f2, l2, l2'⟩
    rw [List.mem_singleton.mp hv]
    exact ⟨P1, B1, h12.same c1, f1, l1, l1'⟩
  generalize upd H2 p (.tup [v1, v2, v1]) = H3 at *
  refine ⟨p, rfl, ⟨_, kp⟩, ?_⟩
  refine comp_tupIf (xs := [v1, v2, v1]) (by show 3 ≤ sizeLine; decide) (fun i τ ys H' => Same H3 H' ∧ ys.length ≤ i ∧ (∃ o1 o2, τ = [some (.ref a), some (.ref f), some v1, some v2, o1, o2]) ∧ ∀ v ∈ ys, ∃ P B, Pol H' v P B ∧ Pc.Pz 133 133 P B ∧ 3 ≤ P.length ∧ P.length ≤ 13) ⟨Same.refl _, Nat.le_refl _, ⟨none, none, rfl⟩, fun v hv => absurd hv List.not_mem_nil⟩ (fun i τ ys H' h => h.2.1) (fun i τ ys H' h => kp.same h.1) ?_ ?_
  · rintro i x _ ys H4 hx4 ⟨s4, ly, ⟨o1, o2, rfl⟩, hy⟩
    obtain ⟨P3, B3, h3, f3, l3, l3'⟩ := hx x (List.mem_of_getElem? hx4)
    have hi : i < [v1, v2, v1].length := (List.getElem?_eq_some_iff.mp hx4).1
    refine ⟨_, rfl, (by show 1 ≤ sizeLine; decide), fun r hr => ?_⟩
    have c5 := Same.new hr (.lst [x])
    refine ⟨r, x, P3, B3, rfl, SqL.of upd_same, h3.same (s4.trans c5), f3, by first | lia | omega, fun b H5 s5 hb => ⟨_, rfl, ?_⟩⟩
    have s35 := c5.trans s5
    refine ite2 (fun c => ?_) (fun c => ?_)
    · refine ⟨_, rfl, _, by first | lia | omega, rfl, hi, s4.trans s35, by rw [List.length_append, List.length_singleton]; (first | lia | omega), ⟨_, _, rfl⟩, fun v hv => ?_⟩
      rcases List.mem_append.mp hv with z | z
      · obtain ⟨P4, B4, g1, g2⟩ := hy v z
        exact ⟨P4, B4, g1.same s35, g2⟩
      · rw [List.mem_singleton.mp z]
        exact ⟨P3, B3, h3.same (s4.trans s35), hb c, l3, l3'⟩
    · refine ⟨_, by first | lia | omega, rfl, hi, s4.trans s35, by first | lia | omega, ⟨_, _, rfl⟩, fun v hv => ?_⟩
      obtain ⟨P4, B4, g1, g2⟩ := hy v hv
      exact ⟨P4, B4, g1.same s35, g2⟩
  rintro _ ys H4 D ⟨s4, ly, ⟨o1, o2, rfl⟩, hy⟩ hD
  have c5 := Same.new hD (.lst ys)
  have ly3 : ys.length ≤ 3 := ly
  refine ⟨_, rfl, D, rfl, ⟨_, SqL.of upd_same⟩, ?_⟩
  refine comp_list (xs := ys) (by rw [sizeLine_eq]; (first | lia | omega)) (fun i τ zs H' => Same (upd H4 D (.lst ys)) H' ∧ (∃ o1 o2 o3, τ = [some (.ref a), some (.ref f), some v1, some v2, o1, o2] ∧ o3 = o1) ∧ zs = (List.replicate i true).map V.bl) ⟨Same.refl _, ⟨_, _, _, rfl, rfl⟩, rfl⟩ (fun i τ ys H' h => SqL.of (h.1 _ _ upd_same)) ?_ ?_
  · rintro i x _ _ H6 hx6 hl6 ⟨s6, ⟨o1, o2, o3, rfl, _⟩, rfl⟩
    obtain ⟨P4, B4, g1, g2, g3, g4⟩ := hy x (List.mem_of_getElem? hx6)
    have hi : i < ys.length := (List.getElem?_eq_some_iff.mp hx6).1
    refine ⟨_, rfl, x, P4, B4, rfl, g1.same (c5.trans s6), g2, g3, g4, fun H7 s7 => nxt hi hl6 ⟨s6.trans s7, ⟨_, _, _, rfl, rfl⟩, ?_⟩⟩
    rw [List.replicate_succ', List.map_append]
    rfl
  · rintro _ _ H6 D2 hl6 ⟨s6, ⟨o1, o2, o3, rfl, _⟩, rfl⟩ hD2
    refine ⟨D2, _, rfl, SqL.of upd_same, ?_⟩
    have : (List.replicate ys.length true).all id = true := by simp
    rw [this]
    exact q _
end
/-! ### the top -/
theorem us1 {us : List Value} (h : us.length = 1) : ∃ a, us = [a] := by
  match us, h with
  | [a], _ => exact ⟨a, rfl⟩
theorem us2 {us : List Value} (h : us.length = 2) : ∃ a b, us = [a, b] := by
  match us, h with
  | [a, b], _ => exact ⟨a, b, rfl⟩
theorem us3 {us : List Value} (h : us.length = 3) : ∃ a b c, us = [a, b, c] := by
  match us, h with
  | [a, b, c], _ => exact ⟨a, b, c, rfl⟩
theorem all_mk {l : PySem.W.OpenLaw} {w : World} {K : PySem.W.Frag} {h : Heap} {mg : Str → Option Value} {fa : Addr} {f1 f2 f3 f4 f5 f6 f7 f8 f9 f10 f11 f12 f13 f14 f15 f16 f17 f18 f19 f20 f21 f22 f23 f24 f25 f26 f27 f28 f29 f30 f31 f32 f33 f34 f35 f36 f37 f38 f39 f40 f41 f42 f43 f44 f45 : Addr} (X : K.In h) (G : h.Ns mainGlobals mg) (hfa : mg "law" = some (.ref fa))
    {od1 an1 od2 an2 od3 an3 od4 an4 od5 an5 od6 an6 od7 an7 od8 an8 od9 an9 od10 an10 od11 an11 od12 an12 od13 an13 od14 an14 od15 an15 od16 an16 od17 an17 od18 an18 od19 an19 od20 an20 od21 an21 od22 an22 od23 an23 od24 an24 od25 an25 od26 an26 od27 an27 od28 an28 od29 an29 od30 an30 od31 an31 od32 an32 od33 an33 od34 an34 od35 an35 od36 an36 od37 an37 od38 an38 od39 an39 od40 an40 od41 an41 od42 an42 od43 an43 od44 an44 od45 an45 : Option Addr} {sl1 sl2 sl3 sl4 sl5 sl6 sl7 sl8 sl9 sl10 sl11 sl12 sl13 sl14 sl15 sl16 sl17 sl18 sl19 sl20 sl21 sl22 sl23 sl24 sl25 sl26 sl27 sl28 sl29 sl30 sl31 sl32 sl33 sl34 sl35 sl36 sl37 sl38 sl39 sl40 sl41 sl42 sl43 sl44 sl45 : Array (Option Value)} {oc1 kV1 dc1 pm1 cd1 ct1 oc2 kV2 dc2 pm2 cd2 ct2 oc3 kV3 dc3 pm3 cd3 ct3 oc4 kV4 dc4 pm4 cd4 ct4 oc5 kV5 dc5 pm5 cd5 ct5 oc6 kV6 dc6 pm6 cd6 ct6 oc7 kV7 dc7 pm7 cd7 ct7 oc8 kV8 dc8 pm8 cd8 ct8 oc9 kV9 dc9 pm9 cd9 ct9 oc10 kV10 dc10 pm10 cd10 ct10 oc11 kV11 dc11 pm11 cd11 ct11 oc12 kV12 dc12 pm12 cd12 ct12 oc13 kV13 dc13 pm13 cd13 ct13 oc14 kV14 dc14 pm14 cd14 ct14 oc15 kV15 dc15 pm15 cd15 ct15 oc16 kV16 dc16 pm16 cd16 ct16 oc17 kV17 dc17 pm17 cd17 ct17 oc18 kV18 dc18 pm18 cd18 ct18 oc19 kV19 dc19 pm19 cd19 ct19 oc20 kV20 dc20 pm20 cd20 ct20 oc21 kV21 dc21 pm21 cd21 ct21 oc22 kV22 dc22 pm22 cd22 ct22 oc23 kV23 dc23 pm23 cd23 ct23 oc24 kV24 dc24 pm24 cd24 ct24 oc25 kV25 dc25 pm25 cd25 ct25 oc26 kV26 dc26 pm26 cd26 ct26 oc27 kV27 dc27 pm27 cd27 ct27 oc28 kV28 dc28 pm28 cd28 ct28 oc29 kV29 dc29 pm29 cd29 ct29 oc30 kV30 dc30 pm30 cd30 ct30 oc31 kV31 dc31 pm31 cd31 ct31 oc32 kV32 dc32 pm32 cd32 ct32 oc33 kV33 dc33 pm33 cd33 ct33 oc34 kV34 dc34 pm34 cd34 ct34 oc35 kV35 dc35 pm35 cd35 ct35 oc36 kV36 dc36 pm36 cd36 ct36 oc37 kV37 dc37 pm37 cd37 ct37 oc38 kV38 dc38 pm38 cd38 ct38 oc39 kV39 dc39 pm39 cd39 ct39 oc40 kV40 dc40 pm40 cd40 ct40 oc41 kV41 dc41 pm41 cd41 ct41 oc42 kV42 dc42 pm42 cd42 ct42 oc43 kV43 dc43 pm43 cd43 ct43 oc44 kV44 dc44 pm44 cd44 ct44 oc45 kV45 dc45 pm45 cd45 ct45 : Value}
    (a1 : PySem.W.nsIn K mainGlobals "common_part" = some (some (.ref f1))) (l1 : K.lookup f1 = some ⟨oc1, od1, .func (PySem.W.fnOf "common_part" "common_part" (defArgs s_common_part) (defBody s_common_part) (defScope s_common_part) .none kV1 dc1 pm1 an1 cd1 ct1), sl1⟩) (c1 : PySem.W.codeIn K cd1 "common_part" = true) (k1 : PySem.W.keepIn K (.ref f1) = true)
    (a2 : PySem.W.nsIn K mainGlobals "fraction" = some (some (.ref f2))) (l2 : K.lookup f2 = some ⟨oc2, od2, .func (PySem.W.fnOf "fraction" "fraction" (defArgs s_fraction) (defBody s_fraction) (defScope s_fraction) .none kV2 dc2 pm2 an2 cd2 ct2), sl2⟩) (c2 : PySem.W.codeIn K cd2 "fraction" = true) (k2 : PySem.W.keepIn K (.ref f2) = true)
    (a3 : PySem.W.nsIn K mainGlobals "taken" = some (some (.ref f3))) (l3 : K.lookup f3 = some ⟨oc3, od3, .func (PySem.W.fnOf "taken" "taken" (defArgs s_taken) (defBody s_taken) (defScope s_taken) .none kV3 dc3 pm3 an3 cd3 ct3), sl3⟩) (c3 : PySem.W.codeIn K cd3 "taken" = true) (k3 : PySem.W.keepIn K (.ref f3) = true)
    (a4 : PySem.W.nsIn K mainGlobals "multiplied" = some (some (.ref f4))) (l4 : K.lookup f4 = some ⟨oc4, od4, .func (PySem.W.fnOf "multiplied" "multiplied" (defArgs s_multiplied) (defBody s_multiplied) (defScope s_multiplied) .none kV4 dc4 pm4 an4 cd4 ct4), sl4⟩) (c4 : PySem.W.codeIn K cd4 "multiplied" = true) (k4 : PySem.W.keepIn K (.ref f4) = true)
    (a5 : PySem.W.nsIn K mainGlobals "divided" = some (some (.ref f5))) (l5 : K.lookup f5 = some ⟨oc5, od5, .func (PySem.W.fnOf "divided" "divided" (defArgs s_divided) (defBody s_divided) (defScope s_divided) .none kV5 dc5 pm5 an5 cd5 ct5), sl5⟩) (c5 : PySem.W.codeIn K cd5 "divided" = true) (k5 : PySem.W.keepIn K (.ref f5) = true)
    (a6 : PySem.W.nsIn K mainGlobals "one_form" = some (some (.ref f6))) (l6 : K.lookup f6 = some ⟨oc6, od6, .func (PySem.W.fnOf "one_form" "one_form" (defArgs s_one_form) (defBody s_one_form) (defScope s_one_form) .none kV6 dc6 pm6 an6 cd6 ct6), sl6⟩) (c6 : PySem.W.codeIn K cd6 "one_form" = true) (k6 : PySem.W.keepIn K (.ref f6) = true)
    (a7 : PySem.W.nsIn K mainGlobals "over_one_bottom" = some (some (.ref f7))) (l7 : K.lookup f7 = some ⟨oc7, od7, .func (PySem.W.fnOf "over_one_bottom" "over_one_bottom" (defArgs s_over_one_bottom) (defBody s_over_one_bottom) (defScope s_over_one_bottom) .none kV7 dc7 pm7 an7 cd7 ct7), sl7⟩) (c7 : PySem.W.codeIn K cd7 "over_one_bottom" = true) (k7 : PySem.W.keepIn K (.ref f7) = true)
    (a8 : PySem.W.nsIn K mainGlobals "poly" = some (some (.ref f8))) (l8 : K.lookup f8 = some ⟨oc8, od8, .func (PySem.W.fnOf "poly" "poly" (defArgs s_poly) (defBody s_poly) (defScope s_poly) .none kV8 dc8 pm8 an8 cd8 ct8), sl8⟩) (c8 : PySem.W.codeIn K cd8 "poly" = true) (k8 : PySem.W.keepIn K (.ref f8) = true)
    (a9 : PySem.W.nsIn K mainGlobals "fraction_at" = some (some (.ref f9))) (l9 : K.lookup f9 = some ⟨oc9, od9, .func (PySem.W.fnOf "fraction_at" "fraction_at" (defArgs s_fraction_at) (defBody s_fraction_at) (defScope s_fraction_at) .none kV9 dc9 pm9 an9 cd9 ct9), sl9⟩) (c9 : PySem.W.codeIn K cd9 "fraction_at" = true) (k9 : PySem.W.keepIn K (.ref f9) = true)
    (a10 : PySem.W.nsIn K mainGlobals "degree" = some (some (.ref f10))) (l10 : K.lookup f10 = some ⟨oc10, od10, .func (PySem.W.fnOf "degree" "degree" (defArgs s_degree) (defBody s_degree) (defScope s_degree) .none kV10 dc10 pm10 an10 cd10 ct10), sl10⟩) (c10 : PySem.W.codeIn K cd10 "degree" = true) (k10 : PySem.W.keepIn K (.ref f10) = true)
    (a11 : PySem.W.nsIn K mainGlobals "lead" = some (some (.ref f11))) (l11 : K.lookup f11 = some ⟨oc11, od11, .func (PySem.W.fnOf "lead" "lead" (defArgs s_lead) (defBody s_lead) (defScope s_lead) .none kV11 dc11 pm11 an11 cd11 ct11), sl11⟩) (c11 : PySem.W.codeIn K cd11 "lead" = true) (k11 : PySem.W.keepIn K (.ref f11) = true)
    (a12 : PySem.W.nsIn K mainGlobals "tops_together" = some (some (.ref f12))) (l12 : K.lookup f12 = some ⟨oc12, od12, .func (PySem.W.fnOf "tops_together" "tops_together" (defArgs s_tops_together) (defBody s_tops_together) (defScope s_tops_together) .none kV12 dc12 pm12 an12 cd12 ct12), sl12⟩) (c12 : PySem.W.codeIn K cd12 "tops_together" = true) (k12 : PySem.W.keepIn K (.ref f12) = true)
    (a13 : PySem.W.nsIn K mainGlobals "tops_multiplied" = some (some (.ref f13))) (l13 : K.lookup f13 = some ⟨oc13, od13, .func (PySem.W.fnOf "tops_multiplied" "tops_multiplied" (defArgs s_tops_multiplied) (defBody s_tops_multiplied) (defScope s_tops_multiplied) .none kV13 dc13 pm13 an13 cd13 ct13), sl13⟩) (c13 : PySem.W.codeIn K cd13 "tops_multiplied" = true) (k13 : PySem.W.keepIn K (.ref f13) = true)
    (a14 : PySem.W.nsIn K mainGlobals "plus" = some (some (.ref f14))) (l14 : K.lookup f14 = some ⟨oc14, od14, .func (PySem.W.fnOf "plus" "plus" (defArgs s_plus) (defBody s_plus) (defScope s_plus) .none kV14 dc14 pm14 an14 cd14 ct14), sl14⟩) (c14 : PySem.W.codeIn K cd14 "plus" = true) (k14 : PySem.W.keepIn K (.ref f14) = true)
    (a15 : PySem.W.nsIn K mainGlobals "scaled" = some (some (.ref f15))) (l15 : K.lookup f15 = some ⟨oc15, od15, .func (PySem.W.fnOf "scaled" "scaled" (defArgs s_scaled) (defBody s_scaled) (defScope s_scaled) .none kV15 dc15 pm15 an15 cd15 ct15), sl15⟩) (c15 : PySem.W.codeIn K cd15 "scaled" = true) (k15 : PySem.W.keepIn K (.ref f15) = true)
    (a16 : PySem.W.nsIn K mainGlobals "minus" = some (some (.ref f16))) (l16 : K.lookup f16 = some ⟨oc16, od16, .func (PySem.W.fnOf "minus" "minus" (defArgs s_minus) (defBody s_minus) (defScope s_minus) .none kV16 dc16 pm16 an16 cd16 ct16), sl16⟩) (c16 : PySem.W.codeIn K cd16 "minus" = true) (k16 : PySem.W.keepIn K (.ref f16) = true)
    (a17 : PySem.W.nsIn K mainGlobals "straight" = some (some (.ref f17))) (l17 : K.lookup f17 = some ⟨oc17, od17, .func (PySem.W.fnOf "straight" "straight" (defArgs s_straight) (defBody s_straight) (defScope s_straight) .none kV17 dc17 pm17 an17 cd17 ct17), sl17⟩) (c17 : PySem.W.codeIn K cd17 "straight" = true) (k17 : PySem.W.keepIn K (.ref f17) = true)
    (a18 : PySem.W.nsIn K mainGlobals "turned_back" = some (some (.ref f18))) (l18 : K.lookup f18 = some ⟨oc18, od18, .func (PySem.W.fnOf "turned_back" "turned_back" (defArgs s_turned_back) (defBody s_turned_back) (defScope s_turned_back) .none kV18 dc18 pm18 an18 cd18 ct18), sl18⟩) (c18 : PySem.W.codeIn K cd18 "turned_back" = true) (k18 : PySem.W.keepIn K (.ref f18) = true)
    (a19 : PySem.W.nsIn K mainGlobals "put" = some (some (.ref f19))) (l19 : K.lookup f19 = some ⟨oc19, od19, .func (PySem.W.fnOf "put" "put" (defArgs s_put) (defBody s_put) (defScope s_put) .none kV19 dc19 pm19 an19 cd19 ct19), sl19⟩) (c19 : PySem.W.codeIn K cd19 "put" = true) (k19 : PySem.W.keepIn K (.ref f19) = true)
    (a20 : PySem.W.nsIn K mainGlobals "plain" = some (some (.ref f20))) (l20 : K.lookup f20 = some ⟨oc20, od20, .func (PySem.W.fnOf "plain" "plain" (defArgs s_plain) (defBody s_plain) (defScope s_plain) .none kV20 dc20 pm20 an20 cd20 ct20), sl20⟩) (c20 : PySem.W.codeIn K cd20 "plain" = true) (k20 : PySem.W.keepIn K (.ref f20) = true)
    (a21 : PySem.W.nsIn K mainGlobals "leaves" = some (some (.ref f21))) (l21 : K.lookup f21 = some ⟨oc21, od21, .func (PySem.W.fnOf "leaves" "leaves" (defArgs s_leaves) (defBody s_leaves) (defScope s_leaves) .none kV21 dc21 pm21 an21 cd21 ct21), sl21⟩) (c21 : PySem.W.codeIn K cd21 "leaves" = true) (k21 : PySem.W.keepIn K (.ref f21) = true)
    (a22 : PySem.W.nsIn K mainGlobals "_law_flow" = some (some (.ref f22))) (l22 : K.lookup f22 = some ⟨oc22, od22, .func (PySem.W.fnOf "_law_flow" "_law_flow" (defArgs s_law_flow) (defBody s_law_flow) (defScope s_law_flow) .none kV22 dc22 pm22 an22 cd22 ct22), sl22⟩) (c22 : PySem.W.codeIn K cd22 "_law_flow" = true) (k22 : PySem.W.keepIn K (.ref f22) = true)
    (a23 : PySem.W.nsIn K mainGlobals "_law_pick" = some (some (.ref f23))) (l23 : K.lookup f23 = some ⟨oc23, od23, .func (PySem.W.fnOf "_law_pick" "_law_pick" (defArgs s_law_pick) (defBody s_law_pick) (defScope s_law_pick) .none kV23 dc23 pm23 an23 cd23 ct23), sl23⟩) (c23 : PySem.W.codeIn K cd23 "_law_pick" = true) (k23 : PySem.W.keepIn K (.ref f23) = true)
    (a24 : PySem.W.nsIn K mainGlobals "_law_alike" = some (some (.ref f24))) (l24 : K.lookup f24 = some ⟨oc24, od24, .func (PySem.W.fnOf "_law_alike" "_law_alike" (defArgs s_law_alike) (defBody s_law_alike) (defScope s_law_alike) .none kV24 dc24 pm24 an24 cd24 ct24), sl24⟩) (c24 : PySem.W.codeIn K cd24 "_law_alike" = true) (k24 : PySem.W.keepIn K (.ref f24) = true)
    (a25 : PySem.W.nsIn K mainGlobals "_law_common" = some (some (.ref f25))) (l25 : K.lookup f25 = some ⟨oc25, od25, .func (PySem.W.fnOf "_law_common" "_law_common" (defArgs s_law_common) (defBody s_law_common) (defScope s_law_common) .none kV25 dc25 pm25 an25 cd25 ct25), sl25⟩) (c25 : PySem.W.codeIn K cd25 "_law_common" = true) (k25 : PySem.W.keepIn K (.ref f25) = true)
    (a26 : PySem.W.nsIn K mainGlobals "_law_fraction" = some (some (.ref f26))) (l26 : K.lookup f26 = some ⟨oc26, od26, .func (PySem.W.fnOf "_law_fraction" "_law_fraction" (defArgs s_law_fraction) (defBody s_law_fraction) (defScope s_law_fraction) .none kV26 dc26 pm26 an26 cd26 ct26), sl26⟩) (c26 : PySem.W.codeIn K cd26 "_law_fraction" = true) (k26 : PySem.W.keepIn K (.ref f26) = true)
    (a27 : PySem.W.nsIn K mainGlobals "_law_product" = some (some (.ref f27))) (l27 : K.lookup f27 = some ⟨oc27, od27, .func (PySem.W.fnOf "_law_product" "_law_product" (defArgs s_law_product) (defBody s_law_product) (defScope s_law_product) .none kV27 dc27 pm27 an27 cd27 ct27), sl27⟩) (c27 : PySem.W.codeIn K cd27 "_law_product" = true) (k27 : PySem.W.keepIn K (.ref f27) = true)
    (a28 : PySem.W.nsIn K mainGlobals "_law_poly" = some (some (.ref f28))) (l28 : K.lookup f28 = some ⟨oc28, od28, .func (PySem.W.fnOf "_law_poly" "_law_poly" (defArgs s_law_poly) (defBody s_law_poly) (defScope s_law_poly) .none kV28 dc28 pm28 an28 cd28 ct28), sl28⟩) (c28 : PySem.W.codeIn K cd28 "_law_poly" = true) (k28 : PySem.W.keepIn K (.ref f28) = true)
    (a29 : PySem.W.nsIn K mainGlobals "_law_sum" = some (some (.ref f29))) (l29 : K.lookup f29 = some ⟨oc29, od29, .func (PySem.W.fnOf "_law_sum" "_law_sum" (defArgs s_law_sum) (defBody s_law_sum) (defScope s_law_sum) .none kV29 dc29 pm29 an29 cd29 ct29), sl29⟩) (c29 : PySem.W.codeIn K cd29 "_law_sum" = true) (k29 : PySem.W.keepIn K (.ref f29) = true)
    (a30 : PySem.W.nsIn K mainGlobals "_law_times" = some (some (.ref f30))) (l30 : K.lookup f30 = some ⟨oc30, od30, .func (PySem.W.fnOf "_law_times" "_law_times" (defArgs s_law_times) (defBody s_law_times) (defScope s_law_times) .none kV30 dc30 pm30 an30 cd30 ct30), sl30⟩) (c30 : PySem.W.codeIn K cd30 "_law_times" = true) (k30 : PySem.W.keepIn K (.ref f30) = true)
    (a31 : PySem.W.nsIn K mainGlobals "_law_of" = some (some (.ref f31))) (l31 : K.lookup f31 = some ⟨oc31, od31, .func (PySem.W.fnOf "_law_of" "_law_of" (defArgs s_law_of) (defBody s_law_of) (defScope s_law_of) .none kV31 dc31 pm31 an31 cd31 ct31), sl31⟩) (c31 : PySem.W.codeIn K cd31 "_law_of" = true) (k31 : PySem.W.keepIn K (.ref f31) = true)
    (a32 : PySem.W.nsIn K mainGlobals "_law_straight" = some (some (.ref f32))) (l32 : K.lookup f32 = some ⟨oc32, od32, .func (PySem.W.fnOf "_law_straight" "_law_straight" (defArgs s_law_straight) (defBody s_law_straight) (defScope s_law_straight) .none kV32 dc32 pm32 an32 cd32 ct32), sl32⟩) (c32 : PySem.W.codeIn K cd32 "_law_straight" = true) (k32 : PySem.W.keepIn K (.ref f32) = true)
    (a33 : PySem.W.nsIn K mainGlobals "_law_number" = some (some (.ref f33))) (l33 : K.lookup f33 = some ⟨oc33, od33, .func (PySem.W.fnOf "_law_number" "_law_number" (defArgs s_law_number) (defBody s_law_number) (defScope s_law_number) .none kV33 dc33 pm33 an33 cd33 ct33), sl33⟩) (c33 : PySem.W.codeIn K cd33 "_law_number" = true) (k33 : PySem.W.keepIn K (.ref f33) = true)
    (a34 : PySem.W.nsIn K mainGlobals "_law_any_fraction" = some (some (.ref f34))) (l34 : K.lookup f34 = some ⟨oc34, od34, .func (PySem.W.fnOf "_law_any_fraction" "_law_any_fraction" (defArgs s_law_any_fraction) (defBody s_law_any_fraction) (defScope s_law_any_fraction) .none kV34 dc34 pm34 an34 cd34 ct34), sl34⟩) (c34 : PySem.W.codeIn K cd34 "_law_any_fraction" = true) (k34 : PySem.W.keepIn K (.ref f34) = true)
    (a35 : PySem.W.nsIn K mainGlobals "_law_any_poly" = some (some (.ref f35))) (l35 : K.lookup f35 = some ⟨oc35, od35, .func (PySem.W.fnOf "_law_any_poly" "_law_any_poly" (defArgs s_law_any_poly) (defBody s_law_any_poly) (defScope s_law_any_poly) .none kV35 dc35 pm35 an35 cd35 ct35), sl35⟩) (c35 : PySem.W.codeIn K cd35 "_law_any_poly" = true) (k35 : PySem.W.keepIn K (.ref f35) = true)
    (a36 : PySem.W.nsIn K mainGlobals "_law_any_straight" = some (some (.ref f36))) (l36 : K.lookup f36 = some ⟨oc36, od36, .func (PySem.W.fnOf "_law_any_straight" "_law_any_straight" (defArgs s_law_any_straight) (defBody s_law_any_straight) (defScope s_law_any_straight) .none kV36 dc36 pm36 an36 cd36 ct36), sl36⟩) (c36 : PySem.W.codeIn K cd36 "_law_any_straight" = true) (k36 : PySem.W.keepIn K (.ref f36) = true)
    (a37 : PySem.W.nsIn K mainGlobals "_law_at" = some (some (.ref f37))) (l37 : K.lookup f37 = some ⟨oc37, od37, .func (PySem.W.fnOf "_law_at" "_law_at" (defArgs s_law_at) (defBody s_law_at) (defScope s_law_at) .none kV37 dc37 pm37 an37 cd37 ct37), sl37⟩) (c37 : PySem.W.codeIn K cd37 "_law_at" = true) (k37 : PySem.W.keepIn K (.ref f37) = true)
    (a38 : PySem.W.nsIn K mainGlobals "_law_divided" = some (some (.ref f38))) (l38 : K.lookup f38 = some ⟨oc38, od38, .func (PySem.W.fnOf "_law_divided" "_law_divided" (defArgs s_law_divided) (defBody s_law_divided) (defScope s_law_divided) .none kV38 dc38 pm38 an38 cd38 ct38), sl38⟩) (c38 : PySem.W.codeIn K cd38 "_law_divided" = true) (k38 : PySem.W.keepIn K (.ref f38) = true)
    (a39 : PySem.W.nsIn K mainGlobals "_law_degree_drawn" = some (some (.ref f39))) (l39 : K.lookup f39 = some ⟨oc39, od39, .func (PySem.W.fnOf "_law_degree_drawn" "_law_degree_drawn" (defArgs s_law_degree_drawn) (defBody s_law_degree_drawn) (defScope s_law_degree_drawn) .none kV39 dc39 pm39 an39 cd39 ct39), sl39⟩) (c39 : PySem.W.codeIn K cd39 "_law_degree_drawn" = true) (k39 : PySem.W.keepIn K (.ref f39) = true)
    (a40 : PySem.W.nsIn K mainGlobals "_law_plain_one" = some (some (.ref f40))) (l40 : K.lookup f40 = some ⟨oc40, od40, .func (PySem.W.fnOf "_law_plain_one" "_law_plain_one" (defArgs s_law_plain_one) (defBody s_law_plain_one) (defScope s_law_plain_one) .none kV40 dc40 pm40 an40 cd40 ct40), sl40⟩) (c40 : PySem.W.codeIn K cd40 "_law_plain_one" = true) (k40 : PySem.W.keepIn K (.ref f40) = true)
    (a41 : PySem.W.nsIn K mainGlobals "_law_short" = some (some (.ref f41))) (l41 : K.lookup f41 = some ⟨oc41, od41, .func (PySem.W.fnOf "_law_short" "_law_short" (defArgs s_law_short) (defBody s_law_short) (defScope s_law_short) .none kV41 dc41 pm41 an41 cd41 ct41), sl41⟩) (c41 : PySem.W.codeIn K cd41 "_law_short" = true) (k41 : PySem.W.keepIn K (.ref f41) = true)
    (a42 : PySem.W.nsIn K mainGlobals "_law_drawn" = some (some (.ref f42))) (l42 : K.lookup f42 = some ⟨oc42, od42, .func (PySem.W.fnOf "_law_drawn" "_law_drawn" (defArgs s_law_drawn) (defBody s_law_drawn) (defScope s_law_drawn) .none kV42 dc42 pm42 an42 cd42 ct42), sl42⟩) (c42 : PySem.W.codeIn K cd42 "_law_drawn" = true) (k42 : PySem.W.keepIn K (.ref f42) = true)
    (a43 : PySem.W.nsIn K mainGlobals "_law_due" = some (some (.ref f43))) (l43 : K.lookup f43 = some ⟨oc43, od43, .func (PySem.W.fnOf "_law_due" "_law_due" (defArgs s_law_due) (defBody s_law_due) (defScope s_law_due) .none kV43 dc43 pm43 an43 cd43 ct43), sl43⟩) (c43 : PySem.W.codeIn K cd43 "_law_due" = true) (k43 : PySem.W.keepIn K (.ref f43) = true)
    (a44 : PySem.W.nsIn K mainGlobals "_law_right" = some (some (.ref f44))) (l44 : K.lookup f44 = some ⟨oc44, od44, .func (PySem.W.fnOf "_law_right" "_law_right" (defArgs s_law_right) (defBody s_law_right) (defScope s_law_right) .none kV44 dc44 pm44 an44 cd44 ct44), sl44⟩) (c44 : PySem.W.codeIn K cd44 "_law_right" = true) (k44 : PySem.W.keepIn K (.ref f44) = true)
    (a45 : PySem.W.nsIn K mainGlobals "law" = some (some (.ref f45))) (l45 : K.lookup f45 = some ⟨oc45, od45, .func (PySem.W.fnOf "law" "law" (defArgs s_law) (defBody s_law) (defScope s_law) .none kV45 dc45 pm45 an45 cd45 ct45), sl45⟩) (c45 : PySem.W.codeIn K cd45 "law" = true) (k45 : PySem.W.keepIn K (.ref f45) = true)
    (z_len : PySem.W.nsIn K mainGlobals "len" = some none)
    (z_range : PySem.W.nsIn K mainGlobals "range" = some none)
    (z_all : PySem.W.nsIn K mainGlobals "all" = some none)
    (z_any : PySem.W.nsIn K mainGlobals "any" = some none)
    (z_abs : PySem.W.nsIn K mainGlobals "abs" = some none)
    (z_int : PySem.W.nsIn K mainGlobals "int" = some none)
    (z_bool : PySem.W.nsIn K mainGlobals "bool" = some none)
    (z_str : PySem.W.nsIn K mainGlobals "str" = some none)
    (z_list : PySem.W.nsIn K mainGlobals "list" = some none)
    (z_tuple : PySem.W.nsIn K mainGlobals "tuple" = some none)
    (z_dict : PySem.W.nsIn K mainGlobals "dict" = some none)
    (z_isinstance : PySem.W.nsIn K mainGlobals "isinstance" = some none)
    (z_enumerate : PySem.W.nsIn K mainGlobals "enumerate" = some none)
    (z_reversed : PySem.W.nsIn K mainGlobals "reversed" = some none)
    (z_sorted : PySem.W.nsIn K mainGlobals "sorted" = some none)
    (z_max : PySem.W.nsIn K mainGlobals "max" = some none)
    (z_min : PySem.W.nsIn K mainGlobals "min" = some none)
    (z_sum : PySem.W.nsIn K mainGlobals "sum" = some none)
    {la lt : Addr} {dL dT : Option Addr} {nL nT : Nat} {sL sT : Array (Option Value)} {t1 t2 t3 : Tok} (zL : PySem.W.nsIn K mainGlobals "LETTER" = some (some (.ref la))) (lL : K.lookup la = some ⟨.type "tuple", dL, .seq #[.ref lt, .int 1 t1] nL, sL⟩) (lT : K.lookup lt = some ⟨.type "tuple", dT, .seq #[.int 0 t2, .int 1 t3] nT, sT⟩)
    : ∃ fd : FuncData, (∀ (s : Shared) (v : Value), BindsTo s fd ⟨[v], []⟩ [("_law_script", v)]) ∧ ∀ base : Heap, K.In base → base.Ns mainGlobals mg → FnOk l.prog w K mg base CX0 8 fa fd ["_law_script"] (spLaw K) := by
  have e := hfa.symm.trans (PySem.W.mg_of X G a45)
  cases e
  have F1 := fun_mk (st := s_common_part) l1 c1 k1
  have b1 := F1.binds (ps := ["one", "other"]) fun _ _ _ _ _ _ us hl => by obtain ⟨_, _, rfl⟩ := us2 hl; rfl
  have F2 := fun_mk (st := s_fraction) l2 c2 k2
  have b2 := F2.binds (ps := ["top", "bottom"]) fun _ _ _ _ _ _ us hl => by obtain ⟨_, _, rfl⟩ := us2 hl; rfl
  have F3 := fun_mk (st := s_taken) l3 c3 k3
  have b3 := F3.binds (ps := ["one", "other"]) fun _ _ _ _ _ _ us hl => by obtain ⟨_, _, rfl⟩ := us2 hl; rfl
  have F4 := fun_mk (st := s_multiplied) l4 c4 k4
  have b4 := F4.binds (ps := ["one", "other"]) fun _ _ _ _ _ _ us hl => by obtain ⟨_, _, rfl⟩ := us2 hl; rfl
  have F5 := fun_mk (st := s_divided) l5 c5 k5
  have b5 := F5.binds (ps := ["one", "other"]) fun _ _ _ _ _ _ us hl => by obtain ⟨_, _, rfl⟩ := us2 hl; rfl
  have F6 := fun_mk (st := s_one_form) l6 c6 k6
  have b6 := F6.binds (ps := ["tops", "bottom"]) fun _ _ _ _ _ _ us hl => by obtain ⟨_, _, rfl⟩ := us2 hl; rfl
  have F7 := fun_mk (st := s_over_one_bottom) l7 c7 k7
  have b7 := F7.binds (ps := ["some"]) fun _ _ _ _ _ _ us hl => by obtain ⟨_, rfl⟩ := us1 hl; rfl
  have F8 := fun_mk (st := s_poly) l8 c8 k8
  have b8 := F8.binds (ps := ["some"]) fun _ _ _ _ _ _ us hl => by obtain ⟨_, rfl⟩ := us1 hl; rfl
  have F9 := fun_mk (st := s_fraction_at) l9 c9 k9
  have b9 := F9.binds (ps := ["p", "k"]) fun _ _ _ _ _ _ us hl => by obtain ⟨_, _, rfl⟩ := us2 hl; rfl
  have F10 := fun_mk (st := s_degree) l10 c10 k10
  have b10 := F10.binds (ps := ["p"]) fun _ _ _ _ _ _ us hl => by obtain ⟨_, rfl⟩ := us1 hl; rfl
  have F11 := fun_mk (st := s_lead) l11 c11 k11
  have b11 := F11.binds (ps := ["p"]) fun _ _ _ _ _ _ us hl => by obtain ⟨_, rfl⟩ := us1 hl; rfl
  have F12 := fun_mk (st := s_tops_together) l12 c12 k12
  have b12 := F12.binds (ps := ["tops", "others"]) fun _ _ _ _ _ _ us hl => by obtain ⟨_, _, rfl⟩ := us2 hl; rfl
  have F13 := fun_mk (st := s_tops_multiplied) l13 c13 k13
  have b13 := F13.binds (ps := ["tops", "others"]) fun _ _ _ _ _ _ us hl => by obtain ⟨_, _, rfl⟩ := us2 hl; rfl
  have F14 := fun_mk (st := s_plus) l14 c14 k14
  have b14 := F14.binds (ps := ["p", "other"]) fun _ _ _ _ _ _ us hl => by obtain ⟨_, _, rfl⟩ := us2 hl; rfl
  have F15 := fun_mk (st := s_scaled) l15 c15 k15
  have b15 := F15.binds (ps := ["p", "r"]) fun _ _ _ _ _ _ us hl => by obtain ⟨_, _, rfl⟩ := us2 hl; rfl
  have F16 := fun_mk (st := s_minus) l16 c16 k16
  have b16 := F16.binds (ps := ["p", "other"]) fun _ _ _ _ _ _ us hl => by obtain ⟨_, _, rfl⟩ := us2 hl; rfl
  have F17 := fun_mk (st := s_straight) l17 c17 k17
  have b17 := F17.binds (ps := ["a", "b"]) fun _ _ _ _ _ _ us hl => by obtain ⟨_, _, rfl⟩ := us2 hl; rfl
  have F18 := fun_mk (st := s_turned_back) l18 c18 k18
  have b18 := F18.binds (ps := ["l"]) fun _ _ _ _ _ _ us hl => by obtain ⟨_, rfl⟩ := us1 hl; rfl
  have F19 := fun_mk (st := s_put) l19 c19 k19
  have b19 := F19.binds (ps := ["f", "g"]) fun _ _ _ _ _ _ us hl => by obtain ⟨_, _, rfl⟩ := us2 hl; rfl
  have F20 := fun_mk (st := s_plain) l20 c20 k20
  have b20 := F20.binds (ps := ["f"]) fun _ _ _ _ _ _ us hl => by obtain ⟨_, rfl⟩ := us1 hl; rfl
  have F21 := fun_mk (st := s_leaves) l21 c21 k21
  have b21 := F21.binds (ps := ["f"]) fun _ _ _ _ _ _ us hl => by obtain ⟨_, rfl⟩ := us1 hl; rfl
  have F22 := fun_mk (st := s_law_flow) l22 c22 k22
  have b22 := F22.binds (ps := ["_law_script"]) fun _ _ _ _ _ _ us hl => by obtain ⟨_, rfl⟩ := us1 hl; rfl
  have F23 := fun_mk (st := s_law_pick) l23 c23 k23
  have b23 := F23.binds (ps := ["_law_flow_here", "_law_many"]) fun _ _ _ _ _ _ us hl => by obtain ⟨_, _, rfl⟩ := us2 hl; rfl
  have F24 := fun_mk (st := s_law_alike) l24 c24 k24
  have b24 := F24.binds (ps := ["_law_found", "_law_due_here"]) fun _ _ _ _ _ _ us hl => by obtain ⟨_, _, rfl⟩ := us2 hl; rfl
  have F25 := fun_mk (st := s_law_common) l25 c25 k25
  have b25 := F25.binds (ps := ["_law_a", "_law_b"]) fun _ _ _ _ _ _ us hl => by obtain ⟨_, _, rfl⟩ := us2 hl; rfl
  have F26 := fun_mk (st := s_law_fraction) l26 c26 k26
  have b26 := F26.binds (ps := ["_law_top", "_law_bottom"]) fun _ _ _ _ _ _ us hl => by obtain ⟨_, _, rfl⟩ := us2 hl; rfl
  have F27 := fun_mk (st := s_law_product) l27 c27 k27
  have b27 := F27.binds (ps := ["_law_one", "_law_other"]) fun _ _ _ _ _ _ us hl => by obtain ⟨_, _, rfl⟩ := us2 hl; rfl
  have F28 := fun_mk (st := s_law_poly) l28 c28 k28
  have b28 := F28.binds (ps := ["_law_tops", "_law_bottom"]) fun _ _ _ _ _ _ us hl => by obtain ⟨_, _, rfl⟩ := us2 hl; rfl
  have F29 := fun_mk (st := s_law_sum) l29 c29 k29
  have b29 := F29.binds (ps := ["_law_p", "_law_q"]) fun _ _ _ _ _ _ us hl => by obtain ⟨_, _, rfl⟩ := us2 hl; rfl
  have F30 := fun_mk (st := s_law_times) l30 c30 k30
  have b30 := F30.binds (ps := ["_law_p", "_law_q"]) fun _ _ _ _ _ _ us hl => by obtain ⟨_, _, rfl⟩ := us2 hl; rfl
  have F31 := fun_mk (st := s_law_of) l31 c31 k31
  have b31 := F31.binds (ps := ["_law_p", "_law_q"]) fun _ _ _ _ _ _ us hl => by obtain ⟨_, _, rfl⟩ := us2 hl; rfl
  have F32 := fun_mk (st := s_law_straight) l32 c32 k32
  have b32 := F32.binds (ps := ["_law_a", "_law_b"]) fun _ _ _ _ _ _ us hl => by obtain ⟨_, _, rfl⟩ := us2 hl; rfl
  have F33 := fun_mk (st := s_law_number) l33 c33 k33
  have b33 := F33.binds (ps := ["_law_flow_here", "_law_most"]) fun _ _ _ _ _ _ us hl => by obtain ⟨_, _, rfl⟩ := us2 hl; rfl
  have F34 := fun_mk (st := s_law_any_fraction) l34 c34 k34
  have b34 := F34.binds (ps := ["_law_flow_here", "_law_most"]) fun _ _ _ _ _ _ us hl => by obtain ⟨_, _, rfl⟩ := us2 hl; rfl
  have F35 := fun_mk (st := s_law_any_poly) l35 c35 k35
  have b35 := F35.binds (ps := ["_law_flow_here", "_law_many", "_law_most"]) fun _ _ _ _ _ _ us hl => by obtain ⟨_, _, _, rfl⟩ := us3 hl; rfl
  have F36 := fun_mk (st := s_law_any_straight) l36 c36 k36
  have b36 := F36.binds (ps := ["_law_flow_here", "_law_most"]) fun _ _ _ _ _ _ us hl => by obtain ⟨_, _, rfl⟩ := us2 hl; rfl
  have F37 := fun_mk (st := s_law_at) l37 c37 k37
  have b37 := F37.binds (ps := ["_law_p", "_law_k"]) fun _ _ _ _ _ _ us hl => by obtain ⟨_, _, rfl⟩ := us2 hl; rfl
  have F38 := fun_mk (st := s_law_divided) l38 c38 k38
  have b38 := F38.binds (ps := ["_law_one", "_law_other"]) fun _ _ _ _ _ _ us hl => by obtain ⟨_, _, rfl⟩ := us2 hl; rfl
  have F39 := fun_mk (st := s_law_degree_drawn) l39 c39 k39
  have b39 := F39.binds (ps := ["_law_flow_here"]) fun _ _ _ _ _ _ us hl => by obtain ⟨_, rfl⟩ := us1 hl; rfl
  have F40 := fun_mk (st := s_law_plain_one) l40 c40 k40
  have b40 := F40.binds (ps := ["_law_flow_here", "_law_n"]) fun _ _ _ _ _ _ us hl => by obtain ⟨_, _, rfl⟩ := us2 hl; rfl
  have F41 := fun_mk (st := s_law_short) l41 c41 k41
  have b41 := F41.binds (ps := ["_law_some"]) fun _ _ _ _ _ _ us hl => by obtain ⟨_, rfl⟩ := us1 hl; rfl
  have F42 := fun_mk (st := s_law_drawn) l42 c42 k42
  have b42 := F42.binds (ps := ["_law_flow_here"]) fun _ _ _ _ _ _ us hl => by obtain ⟨_, rfl⟩ := us1 hl; rfl
  have F43 := fun_mk (st := s_law_due) l43 c43 k43
  have b43 := F43.binds (ps := ["_law_f"]) fun _ _ _ _ _ _ us hl => by obtain ⟨_, rfl⟩ := us1 hl; rfl
  have F44 := fun_mk (st := s_law_right) l44 c44 k44
  have b44 := F44.binds (ps := ["_law_f"]) fun _ _ _ _ _ _ us hl => by obtain ⟨_, rfl⟩ := us1 hl; rfl
  have F45 := fun_mk (st := s_law) l45 c45 k45
  have b45 := F45.binds (ps := ["_law_script"]) fun _ _ _ _ _ _ us hl => by obtain ⟨_, rfl⟩ := us1 hl; rfl
  have B : Bl mg := ⟨PySem.W.mg_none_of X G z_len, PySem.W.mg_none_of X G z_range, PySem.W.mg_none_of X G z_all, PySem.W.mg_none_of X G z_any, PySem.W.mg_none_of X G z_abs, PySem.W.mg_none_of X G z_int, PySem.W.mg_none_of X G z_bool, PySem.W.mg_none_of X G z_str, PySem.W.mg_none_of X G z_list, PySem.W.mg_none_of X G z_tuple, PySem.W.mg_none_of X G z_dict, PySem.W.mg_none_of X G z_isinstance, PySem.W.mg_none_of X G z_enumerate, PySem.W.mg_none_of X G z_reversed, PySem.W.mg_none_of X G z_sorted, PySem.W.mg_none_of X G z_max, PySem.W.mg_none_of X G z_min, PySem.W.mg_none_of X G z_sum⟩
  have hLm := PySem.W.mg_of X G zL
  have hLp := letter_k lL lT
  refine ⟨PySem.W.fnOf "law" "law" (defArgs s_law) (defBody s_law) (defScope s_law) .none kV45 dc45 pm45 an45 cd45 ct45, fun s v => .of_eq rfl, fun base _ _ => ?_⟩
  have g1 : Def l.prog w K mg base "common_part" 1 ["one", "other"] spCommon := .of F1 (PySem.W.mg_of X G a1) b1 (ok_common_part  F1 B)
  have g2 : Def l.prog w K mg base "fraction" 2 ["top", "bottom"] spFrac := .of F2 (PySem.W.mg_of X G a2) b2 (ok_fraction  F2 B g1)
  have g3 : Def l.prog w K mg base "taken" 3 ["one", "other"] (spTaken K) := .of F3 (PySem.W.mg_of X G a3) b3 (ok_taken  F3 B g2)
  have g4 : Def l.prog w K mg base "multiplied" 3 ["one", "other"] (spMultiplied K) := .of F4 (PySem.W.mg_of X G a4) b4 (ok_multiplied  F4 B g2)
  have g5 : Def l.prog w K mg base "divided" 3 ["one", "other"] (spDivided K) := .of F5 (PySem.W.mg_of X G a5) b5 (ok_divided  F5 B g2)
  have g6 : Def l.prog w K mg base "one_form" 2 ["tops", "bottom"] (spOF K) := .of F6 (PySem.W.mg_of X G a6) b6 (ok_one_form  F6 B g1)
  have g7 : Def l.prog w K mg base "over_one_bottom" 2 ["some"] (spOOB K) := .of F7 (PySem.W.mg_of X G a7) b7 (ok_over_one_bottom  F7 B g1)
  have g8 : Def l.prog w K mg base "poly" 3 ["some"] (spPolyQ K) := .of F8 (PySem.W.mg_of X G a8) b8 (ok_poly  F8 B g7 g6)
  have g9 : Def l.prog w K mg base "fraction_at" 3 ["p", "k"] (spFAt K) := .of F9 (PySem.W.mg_of X G a9) b9 (ok_fraction_at  F9 B g2)
  have g10 : Def l.prog w K mg base "degree" 1 ["p"] (spDeg K) := .of F10 (PySem.W.mg_of X G a10) b10 (ok_degree  F10 B)
  have g11 : Def l.prog w K mg base "lead" 4 ["p"] (spLead K) := .of F11 (PySem.W.mg_of X G a11) b11 (ok_lead  F11 B g9 g10)
  have g12 : Def l.prog w K mg base "tops_together" 1 ["tops", "others"] (spTog K) := .of F12 (PySem.W.mg_of X G a12) b12 (ok_tops_together  F12 B)
  have g13 : Def l.prog w K mg base "tops_multiplied" 1 ["tops", "others"] (spMulT K) := .of F13 (PySem.W.mg_of X G a13) b13 (ok_tops_multiplied  F13 B)
  have g14 : Def l.prog w K mg base "plus" 3 ["p", "other"] (spPlusQ K) := .of F14 (PySem.W.mg_of X G a14) b14 (ok_plus  F14 B g6 g12)
  have g15 : Def l.prog w K mg base "scaled" 3 ["p", "r"] (spScaledQ K) := .of F15 (PySem.W.mg_of X G a15) b15 (ok_scaled  F15 B g6)
  have g16 : Def l.prog w K mg base "minus" 4 ["p", "other"] (spMinusQ K) := .of F16 (PySem.W.mg_of X G a16) b16 (ok_minus  F16 B g14 g15)
  have g17 : Def l.prog w K mg base "straight" 4 ["a", "b"] (spStraightQ K) := .of F17 (PySem.W.mg_of X G a17) b17 (ok_straight  F17 B g8)
  have g18 : Def l.prog w K mg base "turned_back" 5 ["l"] (spTBackQ K) := .of F18 (PySem.W.mg_of X G a18) b18 (ok_turned_back  F18 B (fatQ g9) g17 (takenQ g3) (dividedQ g5))
  have g19 : Def l.prog w K mg base "put" 3 ["f", "g"] (spPut K) := .of F19 (PySem.W.mg_of X G a19) b19 (ok_put  F19 B g6 g12 g13)
  have g20 : Def l.prog w K mg base "plain" 5 ["f"] (spPlain K) := .of F20 (PySem.W.mg_of X G a20) b20 (ok_plain  F20 B g10 (leadQ g11) (dividedQ g5) (multipliedQ g4) (takenQ g3) (fatQ g9) g17 g19 g8 g15 g16)
  have g21 : Def l.prog w K mg base "leaves" 6 ["f"] (spLeaves K) := .of F21 (PySem.W.mg_of X G a21) b21 (ok_leaves hLm hLp F21 B g20 g19 g18 g17)
  have g22 : Def l.prog w K mg base "_law_flow" 1 ["_law_script"] (spFlow K) := .of F22 (PySem.W.mg_of X G a22) b22 (ok_flow  F22 B)
  have g23 : Def l.prog w K mg base "_law_pick" 1 ["_law_flow_here", "_law_many"] spPickB := .of F23 (PySem.W.mg_of X G a23) b23 (ok_pick  F23 B)
  have g24 : Def l.prog w K mg base "_law_alike" 4 ["_law_found", "_law_due_here"] (spAlike K 4) := .of F24 (PySem.W.mg_of X G a24) b24 (ok_law_alike F24 B (PySem.W.mg_of X G a24) b24 4)
  have g25 : Def l.prog w K mg base "_law_common" 1 ["_law_a", "_law_b"] spLCommon := .of F25 (PySem.W.mg_of X G a25) b25 (ok_law_common  F25 B)
  have g26 : Def l.prog w K mg base "_law_fraction" 2 ["_law_top", "_law_bottom"] spFrac := .of F26 (PySem.W.mg_of X G a26) b26 (ok_law_fraction  F26 B g25)
  have g27 : Def l.prog w K mg base "_law_product" 3 ["_law_one", "_law_other"] (spMultiplied K) := .of F27 (PySem.W.mg_of X G a27) b27 (ok_law_product  F27 B g26)
  have g28 : Def l.prog w K mg base "_law_poly" 2 ["_law_tops", "_law_bottom"] (spLPoly K) := .of F28 (PySem.W.mg_of X G a28) b28 (ok_law_poly  F28 B g25)
  have g29 : Def l.prog w K mg base "_law_sum" 3 ["_law_p", "_law_q"] (spLSum K) := .of F29 (PySem.W.mg_of X G a29) b29 (ok_law_sum  F29 B g28)
  have g30 : Def l.prog w K mg base "_law_times" 3 ["_law_p", "_law_q"] (spLTimes K) := .of F30 (PySem.W.mg_of X G a30) b30 (ok_law_times  F30 B g28)
  have g31 : Def l.prog w K mg base "_law_of" 4 ["_law_p", "_law_q"] (spLOf K) := .of F31 (PySem.W.mg_of X G a31) b31 (ok_law_of  F31 B g29 g30 g28)
  have g32 : Def l.prog w K mg base "_law_straight" 3 ["_law_a", "_law_b"] (spStraightQ K) := .of F32 (PySem.W.mg_of X G a32) b32 (ok_law_straight  F32 B g28)
  have g33 : Def l.prog w K mg base "_law_number" 2 ["_law_flow_here", "_law_most"] spNumber := .of F33 (PySem.W.mg_of X G a33) b33 (ok_law_number  F33 B g23)
  have g34 : Def l.prog w K mg base "_law_any_fraction" 3 ["_law_flow_here", "_law_most"] (spAnyF K) := .of F34 (PySem.W.mg_of X G a34) b34 (ok_law_any_fraction  F34 B g23 g33 g26)
  have g35 : Def l.prog w K mg base "_law_any_poly" 3 ["_law_flow_here", "_law_many", "_law_most"] (spAnyP K) := .of F35 (PySem.W.mg_of X G a35) b35 (ok_law_any_poly  F35 B g23 g33 g28)
  have g36 : Def l.prog w K mg base "_law_any_straight" 4 ["_law_flow_here", "_law_most"] (spAnyS K) := .of F36 (PySem.W.mg_of X G a36) b36 (ok_law_any_straight  F36 B g23 g26 g32 g34)
  have g37 : Def l.prog w K mg base "_law_at" 3 ["_law_p", "_law_k"] (spFAtQ K) := .of F37 (PySem.W.mg_of X G a37) b37 (ok_law_at  F37 B g26)
  have g38 : Def l.prog w K mg base "_law_divided" 3 ["_law_one", "_law_other"] (spDivided K) := .of F38 (PySem.W.mg_of X G a38) b38 (ok_law_divided  F38 B g26)
  have g39 : Def l.prog w K mg base "_law_degree_drawn" 2 ["_law_flow_here"] spDegD := .of F39 (PySem.W.mg_of X G a39) b39 (ok_law_degree_drawn  F39 B g23)
  have g40 : Def l.prog w K mg base "_law_plain_one" 4 ["_law_flow_here", "_law_n"] (spPlainOne K) := .of F40 (PySem.W.mg_of X G a40) b40 (ok_law_plain_one  F40 B g23 g35 g28)
  have g41 : Def l.prog w K mg base "_law_short" 1 ["_law_some"] (spShort K) := .of F41 (PySem.W.mg_of X G a41) b41 (ok_law_short  F41 B)
  have g42 : Def l.prog w K mg base "_law_drawn" 5 ["_law_flow_here"] (spDrawn K) := .of F42 (PySem.W.mg_of X G a42) b42 (ok_law_drawn  F42 B g23 g39 g35 g40 g31 g36)
  have g43 : Def l.prog w K mg base "_law_due" 5 ["_law_f"] (spDue K) := .of F43 (PySem.W.mg_of X G a43) b43 (ok_law_due  F43 B (dividedQ g38) (multipliedQ g27) g37 g32 g31)
  have g44 : Def l.prog w K mg base "_law_right" 7 ["_law_f"] (spRight K) := .of F44 (PySem.W.mg_of X G a44) b44 (ok_law_right  F44 B g43 g21 g24 g31)
  exact ok_law F45 B g22 g42 g41 g44
theorem walk {l : PySem.W.OpenLaw} {q : Program} {loose : List Str} {XP : (Str → Option Value) → Heap → Prop} {YP : World → Heap → Prop} {d : DefRec} {K : Params → PySem.W.Frag} (hn : l.most = some 63) (hdf : d.params.defaults = [])
    (hY : ∀ (w : World) (h : Heap), YP w h → (K w.params).In h)
    (F : ∀ (w : World) (mg : Str → Option Value) (fa : Addr) (h : Heap), (K w.params).In h → h.Ns mainGlobals mg → mg d.name = some (.ref fa) →
      ∃ fd : FuncData, (∀ (s : Shared) (u : Value), BindsTo s fd ⟨[u], []⟩ [("_law_script", u)]) ∧ ∀ base : Heap, (K w.params).In base → base.Ns mainGlobals mg → FnOk l.prog w (K w.params) mg base CX0 8 fa fd ["_law_script"] (spLaw (K w.params))) :
    PySem.W.WalkO q loose XP YP l.row.toRowW d [] (fun f vs => PySem.call f vs) :=
  L2.walk_of (n := 63) (k := 8) (x := "_law_script") (CX := fun _ => CX0) (sp := fun w => spLaw (K w.params)) hn (by decide) hdf ⟨rfl, by decide, by decide⟩ hY F (fun _ _ a ns hl _ hS => ⟨a, ns, rfl, hS, hl, fun _ => rfl⟩) fun _ _ _ _ _ z => z
end My
open PySem PySem.W PyProof.Rows
set_option maxRecDepth 100000 in
set_option maxHeartbeats 0 in
theorem PySem.Challenge.cw_nestwright_k24_leaves_holds : PySem.Challenge.rw_nestwright_k24_leaves.Holds := by
  w_on; o_law; k_head; (case hw => w_witness2)
  k_fill
  refine My.walk (l := PySem.Challenge.rw_nestwright_k24_leaves) rfl rfl (fun w h Y => PySem.W.kIn_of Y) ?F
  case F =>
    intro w mg fa h KX G hmg
    refine' My.all_mk KX G hmg ?a1 ?l1 ?c1 ?k1 ?a2 ?l2 ?c2 ?k2 ?a3 ?l3 ?c3 ?k3 ?a4 ?l4 ?c4 ?k4 ?a5 ?l5 ?c5 ?k5 ?a6 ?l6 ?c6 ?k6 ?a7 ?l7 ?c7 ?k7 ?a8 ?l8 ?c8 ?k8 ?a9 ?l9 ?c9 ?k9 ?a10 ?l10 ?c10 ?k10 ?a11 ?l11 ?c11 ?k11 ?a12 ?l12 ?c12 ?k12 ?a13 ?l13 ?c13 ?k13 ?a14 ?l14 ?c14 ?k14 ?a15 ?l15 ?c15 ?k15 ?a16 ?l16 ?c16 ?k16 ?a17 ?l17 ?c17 ?k17 ?a18 ?l18 ?c18 ?k18 ?a19 ?l19 ?c19 ?k19 ?a20 ?l20 ?c20 ?k20 ?a21 ?l21 ?c21 ?k21 ?a22 ?l22 ?c22 ?k22 ?a23 ?l23 ?c23 ?k23 ?a24 ?l24 ?c24 ?k24 ?a25 ?l25 ?c25 ?k25 ?a26 ?l26 ?c26 ?k26 ?a27 ?l27 ?c27 ?k27 ?a28 ?l28 ?c28 ?k28 ?a29 ?l29 ?c29 ?k29 ?a30 ?l30 ?c30 ?k30 ?a31 ?l31 ?c31 ?k31 ?a32 ?l32 ?c32 ?k32 ?a33 ?l33 ?c33 ?k33 ?a34 ?l34 ?c34 ?k34 ?a35 ?l35 ?c35 ?k35 ?a36 ?l36 ?c36 ?k36 ?a37 ?l37 ?c37 ?k37 ?a38 ?l38 ?c38 ?k38 ?a39 ?l39 ?c39 ?k39 ?a40 ?l40 ?c40 ?k40 ?a41 ?l41 ?c41 ?k41 ?a42 ?l42 ?c42 ?k42 ?a43 ?l43 ?c43 ?k43 ?a44 ?l44 ?c44 ?k44 ?a45 ?l45 ?c45 ?k45 ?z_len ?z_range ?z_all ?z_any ?z_abs ?z_int ?z_bool ?z_str ?z_list ?z_tuple ?z_dict ?z_isinstance ?z_enumerate ?z_reversed ?z_sorted ?z_max ?z_min ?z_sum ?zL ?lL ?lT
    (case a1 => k_is); (case l1 => k_is); (case c1 => k_is); (case k1 => k_is)
    (case a2 => k_is); (case l2 => k_is); (case c2 => k_is); (case k2 => k_is)
    (case a3 => k_is); (case l3 => k_is); (case c3 => k_is); (case k3 => k_is)
    (case a4 => k_is); (case l4 => k_is); (case c4 => k_is); (case k4 => k_is)
    (case a5 => k_is); (case l5 => k_is); (case c5 => k_is); (case k5 => k_is)
    (case a6 => k_is); (case l6 => k_is); (case c6 => k_is); (case k6 => k_is)
    (case a7 => k_is); (case l7 => k_is); (case c7 => k_is); (case k7 => k_is)
    (case a8 => k_is); (case l8 => k_is); (case c8 => k_is); (case k8 => k_is)
    (case a9 => k_is); (case l9 => k_is); (case c9 => k_is); (case k9 => k_is)
    (case a10 => k_is); (case l10 => k_is); (case c10 => k_is); (case k10 => k_is)
    (case a11 => k_is); (case l11 => k_is); (case c11 => k_is); (case k11 => k_is)
    (case a12 => k_is); (case l12 => k_is); (case c12 => k_is); (case k12 => k_is)
    (case a13 => k_is); (case l13 => k_is); (case c13 => k_is); (case k13 => k_is)
    (case a14 => k_is); (case l14 => k_is); (case c14 => k_is); (case k14 => k_is)
    (case a15 => k_is); (case l15 => k_is); (case c15 => k_is); (case k15 => k_is)
    (case a16 => k_is); (case l16 => k_is); (case c16 => k_is); (case k16 => k_is)
    (case a17 => k_is); (case l17 => k_is); (case c17 => k_is); (case k17 => k_is)
    (case a18 => k_is); (case l18 => k_is); (case c18 => k_is); (case k18 => k_is)
    (case a19 => k_is); (case l19 => k_is); (case c19 => k_is); (case k19 => k_is)
    (case a20 => k_is); (case l20 => k_is); (case c20 => k_is); (case k20 => k_is)
    (case a21 => k_is); (case l21 => k_is); (case c21 => k_is); (case k21 => k_is)
    (case a22 => k_is); (case l22 => k_is); (case c22 => k_is); (case k22 => k_is)
    (case a23 => k_is); (case l23 => k_is); (case c23 => k_is); (case k23 => k_is)
    (case a24 => k_is); (case l24 => k_is); (case c24 => k_is); (case k24 => k_is)
    (case a25 => k_is); (case l25 => k_is); (case c25 => k_is); (case k25 => k_is)
    (case a26 => k_is); (case l26 => k_is); (case c26 => k_is); (case k26 => k_is)
    (case a27 => k_is); (case l27 => k_is); (case c27 => k_is); (case k27 => k_is)
    (case a28 => k_is); (case l28 => k_is); (case c28 => k_is); (case k28 => k_is)
    (case a29 => k_is); (case l29 => k_is); (case c29 => k_is); (case k29 => k_is)
    (case a30 => k_is); (case l30 => k_is); (case c30 => k_is); (case k30 => k_is)
    (case a31 => k_is); (case l31 => k_is); (case c31 => k_is); (case k31 => k_is)
    (case a32 => k_is); (case l32 => k_is); (case c32 => k_is); (case k32 => k_is)
    (case a33 => k_is); (case l33 => k_is); (case c33 => k_is); (case k33 => k_is)
    (case a34 => k_is); (case l34 => k_is); (case c34 => k_is); (case k34 => k_is)
    (case a35 => k_is); (case l35 => k_is); (case c35 => k_is); (case k35 => k_is)
    (case a36 => k_is); (case l36 => k_is); (case c36 => k_is); (case k36 => k_is)
    (case a37 => k_is); (case l37 => k_is); (case c37 => k_is); (case k37 => k_is)
    (case a38 => k_is); (case l38 => k_is); (case c38 => k_is); (case k38 => k_is)
    (case a39 => k_is); (case l39 => k_is); (case c39 => k_is); (case k39 => k_is)
    (case a40 => k_is); (case l40 => k_is); (case c40 => k_is); (case k40 => k_is)
    (case a41 => k_is); (case l41 => k_is); (case c41 => k_is); (case k41 => k_is)
    (case a42 => k_is); (case l42 => k_is); (case c42 => k_is); (case k42 => k_is)
    (case a43 => k_is); (case l43 => k_is); (case c43 => k_is); (case k43 => k_is)
    (case a44 => k_is); (case l44 => k_is); (case c44 => k_is); (case k44 => k_is)
    (case a45 => k_is); (case l45 => k_is); (case c45 => k_is); (case k45 => k_is)
    (case z_len => k_is)
    (case z_range => k_is)
    (case z_all => k_is)
    (case z_any => k_is)
    (case z_abs => k_is)
    (case z_int => k_is)
    (case z_bool => k_is)
    (case z_str => k_is)
    (case z_list => k_is)
    (case z_tuple => k_is)
    (case z_dict => k_is)
    (case z_isinstance => k_is)
    (case z_enumerate => k_is)
    (case z_reversed => k_is)
    (case z_sorted => k_is)
    (case z_max => k_is)
    (case z_min => k_is)
    (case z_sum => k_is)
    (case zL => k_is); (case lL => k_is); (case lT => k_is)

