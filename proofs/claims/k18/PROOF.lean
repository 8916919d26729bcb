import PyProof.Rows.All
import Wide.All
import OpenK.AllK
import Wide.FinOn
import Lean
import PyProof.EqAt
import PyProof.EqKinds
import PyProof.TupleCall
import PySem.Challenge.RW_nesthall_k18_stands_known
set_option Elab.async false
set_option linter.all false
set_option maxRecDepth 100000
/-! THE HAND LAYER, for ints, bools, texts, own classes, LISTS and tuples (index, slices, in, append, pop ..), calls, loops. Paste it whole ahead of your own text; what your proof does not reach may be deleted. -/
namespace L2
open PySem PySem.Spec PyProof.Rows

/-- a key: an int or a str -/
abbrev Key := Sum Int Str
def keyIs : Key → Value → Bool
  | .inl k, v => Value.isInt k v
  | .inr x, v => Value.isStrOf x v
def keyH (w : World) : Key → Int
  | .inl k => hashInt k
  | .inr x => hashStr w x
theorem keyIs_shape : ∀ {k : Key} {v : Value}, keyIs k v = true → (∃ i t, k = Sum.inl i ∧ v = Value.int i t) ∨ (∃ x t, k = Sum.inr x ∧ v = Value.str x t)
  | .inl i, v, h => by
    obtain ⟨t, e⟩ := Value.isInt_shape (k := i) (v := v) h
    exact .inl ⟨i, t, rfl, e⟩
  | .inr x, v, h => by
    obtain ⟨t, e⟩ := Value.isStrOf_shape (x := x) (v := v) h
    exact .inr ⟨x, t, rfl, e⟩
theorem key_ll (a b : Int) : decide ((Sum.inl a : Key) = Sum.inl b) = (a == b) := by
  by_cases e : a = b
  · subst e; simp
  · have h : ¬ (Sum.inl a : Key) = Sum.inl b := fun q => e (Sum.inl.inj q)
    rw [decide_eq_false h]
    exact (beq_eq_false_iff_ne.mpr e).symm
theorem key_rr (a b : Str) : decide ((Sum.inr a : Key) = Sum.inr b) = decide (a = b) := by
  by_cases e : a = b
  · subst e; simp
  · have h : ¬ (Sum.inr a : Key) = Sum.inr b := fun q => e (Sum.inr.inj q)
    rw [decide_eq_false h, decide_eq_false e]
theorem key_lr (a : Int) (b : Str) : decide ((Sum.inl a : Key) = Sum.inr b) = false := decide_eq_false (fun q => nomatch q)
theorem key_rl (a : Str) (b : Int) : decide ((Sum.inr a : Key) = Sum.inl b) = false := decide_eq_false (fun q => nomatch q)

def mixKind (prog : Program) (w : World) : PySem.KeyKind prog w Key where
  is := keyIs
  hash := keyH w
  inj := fun v a b ha hb => by
    rcases keyIs_shape ha with ⟨i, t, rfl, rfl⟩ | ⟨x, t, rfl, rfl⟩
    · rcases keyIs_shape hb with ⟨j, u, rfl, e⟩ | ⟨y, u, rfl, e⟩
      · injection e with e1 _; rw [e1]
      · exact nomatch e
    · rcases keyIs_shape hb with ⟨j, u, rfl, e⟩ | ⟨y, u, rfl, e⟩
      · exact nomatch e
      · injection e with e1 _; rw [e1]
  byValue := fun k v h => by
    rcases keyIs_shape h with ⟨i, t, rfl, rfl⟩ | ⟨x, t, rfl, rfl⟩ <;> rfl
  pyHash := fun hv h => by
    rcases keyIs_shape hv with ⟨i, t, rfl, rfl⟩ | ⟨x, t, rfl, rfl⟩
    · exact wpAny_pyHash_int h
    · exact wpAny_pyHash_str h
  eqBool := fun hu hv h => by
    rcases keyIs_shape hu with ⟨i, t, rfl, rfl⟩ | ⟨x, t, rfl, rfl⟩
    · rcases keyIs_shape hv with ⟨j, u, rfl, rfl⟩ | ⟨y, u, rfl, rfl⟩
      · rw [key_ll] at h; exact wpAny_eqBool_int h
      · rw [key_lr] at h; exact SeqAt.EqAt.int_str i t y u _ _ _ _ h
    · rcases keyIs_shape hv with ⟨j, u, rfl, rfl⟩ | ⟨y, u, rfl, rfl⟩
      · rw [key_rl] at h; exact SeqAt.EqAt.str_int x t j u _ _ _ _ h
      · rw [key_rr] at h; exact wpAny_eqBool_str h
  «strs» := fun k x t v h => by
    rcases keyIs_shape h with ⟨i, u, rfl, e⟩ | ⟨y, u, rfl, e⟩
    · exact nomatch e
    · injection e with e1 _
      subst e1
      cases v <;> rfl

end L2

namespace L2
open PySem PySem.Spec PyProof.Rows

/-- a value, without the heap -/
inductive V where
  | non | bl (b : Bool) | int (i : Int) | str (x : Str) | byt (b : Array UInt8) | flt (b : UInt64) | ref (a : Addr) | ty (n : String)
  deriving DecidableEq

def RelV : V → Value → Prop
  | .non, u => u = Value.none
  | .bl b, u => u = Value.bool b
  | .int i, u => ∃ t, u = Value.int i t
  | .str x, u => ∃ t, u = Value.str x t
  | .byt b, u => ∃ t, u = Value.bytes b t
  | .flt b, u => ∃ t, u = Value.float b t
  | .ref a, u => u = Value.ref a
  | .ty n, u => u = Value.type n

abbrev Vals : List V → List Value → Prop := Paired RelV
theorem Vals.length {xs : List V} {us : List Value} (r : Vals xs us) : xs.length = us.length := Paired.length r
theorem Vals.get : ∀ {xs : List V} {us : List Value} {i : Nat} {x : V}, Vals xs us → xs[i]? = some x → ∃ u, us[i]? = some u ∧ RelV x u
  | _, _, _, _, .nil, e => by simp at e
  | _, _, 0, _, .cons r _, e => by simp at e; subst e; exact ⟨_, rfl, r⟩
  | _, _, i + 1, x, .cons _ t, e => by
    obtain ⟨u, h1, h2⟩ := Vals.get (i := i) (x := x) t (by simpa using e)
    exact ⟨u, by simpa using h1, h2⟩
theorem Vals.set {x : V} {u : Value} (r : RelV x u) : ∀ {xs : List V} {us : List Value} (i : Nat), Vals xs us → Vals (xs.set i x) (us.set i u)
  | _, _, _, .nil => .nil
  | _, _, 0, .cons _ t => .cons r t
  | _, _, i + 1, .cons q t => .cons q (Vals.set r i t)
theorem Vals.append : ∀ {xs ys : List V} {us ws : List Value}, Vals xs us → Vals ys ws → Vals (xs ++ ys) (us ++ ws)
  | _, _, _, _, .nil, s => s
  | _, _, _, _, .cons r t, s => .cons r (Vals.append t s)
theorem Vals.take : ∀ {xs : List V} {us : List Value} (n : Nat), Vals xs us → Vals (xs.take n) (us.take n)
  | _, _, 0, _ => .nil
  | _, _, _ + 1, .nil => .nil
  | _, _, n + 1, .cons r t => .cons r (Vals.take n t)
theorem Vals.drop : ∀ {xs : List V} {us : List Value} (n : Nat), Vals xs us → Vals (xs.drop n) (us.drop n)
  | _, _, 0, r => r
  | _, _, _ + 1, .nil => .nil
  | _, _, n + 1, .cons _ t => Vals.drop n t
def RelO : Option V → Option Value → Prop
  | some v, some u => RelV v u
  | none, none => True
  | _, _ => False
def KV {κ : Type} : List (κ × V) → List (κ × Value) → Prop := Paired fun (p : κ × V) (q : κ × Value) => p.1 = q.1 ∧ RelV p.2 q.2

/-- a key of a dict (00_mix): an int or a text -/
def kV : Key → V
  | .inl i => .int i
  | .inr x => .str x

/-- what stands at a tracked address -/
inductive HO where
  /-- a list -/
  | lst (xs : List V)
  /-- a tuple (never changes) -/
  | tup (xs : List V)
  /-- a dict whose keys are ints and texts; one whose keys are tuples of ints and texts (the empty one is both) -/
  | dK (kvs : List (Key × V)) | dT (kvs : List (List Key × V))
  /-- a set of ints: its members, its size -/
  | set (S : Int → Bool) (n : Nat)
  /-- an instance of the class at C, its dict at dx, its attributes -/
  | ins (C dx : Addr) (fs : List (Str × V))
  /-- the dict of the instance at x -/
  | own (x : Addr)
  /-- the dict of an exception -/
  | xd (fs : List (Str × V))
  /-- a bound method, f of x -/
  | met (f x : Addr)
  /-- a range object lo, lo + 1, .. below hi -/
  | rng (lo hi : Int)
  /-- a thing that is known to the object (the script; a dict while a loop walks it): read, never written while it is so -/
  | frz (o : Obj) (u : HO)
  /-- a code object's table -/
  | tbl (ps : Array Value)
  /-- any other thing, by what is true of its one object (a def of one's own: SetO a S n := HO.ext fun h => ..) -/
  | ext (φ : Heap → Prop)

abbrev Hp := Addr → Option HO
def upd (H : Hp) (a : Addr) (o : HO) : Hp := fun b => if b = a then some o else H b
theorem upd_same {H : Hp} {a : Addr} {o : HO} : upd H a o a = some o := by unfold upd; rw [if_pos rfl]
theorem upd_ne {H : Hp} {a b : Addr} {o : HO} (h : b ≠ a) : upd H a o b = H b := by unfold upd; rw [if_neg h]
/-- two objects of different content stand apart -/
theorem ne_of {H : Hp} {a b : Addr} {o u : HO} (h : H a = some o) (h' : H b = some u) (d : o ≠ u) : a ≠ b := by
  intro e; subst e; rw [h] at h'; exact d (Option.some.inj h')
theorem ne_of_none {H : Hp} {a b : Addr} {o : HO} (h : H a = some o) (h' : H b = none) : a ≠ b := by
  intro e; subst e; rw [h] at h'; cases h'

section
variable (P : Program) (w : World)
def ObjOk (H : Hp) (h : Heap) (a : Addr) : HO → Prop
  | .lst xs => xs.length ≤ sizeLine ∧ ∃ (its : List Value) (n : Nat), Vals xs its ∧ h.get? a = some { cls := .type "list", data := .seq its.toArray n }
  | .tup xs => xs.length ≤ sizeLine ∧ ∃ its : List Value, Vals xs its ∧ IsTup h a its.toArray
  | .dK kvs => kvs.length ≤ sizeLine ∧ (a == sysModules) = false ∧ ∃ vs, KV kvs vs ∧ h.DictOf (mixKind P w) a vs
  | .dT kvs => kvs.length ≤ sizeLine ∧ (a == sysModules) = false ∧ ∃ xs : List (List Key × Addr × Value),
      Paired (fun (p : List Key × V) (q : List Key × Addr × Value) => p.1 = q.1 ∧ H q.2.1 = some (.tup (p.1.map kV)) ∧ RelV p.2 q.2.2) kvs xs ∧
      ∃ o es ep, h.get? a = some o ∧ o.ExactDict ∧ o.data = .dict es ep ∧ es.toList = xs.map (entryOfKey (tupleKind (mixKind P w))) ∧ (xs.map (·.1)).Nodup
  | .set S n => h.SetOf (intKind P w) a S n
  | .ins C dx fs => H dx = some (.own a) ∧ fs.length ≤ 1000 ∧ dx ≠ a ∧ h.get? a = some (PySem.W.instObj C dx) ∧
      ∃ mA, h.Ns1 dx mA ∧ (∀ f, RelO (fs.lookup f) (mA f)) ∧ PySem.Within mA (fs.map (·.1))
  | .own _ => ∃ o, h.get? a = some o
  | .xd fs => ∃ mA, h.Ns1 a mA ∧ ∀ f, RelO (fs.lookup f) (mA f)
  | .rng lo hi => ∃ t u v, h.get? a = some { cls := .type "range", data := .fields #[.int lo t, .int hi u, .int 1 v] }
  | .frz o u => h.get? a = some o ∧ ObjOk H h a u
  | .tbl ps => h.get? a = some { cls := .none, data := .fields ps }
  | .met f x => h.get? a = some (PySem.W.methodObj (.ref f) (.ref x))
  | .ext φ => φ h ∧ (∃ o, h.get? a = some o) ∧ ∀ h1 h2 : Heap, φ h1 → (∀ o, h1.get? a = some o → h2.get? a = some o) → φ h2
/-- the abstract heap is held -/
def HOk (H : Hp) (h : Heap) : Prop := ∀ a o, H a = some o → ObjOk P w H h a o
end

section
variable {P : Program} {w : World} {H H' : Hp} {h h' : Heap} {a : Addr} {o : HO}
theorem ObjOk.lt (x : ObjOk P w H h a o) : a < h.objs.size := by
  cases o with
  | lst xs => obtain ⟨_, _, _, _, e⟩ := x; exact Heap.lt_size e
  | tup xs => obtain ⟨_, _, _, p⟩ := x; exact p.lt
  | dK kvs => obtain ⟨_, _, _, _, o, _, _, e, _⟩ := x; exact Heap.lt_size e
  | dT kvs => obtain ⟨_, _, _, _, o, _, _, e, _⟩ := x; exact Heap.lt_size e
  | set S n => obtain ⟨o, _, _, _, e, _⟩ := x; exact Heap.lt_size e
  | ins C dx fs => obtain ⟨_, _, _, e, _⟩ := x; exact Heap.lt_size e
  | own y => obtain ⟨_, e⟩ := x; exact Heap.lt_size e
  | xd fs => obtain ⟨_, ⟨_, _, _, e, _⟩, _⟩ := x; exact Heap.lt_size e
  | rng lo hi => obtain ⟨_, _, _, e⟩ := x; exact Heap.lt_size e
  | frz ob u => obtain ⟨e, _⟩ := x; exact Heap.lt_size e
  | tbl ps => exact Heap.lt_size (show h.get? a = some _ from x)
  | met f y => exact Heap.lt_size (show h.get? a = some _ from x)
  | ext φ => obtain ⟨_, ⟨_, e⟩, _⟩ := x; exact Heap.lt_size e
theorem Paired.mapP {α β : Type} {F G : α → β → Prop} : ∀ {l₁ : List α} {l₂ : List β}, Paired F l₁ l₂ → (∀ a b, F a b → G a b) → Paired G l₁ l₂
  | _, _, .nil, _ => .nil
  | _, _, .cons r t, f => .cons (f _ _ r) (Paired.mapP t f)
/-- what an object's description leans on: its own object, its own dict, the tuples -/
theorem ObjOk.stay (x : ObjOk P w H h a o) (k : ∀ b u, (b = a ∨ H b = some (.own a)) → h.get? b = some u → h'.get? b = some u)
    (ho : ∀ b, H b = some (.own a) → H' b = some (.own a)) (ht : ∀ b xs, H b = some (.tup xs) → H' b = some (.tup xs)) : ObjOk P w H' h' a o := by
  induction o with
  | lst xs => obtain ⟨z, its, n, r, e⟩ := x; exact ⟨z, its, n, r, k _ _ (.inl rfl) e⟩
  | tup xs => obtain ⟨z, its, r, ob, e, c⟩ := x; exact ⟨z, its, r, ob, k _ _ (.inl rfl) e, c⟩
  | dK kvs => obtain ⟨z, y, vs, r, ob, es, ep, e, c⟩ := x; exact ⟨z, y, vs, r, ob, es, ep, k _ _ (.inl rfl) e, c⟩
  | dT kvs =>
    obtain ⟨z, y, xs, r, ob, es, ep, e, c⟩ := x
    exact ⟨z, y, xs, Paired.mapP r fun p q z => ⟨z.1, ht _ _ z.2.1, z.2.2⟩, ob, es, ep, k _ _ (.inl rfl) e, c⟩
  | set S n => obtain ⟨ob, es, ep, t, e, c⟩ := x; exact ⟨ob, es, ep, t, k _ _ (.inl rfl) e, c⟩
  | ins C dx fs =>
    obtain ⟨d, z, ne, e, mA, ⟨od, es, ep, e2, c⟩, r⟩ := x
    exact ⟨ho _ d, z, ne, k _ _ (.inl rfl) e, mA, ⟨od, es, ep, k _ _ (.inr d) e2, c⟩, r⟩
  | own y => obtain ⟨ob, e⟩ := x; exact ⟨ob, k _ _ (.inl rfl) e⟩
  | xd fs => obtain ⟨mA, ⟨od, es, ep, e, c⟩, r⟩ := x; exact ⟨mA, ⟨od, es, ep, k _ _ (.inl rfl) e, c⟩, r⟩
  | rng lo hi => obtain ⟨t, u, v, e⟩ := x; exact ⟨t, u, v, k _ _ (.inl rfl) e⟩
  | frz ob u ih => obtain ⟨e, q⟩ := x; exact ⟨k _ _ (.inl rfl) e, ih q⟩
  | tbl ps =>
    have e : h.get? a = some { cls := .none, data := .fields ps } := x
    show h'.get? a = some { cls := .none, data := .fields ps }
    exact k a _ (.inl rfl) e
  | met f y =>
    have e : h.get? a = some (PySem.W.methodObj (.ref f) (.ref y)) := x
    show h'.get? a = some (PySem.W.methodObj (.ref f) (.ref y))
    exact k a _ (.inl rfl) e
  | ext φ => obtain ⟨p, ⟨o, e⟩, st⟩ := x; exact ⟨st _ _ p fun o q => k _ _ (.inl rfl) q, ⟨o, k _ _ (.inl rfl) e⟩, st⟩
theorem HOk.lt (x : HOk P w H h) (e : H a = some o) : a < h.objs.size := (x a o e).lt
theorem HOk.fresh (x : HOk P w H h) (e : h.objs.size ≤ a) : H a = none := by
  cases q : H a with
  | none => rfl
  | some u => exact absurd (Nat.lt_of_lt_of_le (x.lt q) e) (Nat.lt_irrefl _)
/-- every object of the heap is kept -/
theorem HOk.kept (x : HOk P w H h) (k : ∀ b u, h.get? b = some u → h'.get? b = some u) : HOk P w H h' := fun a o e =>
  (x a o e).stay (fun b u _ q => k b u q) (fun _ q => q) fun _ _ q => q
/-- a new object is laid and tracked -/
theorem HOk.laid (x : HOk P w H h) (k : ∀ b u, h.get? b = some u → h'.get? b = some u) (hp : h.objs.size ≤ a) (new : ObjOk P w (upd H a o) h' a o) : HOk P w (upd H a o) h' := fun b u e => by
  have hn := x.fresh hp
  by_cases hb : b = a
  · subst hb; rw [upd_same] at e; cases e; exact new
  · rw [upd_ne hb] at e
    exact (x b u e).stay (fun c v _ q => k c v q) (fun c q => by rw [upd_ne (ne_of_none q hn)]; exact q) fun c xs q => by rw [upd_ne (ne_of_none q hn)]; exact q
end

/-- what may be read as u: it is u, or a known u -/
def Rd (H : Hp) (a : Addr) (u : HO) : Prop := H a = some u ∨ ∃ o, H a = some (.frz o u)
theorem Rd.ok {P : Program} {w : World} {H : Hp} {h : Heap} {a : Addr} {u : HO} (r : Rd H a u) (x : HOk P w H h) : ObjOk P w H h a u := by
  rcases r with r | ⟨o, r⟩
  · exact x a u r
  · obtain ⟨_, q⟩ := x a _ r
    exact q
/-- what may be written -/
def Mut : Option HO → Prop
  | some (.lst _) => True
  | some (.dK _) => True
  | some (.dT _) => True
  | some (.set _ _) => True
  | some (.ins _ _ _) => True
  | some (.ext _) => True
  | _ => False
section
variable {P : Program} {w : World} {H : Hp} {h h' : Heap} {x e : Addr} {o' : HO}
/-- the object at e is changed: x itself, or the dict of the instance x -/
theorem HOk.write (ok : HOk P w H h) (mu : Mut (H x)) (he : e = x ∨ H e = some (.own x)) (k : ∀ b u, b ≠ e → h.get? b = some u → h'.get? b = some u) (heo : ∃ u, h'.get? e = some u)
    (new : ObjOk P w (upd H x o') h' x o') : HOk P w (upd H x o') h' := fun b u q => by
  have nown : ∀ c y, H c = some (.own y) → c ≠ x := fun c y r z => by subst z; rw [r] at mu; exact mu
  have ntup : ∀ c xs, H c = some (.tup xs) → c ≠ x := fun c xs r z => by subst z; rw [r] at mu; exact mu
  by_cases hb : b = x
  · subst hb; rw [upd_same] at q; cases q; exact new
  · rw [upd_ne hb] at q
    by_cases hbe : b = e
    · have q' : H b = some (.own x) := by
        rcases he with z | z
        · exact absurd (hbe.trans z) hb
        · rw [hbe]; exact z
      rw [q] at q'; cases q'
      obtain ⟨v, hv⟩ := heo
      exact ⟨v, by rw [hbe]; exact hv⟩
    · refine (ok b u q).stay (fun c v hc r => k c v ?_ r) (fun c r => by rw [upd_ne (nown c b r)]; exact r) fun c xs r => by rw [upd_ne (ntup c xs r)]; exact r
      rcases hc with rfl | hc
      · exact hbe
      · rintro rfl
        rcases he with z | z
        · exact nown c b hc z
        · rw [hc] at z; cases z; exact hb rfl
end

/-! ### kept unless tracked; of the frames at fs (the callers') the slots may change (an exception that passes writes there); of the records at ex (iterators) nothing is said -/
structure Un (fs ex : List Addr) (H H' : Hp) (h h' : Heap) : Prop where
  keep : ∀ b o, h.get? b = some o → H b = none → b ∉ fs → b ∉ ex → h'.get? b = some o
  slot : ∀ b o, h.get? b = some o → H b = none → b ∈ fs → b ∉ ex → ∃ sl, h'.get? b = some { o with slots := sl }
  free : ∀ b o, h.get? b = some o → H b = none → b ∉ ex → H' b = none
  there : ∀ b o, h.get? b = some o → b ∉ ex → ∃ o', h'.get? b = some o'
  tups : ∀ b xs, H b = some (.tup xs) → H' b = some (.tup xs)
  frzs : ∀ b o u, H b = some (.frz o u) → H' b = some (.frz o u)
  tbls : ∀ b ps, H b = some (.tbl ps) → ∃ more, H' b = some (.tbl (ps ++ more))
section
variable {fs fs' ex ex' : List Addr} {H H1 H2 : Hp} {h h1 h2 h' : Heap} {a x e : Addr} {o : HO}
theorem Un.any (u : Un fs ex H H1 h h1) {b : Addr} {ob : Obj} (q : h.get? b = some ob) (n : H b = none) (hx : b ∉ ex) : ∃ sl, h1.get? b = some { ob with slots := sl } := by
  by_cases hb : b ∈ fs
  · exact u.slot b ob q n hb hx
  · exact ⟨ob.slots, u.keep b ob q n hb hx⟩
theorem Un.kept (k : ∀ b u, h.get? b = some u → h'.get? b = some u) : Un fs ex H H h h' :=
  ⟨fun b ob q _ _ _ => k b ob q, fun b ob q _ _ _ => ⟨ob.slots, k b ob q⟩, fun _ _ _ n _ => n, fun b ob q _ => ⟨ob, k b ob q⟩, fun _ _ q => q, fun _ _ _ q => q, fun _ ps q => ⟨#[], by rw [q]; simp⟩⟩
theorem Un.refl : Un fs ex H H h h := Un.kept fun _ _ q => q
theorem Un.laid (k : ∀ b u, h.get? b = some u → h'.get? b = some u) (hp : h.objs.size ≤ a) (hn : H a = none) : Un fs ex H (upd H a o) h h' where
  keep := fun b u q _ _ _ => k b u q
  slot := fun b u q _ _ _ => ⟨u.slots, k b u q⟩
  free := fun b u q n _ => by rw [upd_ne (Nat.ne_of_lt (Nat.lt_of_lt_of_le (Heap.lt_size q) hp))]; exact n
  there := fun b u q _ => ⟨u, k b u q⟩
  tups := fun b xs q => by rw [upd_ne (ne_of_none q hn)]; exact q
  frzs := fun b u xs q => by rw [upd_ne (ne_of_none q hn)]; exact q
  tbls := fun b ps q => ⟨#[], by rw [upd_ne (ne_of_none q hn), q]; simp⟩
theorem Un.write (mu : Mut (H x)) (he : e = x ∨ H e = some (.own x)) (k : ∀ b u, b ≠ e → h.get? b = some u → h'.get? b = some u) (heo : ∃ u, h'.get? e = some u) : Un fs ex H (upd H x o) h h' := by
  have hx : ∀ b, H b = none → b ≠ x := fun b n z => by subst z; rw [n] at mu; exact mu
  have hb : ∀ b, H b = none → b ≠ e := fun b n z => by
    subst z
    rcases he with r | r
    · exact hx b n r
    · rw [n] at r; cases r
  have hm : ∀ b u, H b = some u → ¬ Mut (some u) → b ≠ x := fun b u q nm z => by subst z; rw [q] at mu; exact nm mu
  refine ⟨fun b u q n _ _ => k b u (hb b n) q, fun b u q n _ _ => ⟨u.slots, k b u (hb b n) q⟩, fun b u q n _ => by rw [upd_ne (hx b n)]; exact n, fun b u q _ => ?_,
    fun b xs q => by rw [upd_ne (hm b _ q fun z => z)]; exact q, fun b u xs q => by rw [upd_ne (hm b _ q fun z => z)]; exact q, fun b ps q => ⟨#[], by rw [upd_ne (hm b _ q fun z => z), q]; simp⟩⟩
  by_cases hbe : b = e
  · subst hbe; exact heo
  · exact ⟨u, k b u hbe q⟩
end

/-! ### the heap without what is tracked -/
def trk (h : Heap) (H : Hp) : List Addr := (List.range h.objs.size).filter fun a => (H a).isSome
def hidT (h : Heap) (H : Hp) : Heap := PySem.W.hideAll h (trk h H)
theorem hidT_size (h : Heap) (H : Hp) : (hidT h H).objs.size = h.objs.size := PySem.W.hideAll_size _ _
theorem hidT_get {h : Heap} {H : Hp} {b : Addr} {o : Obj} (e : h.get? b = some o) (n : H b = none) : (hidT h H).get? b = some o :=
  PySem.W.hideAll_get _ e fun hm => by
    have q : (H b).isSome = true := (List.mem_filter.mp hm).2
    rw [n] at q; simp at q
theorem of_hidT {h : Heap} {H : Hp} {b : Addr} {o : Obj} (e : (hidT h H).get? b = some o) : h.get? b = some o ∧ H b = none := by
  have e' : h.get? b = some o := PySem.W.of_hideAll (trk h H) e
  refine ⟨e', ?_⟩
  cases q : H b with
  | none => rfl
  | some x =>
    have hm : b ∈ trk h H := List.mem_filter.mpr ⟨List.mem_range.mpr (Heap.lt_size e'), by simp [q]⟩
    have z : (hidT h H).get? b = none := PySem.W.hideAll_none (trk h H) hm
    rw [z] at e; cases e

/-! ### OpenK's ledger, filled with every new object but one -/
def allNews (g h : Heap) (L : Addr) : List (Addr × Obj) := (List.range h.objs.size).filterMap fun a => if a = L ∨ (g.get? a).isSome = true then none else (h.get? a).map fun o => (a, o)
def rest (g h : Heap) (L d : Addr) : List (Addr × Obj) := (allNews g h L).filter fun p => decide (p.1 ≠ d)
end L2

namespace L2
open PySem PySem.Spec PyProof.Rows

/-- the module's facts, over the base: the heap at the law's entry without what is tracked there -/
structure Mod (K : PySem.W.Frag) (mg : Str → Option Value) (base : Heap) : Prop where
  kin : K.In base
  glob : base.Ns mainGlobals mg
  blt : ∃ mb, base.Ns builtinsNs mb ∧ ∀ x : Str, x ≠ "__name__" → mb x = bootBuiltins x
  nolimit : base.NoLimit

/-- the context: a def's body (or a comprehension's block) running. base: fixed through the whole law; s₀, H₀: the entry; outer: the frames whose slots others may change (a def's callers); stack: all frames that run;
   ex: iterators that were made ahead of the entry and are walked here (a comprehension's); fn: the names whose cells were made at the entry (a def: all; a comprehension's block: its own); calm: not within an except suite; pn: pins that every state bears; xe: what is wanted of an exception that leaves the code -/
structure Cx where
  prog : Program
  w : World
  K : PySem.W.Frag
  mg : Str → Option Value
  base : Heap
  A : Around
  N : List Str
  s₀ : Shared
  H₀ : Hp
  env : Env
  outer : List Env
  stack : List Env
  ex : List Addr
  fn : Str → Bool
  calm : Bool
  pn : List (Addr × Obj)
  xe : Value → Shared → Prop
/-- the callers' frames -/
def frs (l : List Env) : List Addr := l.filterMap (·.frame)
abbrev Cx.fs (X : Cx) : List Addr := frs X.outer

def Vis (sc : Scope) (x : Str) : Prop := sc.names.lookup x = some .local ∨ sc.names.lookup x = some .cell ∨ sc.names.lookup x = some .free
def Loc (sc : Scope) (x : Str) : Prop := sc.names.lookup x = some .local ∨ sc.names.lookup x = some .cell
def Look (env : Env) (h : Heap) (m : Str → Option Value) (x : Str) (u : Value) : Prop :=
  (env.kindOf x = some .local ∧ m x = some u) ∨ ((env.kindOf x = some .cell ∨ env.kindOf x = some .free) ∧ ∃ c, env.cells.lookup x = some c ∧ h.IsCell c (some u))

structure Cx.Ok (X : Cx) : Prop where
  mod : Mod X.K X.mg X.base
  kind : X.env.scope.kind = .function
  glob : X.env.globals = mainGlobals
  blt : X.env.builtins = builtinsNs
  above : X.s₀.heap.objs.size ≤ X.env.locals
  inj : ∀ x y c, X.env.cells.lookup x = some c → X.env.cells.lookup y = some c → x = y
  has : ∀ x, (X.env.kindOf x = some .cell ∨ X.env.kindOf x = some .free) → ∃ c, X.env.cells.lookup x = some c
  cab : ∀ x c, X.fn x = true → X.env.cells.lookup x = some c → X.s₀.heap.objs.size ≤ c
  hd : X.calm = true → X.A.handled = none
  frames : X.A.frames = some X.stack
  stk : X.stack = X.outer ∨ (X.stack = X.env :: X.outer ∧ X.env.frame = some X.env.locals)
  exf : ∀ b ∈ X.ex, b ≠ X.env.locals ∧ ∀ x c, X.env.cells.lookup x = some c → c ≠ b
  bs : ∀ b o, X.base.get? b = some o → X.s₀.heap.get? b = some o ∧ X.H₀ b = none
  bsz : X.base.objs.size ≤ X.s₀.heap.objs.size
  noex : ∀ b o, X.base.get? b = some o → b ∉ X.ex
  exfs : ∀ b ∈ X.ex, b ∉ X.fs
  funs : X.s₀.heap.FunFrames X.base X.outer
  frf : ∀ b ∈ X.fs, X.H₀ b = none

structure Inv (X : Cx) (pins : List (Addr × Obj)) (σ : List (Option V)) (H : Hp) (s : Shared) : Prop where
  ok : X.Ok
  os : s.os = X.s₀.os
  bare : AllBare s.gens
  base : Un X.fs X.ex X.H₀ H X.s₀.heap s.heap
  loc : ∃ m, s.heap.Ns X.env.locals m ∧ ∀ (i : Nat) (x : Str) (v : V), X.N[i]? = some x → σ[i]? = some (some v) → Vis X.env.scope x → ∃ u, RelV v u ∧ Look X.env s.heap m x u
  cell : ∀ x c, X.env.cells.lookup x = some c → ∃ v, s.heap.IsCell c v
  free : H X.env.locals = none
  freeC : ∀ x c, X.env.cells.lookup x = some c → H c = none
  pin : ∀ p ∈ X.pn ++ pins, s.heap.get? p.1 = some p.2 ∧ H p.1 = none ∧ p.1 ≠ X.env.locals ∧ p.1 ∉ X.fs ∧ ∀ v, p.2.data ≠ .cell v
  hok : HOk X.prog X.w H s.heap
  len : σ.length = X.N.length

section
variable {X : Cx} {pins : List (Addr × Obj)} {σ : List (Option V)} {H H' : Hp} {s : Shared} {h' : Heap}

theorem Cx.Ok.nofr (ok : X.Ok) {b : Addr} {o : Obj} (e : X.base.get? b = some o) : b ∉ X.fs := fun hb => by
  have := (ok.funs.mem hb).1
  rw [e] at this; cases this
theorem Inv.bs (I : Inv X pins σ H s) : ∀ b o, X.base.get? b = some o → s.heap.get? b = some o ∧ H b = none := fun b o e =>
  ⟨I.base.keep b o (I.ok.bs b o e).1 (I.ok.bs b o e).2 (I.ok.nofr e) (I.ok.noex b o e), I.base.free b o (I.ok.bs b o e).1 (I.ok.bs b o e).2 (I.ok.noex b o e)⟩
theorem Inv.bk (I : Inv X pins σ H s) : ∀ b o, X.base.get? b = some o → s.heap.get? b = some o := fun b o e => (I.bs b o e).1
theorem Inv.mod (I : Inv X pins σ H s) : Mod X.K X.mg X.base := I.ok.mod
theorem Inv.kIn (I : Inv X pins σ H s) : X.K.In s.heap := I.ok.mod.kin.keeps I.bk
theorem Inv.lt (I : Inv X pins σ H s) : X.env.locals < s.heap.objs.size := let ⟨_, hn, _⟩ := I.loc; hn.lt
theorem Inv.sz (I : Inv X pins σ H s) : X.s₀.heap.objs.size ≤ s.heap.objs.size := Nat.le_trans I.ok.above (Nat.le_of_lt I.lt)
theorem Inv.nofs (I : Inv X pins σ H s) {a : Addr} (h : s.heap.objs.size ≤ a) : a ∉ X.fs := fun hb => by
  obtain ⟨_, o, ho, _⟩ := I.ok.funs.mem hb
  exact absurd (Nat.lt_of_lt_of_le (Heap.lt_size ho) (Nat.le_trans I.sz h)) (Nat.lt_irrefl _)
theorem Inv.cne (I : Inv X pins σ H s) : ∀ x c, X.env.cells.lookup x = some c → c ≠ X.env.locals := fun x c e z => by
  obtain ⟨v, o, ho, hd⟩ := I.cell x c e
  obtain ⟨m, ⟨o', es, ep, ho', hd', _⟩, _⟩ := I.loc
  rw [z, ho'] at ho; cases ho; rw [hd'] at hd; cases hd
theorem Inv.funs (I : Inv X pins σ H s) : s.heap.FunFrames X.base X.outer := by
  have all : ∀ (l : List Env), (∀ b ∈ frs l, b ∈ X.fs) → X.s₀.heap.FunFrames X.base l → s.heap.FunFrames X.base l := by
    intro l
    induction l with
    | nil => intro _ _; trivial
    | cons env r ih =>
      intro hs hl
      obtain ⟨hk, ⟨L, o, hf, hn, ho, hd⟩, hr⟩ := hl
      have hL : L ∈ X.fs := hs L (by unfold frs; rw [List.filterMap_cons, hf]; exact List.mem_cons_self)
      obtain ⟨sl, e⟩ := I.base.slot L o ho (I.ok.frf L hL) hL fun z => I.ok.exfs L z hL
      exact ⟨hk, ⟨L, _, hf, hn, e, hd⟩, ih (fun b hb => hs b (by unfold frs; rw [List.filterMap_cons, hf]; exact List.mem_cons_of_mem _ hb)) hr⟩
  exact all X.outer (fun _ hb => hb) I.ok.funs

/-- the frames that run, for a call -/
theorem Inv.stack (I : Inv X pins σ H s) : s.heap.FunFrames X.base X.stack := by
  rcases I.ok.stk with e | ⟨e, hf⟩
  · rw [e]; exact I.funs
  · rw [e]
    obtain ⟨m, hn, _⟩ := I.loc
    refine .cons (by rw [I.ok.kind]; decide) hf hn ?_ I.funs
    exact Heap.get?_none_of_le (Nat.le_trans I.ok.bsz I.ok.above)
theorem Inv.stkSub (I : Inv X pins σ H s) : ∀ b ∈ frs X.stack, b ∈ X.env.locals :: X.fs := fun b hb => by
  rcases I.ok.stk with e | ⟨e, hf⟩
  · rw [e] at hb; exact List.mem_cons_of_mem _ hb
  · rw [e] at hb
    unfold frs at hb
    rw [List.filterMap_cons, hf] at hb
    exact hb
theorem Inv.stkFree (I : Inv X pins σ H s) : ∀ b ∈ frs X.stack, H b = none := fun b hb => by
  rcases List.mem_cons.mp (I.stkSub b hb) with e | hb
  · rw [e]; exact I.free
  · obtain ⟨_, o, ho, _⟩ := I.ok.funs.mem hb
    exact I.base.free b o ho (I.ok.frf b hb) fun z => I.ok.exfs b z hb

/-- THE STEP: the untracked objects but the frame and the records at ch are kept (the callers' frames up to slots), the frame's map is kept, the new abstract heap is held -/
theorem Inv.step {g' : Array GenState} {t' : Nat} {d' : Drawn} {ch : List Addr} (I : Inv X pins σ H s)
    (hch : ∀ b ∈ ch, (b ∈ X.ex ∨ X.s₀.heap.objs.size ≤ b) ∧ b ≠ X.env.locals ∧ (∀ x c, X.env.cells.lookup x = some c → c ≠ b) ∧ ∀ p ∈ X.pn ++ pins, p.1 ≠ b)
    (keep : ∀ b o, b ≠ X.env.locals → b ∉ X.fs → b ∉ ch → s.heap.get? b = some o → H b = none → h'.get? b = some o)
    (slot : ∀ b o, b ≠ X.env.locals → b ∈ X.fs → b ∉ ch → s.heap.get? b = some o → H b = none → ∃ sl, h'.get? b = some { o with slots := sl }) (free : ∀ b o, b ∉ ch → s.heap.get? b = some o → H b = none → H' b = none)
    (there : ∀ b o, b ∉ ch → s.heap.get? b = some o → ∃ o', h'.get? b = some o')
    (tups : ∀ b xs, H b = some (.tup xs) → H' b = some (.tup xs)) (frzs : ∀ b o u, H b = some (.frz o u) → H' b = some (.frz o u)) (tbls : ∀ b ps, H b = some (.tbl ps) → ∃ more, H' b = some (.tbl (ps ++ more)))
    (ns : ∀ m, s.heap.Ns X.env.locals m → h'.Ns X.env.locals m) (hok : HOk X.prog X.w H' h') (hg : AllBare g') :
    Inv X pins σ H' { s with heap := h', gens := g', drawn := d', toks := t' } := by
  have neL : ∀ b o, X.s₀.heap.get? b = some o → b ≠ X.env.locals := fun b o e => Nat.ne_of_lt (Nat.lt_of_lt_of_le (Heap.lt_size e) I.ok.above)
  have neC : ∀ b o, X.s₀.heap.get? b = some o → b ∉ X.ex → b ∉ ch := fun b o e hx hb => by
    rcases (hch b hb).1 with z | z
    · exact hx z
    · exact absurd (Nat.lt_of_lt_of_le (Heap.lt_size e) z) (Nat.lt_irrefl _)
  have cellK : ∀ x c, X.env.cells.lookup x = some c → ∀ v, s.heap.IsCell c v → h'.IsCell c v := fun x c e v ⟨o, ho, hd⟩ => by
    have nch : c ∉ ch := fun z => (hch c z).2.2.1 x c e rfl
    by_cases hc : c ∈ X.fs
    · obtain ⟨sl, q⟩ := slot c o (I.cne x c e) hc nch ho (I.freeC x c e)
      exact ⟨_, q, hd⟩
    · exact ⟨o, keep c o (I.cne x c e) hc nch ho (I.freeC x c e), hd⟩
  refine ⟨I.ok, I.os, hg, ⟨fun b o e n hb hx => ?_, fun b o e n hb hx => ?_, fun b o e n hx => ?_, fun b o e hx => ?_, fun b xs e => tups b xs (I.base.tups b xs e), fun b o xs e => frzs b o xs (I.base.frzs b o xs e), fun b ps e => ?_⟩, ?_, fun x c e => ?_, ?_, fun x c e => ?_, fun p hp => ?_, hok, I.len⟩
  · exact keep b o (neL b o e) hb (neC b o e hx) (I.base.keep b o e n hb hx) (I.base.free b o e n hx)
  · obtain ⟨sl, e1⟩ := I.base.slot b o e n hb hx
    obtain ⟨sl', e2⟩ := slot b _ (neL b o e) hb (neC b o e hx) e1 (I.base.free b o e n hx)
    exact ⟨sl', e2⟩
  · obtain ⟨o', e1⟩ := I.base.there b o e hx
    exact free b o' (neC b o e hx) e1 (I.base.free b o e n hx)
  · obtain ⟨o', e1⟩ := I.base.there b o e hx
    exact there b o' (neC b o e hx) e1
  · obtain ⟨m1, e1⟩ := I.base.tbls b ps e
    obtain ⟨m2, e2⟩ := tbls b _ e1
    exact ⟨m1 ++ m2, by rw [e2, Array.append_assoc]⟩
  · obtain ⟨m, hn, hl⟩ := I.loc
    refine ⟨m, ns m hn, fun i x v e1 e2 e3 => ?_⟩
    obtain ⟨u, r, l⟩ := hl i x v e1 e2 e3
    refine ⟨u, r, ?_⟩
    rcases l with l | ⟨k, c, e, z⟩
    · exact .inl l
    · exact .inr ⟨k, c, e, cellK x c e _ z⟩
  · obtain ⟨v, z⟩ := I.cell x c e
    exact ⟨v, cellK x c e v z⟩
  · obtain ⟨m, ⟨o, _, _, ho, _⟩, _⟩ := I.loc
    exact free _ o (fun z => (hch _ z).2.1 rfl) ho I.free
  · obtain ⟨v, o, ho, hd⟩ := I.cell x c e
    exact free c o (fun z => (hch c z).2.2.1 x c e rfl) ho (I.freeC x c e)
  · obtain ⟨e, n, ne, nf, d⟩ := I.pin p hp
    have nch : p.1 ∉ ch := fun z => (hch p.1 z).2.2.2 p hp rfl
    exact ⟨keep p.1 p.2 ne nf nch e n, free p.1 p.2 nch e n, ne, nf, d⟩
/-- .. where the frame's own object is kept too -/
theorem Inv.un {t' : Nat} (I : Inv X pins σ H s) (u : Un X.fs [] H H' s.heap h') (hok : HOk X.prog X.w H' h') : Inv X pins σ H' { s with heap := h', toks := t' } := by
  obtain ⟨m, ⟨o, es, ep, ho, r⟩, _⟩ := id I.loc
  obtain ⟨sl, hL⟩ := u.any ho I.free (by simp)
  exact I.step (g' := s.gens) (d' := s.drawn) (ch := []) (fun _ z => nomatch z) (fun b o _ hb _ e n => u.keep b o e n hb (by simp)) (fun b o _ hb _ e n => u.slot b o e n hb (by simp)) (fun b o _ e n => u.free b o e n (by simp)) (fun b o _ e => u.there b o e (by simp)) u.tups u.frzs u.tbls (fun m' hm => by
    obtain ⟨o', es', ep', ho', r'⟩ := hm
    rw [ho] at ho'; cases ho'
    exact ⟨_, es', ep', hL, r'⟩) hok I.bare
/-- behind a call (or a comprehension's block): the slots of this frame may have changed too, the records at ch may have turned -/
theorem Inv.call {g' : Array GenState} {t' : Nat} {d' : Drawn} {ch : List Addr} (I : Inv X pins σ H s) (u : Un (frs X.stack) ch H H' s.heap h') (hok : HOk X.prog X.w H' h') (hg : AllBare g')
    (hch : ∀ b ∈ ch, (b ∈ X.ex ∨ X.s₀.heap.objs.size ≤ b) ∧ b ≠ X.env.locals ∧ (∀ x c, X.env.cells.lookup x = some c → c ≠ b) ∧ ∀ p ∈ X.pn ++ pins, p.1 ≠ b) :
    Inv X pins σ H' { s with heap := h', gens := g', drawn := d', toks := t' } := by
  obtain ⟨m, ⟨o, es, ep, ho, r⟩, _⟩ := id I.loc
  obtain ⟨sl, hL⟩ := u.any ho I.free fun z => (hch _ z).2.1 rfl
  exact I.step (ch := ch) hch (fun b o hL hb hc e n => u.keep b o e n (fun z => (List.mem_cons.mp (I.stkSub b z)).elim hL hb) hc) (fun b o _ _ hc e n => u.any e n hc) (fun b o hc e n => u.free b o e n hc) (fun b o hc e => u.there b o e hc) u.tups u.frzs u.tbls (fun m' hm => by
    obtain ⟨o', es', ep', ho', r'⟩ := hm
    rw [ho] at ho'; cases ho'
    exact ⟨_, es', ep', hL, r'⟩) hok hg
/-- an untracked record of ours (an iterator) has turned -/
theorem Inv.turned {t' : Nat} {it : Addr} (I : Inv X pins σ H s) (k : ∀ b o, b ≠ it → s.heap.get? b = some o → h'.get? b = some o) (hn : H it = none) (hL : it ≠ X.env.locals)
    (h1 : it ∈ X.ex ∨ X.s₀.heap.objs.size ≤ it) (h2 : ∀ x c, X.env.cells.lookup x = some c → c ≠ it) (h3 : ∀ p ∈ X.pn ++ pins, p.1 ≠ it) : Inv X pins σ H { s with heap := h', toks := t' } := by
  have nit : ∀ b u, H b = some u → b ≠ it := fun b u e z => by rw [z, hn] at e; cases e
  refine I.step (g' := s.gens) (d' := s.drawn) (ch := [it]) (fun b hb => ?_) (fun b o _ _ hc e _ => k b o (fun z => hc (by simp [z])) e) (fun b o _ _ hc e _ => ⟨o.slots, k b o (fun z => hc (by simp [z])) e⟩) (fun _ _ _ _ n => n)
    (fun b o hc e => ⟨o, k b o (fun z => hc (by simp [z])) e⟩) (fun _ _ e => e) (fun _ _ _ e => e) (fun b ps e => ⟨#[], by rw [e]; simp⟩) (fun m hm => ?_) (fun b u e => ?_) I.bare
  · have e : b = it := by simpa using hb
    subst e
    exact ⟨h1, hL, h2, h3⟩
  · obtain ⟨o, es, ep, ho, r⟩ := hm
    exact ⟨o, es, ep, k _ o (Ne.symm hL) ho, r⟩
  · refine (I.hok b u e).stay (fun c v hc q => k c v ?_ q) (fun _ q => q) fun _ _ q => q
    rcases hc with z | z
    · rw [z]; exact nit b u e
    · exact nit c _ z
theorem Inv.tok (I : Inv X pins σ H s) (t : Nat) : Inv X pins σ H { s with toks := t } := I.un (h' := s.heap) (t' := t) Un.refl I.hok
/-- all objects kept -/
theorem Inv.kept {t' : Nat} (I : Inv X pins σ H s) (k : ∀ b u, s.heap.get? b = some u → h'.get? b = some u) : Inv X pins σ H { s with heap := h', toks := t' } := I.un (Un.kept k) (I.hok.kept k)
/-- a new object laid and tracked -/
theorem Inv.laid {a : Addr} {o : HO} {t' : Nat} (I : Inv X pins σ H s) (k : ∀ b u, s.heap.get? b = some u → h'.get? b = some u) (hp : s.heap.objs.size ≤ a) (new : ObjOk X.prog X.w (upd H a o) h' a o) :
    Inv X pins σ (upd H a o) { s with heap := h', toks := t' } := I.un (Un.laid k hp (I.hok.fresh hp)) (I.hok.laid k hp new)
/-- an object written -/
theorem Inv.write {x e : Addr} {o : HO} {t' : Nat} (I : Inv X pins σ H s) (mu : Mut (H x)) (he : e = x ∨ H e = some (.own x)) (k : ∀ b u, b ≠ e → s.heap.get? b = some u → h'.get? b = some u) (heo : ∃ u, h'.get? e = some u)
    (new : ObjOk X.prog X.w (upd H x o) h' x o) : Inv X pins σ (upd H x o) { s with heap := h', toks := t' } := I.un (Un.write mu he k heo) (I.hok.write mu he k heo new)
theorem Inv.pins_of {pins' : List (Addr × Obj)} (I : Inv X pins σ H s) (h : ∀ p ∈ pins', s.heap.get? p.1 = some p.2 ∧ H p.1 = none ∧ p.1 ≠ X.env.locals ∧ p.1 ∉ X.fs ∧ ∀ v, p.2.data ≠ .cell v) : Inv X pins' σ H s :=
  ⟨I.ok, I.os, I.bare, I.base, I.loc, I.cell, I.free, I.freeC, fun p hp => (List.mem_append.mp hp).elim (fun z => I.pin p (List.mem_append_left _ z)) (h p), I.hok, I.len⟩

theorem nodup_ix {N : List Str} (hN : N.Nodup) {i j : Nat} {x : Str} (a : N[i]? = some x) (b : N[j]? = some x) : i = j := by
  obtain ⟨h1, e1⟩ := List.getElem?_eq_some_iff.mp a
  obtain ⟨h2, e2⟩ := List.getElem?_eq_some_iff.mp b
  exact (List.getElem_inj hN).mp (e1.trans e2.symm)

/-- a name is stored; what changed -/
theorem store_ok2 {M : Model} {A : Around} {E : Value → Shared → Prop} {i : Nat} {x : Str} {v : V} {u : Value} {Q : Unit → Shared → Prop} (I : Inv X pins σ H s) (hN : X.N.Nodup) (hi : X.N[i]? = some x) (hx : Loc X.env.scope x) (r : RelV v u)
    (h : ∀ s', Inv X pins (σ.set i (some v)) H s' → (∃ a, Heap.SameBut a s.heap s'.heap ∧ (a = X.env.locals ∨ X.env.cells.lookup x = some a)) → Q () s') (hf : X.fn x = true ∨ X.env.scope.names.lookup x = some .local := by first | exact .inl rfl | exact .inr rfl | assumption) : wpAny M A (storeName X.env x u) Q E s := by
  obtain ⟨m, hn, hl⟩ := id I.loc
  have hcls : (X.env.scope.kind == .class || (X.env.scope.kind == .module && X.env.locals != X.env.globals)) = false := by rw [I.ok.kind]; rfl
  have hiσ : i < σ.length := by rw [I.len]; exact (List.getElem?_eq_some_iff.mp hi).1
  have cne := I.cne
  have tracked : ∀ {a : Addr} {h' : Heap}, (∃ o, s.heap.get? a = some o ∧ H a = none) → Heap.SameBut a s.heap h' → HOk X.prog X.w H h' := fun {a h'} ha hs b ob e => by
    obtain ⟨_, _, hfree⟩ := ha
    refine (I.hok b ob e).stay (fun c w' hc q => (hs.2 c ?_).trans q) (fun _ q => q) fun _ _ q => q
    rintro rfl
    rcases hc with rfl | hc
    · rw [hfree] at e; cases e
    · rw [hfree] at hc; cases hc
  rcases hx with hk | hk
  · refine wpAny_storeName_local hk hn (fun h' hn' hs => ?_) hcls
    obtain ⟨oL, _, _, hoL, _⟩ := id hn
    refine h _ ⟨I.ok, I.os, I.bare, ⟨fun b o e n hb hx => ?_, fun b o e n hb hx => ?_, I.base.free, fun b o e hx => ?_, I.base.tups, I.base.frzs, I.base.tbls⟩, ⟨_, hn', fun j y v' e1 e2 e3 => ?_⟩, fun y c e => ?_, I.free, I.freeC, fun p hp => ?_, tracked ⟨oL, hoL, I.free⟩ hs, by simpa using I.len⟩ ⟨_, hs, .inl rfl⟩
    · exact (hs.2 b (Nat.ne_of_lt (Nat.lt_of_lt_of_le (Heap.lt_size e) I.ok.above))).trans (I.base.keep b o e n hb hx)
    · obtain ⟨sl, e1⟩ := I.base.slot b o e n hb hx
      exact ⟨sl, (hs.2 b (Nat.ne_of_lt (Nat.lt_of_lt_of_le (Heap.lt_size e) I.ok.above))).trans e1⟩
    · obtain ⟨o', e1⟩ := I.base.there b o e hx
      exact ⟨o', (hs.2 b (Nat.ne_of_lt (Nat.lt_of_lt_of_le (Heap.lt_size e) I.ok.above))).trans e1⟩
    · by_cases hj : j = i
      · subst hj
        rw [hi] at e1; cases e1
        rw [List.getElem?_set_self hiσ] at e2
        cases e2
        exact ⟨u, r, .inl ⟨hk, by simp⟩⟩
      · rw [List.getElem?_set_ne (Ne.symm hj)] at e2
        obtain ⟨u', r', q⟩ := hl j y v' e1 e2 e3
        refine ⟨u', r', ?_⟩
        rcases q with ⟨k, e⟩ | ⟨k, c, e, z⟩
        · refine .inl ⟨k, ?_⟩
          have : y ≠ x := fun e => hj (nodup_ix hN e1 (e ▸ hi))
          simp [this, e]
        · exact .inr ⟨k, c, e, z.sameBut hs (cne y c e)⟩
    · obtain ⟨w', z⟩ := I.cell y c e
      exact ⟨w', z.sameBut hs (cne y c e)⟩
    · obtain ⟨e, n, ne, nf, d⟩ := I.pin p hp
      exact ⟨(hs.2 p.1 ne).trans e, n, ne, nf, d⟩
  · have hfn : X.fn x = true := by
      rcases hf with z | z
      · exact z
      · rw [z] at hk; cases hk
    obtain ⟨c, hc⟩ := I.ok.has x (.inl hk)
    obtain ⟨w', z⟩ := I.cell x c hc
    refine wpAny_storeName_cell I.ok.kind hk hc z (fun h' hc' hs => ?_)
    obtain ⟨oc, hoc, hocd⟩ := id z
    refine h { s with heap := h' } ⟨I.ok, I.os, I.bare, ⟨fun b o e n hb hx => ?_, fun b o e n hb hx => ?_, I.base.free, fun b o e hx => ?_, I.base.tups, I.base.frzs, I.base.tbls⟩, ⟨m, hn.sameBut hs (Ne.symm (cne x c hc)), fun j y v' e1 e2 e3 => ?_⟩, fun y c' e => ?_, I.free, I.freeC, fun p hp => ?_, tracked ⟨oc, hoc, I.freeC x c hc⟩ hs, by simpa using I.len⟩ ⟨c, hs, .inr hc⟩
    · exact (hs.2 b (Nat.ne_of_lt (Nat.lt_of_lt_of_le (Heap.lt_size e) (I.ok.cab x c hfn hc)))).trans (I.base.keep b o e n hb hx)
    · obtain ⟨sl, e1⟩ := I.base.slot b o e n hb hx
      exact ⟨sl, (hs.2 b (Nat.ne_of_lt (Nat.lt_of_lt_of_le (Heap.lt_size e) (I.ok.cab x c hfn hc)))).trans e1⟩
    · obtain ⟨o', e1⟩ := I.base.there b o e hx
      exact ⟨o', (hs.2 b (Nat.ne_of_lt (Nat.lt_of_lt_of_le (Heap.lt_size e) (I.ok.cab x c hfn hc)))).trans e1⟩
    · by_cases hj : j = i
      · subst hj
        rw [hi] at e1; cases e1
        rw [List.getElem?_set_self hiσ] at e2
        cases e2
        exact ⟨u, r, .inr ⟨.inl hk, c, hc, hc'⟩⟩
      · rw [List.getElem?_set_ne (Ne.symm hj)] at e2
        obtain ⟨u', r', q⟩ := hl j y v' e1 e2 e3
        refine ⟨u', r', ?_⟩
        rcases q with q | ⟨k, c', e, z'⟩
        · exact .inl q
        · refine .inr ⟨k, c', e, z'.sameBut hs ?_⟩
          rintro rfl
          exact hj (nodup_ix hN e1 (I.ok.inj _ _ _ e hc ▸ hi))
    · by_cases hcc : c' = c
      · subst hcc; exact ⟨_, hc'⟩
      · obtain ⟨w2, z2⟩ := I.cell y c' e
        exact ⟨w2, z2.sameBut hs hcc⟩
    · obtain ⟨e, n, ne, nf, d⟩ := I.pin p hp
      refine ⟨(hs.2 p.1 ?_).trans e, n, ne, nf, d⟩
      intro q
      rw [q, hoc] at e
      have q' : oc = p.2 := Option.some.inj e
      exact d w' (by rw [← q']; exact hocd)
theorem store_ok {M : Model} {A : Around} {E : Value → Shared → Prop} {i : Nat} {x : Str} {v : V} {u : Value} {Q : Unit → Shared → Prop} (I : Inv X pins σ H s) (hN : X.N.Nodup) (hi : X.N[i]? = some x) (hx : Loc X.env.scope x) (r : RelV v u)
    (h : ∀ s', Inv X pins (σ.set i (some v)) H s' → Q () s') (hf : X.fn x = true ∨ X.env.scope.names.lookup x = some .local := by first | exact .inl rfl | exact .inr rfl | assumption) : wpAny M A (storeName X.env x u) Q E s :=
  store_ok2 I hN hi hx r (fun s' I' _ => h s' I') hf
/-- behind a call or a block, the state as it is -/
theorem Inv.call' {s' : Shared} {ch : List Addr} (I : Inv X pins σ H s) (ho : s'.os = s.os) (u : Un (frs X.stack) ch H H' s.heap s'.heap) (hok : HOk X.prog X.w H' s'.heap) (hg : AllBare s'.gens)
    (hch : ∀ b ∈ ch, (b ∈ X.ex ∨ X.s₀.heap.objs.size ≤ b) ∧ b ≠ X.env.locals ∧ (∀ x c, X.env.cells.lookup x = some c → c ≠ b) ∧ ∀ p ∈ X.pn ++ pins, p.1 ≠ b) : Inv X pins σ H' s' := by
  obtain ⟨h', g', d', t', o'⟩ := s'
  have e : o' = s.os := ho
  subst e
  exact I.call (g' := g') (t' := t') (d' := d') u hok hg hch
end

/-! ### the judgements -/
/-- an exception: its class, its own dict's address (where it has one), the abstract heap behind it -/
abbrev XK := Value → Option Addr → Hp → Prop
abbrev St := List (Option V)
abbrev VK := V → Hp → Prop
/-- an expression's reading; a test's; an argument list's -/
abbrev TE := St → Hp → VK → Prop
abbrev TT := St → Hp → (Bool → Hp → Prop) → Prop
abbrev TA := St → Hp → (List V → Hp → Prop) → Prop
/-- what is wanted behind a statement -/
structure Ends where
  nx : St → Hp → Prop
  rt : VK
  bk : St → Hp → Prop := fun _ _ => False
  ct : St → Hp → Prop := fun _ _ => False
abbrev TS := Ends → St → Hp → Prop

def EP (X : Cx) (pins : List (Addr × Obj)) (σ : St) (Q : VK) (u : Value) (s' : Shared) : Prop := ∃ v H', Inv X pins σ H' s' ∧ RelV v u ∧ Q v H'
def TP (X : Cx) (pins : List (Addr × Obj)) (σ : St) (Q : Bool → Hp → Prop) (b : Bool) (s' : Shared) : Prop := ∃ H', Inv X pins σ H' s' ∧ Q b H'
def AP (X : Cx) (pins : List (Addr × Obj)) (σ : St) (Q : List V → Hp → Prop) (us : List Value) (s' : Shared) : Prop := ∃ vs H', Inv X pins σ H' s' ∧ Vals vs us ∧ Q vs H'
def SP (X : Cx) (pins : List (Addr × Obj)) (D : Ends) (f : Flow) (s' : Shared) : Prop :=
  match f with
  | .next => ∃ σ' H', Inv X pins σ' H' s' ∧ D.nx σ' H'
  | .brk => ∃ σ' H', Inv X pins σ' H' s' ∧ D.bk σ' H'
  | .cont => ∃ σ' H', Inv X pins σ' H' s' ∧ D.ct σ' H'
  | .ret u => ∃ v σ' H', Inv X pins σ' H' s' ∧ RelV v u ∧ D.rt v H'

def PE (X : Cx) (e : Expr) (t : TE) : Prop :=
  ∀ (pins : List (Addr × Obj)) (s : Shared) (σ : St) (H : Hp) (Q : VK), Inv X pins σ H s → t σ H Q → wpAny (model X.prog X.w) X.A (eval e X.env) (EP X pins σ Q) X.xe s
def PT (X : Cx) (e : Expr) (t : TT) : Prop :=
  ∀ (pins : List (Addr × Obj)) (s : Shared) (σ : St) (H : Hp) (Q : Bool → Hp → Prop), Inv X pins σ H s → t σ H Q → wpAny (model X.prog X.w) X.A (isTrue e X.env (eval e X.env)) (TP X pins σ Q) X.xe s
/-- a test whatever its 'whole' is (and, or) -/
def PW (X : Cx) (e : Expr) (t : TT) : Prop :=
  ∀ (whole : Sem Value) (pins : List (Addr × Obj)) (s : Shared) (σ : St) (H : Hp) (Q : Bool → Hp → Prop), Inv X pins σ H s → t σ H Q → wpAny (model X.prog X.w) X.A (isTrue e X.env whole) (TP X pins σ Q) X.xe s
theorem PW.pt {X : Cx} {e : Expr} {t : TT} (h : PW X e t) : PT X e t := h _
/-- an argument list (no star), from the left -/
def PA (X : Cx) (es : List Expr) (t : TA) : Prop :=
  ∀ (pos : Pos) (pins : List (Addr × Obj)) (s : Shared) (σ : St) (H : Hp) (Q : List V → Hp → Prop), Inv X pins σ H s → t σ H Q → wpAny (model X.prog X.w) X.A (spliced (backTo pos (starEach es X.env))) (AP X pins σ Q) X.xe s
def PS (X : Cx) (st : Stmt) (t : TS) : Prop :=
  ∀ (pins : List (Addr × Obj)) (s : Shared) (σ : St) (H : Hp) (D : Ends), Inv X pins σ H s → t D σ H → wpAny (model X.prog X.w) X.A (exec st X.env) (SP X pins D) X.xe s
def PSs (X : Cx) (st : List Stmt) (t : TS) : Prop :=
  ∀ (pins : List (Addr × Obj)) (s : Shared) (σ : St) (H : Hp) (D : Ends), Inv X pins σ H s → t D σ H → wpAny (model X.prog X.w) X.A (execs st X.env) (SP X pins D) X.xe s
/-- weaken the end -/
theorem thn {α : Type} {t : Sem α} {Q Q' : α → Shared → Prop} {M : Model} {A : Around} {E : Value → Shared → Prop} {s : Shared} (h : wpAny M A t Q E s) (hQ : ∀ a s, Q a s → Q' a s) : wpAny M A t Q' E s := wpAny_mono h hQ fun _ _ x => x
end L2

namespace L2
open PySem PySem.Spec PyProof.Rows
section
variable {X : Cx}

/-! ### names and constants -/
def tVar (i : Nat) : TE := fun σ H Q => ∃ v, σ[i]? = some (some v) ∧ Q v H
def tC (v : V) : TE := fun _ H Q => Q v H
theorem pe_var {i : Nat} {x : Str} {pos : Pos} (hN : X.N[i]? = some x) (hv : Vis X.env.scope x) (hd : (x == ("__debug__" : Str)) = false := by decide) (hcd : (x == ("__classdict__" : Str)) = false := by decide) : PE X (.Name x pos) (tVar i) := by
  intro pins s σ H Q I h
  obtain ⟨v, e, h⟩ := h
  obtain ⟨m, hn, hl⟩ := I.loc
  obtain ⟨u, r, l⟩ := hl i x v hN e hv
  have fin : EP X pins σ Q u s := ⟨v, H, I, r, h⟩
  rcases l with ⟨hk, hm⟩ | ⟨hk, c, hc, hcell⟩
  · exact wpAny_Name (wpAny_loadName_local I.ok.kind hk hn hm fin) hd
  · rcases hk with hk | hk
    · exact wpAny_Name (wpAny_loadName_cell I.ok.kind hk hc hcell fin) hd
    · exact wpAny_Name (wpAny_loadName_free I.ok.kind hk hc hcell fin hcd) hd
theorem pe_int {i j pos} : PE X (.Constant (.int i) j pos) (tC (.int i)) := fun _ _ _ H _ I h => wpAny_Constant_int ⟨.int i, H, I.tok _, ⟨_, rfl⟩, h⟩
theorem pe_bl {b j pos} : PE X (.Constant (.bool b) j pos) (tC (.bl b)) := fun _ _ _ H _ I h => Constant_bool ⟨.bl b, H, I, rfl, h⟩
theorem pe_non {j pos} : PE X (.Constant .none j pos) (tC .non) := fun _ _ _ H _ I h => Constant_none ⟨.non, H, I, rfl, h⟩
theorem pe_str {x j pos} : PE X (.Constant (.str x) j pos) (tC (.str x)) := fun _ _ _ H _ I h => Calls.Constant_str ⟨.str x, H, I.tok _, ⟨_, rfl⟩, h⟩

/-- a global name of the def -/
def Gl (X : Cx) (x : Str) : Prop := X.env.kindOf x = some .globalImplicit
theorem ld_glob {E : Value → Shared → Prop} {pins : List (Addr × Obj)} {s : Shared} {σ : St} {H : Hp} {x : Str} {u : Value} {pos : Pos} {Q : Value → Shared → Prop} (I : Inv X pins σ H s) (hg : Gl X x) (hm : X.mg x = some u) (h : Q u s)
    (hd : (x == ("__debug__" : Str)) = false := by decide) : wpAny (model X.prog X.w) X.A (eval (.Name x pos) X.env) Q E s :=
  Calls.Name_function_global I.ok.kind hg (Calls.loadGlobal_global (by rw [I.ok.glob]; exact I.mod.glob.keeps I.bk) hm h) hd
theorem ld_blt {E : Value → Shared → Prop} {pins : List (Addr × Obj)} {s : Shared} {σ : St} {H : Hp} {x : Str} {u : Value} {pos : Pos} {Q : Value → Shared → Prop} (I : Inv X pins σ H s) (hg : Gl X x) (hm : X.mg x = none) (hv : bootBuiltins x = some u) (h : Q u s)
    (hn : x ≠ "__name__" := by decide) (hd : (x == ("__debug__" : Str)) = false := by decide) : wpAny (model X.prog X.w) X.A (eval (.Name x pos) X.env) Q E s := by
  obtain ⟨mb, h1, h2⟩ := I.mod.blt
  exact Calls.Name_function_global I.ok.kind hg (Calls.loadGlobal_builtin (by rw [I.ok.glob]; exact I.mod.glob.keeps I.bk) hm (by rw [I.ok.blt]; exact h1.keeps I.bk) ((h2 x hn).trans hv) h) hd
theorem pe_bltn {x : Str} {v : V} {u : Value} {pos : Pos} (hg : Gl X x) (hm : X.mg x = none) (hv : bootBuiltins x = some u) (r : RelV v u) (hn : x ≠ "__name__" := by decide) (hd : (x == ("__debug__" : Str)) = false := by decide) : PE X (.Name x pos) (tC v) :=
  fun _ _ _ H _ I h => ld_blt I hg hm hv ⟨v, H, I, r, h⟩ hn hd

/-! ### arithmetic -/
/-- two ints -/
def t2I (ta tb : TE) (k : Int → Int → Hp → Prop) : St → Hp → Prop := fun σ H => ta σ H fun x H1 => tb σ H1 fun y H2 => ∃ i j, x = .int i ∧ y = .int j ∧ k i j H2
def tAdd (ta tb : TE) : TE := fun σ H Q => t2I ta tb (fun i j H2 => Q (.int (i + j)) H2) σ H
def tSub (ta tb : TE) : TE := fun σ H Q => t2I ta tb (fun i j H2 => Q (.int (i - j)) H2) σ H
/-- the left factor below 2^64 -/
def tMul (ta tb : TE) : TE := fun σ H Q => t2I ta tb (fun i j H2 => (-(2 ^ 64) < i ∧ i < 2 ^ 64) ∧ Q (.int (i * j)) H2) σ H
variable {a b : Expr} {ta tb : TE} {pos : Pos}
/-! ### comparisons -/
def PC (X : Cx) (op : CmpOp) (a b : Expr) (t : TE) : Prop :=
  ∀ (pins : List (Addr × Obj)) (s : Shared) (σ : St) (H : Hp) (Q : VK), Inv X pins σ H s → t σ H Q →
    wpAny (model X.prog X.w) X.A (eval a X.env) (fun v s₁ => wpAny (model X.prog X.w) X.A (eval b X.env) (fun u s₂ => wpAny (model X.prog X.w) X.A (compareOp op v u) (EP X pins σ Q) X.xe s₂) X.xe s₁) X.xe s
def tCmp (p : Int → Int → Bool) (ta tb : TE) : TE := fun σ H Q => t2I ta tb (fun i j H2 => Q (.bl (p i j)) H2) σ H
abbrev tLt : TE → TE → TE := tCmp fun i j => decide (i < j)
abbrev tLe : TE → TE → TE := tCmp fun i j => decide (i ≤ j)
abbrev tGt : TE → TE → TE := tCmp fun i j => decide (j < i)
abbrev tGe : TE → TE → TE := tCmp fun i j => decide (j ≤ i)
abbrev tEqI : TE → TE → TE := tCmp fun i j => decide (i = j)
abbrev tNeI : TE → TE → TE := tCmp fun i j => !decide (i = j)
/-- is None -/
def tIsN (ta : TE) : TE := fun σ H Q => ta σ H fun x H1 => Q (.bl (decide (x = .non))) H1
def tNotN (ta : TE) : TE := fun σ H Q => ta σ H fun x H1 => Q (.bl (!decide (x = .non))) H1
/-- a comparison as a value, as a test -/
def tB (t : TE) : TT := fun σ H Q => t σ H fun x H1 => ∃ c, x = .bl c ∧ Q c H1
/-- an expression whose value is a bool, as a test -/
theorem pt_val {e : Expr} {t : TE} (h : PE X e t) (he : ∀ whole, isTrue e X.env whole = (do let v ← whole; standAt e.pos; holding [v] (truthy v)) := by intro _; rfl) : PT X e (tB t) := by
  intro pins s σ H Q I hw
  refine isTrue_plain (thn (h pins s σ H _ I hw) fun v s1 ⟨x, H1, I1, r1, q1⟩ => ?_) (he _)
  obtain ⟨d, rfl, q⟩ := q1
  cases r1
  exact wpAny_truthy_bool ⟨H1, I1, q⟩

/-! ### and, or, not -/
variable {tA tB' : TT} {rest : List Expr}
def tAnd (t u : TT) : TT := fun σ H Q => t σ H fun c H1 => if c = true then u σ H1 Q else Q false H1
def tOr (t u : TT) : TT := fun σ H Q => t σ H fun c H1 => if c = true then Q true H1 else u σ H1 Q
def tNot (t : TT) : TT := fun σ H Q => t σ H fun c H1 => Q (!c) H1
theorem pw_and1 (ha : PT X a tA) : PW X (.BoolOp .And [a] pos) tA := by
  intro wh pins s σ H Q I h
  refine isTrue_and (thn (ha pins s σ H Q I h) fun c s1 e => ?_)
  cases c with
  | true => exact isTrue_and_nil e
  | false => exact e
theorem pw_or1 (ha : PT X a tA) : PW X (.BoolOp .Or [a] pos) tA := by
  intro wh pins s σ H Q I h
  refine isTrue_or (thn (ha pins s σ H Q I h) fun c s1 e => ?_)
  cases c with
  | false => exact isTrue_or_nil e
  | true => exact e
theorem pw_and (ha : PT X a tA) (hb : PW X (.BoolOp .And (b :: rest) pos) tB') : PW X (.BoolOp .And (a :: b :: rest) pos) (tAnd tA tB') := by
  intro wh pins s σ H Q I h
  refine isTrue_and (thn (ha pins s σ H _ I h) fun c s1 ⟨H1, I1, q1⟩ => ?_)
  cases c with
  | true => exact hb wh pins s1 σ H1 Q I1 q1
  | false => exact ⟨H1, I1, q1⟩
theorem pw_or (ha : PT X a tA) (hb : PW X (.BoolOp .Or (b :: rest) pos) tB') : PW X (.BoolOp .Or (a :: b :: rest) pos) (tOr tA tB') := by
  intro wh pins s σ H Q I h
  refine isTrue_or (thn (ha pins s σ H _ I h) fun c s1 ⟨H1, I1, q1⟩ => ?_)
  cases c with
  | true => exact ⟨H1, I1, q1⟩
  | false => exact hb wh pins s1 σ H1 Q I1 q1
theorem pt_not (ha : PT X a tA) : PT X (.UnaryOp .Not a pos) (tNot tA) := by
  intro pins s σ H Q I h
  exact isTrue_not (ha pins s σ H (fun c H1 => Q (!c) H1) I h)
/-- .. as values (bools) -/
def tAndV (ta tb : TE) : TE := fun σ H Q => ta σ H fun x H1 => ∃ c, x = .bl c ∧ if c = true then tb σ H1 Q else Q (.bl false) H1
def tOrV (ta tb : TE) : TE := fun σ H Q => ta σ H fun x H1 => ∃ c, x = .bl c ∧ if c = true then Q (.bl true) H1 else tb σ H1 Q
def tNotV (ta : TE) : TE := fun σ H Q => ta σ H fun x H1 => ∃ c, x = .bl c ∧ Q (.bl (!c)) H1
theorem pe_one {op} {t : TE} (h : PE X a t) : PE X (.BoolOp op [a] pos) t := fun pins s σ H Q I hw => BoolOp_one (h pins s σ H Q I hw)
theorem pe_and (ha : PE X a ta) (hb : PE X (.BoolOp .And (b :: rest) pos) tb) : PE X (.BoolOp .And (a :: b :: rest) pos) (tAndV ta tb) := by
  intro pins s σ H Q I h
  refine BoolOp_and (thn (ha pins s σ H _ I h) fun v s1 ⟨x, H1, I1, r1, q1⟩ => ?_)
  obtain ⟨c, rfl, q1⟩ := q1
  cases r1
  refine wpAny_truthy_bool ?_
  cases c with
  | true => exact hb pins s1 σ H1 Q I1 q1
  | false => exact ⟨.bl false, H1, I1, rfl, q1⟩
/-- a if t else b -/
def tIf (t : TT) (ta tb : TE) : TE := fun σ H Q => t σ H fun c H1 => if c = true then ta σ H1 Q else tb σ H1 Q
theorem pe_ifExp {c : Expr} (hc : PT X c tA) (ha : PE X a ta) (hb : PE X b tb) : PE X (.IfExp c a b pos) (tIf tA ta tb) := by
  intro pins s σ H Q I h
  refine wpAny_IfExp (thn (hc pins s σ H _ I h) fun d s1 ⟨H1, I1, q1⟩ => ?_)
  cases d with
  | true => exact ha pins s1 σ H1 Q I1 q1
  | false => exact hb pins s1 σ H1 Q I1 q1
end
end L2

namespace L2
open PySem PySem.Spec PyProof.Rows

/-! ### a list, a tuple that is read: tracked, frozen, or an object of the module -/
def SqL (K : PySem.W.Frag) (H : Hp) (a : Addr) (xs : List V) : Prop :=
  Rd H a (.lst xs) ∨
    ∃ (o : Obj) (its : Array Value) (n : Nat), K.lookup a = some o ∧ o.cls = .type "list" ∧ o.dict = none ∧ o.data = .seq its n ∧ its.size ≤ sizeLine ∧ Vals xs its.toList
def SqT (K : PySem.W.Frag) (H : Hp) (a : Addr) (xs : List V) : Prop :=
  Rd H a (.tup xs) ∨
    ∃ (o : Obj) (its : Array Value) (n : Nat), K.lookup a = some o ∧ o.cls = .type "tuple" ∧ o.data = .seq its n ∧ its.size ≤ sizeLine ∧ Vals xs its.toList
def absV : Value → Option V
  | .none => some .non
  | .bool b => some (.bl b)
  | .int i _ => some (.int i)
  | .str x _ => some (.str x)
  | .bytes b _ => some (.byt b)
  | .float b _ => some (.flt b)
  | .ref a => some (.ref a)
  | .type n => some (.ty n)
  | _ => none
theorem RelV.abs {x : V} {u : Value} (r : RelV x u) : absV u = some x := by
  cases x with
  | non => cases r; rfl
  | bl _ => cases r; rfl
  | int _ => obtain ⟨t, rfl⟩ := r; rfl
  | str _ => obtain ⟨t, rfl⟩ := r; rfl
  | byt _ => obtain ⟨t, rfl⟩ := r; rfl
  | flt _ => obtain ⟨t, rfl⟩ := r; rfl
  | ref _ => cases r; rfl
  | ty _ => cases r; rfl
theorem RelV.inj {x y : V} {u : Value} (r : RelV x u) (q : RelV y u) : x = y := Option.some.inj (r.abs.symm.trans q.abs)
theorem Vals.inj : ∀ {xs ys : List V} {us : List Value}, Vals xs us → Vals ys us → xs = ys
  | _, _, _, .nil, .nil => rfl
  | _, _, _, .cons r t, .cons r' t' => by rw [r.inj r', Vals.inj t t']
section
variable {X : Cx} {pins : List (Addr × Obj)} {σ : St} {H : Hp} {s : Shared} {a : Addr} {xs ys : List V}
theorem SqL.of {K : PySem.W.Frag} (h : H a = some (.lst xs)) : SqL K H a xs := .inl (.inl h)
theorem SqT.of {K : PySem.W.Frag} (h : H a = some (.tup xs)) : SqT K H a xs := .inl (.inl h)
theorem Inv.list (I : Inv X pins σ H s) (h : SqL X.K H a xs) : ∃ its : List Value, Vals xs its ∧ PlainL s.heap a its.toArray ∧ xs.length ≤ sizeLine := by
  rcases h with h | ⟨o, its, n, hk, hc, hd, hs, hz, r⟩
  · obtain ⟨z, its, n, r, e⟩ := h.ok I.hok
    exact ⟨its, r, ⟨_, n, e, rfl, rfl, rfl⟩, z⟩
  · refine ⟨its.toList, r, ⟨o, n, I.kIn a o hk, hc, hd, by simpa using hs⟩, ?_⟩
    have e := r.length
    simp only [Array.length_toList] at e
    omega
theorem Inv.tuple (I : Inv X pins σ H s) (h : SqT X.K H a xs) : ∃ its : List Value, Vals xs its ∧ IsTup s.heap a its.toArray ∧ xs.length ≤ sizeLine := by
  rcases h with h | ⟨o, its, n, hk, hc, hs, hz, r⟩
  · obtain ⟨z, its, r, p⟩ := h.ok I.hok
    exact ⟨its, r, p, z⟩
  · refine ⟨its.toList, r, ⟨o, I.kIn a o hk, hc, n, by simpa using hs⟩, ?_⟩
    have e := r.length
    simp only [Array.length_toList] at e
    omega
theorem Inv.list_inj (I : Inv X pins σ H s) (h : SqL X.K H a xs) (h' : SqL X.K H a ys) : xs = ys := by
  obtain ⟨its, r, ⟨o, n, e, _, _, d⟩, _⟩ := I.list h
  obtain ⟨its', r', ⟨o', n', e', _, _, d'⟩, _⟩ := I.list h'
  rw [e] at e'; cases e'
  rw [d] at d'
  injection d' with d1 _
  have : its = its' := by simpa using congrArg Array.toList d1
  subst this
  exact r.inj r'
theorem Inv.tuple_inj (I : Inv X pins σ H s) (h : SqT X.K H a xs) (h' : SqT X.K H a ys) : xs = ys := by
  obtain ⟨its, r, ⟨o, e, _, n, d⟩, _⟩ := I.tuple h
  obtain ⟨its', r', ⟨o', e', _, n', d'⟩, _⟩ := I.tuple h'
  rw [e] at e'; cases e'
  rw [d] at d'
  injection d' with d1 _
  have : its = its' := by simpa using congrArg Array.toList d1
  subst this
  exact r.inj r'
end

/-! ### another wish about exceptions -/
abbrev Cx.wish (X : Cx) (E : Value → Shared → Prop) : Cx := { X with xe := E }
/-- no exception leaves -/
abbrev Cx.nox (X : Cx) : Cx := X.wish fun _ _ => False
theorem Cx.Ok.wish {X : Cx} (ok : X.Ok) (E : Value → Shared → Prop) : (X.wish E).Ok :=
  ⟨ok.mod, ok.kind, ok.glob, ok.blt, ok.above, ok.inj, ok.has, ok.cab, ok.hd, ok.frames, ok.stk, ok.exf, ok.bs, ok.bsz, ok.noex, ok.exfs, ok.funs, ok.frf⟩
theorem Cx.Ok.unwish {X : Cx} {E : Value → Shared → Prop} (ok : (X.wish E).Ok) : X.Ok :=
  ⟨ok.mod, ok.kind, ok.glob, ok.blt, ok.above, ok.inj, ok.has, ok.cab, ok.hd, ok.frames, ok.stk, ok.exf, ok.bs, ok.bsz, ok.noex, ok.exfs, ok.funs, ok.frf⟩
section
variable {X : Cx} {pins : List (Addr × Obj)} {σ : St} {H : Hp} {s : Shared} {E : Value → Shared → Prop}
theorem Inv.wish (I : Inv X pins σ H s) (E : Value → Shared → Prop) : Inv (X.wish E) pins σ H s := ⟨I.ok.wish E, I.os, I.bare, I.base, I.loc, I.cell, I.free, I.freeC, I.pin, I.hok, I.len⟩
theorem Inv.unwish (I : Inv (X.wish E) pins σ H s) : Inv X pins σ H s := ⟨I.ok.unwish, I.os, I.bare, I.base, I.loc, I.cell, I.free, I.freeC, I.pin, I.hok, I.len⟩
theorem SP.unwish {D : Ends} {f : Flow} {s' : Shared} (h : SP (X.wish E) pins D f s') : SP X pins D f s' := by
  cases f with
  | next => obtain ⟨σ', H', I, q⟩ := h; exact ⟨σ', H', I.unwish, q⟩
  | brk => obtain ⟨σ', H', I, q⟩ := h; exact ⟨σ', H', I.unwish, q⟩
  | cont => obtain ⟨σ', H', I, q⟩ := h; exact ⟨σ', H', I.unwish, q⟩
  | ret u => obtain ⟨v, σ', H', I, r, q⟩ := h; exact ⟨v, σ', H', I.unwish, r, q⟩
theorem PSs.nox {st : List Stmt} {t : TS} (h : PSs X.nox st t) : PSs X st t := fun pins s σ H D I hw =>
  wpAny_mono (h pins s σ H D (I.wish _) hw) (fun _ _ q => q.unwish) fun _ _ z => False.elim z
end

/-! ### blocks and small statements -/
section
variable {X : Cx} {st : Stmt} {rest : List Stmt} {t u : TS} {e : Expr} {te : TE} {pos : Pos}
def tNext : TS := fun D σ H => D.nx σ H
def tSeq (t u : TS) : TS := fun D σ H => t { D with nx := u D } σ H
theorem pss_nil : PSs X [] tNext := fun _ _ σ H _ I h => wpAny_execs_nil ⟨σ, H, I, h⟩
theorem pss_cons (h1 : PS X st t) (h2 : PSs X rest u) : PSs X (st :: rest) (tSeq t u) := by
  intro pins s σ H D I h
  refine wpAny_execs_cons (thn (h1 pins s σ H { D with nx := u D } I h) fun f s1 q => ?_)
  cases f with
  | next =>
    obtain ⟨σ', H', I', q⟩ := q
    exact h2 pins s1 σ' H' D I' q
  | ret v => exact q
  | brk => exact q
  | cont => exact q
theorem pss_one (h1 : PS X st t) : PSs X [st] t := by
  intro pins s σ H D I h
  refine wpAny_execs_cons (thn (h1 pins s σ H D I h) fun f s1 q => ?_)
  cases f with
  | next => exact wpAny_execs_nil q
  | ret v => exact q
  | brk => exact q
  | cont => exact q
def tBreak : TS := fun D σ H => D.bk σ H
def tCont : TS := fun D σ H => D.ct σ H
/-- in a def's body nothing is shown -/
theorem Inv.quiet {pins : List (Addr × Obj)} {σ : St} {H : Hp} {s : Shared} (I : Inv X pins σ H s) : interactive X.env = false := by simp [interactive, I.ok.kind]
/-- an expression whose value is dropped -/
def tDrop (te : TE) : TS := fun D σ H => te σ H fun _ H1 => D.nx σ H1
theorem ps_expr (he : PE X e te) (hs : swapsWith e none pos.line X.env = pure false := by rfl) : PS X (.Expr e pos) (tDrop te) := by
  intro pins s σ H D I h
  exact wpAny_Expr_any (thn (he pins s σ H _ I h) fun v s1 ⟨x, H1, I1, r1, q1⟩ => ⟨σ, H1, I1, q1⟩) I.quiet hs
def tRet (te : TE) : TS := fun D σ H => te σ H D.rt
theorem ps_ret (he : PE X e te) : PS X (.Return (some e) pos) (tRet te) := by
  intro pins s σ H D I h
  exact wpAny_Return_some (thn (he pins s σ H _ I h) fun v s1 ⟨x, H1, I1, r1, q1⟩ => ⟨x, σ, H1, I1, r1, q1⟩)
def tRetN : TS := fun D _ H => D.rt .non H
def tIfS (c : TT) (t u : TS) : TS := fun D σ H => c σ H fun b H1 => if b = true then t D σ H1 else u D σ H1
theorem ps_if {c : Expr} {a b : List Stmt} {tc : TT} (hc : PT X c tc) (ha : PSs X a t) (hb : PSs X b u) : PS X (.If c a b pos) (tIfS tc t u) := by
  intro pins s σ H D I h
  refine wpAny_If (thn (hc pins s σ H _ I h) fun d s1 ⟨H1, I1, q1⟩ => ?_)
  cases d with
  | true => exact ha pins s1 σ H1 D I1 q1
  | false => exact hb pins s1 σ H1 D I1 q1
/-- code that the proof never comes to -/
def tNever : TS := fun _ _ _ => False
end

/-! ### targets -/
abbrev TG := V → St → Hp → (St → Hp → Prop) → Prop
abbrev TGs := List V → St → Hp → (St → Hp → Prop) → Prop
def PG (X : Cx) (target : Expr) (t : TG) : Prop :=
  ∀ (pins : List (Addr × Obj)) (s : Shared) (σ : St) (H : Hp) (v : V) (u : Value) (Q : St → Hp → Prop), Inv X pins σ H s → RelV v u → t v σ H Q →
    wpAny (model X.prog X.w) X.A (assign target X.env u) (fun _ s' => ∃ σ' H', Inv X pins σ' H' s' ∧ Q σ' H') X.xe s
/-- several targets, one after another -/
def PGs (X : Cx) (ts : List Expr) (t : TGs) : Prop :=
  ∀ (pins : List (Addr × Obj)) (s : Shared) (σ : St) (H : Hp) (vs : List V) (us : List Value) (Q : St → Hp → Prop), Inv X pins σ H s → Vals vs us → t vs σ H Q →
    wpAny (model X.prog X.w) X.A (assignInOrder ((assignEach ts X.env).map (·.2)) us) (fun _ s' => ∃ σ' H', Inv X pins σ' H' s' ∧ Q σ' H') X.xe s
/-- o[i] = v, by values -/
abbrev TSet := V → V → V → Hp → (Hp → Prop) → Prop
def PSet (X : Cx) (t : TSet) : Prop :=
  ∀ (pins : List (Addr × Obj)) (s : Shared) (σ : St) (H : Hp) (o i v : V) (ov iv u : Value) (Q : Hp → Prop), Inv X pins σ H s → RelV o ov → RelV i iv → RelV v u → t o i v H Q →
    wpAny (model X.prog X.w) X.A (setItem ov iv u) (fun _ s' => ∃ H', Inv X pins σ H' s' ∧ Q H') X.xe s
/-- a op= b, by values -/
abbrev TIp := V → V → Hp → VK → Prop
def PIp (X : Cx) (op : Operator) (t : TIp) : Prop :=
  ∀ (pins : List (Addr × Obj)) (s : Shared) (σ : St) (H : Hp) (x y : V) (v u : Value) (Q : VK), Inv X pins σ H s → RelV x v → RelV y u → t x y H Q →
    wpAny (model X.prog X.w) X.A (inplaceOp op v u) (EP X pins σ Q) X.xe s
section
variable {X : Cx} {pos : Pos}
def gName (i : Nat) : TG := fun v σ H Q => Q (σ.set i (some v)) H
theorem pg_name {i : Nat} {x : Str} (hN : X.N.Nodup) (hi : X.N[i]? = some x) (hx : Loc X.env.scope x) (hf : X.fn x = true ∨ X.env.scope.names.lookup x = some .local := by first | exact .inl rfl | exact .inr rfl | assumption) : PG X (.Name x pos) (gName i) := by
  intro pins s σ H v u Q I r h
  exact wpAny_assign_Name (store_ok I hN hi hx r (fun s' I' => ⟨_, H, I', h⟩) hf)
def gNil : TGs := fun vs σ H Q => vs = [] ∧ Q σ H
def gCons (t : TG) (u : TGs) : TGs := fun vs σ H Q => ∃ v r, vs = v :: r ∧ t v σ H fun σ' H' => u r σ' H' Q
theorem pgs_nil : PGs X [] gNil := by
  intro pins s σ H vs us Q I r h
  obtain ⟨e, h⟩ := h
  subst e
  cases r
  exact assignInOrder_nil ⟨σ, H, I, h⟩
theorem pgs_cons {e : Expr} {es : List Expr} {t : TG} {u : TGs} (h1 : PG X e t) (h2 : PGs X es u)
    (hs : (assignEach (e :: es) X.env).map (·.2) = assign e X.env :: (assignEach es X.env).map (·.2) := by rfl) : PGs X (e :: es) (gCons t u) := by
  intro pins s σ H vs us Q I r h
  obtain ⟨v, vr, e1, h⟩ := h
  subst e1
  cases r with
  | cons r rr =>
    rw [hs]
    refine assignInOrder_cons (thn (h1 pins s σ H _ _ _ I r h) fun _ s1 ⟨σ1, H1, I1, q1⟩ => ?_)
    exact h2 pins s1 σ1 H1 _ _ Q I1 rr q1
/-- (a, b, ..) = a tuple of that length -/
def gTup (K : PySem.W.Frag) (n : Nat) (t : TGs) : TG := fun v σ H Q => ∃ a xs, v = .ref a ∧ SqT K H a xs ∧ xs.length = n ∧ t xs σ H Q
theorem pg_tup {es : List Expr} {k : Nat} {t : TGs} {n : Nat} (hc : X.calm = true) (h : PGs X es t)
    (hn : (assignEach es X.env).length = n := by rfl) (hst : (assignEach es X.env).findIdx? (·.1) = none := by rfl) : PG X (.Tuple es k pos) (gTup X.K n t) := by
  intro pins s σ H v u Q I r hw
  obtain ⟨a, xs, e1, hq, hl, hw⟩ := hw
  subst e1
  cases r
  obtain ⟨its, rv, ht, hz⟩ := I.tuple hq
  refine assign_Tuple_tuple (I.ok.hd hc) ht (by simp [hn, ← hl, rv.length]) hst fun h' hx => ?_
  have I1 : Inv X pins σ H { s with heap := h' } := I.kept (t' := s.toks) fun b o e => hx b o (Nat.ne_of_lt (Heap.lt_size e)) e
  exact h pins _ σ H xs _ Q I1 (by simpa using rv) hw
/-- o[i] = .. -/
def gSub (to ti : TE) (t : TSet) : TG := fun v σ H Q => to σ H fun o H1 => ti σ H1 fun i H2 => t o i v H2 fun H3 => Q σ H3
theorem pg_sub {o i : Expr} {to ti : TE} {t : TSet} (ho : PE X o to) (hi : PE X i ti) (hs : PSet X t)
    (ha : ∀ v, assign (.Subscript o i pos) X.env v = (do
      let ov ← holding [v] (eval o X.env)
      let iv ← holding [v, ov] (eval i X.env)
      standAt pos
      holding [v, ov, iv] (setItem ov iv v)
      release [v, ov, iv] []) := by intro _; rfl) : PG X (.Subscript o i pos) (gSub to ti t) := by
  intro pins s σ H v u Q I r h
  rw [ha]
  refine wpAny_bind (wpAny_holding (thn (ho pins s σ H _ I h) fun ov s1 ⟨x, H1, I1, r1, q1⟩ => ?_))
  refine wpAny_bind (wpAny_holding (thn (hi pins s1 σ H1 _ I1 q1) fun iv s2 ⟨y, H2, I2, r2, q2⟩ => ?_))
  refine wpAny_bind (wpAny_standAt (wpAny_bind (wpAny_holding (thn (hs pins s2 σ H2 x y v ov iv u _ I2 r1 r2 r q2) fun _ s3 ⟨H3, I3, q3⟩ => ?_))))
  exact wpAny_release ⟨σ, H3, I3, q3⟩
/-- target = value -/
def tAsg (te : TE) (g : TG) : TS := fun D σ H => te σ H fun x H1 => g x σ H1 D.nx
theorem ps_asg {tg e : Expr} {te : TE} {g : TG} (he : PE X e te) (hg : PG X tg g) (hs : swapsWithSole [tg] e pos.line X.env = pure false := by rfl) (hw : swappedStores [tg] e X.env = pure none := by rfl)
    (h1 : (assignEach [tg] X.env).map (·.2) = [assign tg X.env] := by rfl) : PS X (.Assign [tg] e pos) (tAsg te g) := by
  intro pins s σ H D I h
  refine wpAny_Assign_stores (thn (he pins s σ H _ I h) fun v s1 ⟨x, H1, I1, r1, q1⟩ => ?_) hs hw
  rw [h1]
  exact thn (hg pins s1 σ H1 x v _ I1 r1 q1) fun _ s2 q => q
/-- name = value -/
theorem ps_set {i : Nat} {x : Str} {e : Expr} {te : TE} {pos' : Pos} (hN : X.N.Nodup) (hi : X.N[i]? = some x) (hx : Loc X.env.scope x) (he : PE X e te) (hs : swapsWith e (some (.Name x pos')) pos.line X.env = pure false := by rfl) (hf : X.fn x = true ∨ X.env.scope.names.lookup x = some .local := by first | exact .inl rfl | exact .inr rfl | assumption) :
    PS X (.Assign [.Name x pos'] e pos) (tAsg te (gName i)) := by
  intro pins s σ H D I h
  refine wpAny_Assign_Name (thn (he pins s σ H _ I h) fun v s1 ⟨y, H1, I1, r1, q1⟩ => ?_) hs
  exact store_ok I1 hN hi hx r1 (fun s2 I2 => ⟨_, H1, I2, q1⟩) hf
/-- a, b = x, y with plain local names: stored from the right; the pair itself is not tracked (the opening rows as in PyProof/Rows/TupAssign.lean:23) -/
def tPar (i j : Nat) (ta : TA) : TS := fun D σ H => ta σ H fun vs H1 => ∃ v w, vs = [v, w] ∧ D.nx ((σ.set i (some v)).set j (some w)) H1
/-- name op= e -/
def tAug (i : Nat) (te : TE) (ti : TIp) : TS := fun D σ H => ∃ x, σ[i]? = some (some x) ∧ te σ H fun y H1 => ti x y H1 fun z H2 => D.nx (σ.set i (some z)) H2
/-- o[i] op= e -/
def tAugS (to ti te : TE) (tget : V → V → Hp → VK → Prop) (tip : TIp) (tset : TSet) : TS := fun D σ H => to σ H fun o H1 => ti σ H1 fun i H2 => tget o i H2 fun x H3 => te σ H3 fun y H4 => tip x y H4 fun z H5 => tset o i z H5 fun H6 => D.nx σ H6
/-- o[i], by values -/
def PGet (X : Cx) (t : V → V → Hp → VK → Prop) : Prop :=
  ∀ (pins : List (Addr × Obj)) (s : Shared) (σ : St) (H : Hp) (o i : V) (ov iv : Value) (Q : VK), Inv X pins σ H s → RelV o ov → RelV i iv → t o i H Q →
    wpAny (model X.prog X.w) X.A (getItem ov iv) (EP X pins σ Q) X.xe s
/-- ints -/
def ipI (f : Int → Int → Int) : TIp := fun x y H Q => ∃ i j, x = .int i ∧ y = .int j ∧ Q (.int (f i j)) H
end

/-! ### while -/
section
variable {X : Cx} {pos : Pos}
/-- the invariant W with its measure -/
def tWhile (c : TT) (tb : TS) : TS := fun D σ H => ∃ W : Nat → St → Hp → Prop, (∃ m, W m σ H) ∧ ∀ m σ H, W m σ H →
  c σ H fun b H1 => if b = true then ∃ N : St → Hp → Prop, (∀ σ' H', N σ' H' → ∃ m', m' < m ∧ W m' σ' H') ∧ tb { D with nx := N, ct := N, bk := D.nx } σ H1 else D.nx σ H1
theorem ps_while {c : Expr} {body : List Stmt} {tc : TT} {tb : TS} (hp : PassesOwn (model X.prog X.w) X.A X.env X.xe) (hc : PT X c tc) (hb : PSs X body tb) : PS X (.While c body [] pos) (tWhile tc tb) := by
  intro pins s σ H D I h
  obtain ⟨W, ⟨m0, w0⟩, turn⟩ := h
  refine wpAny_While (codeAny_whileLoop (fun n s' => ∃ σ' H', Inv X pins σ' H' s' ∧ W n σ' H') ?_ m0 ⟨σ, H, I, w0⟩)
  rintro n s1 ⟨σ1, H1, I1, w1⟩
  refine wpAny_passesOwn hp (thn (hc pins s1 σ1 H1 _ I1 (turn n σ1 H1 w1)) fun b s2 ⟨H2, I2, q2⟩ => ?_)
  cases b with
  | true =>
    obtain ⟨N, hN, q2⟩ := q2
    rw [if_pos rfl]
    refine wpAny_passesOwn hp (thn (hb pins s2 σ1 H2 _ I2 q2) fun f s3 q3 => ?_)
    cases f with
    | next =>
      obtain ⟨σ3, H3, I3, n3⟩ := q3
      obtain ⟨m', hm, w3⟩ := hN σ3 H3 n3
      exact ⟨m', hm, σ3, H3, I3, w3⟩
    | cont =>
      obtain ⟨σ3, H3, I3, n3⟩ := q3
      obtain ⟨m', hm, w3⟩ := hN σ3 H3 n3
      exact ⟨m', hm, σ3, H3, I3, w3⟩
    | brk => exact q3
    | ret v => exact q3
  | false =>
    rw [if_neg Bool.false_ne_true]
    exact wpAny_execs_nil ⟨σ1, H2, I2, q2⟩
end

/-! ### what a loop or a comprehension walks -/
/-- at turn i: it yields x (the heap may grow), or it stops -/
structure It where
  go : Nat → Hp → Prop
  yld : Nat → Hp → V → Hp → Prop
  stop : Nat → Hp → Prop
/-- the iterator's own objects may turn: they are not the frame's, not pinned, younger than the entry (or a comprehension's own) -/
def FpOk (X : Cx) (pins : List (Addr × Obj)) (H : Hp) (b : Addr) : Prop :=
  H b = none ∧ b ≠ X.env.locals ∧ b ∉ X.fs ∧ (b ∈ X.ex ∨ X.s₀.heap.objs.size ≤ b) ∧ (∀ x c, X.env.cells.lookup x = some c → c ≠ b) ∧ ∀ p ∈ X.pn ++ pins, p.1 ≠ b
theorem Inv.fpOk {X : Cx} {pins : List (Addr × Obj)} {σ : St} {H H' : Hp} {s : Shared} {b : Addr} (I : Inv X pins σ H s) (hb : s.heap.objs.size ≤ b) (hn : H' b = none) : FpOk X pins H' b := by
  refine ⟨hn, Nat.ne_of_gt (Nat.lt_of_lt_of_le I.lt hb), I.nofs hb, .inr (Nat.le_trans I.sz hb), fun x c e z => ?_, fun p hp z => ?_⟩
  · obtain ⟨v, q⟩ := I.cell x c e
    exact absurd (Nat.lt_of_lt_of_le q.lt (by rw [z]; exact hb)) (Nat.lt_irrefl _)
  · exact absurd (Nat.lt_of_lt_of_le (Heap.lt_size (I.pin p hp).1) (by rw [z]; exact hb)) (Nat.lt_irrefl _)
structure Turn (P : Program) (w : World) (K : PySem.W.Frag) (tg : Expr) (J : It) (fp : List Addr) (it : Addr) (tn : Nat → Heap → Prop) : Prop where
  mem : it ∈ fp
  obj : ∀ i h, tn i h → ∀ b ∈ fp, ∃ o, h.get? b = some o ∧ ∀ v, o.data ≠ .cell v
  keep : ∀ i h h', tn i h → (∀ b ∈ fp, ∀ o, h.get? b = some o → h'.get? b = some o) → tn i h'
  item : ∀ (X : Cx), X.prog = P → X.w = w → X.K = K → X.calm = true → ∀ (i : Nat) (pins : List (Addr × Obj)) (s : Shared) (σ : St) (H : Hp) (E : Value → Shared → Prop), Inv X pins σ H s → (∀ b ∈ fp, FpOk X pins H b) → tn i s.heap → J.go i H →
    wpAny (model P w) X.A (pyNext (.ref it)) (fun r s1 => ∃ u, r = some u ∧
      wpAny (model P w) X.A (letOwnedTupleGo tg (.ref it) u) (fun _ s2 => ∃ x H', Inv X pins σ H' s2 ∧ RelV x u ∧ J.yld i H x H' ∧ tn (i + 1) s2.heap ∧ ∀ b ∈ fp, H' b = none) E s1) E s
  done : ∀ (X : Cx), X.prog = P → X.w = w → X.K = K → X.calm = true → ∀ (i : Nat) (pins : List (Addr × Obj)) (s : Shared) (σ : St) (H : Hp) (E : Value → Shared → Prop), Inv X pins σ H s → (∀ b ∈ fp, FpOk X pins H b) → tn i s.heap → J.stop i H →
    wpAny (model P w) X.A (pyNext (.ref it)) (fun r s1 => r = none ∧ Inv X pins σ H s1) E s
  self : ∀ (A : Around) (i : Nat) (s : Shared) (Q : Value → Shared → Prop) (E : Value → Shared → Prop), tn i s.heap → Q (.ref it) s → wpAny (model P w) A (pyIter (.ref it)) Q E s
abbrev TI := St → Hp → (It → Hp → Prop) → Prop
/-- an iterator has come -/
def PIE (X : Cx) (pins : List (Addr × Obj)) (σ : St) (tg : Expr) (R : It → Hp → Prop) (itv : Value) (s2 : Shared) : Prop :=
  ∃ (it : Addr) (fp : List Addr) (tn : Nat → Heap → Prop) (J : It) (H' : Hp), itv = .ref it ∧ Inv X pins σ H' s2 ∧ Turn X.prog X.w X.K tg J fp it tn ∧ tn 0 s2.heap ∧ (∀ b ∈ fp, FpOk X pins H' b) ∧ R J H'
def PI (X : Cx) (tg iter : Expr) (wi : TI) : Prop :=
  ∀ (pins : List (Addr × Obj)) (s : Shared) (σ : St) (H : Hp) (R : It → Hp → Prop), Inv X pins σ H s → wi σ H R →
    wpAny (model X.prog X.w) X.A (eval iter X.env) (fun v s1 => wpAny (model X.prog X.w) X.A (pyIter v) (PIE X pins σ tg R) X.xe s1) X.xe s

/-- the step ahead of the store is nothing for an iterator that keeps no tuple -/
theorem go_of {M : Model} {A : Around} {E : Value → Shared → Prop} {s : Shared} {tg : Expr} {it : Addr} {u : Value} {o : Obj} {n : String} {vs : Array Value} {Q : Unit → Shared → Prop} (ho : s.heap.get? it = some o) (hc : o.cls = .type n) (hd : o.data = .fields vs)
    (hn : ["enumerate", "zip", "dict_itemiterator", "dict_reverseitemiterator", "odict_iterator", "itertools.zip_longest", "itertools.pairwise"].contains n = false) (hQ : Q () s) : wpAny M A (letOwnedTupleGo tg (.ref it) u) Q E s := by
  unfold letOwnedTupleGo
  cases tg <;> first
    | exact wpAny_pure hQ
    | (cases u <;> first
        | exact wpAny_pure hQ
        | (refine wpAny_bind (wpAny_load ho ?_)
           rw [hc, hd]
           show wpAny M A (if (["enumerate", "zip", "dict_itemiterator", "dict_reverseitemiterator", "odict_iterator", "itertools.zip_longest", "itertools.pairwise"].contains n && vs[0]? == some (rawInt _)) = true then _ else _) Q E s
           rw [if_neg (by intro h; rw [hn, Bool.false_and] at h; cases h)]
           exact wpAny_pure hQ))

/-- the list at a, as it stands at each turn (a loop may append to it) -/
def Itl (K : PySem.W.Frag) (a : Addr) : It :=
  ⟨fun i H => ∃ xs x, SqL K H a xs ∧ xs[i]? = some x, fun i H x H' => H' = H ∧ ∀ xs, SqL K H a xs → xs[i]? = some x, fun i H => ∃ xs, SqL K H a xs ∧ xs.length ≤ i⟩
def Itt (K : PySem.W.Frag) (a : Addr) : It :=
  ⟨fun i H => ∃ xs x, SqT K H a xs ∧ xs[i]? = some x, fun i H x H' => H' = H ∧ ∀ xs, SqT K H a xs → xs[i]? = some x, fun i H => ∃ xs, SqT K H a xs ∧ xs.length ≤ i⟩
/-- lo, lo + 1, .. (n of them) -/
def Itr (lo : Int) (n : Nat) : It := ⟨fun i _ => i < n, fun i H x H' => H' = H ∧ x = .int (lo + i), fun i _ => n ≤ i⟩
theorem turn_list {P : Program} {w : World} {K : PySem.W.Frag} {tg : Expr} (a it : Addr) : Turn P w K tg (Itl K a) [it] it (fun i h => h.IsListIter it a i) where
  mem := by simp
  obj := fun i h st b hb => by
    have e : b = it := by simpa using hb
    subst e
    obtain ⟨o, e, c, d⟩ := st
    exact ⟨o, e, fun v z => by rw [d] at z; cases z⟩
  keep := fun i h h' st k => st.at fun o e => k it (by simp) o e
  item := by
    intro X hP hw hK hc i pins s σ H E I hf st hg
    subst hP hw hK
    obtain ⟨xs, x, hq, hx⟩ := hg
    obtain ⟨its, rv, p, hz⟩ := I.list hq
    obtain ⟨u, hu, ru⟩ := rv.get hx
    obtain ⟨f0, f1, f2, f3, f4, f5⟩ := hf it (by simp)
    refine wpAny_pyNext_list_item st p.isList (x := u) (by simpa using hu) fun h' st' sb => ?_
    have I1 : Inv X pins σ H { s with heap := h' } := I.turned (t' := s.toks) (fun b o hb e => (sb.2 b hb).trans e) f0 f1 f3 f4 f5
    obtain ⟨o, e, c, d⟩ := id st'
    exact ⟨u, rfl, go_of (s := { s with heap := h' }) e c d (by decide) ⟨x, H, I1, ru, ⟨rfl, fun ys hy => by rw [I.list_inj hy hq]; exact hx⟩, st', fun b hb => (hf b hb).1⟩⟩
  done := by
    intro X hP hw hK hc i pins s σ H E I hf st hg
    subst hP hw hK
    obtain ⟨xs, hq, hx⟩ := hg
    obtain ⟨its, rv, p, hz⟩ := I.list hq
    obtain ⟨f0, f1, f2, f3, f4, f5⟩ := hf it (by simp)
    have hl := rv.length
    exact wpAny_pyNext_list_end (I.ok.hd hc) st p.isList (by simp; omega) fun h' eb => ⟨rfl, I.turned (t' := s.toks) (fun b o hb e => eb b o hb e) f0 f1 f3 f4 f5⟩
  self := fun _ _ _ _ _ st h => wpAny_pyIter_listiter st h
theorem turn_tuple {P : Program} {w : World} {K : PySem.W.Frag} {tg : Expr} (a it : Addr) : Turn P w K tg (Itt K a) [it] it (fun i h => h.IsTupleIter it a i) where
  mem := by simp
  obj := fun i h st b hb => by
    have e : b = it := by simpa using hb
    subst e
    obtain ⟨o, e, c, d⟩ := st
    exact ⟨o, e, fun v z => by rw [d] at z; cases z⟩
  keep := fun i h h' st k => st.at fun o e => k it (by simp) o e
  item := by
    intro X hP hw hK hc i pins s σ H E I hf st hg
    subst hP hw hK
    obtain ⟨xs, x, hq, hx⟩ := hg
    obtain ⟨its, rv, p, hz⟩ := I.tuple hq
    obtain ⟨u, hu, ru⟩ := rv.get hx
    obtain ⟨f0, f1, f2, f3, f4, f5⟩ := hf it (by simp)
    refine wpAny_pyNext_tuple_item st (show s.heap.IsTuple a its.toArray from p) (x := u) (by simpa using hu) fun h' st' sb => ?_
    have I1 : Inv X pins σ H { s with heap := h' } := I.turned (t' := s.toks) (fun b o hb e => (sb.2 b hb).trans e) f0 f1 f3 f4 f5
    obtain ⟨o, e, c, d⟩ := id st'
    exact ⟨u, rfl, go_of (s := { s with heap := h' }) e c d (by decide) ⟨x, H, I1, ru, ⟨rfl, fun ys hy => by rw [I.tuple_inj hy hq]; exact hx⟩, st', fun b hb => (hf b hb).1⟩⟩
  done := by
    intro X hP hw hK hc i pins s σ H E I hf st hg
    subst hP hw hK
    obtain ⟨xs, hq, hx⟩ := hg
    obtain ⟨its, rv, p, hz⟩ := I.tuple hq
    obtain ⟨f0, f1, f2, f3, f4, f5⟩ := hf it (by simp)
    have hl := rv.length
    exact wpAny_pyNext_tuple_end (I.ok.hd hc) st (show s.heap.IsTuple a its.toArray from p) (by simp; omega) fun h' eb => ⟨rfl, I.turned (t' := s.toks) (fun b o hb e => eb b o hb e) f0 f1 f3 f4 f5⟩
  self := fun _ _ _ _ _ st h => wpAny_pyIter_tupleiter st h
theorem turn_range {P : Program} {w : World} {K : PySem.W.Frag} {tg : Expr} (it : Addr) (lo : Int) (n : Nat) : Turn P w K tg (Itr lo n) [it] it (fun i h => IsRangeIter h it (lo + (i : Nat) * 1) ((n : Int) - (i : Nat)) 1) where
  mem := by simp
  obj := fun i h st b hb => by
    have e : b = it := by simpa using hb
    subst e
    exact ⟨_, st, fun v z => by
      have z' : Data.fields _ = Data.cell v := z
      cases z'⟩
  keep := fun i h h' st k => k it (by simp) _ st
  item := by
    intro X hP hw hK hc i pins s σ H E I hf st hg
    subst hP hw hK
    obtain ⟨f0, f1, f2, f3, f4, f5⟩ := hf it (by simp)
    have W := Walks.range (prog := X.prog) (w := X.w) (I.ok.hd hc) it lo 1 n
    refine W.item i s _ _ hg st fun v h' tk hv st' kk => ?_
    obtain ⟨t, rfl⟩ := hv
    have I1 : Inv X pins σ H { s with heap := h', toks := tk } := I.turned (fun b o hb e => kk b o (by simpa using hb) e) f0 f1 f3 f4 f5
    refine ⟨_, rfl, go_of (s := { s with heap := h', toks := tk }) (n := "range_iterator") st' rfl rfl (by decide) ⟨.int (lo + i), H, I1, ⟨t, ?_⟩, ⟨rfl, rfl⟩, st', fun b hb => (hf b hb).1⟩⟩
    rw [Int.mul_one]
  done := by
    intro X hP hw hK hc i pins s σ H E I hf st hg
    subst hP hw hK
    obtain ⟨f0, f1, f2, f3, f4, f5⟩ := hf it (by simp)
    exact wpAny_pyNext_range_end (I.ok.hd hc) st (by have : n ≤ i := hg; omega) fun h' eb => ⟨rfl, I.turned (t' := s.toks) (fun b o hb e => eb b o hb e) f0 f1 f3 f4 f5⟩
  self := fun _ _ _ _ _ st h => wpAny_pyIter_rangeiter st h
end L2

namespace L2
open PySem PySem.Spec PyProof.Rows
section
variable {X : Cx} {tg : Expr}
def iList (K : PySem.W.Frag) (tl : TE) : TI := fun σ H R => tl σ H fun x H1 => ∃ a, x = .ref a ∧ (∃ xs, SqL K H1 a xs) ∧ R (Itl K a) H1
def iTup (K : PySem.W.Frag) (tl : TE) : TI := fun σ H R => tl σ H fun x H1 => ∃ a, x = .ref a ∧ (∃ xs, SqT K H1 a xs) ∧ R (Itt K a) H1
theorem pi_list {l : Expr} {tl : TE} (hl : PE X l tl) : PI X tg l (iList X.K tl) := by
  intro pins s σ H R I h
  refine thn (hl pins s σ H _ I h) fun v s1 ⟨x, H1, I1, r1, q1⟩ => ?_
  obtain ⟨a, e, ⟨xs, hq⟩, q⟩ := q1
  subst e
  cases r1
  obtain ⟨its, rv, p, hz⟩ := I1.list hq
  refine wpAny_pyIter_list p.isList ?_
  refine ⟨s1.heap.objs.size, [s1.heap.objs.size], _, _, H1, rfl, I1.kept (t' := s1.toks) fun b o e => Heap.get?_push_of_some _ e, turn_list a _, ⟨_, Heap.get?_push_size _ rfl, rfl, rfl⟩, fun b hb => ?_, q⟩
  have e : b = s1.heap.objs.size := by simpa using hb
  subst e
  exact I1.fpOk (Nat.le_refl _) (I1.hok.fresh (Nat.le_refl _))
theorem pi_tup {l : Expr} {tl : TE} (hl : PE X l tl) : PI X tg l (iTup X.K tl) := by
  intro pins s σ H R I h
  refine thn (hl pins s σ H _ I h) fun v s1 ⟨x, H1, I1, r1, q1⟩ => ?_
  obtain ⟨a, e, ⟨xs, hq⟩, q⟩ := q1
  subst e
  cases r1
  obtain ⟨its, rv, p, hz⟩ := I1.tuple hq
  refine wpAny_pyIter_tuple (show s1.heap.IsTuple a its.toArray from p) ?_
  refine ⟨s1.heap.objs.size, [s1.heap.objs.size], _, _, H1, rfl, I1.kept (t' := s1.toks) fun b o e => Heap.get?_push_of_some _ e, turn_tuple a _, ⟨_, Heap.get?_push_size _ rfl, rfl, rfl⟩, fun b hb => ?_, q⟩
  have e : b = s1.heap.objs.size := by simpa using hb
  subst e
  exact I1.fpOk (Nat.le_refl _) (I1.hok.fresh (Nat.le_refl _))
/-- a range object just made, walked -/
theorem range_it {pins : List (Addr × Obj)} {σ : St} {H : Hp} {s : Shared} {R : It → Hp → Prop} {E : Value → Shared → Prop} {lo hi : Int} {t u v : Tok} {tk : Nat} (I : Inv X pins σ H s) (h1 : -(2 ^ 62) ≤ lo) (h2 : lo < 2 ^ 62) (h3 : -(2 ^ 62) ≤ hi) (h4 : hi < 2 ^ 62)
    (q : R (Itr lo (hi - lo).toNat) H) : wpAny (model X.prog X.w) X.A (pyIter (.ref s.heap.objs.size)) (PIE X pins σ tg R) E { s with heap := s.heap.push { cls := .type "range", data := .fields #[.int lo t, .int hi u, .int 1 v] }, toks := tk } := by
  refine wpAny_pyIter_range (IsRange.new ..) (small_one h1 h2 h3 h4) ?_
  have I1 : Inv X pins σ H { s with heap := s.heap.push { cls := .type "range", data := .fields #[.int lo t, .int hi u, .int 1 v] }, toks := tk } := I.kept fun b o e => Heap.get?_push_of_some _ e
  refine ⟨(s.heap.push { cls := .type "range", data := .fields #[.int lo t, .int hi u, .int 1 v] }).objs.size, [(s.heap.push { cls := .type "range", data := .fields #[.int lo t, .int hi u, .int 1 v] }).objs.size], _, _, H, rfl,
    I1.kept (t' := tk) fun b o e => Heap.get?_push_of_some _ e, turn_range _ lo (hi - lo).toNat, ?_, fun b hb => ?_, q⟩
  · have e1 : lo + ((0 : Nat) : Int) * 1 = lo := by simp
    have e2 : (((hi - lo).toNat : Nat) : Int) - ((0 : Nat) : Int) = Builtin.Range.rangeSize lo hi 1 := by rw [rangeSize_one]; split <;> omega
    show IsRangeIter _ _ (lo + ((0 : Nat) : Int) * 1) ((((hi - lo).toNat : Nat) : Int) - ((0 : Nat) : Int)) 1
    rw [e1, e2]
    exact Heap.get?_push_size _ rfl
  · have e : b = (s.heap.push { cls := .type "range", data := .fields #[.int lo t, .int hi u, .int 1 v] }).objs.size := by simpa using hb
    subst e
    exact I1.fpOk (Nat.le_refl _) (I1.hok.fresh (Nat.le_refl _))
def iRng1 (ta : TA) : TI := fun σ H R => ta σ H fun vs H1 => ∃ j : Int, vs = [.int j] ∧ -(2 ^ 62) ≤ j ∧ j < 2 ^ 62 ∧ R (Itr 0 j.toNat) H1
def iRng2 (ta : TA) : TI := fun σ H R => ta σ H fun vs H1 => ∃ i j : Int, vs = [.int i, .int j] ∧ (-(2 ^ 62) ≤ i ∧ i < 2 ^ 62 ∧ -(2 ^ 62) ≤ j ∧ j < 2 ^ 62) ∧ R (Itr i (j - i).toNat) H1
theorem pi_range1 {a : Expr} {ta : TA} {p pos : Pos} (hg : Gl X "range") (hm : X.mg "range" = none) (ha : PA X [a] ta) (hs : starEach [a] X.env = [(false, eval a X.env)] := by rfl) : PI X tg (.Call (.Name "range" p) [a] [] pos) (iRng1 ta) := by
  intro pins s σ H R I h
  refine Call_ (ld_blt I hg hm boot_range (PyProof.Rows.callWith_type1 (thn (ha pos pins s σ H _ I h) fun us s1 ⟨vs, H1, I1, r1, q1⟩ => ?_) hs rfl))
  obtain ⟨j, e, q1, q2, q⟩ := q1
  subst e
  cases r1 with
  | cons r rr =>
    cases rr
    obtain ⟨t, rfl⟩ := r
    exact call_range_1 (range_it I1 (by omega) (by omega) q1 q2 (by simpa using q))
theorem pi_range2 {a b : Expr} {ta : TA} {p pos : Pos} (hg : Gl X "range") (hm : X.mg "range" = none) (ha : PA X [a, b] ta) (hs : starEach [a, b] X.env = [(false, eval a X.env), (false, eval b X.env)] := by rfl) (hs2 : starEach [b] X.env = [(false, eval b X.env)] := by rfl) :
    PI X tg (.Call (.Name "range" p) [a, b] [] pos) (iRng2 ta) := by
  intro pins s σ H R I h
  refine Call_ (ld_blt I hg hm boot_range (PyProof.Rows.callWith_type1 (thn (ha pos pins s σ H _ I h) fun us s1 ⟨vs, H1, I1, r1, q1⟩ => ?_) (by rw [hs, hs2]) (by rw [hs2]; rfl)))
  obtain ⟨i, j, e, ⟨q1, q2, q3, q4⟩, q⟩ := q1
  subst e
  cases r1 with
  | cons r rr =>
    cases rr with
    | cons r' rr =>
      cases rr
      obtain ⟨t, rfl⟩ := r
      obtain ⟨t', rfl⟩ := r'
      exact call_range_2 (range_it I1 q1 q2 q3 q4 q)

/-! ### for -/
/-- W: the invariant by the turn and a measure; N: what the body is to reach -/
def tFor (wi : TI) (g : TG) (tb : TS) : TS := fun D σ H => wi σ H fun J H1 => ∃ W : Nat → Nat → St → Hp → Prop, (∃ m, W 0 m σ H1) ∧ ∀ i m σ H, W i m σ H →
  (J.stop i H ∧ D.nx σ H) ∨ (J.go i H ∧ ∃ N : St → Hp → Prop, (∀ σ' H', N σ' H' → ∃ m', m' < m ∧ W (i + 1) m' σ' H') ∧ ∀ x H', J.yld i H x H' → g x σ H' fun σ2 H2 => tb { D with nx := N, ct := N, bk := D.nx } σ2 H2)
/-- the records at fp as they stand -/
def pinsAt (fp : List Addr) (h : Heap) : List (Addr × Obj) := fp.filterMap fun b => (h.get? b).map fun o => (b, o)
theorem mem_pinsAt {fp : List Addr} {h : Heap} {b : Addr} {o : Obj} (hb : b ∈ fp) (e : h.get? b = some o) : (b, o) ∈ pinsAt fp h := List.mem_filterMap.mpr ⟨b, hb, by rw [e]; rfl⟩
theorem of_pinsAt {fp : List Addr} {h : Heap} {p : Addr × Obj} (hp : p ∈ pinsAt fp h) : p.1 ∈ fp ∧ h.get? p.1 = some p.2 := by
  obtain ⟨b, hb, e⟩ := List.mem_filterMap.mp hp
  cases q : h.get? b with
  | none => rw [q] at e; cases e
  | some o =>
    rw [q] at e
    have e' : (b, o) = p := Option.some.inj e
    subst e'
    exact ⟨hb, q⟩
theorem Inv.pinned {pins : List (Addr × Obj)} {σ : St} {H : Hp} {s : Shared} {fp : List Addr} (I : Inv X pins σ H s) (hf : ∀ b ∈ fp, FpOk X pins H b) (ho : ∀ b ∈ fp, ∃ o, s.heap.get? b = some o ∧ ∀ v, o.data ≠ .cell v) : Inv X (pins ++ pinsAt fp s.heap) σ H s :=
  I.pins_of fun p hp => (List.mem_append.mp hp).elim (fun z => I.pin p (List.mem_append_right _ z)) fun z => by
    obtain ⟨hb, e⟩ := of_pinsAt z
    obtain ⟨f0, f1, f2, _⟩ := hf p.1 hb
    obtain ⟨o, e', d⟩ := ho p.1 hb
    rw [e] at e'; cases e'
    exact ⟨e, f0, f1, f2, d⟩
theorem Inv.unpinned {pins pl : List (Addr × Obj)} {σ : St} {H : Hp} {s : Shared} (I : Inv X (pins ++ pl) σ H s) : Inv X pins σ H s := I.pins_of fun p hp => I.pin p (List.mem_append_right _ (List.mem_append_left _ hp))
theorem ps_for {iter : Expr} {body : List Stmt} {wi : TI} {g : TG} {tb : TS} {pos : Pos} (hp : PassesOwn (model X.prog X.w) X.A X.env X.xe) (hc : X.calm = true) (hi : PI X tg iter wi) (hg : PG X tg g) (hb : PSs X body tb)
    (hs : ∀ x, foldedSetIterable iter X.env x = pure x := by intro _; rfl) : PS X (.For tg iter body [] pos) (tFor wi g tb) := by
  intro pins s σ H D I h
  refine wpAny_For (thn (hi pins s σ H _ I h) fun v s1 h1 => thn h1 fun itv s2 h2 => ?_) hs
  obtain ⟨it, fp, tn, J, H2, e, I2, T, st2, f2, W, ⟨m0, w0⟩, turn⟩ := h2
  subst e
  -- what stays true of the iterator's objects through the loop
  have stat : ∀ {H' : Hp}, (∀ b ∈ fp, H' b = none) → ∀ b ∈ fp, FpOk X pins H' b := fun hn b hb => ⟨hn b hb, (f2 b hb).2⟩
  refine codeAny_forLoop_any (fun n s' => ∃ i σ' H', Inv X pins σ' H' s' ∧ tn i s'.heap ∧ (∀ b ∈ fp, H' b = none) ∧ W i n σ' H') ?_ m0 ⟨0, σ, H2, I2, st2, fun b hb => (f2 b hb).1, w0⟩
  rintro n s3 ⟨i, σ3, H3, I3, st3, fr3, w3⟩
  rcases turn i n σ3 H3 w3 with ⟨stop, qn⟩ | ⟨go, N, hN, step⟩
  · refine wpAny_passesOwn hp (thn (T.done X rfl rfl rfl hc i pins s3 σ3 H3 X.xe I3 (stat fr3) st3 stop) fun r s4 ⟨hr, I4⟩ => ?_)
    subst hr
    exact wpAny_execs_nil ⟨σ3, H3, I4, qn⟩
  · refine wpAny_passesOwn hp (thn (T.item X rfl rfl rfl hc i pins s3 σ3 H3 X.xe I3 (stat fr3) st3 go) fun r s4 ⟨u, hr, h4⟩ => ?_)
    subst hr
    refine wpAny_passesOwn hp (thn h4 fun _ s5 ⟨x, H5, I5, r5, y5, st5, fr5⟩ => ?_)
    have I5' := I5.pinned (stat fr5) (T.obj _ _ st5)
    refine wpAny_passesOwn hp (thn (hg _ s5 σ3 H5 x u _ I5' r5 (step x H5 y5)) fun _ s6 ⟨σ6, H6, I6, q6⟩ => ?_)
    refine wpAny_passesOwn hp (thn (hb _ s6 σ6 H6 _ I6 q6) fun f s7 q7 => ?_)
    have again : ∀ {σ7 : St} {H7 : Hp}, Inv X (pins ++ pinsAt fp s5.heap) σ7 H7 s7 → N σ7 H7 → ∃ m, m < n ∧ ∃ i σ' H', Inv X pins σ' H' s7 ∧ tn i s7.heap ∧ (∀ b ∈ fp, H' b = none) ∧ W i m σ' H' := fun {σ7 H7} I7 n7 => by
      obtain ⟨m', hm, w7⟩ := hN σ7 H7 n7
      refine ⟨m', hm, i + 1, σ7, H7, I7.unpinned, T.keep _ _ _ st5 fun b hb o e => (I7.pin (b, o) (List.mem_append_right _ (List.mem_append_right _ (mem_pinsAt hb e)))).1, fun b hb => ?_, w7⟩
      obtain ⟨o, e, d⟩ := T.obj _ _ st5 b hb
      exact (I7.pin (b, o) (List.mem_append_right _ (List.mem_append_right _ (mem_pinsAt hb e)))).2.1
    cases f with
    | next => obtain ⟨σ7, H7, I7, n7⟩ := q7; exact again I7 n7
    | cont => obtain ⟨σ7, H7, I7, n7⟩ := q7; exact again I7 n7
    | brk => obtain ⟨σ7, H7, I7, q7⟩ := q7; exact ⟨σ7, H7, I7.unpinned, q7⟩
    | ret v => obtain ⟨x7, σ7, H7, I7, r7, q7⟩ := q7; exact ⟨x7, σ7, H7, I7.unpinned, r7, q7⟩
end

/-! ### the forms one uses -/
/-- over a list that the body leaves as it is -/
theorem for_list {K : PySem.W.Frag} {a : Addr} {xs : List V} {g : TG} {tb : TS} {D : Ends} {σ : St} {H : Hp} (Pv : Nat → St → Hp → Prop) (h0 : Pv 0 σ H) (hl : ∀ i σ H, i ≤ xs.length → Pv i σ H → SqL K H a xs)
    (hs : ∀ i x σ H, xs[i]? = some x → Pv i σ H → g x σ H fun σ2 H2 => tb { D with nx := Pv (i + 1), ct := Pv (i + 1), bk := D.nx } σ2 H2) (hd : ∀ σ H, Pv xs.length σ H → D.nx σ H) :
    ∃ W : Nat → Nat → St → Hp → Prop, (∃ m, W 0 m σ H) ∧ ∀ i m σ H, W i m σ H →
      ((Itl K a).stop i H ∧ D.nx σ H) ∨ ((Itl K a).go i H ∧ ∃ N : St → Hp → Prop, (∀ σ' H', N σ' H' → ∃ m', m' < m ∧ W (i + 1) m' σ' H') ∧ ∀ x H', (Itl K a).yld i H x H' → g x σ H' fun σ2 H2 => tb { D with nx := N, ct := N, bk := D.nx } σ2 H2) := by
  refine ⟨fun i m σ H => m = xs.length - i ∧ i ≤ xs.length ∧ Pv i σ H, ⟨xs.length, by simp, Nat.zero_le _, h0⟩, ?_⟩
  rintro i m σ H ⟨rfl, hi, p⟩
  have q := hl i σ H hi p
  by_cases hlt : i < xs.length
  · refine .inr ⟨⟨xs, xs[i], q, by simp [hlt]⟩, Pv (i + 1), fun σ' H' p' => ⟨xs.length - (i + 1), by omega, rfl, hlt, p'⟩, fun x H' y => ?_⟩
    obtain ⟨e, y⟩ := y
    subst e
    exact hs i x σ _ (y xs q) p
  · have e : i = xs.length := by omega
    subst e
    exact .inl ⟨⟨xs, q, Nat.le_refl _⟩, hd σ H p⟩
theorem for_range {lo : Int} {n : Nat} {g : TG} {tb : TS} {D : Ends} {σ : St} {H : Hp} (Pv : Nat → St → Hp → Prop) (h0 : Pv 0 σ H)
    (hs : ∀ i σ H, i < n → Pv i σ H → g (.int (lo + i)) σ H fun σ2 H2 => tb { D with nx := Pv (i + 1), ct := Pv (i + 1), bk := D.nx } σ2 H2) (hd : ∀ σ H, Pv n σ H → D.nx σ H) :
    ∃ W : Nat → Nat → St → Hp → Prop, (∃ m, W 0 m σ H) ∧ ∀ i m σ H, W i m σ H →
      ((Itr lo n).stop i H ∧ D.nx σ H) ∨ ((Itr lo n).go i H ∧ ∃ N : St → Hp → Prop, (∀ σ' H', N σ' H' → ∃ m', m' < m ∧ W (i + 1) m' σ' H') ∧ ∀ x H', (Itr lo n).yld i H x H' → g x σ H' fun σ2 H2 => tb { D with nx := N, ct := N, bk := D.nx } σ2 H2) := by
  refine ⟨fun i m σ H => m = n - i ∧ i ≤ n ∧ Pv i σ H, ⟨n, by simp, Nat.zero_le _, h0⟩, ?_⟩
  rintro i m σ H ⟨rfl, hi, p⟩
  by_cases hlt : i < n
  · refine .inr ⟨hlt, Pv (i + 1), fun σ' H' p' => ⟨n - (i + 1), by omega, rfl, hlt, p'⟩, fun x H' y => ?_⟩
    obtain ⟨e, y⟩ := y
    subst e y
    exact hs i σ _ hlt p
  · have e : i = n := by omega
    subst e
    exact .inl ⟨Nat.le_refl _, hd σ H p⟩
end L2

namespace L2
open PySem PySem.Spec PyProof.Rows

abbrev R2 := V → V → Hp → VK → Prop
/-- a two-place operation on values: f is binaryOp op, inplaceOp op or compareOp op -/
def OpR (X : Cx) (f : Value → Value → Sem Value) (r : R2) : Prop :=
  ∀ (pins : List (Addr × Obj)) (s : Shared) (σ : St) (H : Hp) (x y : V) (v u : Value) (Q : VK), Inv X pins σ H s → RelV x v → RelV y u → r x y H Q →
    wpAny (model X.prog X.w) X.A (f v u) (EP X pins σ Q) X.xe s
/-- a one-place operation -/
def UnR (X : Cx) (f : Value → Sem Value) (r : V → Hp → VK → Prop) : Prop :=
  ∀ (pins : List (Addr × Obj)) (s : Shared) (σ : St) (H : Hp) (x : V) (v : Value) (Q : VK), Inv X pins σ H s → RelV x v → r x H Q →
    wpAny (model X.prog X.w) X.A (f v) (EP X pins σ Q) X.xe s
/-- a call of a value that is known (a builtin, a type) with values -/
def CallR (X : Cx) (f : Value) (r : List V → Hp → VK → Prop) : Prop :=
  ∀ (pins : List (Addr × Obj)) (s : Shared) (σ : St) (H : Hp) (xs : List V) (us : List Value) (Q : VK), Inv X pins σ H s → Vals xs us → r xs H Q →
    wpAny (model X.prog X.w) X.A (call f us) (EP X pins σ Q) X.xe s
/-- a value's truth -/
def TruR (X : Cx) (r : V → Hp → (Bool → Hp → Prop) → Prop) : Prop :=
  ∀ (pins : List (Addr × Obj)) (s : Shared) (σ : St) (H : Hp) (x : V) (v : Value) (Q : Bool → Hp → Prop), Inv X pins σ H s → RelV x v → r x H Q →
    wpAny (model X.prog X.w) X.A (truthy v) (TP X pins σ Q) X.xe s

def tOp (r : R2) (ta tb : TE) : TE := fun σ H Q => ta σ H fun x H1 => tb σ H1 fun y H2 => r x y H2 Q
def tUn (r : V → Hp → VK → Prop) (ta : TE) : TE := fun σ H Q => ta σ H fun x H1 => r x H1 Q
/-- ints in, under C, and a value out -/
def rI (C : Int → Int → Prop) (g : Int → Int → V) : R2 := fun x y H Q => ∃ i j, x = .int i ∧ y = .int j ∧ C i j ∧ Q (g i j) H
def rI0 (g : Int → Int → V) : R2 := fun x y H Q => ∃ i j, x = .int i ∧ y = .int j ∧ Q (g i j) H
def rU (g : Int → V) : V → Hp → VK → Prop := fun x H Q => ∃ i, x = .int i ∧ Q (g i) H

section
variable {X : Cx} {a b c : Expr} {ta tb tc : TE} {pos : Pos}

theorem binT (ha : PE X a ta) (hb : PE X b tb) {pins : List (Addr × Obj)} {s : Shared} {σ : St} {H : Hp} {R : V → V → Hp → Prop} (I : Inv X pins σ H s)
    (h : ta σ H fun x H1 => tb σ H1 fun y H2 => R x y H2) {Q : Value → Shared → Prop} {f : Value → Value → Sem Value}
    (hf : ∀ v u s2 x y H2, Inv X pins σ H2 s2 → RelV x v → RelV y u → R x y H2 → wpAny (model X.prog X.w) X.A (f v u) Q X.xe s2) :
    wpAny (model X.prog X.w) X.A (eval a X.env) (fun v s₁ => wpAny (model X.prog X.w) X.A (eval b X.env) (fun u s₂ => wpAny (model X.prog X.w) X.A (f v u) Q X.xe s₂) X.xe s₁) X.xe s := by
  refine thn (ha pins s σ H _ I h) fun v s1 ⟨x, H1, I1, r1, q1⟩ => ?_
  refine thn (hb pins s1 σ H1 _ I1 q1) fun u s2 ⟨y, H2, I2, r2, q2⟩ => ?_
  exact hf v u s2 x y H2 I2 r1 r2 q2

theorem pe_op {op : Operator} {r : R2} (ho : OpR X (binaryOp op) r) (ha : PE X a ta) (hb : PE X b tb) : PE X (.BinOp a op b pos) (tOp r ta tb) := by
  intro pins s σ H Q I h
  exact wpAny_BinOp (binT ha hb I h fun v u s2 x y H2 I2 rx ry q => ho pins s2 σ H2 x y v u Q I2 rx ry q)
theorem pe_un {op : UnaryOp} {r : V → Hp → VK → Prop} (ho : UnR X (unaryOp op) r) (ha : PE X a ta) : PE X (.UnaryOp op a pos) (tUn r ta) := by
  intro pins s σ H Q I h
  exact UnaryOp_ (thn (ha pins s σ H _ I h) fun v s1 ⟨x, H1, I1, r1, q1⟩ => ho pins s1 σ H1 x v Q I1 r1 q1)
/-! ### ints -/
theorem opI {f : Value → Value → Sem Value} {C : Int → Int → Prop} {g : Int → Int → Int}
    (rule : ∀ (i j : Int) (t u : Tok) (s : Shared) (Q : Value → Shared → Prop) (E : Value → Shared → Prop), C i j → Q (.int (g i j) s.toks) { s with toks := s.toks + 1 } → wpAny (model X.prog X.w) X.A (f (.int i t) (.int j u)) Q E s) :
    OpR X f (rI C fun i j => .int (g i j)) := by
  intro pins s σ H x y v u Q I rx ry h
  obtain ⟨i, j, rfl, rfl, hc, q⟩ := h
  obtain ⟨t, rfl⟩ := rx
  obtain ⟨t', rfl⟩ := ry
  exact rule i j t t' s _ _ hc ⟨.int (g i j), H, I.tok _, ⟨_, rfl⟩, q⟩
theorem opI0 {f : Value → Value → Sem Value} {g : Int → Int → Int}
    (rule : ∀ (i j : Int) (t u : Tok) (s : Shared) (Q : Value → Shared → Prop) (E : Value → Shared → Prop), Q (.int (g i j) s.toks) { s with toks := s.toks + 1 } → wpAny (model X.prog X.w) X.A (f (.int i t) (.int j u)) Q E s) :
    OpR X f (rI0 fun i j => .int (g i j)) := by
  intro pins s σ H x y v u Q I rx ry h
  obtain ⟨i, j, rfl, rfl, q⟩ := h
  obtain ⟨t, rfl⟩ := rx
  obtain ⟨t', rfl⟩ := ry
  exact rule i j t t' s _ _ ⟨.int (g i j), H, I.tok _, ⟨_, rfl⟩, q⟩
theorem opB0 {f : Value → Value → Sem Value} {g : Int → Int → Bool}
    (rule : ∀ (i j : Int) (t u : Tok) (s : Shared) (Q : Value → Shared → Prop) (E : Value → Shared → Prop), Q (.bool (g i j)) s → wpAny (model X.prog X.w) X.A (f (.int i t) (.int j u)) Q E s) :
    OpR X f (rI0 fun i j => .bl (g i j)) := by
  intro pins s σ H x y v u Q I rx ry h
  obtain ⟨i, j, rfl, rfl, q⟩ := h
  obtain ⟨t, rfl⟩ := rx
  obtain ⟨t', rfl⟩ := ry
  exact rule i j t t' s _ _ ⟨.bl (g i j), H, I, rfl, q⟩

def CDiv (i j : Int) : Prop := 0 < j ∧ j < 1073741824
def CDivN (i j : Int) : Prop := j ≠ 0 ∧ j.natAbs < 1073741824
def CPow (i j : Int) : Prop := 0 ≤ j ∧ j ≤ 1000000 ∧ i.natAbs < 2 ^ 64
def CMul (i j : Int) : Prop := (-(2 ^ 64) < i ∧ i < 2 ^ 64) ∨ (-(2 ^ 64) < j ∧ j < 2 ^ 64)
theorem CMul.ok {i j : Int} (h : CMul i j) : IntMulOk i j := by
  rcases h with ⟨h1, h2⟩ | ⟨h1, h2⟩
  · exact .of_left (intBits_le_64 h1 h2)
  · exact .of_right (intBits_le_64 h1 h2)
theorem two_pow_nn (k : Nat) : (0 : Int) ≤ 2 ^ k := by
  rw [two_pow_cast]
  exact Int.natCast_nonneg _

theorem op_add : OpR X (binaryOp .Add) (rI0 fun i j => .int (i + j)) := opI0 fun _ _ _ _ _ _ _ q => add_int q
theorem op_sub : OpR X (binaryOp .Sub) (rI0 fun i j => .int (i - j)) := opI0 fun _ _ _ _ _ _ _ q => sub_int q
theorem op_mul : OpR X (binaryOp .Mult) (rI CMul fun i j => .int (i * j)) := opI fun _ _ _ _ _ _ _ hc q => mul_int q hc.ok
/-- // by a positive divisor -/
theorem op_fdiv : OpR X (binaryOp .FloorDiv) (rI CDiv fun i j => .int (i / j)) := opI fun i j _ _ _ _ _ hc q => by
  have h1 : (0 : Int) < j := hc.1
  have h2 : j < 1073741824 := hc.2
  exact floordiv_int (by omega) (by rw [Int.fdiv_eq_ediv_of_nonneg i (by omega)]; exact q) (.inl (PyProof.noPylong_small (by omega)))
/-- % by a positive divisor of any size -/
theorem op_mod : OpR X (binaryOp .Mod) (rI (fun _ j => 0 < j) fun i j => .int (i % j)) := opI fun i j _ _ _ _ _ hc q => by
  have h1 : (0 : Int) < j := hc
  exact mod_int' (by omega) (by rw [Int.fmod_eq_emod_of_nonneg i (by omega)]; exact q)
theorem op_pow : OpR X (binaryOp .Pow) (rI CPow fun i j => .int (i ^ j.toNat)) := opI fun _ _ _ _ _ _ _ hc q => pow_int_small hc.1 hc.2.1 hc.2.2 q
theorem op_shr : OpR X (binaryOp .RShift) (rI (fun _ j => 0 ≤ j) fun i j => .int (i / 2 ^ j.toNat)) := opI fun i j _ _ _ _ _ hc q =>
  rshift_int hc (by rw [Int.fdiv_eq_ediv_of_nonneg i (two_pow_nn _)]; exact q)
theorem op_and : OpR X (binaryOp .BitAnd) (rI0 fun i j => .int (Builtin.bitAnd i j)) := opI0 fun _ _ _ _ _ _ _ q => and_int q
theorem unI {f : Value → Sem Value} {g : Int → Int}
    (rule : ∀ (i : Int) (t : Tok) (s : Shared) (Q : Value → Shared → Prop) (E : Value → Shared → Prop), Q (.int (g i) s.toks) { s with toks := s.toks + 1 } → wpAny (model X.prog X.w) X.A (f (.int i t)) Q E s) :
    UnR X f (rU fun i => .int (g i)) := by
  intro pins s σ H x v Q I rx h
  obtain ⟨i, rfl, q⟩ := h
  obtain ⟨t, rfl⟩ := rx
  exact rule i t s _ _ ⟨.int (g i), H, I.tok _, ⟨_, rfl⟩, q⟩
theorem un_neg : UnR X (unaryOp .USub) (rU fun i => .int (-i)) := unI fun _ _ _ _ _ q => neg_int q
/-! ### bools among ints: n += (a < b) -/
end

/-! ### comparisons -/
/-- the scalars that == tells apart as data does -/
def scal : V → V → Bool
  | .non, .non => true | .non, .int _ => true | .int _, .non => true | .non, .bl _ => true | .bl _, .non => true | .non, .str _ => true | .str _, .non => true
  | .int _, .int _ => true | .bl _, .bl _ => true | .str _, .str _ => true | .byt _, .byt _ => true
  | .int _, .str _ => true | .str _, .int _ => true | .bl _, .str _ => true | .str _, .bl _ => true
  | _, _ => false
def rEq : R2 := fun x y H Q => scal x y = true ∧ Q (.bl (decide (x = y))) H
def rNe : R2 := fun x y H Q => scal x y = true ∧ Q (.bl (!decide (x = y))) H

theorem dec_int {i j : Int} : decide (V.int i = V.int j) = (i == j) := by
  rw [Bool.eq_iff_iff]
  simp
theorem dec_bl {i j : Bool} : decide (V.bl i = V.bl j) = (i == j) := by
  rw [Bool.eq_iff_iff]
  simp
theorem dec_str {i j : Str} : decide (V.str i = V.str j) = (i == j) := by
  rw [Bool.eq_iff_iff]
  simp
theorem dec_byt {i j : Array UInt8} : decide (V.byt i = V.byt j) = (i.toList == j.toList) := by
  rw [Bool.eq_iff_iff]
  cases i
  cases j
  simp

section
variable {X : Cx} {a b c : Expr} {ta tb tc : TE} {pos : Pos}
theorem fin_bl {pins : List (Addr × Obj)} {σ : St} {H : Hp} {s : Shared} {Q : VK} {k k' : Bool} (I : Inv X pins σ H s) (q : Q (.bl k) H) (e : k = k') : EP X pins σ Q (.bool k') s := by
  subst e
  exact ⟨.bl k, H, I, rfl, q⟩
theorem op_eq : OpR X (compareOp .Eq) rEq := by
  intro pins s σ H x y v u Q I rx ry h
  obtain ⟨hs, q⟩ := h
  cases x with
  | non =>
    cases rx
    cases y with
    | non => cases ry; exact PySem.EqNone.eq_none_none (fin_bl I q (by simp))
    | bl j => cases ry; exact PySem.EqNone.eq_none_bool (fin_bl I q (by simp))
    | int j => obtain ⟨t', rfl⟩ := ry; exact PySem.EqNone.eq_none_int (fin_bl I q (by simp))
    | str j => obtain ⟨t', rfl⟩ := ry; exact PySem.EqNone.eq_none_str (fin_bl I q (by simp))
    | _ => exact absurd (show false = true from hs) Bool.false_ne_true
  | bl i =>
    cases rx
    cases y with
    | non => cases ry; exact PySem.EqNone.eq_bool_none (fin_bl I q (by simp))
    | bl j => cases ry; exact eq_bool (fin_bl I q dec_bl)
    | str j => obtain ⟨t', rfl⟩ := ry; exact PySem.EqMixed.eq_bool_str (fin_bl I q (by simp))
    | _ => exact absurd (show false = true from hs) Bool.false_ne_true
  | int i =>
    obtain ⟨t, rfl⟩ := rx
    cases y with
    | non => cases ry; exact PySem.EqNone.eq_int_none (fin_bl I q (by simp))
    | int j => obtain ⟨t', rfl⟩ := ry; exact eq_int (fin_bl I q dec_int)
    | str j => obtain ⟨t', rfl⟩ := ry; exact PySem.EqMixed.eq_int_str (fin_bl I q (by simp))
    | _ => exact absurd (show false = true from hs) Bool.false_ne_true
  | str i =>
    obtain ⟨t, rfl⟩ := rx
    cases y with
    | non => cases ry; exact PySem.EqNone.eq_str_none (fin_bl I q (by simp))
    | bl j => cases ry; exact PySem.EqMixed.eq_str_bool (fin_bl I q (by simp))
    | int j => obtain ⟨t', rfl⟩ := ry; exact PySem.EqMixed.eq_str_int (fin_bl I q (by simp))
    | str j => obtain ⟨t', rfl⟩ := ry; exact eq_str (fin_bl I q dec_str)
    | _ => exact absurd (show false = true from hs) Bool.false_ne_true
  | byt i =>
    obtain ⟨t, rfl⟩ := rx
    cases y with
    | byt j => obtain ⟨t', rfl⟩ := ry; exact PySem.W.eq_bytes (fin_bl I q dec_byt)
    | _ => exact absurd (show false = true from hs) Bool.false_ne_true
  | _ => cases y <;> exact absurd (show false = true from hs) Bool.false_ne_true
theorem op_ne : OpR X (compareOp .NotEq) rNe := by
  intro pins s σ H x y v u Q I rx ry h
  obtain ⟨hs, q⟩ := h
  cases x with
  | non =>
    cases rx
    cases y with
    | non => cases ry; exact PySem.EqNone.ne_none_none (fin_bl I q (by simp))
    | bl j => cases ry; exact PySem.EqNone.ne_none_bool (fin_bl I q (by simp))
    | int j => obtain ⟨t', rfl⟩ := ry; exact PySem.EqNone.ne_none_int (fin_bl I q (by simp))
    | str j => obtain ⟨t', rfl⟩ := ry; exact PySem.EqNone.ne_none_str (fin_bl I q (by simp))
    | _ => exact absurd (show false = true from hs) Bool.false_ne_true
  | bl i =>
    cases rx
    cases y with
    | non => cases ry; exact PySem.EqNone.ne_bool_none (fin_bl I q (by simp))
    | bl j => cases ry; exact ne_bool (fin_bl I q (congrArg not dec_bl))
    | str j => obtain ⟨t', rfl⟩ := ry; exact PySem.EqMixed.ne_bool_str (fin_bl I q (by simp))
    | _ => exact absurd (show false = true from hs) Bool.false_ne_true
  | int i =>
    obtain ⟨t, rfl⟩ := rx
    cases y with
    | non => cases ry; exact PySem.EqNone.ne_int_none (fin_bl I q (by simp))
    | int j => obtain ⟨t', rfl⟩ := ry; exact ne_int (fin_bl I q (congrArg not dec_int))
    | str j => obtain ⟨t', rfl⟩ := ry; exact PySem.EqMixed.ne_int_str (fin_bl I q (by simp))
    | _ => exact absurd (show false = true from hs) Bool.false_ne_true
  | str i =>
    obtain ⟨t, rfl⟩ := rx
    cases y with
    | non => cases ry; exact PySem.EqNone.ne_str_none (fin_bl I q (by simp))
    | bl j => cases ry; exact PySem.EqMixed.ne_str_bool (fin_bl I q (by simp))
    | int j => obtain ⟨t', rfl⟩ := ry; exact PySem.EqMixed.ne_str_int (fin_bl I q (by simp))
    | str j => obtain ⟨t', rfl⟩ := ry; exact ne_str (fin_bl I q (congrArg not dec_str))
    | _ => exact absurd (show false = true from hs) Bool.false_ne_true
  | byt i =>
    obtain ⟨t, rfl⟩ := rx
    cases y with
    | byt j => obtain ⟨t', rfl⟩ := ry; exact PySem.W.ne_bytes (fin_bl I q (congrArg not dec_byt))
    | _ => exact absurd (show false = true from hs) Bool.false_ne_true
  | _ => cases y <;> exact absurd (show false = true from hs) Bool.false_ne_true

theorem op_lt : OpR X (compareOp .Lt) (rI0 fun i j => .bl (decide (i < j))) := opB0 fun _ _ _ _ _ _ _ q => lt_int q
theorem op_le : OpR X (compareOp .LtE) (rI0 fun i j => .bl (decide (i ≤ j))) := opB0 fun _ _ _ _ _ _ _ q => le_int q
theorem op_gt : OpR X (compareOp .Gt) (rI0 fun i j => .bl (decide (j < i))) := opB0 fun _ _ _ _ _ _ _ q => gt_int q
theorem op_ge : OpR X (compareOp .GtE) (rI0 fun i j => .bl (decide (j ≤ i))) := opB0 fun _ _ _ _ _ _ _ q => ge_int q
/-- is None, is not None: the right side a value none -/
theorem op_isN : OpR X (compareOp .Is) (fun x y H Q => y = .non ∧ Q (.bl (decide (x = .non))) H) := by
  intro pins s σ H x y v u Q I rx ry h
  obtain ⟨rfl, q⟩ := h
  cases ry
  refine is_none_gen (fin_bl I q ?_)
  cases x <;> first
    | (cases rx; rfl)
    | (obtain ⟨t, rfl⟩ := rx; rfl)
theorem op_notN : OpR X (compareOp .IsNot) (fun x y H Q => y = .non ∧ Q (.bl (!decide (x = .non))) H) := by
  intro pins s σ H x y v u Q I rx ry h
  obtain ⟨rfl, q⟩ := h
  cases ry
  refine isnot_none_gen (fin_bl I q ?_)
  cases x <;> first
    | (cases rx; rfl)
    | (obtain ⟨t, rfl⟩ := rx; rfl)

/-- is, is not of two objects that are tracked lists or instances -/
def isObj : HO → Bool
  | .lst _ => true
  | .ins _ _ _ => true
  | _ => false
theorem nomark (b : Expr) {op : CmpOp} (h : op ≠ .In := by decide) (h2 : op ≠ .NotIn := by decide) : behindInMarks op b = false := by
  have e1 : (op == CmpOp.In) = false := by cases op <;> first | rfl | exact absurd rfl h
  have e2 : (op == CmpOp.NotIn) = false := by cases op <;> first | rfl | exact absurd rfl h2
  cases b <;> simp [behindInMarks, e1, e2]
/-- a comparison as a value; hm: nomark b, or (for in, not in) by with_unfolding_all rfl -/
theorem pe_cmpR {op : CmpOp} {r : R2} (ho : OpR X (compareOp op) r) (ha : PE X a ta) (hb : PE X b tb) (hm : behindInMarks op b = false) : PE X (.Compare a [op] [b] pos) (tOp r ta tb) := by
  intro pins s σ H Q I h
  exact wpAny_Compare1 (binT ha hb I h fun v u s2 x y H2 I2 rx ry q => ho pins s2 σ H2 x y v u Q I2 rx ry q) hm
/-- a reading of a value as a test -/
def tTest (t : TE) : TT := fun σ H Q => t σ H fun x H' => ∃ k, x = .bl k ∧ Q k H'
theorem pt_cmpR {op : CmpOp} {r : R2} (ho : OpR X (compareOp op) r) (ha : PE X a ta) (hb : PE X b tb) (hm : behindInMarks op b = false) : PT X (.Compare a [op] [b] pos) (tTest (tOp r ta tb)) := by
  intro pins s σ H Q I h
  refine wpAny_isTrue_Compare1 (thn (ha pins s σ H _ I h) fun v s1 ⟨x, H1, I1, r1, q1⟩ => thn (hb pins s1 σ H1 _ I1 q1) fun u s2 ⟨y, H2, I2, r2, q2⟩ =>
    thn (ho pins s2 σ H2 x y v u _ I2 r1 r2 q2) fun c s3 ⟨z, H3, I3, r3, k, e, q3⟩ => ?_) hm
  subst e
  cases r3
  exact wpAny_truthy_bool ⟨H3, I3, q3⟩
/-- a op1 b op2 c -/
def tChain (r r' : R2) (ta tb tc : TE) : TE := fun σ H Q => ta σ H fun x H1 => tb σ H1 fun y H2 => r x y H2 fun z H3 => ∃ k, z = .bl k ∧
  (if k = true then tc σ H3 fun w' H4 => r' y w' H4 Q else Q (.bl false) H3)
/-! ### truth -/
/-- a value's truth by the abstract heap -/
def TruV (K : PySem.W.Frag) (x : V) (H : Hp) (k : Bool) : Prop :=
  match x with
  | .non => k = false
  | .bl b => k = b
  | .int i => k = (i != 0)
  | .str y => y.length ≤ sizeLine ∧ k = ((y.length : Int) != 0)
  | .byt y => y.size ≤ sizeLine ∧ k = ((y.size : Int) != 0)
  | .ref p => (∃ xs, SqL K H p xs ∧ k = !xs.isEmpty) ∨ (∃ xs, SqT K H p xs ∧ k = !xs.isEmpty) ∨ ∃ kvs, H p = some (.dK kvs) ∧ k = !kvs.isEmpty
  | _ => False
theorem line63 : (sizeLine : Nat) < 2 ^ 63 := by rw [sizeLine_eq]; decide
/-! ### strs and bytes -/
theorem op_add_str : OpR X (binaryOp .Add) (fun x y H Q => ∃ i j, x = .str i ∧ y = .str j ∧ i.length + j.length ≤ sizeLine ∧ Q (.str (i ++ j)) H) := by
  intro pins s σ H x y v u Q I rx ry h
  obtain ⟨i, j, rfl, rfl, hz, q⟩ := h
  obtain ⟨t, rfl⟩ := rx
  obtain ⟨t', rfl⟩ := ry
  exact add_str (fun t' tk => ⟨.str (i ++ j), H, I.tok _, ⟨_, rfl⟩, q⟩) hz
def PlainIxT (b : Expr) : Prop := ∀ o i, subscripted b false o i = operate [o, i] (getItem o i)
/-! ### scalar builtins, by CallR -/
theorem vals1 {x : V} {us : List Value} (r : Vals [x] us) : ∃ u, us = [u] ∧ RelV x u := by
  cases r with
  | cons r1 r2 => cases r2; exact ⟨_, rfl, r1⟩
theorem vals2 {x y : V} {us : List Value} (r : Vals [x, y] us) : ∃ u w', us = [u, w'] ∧ RelV x u ∧ RelV y w' := by
  cases r with
  | cons r1 r2 =>
    cases r2 with
    | cons r3 r4 => cases r4; exact ⟨_, _, rfl, r1, r3⟩
theorem call_max2 (hc : X.calm = true) : CallR X (.builtin "max") (fun xs H Q => ∃ i j, xs = [.int i, .int j] ∧ Q (.int (if j > i then j else i)) H) := by
  intro pins s σ H xs us Q I r h
  obtain ⟨i, j, rfl, q⟩ := h
  obtain ⟨u, w', rfl, ⟨t, rfl⟩, ⟨t', rfl⟩⟩ := vals2 r
  refine max_two_ints (I.ok.hd hc) fun h' tk k => ⟨_, H, I.kept k, ?_, q⟩
  by_cases hj : j > i
  · rw [if_pos hj, if_pos hj]; exact ⟨_, rfl⟩
  · rw [if_neg hj, if_neg hj]; exact ⟨_, rfl⟩
theorem call_min2 (hc : X.calm = true) : CallR X (.builtin "min") (fun xs H Q => ∃ i j, xs = [.int i, .int j] ∧ Q (.int (if j < i then j else i)) H) := by
  intro pins s σ H xs us Q I r h
  obtain ⟨i, j, rfl, q⟩ := h
  obtain ⟨u, w', rfl, ⟨t, rfl⟩, ⟨t', rfl⟩⟩ := vals2 r
  refine min_two_ints (I.ok.hd hc) fun h' tk k => ⟨_, H, I.kept k, ?_, q⟩
  by_cases hj : j < i
  · rw [if_pos hj, if_pos hj]; exact ⟨_, rfl⟩
  · rw [if_neg hj, if_neg hj]; exact ⟨_, rfl⟩
/-- len of a str, a bytes, a list, a tuple -/
def LenV (K : PySem.W.Frag) (x : V) (H : Hp) (n : Nat) : Prop :=
  match x with
  | .str y => y.length ≤ sizeLine ∧ n = y.length
  | .byt y => y.size ≤ sizeLine ∧ n = y.size
  | .ref p => (∃ xs, SqL K H p xs ∧ n = xs.length) ∨ ∃ xs, SqT K H p xs ∧ n = xs.length
  | _ => False
end
end L2

namespace L2
open PySem PySem.Spec PyProof.Rows

/-! ### an instance, its attributes a map -/
structure ObjM (h : Heap) (x dx C : Addr) (mA : Str → Option Value) : Prop where
  obj : h.get? x = some (PySem.W.instObj C dx)
  ns : h.Ns1 dx mA
  ne : dx ≠ x

theorem lookIn_ns {h : Heap} {dx : Addr} {mA : Str → Option Value} (n : h.Ns1 dx mA) : ∃ od, h.get? dx = some od ∧ ∀ name, PySem.W.lookIn name od = some (mA name) := by
  obtain ⟨o, es, ep, ho, hd, hk, _, hm⟩ := n
  refine ⟨o, ho, fun name => ?_⟩
  have e := hm name
  unfold nsFind findBy at e
  rw [← Array.find?_toList] at e
  unfold PySem.W.lookIn
  rw [hd]
  dsimp only
  split
  · rename_i y q
    rw [q] at e
    exact congrArg some e
  · rename_i q
    rw [q] at e
    have a : es.toList.any (·.refKey) = false := by
      rw [List.any_eq_false]
      intro y hy
      obtain ⟨z, t, hkey⟩ := hk y (Array.mem_toList_iff.mp hy)
      simp [DictEntry.refKey, hkey]
    have a' : ¬ es.toList.any (·.refKey) = true := by rw [a]; exact Bool.false_ne_true
    rw [if_neg a']
    exact congrArg some e

theorem ObjM.look {h : Heap} {x dx C : Addr} {mA : Str → Option Value} (I : ObjM h x dx C mA) : ∃ od, PySem.W.InstAt h x (PySem.W.instObj C dx) C (some od) ∧ ∀ name, PySem.W.lookIn name od = some (mA name) :=
  let ⟨od, ho, hl⟩ := lookIn_ns I.ns
  ⟨od, ⟨I.obj, rfl, rfl, ho⟩, hl⟩

section
variable {prog : Program} {w : World} {A : Around} {E : Value → Shared → Prop} {s : Shared} {K : PySem.W.Frag} {x dx C f : Addr} {mA : Str → Option Value} {name : Str} {v : Value}

end

/-! ### the attributes as a list of pairs -/
def putF (f : Str) (v : V) : List (Str × V) → List (Str × V)
  | [] => [(f, v)]
  | (g, x) :: r => if g = f then (g, v) :: r else (g, x) :: putF f v r
section
variable {P : Program} {w : World} {H H' : Hp} {h h' : Heap} {a C dx : Addr} {fs fs' : List (Str × V)}
theorem ins_get (hok : HOk P w H h) (e : H a = some (.ins C dx fs)) : ∃ mA, ObjM h a dx C mA ∧ (∀ f, RelO (fs.lookup f) (mA f)) ∧ PySem.Within mA (fs.map (·.1)) ∧ fs.length ≤ 1000 ∧ H dx = some (.own a) := by
  obtain ⟨d, z, ne, ob, mA, n, r, q⟩ := (show ObjOk P w H h a (.ins C dx fs) from hok a _ e)
  exact ⟨mA, ⟨ob, n, ne⟩, r, q, z, d⟩
end

/-! ### what of the text a class must have -/
structure Cls (K : PySem.W.Frag) (C : Addr) : Prop where
  pg : PySem.W.plainGet K C Str.empty = true
  hd : PySem.W.hasDictIn K C = true
  po : PySem.W.plainOver K C = true
  sa : PySem.W.findIn K (.ref C) "__setattr__" = some (some (.builtin "object.__setattr__"))
theorem Cls.get {K : PySem.W.Frag} {C : Addr} (c : Cls K C) (f : Str) : PySem.W.plainGet K C f = true := c.pg
/-- no class of it has the name -/
def NoAttr (K : PySem.W.Frag) (C : Addr) (f : Str) : Prop := PySem.W.findIn K (.ref C) f = some none
/-- a constant of the class -/
structure Con (K : PySem.W.Frag) (C : Addr) (f : Str) (v : V) (u : Value) : Prop where
  at_ : PySem.W.findIn K (.ref C) f = some (some u)
  rel : RelV v u
  get : PySem.W.specialIn K u "__get__" = some none
  cp : PySem.W.copiedNames.contains f = false
/-- a method: a plain def of the class or of one above it -/
structure Meth (K : PySem.W.Frag) (C : Addr) (m : Str) (f : Addr) : Prop where
  at_ : PySem.W.findIn K (.ref C) m = some (some (.ref f))
  fn : PySem.W.isFn K (.ref f) = true
  kp : PySem.W.keepIn K (.ref f) = true

section
variable {X : Cx} {pins : List (Addr × Obj)} {σ : St} {H : Hp} {s : Shared} {a C dx : Addr} {fs : List (Str × V)} {f : Str} {v : V} {A : Around} {E : Value → Shared → Prop}

end

/-! ### readings and rules -/
/-- e.f, an attribute of the instance -/
def tFld (K : PySem.W.Frag) (ta : TE) (f : Str) : TE := fun σ H Q => ta σ H fun x H1 => ∃ a C dx fs v, x = .ref a ∧ H1 a = some (.ins C dx fs) ∧ Cls K C ∧ NoAttr K C f ∧ fs.lookup f = some v ∧ Q v H1
/-- e.f, a constant of the class -/
def tCon (K : PySem.W.Frag) (ta : TE) (f : Str) : TE := fun σ H Q => ta σ H fun x H1 => ∃ a C dx fs v u, x = .ref a ∧ H1 a = some (.ins C dx fs) ∧ Cls K C ∧ Con K C f v u ∧ fs.lookup f = none ∧ Q v H1
/-- e.f = value -/
def sFld (K : PySem.W.Frag) (ta tv : TE) (f : Str) : TS := fun D σ H => tv σ H fun y H1 => ta σ H1 fun x H2 => ∃ a C dx fs, x = .ref a ∧ H2 a = some (.ins C dx fs) ∧ Cls K C ∧ NoAttr K C f ∧ fs.length < 1000 ∧
  D.nx σ (upd H2 a (.ins C dx (putF f y fs)))
/-- an augmented operator on two values -/
def InOp (X : Cx) (op : Operator) (rd : V → V → Hp → VK → Prop) : Prop :=
  ∀ (pins : List (Addr × Obj)) (s : Shared) (σ : St) (H : Hp) (x y : V) (u v : Value) (Q : VK), Inv X pins σ H s → RelV x u → RelV y v → rd x y H Q → wpAny (model X.prog X.w) X.A (inplaceOp op u v) (EP X pins σ Q) X.xe s
/-- e.f op= value -/
def sFldAug (K : PySem.W.Frag) (ta tv : TE) (rd : V → V → Hp → VK → Prop) (f : Str) : TS := fun D σ H => ta σ H fun x H1 => ∃ a C dx fs v, x = .ref a ∧ H1 a = some (.ins C dx fs) ∧ Cls K C ∧ NoAttr K C f ∧ fs.lookup f = some v ∧
  tv σ H1 fun y H2 => rd v y H2 fun z H3 => ∃ dx' fs', H3 a = some (.ins C dx' fs') ∧ fs'.length < 1000 ∧ D.nx σ (upd H3 a (.ins C dx' (putF f z fs')))

section
variable {X : Cx} {o e value : Expr} {f : Str} {pos pos' tpos : Pos} {ta tv : TE}
def rAdd : V → V → Hp → VK → Prop := fun x y H Q => ∃ i j, x = .int i ∧ y = .int j ∧ Q (.int (i + j)) H
def rSub : V → V → Hp → VK → Prop := fun x y H Q => ∃ i j, x = .int i ∧ y = .int j ∧ Q (.int (i - j)) H
end

/-! ### isinstance -/
section
variable {X : Cx} {pins : List (Addr × Obj)} {σ : St} {H : Hp} {s : Shared} {A : Around} {E : Value → Shared → Prop} {Q : Value → Shared → Prop} {c : Value} {b : Bool}
/-- the type of a value, as the fragment's deciders take it; for an instance its class -/
inductive TyOf (K : PySem.W.Frag) (H : Hp) : V → Value → Prop where
  | non : TyOf K H .non (.type "NoneType")
  | bl (x : Bool) : TyOf K H (.bl x) (.type "bool")
  | int (i : Int) : TyOf K H (.int i) (.type "int")
  | str (x : Str) : TyOf K H (.str x) (.type "str")
  | flt (x : UInt64) : TyOf K H (.flt x) (.type "float")
  | lst {a : Addr} {xs : List V} (e : H a = some (.lst xs)) : TyOf K H (.ref a) (.type "list")
  | frz {a : Addr} {o : Obj} {xs : List V} (e : H a = some (.frz o (.lst xs))) : TyOf K H (.ref a) (.type "list")
  | tup {a : Addr} {xs : List V} (e : H a = some (.tup xs)) : TyOf K H (.ref a) (.type "tuple")
  | dK {a : Addr} {kvs : List (Key × V)} (e : H a = some (.dK kvs)) : TyOf K H (.ref a) (.type "dict")
  | dT {a : Addr} {kvs : List (List Key × V)} (e : H a = some (.dT kvs)) : TyOf K H (.ref a) (.type "dict")
  | ins {a C dx : Addr} {fs : List (Str × V)} (e : H a = some (.ins C dx fs)) (cl : Cls K C) (ha : PySem.W.findIn K (.ref C) "__class__" = some (some (.builtin "object.__class__")))
      (hn : PySem.W.specialIn K (.builtin "object.__class__") "__get__" = some (some (.builtin "getset_descriptor.__get__"))) (htk : PySem.W.takesIn K (.builtin "object.__class__") = some true)
      (hm : PySem.W.mroIn K C (.type "object") = some true) : TyOf K H (.ref a) (.ref C)
/-- isinstance(x, c) for one class c, a built-in or an own one: kitOne's answer -/
theorem isinst_ok {x : V} {u t : Value} (I : Inv X pins σ H s) (rx : RelV x u) (ty : TyOf X.K H x t) (e : PySem.W.kitOne X.K t c = some b) (h : ∀ tk, Q (.bool b) { s with toks := tk }) :
    wpAny (model X.prog X.w) A (call (.builtin "isinstance") [u, c]) Q E s := by
  cases ty with
  | non => cases (show u = Value.none from rx); exact PySem.W.kia_one PySem.W.kitx_none I.kIn True.intro e (fun z => nomatch z) h
  | bl y => cases (show u = Value.bool y from rx); exact PySem.W.kia_one PySem.W.kitx_bool I.kIn True.intro e (fun z => nomatch z) h
  | int i => obtain ⟨t, q⟩ := (show ∃ t, u = Value.int i t from rx); cases q; exact PySem.W.kia_one PySem.W.kitx_int I.kIn True.intro e (fun z => nomatch z) h
  | str y => obtain ⟨t, q⟩ := (show ∃ t, u = Value.str y t from rx); cases q; exact PySem.W.kia_one PySem.W.kitx_str I.kIn True.intro e (fun z => nomatch z) h
  | flt y => obtain ⟨t, q⟩ := (show ∃ t, u = Value.float y t from rx); cases q; exact PySem.W.kia_one PySem.W.kitx_float I.kIn True.intro e (fun z => nomatch z) h
  | @lst a xs ea =>
    cases (show u = Value.ref a from rx)
    obtain ⟨_, _, n, _, h1⟩ := (show ObjOk X.prog X.w H s.heap a (.lst xs) from I.hok a _ ea)
    exact PySem.W.kia_one PySem.W.kitx_list I.kIn ⟨_, h1, rfl⟩ e (fun z => nomatch z) h
  | @frz a ob xs ea =>
    cases (show u = Value.ref a from rx)
    obtain ⟨_, _, _, n, _, h1⟩ := (show ObjOk X.prog X.w H s.heap a (.frz ob (.lst xs)) from I.hok a _ ea)
    exact PySem.W.kia_one PySem.W.kitx_list I.kIn ⟨_, h1, rfl⟩ e (fun z => nomatch z) h
  | @tup a xs ea =>
    cases (show u = Value.ref a from rx)
    obtain ⟨_, _, _, p⟩ := (show ObjOk X.prog X.w H s.heap a (.tup xs) from I.hok a _ ea)
    obtain ⟨o, h1, h2, _⟩ := p
    exact PySem.W.kia_one PySem.W.kitx_tuple I.kIn ⟨o, h1, h2⟩ e (fun z => nomatch z) h
  | @dK a kvs ea =>
    cases (show u = Value.ref a from rx)
    obtain ⟨_, _, vs, _, p⟩ := (show ObjOk X.prog X.w H s.heap a (.dK kvs) from I.hok a _ ea)
    obtain ⟨o, es, ep, h1, h2, _⟩ := p
    exact PySem.W.kia_one PySem.W.kitx_dict I.kIn ⟨o, h1, h2.1⟩ e (fun z => nomatch z) h
  | @dT a kvs ea =>
    cases (show u = Value.ref a from rx)
    obtain ⟨_, _, xs, _, o, es, ep, h1, h2, _⟩ := (show ObjOk X.prog X.w H s.heap a (.dT kvs) from I.hok a _ ea)
    exact PySem.W.kia_one PySem.W.kitx_dict I.kIn ⟨o, h1, h2.1⟩ e (fun z => nomatch z) h
  | @ins a C dx fs ea cl ha hn htk hm =>
    cases (show u = Value.ref a from rx)
    obtain ⟨mA, O, _⟩ := ins_get I.hok ea
    obtain ⟨od, J, _⟩ := O.look
    exact PySem.W.kia_one (PySem.W.kitx_own (cl.get _) cl.hd ha hn htk hm) I.kIn J e (fun z => nomatch z) h
end
end L2

namespace L2
open PySem PySem.Spec PyProof.Rows

/-! ### room -/
structure Room (k : Nat) (A : Around) : Prop where
  hd : A.handled = none
  dp : A.depth + 3 * k + 5 < recursionLimit
  un : A.units + 16 * k + 200 < cLine
theorem Room.mono {j k : Nat} {A : Around} (r : Room k A) (h : j ≤ k) : Room j A := ⟨r.hd, by have := r.dp; omega, by have := r.un; omega⟩
theorem Room.deeper {k : Nat} {A : Around} (r : Room (k + 1) A) (env : Env) : Room k (A.deeper env) :=
  ⟨r.hd, by have := r.dp; show A.depth + 1 + 3 * k + 5 < _; omega, by have := r.un; show A.units + 3 + 16 * k + 200 < _; omega⟩
theorem Room.depth {k : Nat} {A : Around} (r : Room k A) : A.depth < recursionLimit := by have := r.dp; omega
theorem Room.units0 {k : Nat} {A : Around} (r : Room k A) : A.units < cLine := by have := r.un; omega

/-! ### argument lists and displays -/
def tNil : TA := fun _ H Q => Q [] H
def tCons (ta : TE) (tr : TA) : TA := fun σ H Q => ta σ H fun x H1 => tr σ H1 fun xs H2 => Q (x :: xs) H2
section
variable {X : Cx} {e : Expr} {es : List Expr} {te : TE} {t : TA} {pos : Pos}
theorem pa_nil : PA X [] tNil := fun _ _ _ _ H Q I h => Calls.spliced_nil ⟨[], H, I, .nil, h⟩
theorem pa_cons (ha : PE X e te) (hr : PA X es t) (hs : starEach (e :: es) X.env = (false, eval e X.env) :: starEach es X.env := by rfl) : PA X (e :: es) (tCons te t) := by
  intro pos pins s σ H Q I h
  rw [hs]
  show wpAny _ _ (spliced ((false, eval e X.env) :: backTo pos (starEach es X.env))) _ _ s
  refine Calls.spliced_cons (thn (ha pins s σ H _ I h) fun u s1 ⟨x, H1, I1, r1, q1⟩ => ?_)
  exact thn (hr pos pins s1 σ H1 _ I1 q1) fun us s2 ⟨xs, H2, I2, r2, q2⟩ => ⟨x :: xs, H2, I2, .cons r1 r2, q2⟩

/-- a tuple, a list of written items -/
def tTup (t : TA) : TE := fun σ H Q => t σ H fun xs H1 => xs.length ≤ sizeLine ∧ ∀ p, H1 p = none → Q (.ref p) (upd H1 p (.tup xs))
def tLst (t : TA) : TE := fun σ H Q => t σ H fun xs H1 => xs.length ≤ sizeLine ∧ ∀ p, H1 p = none → Q (.ref p) (upd H1 p (.lst xs))
theorem pe_tup {x1} (h : PA X es t) : PE X (.Tuple es x1 pos) (tTup t) := by
  intro pins s σ H Q I hq
  refine wpAny_Tuple_spliced (thn (h pos pins s σ H _ I hq) fun us s1 ⟨xs, H1, I1, r, z, q⟩ => ⟨by rw [← r.length]; exact z, ?_⟩)
  have hf : H1 s1.heap.objs.size = none := I1.hok.fresh (Nat.le_refl _)
  refine ⟨.ref s1.heap.objs.size, upd H1 s1.heap.objs.size (.tup xs), I1.laid (t' := s1.toks) (fun b u e => Heap.get?_push_of_some _ e) (Nat.le_refl _) ?_, rfl, q _ hf⟩
  exact ⟨z, us, r, ⟨_, Heap.get?_push_size _ rfl, rfl, _, rfl⟩⟩
theorem pe_lst (h : PA X es t) : PE X (.List es pos) (tLst t) := by
  intro pins s σ H Q I hq
  refine wpAny_List_spliced (thn (h pos pins s σ H _ I hq) fun us s1 ⟨xs, H1, I1, r, z, q⟩ => ⟨by rw [← r.length]; exact z, ?_⟩)
  have hf : H1 s1.heap.objs.size = none := I1.hok.fresh (Nat.le_refl _)
  refine ⟨.ref s1.heap.objs.size, upd H1 s1.heap.objs.size (.lst xs), I1.laid (t' := s1.toks) (fun b u e => Heap.get?_push_of_some _ e) (Nat.le_refl _) ?_, rfl, q _ hf⟩
  exact ⟨z, us, 0, r, Heap.get?_push_size _ rfl⟩
end

/-! ### what a def promises -/
/-- a def's promise: the bound arguments in the parameters' order, the heap, the wanted end, the wanted exception -/
abbrev Sp := List V → Hp → VK → XK → Prop
/-- how an exception lies behind a call (file 08 gives it): the callers' frames, abstract heap and state ahead of the call, the wish, the exception, the state -/
abbrev CXT := List Env → Hp → Shared → XK → Value → Shared → Prop

/-- the state at a call -/
structure Env0 (P : Program) (w : World) (K : PySem.W.Frag) (mg : Str → Option Value) (base : Heap) (A : Around) (outer : List Env) (s : Shared) (H : Hp) : Prop where
  frames : A.frames = some outer
  mod : Mod K mg base
  bs : ∀ b o, base.get? b = some o → s.heap.get? b = some o ∧ H b = none
  bsz : base.objs.size ≤ s.heap.objs.size
  funs : s.heap.FunFrames base outer
  frf : ∀ b ∈ frs outer, H b = none
  hok : HOk P w H s.heap
  bare : AllBare s.gens
/-- a call's end -/
def CE (outer : List Env) (P : Program) (w : World) (H : Hp) (s : Shared) (Q : VK) (u : Value) (s' : Shared) : Prop :=
  ∃ v H', s'.os = s.os ∧ AllBare s'.gens ∧ Un (frs outer) [] H H' s.heap s'.heap ∧ HOk P w H' s'.heap ∧ RelV v u ∧ Q v H'
def CR (CX : CXT) (outer : List Env) (P : Program) (w : World) (H : Hp) (s : Shared) (Q : VK) (E : XK) (r : Result) (s' : Shared) : Prop :=
  match r with
  | .ok (.ret u) => CE outer P w H s Q u s'
  | .ok _ => False
  | .error e => CX outer H s E e s'
structure FnOk (P : Program) (w : World) (K : PySem.W.Frag) (mg : Str → Option Value) (base : Heap) (CX : CXT) (k : Nat) (f : Addr) (fd : FuncData) (ps : List Str) (sp : Sp) : Prop where
  len : ∀ vs H Q E, sp vs H Q E → vs.length = ps.length
  run : ∀ (A : Around) (outer : List Env) (s : Shared) (H : Hp) (args : Args) (us : List Value) (vs : List V) (Q : VK) (E : XK), Room k A → Env0 P w K mg base A outer s H → BindsTo s fd args (ps.zip us) → Vals vs us → sp vs H Q E →
    codeAny (model P w) A (.call (.ref f) args) (CR CX outer P w H s Q E) s
theorem FnOk.mono {P : Program} {w : World} {K : PySem.W.Frag} {mg : Str → Option Value} {base : Heap} {CX : CXT} {j k : Nat} {f : Addr} {fd : FuncData} {ps : List Str} {sp : Sp} (F : FnOk P w K mg base CX j f fd ps sp) (h : j ≤ k) :
    FnOk P w K mg base CX k f fd ps sp := ⟨F.len, fun A outer s H args us vs Q E hr => F.run A outer s H args us vs Q E (hr.mono h)⟩
section
variable {X : Cx} {pins : List (Addr × Obj)} {σ : St} {H : Hp} {s s' : Shared}
/-- from a body: what a callee wants -/
theorem Inv.env0 (I : Inv X pins σ H s) : Env0 X.prog X.w X.K X.mg X.base X.A X.stack s H :=
  ⟨I.ok.frames, I.ok.mod, I.bs, Nat.le_trans I.ok.bsz I.sz, I.stack, I.stkFree, I.hok, I.bare⟩
/-- behind a call -/
theorem Inv.after {Q : VK} {u : Value} (I : Inv X pins σ H s) (h : CE X.stack X.prog X.w H s Q u s') : EP X pins σ Q u s' := by
  obtain ⟨v, H', os, bare, un, hok, r, q⟩ := h
  obtain ⟨hh, g, d, t, os'⟩ := s'
  obtain rfl : os' = s.os := os
  exact ⟨v, H', I.call (h' := hh) (g' := g) (d' := d) (t' := t) (ch := []) un hok bare (fun b z => absurd z (by simp)), r, q⟩
end

/-! ### calls -/
/-- f(..): the written arguments, then the defaults dvs; E: what is wanted of an exception -/
def tCall (sp : Sp) (dvs : List V) (E : XK) (t : TA) : TE := fun σ H Q => t σ H fun vs H1 => sp (vs ++ dvs) H1 Q E
/-- o.m(..) of an instance of the class at C -/
def tMeth (C : Addr) (m : Str) (sp : Sp) (dvs : List V) (E : XK) (ta : TE) (t : TA) : TE := fun σ H Q => ta σ H fun x H1 => ∃ a dx fs, x = .ref a ∧ H1 a = some (.ins C dx fs) ∧ fs.lookup m = none ∧
  t σ H1 fun vs H2 => sp (x :: (vs ++ dvs)) H2 Q E
/-- C(..): a new instance and its dict, then __init__ -/
def tMake (C : Addr) (sp : Sp) (dvs : List V) (E : XK) (t : TA) : TE := fun σ H Q => t σ H fun vs H1 => ∀ x dx, H1 x = none → H1 dx = none → dx ≠ x →
  sp (.ref x :: (vs ++ dvs)) (upd (upd H1 dx (.own x)) x (.ins C dx [])) (fun v H2 => v = .non ∧ Q (.ref x) H2) E

/-- how the parameters are bound: us the positional arguments, kw the keywords' values by name, ds the defaults that fill up -/
def Binds (K : PySem.W.Frag) (fd : FuncData) (ps : List Str) (ds : List Value) : Prop :=
  ∀ (s : Shared) (us : List Value), K.In s.heap → (us ++ ds).length = ps.length → BindsTo s fd ⟨us, []⟩ (ps.zip (us ++ ds))
/-- every parameter is given -/
theorem Binds.all {K : PySem.W.Frag} {fd : FuncData} {ps : List Str} (h : ∀ us : List Value, us.length = ps.length → bindArgs fd ⟨us, []⟩ = pure (ps.zip us)) : Binds K fd ps [] := fun s us _ hl => by
  rw [List.append_nil] at hl ⊢
  exact .of_eq (h us hl)

/-- an exception of a callee reaches what this body wants of exceptions -/
def Passes (CX : CXT) (X : Cx) (E : XK) : Prop := ∀ (pins : List (Addr × Obj)) (σ : St) (H : Hp) (s : Shared) (e : Value) (s' : Shared), Inv X pins σ H s → CX X.stack H s E e s' → X.xe e s'

section
variable {X : Cx} {CX : CXT} {k : Nat} {f C : Addr} {fd : FuncData} {ps : List Str} {sp : Sp} {dvs : List V} {ds : List Value} {E : XK} {x m : Str} {p pos apos : Pos} {e o : Expr} {es : List Expr} {ta : TE} {t : TA}

/-- the callee runs -/
theorem run_fn {pins : List (Addr × Obj)} {σ : St} {H : Hp} {s : Shared} {Q : VK} {us : List Value} {vs : List V} (F : FnOk X.prog X.w X.K X.mg X.base CX k f fd ps sp) (hr : Room k X.A) (hb : Binds X.K fd ps ds) (hd : Vals dvs ds) (hx : Passes CX X E)
    (I : Inv X pins σ H s) (r : Vals vs us) (h : sp (vs ++ dvs) H Q E) : wpAny (model X.prog X.w) X.A (call (.ref f) us) (EP X pins σ Q) X.xe s := by
  have r2 : Vals (vs ++ dvs) (us ++ ds) := r.append hd
  have hl : (us ++ ds).length = ps.length := by rw [← r2.length]; exact F.len _ _ _ _ h
  refine wpAny_call (codeAny_mono (F.run X.A X.stack s H ⟨us, []⟩ (us ++ ds) (vs ++ dvs) Q E hr I.env0 (hb s us I.kIn hl) r2 h) fun r s' hq => ?_)
  cases r with
  | error e => exact hx pins σ H s e s' I hq
  | ok fl =>
    cases fl with
    | ret u => exact I.after hq
    | next => exact False.elim hq
    | brk => exact False.elim hq
    | cont => exact False.elim hq

theorem pe_call (F : FnOk X.prog X.w X.K X.mg X.base CX k f fd ps sp) (hr : Room k X.A) (hg : Gl X x) (hm : X.mg x = some (.ref f)) (hk : PySem.W.keepIn X.K (.ref f) = true) (hb : Binds X.K fd ps ds) (hd : Vals dvs ds) (hx : Passes CX X E)
    (ha : PA X (e :: es) t) (hdb : (x == ("__debug__" : Str)) = false := by decide) (he : starEach (e :: es) X.env = (false, eval e X.env) :: starEach es X.env := by rfl) (hpl : (backTo pos (starEach es X.env)).any (·.1) = false := by rfl) :
    PE X (.Call (.Name x p) (e :: es) [] pos) (tCall sp dvs E t) := by
  intro pins s σ H Q I h
  refine wpAny_Call_Name_kw (ld_glob I hg hm ?_ hdb)
  refine PySem.W.callWith_K (h₀ := X.base) I.ok.mod.kin hk (thn (ha pos pins s σ H _ I h) fun us s1 ⟨vs, H1, I1, r, q⟩ => ⟨I1.kIn, ?_⟩) he hpl
  exact run_fn F hr hb hd hx I1 r q
/-- what a class must have to be made -/
structure Mk (K : PySem.W.Frag) (C f : Addr) : Prop where
  makes : PySem.W.makesIn K C = true
  init : PySem.W.findIn K (.ref C) "__init__" = some (some (.ref f))
  fn : PySem.W.isFn K (.ref f) = true
  kp : PySem.W.keepIn K (.ref C) = true

end

/-! ### keywords -/
/-- the values of the keywords, from the left -/
def PK (X : Cx) (kws : List Keyword) (t : TA) : Prop :=
  ∀ (pos : Pos) (pins : List (Addr × Obj)) (s : Shared) (σ : St) (H : Hp) (Q : List V → Hp → Prop), Inv X pins σ H s → t σ H Q → wpAny (model X.prog X.w) X.A (evalAll ((backToKw pos (keywordEach kws X.env)).map (·.2))) (AP X pins σ Q) X.xe s
section
variable {X : Cx} {CX : CXT} {k : Nat} {f C : Addr} {fd : FuncData} {ps ks : List Str} {sp : Sp} {E : XK} {x m : Str} {p pos apos kpos : Pos} {e o : Expr} {es : List Expr} {kws : List Keyword} {te ta : TE} {t tk : TA} {nm : Option Str}
/-- how a call with keywords binds: g puts the positional values us and the keywords' values ws (names ks) in the parameters' order, defaults among them -/
structure KBinds (K : PySem.W.Frag) (fd : FuncData) (ps ks : List Str) (g : List Value → List Value → List Value) (gV : List V → List V → List V) : Prop where
  to : ∀ (s : Shared) (us ws : List Value), K.In s.heap → (g us ws).length = ps.length → BindsTo s fd ⟨us, ks.zip ws⟩ (ps.zip (g us ws))
  rel : ∀ {vs : List V} {us : List Value} {zs : List V} {ws : List Value}, Vals vs us → Vals zs ws → Vals (gV vs zs) (g us ws)
def tCallK (sp : Sp) (gV : List V → List V → List V) (E : XK) (t tk : TA) : TE := fun σ H Q => t σ H fun vs H1 => tk σ H1 fun zs H2 => sp (gV vs zs) H2 Q E
variable {g : List Value → List Value → List Value} {gV : List V → List V → List V}
end

/-! ### a def's body keeps its promise -/
/-- names: the parameters first -/
structure FnScope (N P : List Str) (sc : Scope) : Prop where
  kind : sc.kind = .function
  co : sc.isCoroutine = false
  gen : sc.isGenerator = false
  nd : N.Nodup
  pre : N.take P.length = P
  par : ∀ x ∈ P, sc.names.lookup x = some .local ∨ sc.names.lookup x = some .cell
  nofree : ∀ y ∈ sc.names, y.2 ≠ .free

theorem bindL_out {kindOf : Str → Option NameKind} {x : Str} : ∀ {binds : List (Str × Value)} {m : Str → Option Value}, (∀ v, (x, v) ∉ binds) → bindL kindOf binds m x = m x
  | [], _, _ => rfl
  | (n, v) :: r, m, h => by
    unfold bindL
    rw [bindL_out fun w hw => h w (List.mem_cons_of_mem _ hw)]
    split
    · have : x ≠ n := by rintro rfl; exact h v List.mem_cons_self
      simp [this]
    · rfl
theorem bindC_out {kindOf : Str → Option NameKind} {x : Str} : ∀ {binds : List (Str × Value)} {m : Str → Option Value}, (∀ v, (x, v) ∉ binds) → bindC kindOf binds m x = m x
  | [], _, _ => rfl
  | (n, v) :: r, m, h => by
    unfold bindC
    rw [bindC_out fun w hw => h w (List.mem_cons_of_mem _ hw)]
    split
    · rfl
    · have : x ≠ n := by rintro rfl; exact h v List.mem_cons_self
      simp [this]
theorem bindL_get {kindOf : Str → Option NameKind} {x : Str} {v : Value} : ∀ {P : List Str} {vs : List Value} {i : Nat} {m : Str → Option Value}, P.Nodup → P[i]? = some x → vs[i]? = some v → kindOf x = some .local →
    bindL kindOf (P.zip vs) m x = some v
  | [], _, _, _, _, h, _, _ => by simp at h
  | _ :: _, [], _, _, _, _, h, _ => by simp at h
  | p :: P, w :: vs, 0, m, nd, h1, h2, hk => by
    simp at h1 h2; subst h1; subst h2
    show bindL kindOf ((p, w) :: P.zip vs) m p = _
    unfold bindL
    rw [bindL_out fun v hv => (List.nodup_cons.mp nd).1 (List.of_mem_zip hv).1, if_pos hk]
    simp
  | p :: P, w :: vs, i + 1, m, nd, h1, h2, hk => by
    show bindL kindOf ((p, w) :: P.zip vs) m x = _
    unfold bindL
    exact bindL_get (i := i) (List.nodup_cons.mp nd).2 (by simpa using h1) (by simpa using h2) hk
theorem bindC_get {kindOf : Str → Option NameKind} {x : Str} {v : Value} : ∀ {P : List Str} {vs : List Value} {i : Nat} {m : Str → Option Value}, P.Nodup → P[i]? = some x → vs[i]? = some v → kindOf x ≠ some .local →
    bindC kindOf (P.zip vs) m x = some v
  | [], _, _, _, _, h, _, _ => by simp at h
  | _ :: _, [], _, _, _, _, h, _ => by simp at h
  | p :: P, w :: vs, 0, m, nd, h1, h2, hk => by
    simp at h1 h2; subst h1; subst h2
    show bindC kindOf ((p, w) :: P.zip vs) m p = _
    unfold bindC
    rw [bindC_out fun v hv => (List.nodup_cons.mp nd).1 (List.of_mem_zip hv).1, if_neg hk]
    simp
  | p :: P, w :: vs, i + 1, m, nd, h1, h2, hk => by
    show bindC kindOf ((p, w) :: P.zip vs) m x = _
    unfold bindC
    exact bindC_get (i := i) (List.nodup_cons.mp nd).2 (by simpa using h1) (by simpa using h2) hk

/-- the names' values at the entry -/
def start (N : List Str) (vs : List V) : St := vs.map some ++ List.replicate (N.length - vs.length) none

/-- the context of a def's body, at its entry; an exception leaves the frame, then lies as CX says -/
def cxOf (CX : CXT) (P : Program) (w : World) (K : PySem.W.Frag) (mg : Str → Option Value) (base : Heap) (N : List Str) (qual : Str) (scope : Scope) (f : Addr) (cd : Value) (A : Around) (outer : List Env) (s : Shared) (H : Hp) (E : XK) : Cx where
  prog := P
  w := w
  K := K
  mg := mg
  base := base
  A := A.deeper (envOfC qual scope s.heap.objs.size f cd)
  N := N
  s₀ := s
  H₀ := H
  env := envOfC qual scope s.heap.objs.size f cd
  outer := outer
  stack := envOfC qual scope s.heap.objs.size f cd :: outer
  ex := []
  calm := true
  fn := fun _ => true
  pn := []
  xe := fun e s' => wpAny (model P w) (A.deeper (envOfC qual scope s.heap.objs.size f cd)) (leaving (envOfC qual scope s.heap.objs.size f cd) e) (fun _ s'' => CX outer H s E e s'') (fun e' s'' => CX outer H s E e' s'') s'

theorem cell_has {sc : Scope} {n : Nat} {x : Str} (h : sc.names.lookup x = some .cell) : ∃ c, (cellsFrom n sc.names []).lookup x = some c := by
  have q := PySem.W.cellsFrom_some sc.names n [] (.inl h)
  exact Option.isSome_iff_exists.mp q

theorem inv_start {CX : CXT} {P : Program} {w : World} {K : PySem.W.Frag} {mg : Str → Option Value} {base : Heap} {N ps : List Str} {qual : Str} {scope : Scope} {f : Addr} {cd : Value} {A : Around} {outer : List Env} {s s1 : Shared} {H : Hp} {E : XK} {us : List Value} {vs : List V}
    (S : FnScope N ps scope) (hd : A.handled = none) (e0 : Env0 P w K mg base A outer s H) (hl : vs.length = ps.length) (r : Vals vs us)
    (x : InCallC s s.heap.objs.size (bindL (envOfC qual scope s.heap.objs.size f cd).kindOf (ps.zip us) fun _ => none) (cellsFrom (s.heap.objs.size + 1) scope.names []) (bindC (envOfC qual scope s.heap.objs.size f cd).kindOf (ps.zip us) fun _ => none) s1) :
    Inv (cxOf CX P w K mg base N qual scope f cd A outer s H E) [] (start N vs) H s1 := by
  have hpl : ps.length ≤ N.length := by have := congrArg List.length S.pre; rw [List.length_take] at this; omega
  obtain ⟨h1, tk, rfl, hk⟩ := x.done
  have noA : ∀ b : Addr, b ∉ (cxOf CX P w K mg base N qual scope f cd A outer s H E).ex := fun b z => absurd (show b ∈ ([] : List Addr) from z) (by simp)
  refine ⟨⟨e0.mod, S.kind, rfl, rfl, Nat.le_refl _, fun y z c h1 h2 => ?_, fun y hy => ?_, fun y c _ h => ?_, fun _ => hd, Around.frames_deeper e0.frames, .inr ⟨rfl, rfl⟩, fun b z => absurd z (noA b), e0.bs, e0.bsz, fun b _ _ => noA b, fun b z => absurd z (noA b), e0.funs, e0.frf⟩,
    rfl, e0.bare, Un.kept hk, ⟨_, x.toInCall.ns, fun i y v h1 h2 h3 => ?_⟩, fun y c h => ⟨_, x.cell y c h⟩, e0.hok.fresh (Nat.le_refl _), fun y c h => ?_, fun p hp => absurd (show p ∈ ([] : List (Addr × Obj)) from hp) (by simp), e0.hok.kept hk, ?_⟩
  · exact name_of_addr x.apart (PySem.mem_of_lookup h1) (PySem.mem_of_lookup h2)
  · have hy : scope.names.lookup y = some .cell ∨ scope.names.lookup y = some .free := hy
    rcases hy with hy | hy
    · exact cell_has hy
    · exact absurd rfl (S.nofree _ (PySem.mem_of_lookup hy))
  · exact Nat.le_of_lt (x.above y c (PySem.mem_of_lookup h))
  · have hi : i < vs.length := by
      unfold start at h2
      by_cases hi : i < vs.length
      · exact hi
      · rw [List.getElem?_append_right (by simpa using hi)] at h2
        rw [List.getElem?_replicate] at h2
        split at h2 <;> cases h2
    have ha : vs[i]? = some v := by
      unfold start at h2
      rw [List.getElem?_append_left (by simpa using hi), List.getElem?_map] at h2
      cases e : vs[i]? with
      | none => rw [e] at h2; cases h2
      | some a => rw [e] at h2; cases h2; rfl
    obtain ⟨u, hu, rv⟩ := r.get ha
    have hp : ps[i]? = some y := by
      rw [← S.pre, List.getElem?_take_of_lt (by omega)]; exact h1
    have ndP : ps.Nodup := by rw [← S.pre]; exact S.nd.sublist (List.take_sublist _ _)
    refine ⟨u, rv, ?_⟩
    rcases S.par y (List.mem_of_getElem? hp) with k | k
    · exact .inl ⟨k, bindL_get ndP hp hu k⟩
    · obtain ⟨c, e⟩ := cell_has (n := s.heap.objs.size + 1) k
      refine .inr ⟨.inl k, c, e, ?_⟩
      have q := x.cell y c e
      rw [bindC_get ndP hp hu (by show scope.names.lookup y ≠ _; rw [k]; decide)] at q
      exact q
  · exact e0.hok.fresh (Nat.le_of_lt (x.above y c (PySem.mem_of_lookup h)))
  · unfold start
    show _ = N.length
    rw [List.length_append, List.length_map, List.length_replicate]
    omega

/-- THE RULE: a def (or a method) of the text, by its body. The body's reading t is chosen for each entry; it is run at the parameters' values -/
theorem fn_of {CX : CXT} {P : Program} {w : World} {K : PySem.W.Frag} {mg : Str → Option Value} {base : Heap} {k : Nat} {f : Addr} {name qual : Str} {params : Arguments} {body : List Stmt} {scope : Scope} {dV kV doc pm cdv ct oc : Value} {an od : Option Addr}
    {osl : Array (Option Value)} {N ps : List Str} {sp : Sp} (lk : K.lookup f = some ⟨oc, od, .func (PySem.W.fnOf name qual params body scope dV kV doc pm an cdv ct), osl⟩) (hcd : PySem.W.codeIn K cdv qual = true) (S : FnScope N ps scope)
    (len : ∀ vs H Q E, sp vs H Q E → vs.length = ps.length)
    (hbody : ∀ (A : Around) (outer : List Env) (s : Shared) (H : Hp) (vs : List V) (Q : VK) (E : XK), Room k (A.deeper (envOfC qual scope s.heap.objs.size f cdv)) → sp vs H Q E →
      ∃ t, PSs (cxOf CX P w K mg base N qual scope f cdv A outer s H E) body t ∧ t { nx := fun _ H' => Q .non H', rt := Q } (start N vs) H) :
    FnOk P w K mg base CX (k + 1) f (PySem.W.fnOf name qual params body scope dV kV doc pm an cdv ct) ps sp := by
  refine ⟨len, fun A outer s H args us vs Q E hr e0 hb r hsp => ?_⟩
  have hl := len _ _ _ _ hsp
  have KX : K.In s.heap := e0.mod.kin.keeps fun b o e => (e0.bs b o e).1
  have lim : s.heap.NoLimit := e0.mod.nolimit.keeps fun b o e => (e0.bs b o e).1
  have hkind : ∀ y ∈ ps.zip us, scope.names.lookup y.1 = some .local ∨ (scope.names.lookup y.1 = some .cell ∧ ((cellsFrom (s.heap.objs.size + 1) scope.names []).lookup y.1).isSome = true) := fun ⟨n, v⟩ hy => by
    rcases S.par n (List.of_mem_zip hy).1 with q | q
    · exact .inl q
    · exact .inr ⟨q, PySem.W.cellsFrom_some _ _ _ (.inl q)⟩
  refine codeAny_call_function hr.depth (KX _ _ lk) rfl S.co S.gen rfl (PySem.W.codeRec_of KX hcd) (hb _ _ _ _ ?_)
  refine wpAny_newFunctionEnv_cells S.kind hkind fun env he s1 x => ?_
  subst he
  refine ⟨lim.keeps x.toInCall.keep, codeAny_func ?_⟩
  obtain ⟨t, ht, hq⟩ := hbody A outer s H vs Q E (hr.deeper _) hsp
  have I : Inv (cxOf CX P w K mg base N qual scope f cdv A outer s H E) [] (start N vs) H s1 := inv_start S hr.hd e0 hl r x
  refine wpAny_mono (ht [] s1 (start N vs) H _ I hq) (fun fl s' hs => ?_) fun e s' hs => hs
  have fin : ∀ {σ' : St} {H' : Hp} {v : V} {u : Value}, Inv (cxOf CX P w K mg base N qual scope f cdv A outer s H E) [] σ' H' s' → RelV v u → Q v H' → CE outer P w H s Q u s' :=
    fun {σ' H' v u} J rv q => ⟨v, H', J.os, J.bare, J.base, J.hok, rv, q⟩
  cases fl with
  | ret u =>
    obtain ⟨v, σ', H', J, rv, q⟩ := hs
    exact fin J rv q
  | next =>
    obtain ⟨σ', H', J, q⟩ := hs
    exact fin (v := V.non) (u := Value.none) J rfl q
  | brk =>
    obtain ⟨_, _, _, q⟩ := hs
    exact False.elim q
  | cont =>
    obtain ⟨_, _, _, q⟩ := hs
    exact False.elim q
end L2

namespace L2
open PySem PySem.Spec PyProof.Rows
section
variable {X : Cx} {x : Str} {p pos : Pos} {e : Expr} {es : List Expr} {t : TA} {id T : String} {r : List V → Hp → VK → Prop}

def tCB (r : List V → Hp → VK → Prop) (t : TA) : TE := fun σ H Q => t σ H fun vs H1 => r vs H1 Q
/-- f(e, ..), f a built-in function -/
theorem pe_callB (hc : CallR X (.builtin id) r) (hg : Gl X x) (hm : X.mg x = none) (hv : bootBuiltins x = some (.builtin id)) (ha : PA X (e :: es) t) (hn : x ≠ "__name__" := by decide) (hdb : (x == ("__debug__" : Str)) = false := by decide)
    (he : starEach (e :: es) X.env = (false, eval e X.env) :: starEach es X.env := by rfl) (hpl : (backTo pos (starEach es X.env)).any (·.1) = false := by rfl) : PE X (.Call (.Name x p) (e :: es) [] pos) (tCB r t) := by
  intro pins s σ H Q I h
  refine wpAny_Call_Name_kw (ld_blt I hg hm hv ?_ hn hdb)
  exact PyProof.Rows.callWith_builtin1 (thn (ha pos pins s σ H _ I h) fun us s1 ⟨vs, H1, I1, r1, q1⟩ => hc pins s1 σ H1 vs us Q I1 r1 q1) he hpl
/-- T(e, ..), T a built-in type -/
theorem pe_callTy (hc : CallR X (.type T) r) (hg : Gl X x) (hm : X.mg x = none) (hv : bootBuiltins x = some (.type T)) (ha : PA X (e :: es) t) (hn : x ≠ "__name__" := by decide) (hdb : (x == ("__debug__" : Str)) = false := by decide)
    (he : starEach (e :: es) X.env = (false, eval e X.env) :: starEach es X.env := by rfl) (hpl : (backTo pos (starEach es X.env)).any (·.1) = false := by rfl) : PE X (.Call (.Name x p) (e :: es) [] pos) (tCB r t) := by
  intro pins s σ H Q I h
  refine wpAny_Call_Name_kw (ld_blt I hg hm hv ?_ hn hdb)
  exact PyProof.Rows.callWith_type1 (thn (ha pos pins s σ H _ I h) fun us s1 ⟨vs, H1, I1, r1, q1⟩ => hc pins s1 σ H1 vs us Q I1 r1 q1) he hpl
end
end L2

namespace HT
open PySem PyProof.Rows

/-- t < u of tuples of ints -/
def lexLt : List Int → List Int → Bool
  | [], [] => false
  | [], _ :: _ => true
  | _ :: _, [] => false
  | x :: xs, y :: ys => if x = y then lexLt xs ys else decide (x < y)
section
open PySem.SeqAt
open PySem.AutoSeq1 (wpAny_loadPart')
open PySem.MeetsSeq PySem.MeetsSeq2 PySem.MeetsSeq3

end

section
variable {prog : Program} {w : World} {A : Around} {E : Value → Shared → Prop} {s : Shared}

/-! ### t[a:b], not the whole -/
/-- a slice's bound as a place among n (d where it is left out) -/
def sIx (n d : Nat) : Option Int → Nat
  | none => d
  | some v => if v < 0 then (v + (n : Int)).toNat else min v.toNat n
end
end HT

namespace L2
open PySem PySem.Spec PyProof.Rows

/-! ### the parts of a slice -/
abbrev TO := St → Hp → (Option Int → Hp → Prop) → Prop
/-- a slice's part (left out, or an int) -/
def PO (X : Cx) (e : Option Expr) (t : TO) : Prop :=
  ∀ (pins : List (Addr × Obj)) (s : Shared) (σ : St) (H : Hp) (Q : Option Int → Hp → Prop), Inv X pins σ H s → t σ H Q →
    wpAny (model X.prog X.w) X.A (evalPart e X.env) (fun u s' => ∃ o H', Inv X pins σ H' s' ∧ IsPart u o ∧ Q o H') X.xe s
def tNoPart : TO := fun _ H Q => Q none H
def tPart (t : TE) : TO := fun σ H Q => t σ H fun x H1 => ∃ i, x = .int i ∧ Q (some i) H1

theorem intsAre_of {ns : List Int} : ∀ {us : List Value}, Vals (ns.map V.int) us → IntsAre us ns := by
  induction ns with
  | nil => intro us r; rw [List.map_nil] at r; cases r; exact .nil
  | cons n ns ih =>
    intro us r
    rw [List.map_cons] at r
    cases r with
    | cons r1 r2 =>
      obtain ⟨t, e⟩ := r1
      subst e
      exact .cons n t (ih r2)

section
variable {X : Cx} {e : Expr} {te : TE} {lo hi : Option Expr} {tl th : TO} {pos p2 : Pos}

theorem po_none : PO X none tNoPart := by
  intro pins s σ H Q I h
  rw [evalPart_none]
  exact wpAny_pure ⟨none, H, I, .none, h⟩
theorem po_some (h : PE X e te) : PO X (some e) (tPart te) := by
  intro pins s σ H Q I hw
  rw [evalPart_some]
  refine thn (h pins s σ H _ I hw) fun u s1 ⟨x, H1, I1, r1, q1⟩ => ?_
  obtain ⟨i, rfl, q⟩ := q1
  obtain ⟨t, rfl⟩ := r1
  exact ⟨some i, H1, I1, .int i t, q⟩

/-- what a slice of a value is, by values: the slice object stands at sl -/
def SlR (X : Cx) (r : V → Option Int → Option Int → Hp → VK → Prop) : Prop :=
  ∀ (pins : List (Addr × Obj)) (s : Shared) (σ : St) (H : Hp) (x : V) (v vl vu : Value) (lo hi : Option Int) (sl : Addr) (Q : VK), Inv X pins σ H s → RelV x v → s.heap.IsSliceOf sl vl vu .none → IsPart vl lo → IsPart vu hi → r x lo hi H Q →
    ∃ T id, typeLookup (.type T) "__getitem__" = pure (some (.builtin id)) ∧ s.TypeIs v T ∧ wpAny (model X.prog X.w) X.A (getItem v (.ref sl)) (EP X pins σ Q) X.xe s
def tSl (r : V → Option Int → Option Int → Hp → VK → Prop) (te : TE) (tl th : TO) : TE := fun σ H Q => te σ H fun x H1 => tl σ H1 fun l H2 => th σ H2 fun u H3 => r x l u H3 Q
/-- a[lo:hi], any a -/
theorem pe_slice {r : V → Option Int → Option Int → Hp → VK → Prop} (hr : SlR X r) (he : PE X e te) (hl : PO X lo tl) (hu : PO X hi th) : PE X (.Subscript e (.Slice lo hi none p2) pos) (tSl r te tl th) := by
  intro pins s σ H Q I h
  refine Subscript_ (thn (he pins s σ H _ I h) fun v s1 ⟨x, H1, I1, r1, q1⟩ => ?_)
  refine wpAny_Slice (thn (hl pins s1 σ H1 _ I1 q1) fun vl s2 ⟨l, H2, I2, pl, q2⟩ => thn (hu pins s2 σ H2 _ I2 q2) fun vu s3 ⟨u, H3, I3, pu, q3⟩ => ?_)
  rw [evalPart_none]
  refine wpAny_pure ?_
  have I4 : Inv X pins σ H3 { s3 with heap := s3.heap.push { cls := .type "slice", data := .fields #[vl, vu, .none] } } := I3.kept (t' := s3.toks) fun b ob q => Heap.get?_push_of_some _ q
  obtain ⟨T, id, hT, ht, hg⟩ := hr pins { s3 with heap := s3.heap.push { cls := .type "slice", data := .fields #[vl, vu, .none] } } σ H3 x v vl vu l u s3.heap.objs.size Q I4 r1 (Heap.IsSliceOf.new ..) pl pu q3
  show wpAny (model X.prog X.w) X.A (subscriptTail e (.Slice lo hi none p2) v (.ref s3.heap.objs.size)) (EP X pins σ Q) X.xe { s3 with heap := s3.heap.push { cls := .type "slice", data := .fields #[vl, vu, .none] } }
  exact tail_any (ops := [.ref s3.heap.objs.size, v]) ht hT hg (by with_unfolding_all rfl)

/-- the items of xs[lo:hi] -/
def cutV (xs : List V) (lo hi : Option Int) : List V := (xs.drop (HT.sIx xs.length 0 lo)).take (HT.sIx xs.length xs.length hi - HT.sIx xs.length 0 lo)
theorem cutV_length (xs : List V) (lo hi : Option Int) : (cutV xs lo hi).length ≤ xs.length := by
  unfold cutV
  rw [List.length_take, List.length_drop]
  omega
/-- t[lo:hi], not the whole of it (the whole would be t itself) -/
def rSlT (K : PySem.W.Frag) : V → Option Int → Option Int → Hp → VK → Prop := fun x lo hi H Q => ∃ a xs, x = .ref a ∧ SqT K H a xs ∧
  ¬ (HT.sIx xs.length 0 lo = 0 ∧ HT.sIx xs.length xs.length hi = xs.length) ∧ ∀ p, H p = none → Q (.ref p) (upd H p (.tup (cutV xs lo hi)))
/-! ### t < u, t + u -/
def rLtT (K : PySem.W.Frag) : R2 := fun x y H Q => ∃ a b ns ms, x = .ref a ∧ y = .ref b ∧ SqT K H a (ns.map V.int) ∧ SqT K H b (ms.map V.int) ∧ Q (.bl (HT.lexLt ns ms)) H
/-- t + u, t not empty: u empty gives t itself -/
def rCatT (K : PySem.W.Frag) : R2 := fun x y H Q => ∃ a b xs ys, x = .ref a ∧ y = .ref b ∧ SqT K H a xs ∧ SqT K H b ys ∧ xs ≠ [] ∧ xs.length + ys.length ≤ sizeLine ∧
  (ys = [] → Q (.ref a) H) ∧ (ys ≠ [] → ∀ p, H p = none → Q (.ref p) (upd H p (.tup (xs ++ ys))))
end
end L2

namespace L2
open PySem PySem.Spec PyProof.Rows

/-! ### places -/
/-- the place that an index of any sign means -/
def ixN (n : Nat) (i : Int) : Option Nat := if 0 ≤ i then (if i < n then some i.toNat else none) else if -(n : Int) ≤ i then some (i + n).toNat else none
def atI {α : Type} (xs : List α) (i : Int) : Option α := (ixN xs.length i).bind fun j => xs[j]?
theorem ixN_seq {n : Nat} {i : Int} {j : Nat} (h : ixN n i = some j) : seqIndex? i n = some j ∧ j < n ∧ -(n : Int) ≤ i ∧ i < n := by
  unfold ixN at h
  by_cases h0 : 0 ≤ i
  · rw [if_pos h0] at h
    by_cases h1 : i < n
    · rw [if_pos h1] at h
      have e : i.toNat = j := Option.some.inj h
      exact ⟨by rw [seqIndex_of h0 h1, e], by omega, by omega, h1⟩
    · rw [if_neg h1] at h; cases h
  · rw [if_neg h0] at h
    by_cases h1 : -(n : Int) ≤ i
    · rw [if_pos h1] at h
      have e : (i + n).toNat = j := Option.some.inj h
      exact ⟨by rw [seqIndex_neg (by omega) h1, e], by omega, h1, by omega⟩
    · rw [if_neg h1] at h; cases h
theorem atI_get {α : Type} {xs : List α} {i : Int} {v : α} (h : atI xs i = some v) : ∃ j, seqIndex? i xs.length = some j ∧ xs[j]? = some v ∧ j < xs.length ∧ -(xs.length : Int) ≤ i ∧ i < xs.length := by
  unfold atI at h
  cases e : ixN xs.length i with
  | none => rw [e] at h; cases h
  | some j =>
    rw [e] at h
    obtain ⟨h1, h2, h3, h4⟩ := ixN_seq e
    exact ⟨j, h1, h, h2, h3, h4⟩
theorem atI_nat {α : Type} {xs : List α} {j : Nat} {v : α} (h : xs[j]? = some v) : atI xs (j : Int) = some v := by
  have hj : j < xs.length := (List.getElem?_eq_some_iff.mp h).1
  have e : ixN xs.length (j : Int) = some j := by
    unfold ixN
    rw [if_pos (by omega), if_pos (by omega)]; simp
  unfold atI; rw [e]; exact h
/-! ### what may be subscripted -/
/-- what stands as an index of a plain subscript -/
def PlainIx (b : Expr) : Prop := ∀ o i, subscripted b false o i = operate [o, i] (getItem o i)
/-- a subscript by values -/
def IxR (X : Cx) (r : R2) : Prop :=
  ∀ (value slice : Expr) (pins : List (Addr × Obj)) (s : Shared) (σ : St) (H : Hp) (x y : V) (v u : Value) (Q : VK), Inv X pins σ H s → RelV x v → RelV y u → r x y H Q →
    subscripted slice false v u = operate [v, u] (getItem v u) → wpAny (model X.prog X.w) X.A (subscriptTail value slice v u) (EP X pins σ Q) X.xe s
/-- a call of a builtin's method by values: the receiver, the arguments -/
def MtR (X : Cx) (id : String) (r : V → List V → Hp → VK → Prop) : Prop :=
  ∀ (pins : List (Addr × Obj)) (s : Shared) (σ : St) (H : Hp) (x : V) (xs : List V) (v : Value) (us : List Value) (Q : VK), Inv X pins σ H s → RelV x v → Vals xs us → r x xs H Q →
    wpAny (model X.prog X.w) X.A (call (.builtin id) (v :: us)) (EP X pins σ Q) X.xe s
section
variable {X : Cx} {a b : Expr} {ta tb : TE} {pos : Pos}
/-- a[b] -/
theorem pe_ix {r : R2} (hr : IxR X r) (ha : PE X a ta) (hb : PE X b tb) (hs : PlainIx b) : PE X (.Subscript a b pos) (tOp r ta tb) := by
  intro pins s σ H Q I h
  exact Subscript_ (binT ha hb I h fun v u s2 x y H2 I2 rx ry q => hr a b pins s2 σ H2 x y v u Q I2 rx ry q (hs _ _))

def rIxL (K : PySem.W.Frag) : R2 := fun x y H Q => ∃ p xs i v, x = .ref p ∧ y = .int i ∧ SqL K H p xs ∧ atI xs i = some v ∧ Q v H
def rIxT (K : PySem.W.Frag) : R2 := fun x y H Q => ∃ p xs i v, x = .ref p ∧ y = .int i ∧ SqT K H p xs ∧ atI xs i = some v ∧ Q v H
def rIxS : R2 := fun x y H Q => ∃ z i c, x = .str z ∧ y = .int i ∧ z.length ≤ sizeLine ∧ atI z.cps.toList i = some c ∧ Q (.str ⟨#[c]⟩) H
theorem ix_list : IxR X (rIxL X.K) := by
  intro value slice pins s σ H x y v u Q I rx ry h hs
  obtain ⟨p, xs, i, z, rfl, rfl, hq, he, q⟩ := h
  cases rx
  obtain ⟨t, rfl⟩ := ry
  obtain ⟨its, r, pl, hz⟩ := I.list hq
  obtain ⟨j, h1, h2, h3, h4, h5⟩ := atI_get he
  obtain ⟨w, ew, rw'⟩ := r.get h2
  have hl := r.length
  have hn := line63
  have fin : EP X pins σ Q w s := ⟨z, H, I, rw', q⟩
  by_cases h0 : 0 ≤ i
  · have hj : i.toNat = j := by
      rw [seqIndex_of h0 h5] at h1
      exact Option.some.inj h1
    exact item_listR pl.isList h0 (by omega) (by rw [hj]; simpa using ew) fin hs
  · have hj : (i + (its.toArray.size : Int)).toNat = j := by
      rw [seqIndex_neg (by omega) h4] at h1
      rw [List.size_toArray, ← hl]
      exact Option.some.inj h1
    exact subscriptTail_builtinR (x := w) pl.isList.typeIs slot_list_getitem.lookup
      (wpAny_getItem_list_neg (Q := fun r s' => r = w ∧ EP X pins σ Q r s') pl.isList (by omega) (by rw [List.size_toArray] <;> omega) (by omega) (by rw [hj]; simpa using ew) ⟨rfl, fin⟩) hs
theorem ix_tup : IxR X (rIxT X.K) := by
  intro value slice pins s σ H x y v u Q I rx ry h hs
  obtain ⟨p, xs, i, z, rfl, rfl, hq, he, q⟩ := h
  cases rx
  obtain ⟨t, rfl⟩ := ry
  obtain ⟨its, r, pl, hz⟩ := I.tuple hq
  obtain ⟨j, h1, h2, h3, h4, h5⟩ := atI_get he
  obtain ⟨w, ew, rw'⟩ := r.get h2
  have hl := r.length
  have hn := line63
  have fin : EP X pins σ Q w s := ⟨z, H, I, rw', q⟩
  exact subscriptTail_builtinR (x := w) pl.typeIs slot_tuple_getitem.lookup
    (getItem_tuple (j := j) (Q := fun r s' => r = w ∧ EP X pins σ Q r s') pl (by omega) (by omega) (by rw [List.size_toArray, ← hl]; exact h1) (by simpa using ew) ⟨rfl, fin⟩) hs
theorem ix_str : IxR X rIxS := by
  intro value slice pins s σ H x y v u Q I rx ry h hs
  obtain ⟨z, i, c, rfl, rfl, hz, he, q⟩ := h
  obtain ⟨t, rfl⟩ := rx
  obtain ⟨t', rfl⟩ := ry
  obtain ⟨j, h1, h2, h3, h4, h5⟩ := atI_get he
  have hl : z.cps.toList.length = z.length := by simp [Str.length]
  rw [hl] at h1 h4 h5
  have hn := line63
  exact tail_any (typeIs_str s z t) slot_str_getitem.lookup (getItem_str (c := c) (by
    have e1 : decide (i < -(2 ^ 63 : Int)) = false := decide_eq_false (by omega)
    have e2 : decide (i ≥ 2 ^ 63) = false := decide_eq_false (by omega)
    rw [e1, e2, Bool.or_false]) (by rw [h1]; simpa using h2) ⟨.str ⟨#[c]⟩, H, I.tok _, ⟨_, rfl⟩, q⟩) hs
/-- list, tuple or str -/
def rIx (K : PySem.W.Frag) : R2 := fun x y H Q => rIxL K x y H Q ∨ rIxT K x y H Q ∨ rIxS x y H Q
/-! ### xs[i] = v, any sign -/
/-- the list's object behind a store -/
theorem mapSeq_set (its : List Value) (n j : Nat) (u : Value) : Obj.mapSeq (·.setIfInBounds j u) { cls := .type "list", data := .seq its.toArray n } = { cls := .type "list", data := .seq (its.set j u).toArray n } := by
  simp [Obj.mapSeq]
theorem Inv.lst {pins : List (Addr × Obj)} {σ : St} {H : Hp} {s : Shared} {p : Addr} {xs : List V} (I : Inv X pins σ H s) (h : H p = some (.lst xs)) :
    ∃ (its : List Value) (n : Nat), Vals xs its ∧ s.heap.get? p = some { cls := .type "list", data := .seq its.toArray n } ∧ xs.length ≤ sizeLine := by
  obtain ⟨z, its, n, r, e⟩ := I.hok p _ h
  exact ⟨its, n, r, e, z⟩
/-- the list at p is written by an update of its object -/
theorem Inv.lstUpd {pins : List (Addr × Obj)} {σ : St} {H : Hp} {s : Shared} {p : Addr} {xs ys : List V} {its its' : List Value} {n n' : Nat} {f : Obj → Obj} (I : Inv X pins σ H s) (h : H p = some (.lst xs))
    (ho : s.heap.get? p = some { cls := .type "list", data := .seq its.toArray n }) (hf : f { cls := .type "list", data := .seq its.toArray n } = { cls := .type "list", data := .seq its'.toArray n' }) (r : Vals ys its') (hz : ys.length ≤ sizeLine) (t : Nat) :
    Inv X pins σ (upd H p (.lst ys)) { s with heap := s.heap.update p f, toks := t } := by
  have e : (s.heap.update p f).get? p = some { cls := .type "list", data := .seq its'.toArray n' } := by
    rw [Heap.get?_update_self f ho (by rw [hf] <;> rfl), hf]
  refine I.write (x := p) (e := p) (by rw [h]; trivial) (.inl rfl) (fun b u hb q => (Heap.get?_update_other _ _ (Ne.symm hb)).trans q) ⟨_, e⟩ ?_
  exact ⟨hz, its', n', r, e⟩
def rSetL : V → V → V → Hp → (Hp → Prop) → Prop := fun o i v H Q => ∃ p xs k j, o = .ref p ∧ i = .int k ∧ H p = some (.lst xs) ∧ ixN xs.length k = some j ∧ Q (upd H p (.lst (xs.set j v)))
theorem set_list : PSet X rSetL := by
  intro pins s σ H o i v ov iv u Q I ro ri rv h
  obtain ⟨p, xs, k, j, rfl, rfl, hp, hj, q⟩ := h
  cases ro
  obtain ⟨t, rfl⟩ := ri
  obtain ⟨its, n, r, ho, hz⟩ := I.lst hp
  obtain ⟨h1, h2, h3, h4⟩ := ixN_seq hj
  have hl := r.length
  have hn := line63
  have I' : Inv X pins σ (upd H p (.lst (xs.set j v))) { s with heap := s.heap.update p (Obj.mapSeq (·.setIfInBounds j u)) } :=
    I.lstUpd hp ho (mapSeq_set its n j u) (r.set rv j) (by rw [List.length_set]; exact hz) s.toks
  by_cases h0 : 0 ≤ k
  · have hk : k.toNat = j := by
      rw [seqIndex_of h0 h4] at h1
      exact Option.some.inj h1
    exact PySem.W.ki_setAt ho h0 (by omega) (by rw [List.size_toArray, ← hl]; exact h4) (by rw [hk]; exact ⟨_, I', q⟩)
  · have hk : (k + (its.toArray.size : Int)).toNat = j := by
      rw [seqIndex_neg (by omega) h3] at h1
      rw [List.size_toArray, ← hl]
      exact Option.some.inj h1
    exact PySem.W.ki_setBack ho (by omega) (by rw [List.size_toArray, ← hl]; exact h3) (by omega) (by rw [hk]; exact ⟨_, I', q⟩)

/-! ### slices -/
theorem slice_bounds (lo hi : Option Int) (n : Nat) : (sliceBounds lo hi none n).1 = ((HT.sIx n 0 lo : Nat) : Int) ∧ (sliceBounds lo hi none n).2.1 = ((HT.sIx n n hi : Nat) : Int) ∧ (sliceBounds lo hi none n).2.2 = 1 := by
  refine ⟨?_, ?_, rfl⟩
  · cases lo with
    | none => simp [sliceBounds, HT.sIx]
    | some i =>
      simp only [sliceBounds, HT.sIx, Option.getD_none, show (1 : Int) > 0 by decide, if_true]
      by_cases h : i < 0
      · simp only [h, if_true] <;> omega
      · simp only [h, if_false] <;> omega
  · cases hi with
    | none => simp [sliceBounds, HT.sIx]
    | some i =>
      simp only [sliceBounds, HT.sIx, Option.getD_none, show (1 : Int) > 0 by decide, if_true]
      by_cases h : i < 0
      · simp only [h, if_true] <;> omega
      · simp only [h, if_false] <;> omega
theorem slicePick_cut (its : List Value) (lo hi : Option Int) : slicePick its.toArray lo hi none = ((its.drop (HT.sIx its.length 0 lo)).take (HT.sIx its.length its.length hi - HT.sIx its.length 0 lo)).toArray := by
  obtain ⟨h1, h2, h3⟩ := slice_bounds lo hi its.toArray.size
  unfold slicePick
  rw [h1, h2, h3]
  simp only [sliceRange_one, pick_run, List.size_toArray] <;> rfl
/-- xs[lo:hi] of a list: a new list -/
def rSlL (K : PySem.W.Frag) : V → Option Int → Option Int → Hp → VK → Prop := fun x lo hi H Q => ∃ a xs, x = .ref a ∧ SqL K H a xs ∧ ∀ p, H p = none → Q (.ref p) (upd H p (.lst (cutV xs lo hi)))
theorem sl_list : SlR X (rSlL X.K) := by
  intro pins s σ H x v vl vu lo hi sl Q I rx hs pl pu h
  obtain ⟨a, xs, rfl, hx, q⟩ := h
  cases rx
  obtain ⟨its, r, ht, hz⟩ := I.list hx
  have hlen := r.length
  refine ⟨"list", _, slot_list_getitem.lookup, ht.isList.typeIs, ?_⟩
  refine wpAny_getItem_list_slice ht.isList hs pl pu .none (by simp) ?_ (by rw [List.size_toArray] <;> omega)
  rw [slicePick_cut, ← hlen]
  refine ⟨.ref s.heap.objs.size, _, I.laid (t' := s.toks) (o := .lst (cutV xs lo hi)) (fun b ob q => Heap.get?_push_of_some _ q) (Nat.le_refl _) ?_, rfl, q _ (I.hok.fresh (Nat.le_refl _))⟩
  exact ⟨Nat.le_trans (cutV_length xs lo hi) hz, _, 0, (r.drop (HT.sIx xs.length 0 lo)).take (HT.sIx xs.length xs.length hi - HT.sIx xs.length 0 lo), Heap.get?_push_size _ rfl⟩

/-! ### in, not in: flat items -/
def flatV : V → Bool
  | .non => true
  | .bl _ => true
  | .int _ => true
  | .str _ => true
  | _ => false
/-- == of flat values -/
def eqV : V → V → Bool
  | .non, .non => true
  | .bl a, .bl b => a == b
  | .bl a, .int b => (if a then 1 else 0) == b
  | .int a, .bl b => a == (if b then 1 else 0)
  | .int a, .int b => a == b
  | .str a, .str b => a == b
  | _, _ => false
theorem eqAt_V {A : Around} {s : Shared} {y x : V} {u v : Value} (ry : RelV y u) (rx : RelV x v) (fy : flatV y = true) (fx : flatV x = true) : SeqAt.EqAt A s u v (eqV y x) := by
  cases y with
  | non =>
    cases ry
    cases x with
    | non => cases rx; exact SeqAt.EqAt.same _
    | bl b => cases rx; exact SeqAt.EqAt.none_bool b
    | int b => obtain ⟨t, rfl⟩ := rx; exact SeqAt.EqAt.none_int b t
    | str b => obtain ⟨t, rfl⟩ := rx; exact SeqAt.EqAt.none_str b t
    | _ => exact absurd (show false = true from fx) Bool.false_ne_true
  | bl a =>
    cases ry
    cases x with
    | non => cases rx; exact SeqAt.EqAt.bool_none a
    | bl b => cases rx; exact SeqAt.EqAt.bool_bool a b
    | int b => obtain ⟨t, rfl⟩ := rx; exact SeqAt.EqAt.bool_int a b t
    | str b => obtain ⟨t, rfl⟩ := rx; exact SeqAt.EqAt.bool_str a b t
    | _ => exact absurd (show false = true from fx) Bool.false_ne_true
  | int a =>
    obtain ⟨t', rfl⟩ := ry
    cases x with
    | non => cases rx; exact SeqAt.EqAt.int_none a t'
    | bl b => cases rx; exact SeqAt.EqAt.int_bool a t' b
    | int b => obtain ⟨t, rfl⟩ := rx; exact SeqAt.EqAt.int_int a t' b t
    | str b => obtain ⟨t, rfl⟩ := rx; exact SeqAt.EqAt.int_str a t' b t
    | _ => exact absurd (show false = true from fx) Bool.false_ne_true
  | str a =>
    obtain ⟨t', rfl⟩ := ry
    cases x with
    | non => cases rx; exact SeqAt.EqAt.str_none a t'
    | bl b => cases rx; exact SeqAt.EqAt.str_bool a t' b
    | int b => obtain ⟨t, rfl⟩ := rx; exact SeqAt.EqAt.str_int a t' b t
    | str b => obtain ⟨t, rfl⟩ := rx; exact SeqAt.EqAt.str_str a t' b t
    | _ => exact absurd (show false = true from fx) Bool.false_ne_true
  | _ => exact absurd (show false = true from fy) Bool.false_ne_true
/-- the items' answers, read off the values (a value's own answer does not lean on its token) -/
def eqU (x : V) (u : Value) : Bool := match u with
  | .none => eqV .non x
  | .bool b => eqV (.bl b) x
  | .int i _ => eqV (.int i) x
  | .str z _ => eqV (.str z) x
  | _ => false
theorem eqU_of {x y : V} {u : Value} (r : RelV y u) (f : flatV y = true) : eqU x u = eqV y x := by
  cases y with
  | non => cases r; rfl
  | bl b => cases r; rfl
  | int i => obtain ⟨t, rfl⟩ := r; rfl
  | str z => obtain ⟨t, rfl⟩ := r; rfl
  | _ => exact absurd (show false = true from f) Bool.false_ne_true
theorem any_eqU {x : V} : ∀ {xs : List V} {us : List Value}, Vals xs us → xs.all flatV = true → us.any (eqU x) = xs.any fun y => eqV y x
  | _, _, .nil, _ => rfl
  | y :: xs, u :: us, .cons r t, f => by
    rw [List.all_cons, Bool.and_eq_true] at f
    rw [List.any_cons, List.any_cons, eqU_of r f.1, any_eqU t f.2]
theorem mem_eqAt {A : Around} {s : Shared} {x : V} {v : Value} (rx : RelV x v) (fx : flatV x = true) : ∀ {xs : List V} {us : List Value}, Vals xs us → xs.all flatV = true → ∀ u ∈ us, SeqAt.EqAt A s u v (eqU x u)
  | _, _, .nil, _ => fun u hu => by cases hu
  | y :: xs, u :: us, .cons r t, f => fun u' hu => by
    rw [List.all_cons, Bool.and_eq_true] at f
    rcases List.mem_cons.mp hu with rfl | hu
    · rw [eqU_of r f.1]; exact eqAt_V r rx f.1 fx
    · exact mem_eqAt rx fx t f.2 u' hu
def inV (x : V) (xs : List V) : Bool := xs.any fun y => eqV y x
/-- x in a list or tuple of flat items -/
def rIn (K : PySem.W.Frag) (neg : Bool) : R2 := fun x y H Q => ∃ p xs, y = .ref p ∧ (SqL K H p xs ∨ SqT K H p xs) ∧ flatV x = true ∧ xs.all flatV = true ∧ Q (.bl (if neg then !inV x xs else inV x xs)) H
theorem op_in_seq : OpR X (compareOp .In) (rIn X.K false) := by
  intro pins s σ H x y v u Q I rx ry h
  obtain ⟨p, xs, rfl, hq, fx, fs, q⟩ := h
  cases ry
  rcases hq with hq | hq
  · obtain ⟨its, r, pl, hz⟩ := I.list hq
    refine SeqAt.in_listAt (eqU x) pl.isList (fun w hw => mem_eqAt rx fx r fs w (by simpa using hw)) ⟨.bl _, H, I, rfl, ?_⟩
    rw [show its.toArray.any (eqU x) = its.any (eqU x) by simp, any_eqU r fs]
    exact q
  · obtain ⟨its, r, pl, hz⟩ := I.tuple hq
    refine SeqAt.in_tupleAt (eqU x) pl (fun w hw => mem_eqAt rx fx r fs w (by simpa using hw)) ⟨.bl _, H, I, rfl, ?_⟩
    rw [show its.toArray.any (eqU x) = its.any (eqU x) by simp, any_eqU r fs]
    exact q
/-! ### len, list(x), tuple(x) of any list or tuple that is read -/
theorem call_len_seq : CallR X (.builtin "len") (fun xs H Q => ∃ p ys, xs = [.ref p] ∧ (SqL X.K H p ys ∨ SqT X.K H p ys) ∧ Q (.int ys.length) H) := by
  intro pins s σ H xs us Q I r h
  obtain ⟨p, ys, rfl, hq, q⟩ := h
  obtain ⟨u, rfl, rx⟩ := vals1 r
  cases rx
  have hn := line63
  rcases hq with hq | hq
  · obtain ⟨its, r', pl, hz⟩ := I.list hq
    have hlen := r'.length
    exact Calls.call_len_list pl.isList (by simp only [List.size_toArray] <;> omega) ⟨.int ys.length, H, I.tok _, ⟨s.toks + 1, by rw [List.size_toArray, hlen]⟩, q⟩
  · obtain ⟨its, r', pl, hz⟩ := I.tuple hq
    have hlen := r'.length
    exact len_tuple pl (by simp only [List.size_toArray] <;> omega) ⟨.int ys.length, H, I.tok _, ⟨s.toks + 1, by rw [List.size_toArray, hlen]⟩, q⟩
theorem call_len_str : CallR X (.builtin "len") (fun xs H Q => ∃ z, xs = [.str z] ∧ z.length ≤ sizeLine ∧ Q (.int z.length) H) := by
  intro pins s σ H xs us Q I r h
  obtain ⟨z, rfl, hz, q⟩ := h
  obtain ⟨u, rfl, t, rfl⟩ := vals1 r
  have hn := line63
  exact len_str (by omega) ⟨.int z.length, H, I.tok _, ⟨_, rfl⟩, q⟩
theorem call_list_of : CallR X (.type "list") (fun xs H Q => ∃ p ys, xs = [.ref p] ∧ (SqL X.K H p ys ∨ SqT X.K H p ys) ∧ ∀ l, H l = none → Q (.ref l) (upd H l (.lst ys))) := by
  intro pins s σ H xs us Q I r h
  obtain ⟨p, ys, rfl, hq, q⟩ := h
  obtain ⟨u, rfl, rx⟩ := vals1 r
  cases rx
  have fin : ∀ (its : List Value), Vals ys its → ys.length ≤ sizeLine → ∀ (h' : Heap) (c' : Nat), (∀ b o', s.heap.get? b = some o' → h'.get? b = some o') →
      h'.get? s.heap.objs.size = some { cls := .type "list", dict := none, data := .seq its.toArray c', slots := #[] } → EP X pins σ Q (.ref s.heap.objs.size) { s with heap := h' } := fun its r' hz h' c' kp e =>
    ⟨.ref s.heap.objs.size, _, I.laid (t' := s.toks) kp (Nat.le_refl _) (show ObjOk X.prog X.w _ h' _ (.lst ys) from ⟨hz, its, c', r', e⟩), rfl, q _ (I.hok.fresh (Nat.le_refl _))⟩
  rcases hq with hq | hq
  · obtain ⟨its, r', pl, hz⟩ := I.list hq
    have hlen := r'.length
    obtain ⟨o, ho, hc, n, hd⟩ := pl.isList
    exact call_list_seq p (.inl rfl) ho hc hd (fun h' c' kp e => fin its r' hz h' c' kp e) (by simp only [List.size_toArray] <;> omega)
  · obtain ⟨its, r', pl, hz⟩ := I.tuple hq
    have hlen := r'.length
    obtain ⟨o, ho, hc, n, hd⟩ := pl
    exact call_list_seq p (.inr rfl) ho hc hd (fun h' c' kp e => fin its r' hz h' c' kp e) (by simp only [List.size_toArray] <;> omega)
theorem call_tuple_of : CallR X (.type "tuple") (fun xs H Q => ∃ p ys, xs = [.ref p] ∧ ((SqL X.K H p ys ∧ ∀ l, H l = none → Q (.ref l) (upd H l (.tup ys))) ∨ (SqT X.K H p ys ∧ Q (.ref p) H))) := by
  intro pins s σ H xs us Q I r h
  obtain ⟨p, ys, rfl, h⟩ := h
  obtain ⟨u, rfl, rx⟩ := vals1 r
  cases rx
  rcases h with ⟨hq, q⟩ | ⟨hq, q⟩
  · obtain ⟨its, r', pl, hz⟩ := I.list hq
    have hlen := r'.length
    refine call_tuple_list pl.isList (fun h' kp => ?_) (by simp only [List.size_toArray] <;> omega)
    have I1 : Inv X pins σ H { s with heap := h' } := I.kept (t' := s.toks) kp
    have I2 : Inv X pins σ (upd H h'.objs.size (.tup ys)) { s with heap := h'.push { cls := .type "tuple", data := .seq its.toArray } } :=
      I1.laid (t' := s.toks) (fun b o e => Heap.get?_push_of_some _ e) (Nat.le_refl _) (show ObjOk X.prog X.w _ _ _ (.tup ys) from ⟨hz, its, r', IsTup.new _ _⟩)
    exact ⟨.ref h'.objs.size, _, I2, rfl, q _ (I1.hok.fresh (Nat.le_refl _))⟩
  · obtain ⟨its, r', pl, hz⟩ := I.tuple hq
    exact call_tuple_same pl ⟨.ref p, H, I, rfl, q⟩

/-! ### the call of a builtin's method: o.m(..) -/
/-- the value is of that builtin type -/
def tyV (K : PySem.W.Frag) (T : String) (x : V) (H : Hp) : Prop := match x with
  | .str _ => T = "str"
  | .int _ => T = "int"
  | .ref p => (T = "list" ∧ ∃ xs, SqL K H p xs) ∨ (T = "tuple" ∧ ∃ o, K.lookup p = some o ∧ o.cls = .type "tuple" ∧ o.dict = none) ∨
      (T = "dict" ∧ ((∃ kvs, H p = some (.dK kvs)) ∨ ∃ kvs, H p = some (.dT kvs))) ∨ (T = "set" ∧ ∃ S n, H p = some (.set S n))
  | _ => False
theorem tyV_is {pins : List (Addr × Obj)} {σ : St} {H : Hp} {s : Shared} {T : String} {x : V} {v : Value} (I : Inv X pins σ H s) (r : RelV x v) (ty : tyV X.K T x H) :
    s.TypeIs v T ∧ ∀ a, v = .ref a → ∃ ob, s.heap.get? a = some ob ∧ ob.dict = none := by
  cases x with
  | str z =>
    obtain ⟨t, rfl⟩ := r
    cases (show T = "str" from ty)
    exact ⟨typeIs_str s z t, fun _ e => nomatch e⟩
  | int i =>
    obtain ⟨t, rfl⟩ := r
    cases (show T = "int" from ty)
    exact ⟨typeIs_int s i t, fun _ e => nomatch e⟩
  | ref p =>
    cases r
    rcases ty with ⟨rfl, xs, hq⟩ | ⟨rfl, o, hk, hc, hd⟩ | ⟨rfl, hk⟩ | ⟨rfl, S, n, hk⟩
    · obtain ⟨its, _, pl, _⟩ := I.list hq
      refine ⟨pl.isList.typeIs, fun a e => ?_⟩
      cases e
      obtain ⟨o, n, e, c, hd, _⟩ := pl
      exact ⟨o, e, hd⟩
    · refine ⟨⟨o, I.kIn p o hk, hc⟩, fun a e => ?_⟩
      cases e
      exact ⟨o, I.kIn _ o hk, hd⟩
    · have z : ∃ o, s.heap.get? p = some o ∧ o.ExactDict := by
        rcases hk with ⟨kvs, hk⟩ | ⟨kvs, hk⟩
        · obtain ⟨_, _, _, _, o, _, _, e, ex, _⟩ := I.hok p _ hk
          exact ⟨o, e, ex⟩
        · obtain ⟨_, _, _, _, o, _, _, e, ex, _⟩ := I.hok p _ hk
          exact ⟨o, e, ex⟩
      obtain ⟨o, e, ex⟩ := z
      refine ⟨⟨o, e, ex.1⟩, fun a e2 => ?_⟩
      cases e2
      exact ⟨o, e, ex.2.1⟩
    · obtain ⟨o, _, _, _, e, ex, _⟩ := I.hok p _ hk
      refine ⟨⟨o, e, ex.1⟩, fun a e2 => ?_⟩
      cases e2
      exact ⟨o, e, ex.2.1⟩
  | _ => exact False.elim ty
def tBM0 (K : PySem.W.Frag) (T : String) (r : V → List V → Hp → VK → Prop) (to : TE) : TE := fun σ H Q => to σ H fun x H1 => tyV K T x H1 ∧ r x [] H1 Q
def tBM (K : PySem.W.Frag) (T : String) (r : V → List V → Hp → VK → Prop) (to : TE) (t : TA) : TE := fun σ H Q => to σ H fun x H1 => tyV K T x H1 ∧ t σ H1 fun xs H2 => r x xs H2 Q
variable {o e : Expr} {es : List Expr} {to : TE} {t : TA} {name : Str} {apos cpos : Pos} {T id : String} {r : V → List V → Hp → VK → Prop}
theorem pe_bm0 (pa : PlainAttrs T) (slot : Slot T name id) (hty : typeOf (.builtin id) = pure (.type "method_descriptor")) (hm : MtR X id r) (ho : PE X o to)
    (hbase : attributeBase o name X.env (eval o X.env) = eval o X.env := by rfl) (hline : (apos.endLine == cpos.line) = true := by rfl) : PE X (.Call (.Attribute o name apos) [] [] cpos) (tBM0 X.K T r to) := by
  intro pins s σ H Q I h
  refine wpAny_Call_method0_late hbase hline (thn (ho pins s σ H _ I h) fun v s1 ⟨x, H1, I1, r1, ty, q1⟩ => ?_)
  obtain ⟨h1, h2⟩ := tyV_is I1 r1 ty
  exact ⟨T, id, pa, slot, hty, h1, h2, Calls.callWith_builtin rfl (PySem.evalArgs_none (hm pins s1 σ H1 x [] v [] Q I1 r1 .nil q1))⟩
theorem pe_bm (pa : PlainAttrs T) (slot : Slot T name id) (hty : typeOf (.builtin id) = pure (.type "method_descriptor")) (hm : MtR X id r) (ho : PE X o to) (ha : PA X (e :: es) t)
    (hbase : attributeBase o name X.env (eval o X.env) = eval o X.env := by rfl)
    (hfew : ((backTo cpos (starEach (e :: es) X.env)).all (fun x => !x.1) && (backToKw cpos (keywordEach [] X.env)).all (fun x => x.1.isSome)
      && decide ((e :: es).length + ([] : List Keyword).length + (if ([] : List Keyword).isEmpty then 0 else 1) < 30)) = true := by rfl)
    (hline : (apos.endLine == cpos.line) = true := by rfl) (hs : starEach (e :: es) X.env = (false, eval e X.env) :: starEach es X.env := by rfl) (hplain : (backTo cpos (starEach es X.env)).any (·.1) = false := by rfl) :
    PE X (.Call (.Attribute o name apos) (e :: es) [] cpos) (tBM X.K T r to t) := by
  intro pins s σ H Q I h
  refine wpAny_Call_method_late hbase hfew hline rfl (thn (ho pins s σ H _ I h) fun v s1 ⟨x, H1, I1, r1, ty, q1⟩ => ?_)
  obtain ⟨h1, h2⟩ := tyV_is I1 r1 ty
  refine ⟨T, id, pa, slot, hty, h1, h2, ?_⟩
  have hA := ha cpos pins s1 σ H1 _ I1 q1
  rw [hs] at hA ⊢
  refine Calls.callWith_builtin (by show (false || (backTo cpos (starEach es X.env)).any (·.1)) = false; rw [hplain] <;> rfl) (Calls.evalArgs_plain ?_)
  exact thn hA fun us s2 ⟨vs, H2, I2, r2, q2⟩ => hm pins s2 σ H2 x vs v us Q I2 r1 r2 q2
/- xs.append(e), list.index on a module's tuple .. are MtR facts of 06m -/
end
end L2

namespace L2
open PySem PySem.Spec PyProof.Rows

def MtM (X : Cx) (id : String) (r : V → List V → Hp → VK → Prop) : Prop :=
  ∀ (pins : List (Addr × Obj)) (s : Shared) (σ : St) (H : Hp) (x : V) (xs : List V) (v : Value) (us : List Value) (Q : VK), Inv X pins σ H s → RelV x v → Vals xs us → r x xs H Q →
    wpAny (model X.prog X.w) X.A (call (.builtin id) (v :: us)) (EP X pins σ Q) X.xe s

/-! ### lists of values -/
theorem Vals.one : ∀ {x : V} {us : List Value}, Vals [x] us → ∃ u, us = [u] ∧ RelV x u
  | _, _, .cons r .nil => ⟨_, rfl, r⟩
theorem Vals.zero : ∀ {us : List Value}, Vals [] us → us = []
  | _, .nil => rfl
theorem Vals.dropLast {xs : List V} {us : List Value} (h : Vals xs us) : Vals xs.dropLast us.dropLast := by
  induction h with
  | nil => exact .nil
  | cons r t ih =>
    cases t with
    | nil => exact .nil
    | cons q t' => exact .cons r ih
theorem Vals.reverse {xs : List V} {us : List Value} (h : Vals xs us) : Vals xs.reverse us.reverse := by
  induction h with
  | nil => exact .nil
  | cons r t ih => rw [List.reverse_cons, List.reverse_cons]; exact Vals.append ih (.cons r .nil)
theorem Vals.rep {xs : List V} {us : List Value} (h : Vals xs us) : ∀ k : Nat, Vals (List.replicate k xs).flatten (List.replicate k us).flatten
  | 0 => .nil
  | k + 1 => by
    rw [List.replicate_succ, List.replicate_succ, List.flatten_cons, List.flatten_cons]
    exact Vals.append h (Vals.rep h k)
theorem erase_last {α : Type} (l : List α) : l.eraseIdx (l.length - 1) = l.dropLast := by
  induction l with
  | nil => rfl
  | cons a r ih =>
    cases r with
    | nil => rfl
    | cons b r =>
      have e : (a :: b :: r).length - 1 = ((b :: r).length - 1) + 1 := by
        have h1 : (a :: b :: r).length = r.length + 2 := rfl
        have h2 : (b :: r).length = r.length + 1 := rfl
        omega
      rw [e, List.eraseIdx_cons_succ, ih]
      all_goals rfl
theorem foldl_rep (its : List Value) : ∀ (k : Nat) (acc : List Value),
    List.foldl (fun x1 x2 => x1 ++ x2) acc.toArray (List.replicate k its.toArray) = (acc ++ (List.replicate k its).flatten).toArray
  | 0, acc => by simp
  | k + 1, acc => by
    have e : acc.toArray ++ its.toArray = (acc ++ its).toArray := by simp
    have e2 : (acc ++ its) ++ (List.replicate k its).flatten = acc ++ (List.replicate (k + 1) its).flatten := by
      rw [List.replicate_succ, List.flatten_cons, List.append_assoc]
    rw [← e2, ← foldl_rep its k (acc ++ its), ← e, List.replicate_succ, List.foldl_cons]

section
variable {X : Cx} {pins : List (Addr × Obj)} {σ : St} {H : Hp} {s : Shared} {l b : Addr} {xs ys zs : List V}

/-! ### the two steps: a tracked list is rewritten, a new list is laid -/
theorem Inv.lset {its its' : List Value} {n : Nat} {f : Array Value → Array Value} {t' : Nat} (I : Inv X pins σ H s) (hH : H l = some (.lst xs))
    (e : s.heap.get? l = some { cls := .type "list", data := .seq its.toArray n }) (hf : f its.toArray = its'.toArray) (hv : Vals ys its') (hz : ys.length ≤ sizeLine) :
    Inv X pins σ (upd H l (.lst ys)) { s with heap := s.heap.update l (Obj.mapSeq f), toks := t' } := by
  have q := PySem.IsL.update e f
  rw [hf] at q
  refine I.write (x := l) (e := l) (by rw [hH]; exact trivial) (.inl rfl) (fun b' u hb hu => (Heap.get?_update_other s.heap (Obj.mapSeq f) (Ne.symm hb)).trans hu) ⟨_, q⟩ ?_
  exact ⟨hz, its', _, hv, q⟩
theorem Inv.lnew {its : List Value} {t' : Nat} (I : Inv X pins σ H s) (hv : Vals ys its) (hz : ys.length ≤ sizeLine) :
    Inv X pins σ (upd H s.heap.objs.size (.lst ys)) { s with heap := s.heap.push { cls := .type "list", data := .seq its.toArray }, toks := t' } :=
  I.laid (fun _ _ q => Heap.get?_push_of_some _ q) (Nat.le_refl _) ⟨hz, its, 0, hv, Heap.get?_push_size _ rfl⟩
theorem Inv.fresh (I : Inv X pins σ H s) : H s.heap.objs.size = none := I.hok.fresh (Nat.le_refl _)
theorem Inv.lstM (I : Inv X pins σ H s) (hH : H l = some (.lst xs)) : xs.length ≤ sizeLine ∧ ∃ (its : List Value) (n : Nat), Vals xs its ∧ xs.length = its.length ∧ s.heap.get? l = some { cls := .type "list", data := .seq its.toArray n } := by
  obtain ⟨z, its, n, r, e⟩ := I.hok l _ hH
  exact ⟨z, its, n, r, r.length, e⟩

theorem notLongL {n : Nat} (h : n ≤ sizeLine) : Builtin.List.listTooLong n = false := by
  unfold Builtin.List.listTooLong
  exact decide_eq_false (by omega)
end

section
variable {X : Cx}

/-! ### methods -/
def rAppend : V → List V → Hp → VK → Prop := fun x vs H Q => ∃ l xs y, x = .ref l ∧ vs = [y] ∧ H l = some (.lst xs) ∧ xs.length < sizeLine ∧ Q .non (upd H l (.lst (xs ++ [y])))
theorem mt_append : MtM X "list.append" rAppend := by
  intro pins s σ H x vs v us Q I rx rv h
  obtain ⟨l, xs, y, rfl, rfl, hH, hz, q⟩ := h
  cases rx
  obtain ⟨u, rfl, ru⟩ := rv.one
  obtain ⟨z, its, n, r, hl, e⟩ := I.lstM hH
  refine call_meets F.slot_list_append ⟨_, e, rfl⟩ F.entry_list_append (F.args_list_append_2 _ _) (PySem.list_append l its.toArray n u (by rw [List.size_toArray]; omega)) ⟨e, ?_⟩
  refine ⟨.non, _, I.lset (its' := its ++ [u]) hH e (by simp) (r.append (.cons ru .nil)) ?_, rfl, q⟩
  rw [List.length_append, List.length_singleton]
  omega

def rExtend : V → List V → Hp → VK → Prop := fun x vs H Q => ∃ l b xs zs, x = .ref l ∧ vs = [.ref b] ∧ H l = some (.lst xs) ∧ H b = some (.lst zs) ∧ xs.length + zs.length ≤ sizeLine ∧ Q .non (upd H l (.lst (xs ++ zs)))
theorem mt_extend : MtM X "list.extend" rExtend := by
  intro pins s σ H x vs v us Q I rx rv h
  obtain ⟨l, b, xs, zs, rfl, rfl, hH, hB, hz, q⟩ := h
  cases rx
  obtain ⟨u, rfl, ru⟩ := rv.one
  cases ru
  obtain ⟨z, its, n, r, hl, e⟩ := I.lstM hH
  obtain ⟨z2, its2, n2, r2, hl2, e2⟩ := I.lstM hB
  have hsz : its.toArray.size + its2.toArray.size ≤ sizeLine := by rw [List.size_toArray, List.size_toArray]; omega
  have hlong : ¬ (!its.toArray.isEmpty && Builtin.List.listTooLong (its.toArray.size + its2.toArray.size)) = true := by
    rw [notLongL hsz, Bool.and_false]
    exact Bool.false_ne_true
  refine call_meets F.slot_list_extend ⟨_, e, rfl⟩ F.entry_list_extend (F.args_list_extend_2 _ _)
    (AutoSeq1.list_extend_list_list_0 l its.toArray n b its2.toArray n2 hlong (by rw [List.size_toArray]; omega) (by omega)) ⟨e, e2, ?_⟩
  refine ⟨.non, _, I.lset (its' := its ++ its2) hH e (by simp) (r.append r2) ?_, rfl, q⟩
  rw [List.length_append]
  omega

def rPop : V → List V → Hp → VK → Prop := fun x vs H Q => ∃ l xs y, x = .ref l ∧ vs = [] ∧ H l = some (.lst xs) ∧ xs[xs.length - 1]? = some y ∧ Q y (upd H l (.lst xs.dropLast))
theorem mt_pop : MtM X "list.pop" rPop := by
  intro pins s σ H x vs v us Q I rx rv h
  obtain ⟨l, xs, y, rfl, rfl, hH, hy, q⟩ := h
  cases rx
  have hus := rv.zero
  subst hus
  obtain ⟨z, its, n, r, hl, e⟩ := I.lstM hH
  obtain ⟨u, hu, ru⟩ := r.get hy
  have hy' : its.toArray[its.toArray.size - 1]? = some u := by
    show its.toArray[its.length - 1]? = some u
    rw [← Array.getElem?_toList, ← hl]
    exact hu
  refine call_meets F.slot_list_pop ⟨_, e, rfl⟩ F.entry_list_pop (F.args_list_pop_1 _) (MeetsSeq.list_pop_last l its.toArray n u hy' (by rw [List.size_toArray]; omega)) ⟨e, ?_⟩
  refine ⟨y, _, I.lset (its' := its.dropLast) hH e ?_ r.dropLast ?_, ru, q⟩
  · show its.toArray.eraseIdxIfInBounds (its.toArray.size - 1) = its.dropLast.toArray
    rw [List.size_toArray, List.eraseIdxIfInBounds_toArray, erase_last]
  · rw [List.length_dropLast]
    omega

def rPopAt : V → List V → Hp → VK → Prop := fun x vs H Q => ∃ l xs i k y, x = .ref l ∧ vs = [.int i] ∧ H l = some (.lst xs) ∧ -(2 ^ 63) ≤ i ∧ i < 2 ^ 63 ∧ seqIndex? i xs.length = some k ∧ xs[k]? = some y ∧ Q y (upd H l (.lst (xs.eraseIdx k)))
def rReverse : V → List V → Hp → VK → Prop := fun x vs H Q => ∃ l xs, x = .ref l ∧ vs = [] ∧ H l = some (.lst xs) ∧ Q .non (upd H l (.lst xs.reverse))
def rClear : V → List V → Hp → VK → Prop := fun x vs H Q => ∃ l xs, x = .ref l ∧ vs = [] ∧ H l = some (.lst xs) ∧ Q .non (upd H l (.lst []))
/-! ### list + list, list += list, list * int -/
def rCat : R2 := fun x y H Q => ∃ l b xs zs, x = .ref l ∧ y = .ref b ∧ H l = some (.lst xs) ∧ H b = some (.lst zs) ∧ xs.length + zs.length ≤ sizeLine ∧ ∀ p, H p = none → Q (.ref p) (upd H p (.lst (xs ++ zs)))
theorem op_cat : OpR X (binaryOp .Add) rCat := by
  intro pins s σ H x y v u Q I rx ry h
  obtain ⟨l, b, xs, zs, rfl, rfl, hH, hB, hz, q⟩ := h
  cases rx
  cases ry
  obtain ⟨z, its, n, r, hl, e⟩ := I.lstM hH
  obtain ⟨z2, its2, n2, r2, hl2, e2⟩ := I.lstM hB
  refine PySem.P.add_list e e2 ?_ (by rw [List.size_toArray, List.size_toArray]; omega)
  have ea : its.toArray ++ its2.toArray = (its ++ its2).toArray := by simp
  rw [ea]
  exact ⟨.ref _, _, I.lnew (t' := s.toks) (r.append r2) (by rw [List.length_append]; omega), rfl, q _ I.fresh⟩
/-- a list times an int (a negative one is nothing) -/
def rRep : R2 := fun x y H Q => ∃ l k xs, x = .ref l ∧ y = .int k ∧ H l = some (.lst xs) ∧ -(2 ^ 63) ≤ k ∧ k < 2 ^ 63 ∧ xs.length * k.toNat ≤ sizeLine ∧
  ∀ p, H p = none → Q (.ref p) (upd H p (.lst (List.replicate k.toNat xs).flatten))
theorem len_rep {α : Type} (xs : List α) (k : Nat) : (List.replicate k xs).flatten.length = k * xs.length := by
  induction k with
  | zero => simp
  | succ k ih => rw [List.replicate_succ, List.flatten_cons, List.length_append, ih, Nat.succ_mul, Nat.add_comm]
theorem op_rep : OpR X (binaryOp .Mult) rRep := by
  intro pins s σ H x y v u Q I rx ry h
  obtain ⟨l, k, xs, rfl, rfl, hH, h1, h2, hz, q⟩ := h
  cases rx
  obtain ⟨t, rfl⟩ := ry
  obtain ⟨z, its, n, r, hl, e⟩ := I.lstM hH
  have hlen : its.toArray.size * k.toNat ≤ sizeLine := by rw [List.size_toArray, ← hl]; exact hz
  have hcap : ¬ its.toArray.size * k.toNat > (2 ^ 63 - 1) / 8 := by
    have : (sizeLine : Nat) ≤ (2 ^ 63 - 1) / 8 := by decide
    omega
  have hfit : ¬ (!Builtin.List.listFitsIndex k) = true := by
    rw [fitsIndex_both h1 h2]
    exact Bool.false_ne_true
  have hlong : ¬ Builtin.List.listTooLong (its.toArray.size * k.toNat) = true := by
    rw [notLongL hlen]
    exact Bool.false_ne_true
  have hnew : List.foldl (fun x1 x2 => x1 ++ x2) #[] (List.replicate (if its.toArray.isEmpty = true then 0 else k.toNat) its.toArray) = (List.replicate k.toNat its).flatten.toArray := by
    have f0 : ∀ m : Nat, List.foldl (fun x1 x2 => x1 ++ x2) #[] (List.replicate m its.toArray) = (List.replicate m its).flatten.toArray := fun m => by
      have := foldl_rep its m []
      rw [List.nil_append] at this
      exact this
    rw [f0]
    cases its with
    | nil => simp
    | cons a r' => rw [if_neg (by simp)]
  refine wpAny_binaryOp_repeat_ref (T := "list") (U := "int") (by decide) ⟨_, e, rfl⟩ (fun s' => typeIs_int s' k t) noFill_list_mul F.fills_int_mul F.slot_int_rmul repeat_list F.slot_int_index.lookup
    (call_meets F.slot_int_rmul (typeIs_int s k t) F.entry_int_rmul (F.args_int_rmul_2 _ _) (int___rmul___int_list k t l its.toArray n)
      ⟨e, rfl, ⟨_, e, rfl⟩, call_meets F.slot_list_mul ⟨_, e, rfl⟩ F.entry_list_mul (F.args_list_mul_2 _ _) (AutoListH.list___mul___list_int_3 l its.toArray n k t hfit hcap hlong) ⟨e, ?_⟩⟩)
  rw [hnew]
  exact ⟨.ref _, _, I.lnew (t' := s.toks) (r.rep k.toNat) (by rw [len_rep, Nat.mul_comm]; exact hz), rfl, q _ I.fresh⟩

/-! ### del xs[i] -/
end

/-! ### xs[a:b] = ys -/
section
variable {prog : Program} {w : World} {A : Around} {E : Value → Shared → Prop} {s : Shared}
end

section
variable {X : Cx}
end
end L2

namespace Att
open PySem PySem.W PySem.Calls PyProof.Rows

/-! ### the script -/
theorem ints_of_wellAll {P : Params} {h : Heap} : ∀ (ns : List Int) (vs : List Value), WellAll P h vs (ns.map WData.int) → IntsAre vs ns := by
  intro ns
  induction ns with
  | nil =>
    intro vs w
    rw [List.map_nil] at w
    cases w
    exact .nil
  | cons n ns ih =>
    intro vs w
    rw [List.map_cons] at w
    cases w with
    | cons a b =>
      cases a
      exact .cons _ _ (ih _ b)

theorem script_of {l : OpenLaw} {n : Nat} (hn : l.most = some n) {P : Params} {h : Heap} {args : List WData} {vals : List Value}
    (hpre : l.row.toRowW.claim.pre args = true) (hwl : WellAll P h vals args) :
    ∃ a vs ns, vals = [Value.ref a] ∧ args = [WData.list (ns.map WData.int)] ∧ h.get? a = some { cls := .type "list", data := .seq vs.toArray } ∧ IntsAre vs ns ∧ ns.length ≤ n := by
  have hsh : WShape.hasAll [] args [.list .int] = true := (pre_splitW hpre).1
  have hc : l.pre.holds [] { args := args } = true := (pre_splitW hpre).2
  obtain ⟨d, r, rfl, h1, h2⟩ := hasAllW_cons hsh
  obtain rfl := hasAllW_nil h2
  obtain ⟨xs, rfl, h3⟩ := hasW_list h1
  obtain ⟨ns, rfl⟩ := items_int h3
  have hlen : ns.length ≤ n := by
    unfold OpenLaw.pre at hc
    have h4 : (WTm.not (.lt (.lit (.int (n : Int))) (.len (.arg 0)))).holds [] { args := [.list (ns.map .int)] } = true := by
      have h4 := (holds_andW hc).1
      rw [hn] at h4
      exact h4
    have h5 := condW_of h4 (w_not (w_lt w_lit (w_len_list (w_arg rfl))))
    rw [List.length_map] at h5
    refine Nat.le_of_not_lt fun q => ?_
    have q' : (n : Int) < ((ns.length : Nat) : Int) := by omega
    first
      | (rw [decide_eq_true q'] at h5; exact absurd h5 (by decide))
      | (simp at h5; omega)
  cases hwl with
  | cons w1 w2 =>
    cases w2
    cases w1 with
    | list ho hall => exact ⟨_, _, ns, rfl, rfl, ho, ints_of_wellAll ns _ hall, hlen⟩

theorem post_true (l : OpenLaw) (args : List WData) : l.row.toRowW.claim.post args (.bool true) args = true :=
  postW_of (r := l.row.toRowW) (X := (true == true))
    (show WShape.has [] (.bool true) .bool = true by first | rfl | decide | simp [WShape.has, WShape.arms, WShape.armsAll])
    (show (WTm.eq .res (.lit (.bool true))).value [] { args := args, res := some (.bool true), after := args } = some (.bool (true == true)) from w_eq_bool (w_res rfl) w_lit) rfl

/-! ### the attachment: holds_open's last premise (the goal 'hc' behind k_head) from a wpAny of the law's body -/
/-- the same from a codeAny of the CALL (for a layer whose function contracts speak of calls) -/
theorem attach_call {l : OpenLaw} {n : Nat} {q : Program} {loose : List Str} {XP : (Str → Option Value) → Heap → Prop} {YP : World → Heap → Prop} {d : DefRec}
    (hn : l.most = some n) (hdf : d.params.defaults = [])
    (call : ∀ (w : World) (s₀ s₁ : Shared) (mg mb : Str → Option Value) (fa : Addr) (o : Obj) (pm cd doc : Value) (a : Addr) (vs : List Value) (ns : List Int),
      Ground q loose [] XP w s₀ mg mb s₁.heap → YP w s₁.heap →
      s₁.heap.get? fa = some o → o.data = .func (docDef d.name d.params d.body d.scope pm cd doc) → s₁.heap.CodeRec cd d.name → mg d.name = some (.ref fa) →
      s₁.heap.get? a = some { cls := .type "list", data := .seq vs.toArray } → IntsAre vs ns → ns.length ≤ n → s₁.gens = #[] →
      codeAny (model l.prog w) callerA (.call (.ref fa) ⟨[.ref a], []⟩) (fun r s' => r = .ok (.ret (.bool true)) ∧ OldK s₁.heap s'.heap ∧ s'.os = s₁.os ∧ AllBare s'.gens) s₁) :
    WalkO q loose XP YP l.row.toRowW d [] (fun f vs => PySem.call f vs) := by
  intro w s₀ s₁ mg mb G Y fa o pm cd doc dV kV ho hd hcd hD hmg hg args vals as hpre hlay hrd hwl hlo
  obtain rfl : dV = .none := Dflts.none hD hdf
  obtain rfl : kV = .none := Dflts.noKw hD
  obtain ⟨a, vs, ns, rfl, rfl, hobj, hints, hlen⟩ := script_of hn hpre hwl
  refine enter_call (codeAny_mono (call w s₀ s₁ mg mb fa o pm cd doc a vs ns G Y ho (fd_plain hd) hcd hmg hobj hints hlen hg) fun r s' hq => ?_)
  obtain ⟨rfl, h2, h3, h4⟩ := hq
  exact ⟨.inl ⟨.bool true, .bool true, [], rfl, fun _ => rfl, .bool true, post_true l _, fun _ => ⟨List.Pairwise.nil, fun _ hm => (nomatch hm)⟩⟩, h2, h3, h4⟩

/-! ### rules over ANY heap (no ledger) from facts about the written part K: the library's own take a ledger (News) for what they write -/
section
variable {prog : Program} {w : World} {A : Around} {E : Value → Shared → Prop} {s : Shared} {K : Frag}

/-! the whole heap as the ledger: makes every rule that writes through a ledger a rule over any heap -/
def noObjs (h : Heap) : Heap := { h with objs := #[] }
def ledger (h : Heap) (L d : Addr) : List (Addr × Obj) := (List.range h.objs.size).filterMap fun a => if a = L ∨ a = d then none else (h.get? a).map fun o => (a, o)
end
end Att

namespace L2
open PySem PySem.Spec PyProof.Rows

theorem vals_ints : ∀ {vs : List Value} {ns : List Int}, IntsAre vs ns → Vals (ns.map V.int) vs
  | _, _, .nil => .nil
  | _, _, .cons n t h => .cons ⟨t, rfl⟩ (vals_ints h)

/-- nothing is tracked but the script, known to the object (or it is an object of the module) -/
def Only (H : Hp) : Prop := ∀ b, H b = none ∨ ∃ o xs, H b = some (.frz o (.lst xs))

/-- THE HEAD: the law's promise, at the heap behind the top. F, the promise of the law's def, may use that base is part of the heap (so K.In base, base.Ns mainGlobals mg stand in Mod) -/
theorem law_call {P : Program} {w : World} {K : PySem.W.Frag} {mg mb : Str → Option Value} {CX : CXT} {k : Nat} {fa a : Addr} {fd : FuncData} {x : Str} {sp : Sp} {s₁ : Shared} {vs : List Value} {ns : List Int}
    (KX : K.In s₁.heap) (hns : s₁.heap.Ns mainGlobals mg) (hb : s₁.heap.Ns builtinsNs mb) (hbb : ∀ x : Str, x ≠ "__name__" → mb x = bootBuiltins x) (hlim : s₁.heap.NoLimit) (hg : s₁.gens = #[])
    (ha : s₁.heap.get? a = some { cls := .type "list", data := .seq vs.toArray }) (hi : IntsAre vs ns) (hl : ns.length ≤ sizeLine) (hr : Room k callerA)
    (F : ∀ base : Heap, K.In base → base.Ns mainGlobals mg → FnOk P w K mg base CX k fa fd [x] sp) (hbind : ∀ (s : Shared) (u : Value), BindsTo s fd ⟨[u], []⟩ [(x, u)])
    (hsp : ∀ H : Hp, Only H → SqL K H a (ns.map V.int) → sp [.ref a] H (fun v _ => v = .bl true) fun _ _ _ => False)
    (hCX : ∀ H e s', CX [] H s₁ (fun _ _ _ => False) e s' → False) :
    codeAny (model P w) callerA (.call (.ref fa) ⟨[.ref a], []⟩) (fun r s' => r = .ok (.ret (.bool true)) ∧ OldK s₁.heap s'.heap ∧ s'.os = s₁.os ∧ AllBare s'.gens) s₁ := by
  have rv := vals_ints hi
  have lenV := hi.length
  -- from an abstract heap in which nothing but the script may be tracked
  have core : ∀ H : Hp, Only H → SqL K H a (ns.map V.int) → HOk P w H s₁.heap → (∀ b, H b ≠ none → b = a) → (H a ≠ none → K.lookup a = none) →
      codeAny (model P w) callerA (.call (.ref fa) ⟨[.ref a], []⟩) (fun r s' => r = .ok (.ret (.bool true)) ∧ OldK s₁.heap s'.heap ∧ s'.os = s₁.os ∧ AllBare s'.gens) s₁ := by
    intro H hO hS hok hA hK
    have base_of : ∀ {b : Addr} {o : Obj}, s₁.heap.get? b = some o → H b = none → (hidT s₁.heap H).get? b = some o := fun e n => hidT_get e n
    have noA : ∀ {b : Addr} {o : Obj} {es : Array DictEntry} {ep : Nat}, s₁.heap.get? b = some o → o.data = .dict es ep → H b = none := fun {b o es ep} e d => by
      cases q : H b with
      | none => rfl
      | some u =>
        have e' : b = a := hA b (by rw [q]; simp)
        subst e'
        rw [ha] at e; cases e
        have d' : Data.seq vs.toArray _ = Data.dict es ep := d
        cases d'
    have nsK : ∀ {b : Addr} {m : Str → Option Value}, s₁.heap.Ns b m → (hidT s₁.heap H).Ns b m := fun {b m} ⟨o, es, ep, e, d, r⟩ => ⟨o, es, ep, base_of e (noA e d), d, r⟩
    have hKb : K.In (hidT s₁.heap H) := fun b o e => base_of (KX b o e) (by
      cases q : H b with
      | none => rfl
      | some u =>
        have e' : b = a := hA b (by rw [q]; simp)
        subst e'
        rw [hK (by rw [q]; simp)] at e; cases e)
    have hM : Mod K mg (hidT s₁.heap H) := ⟨hKb, nsK hns, ⟨mb, nsK hb, hbb⟩, let ⟨mc, h1, h2⟩ := hlim; ⟨mc, nsK h1, h2⟩⟩
    have e0 : Env0 P w K mg (hidT s₁.heap H) callerA [] s₁ H := ⟨rfl, hM, fun b o e => of_hidT e, Nat.le_of_eq (hidT_size _ _), trivial, fun b hb => absurd (show b ∈ ([] : List Addr) from hb) (by simp), hok, .of_eq hg⟩
    refine codeAny_mono ((F _ hKb (nsK hns)).run callerA [] s₁ H ⟨[.ref a], []⟩ [.ref a] [.ref a] _ _ hr e0 (hbind s₁ (.ref a)) (.cons rfl .nil) (hsp H hO hS)) fun r s' h => ?_
    cases r with
    | error e => exact (hCX H e s' h).elim
    | ok fl =>
      cases fl with
      | next => exact False.elim h
      | brk => exact False.elim h
      | cont => exact False.elim h
      | ret u =>
        obtain ⟨v, H', os, bare, un, hok', r', q⟩ := h
        have q' : v = .bl true := q
        subst q'
        obtain rfl : u = Value.bool true := r'
        refine ⟨rfl, OldK.of_keep fun b o e => ?_, os, bare⟩
        cases q : H b with
        | none => exact un.keep b o e q (by intro z; exact absurd (show b ∈ ([] : List Addr) from z) (by simp)) (by simp)
        | some u =>
          rcases hO b with z | ⟨ob, xs, z⟩
          · rw [q] at z; cases z
          · have z2 := un.frzs b ob _ z
            obtain ⟨e1, _⟩ := hok b _ z
            obtain ⟨e2, _⟩ := hok' b _ z2
            rw [e] at e1; cases e1
            exact e2
  cases hk : K.lookup a with
  | some o =>
    -- the script is one of the module's own objects
    have e := KX a o hk
    rw [ha] at e
    cases e
    refine core (fun _ => none) (fun _ => .inl rfl) (.inr ⟨_, vs.toArray, _, hk, rfl, rfl, rfl, by rw [List.size_toArray, lenV]; exact hl, by simpa using rv⟩) (fun b u z => by have z' : (none : Option HO) = some u := z; cases z') (fun b z => absurd rfl z) fun z => absurd rfl z
  | none =>
    refine core (fun b => if b = a then some (.frz { cls := .type "list", data := .seq vs.toArray } (.lst (ns.map V.int))) else none) (fun b => ?_) (.inl (.inr ⟨{ cls := .type "list", data := .seq vs.toArray }, if_pos rfl⟩)) (fun b u z => ?_) (fun b z => ?_) fun _ => hk
    · by_cases hb : b = a
      · exact .inr ⟨_, _, if_pos hb⟩
      · exact .inl (if_neg hb)
    · by_cases hb : b = a
      · have z' := (if_pos hb).symm.trans z
        cases z'
        subst hb
        exact ⟨ha, by rw [List.length_map]; exact hl, vs, _, rv, ha⟩
      · have z' := (if_neg hb).symm.trans z
        cases z'
    · by_cases hb : b = a
      · exact hb
      · exact absurd (if_neg hb) z
end L2

namespace L2
open PySem PySem.Spec PyProof.Rows

abbrev KOf {K : PySem.W.Frag} {h : Heap} (_ : K.In h) : PySem.W.Frag := K

/-- the goal that k_head leaves (case hc), from the law's promise. F gives the function object fd (K's own) once, then the promise over every base -/
theorem walk_of {l : PySem.W.OpenLaw} {n k : Nat} {q : Program} {loose : List Str} {XP : (Str → Option Value) → Heap → Prop} {YP : World → Heap → Prop} {d : DefRec} {K : Params → PySem.W.Frag} {CX : World → CXT} {sp : World → Sp} {x : Str}
    (hn : l.most = some n) (hn2 : n ≤ sizeLine) (hdf : d.params.defaults = []) (hr : Room k callerA)
    (hY : ∀ (w : World) (h : Heap), YP w h → (K w.params).In h)
    (F : ∀ (w : World) (mg : Str → Option Value) (fa : Addr) (h : Heap), (K w.params).In h → h.Ns mainGlobals mg → mg d.name = some (.ref fa) →
      ∃ fd : FuncData, (∀ (s : Shared) (u : Value), BindsTo s fd ⟨[u], []⟩ [(x, u)]) ∧
        ∀ base : Heap, (K w.params).In base → base.Ns mainGlobals mg → FnOk l.prog w (K w.params) mg base (CX w) k fa fd [x] (sp w))
    (hsp : ∀ (w : World) (H : Hp) (a : Addr) (ns : List Int), ns.length ≤ n → Only H → SqL (K w.params) H a (ns.map V.int) → sp w [.ref a] H (fun v _ => v = .bl true) fun _ _ _ => False)
    (hCX : ∀ (w : World) (H : Hp) (s : Shared) (e : Value) (s' : Shared), CX w [] H s (fun _ _ _ => False) e s' → False) :
    PySem.W.WalkO q loose XP YP l.row.toRowW d [] (fun f vs => PySem.call f vs) := by
  refine Att.attach_call hn hdf fun w s₀ s₁ mg mb fa o pm cd doc a vs ns G Y ho hd hcd hmg hobj hints hlen hg => ?_
  have KX := hY w _ Y
  obtain ⟨fd, hb, hF⟩ := F w mg fa _ KX G.T.g hmg
  exact law_call KX G.T.g G.T.b G.T.builtins G.T.nolimit hg hobj hints (Nat.le_trans hlen hn2) hr hF hb (fun H hO hS => hsp w H a ns hlen hO hS) fun H e s' => hCX w H s₁ e s'
end L2

/- THE LAST THEOREM (shape; LID, My.* are yours):
   My.Adr: a structure of the addresses that your layer names (classes, functions); My.Txt K t: a structure (Prop) of the equations over K;
   My.txt_mk : {K} {implicit addresses ..} (e1 : nsIn K mainGlobals "law" = some (some (.ref f))) (e2 : K.lookup f = some ⟨oc, od, .func (fnOf "law" "law" params body scope dV kV doc pm an cdv ct), sl⟩) (e3 : codeIn K cdv "law" = true) .. : ∃ t, My.Txt K t

set_option maxRecDepth 100000 in
set_option maxHeartbeats 0 in
theorem PySem.Challenge.cw_LID_holds : PySem.Challenge.rw_LID.Holds := by
  w_on; o_law; k_head; (case hw => w_witness2)
  k_fill
  refine L2.walk_of (l := PySem.Challenge.rw_LID) (n := 63) (k := 40) (x := "script") (CX := fun w => ..) (sp := fun _ => My.sp_law) rfl (by decide) rfl ⟨rfl, by decide, by decide⟩ (fun w h Y => PySem.W.kIn_of Y) ?F ?S ?C
  case F =>
    intro w mg fa h KX G hmg
    have T : ∃ t, My.Txt (L2.KOf KX) t := by
      dsimp only [L2.KOf]                          -- K must stand as «<heap const> w.params» for k_is
      refine' My.txt_mk ?e1 ?e2 ?e3 ..
      (case e1 => PySem.W.k_is)                    -- in the order: a name -> its address -> its object -> its parts
      (case e2 => PySem.W.k_is)
      ..
    obtain ⟨t, T⟩ := T
    have e0 := hmg.symm.trans (PySem.W.mg_of KX G T.law)
    cases e0                                       -- fa is the law's own address
    exact ⟨_, fun s u => .of_eq rfl, fun base kb nb => My.law_fn T kb nb⟩     -- if «.of_eq rfl» comes too early: refine' ⟨_, ?b, fun base kb nb => My.law_fn T kb nb⟩; exact fun s u => .of_eq rfl
  case S => exact fun w H a ns hl hO hS => ..
  case C => exact ..
(the tactic k_is has no namespace: write k_is) -/

/-! SHORT WORDS over the layer: a def of the text, its body, what a loop and a test want. -/
namespace L2
open PySem PySem.Spec PyProof.Rows

/-! ### the text by places -/
/-- the j-th statement of a class's body -/
def inClass (s : Stmt) (j : Nat) : Stmt := match s with
  | .ClassDef _ _ _ body _ _ _ _ _ _ _ => body.getD j (.Pass ⟨0, 0, 0, 0⟩)
  | _ => .Pass ⟨0, 0, 0, 0⟩
def defArgs (s : Stmt) : Arguments := match s with
  | .FunctionDef _ a _ _ _ _ _ _ _ _ => a
  | _ => { posonlyargs := [], args := [], vararg := none, kwonlyargs := [], kw_defaults := [], kwarg := none, defaults := [] }
def defBody (s : Stmt) : List Stmt := match s with
  | .FunctionDef _ _ b _ _ _ _ _ _ _ => b
  | _ => []
def defScope (s : Stmt) : Scope := match s with
  | .FunctionDef _ _ _ _ _ _ sc _ _ _ => sc
  | _ => { kind := .function, names := [], isGenerator := false, isCoroutine := false }

/-! ### no exception leaves a def -/
abbrev CX0 : CXT := fun _ _ _ _ _ _ => False
abbrev E0 : XK := fun _ _ _ => False
theorem pass0 {X : Cx} : Passes CX0 X E0 := fun _ _ _ _ _ _ _ h => h.elim

/-! ### a def (or method) of the text as it stands behind the top -/
structure Fun (K : PySem.W.Frag) (x qual : Str) (st : Stmt) (f : Addr) (fd : FuncData) : Prop where
  ex : ∃ (oc : Value) (od : Option Addr) (kV doc pm : Value) (an : Option Addr) (cdv ct : Value) (osl : Array (Option Value)),
    fd = PySem.W.fnOf x qual (defArgs st) (defBody st) (defScope st) .none kV doc pm an cdv ct ∧ K.lookup f = some ⟨oc, od, .func fd, osl⟩ ∧ PySem.W.codeIn K cdv qual = true
  kp : PySem.W.keepIn K (.ref f) = true
section
variable {P : Program} {w : World} {K : PySem.W.Frag} {mg : Str → Option Value} {base : Heap}
/-- THE RULE for a def: its body as a term of rules, and the reading of that term -/
theorem Fun.ok {x qual : Str} {st : Stmt} {f : Addr} {fd : FuncData} {N ps : List Str} {k : Nat} {sp : Sp} (F : Fun K x qual st f fd) (S : FnScope N ps (defScope st)) (len : ∀ vs H Q E, sp vs H Q E → vs.length = ps.length)
    (hbody : ∀ (cdv : Value) (A : Around) (outer : List Env) (s : Shared) (H : Hp) (vs : List V) (Q : VK) (E : XK), Room k (A.deeper (envOfC qual (defScope st) s.heap.objs.size f cdv)) → sp vs H Q E →
      ∃ t, PSs (cxOf CX0 P w K mg base N qual (defScope st) f cdv A outer s H E).nox (defBody st) t ∧ t { nx := fun _ H' => Q .non H', rt := Q } (start N vs) H) : FnOk P w K mg base CX0 (k + 1) f fd ps sp := by
  obtain ⟨oc, od, kV, doc, pm, an, cdv, ct, osl, rfl, lk, hcd⟩ := F.ex
  refine fn_of lk hcd S len fun A outer s H vs Q E hr hsp => ?_
  obtain ⟨t, h, q⟩ := hbody cdv A outer s H vs Q E hr hsp
  exact ⟨t, h.nox, q⟩
/-- how its arguments bind (no defaults): h is «fun _ _ _ _ _ _ us hl => match us, hl with | [_, _], _ => rfl», one _ a parameter -/
theorem Fun.binds {x qual : Str} {st : Stmt} {f : Addr} {fd : FuncData} {ps : List Str} (F : Fun K x qual st f fd)
    (h : ∀ (kV doc pm : Value) (an : Option Addr) (cdv ct : Value) (us : List Value), us.length = ps.length → bindArgs (PySem.W.fnOf x qual (defArgs st) (defBody st) (defScope st) .none kV doc pm an cdv ct) ⟨us, []⟩ = pure (ps.zip us)) : Binds K fd ps [] := by
  obtain ⟨oc, od, kV, doc, pm, an, cdv, ct, osl, rfl, lk, hcd⟩ := F.ex
  exact .all (h kV doc pm an cdv ct)
theorem fun_mk {x qual : Str} {st : Stmt} {f : Addr} {oc : Value} {od an : Option Addr} {osl : Array (Option Value)} {kV doc pm cdv ct : Value} (l : K.lookup f = some ⟨oc, od, .func (PySem.W.fnOf x qual (defArgs st) (defBody st) (defScope st) .none kV doc pm an cdv ct), osl⟩)
    (c : PySem.W.codeIn K cdv qual = true) (k : PySem.W.keepIn K (.ref f) = true) : Fun K x qual st f (PySem.W.fnOf x qual (defArgs st) (defBody st) (defScope st) .none kV doc pm an cdv ct) := ⟨⟨oc, od, kV, doc, pm, an, cdv, ct, osl, rfl, l, c⟩, k⟩
end
theorem small1000 {n : Nat} (h : n ≤ 1000) : n < sizeLine := Nat.lt_of_le_of_lt h (by decide)

/-! ### expressions in short: the name that stands in the i-th slot -/
section
variable {X : Cx}
theorem pv (i : Nat) {x : Str} {pos : Pos} (hN : X.N[i]? = some x := by rfl) (hv : Vis X.env.scope x := by first | exact Or.inl rfl | exact Or.inr (Or.inl rfl) | exact Or.inr (Or.inr rfl)) (hd : (x == ("__debug__" : Str)) = false := by decide)
    (hcd : (x == ("__classdict__" : Str)) = false := by decide) : PE X (.Name x pos) (tVar i) := pe_var hN hv hd hcd
end

/-! ### tests -/
theorem ite2 {c A B : Prop} [Decidable c] (h1 : c → A) (h2 : ¬ c → B) : if c then A else B := by
  by_cases h : c
  · rw [if_pos h]
    exact h1 h
  · rw [if_neg h]
    exact h2 h
/-! ### heaps -/
/-- all that was tracked is as it was -/
def Same (H H' : Hp) : Prop := ∀ b o, H b = some o → H' b = some o
theorem Same.refl (H : Hp) : Same H H := fun _ _ h => h
theorem Same.trans {H H1 H2 : Hp} (a : Same H H1) (b : Same H1 H2) : Same H H2 := fun c o h => b c o (a c o h)
theorem Same.free {H H' : Hp} (e : Same H H') {l : Addr} (h : H' l = Option.none) : H l = Option.none := by
  cases q : H l with
  | none => rfl
  | some o =>
    rw [e l o q] at h
    cases h
theorem Same.seq {K : PySem.W.Frag} {H H' : Hp} {a : Addr} {xs : List V} (e : Same H H') (h : SqL K H a xs) : SqL K H' a xs := by
  rcases h with (h | ⟨o, h⟩) | h
  · exact .inl (.inl (e _ _ h))
  · exact .inl (.inr ⟨o, e _ _ h⟩)
  · exact .inr h

end L2

set_option maxHeartbeats 4000000
namespace L2
open PySem PySem.Spec PyProof.Rows

/-! ### list comprehensions of one clause, within the hand layer -/
section
variable {X : Cx} {pins : List (Addr × Obj)} {σ : St} {H : Hp} {s : Shared} {a : Addr} {o : HO}
theorem HOk.adopt {P : Program} {w : World} {h : Heap} (x : HOk P w H h) (hn : H a = none) (new : ObjOk P w (upd H a o) h a o) : HOk P w (upd H a o) h := fun b u e => by
  by_cases hb : b = a
  · subst hb; rw [upd_same] at e; cases e; exact new
  · rw [upd_ne hb] at e
    exact (x b u e).stay (fun c v _ q => q) (fun c q => by rw [upd_ne (ne_of_none q hn)]; exact q) fun c xs q => by rw [upd_ne (ne_of_none q hn)]; exact q
/-- an object that was not tracked is tracked from here on -/
theorem Inv.adopt (I : Inv X pins σ H s) (f : FpOk X pins H a) (new : ObjOk X.prog X.w (upd H a o) s.heap a o) : Inv X pins σ (upd H a o) s := by
  obtain ⟨hn, hL, hfs, hex, hc, hp⟩ := f
  refine ⟨I.ok, I.os, I.bare, ⟨I.base.keep, I.base.slot, fun b ob e n hx => ?_, I.base.there, fun b xs e => ?_, fun b ob u e => ?_, fun b ps e => ?_⟩, I.loc, I.cell, by rw [upd_ne (Ne.symm hL)]; exact I.free, fun x c e => by rw [upd_ne (hc x c e)]; exact I.freeC x c e, fun p q => ?_, HOk.adopt I.hok hn new, I.len⟩
  · have nb : b ≠ a := fun z => by
      rcases hex with z' | z'
      · exact hx (z ▸ z')
      · exact absurd (Heap.lt_size e) (by rw [z]; exact Nat.not_lt.mpr z')
    rw [upd_ne nb]
    exact I.base.free b ob e n hx
  · have q := I.base.tups b xs e
    rw [upd_ne (ne_of_none q hn)]
    exact q
  · have q := I.base.frzs b ob u e
    rw [upd_ne (ne_of_none q hn)]
    exact q
  · obtain ⟨m, q⟩ := I.base.tbls b ps e
    exact ⟨m, by rw [upd_ne (ne_of_none q hn)]; exact q⟩
  · obtain ⟨e, n, r⟩ := I.pin p q
    exact ⟨e, by rw [upd_ne (hp p q)]; exact n, r⟩
end

/-! the closure of the block -/
theorem forIn_yield_fold {α β : Type} {f : α → β → Sem (ForInStep β)} {g : α → β → β} : ∀ (l : List α) (c : β), (∀ x ∈ l, ∀ c, f x c = pure (.yield (g x c))) → forIn l c f = pure (l.foldl (fun c x => g x c) c)
  | [], _, _ => rfl
  | x :: l, c, h => by
    rw [List.forIn_cons, h x List.mem_cons_self, pure_bind]
    exact forIn_yield_fold l (g x c) fun y hy => h y (List.mem_cons_of_mem _ hy)
def clG (env : Env) (x : Str × NameKind) (c : List (Str × Addr)) : List (Str × Addr) := if (x.2 == NameKind.free) = true then (x.1, (env.cells.lookup x.1).getD 0) :: c else c
def clOf (env : Env) (scope : Scope) : List (Str × Addr) := scope.names.foldl (fun c x => clG env x c) []
theorem closure_eq {env : Env} {scope : Scope} (h : ∀ y ∈ scope.names, y.2 = .free → ∃ c, env.cells.lookup y.1 = some c) : closureFor scope env = pure (clOf env scope) := by
  simp only [closureFor]
  rw [forIn_yield_fold (g := clG env) scope.names [] (fun x hx c => by
    obtain ⟨n, k⟩ := x
    unfold clG
    by_cases hk : (k == NameKind.free) = true
    · obtain ⟨a, ha⟩ := h _ hx (by simpa using hk)
      have ha' : env.cells.lookup n = some a := ha
      simp only [hk, if_true, cellOf, ha', pure_bind, Option.getD_some]
    · have hk' : (k == NameKind.free) = false := Bool.eq_false_iff.mpr hk
      simp only [hk', Bool.false_eq_true, if_false])]
  rfl
theorem clG_look {env : Env} : ∀ (l : List (Str × NameKind)) (cs : List (Str × Addr)), (∀ y ∈ l, y.2 = .free → ∃ c, env.cells.lookup y.1 = some c) → (∀ y c, cs.lookup y = some c → env.cells.lookup y = some c) →
    (∀ y c, (l.foldl (fun c x => clG env x c) cs).lookup y = some c → env.cells.lookup y = some c) ∧ ∀ y, ((cs.lookup y).isSome = true ∨ (y, NameKind.free) ∈ l) → ((l.foldl (fun c x => clG env x c) cs).lookup y).isSome = true
  | [], cs, _, h => ⟨h, fun y hy => hy.elim id fun z => absurd z (by simp)⟩
  | (n, k) :: l, cs, hf, h => by
    have hf' : ∀ y ∈ l, y.2 = .free → ∃ c, env.cells.lookup y.1 = some c := fun y hy => hf y (List.mem_cons_of_mem _ hy)
    rw [List.foldl_cons]
    by_cases hk : k = .free
    · subst hk
      obtain ⟨a, ha⟩ := hf (n, .free) List.mem_cons_self rfl
      have ha' : env.cells.lookup n = some a := ha
      have e : clG env (n, .free) cs = (n, a) :: cs := by
        unfold clG
        rw [if_pos (by rfl)]
        show (n, (env.cells.lookup n).getD 0) :: cs = _
        rw [ha']
        rfl
      rw [e]
      have ih := clG_look l ((n, a) :: cs) hf' (fun y c hy => by
        rw [List.lookup_cons] at hy
        cases hb : y == n with
        | true =>
          rw [hb] at hy
          rw [eq_of_beq hb]
          exact ha'.trans hy
        | false =>
          rw [hb] at hy
          exact h y c hy)
      refine ⟨ih.1, fun y hy => ih.2 y ?_⟩
      rcases hy with hy | hy
      · left
        rw [List.lookup_cons]
        cases y == n with
        | true => rfl
        | false => exact hy
      · rcases List.mem_cons.mp hy with hy | hy
        · left
          rw [(Prod.mk.inj hy).1, List.lookup_cons]
          simp
        · exact .inr hy
    · have e : clG env (n, k) cs = cs := by
        unfold clG
        rw [if_neg (by simpa using hk)]
      rw [e]
      have ih := clG_look l cs hf' h
      refine ⟨ih.1, fun y hy => ih.2 y ?_⟩
      rcases hy with hy | hy
      · exact .inl hy
      · rcases List.mem_cons.mp hy with hy | hy
        · exact absurd (Prod.mk.inj hy).2.symm hk
        · exact .inr hy
theorem lookup_relabel_free {env : Env} : ∀ {names : List (Str × NameKind)} {x : Str}, names.lookup x = some .free →
    (names.map fun (n, k) => if (k == NameKind.free && env.scope.kind == .function && env.kindOf n == some .cell) then (n, NameKind.cell) else (n, k)).lookup x ≠ some .local
  | [], _, h => by simp at h
  | (n, k) :: r, x, h => by
    have ih := @lookup_relabel_free env r x
    show List.lookup x ((if (k == NameKind.free && env.scope.kind == .function && env.kindOf n == some .cell) = true then (n, NameKind.cell) else (n, k)) :: _) ≠ _
    cases hx : x == n with
    | true =>
      simp only [List.lookup_cons, hx] at h
      cases h
      split
      · simp [List.lookup_cons, hx]
      · simp [List.lookup_cons, hx]
    | false =>
      simp only [List.lookup_cons, hx] at h
      by_cases hc : (k == NameKind.free && env.scope.kind == .function && env.kindOf n == some .cell) = true
      · rw [if_pos hc]; simp only [List.lookup_cons, hx]; exact ih h
      · rw [if_neg hc]; simp only [List.lookup_cons, hx]; exact ih h
theorem free_of_relabel {env : Env} {scope : Scope} {y : Str} (nc : ∀ z ∈ scope.names, z.2 ≠ .cell) (h : (relabel scope env).names.lookup y = some .cell ∨ (relabel scope env).names.lookup y = some .free) : (y, NameKind.free) ∈ scope.names := by
  have go : ∀ k, (k = NameKind.cell ∨ k = NameKind.free) → (relabel scope env).names.lookup y = some k → (y, NameKind.free) ∈ scope.names := fun k hk e => by
    have m := PySem.mem_of_lookup e
    obtain ⟨⟨n, k'⟩, hm, e'⟩ := List.mem_map.mp m
    by_cases hc : (k' == NameKind.free && env.scope.kind == .function && env.kindOf n == some .cell) = true
    · have e2 : (n, NameKind.cell) = (y, k) := by
        rw [← e']
        show _ = (if (k' == NameKind.free && env.scope.kind == .function && env.kindOf n == some .cell) = true then (n, NameKind.cell) else (n, k'))
        rw [if_pos hc]
      have hk' : k' = .free := by
        simp only [Bool.and_eq_true, beq_iff_eq] at hc
        exact hc.1.1
      rw [← (Prod.mk.inj e2).1, ← hk']
      exact hm
    · have e2 : (n, k') = (y, k) := by
        rw [← e']
        show _ = (if (k' == NameKind.free && env.scope.kind == .function && env.kindOf n == some .cell) = true then (n, NameKind.cell) else (n, k'))
        rw [if_neg hc]
      rcases hk with hk | hk
      · exact absurd ((Prod.mk.inj e2).2.trans hk) (nc _ hm)
      · rw [← (Prod.mk.inj e2).1, ← hk, ← (Prod.mk.inj e2).2]
        exact hm
  rcases h with h | h
  · exact go _ (.inl rfl) h
  · exact go _ (.inr rfl) h

/-! the block's own context -/
def cxComp (X : Cx) (N : List Str) (scope : Scope) (C : Addr) (s : Shared) (H : Hp) (ex : List Addr) (pn : List (Addr × Obj)) (E : Value → Shared → Prop) : Cx where
  prog := X.prog
  w := X.w
  K := X.K
  mg := X.mg
  base := X.base
  A := X.A
  N := N
  s₀ := s
  H₀ := H
  env := compEnvC scope (clOf X.env scope) C X.env
  outer := X.stack
  stack := X.stack
  ex := ex
  fn := fun _ => false
  calm := X.calm
  pn := pn
  xe := E
/-- what is read off the text: osc, N the scope and the names around; caps: the names (with their places around) that the block sees -/
structure CompSc (osc : Scope) (N : List Str) (scope : Scope) (x : Str) (caps : List (Nat × Str)) : Prop where
  kind : scope.kind = .function
  hx : scope.names.lookup x = some .local
  ncell : ∀ y ∈ scope.names, y.2 ≠ .cell
  nloc : ∀ y ∈ scope.names, y.2 = .local → scope.names.lookup y.1 = some .local
  free : ∀ y ∈ scope.names, y.2 = .free → osc.names.lookup y.1 = some .cell ∨ osc.names.lookup y.1 = some .free
  cap : ∀ p ∈ caps, N[p.1]? = some p.2 ∧ scope.names.lookup p.2 = some .free
  nd : (x :: caps.map (·.2)).Nodup
def capS (caps : List (Nat × Str)) (σ : St) : St := caps.map fun p => (σ[p.1]?).getD none
def PIfs (X : Cx) (ifs : List Expr) (tc : TT) : Prop :=
  ∀ (pins : List (Addr × Obj)) (s : Shared) (σ : St) (H : Hp) (Q : Bool → Hp → Prop), Inv X pins σ H s → tc σ H Q →
    wpAny (model X.prog X.w) X.A (forIn ifs true fun c r => if r = true then do let ok ← isTrue c X.env (eval c X.env); pure (ForInStep.yield ok) else pure (ForInStep.yield r)) (TP X pins σ Q) X.xe s
def tYes : TT := fun _ H Q => Q true H
theorem pifs_nil {X : Cx} : PIfs X [] tYes := fun _ _ _ H _ I h => by
  simp only [List.forIn_nil]
  exact wpAny_pure ⟨H, I, h⟩
theorem pifs_one {X : Cx} {c : Expr} {tc : TT} (h : PT X c tc) : PIfs X [c] tc := by
  intro pins s σ H Q I hq
  simp only [List.forIn_cons, List.forIn_nil, if_true]
  exact wpAny_bind (wpAny_bind (wpAny_mono (h pins s σ H Q I hq) (fun b s' hb => wpAny_pure (wpAny_pure hb)) fun _ _ x => x))
/-- the block's reading: W, what holds ahead of turn i with a measure m and the items acc so far; Z, what is wanted behind -/
def tCompW (J : It) (cs : St) (tc : TT) (te : TE) (H1 : Hp) (Z : List V → Hp → Prop) : Prop :=
  ∃ W : Nat → Nat → List V → Hp → Prop, (∃ m, W 0 m [] H1) ∧ ∀ i m acc H, W i m acc H →
    (J.stop i H ∧ Z acc H) ∨ (J.go i H ∧ ∃ N : List V → Hp → Prop, (∀ a H', N a H' → ∃ m', m' < m ∧ W (i + 1) m' a H') ∧
      ∀ x H', J.yld i H x H' → tc (some x :: cs) H' fun b H2 => if b = true then te (some x :: cs) H2 fun v H3 => acc.length < sizeLine ∧ N (acc ++ [v]) H3 else N acc H2)
def tComp (wi : TI) (caps : List (Nat × Str)) (tc : TT) (te : TE) : TE := fun σ H Q => wi σ H fun J H1 => tCompW J (capS caps σ) tc te H1 fun acc H2 => ∀ p, H2 p = none → Q (.ref p) (upd H2 p (.lst acc))

/-! the loop -/
theorem comp_loop {X : Cx} {elt iter : Expr} {x : Str} {ns : List Str} {px pos : Pos} {ifs : List Expr} {scope : Scope} {it D : Addr} {fp : List Addr} {tn : Nat → Heap → Prop} {J : It} {tc : TT} {te : TE} {Z : List V → Hp → Prop} {R : Result → Shared → Prop}
    {cs : St} {o : Option V} {H : Hp} {s : Shared} (hc : X.calm = true) (hN : X.N = x :: ns) (nd : X.N.Nodup) (hx : X.env.scope.names.lookup x = some .local) (I : Inv X [] (o :: cs) H s) (T : Turn X.prog X.w X.K (.Name x px) J fp it tn) (st : tn 0 s.heap) (hf : ∀ b ∈ fp, FpOk X [] H b)
    (hD : FpOk X [] H D) (hDf : D ∉ fp) (pl : s.heap.PlainList D #[]) (hifs : PIfs X ifs tc) (helt : PE X elt te) (hW : tCompW J cs tc te H Z) (hxe : X.xe = notedBy (model X.prog X.w) X.A X.env fun e s' => R (.error e) s')
    (hR : ∀ (s' : Shared) (H' : Hp) (acc : List V) (its : List Value) (o' : Option V), Inv X [] (o' :: cs) H' s' → s'.heap.PlainList D its.toArray → Vals acc its → acc.length ≤ sizeLine → H' D = none → Z acc H' → R (.ok .next) s') :
    codeAny (model X.prog X.w) X.A (.compLoop (.ListComp elt [⟨.Name x px, iter, ifs, 0⟩] scope pos) 0 (.ref it) (.ref D) X.env) R s := by
  obtain ⟨W, ⟨m0, w0⟩, turn⟩ := hW
  refine codeAny_compLoop_tests (fun n s' => ∃ (i : Nat) (acc : List V) (its : List Value) (H' : Hp) (o' : Option V), Inv X [] (o' :: cs) H' s' ∧ tn i s'.heap ∧ (∀ b ∈ fp, H' b = none) ∧ H' D = none ∧ s'.heap.PlainList D its.toArray ∧ Vals acc its ∧ acc.length ≤ sizeLine ∧ W i n acc H') ?_ m0
    ⟨0, [], [], H, o, I, st, fun b hb => (hf b hb).1, hD.1, pl, .nil, Nat.zero_le _, w0⟩
  rintro n s3 ⟨i, acc, its, H3, o3, I3, st3, fr3, hD3, ⟨nD, gD⟩, va, hl, w3⟩
  rw [← hxe]
  -- the list is pinned through the turn
  have I4 : Inv X [(D, { cls := .type "list", data := .seq its.toArray nD })] (o3 :: cs) H3 s3 := I3.pins_of fun p hp => by
    obtain rfl : p = (D, { cls := .type "list", data := .seq its.toArray nD }) := by simpa using hp
    exact ⟨gD, hD3, hD.2.1, hD.2.2.1, fun v z => by cases (show Data.seq its.toArray nD = Data.cell v from z)⟩
  have stat : ∀ {H' : Hp}, (∀ b ∈ fp, H' b = none) → ∀ b ∈ fp, FpOk X [(D, { cls := .type "list", data := .seq its.toArray nD })] H' b := fun hn b hb => by
    obtain ⟨_, f1, f2, f3, f4, f5⟩ := hf b hb
    refine ⟨hn b hb, f1, f2, f3, f4, fun p hp => ?_⟩
    rcases List.mem_append.mp hp with z | z
    · exact f5 p (List.mem_append_left _ z)
    · obtain rfl : p = (D, { cls := .type "list", data := .seq its.toArray nD }) := by simpa using z
      exact fun e => hDf (by rw [show D = b from e]; exact hb)
  rcases turn i n acc H3 w3 with ⟨stop, z⟩ | ⟨go, N, hNn, step⟩
  · refine thn (T.done X rfl rfl rfl hc i _ s3 (o3 :: cs) H3 X.xe I4 (stat fr3) st3 stop) fun r s4 ⟨hr, I5⟩ => ?_
    subst hr
    exact hR s4 H3 acc its o3 (I5.pins_of fun p hp => absurd hp (by simp)) ⟨nD, (I5.pin _ (List.mem_append_right _ (List.mem_singleton.mpr rfl))).1⟩ va hl hD3 z
  · refine thn (T.item X rfl rfl rfl hc i _ s3 (o3 :: cs) H3 X.xe I4 (stat fr3) st3 go) fun r s4 ⟨u, hr, h4⟩ => ?_
    subst hr
    have e0 : (letOwnedTupleGo (.Name x px) (.ref it) u >>= fun _ => assign (.Name x px) X.env u) = assign (.Name x px) X.env u := rfl
    show wpAny _ _ (assign (.Name x px) X.env u) _ _ s4
    rw [← e0]
    refine wpAny_bind (thn h4 fun _ s5 ⟨xv, H5, I5, r5, y5, st5, fr5⟩ => ?_)
    have I5' := I5.pinned (stat fr5) (T.obj _ _ st5)
    refine wpAny_assign_Name (store_ok (i := 0) I5' nd (by rw [hN] <;> rfl) (.inl hx) r5 (fun s6 I6 => ?_) (.inr hx))
    have I6' : Inv X ([(D, { cls := .type "list", data := .seq its.toArray nD })] ++ pinsAt fp s5.heap) (some xv :: cs) H5 s6 := I6
    -- what stays of the iterator and of the list, at any later state of the turn
    have later : ∀ {σ' : St} {H' : Hp} {s' : Shared}, Inv X ([(D, { cls := .type "list", data := .seq its.toArray nD })] ++ pinsAt fp s5.heap) σ' H' s' →
        Inv X [] σ' H' s' ∧ tn (i + 1) s'.heap ∧ (∀ b ∈ fp, H' b = none) ∧ H' D = none ∧ s'.heap.get? D = some { cls := .type "list", data := .seq its.toArray nD } := fun {σ' H' s'} J' => by
      have pD := J'.pin (D, { cls := .type "list", data := .seq its.toArray nD }) (List.mem_append_right _ (List.mem_append_left _ (List.mem_singleton.mpr rfl)))
      refine ⟨J'.pins_of fun p hp => absurd hp (by simp), T.keep _ _ _ st5 fun b hb ob e => (J'.pin (b, ob) (List.mem_append_right _ (List.mem_append_right _ (mem_pinsAt hb e)))).1, fun b hb => ?_, pD.2.1, pD.1⟩
      obtain ⟨ob, e, _⟩ := T.obj _ _ st5 b hb
      exact (J'.pin (b, ob) (List.mem_append_right _ (List.mem_append_right _ (mem_pinsAt hb e)))).2.1
    refine thn (hifs _ s6 (some xv :: cs) H5 _ I6' (step xv H5 y5)) fun b s7 ⟨H7, I7, q7⟩ => ?_
    cases b with
    | false =>
      obtain ⟨m', hm, w7⟩ : ∃ m', m' < n ∧ W (i + 1) m' acc H7 := hNn acc H7 q7
      obtain ⟨l1, l2, l3, l4, l5⟩ := later I7
      exact ⟨m', hm, i + 1, acc, its, H7, some xv, l1, l2, l3, l4, ⟨nD, l5⟩, va, hl, w7⟩
    | true =>
      have q7' : te (some xv :: cs) H7 fun v H3 => acc.length < sizeLine ∧ N (acc ++ [v]) H3 := q7
      show wpAny _ _ (eval elt X.env) _ _ s7
      refine thn (helt _ s7 (some xv :: cs) H7 _ I7 q7') fun u8 s8 ⟨v, H8, I8, r8, hlt, n8⟩ => ?_
      obtain ⟨m', hm, w8⟩ := hNn _ _ n8
      obtain ⟨l1, l2, l3, l4, l5⟩ := later I8
      have hlen := va.length
      refine wpAny_list_append_plain (hsz := by simp only [List.size_toArray]; omega) ⟨nD, l5⟩ fun h9 pl9 sb9 => ?_
      refine ⟨m', hm, i + 1, acc ++ [v], its ++ [u8], H8, some xv, l1.turned (t' := s8.toks) (fun b ob hb e => (sb9.2 b hb).trans e) l4 hD.2.1 hD.2.2.2.1 hD.2.2.2.2.1 hD.2.2.2.2.2, ?_, l3, l4, by simpa using pl9, va.append (.cons r8 .nil), ?_, w8⟩
      · exact T.keep _ _ _ l2 fun b hb ob e => (sb9.2 b (fun z => hDf (z ▸ hb))).trans e
      · rw [List.length_append, List.length_singleton]
        omega

/-! the block -/
section
variable {X : Cx} {elt iter : Expr} {x : Str} {px pos : Pos} {ifs : List Expr} {scope : Scope} {caps : List (Nat × Str)} {wi : TI} {tc : TT} {te : TE}
theorem Inv.stkNo {pins : List (Addr × Obj)} {σ : St} {H : Hp} {s : Shared} {b : Addr} (I : Inv X pins σ H s) (h1 : b ≠ X.env.locals) (h2 : b ∉ X.fs) : b ∉ frs X.stack := fun z => (List.mem_cons.mp (I.stkSub b z)).elim h1 h2
theorem comp_block {pins : List (Addr × Obj)} {σ : St} {H : Hp} {s : Shared} {E : Value → Shared → Prop} {it : Addr} {fp : List Addr} {tn : Nat → Heap → Prop} {J : It} {Z : List V → Hp → Prop} {RR : Value → Addr → Result → Shared → Prop}
    (hc : X.calm = true) (S : CompSc X.env.scope X.N scope x caps) (I : Inv X pins σ H s) (T : Turn X.prog X.w X.K (.Name x px) J fp it tn) (st : tn 0 s.heap) (hf : ∀ b ∈ fp, FpOk X pins H b)
    (hifs : ∀ C s H ex pn E, PIfs (cxComp X (x :: caps.map (·.2)) scope C s H ex pn E) ifs tc) (helt : ∀ C s H ex pn E, PE (cxComp X (x :: caps.map (·.2)) scope C s H ex pn E) elt te)
    (hW : tCompW J (capS caps σ) tc te H Z)
    (hRR : ∀ (s' : Shared) (H' : Hp) (acc : List V) (its : List Value) (D C : Addr) (m : Str → Option Value), Inv X pins σ H' s' → s'.heap.PlainList D its.toArray → Vals acc its → acc.length ≤ sizeLine → FpOk X pins H' D → FpOk X pins H' C → D ≠ C → s'.heap.Ns C m → Z acc H' → RR (.ref D) C (.ok .next) s') :
    wpAny (model X.prog X.w) X.A (newList []) (fun acc s₃ => wpAny (model X.prog X.w) X.A (newFunctionEnv scope X.env.globals (clOf X.env scope) [] X.env.qual none .none (some X.env)) (fun cenv s₄ =>
      codeAny (model X.prog X.w) X.A (.compStart (.ListComp elt [⟨.Name x px, iter, ifs, 0⟩] scope pos) 0 (.ref it) acc { cenv with scope := relabel scope X.env }) (RR acc cenv.locals) s₄) E s₃) E s := by
  refine wpAny_newObj_type (wpAny_newFunctionEnv S.ncell (by intro y hy; simp at hy) (fun h₁ hns₁ hsb₁ => ?_) S.kind)
  dsimp only at hns₁ hsb₁ ⊢
  have hI3 : Inv X pins σ H { s with heap := s.heap.push { cls := .type "list", dict := none, data := .seq ([] : List Value).toArray } } := I.kept (t' := s.toks) fun b u e => Heap.get?_push_of_some _ e
  have gD3 : (s.heap.push { cls := .type "list", dict := none, data := .seq ([] : List Value).toArray }).get? s.heap.objs.size = some { cls := .type "list", dict := none, data := .seq ([] : List Value).toArray } := Heap.get?_push_size _ rfl
  have hz3 : (s.heap.push { cls := .type "list", dict := none, data := .seq ([] : List Value).toArray }).objs.size = s.heap.objs.size + 1 := Heap.size_push _ _
  generalize hH3 : s.heap.push { cls := .type "list", dict := none, data := .seq ([] : List Value).toArray } = h3 at hns₁ hsb₁ hI3 gD3 hz3 ⊢
  have k3 : ∀ b u, s.heap.get? b = some u → h3.get? b = some u := fun b u e => hH3 ▸ Heap.get?_push_of_some _ e
  have k31 : ∀ b u, h3.get? b = some u → h₁.get? b = some u := fun b u e => (hsb₁.2 b (Nat.ne_of_lt (Heap.lt_size e))).trans (Heap.get?_push_of_some _ e)
  have k1 : ∀ b u, s.heap.get? b = some u → h₁.get? b = some u := fun b u e => k31 b u (k3 b u e)
  have hDC : s.heap.objs.size ≠ h3.objs.size := by rw [hz3]; exact Nat.ne_of_lt (Nat.lt_succ_self _)
  have fD : FpOk X pins H s.heap.objs.size := I.fpOk (Nat.le_refl _) (I.hok.fresh (Nat.le_refl _))
  have fC : FpOk X pins H h3.objs.size := I.fpOk (by rw [hz3]; exact Nat.le_succ _) (I.hok.fresh (by rw [hz3]; exact Nat.le_succ _))
  have lfp : ∀ b ∈ fp, b < s.heap.objs.size := fun b hb => let ⟨_, e, _⟩ := T.obj _ _ st b hb; Heap.lt_size e
  have hDf : s.heap.objs.size ∉ fp := fun z => Nat.lt_irrefl _ (lfp _ z)
  -- the closure's cells are cells around
  have hfree : ∀ y ∈ scope.names, y.2 = .free → ∃ c, X.env.cells.lookup y.1 = some c := fun y hy e => I.ok.has y.1 (S.free y hy e)
  obtain ⟨sub, has⟩ := clG_look scope.names [] hfree (fun y c e => by simp at e)
  have sub' : ∀ y c, (clOf X.env scope).lookup y = some c → X.env.cells.lookup y = some c := sub
  have has' : ∀ y, (y, NameKind.free) ∈ scope.names → ∃ c, (clOf X.env scope).lookup y = some c := fun y hy => Option.isSome_iff_exists.mp (has y (.inr hy))
  have inj : ∀ b ∈ s.heap.objs.size :: fp, FpOk X pins H b := fun b hb => (List.mem_cons.mp hb).elim (fun z => z ▸ fD) (hf b)
  have ltC : ∀ b ∈ s.heap.objs.size :: fp, b ≠ h3.objs.size := fun b hb => (List.mem_cons.mp hb).elim (fun z => z ▸ hDC) fun z => Nat.ne_of_lt (by rw [hz3]; exact Nat.lt_succ_of_lt (lfp b z))
  have I1 : Inv (cxComp X (x :: caps.map (·.2)) scope h3.objs.size { s with heap := h3 } H (s.heap.objs.size :: fp) (X.pn ++ pins)
      (notedBy (model X.prog X.w) X.A (compEnvC scope (clOf X.env scope) h3.objs.size X.env) fun e s' => RR (.ref s.heap.objs.size) h3.objs.size (.error e) s')) [] (none :: capS caps σ) H { s with heap := h₁, toks := s.toks + ([] : List (Str × Value)).length } := by
    refine ⟨⟨I.ok.mod, S.kind, I.ok.glob, I.ok.blt, Nat.le_refl _, fun y z c e1 e2 => I.ok.inj y z c (sub' _ _ e1) (sub' _ _ e2), fun y hy => has' y (free_of_relabel S.ncell hy), fun y c e => (nomatch e), I.ok.hd, I.ok.frames, .inl rfl, fun b hb => ⟨ltC b hb, fun y c e => (inj b hb).2.2.2.2.1 y c (sub' y c e)⟩,
        fun b ob e => ⟨k3 b ob (I.bs b ob e).1, (I.bs b ob e).2⟩, ?_, fun b ob e z => ?_, fun b hb => I.stkNo (inj b hb).2.1 (inj b hb).2.2.1, ?_, I.stkFree⟩,
      rfl, I.bare, Un.kept k31, ⟨_, hns₁, fun i y v e1 e2 e3 => ?_⟩, fun y c e => ?_, fC.1, fun y c e => I.freeC y c (sub' y c e), fun p hp => ?_, I.hok.kept k1, ?_⟩
    · exact Nat.le_trans I.ok.bsz (Nat.le_trans I.sz (by show s.heap.objs.size ≤ h3.objs.size; rw [hz3]; exact Nat.le_succ _))
    · rcases (inj b z).2.2.2.1 with w1 | w1
      · exact I.ok.noex b ob e w1
      · exact absurd (Nat.lt_of_lt_of_le (Heap.lt_size e) I.ok.bsz) (Nat.not_lt.mpr w1)
    · exact Heap.FunFrames.of_keeps (fun b ob e _ => ⟨ob, k3 b ob e, rfl⟩) I.stack
    · cases i with
      | zero => cases e2
      | succ i =>
        have e1' : (caps.map (·.2))[i]? = some y := e1
        have e2' : (capS caps σ)[i]? = some (some v) := e2
        unfold capS at e2'
        rw [List.getElem?_map] at e1' e2'
        cases ep : caps[i]? with
        | none => rw [ep] at e1'; cases e1'
        | some p =>
          rw [ep] at e1' e2'
          obtain rfl : p.2 = y := Option.some.inj e1'
          have e2'' : (σ[p.1]?).getD none = some v := Option.some.inj e2'
          have hσ : σ[p.1]? = some (some v) := by
            cases es : σ[p.1]? with
            | none => rw [es] at e2''; cases e2''
            | some w1 => rw [es] at e2''; exact congrArg some e2''
          obtain ⟨cN, cF⟩ := S.cap p (List.mem_of_getElem? ep)
          have mF : (p.2, NameKind.free) ∈ scope.names := PySem.mem_of_lookup cF
          have oF := S.free _ mF rfl
          obtain ⟨m, hn, hlook⟩ := I.loc
          obtain ⟨u, ru, lk⟩ := hlook p.1 p.2 v cN hσ (.inr oF)
          refine ⟨u, ru, .inr ⟨?_, ?_⟩⟩
          · rcases e3 with z | z
            · exact absurd z (lookup_relabel_free cF)
            · exact z
          · obtain ⟨c, ec⟩ := has' p.2 mF
            refine ⟨c, ec, ?_⟩
            rcases lk with ⟨z, _⟩ | ⟨_, c', ec', ob, ho, hd⟩
            · have z' : X.env.scope.names.lookup p.2 = some .local := z
              rw [z'] at oF
              rcases oF with q | q <;> cases q
            · have ee := (sub' _ _ ec).symm.trans ec'
              cases ee
              exact ⟨ob, k1 _ _ ho, hd⟩
    · obtain ⟨v, ob, ho, hd⟩ := I.cell y c (sub' y c e)
      exact ⟨v, ob, k1 _ _ ho, hd⟩
    · have hp' : p ∈ X.pn ++ pins := by
        rcases List.mem_append.mp hp with z | z
        · exact z
        · exact absurd z (by simp)
      obtain ⟨e, n, ne, nf, d⟩ := I.pin p hp'
      refine ⟨k1 _ _ e, n, Nat.ne_of_lt ?_, I.stkNo ne nf, d⟩
      show p.1 < h3.objs.size
      rw [hz3]
      exact Nat.lt_succ_of_lt (Heap.lt_size e)
    · show (none :: capS caps σ).length = (x :: caps.map (·.2)).length
      simp [capS]
  have hf1 : ∀ b ∈ s.heap.objs.size :: fp, FpOk (cxComp X (x :: caps.map (·.2)) scope h3.objs.size { s with heap := h3 } H (s.heap.objs.size :: fp) (X.pn ++ pins)
      (notedBy (model X.prog X.w) X.A (compEnvC scope (clOf X.env scope) h3.objs.size X.env) fun e s' => RR (.ref s.heap.objs.size) h3.objs.size (.error e) s')) [] H b := fun b hb => by
    obtain ⟨f0, f1, f2, f3, f4, f5⟩ := inj b hb
    refine ⟨f0, ltC b hb, I.stkNo f1 f2, .inl hb, fun y c e => f4 y c (sub' y c e), fun p hp => f5 p ?_⟩
    rcases List.mem_append.mp hp with z | z
    · exact z
    · exact absurd z (by simp)
  have st1 : tn 0 h₁ := T.keep _ _ _ st fun b _ ob e => k1 b ob e
  have loop : codeAny (model X.prog X.w) X.A (.compLoop (.ListComp elt [⟨.Name x px, iter, ifs, 0⟩] scope pos) 0 (.ref it) (.ref s.heap.objs.size) (compEnvC scope (clOf X.env scope) h3.objs.size X.env)) (RR (.ref s.heap.objs.size) h3.objs.size) { s with heap := h₁, toks := s.toks + ([] : List (Str × Value)).length } := by
    refine comp_loop (X := cxComp X (x :: caps.map (·.2)) scope h3.objs.size { s with heap := h3 } H (s.heap.objs.size :: fp) (X.pn ++ pins) (notedBy (model X.prog X.w) X.A (compEnvC scope (clOf X.env scope) h3.objs.size X.env) fun e s' => RR (.ref s.heap.objs.size) h3.objs.size (.error e) s'))
      hc rfl S.nd (lookup_relabel_local S.hx) I1 T st1 (fun b hb => hf1 b (List.mem_cons_of_mem _ hb)) (hf1 _ List.mem_cons_self) hDf ⟨0, k31 _ _ gD3⟩ (hifs _ _ _ _ _ _) (helt _ _ _ _ _ _) hW rfl ?_
    intro s' H' acc its o' J1 plD va hlen nD z
    have u1 : Un (frs X.stack) (s.heap.objs.size :: fp) H H' h3 s'.heap := J1.base
    have J2 : Inv X pins σ H' s' := Inv.call' (s := { s with heap := h3 }) hI3 J1.os u1 J1.hok J1.bare fun b hb => by
      obtain ⟨_, f1, _, f3, f4, f5⟩ := inj b hb
      exact ⟨f3, f1, f4, f5⟩
    obtain ⟨m, hn, _⟩ := J1.loc
    exact hRR s' H' acc its _ _ m J2 plD va hlen ⟨nD, fD.2⟩ ⟨J1.free, fC.2⟩ hDC hn z
  exact codeAny_compStart_list loop (T.self _ 0 _ _ _ st1 loop)

theorem pe_comp (hc : X.calm = true) (S : CompSc X.env.scope X.N scope x caps) (hi : PI X (.Name x px) iter wi)
    (hifs : ∀ C s H ex pn E, PIfs (cxComp X (x :: caps.map (·.2)) scope C s H ex pn E) ifs tc) (helt : ∀ C s H ex pn E, PE (cxComp X (x :: caps.map (·.2)) scope C s H ex pn E) elt te)
    (hs : ∀ x, foldedSetIterable iter X.env x = pure x := by intro _; rfl) : PE X (.ListComp elt [⟨.Name x px, iter, ifs, 0⟩] scope pos) (tComp wi caps tc te) := by
  intro pins s σ H Q I h
  have hfree : ∀ y ∈ scope.names, y.2 = .free → ∃ c, X.env.cells.lookup y.1 = some c := fun y hy e => I.ok.has y.1 (S.free y hy e)
  rw [eval_ListComp]
  refine wpAny_comprehension_free (use := none) rfl hs (closure_eq hfree) S.kind S.nloc (thn (hi pins s σ H _ I h) fun v s1 h1 => thn h1 fun itv s2 h2 => ?_)
  obtain ⟨it, fp, tn, J, H2, e, I2, T, st2, f2, hW⟩ := h2
  subst e
  refine comp_block (RR := fun acc C => compPost (model X.prog X.w) X.A X.xe none (EP X pins σ Q) acc C) hc S I2 T st2 f2 hifs helt hW ?_
  intro s' H' acc its D C m J2 plD va hlen fD fC hDC hn z
  obtain ⟨nD, gD⟩ := plD
  refine ⟨m, hn, fun h'' sb => ?_⟩
  have J3 : Inv X pins σ H' { s' with heap := h'' } := J2.turned (t' := s'.toks) (fun b ob hb e => (sb.2 b hb).trans e) fC.1 fC.2.1 fC.2.2.2.1 fC.2.2.2.2.1 fC.2.2.2.2.2
  exact ⟨.ref D, upd H' D (.lst acc), J3.adopt fD ⟨hlen, its, nD, va, (sb.2 D hDC).trans gD⟩, rfl, z D fD.1⟩
/-- name = [..] where the store is the comprehension's own last step -/
theorem ps_setC {i : Nat} {y : Str} {py spos : Pos} (hc : X.calm = true) (hN : X.N.Nodup) (hi' : X.N[i]? = some y) (hy : Loc X.env.scope y) (S : CompSc X.env.scope X.N scope x caps) (hi : PI X (.Name x px) iter wi)
    (hifs : ∀ C s H ex pn E, PIfs (cxComp X (x :: caps.map (·.2)) scope C s H ex pn E) ifs tc) (helt : ∀ C s H ex pn E, PE (cxComp X (x :: caps.map (·.2)) scope C s H ex pn E) elt te)
    (hsw : swapsWith (.ListComp elt [⟨.Name x px, iter, ifs, 0⟩] scope pos) (some (.Name y py)) spos.line X.env = pure true := by rfl) (hs : ∀ x, foldedSetIterable iter X.env x = pure x := by intro _; rfl)
    (hfn : X.fn y = true ∨ X.env.scope.names.lookup y = some .local := by first | exact .inl rfl | exact .inr rfl | assumption) : PS X (.Assign [.Name y py] (.ListComp elt [⟨.Name x px, iter, ifs, 0⟩] scope pos) spos) (tAsg (tComp wi caps tc te) (gName i)) := by
  intro pins s σ H D0 I h
  have hfree : ∀ y ∈ scope.names, y.2 = .free → ∃ c, X.env.cells.lookup y.1 = some c := fun y hy e => I.ok.has y.1 (S.free y hy e)
  rw [exec_Assign_Name_used _ _ _ _ hsw]
  refine wpAny_bind (wpAny_standAt (wpAny_bind ?_))
  show wpAny _ _ (do let _ ← comprehension (.ListComp elt [⟨.Name x px, iter, ifs, 0⟩] scope pos) scope X.env _ (newList []) false (eval iter X.env) (some (assign (.Name y py) X.env))) _ _ s
  refine wpAny_bind (wpAny_mono (wpAny_comprehension_free (use := some (assign (.Name y py) X.env)) (Q := fun _ s' => SP X pins D0 .next s') rfl hs (closure_eq hfree) S.kind S.nloc
    (thn (hi pins s σ H _ I h) fun v s1 h1 => thn h1 fun itv s2 h2 => ?_)) (fun _ s' hq => wpAny_pure (wpAny_pure hq)) fun _ _ e => e)
  obtain ⟨it, fp, tn, J, H2, e, I2, T, st2, f2, hW⟩ := h2
  subst e
  refine comp_block (RR := fun acc C => compPost (model X.prog X.w) X.A X.xe (some (assign (.Name y py) X.env)) (fun _ s' => SP X pins D0 .next s') acc C) hc S I2 T st2 f2 hifs helt hW ?_
  intro s' H' acc its D C m J2 plD va hlen fD fC hDC hn z
  obtain ⟨nD, gD⟩ := plD
  have J3 : Inv X pins σ (upd H' D (.lst acc)) s' := J2.adopt fD ⟨hlen, its, nD, va, gD⟩
  show wpAny _ _ (assign (.Name y py) X.env (.ref D)) _ _ s'
  refine wpAny_assign_Name (store_ok2 J3 hN hi' hy (show RelV (.ref D) (.ref D) from rfl) (fun s4 J4 ⟨a, sa, ha⟩ => ?_) hfn)
  have hCa : C ≠ a := by
    rcases ha with q | q
    · rw [q]; exact fC.2.1
    · exact (fC.2.2.2.2.1 y a q).symm
  refine ⟨m, hn.sameBut sa hCa, fun h'' sb => ?_⟩
  exact ⟨_, _, J4.turned (t' := s4.toks) (fun b ob hb e => (sb.2 b hb).trans e) (by rw [upd_ne (Ne.symm hDC)]; exact fC.1) fC.2.1 fC.2.2.2.1 fC.2.2.2.2.1 fC.2.2.2.2.2, z D fD.1⟩
end
end L2

namespace L2
open PySem PySem.Spec PyProof.Rows

/-! ### the forms of a comprehension one uses -/
theorem comp_of {J : It} {cs : St} {tc : TT} {te : TE} {H1 : Hp} {Z : List V → Hp → Prop} (n : Nat) (Pv : Nat → List V → Hp → Prop) (h0 : Pv 0 [] H1) (hd : ∀ acc H, Pv n acc H → J.stop n H ∧ Z acc H)
    (hs : ∀ i acc H, i < n → Pv i acc H → J.go i H ∧ ∀ x H', J.yld i H x H' → tc (some x :: cs) H' fun b H2 => if b = true then te (some x :: cs) H2 fun v H3 => acc.length < sizeLine ∧ Pv (i + 1) (acc ++ [v]) H3 else Pv (i + 1) acc H2) :
    tCompW J cs tc te H1 Z := by
  refine ⟨fun i m acc H => m = n - i ∧ i ≤ n ∧ Pv i acc H, ⟨n, by simp, Nat.zero_le _, h0⟩, ?_⟩
  rintro i m acc H ⟨rfl, hi, p⟩
  by_cases hlt : i < n
  · obtain ⟨g, y⟩ := hs i acc H hlt p
    exact .inr ⟨g, Pv (i + 1), fun a H' q => ⟨n - (i + 1), by omega, rfl, hlt, q⟩, y⟩
  · have e : i = n := by omega
    subst e
    exact .inl (hd acc H p)
theorem comp_range {lo : Int} {n : Nat} {cs : St} {tc : TT} {te : TE} {H1 : Hp} {Z : List V → Hp → Prop} (Pv : Nat → List V → Hp → Prop) (h0 : Pv 0 [] H1)
    (hs : ∀ i acc H, i < n → Pv i acc H → tc (some (.int (lo + i)) :: cs) H fun b H2 => if b = true then te (some (.int (lo + i)) :: cs) H2 fun v H3 => acc.length < sizeLine ∧ Pv (i + 1) (acc ++ [v]) H3 else Pv (i + 1) acc H2)
    (hd : ∀ acc H, Pv n acc H → Z acc H) : tCompW (Itr lo n) cs tc te H1 Z :=
  comp_of n Pv h0 (fun acc H p => ⟨Nat.le_refl _, hd acc H p⟩) fun i acc H hi p => ⟨hi, fun x H' y => by
    obtain ⟨e, y⟩ := y
    subst e y
    exact hs i acc _ hi p⟩
theorem comp_list {K : PySem.W.Frag} {a : Addr} {xs : List V} {cs : St} {tc : TT} {te : TE} {H1 : Hp} {Z : List V → Hp → Prop} (Pv : Nat → List V → Hp → Prop) (h0 : Pv 0 [] H1) (hl : ∀ i acc H, Pv i acc H → SqL K H a xs)
    (hs : ∀ i x acc H, xs[i]? = some x → Pv i acc H → tc (some x :: cs) H fun b H2 => if b = true then te (some x :: cs) H2 fun v H3 => acc.length < sizeLine ∧ Pv (i + 1) (acc ++ [v]) H3 else Pv (i + 1) acc H2)
    (hd : ∀ acc H, Pv xs.length acc H → Z acc H) : tCompW (Itl K a) cs tc te H1 Z :=
  comp_of xs.length Pv h0 (fun acc H p => ⟨⟨xs, hl _ _ _ p, Nat.le_refl _⟩, hd acc H p⟩) fun i acc H hi p => ⟨⟨xs, xs[i], hl _ _ _ p, by simp [hi]⟩, fun x H' y => by
    obtain ⟨e, y⟩ := y
    subst e
    exact hs i x acc _ (y xs (hl _ _ _ p)) p⟩
theorem comp_tup {K : PySem.W.Frag} {a : Addr} {xs : List V} {cs : St} {tc : TT} {te : TE} {H1 : Hp} {Z : List V → Hp → Prop} (Pv : Nat → List V → Hp → Prop) (h0 : Pv 0 [] H1) (hl : ∀ i acc H, Pv i acc H → SqT K H a xs)
    (hs : ∀ i x acc H, xs[i]? = some x → Pv i acc H → tc (some x :: cs) H fun b H2 => if b = true then te (some x :: cs) H2 fun v H3 => acc.length < sizeLine ∧ Pv (i + 1) (acc ++ [v]) H3 else Pv (i + 1) acc H2)
    (hd : ∀ acc H, Pv xs.length acc H → Z acc H) : tCompW (Itt K a) cs tc te H1 Z :=
  comp_of xs.length Pv h0 (fun acc H p => ⟨⟨xs, hl _ _ _ p, Nat.le_refl _⟩, hd acc H p⟩) fun i acc H hi p => ⟨⟨xs, xs[i], hl _ _ _ p, by simp [hi]⟩, fun x H' y => by
    obtain ⟨e, y⟩ := y
    subst e
    exact hs i x acc _ (y xs (hl _ _ _ p)) p⟩

/-! ### a text walked sign by sign -/
def Its (z : Str) : It := ⟨fun i _ => i < z.cps.size, fun i H x H' => H' = H ∧ ∃ c, z.cps[i]? = some c ∧ x = .str ⟨#[c]⟩, fun i _ => z.cps.size ≤ i⟩
section
variable {X : Cx} {tg : Expr}
def iStr (tl : TE) : TI := fun σ H R => tl σ H fun x H1 => ∃ z, x = .str z ∧ R (Its z) H1
end
/-! ### texts: find, join, slices; truths: is, all -/
section
variable {X : Cx}
theorem sl_str : SlR X (fun x lo hi H Q => ∃ z, x = .str z ∧ z.length ≤ sizeLine ∧ Q (.str (Txt.slice z lo hi)) H) := by
  intro pins s σ H x v vl vu lo hi sl Q I rx hs pl pu h
  obtain ⟨z, rfl, hz, q⟩ := h
  obtain ⟨t, rfl⟩ := rx
  have fin : ∀ (l u : Option (Int × Tok)), s.heap.IsSlice sl l u none → l.map (·.1) = lo → u.map (·.1) = hi → wpAny (model X.prog X.w) X.A (getItem (.str z t) (.ref sl)) (EP X pins σ Q) X.xe s := fun l u h1 h2 h3 => by
    subst h2 h3
    exact wpAny_getItem_str_slice (l := l) (u := u) (st := none) h1 rfl (post_val_or_str ⟨Nat.le_trans (Txt.slice_le z _ _) hz, fun t' k => ⟨.str _, H, I.tok _, ⟨_, rfl⟩, q⟩⟩)
  refine ⟨"str", _, F.slot_str_getitem.lookup, typeIs_str _ _ _, ?_⟩
  cases pl with
  | none =>
    cases pu with
    | none => exact fin none none hs rfl rfl
    | int j uj => exact fin none (some (j, uj)) hs rfl rfl
  | int i ui =>
    cases pu with
    | none => exact fin (some (i, ui)) none hs rfl rfl
    | int j uj => exact fin (some (i, ui)) (some (j, uj)) hs rfl rfl
theorem range_all : ∀ (n : Nat) (f : Nat → Bool) (bs : List Bool), bs.length = n → (∀ i b, bs[i]? = some b → f i = b) → (List.range n).all f = bs.all id := by
  intro n f bs hl hf
  rw [Bool.eq_iff_iff, List.all_eq_true, List.all_eq_true]
  constructor
  · intro h b hb
    obtain ⟨i, e⟩ := List.mem_iff_getElem?.mp hb
    have hi : i < n := by
      have := (List.getElem?_eq_some_iff.mp e).1
      omega
    have := h i (List.mem_range.mpr hi)
    rw [hf i b e] at this
    exact this
  · intro h i hi
    have hi' : i < bs.length := by rw [hl]; exact List.mem_range.mp hi
    have e : bs[i]? = some bs[i] := List.getElem?_eq_getElem hi'
    rw [hf i _ e]
    exact h _ (List.getElem_mem hi')
/-- all(bs), bs a list of truths -/
theorem call_allB (hc : X.calm = true) : CallR X (.builtin "all") (fun xs H Q => ∃ (p : Addr) (bs : List Bool), xs = [.ref p] ∧ SqL X.K H p (bs.map V.bl) ∧ Q (.bl (bs.all id)) H) := by
  intro pins s σ H xs us Q I r h
  obtain ⟨p, bs, rfl, hq, q⟩ := h
  obtain ⟨u, rfl, rx⟩ := vals1 r
  cases rx
  obtain ⟨its, rv, pl, hz⟩ := I.list hq
  have hlen := rv.length
  rw [List.length_map] at hlen
  have hlt : p < s.heap.objs.size := by
    obtain ⟨o, ho, _⟩ := pl.isList
    exact Heap.lt_size ho
  refine call_all_walk (wpAny_pyIter_list pl.isList ?_)
  refine ⟨s.heap.objs.size, [s.heap.objs.size, p], [s.heap.objs.size], its.toArray.size, fun i v => its.toArray[i]? = some v, fun i h => h.IsListIter s.heap.objs.size p i ∧ h.IsList p its.toArray, fun i => (bs[i]?).getD true, rfl,
    Walks.list (A := X.A.in1) (I.ok.hd hc) _ _ (Nat.ne_of_lt hlt) _, ⟨⟨_, Heap.get?_push_size _ rfl, rfl, rfl⟩, pl.isList.at fun o e => Heap.get?_push_of_some _ e⟩, ?_, ?_⟩
  · intro i v s' Q' E' hv hQ'
    have hi : i < bs.length := by
      have := (Array.getElem?_eq_some_iff.mp hv).1
      simp only [List.size_toArray] at this
      omega
    have e : bs[i]? = some bs[i] := List.getElem?_eq_getElem hi
    obtain ⟨u, hu, ru⟩ := rv.get (i := i) (x := V.bl bs[i]) (by rw [List.getElem?_map, e]; rfl)
    have hv' : its[i]? = some v := by simpa using hv
    rw [hu] at hv'
    cases hv'
    cases ru
    have hQ2 : Q' ((bs[i]?).getD true) s' := hQ'
    rw [e] at hQ2
    exact wpAny_truthy_bool hQ2
  · intro h' tk k
    refine ⟨.bl (bs.all id), H, I.kept (t' := tk) (h' := h') fun b u e => k b u (fun z => ?_) (Heap.get?_push_of_some _ e), ?_, q⟩
    · have z' : b = s.heap.objs.size := by simpa using z
      exact absurd (Heap.lt_size e) (by rw [z']; exact Nat.lt_irrefl _)
    · show Value.bool _ = Value.bool _
      rw [range_all its.toArray.size _ bs (by simp only [List.size_toArray]; exact hlen) fun i b e => by rw [e]; rfl]
end
end L2
namespace L2
open PySem PySem.Spec PyProof.Rows
section
variable {X : Cx} {a b c : Expr} {ta tb : TE} {pos : Pos}
/-- a op1 b op2 k of ints, k a constant: one truth -/
def tChI (p p' : Int → Int → Bool) (k : Int) (ta tb : TE) : TE := fun σ H Q => ta σ H fun x H1 => tb σ H1 fun y H2 => ∃ i j, x = .int i ∧ y = .int j ∧ Q (.bl (p i j && p' j k)) H2
end
theorem atI_some {α : Type} {xs : List α} {i : Int} (h0 : 0 ≤ i) (h1 : i < (xs.length : Int)) : ∃ v ∈ xs, atI xs i = some v := by
  have hk : i.toNat < xs.length := by omega
  have e : xs[i.toNat]? = some xs[i.toNat] := List.getElem?_eq_getElem hk
  refine ⟨xs[i.toNat], List.getElem_mem hk, ?_⟩
  have q := atI_nat e
  rw [Int.toNat_of_nonneg h0] at q
  exact q
theorem atI_int {ns : List Int} {i : Int} (h0 : 0 ≤ i) (h1 : i < (ns.length : Int)) : ∃ v : Int, atI (ns.map V.int) i = some (.int v) := by
  obtain ⟨v, hv, e⟩ := atI_some (xs := ns.map V.int) h0 (by rw [List.length_map]; exact h1)
  obtain ⟨n, _, rfl⟩ := List.mem_map.mp hv
  exact ⟨n, e⟩
theorem small_le {n : Nat} (h : n ≤ 1000) : n ≤ sizeLine := Nat.le_of_lt (small1000 h)
theorem mask31 (x : Int) : Builtin.bitAnd x 2147483647 = x % 2147483648 := PySem.W.kbt_mask x 31
theorem maskB (x : Int) : 0 ≤ Builtin.bitAnd x 2147483647 ∧ Builtin.bitAnd x 2147483647 < 2147483648 := by
  rw [mask31]
  omega
end L2
namespace L2
open PySem PySem.Spec PyProof.Rows
section
variable {X : Cx} {st : Stmt} {rest : List Stmt} {t u : TS}
/-- a word M between a statement and what follows: both ways through the statement meet there -/
def tCut (t u : TS) : TS := fun D σ H => ∃ M : St → Hp → Prop, t { D with nx := M } σ H ∧ ∀ σ' H', M σ' H' → u D σ' H'
theorem pss_cut (h1 : PS X st t) (h2 : PSs X rest u) : PSs X (st :: rest) (tCut t u) := by
  intro pins s σ H D I h
  obtain ⟨M, h, hM⟩ := h
  refine wpAny_execs_cons (thn (h1 pins s σ H { D with nx := M } I h) fun f s1 q => ?_)
  cases f with
  | next =>
    obtain ⟨σ', H', I', q⟩ := q
    exact h2 pins s1 σ' H' D I' (hM σ' H' q)
  | ret v => exact q
  | brk => exact q
  | cont => exact q
end
theorem same_new {H : Hp} {p : Addr} (h : H p = none) (o : HO) : Same H (upd H p o) := fun b u q => by rw [upd_ne (ne_of_none q h)]; exact q
end L2
namespace L2
open PySem PySem.Spec PyProof.Rows
/-- a word M behind an expression (a test): its ways meet there -/
def tCutE (t : TE) : TE := fun σ H Q => ∃ M : VK, t σ H M ∧ ∀ v H', M v H' → Q v H'
theorem pe_cut {X : Cx} {e : Expr} {t : TE} (h : PE X e t) : PE X e (tCutE t) := by
  intro pins s σ H Q I ⟨M, hM, hQ⟩
  exact thn (h pins s σ H M I hM) fun u s' ⟨v, H', I', r, m⟩ => ⟨v, H', I', r, hQ v H' m⟩
def tCutT (t : TT) : TT := fun σ H Q => ∃ M : Bool → Hp → Prop, t σ H M ∧ ∀ b H', M b H' → Q b H'
theorem pt_cut {X : Cx} {e : Expr} {t : TT} (h : PT X e t) : PT X e (tCutT t) := by
  intro pins s σ H Q I ⟨M, hM, hQ⟩
  exact thn (h pins s σ H M I hM) fun b s' ⟨H', I', m⟩ => ⟨H', I', hQ b H' m⟩
end L2

namespace So
open PySem PyProof.Rows
set_option maxRecDepth 100000
section
variable {prog : Program} {w : World} {A : Around} {E : Value → Shared → Prop} {s : Shared}
theorem sorted_seq {T : String} {o : Obj} {p : Addr} {its : List Value} {ns : List Int} {n : Nat} {Q : Value → Shared → Prop} (hT : T = "list" ∨ T = "tuple") (ho : s.heap.get? p = some o) (hc : o.cls = .type T) (hd : o.data = .seq its.toArray n) (hI : IntsAre its ns) (h64 : its.length < 64)
    (fin : ∀ (h1 h' : Heap) (q : Addr) (out : Array Value) (rs : List Int) (e : Nat), IntsAre out.toList rs → rs.Perm ns → rs.Pairwise (· ≤ ·) → h1.objs.size ≤ q → h'.get? q = some (seqObj "list" out e) → (∀ b o, s.heap.get? b = some o → h1.get? b = some o) → (∀ b o, h1.get? b = some o → h'.get? b = some o) → Q (.ref q) { s with heap := h' }) :
    wpAny (model prog w) A (call (.builtin "sorted") [.ref p]) Q E s := by
  refine Calls.call_function_entry kind_sorted plain_sorted entry_sorted (args_sorted1 _) ?_
  unfold Builtin.«sorted»
  refine wpAny_bind (m := checkCount "sorted" 1 1 _) (wpAny_pure ?_)
  refine wpAny_bind (wpAny_collect_seq p hT ho hc hd (fun h1 k1 => ?_) (by rw [List.size_toArray, sizeLine_eq]; omega))
  refine wpAny_bind (wpAny_newList ?_ (by show its.length ≤ _; rw [sizeLine_eq]; omega))
  have g1 : (h1.push (seqObj "list" its.toArray 0)).get? h1.objs.size = some (seqObj "list" its.toArray 0) := Heap.get?_push_size _ rfl
  refine wpAny_bind (wpAny_holding (wpAny_call_entry slot_list_sort ⟨_, g1, rfl⟩ entry_list_sort (list_sort_tree (s := { s with heap := h1.push (seqObj "list" its.toArray 0) }) g1 hI h64 fun out ns' a1 a2 a3 => ⟨_, rfl, ?_⟩) (args_list_sort _)))
  obtain ⟨e, he⟩ := sortedHeap_at (out := out) g1
  refine wpAny_pure ⟨_, rfl, fin h1 _ h1.objs.size out ns' e a1 a2 a3 (Nat.le_refl _) he k1 fun b ob hb => ?_⟩
  have lb : b < h1.objs.size := Heap.lt_size hb
  rw [sortedHeap_old (Nat.ne_of_lt lb) (by rw [Heap.size_push]; exact Nat.lt_succ_of_lt lb)]
  exact Heap.get?_push_of_some _ hb
end
end So
namespace L2
open PySem PySem.Spec PyProof.Rows
section
variable {X : Cx}
/-- sorted(a), a a list or a tuple of fewer than 64 ints -/
def rSorted (K : PySem.W.Frag) (le : Int → Int → Prop) : List V → Hp → VK → Prop := fun xs H Q => ∃ (p : Addr) (ns : List Int), xs = [.ref p] ∧ (SqL K H p (ns.map V.int) ∨ SqT K H p (ns.map V.int)) ∧ ns.length < 64 ∧ ∀ (q : Addr) (rs : List Int), H q = none → rs.Perm ns → rs.Pairwise le → Q (.ref q) (upd H q (.lst (rs.map V.int)))
theorem Inv.seq_of {pins : List (Addr × Obj)} {σ : St} {H : Hp} {s : Shared} {p : Addr} {ns : List Int} (I : Inv X pins σ H s) (h : SqL X.K H p (ns.map V.int) ∨ SqT X.K H p (ns.map V.int)) :
    ∃ (T : String) (o : Obj) (its : List Value) (n : Nat), (T = "list" ∨ T = "tuple") ∧ s.heap.get? p = some o ∧ o.cls = .type T ∧ o.data = .seq its.toArray n ∧ IntsAre its ns := by
  rcases h with h | h
  · obtain ⟨its, r, pl, _⟩ := I.list h
    obtain ⟨o, ho, hc, n, hd⟩ := pl.isList
    exact ⟨"list", o, its, n, .inl rfl, ho, hc, hd, intsAre_of r⟩
  · obtain ⟨its, r, pl, _⟩ := I.tuple h
    obtain ⟨o, ho, hc, n, hd⟩ := pl
    exact ⟨"tuple", o, its, n, .inr rfl, ho, hc, hd, intsAre_of r⟩
theorem call_sorted : CallR X (.builtin "sorted") (rSorted X.K (· ≤ ·)) := by
  intro pins s σ H xs us Q I r h
  obtain ⟨p, ns, rfl, hq, h64, q⟩ := h
  obtain ⟨u, rfl, rx⟩ := vals1 r
  cases rx
  obtain ⟨T, o, its, n, hT, ho, hc, hd, hI⟩ := I.seq_of hq
  have hl := hI.length
  refine So.sorted_seq hT ho hc hd hI (by omega) fun h1 h' q' out rs e i1 i2 i3 i4 i5 i6 i7 => ?_
  have J : Inv X pins σ H { s with heap := h1 } := I.kept (t' := s.toks) i6
  have lr := i2.length_eq
  have i5' : h'.get? q' = some { cls := .type "list", data := .seq out.toList.toArray e } := by
    rw [i5]
  exact ⟨.ref q', _, J.laid (h' := h') (t' := s.toks) (o := .lst (rs.map V.int)) i7 i4 ⟨by rw [List.length_map]; exact small_le (by omega), out.toList, e, vals_ints i1, i5'⟩, rfl, q q' rs (J.hok.fresh i4) i2 i3⟩
/-- sorted(a, reverse=True) -/
def tSortR (K : PySem.W.Frag) (t : TA) : TE := fun σ H Q => t σ H fun vs H1 => rSorted K (· ≥ ·) vs H1 Q
end
/-! a sorted row of the numbers of rooms -/
theorem rise_unique : ∀ (a b : List Nat), a.Pairwise (· < ·) → b.Pairwise (· < ·) → (∀ k, k ∈ a ↔ k ∈ b) → a = b
  | [], [], _, _, _ => rfl
  | [], y :: b, _, _, h => absurd ((h y).mpr List.mem_cons_self) (by simp)
  | x :: a, [], _, _, h => absurd ((h x).mp List.mem_cons_self) (by simp)
  | x :: a, y :: b, ha, hb, h => by
    obtain ⟨a1, a2⟩ := List.pairwise_cons.mp ha
    obtain ⟨b1, b2⟩ := List.pairwise_cons.mp hb
    have e : x = y := by
      have h1 := (h x).mp List.mem_cons_self
      have h2 := (h y).mpr List.mem_cons_self
      rcases List.mem_cons.mp h1 with e | h1
      · exact e
      · rcases List.mem_cons.mp h2 with e | h2
        · exact e.symm
        · have := a1 y h2
          have := b1 x h1
          omega
    subst e
    congr 1
    refine rise_unique a b a2 b2 fun k => ?_
    have hk := h k
    rw [List.mem_cons, List.mem_cons] at hk
    constructor
    · intro z
      rcases hk.mp (.inr z) with e | z'
      · subst e
        have := a1 k z
        omega
      · exact z'
    · intro z
      rcases hk.mpr (.inr z) with e | z'
      · subst e
        have := b1 k z
        omega
      · exact z'
theorem map_toNat : ∀ os : List Nat, os.map (Int.toNat ∘ fun j : Nat => (j : Int)) = os
  | [] => rfl
  | x :: l => by
    rw [List.map_cons, map_toNat l]
    rfl
/-- ints that are a rearrangement of nats -/
theorem perm_nats {rs : List Int} {os : List Nat} (h : rs.Perm (os.map fun j : Nat => (j : Int))) : ∃ ms : List Nat, rs = ms.map (fun j : Nat => (j : Int)) ∧ ms.Perm os := by
  refine ⟨rs.map Int.toNat, ?_, ?_⟩
  · rw [List.map_map]
    have : ∀ x ∈ rs, ((fun j : Nat => (j : Int)) ∘ Int.toNat) x = x := fun x hx => by
      obtain ⟨o, _, rfl⟩ := List.mem_map.mp (h.mem_iff.mp hx)
      rfl
    rw [List.map_congr_left this, List.map_id']
  · have := h.map Int.toNat
    rw [List.map_map] at this
    rw [map_toNat] at this
    exact this
theorem nats_ints (os : List Nat) : (os.map fun j : Nat => V.int (j : Int)) = (os.map fun j : Nat => (j : Int)).map V.int := by
  rw [List.map_map]
  rfl
/-- sorted: rising, if no item stands twice -/
theorem sorted_rise {rs : List Int} {os : List Nat} (h : rs.Perm (os.map fun j : Nat => (j : Int))) (hs : rs.Pairwise (· ≤ ·)) (hn : os.Nodup) : ∃ ms : List Nat, rs = ms.map (fun j : Nat => (j : Int)) ∧ ms.Pairwise (· < ·) ∧ ms.Perm os := by
  obtain ⟨ms, rfl, hp⟩ := perm_nats h
  refine ⟨ms, rfl, ?_, hp⟩
  have nd : ms.Nodup := hp.nodup_iff.mpr hn
  rw [List.pairwise_map] at hs
  exact (hs.and nd).imp fun ⟨h1, h2⟩ => by omega
end L2

namespace L2
open PySem PySem.Spec PyProof.Rows
section
variable {X : Cx}
theorem range_any (n : Nat) (f : Nat → Bool) (bs : List Bool) (hl : bs.length = n) (hf : ∀ i b, bs[i]? = some b → f i = b) : (List.range n).any f = bs.any id := by
  rw [Bool.eq_iff_iff, List.any_eq_true, List.any_eq_true]
  constructor
  · rintro ⟨i, hi, h⟩
    have hi' : i < bs.length := by rw [hl]; exact List.mem_range.mp hi
    rw [hf i _ (List.getElem?_eq_getElem hi')] at h
    exact ⟨_, List.getElem_mem hi', h⟩
  · rintro ⟨b, hb, h⟩
    obtain ⟨i, e⟩ := List.mem_iff_getElem?.mp hb
    have hi := (List.getElem?_eq_some_iff.mp e).1
    exact ⟨i, List.mem_range.mpr (by omega), by rw [hf i b e]; exact h⟩
/-- any(bs), bs a list of truths -/
theorem call_anyB (hc : X.calm = true) : CallR X (.builtin "any") (fun xs H Q => ∃ (p : Addr) (bs : List Bool), xs = [.ref p] ∧ SqL X.K H p (bs.map V.bl) ∧ Q (.bl (bs.any id)) H) := by
  intro pins s σ H xs us Q I r h
  obtain ⟨p, bs, rfl, hq, q⟩ := h
  obtain ⟨u, rfl, rx⟩ := vals1 r
  cases rx
  obtain ⟨its, rv, pl, hz⟩ := I.list hq
  have hlen := rv.length
  rw [List.length_map] at hlen
  have hlt : p < s.heap.objs.size := by
    obtain ⟨o, ho, _⟩ := pl.isList
    exact Heap.lt_size ho
  refine call_any_walk (wpAny_pyIter_list pl.isList ?_)
  refine ⟨s.heap.objs.size, [s.heap.objs.size, p], [s.heap.objs.size], its.toArray.size, fun i v => its.toArray[i]? = some v, fun i h => h.IsListIter s.heap.objs.size p i ∧ h.IsList p its.toArray, fun i => (bs[i]?).getD true, rfl,
    Walks.list (A := X.A.in1) (I.ok.hd hc) _ _ (Nat.ne_of_lt hlt) _, ⟨⟨_, Heap.get?_push_size _ rfl, rfl, rfl⟩, pl.isList.at fun o e => Heap.get?_push_of_some _ e⟩, ?_, ?_⟩
  · intro i v s' Q' E' hv hQ'
    have hi : i < bs.length := by
      have := (Array.getElem?_eq_some_iff.mp hv).1
      simp only [List.size_toArray] at this
      omega
    have e : bs[i]? = some bs[i] := List.getElem?_eq_getElem hi
    obtain ⟨u, hu, ru⟩ := rv.get (i := i) (x := V.bl bs[i]) (by rw [List.getElem?_map, e]; rfl)
    have hv' : its[i]? = some v := by simpa using hv
    rw [hu] at hv'
    cases hv'
    cases ru
    have hQ2 : Q' ((bs[i]?).getD true) s' := hQ'
    rw [e] at hQ2
    exact wpAny_truthy_bool hQ2
  · intro h' tk k
    refine ⟨.bl (bs.any id), H, I.kept (t' := tk) (h' := h') fun b u e => k b u (fun z => ?_) (Heap.get?_push_of_some _ e), ?_, q⟩
    · have z' : b = s.heap.objs.size := by simpa using z
      exact absurd (Heap.lt_size e) (by rw [z']; exact Nat.lt_irrefl _)
    · show Value.bool _ = Value.bool _
      rw [range_any its.toArray.size _ bs (by simp only [List.size_toArray]; exact hlen) fun i b e => by rw [e]; rfl]
end
end L2

namespace L2
open PySem
/-! items of a display whose kind is plain at sight: the rest is not looked at -/
section
variable {X : Cx} {es : List Expr} {te : TE} {t : TA}
end
end L2

namespace L2
open PySem
/-! two tuples of the same flat items are not unlike -/
section
variable {X : Cx}
end
end L2

namespace L2
open PySem
/-! two lists of the same flat items are alike -/
section
variable {X : Cx}
end
end L2

namespace L2
open PySem
/-! two lists of numbers of rooms: alike or not -/
section
variable {X : Cx}
theorem eqAt_nats {A : Around} {s : Shared} : ∀ {as bs : List Nat} {us vs : List Value}, Vals (as.map fun j : Nat => V.int (j : Int)) us → Vals (bs.map fun j : Nat => V.int (j : Int)) vs → ∀ (j : Nat) (h1 : j < us.length) (h2 : j < vs.length), SeqAt.EqAt A s us[j] vs[j] (decide (as[j]? = bs[j]?))
  | [], _, _, _, .nil, _, j, h1, _ => absurd h1 (Nat.not_lt_zero _)
  | _ :: _, [], _, _, _, .nil, j, _, h2 => absurd h2 (Nat.not_lt_zero _)
  | a :: as, b :: bs, u :: us, v :: vs, .cons r t, .cons r' t', j, h1, h2 => by
    cases j with
    | zero =>
      have := eqAt_V (A := A) (s := s) r r' rfl rfl
      have e : eqV (.int (a : Int)) (.int (b : Int)) = decide ((a :: as)[0]? = (b :: bs)[0]?) := by
        show ((a : Int) == (b : Int)) = _
        rw [Bool.eq_iff_iff, decide_eq_true_iff]
        simp
        omega
      rw [e] at this
      exact this
    | succ j => exact eqAt_nats t t' j (Nat.lt_of_succ_lt_succ h1) (Nat.lt_of_succ_lt_succ h2)
theorem all_eq {as bs : List Nat} (hl : as.length = bs.length) : (List.range as.length).all (fun j => decide (as[j]? = bs[j]?)) = decide (as = bs) := by
  rw [Bool.eq_iff_iff, decide_eq_true_iff, List.all_eq_true]
  constructor
  · intro h
    apply List.ext_getElem?
    intro i
    by_cases c : i < as.length
    · exact of_decide_eq_true (h i (List.mem_range.mpr c))
    · rw [List.getElem?_eq_none (by omega), List.getElem?_eq_none (by omega)]
  · intro h j _
    rw [h]
    exact decide_eq_true rfl
theorem op_eqN (hu : X.A.units < cLine) : OpR X (compareOp .Eq) (fun x y H Q => ∃ (a b : Addr) (as bs : List Nat), x = .ref a ∧ y = .ref b ∧ SqL X.K H a (as.map fun j : Nat => V.int (j : Int)) ∧ SqL X.K H b (bs.map fun j : Nat => V.int (j : Int)) ∧ Q (.bl (decide (as = bs))) H) := by
  intro pins s σ H x y v u Q I rx ry h
  obtain ⟨a, b, as, bs, rfl, rfl, ha, hb, q⟩ := h
  cases rx
  cases ry
  obtain ⟨its, r1, p1, _⟩ := I.list ha
  obtain ⟨its2, r2, p2, _⟩ := I.list hb
  have l1 := r1.length
  have l2 := r2.length
  rw [List.length_map] at l1 l2
  by_cases hl : as.length = bs.length
  · refine SeqAt.RcAt.lists (e := fun j => decide (as[j]? = bs[j]?)) p1.isList p2.isList (by rw [List.size_toArray, List.size_toArray]; omega) hu (fun j h1 h2 => ?_) X.prog X.w X.xe _ ?_
    · have := eqAt_nats (A := X.A.in1) (s := s) r1 r2 j (by simpa using h1) (by simpa using h2)
      simpa using this
    · rw [List.size_toArray, ← l1, all_eq hl]
      exact ⟨.bl _, H, I, rfl, q⟩
  · refine SeqAt.RcAt.lists_lengths p1.isList p2.isList (by rw [List.size_toArray, List.size_toArray]; simp; omega) hu X.prog X.w X.xe _ ?_
    rw [decide_eq_false (fun e => hl (by rw [e]))] at q
    exact ⟨.bl _, H, I, rfl, q⟩
end
end L2

namespace L2
open PySem
/-! two tuples of numbers of rooms: alike or not -/
section
variable {X : Cx}
theorem op_eqNT (hu : X.A.units < cLine) : OpR X (compareOp .Eq) (fun x y H Q => ∃ (a b : Addr) (as bs : List Nat), x = .ref a ∧ y = .ref b ∧ SqT X.K H a (as.map fun j : Nat => V.int (j : Int)) ∧ SqT X.K H b (bs.map fun j : Nat => V.int (j : Int)) ∧ Q (.bl (decide (as = bs))) H) := by
  intro pins s σ H x y v u Q I rx ry h
  obtain ⟨a, b, as, bs, rfl, rfl, ha, hb, q⟩ := h
  cases rx
  cases ry
  obtain ⟨its, r1, p1, _⟩ := I.tuple ha
  obtain ⟨its2, r2, p2, _⟩ := I.tuple hb
  have l1 := r1.length
  have l2 := r2.length
  rw [List.length_map] at l1 l2
  refine SeqAt.RcAt.tuples (e := fun j => decide (as[j]? = bs[j]?)) p1 p2 hu (fun j h1 h2 => ?_) X.prog X.w X.xe _ ?_
  · have := eqAt_nats (A := X.A.in1) (s := s) r1 r2 j (by simpa using h1) (by simpa using h2)
    simpa using this
  · have e : ((List.range (min its.toArray.size its2.toArray.size)).all (fun j => decide (as[j]? = bs[j]?)) && its.toArray.size == its2.toArray.size) = decide (as = bs) := by
      rw [List.size_toArray, List.size_toArray, ← l1, ← l2]
      by_cases hl : as.length = bs.length
      · rw [← hl, Nat.min_self, all_eq hl]
        simp
      · rw [decide_eq_false (fun z => hl (by rw [z]))]
        simp [hl]
    rw [e]
    exact ⟨.bl _, H, I, rfl, q⟩
end
end L2

namespace L2
open PySem PySem.Spec PyProof.Rows
section
variable {X : Cx} {a b c : Expr} {ta tb tc : TE} {pos : Pos}
/-- a op1 b op2 c of ints, c a calm expression: one truth -/
def tChV (p p' : Int → Int → Bool) (ta tb tc : TE) : TE := fun σ H Q => ta σ H fun x H1 => tb σ H1 fun y H2 => ∃ i j k, x = .int i ∧ y = .int j ∧ tc σ H2 (fun z H3 => z = .int k ∧ H3 = H2) ∧ Q (.bl (p i j && p' j k)) H2
theorem pe_chV {op op' : CmpOp} {p p' : Int → Int → Bool} (ho : OpR X (compareOp op) (rI0 fun i j => .bl (p i j))) (ho' : OpR X (compareOp op') (rI0 fun i j => .bl (p' i j))) (ha : PE X a ta) (hb : PE X b tb) (hc : PE X c tc)
    (hm : lastMarks [op, op'] [b, c] = false := by with_unfolding_all rfl) : PE X (.Compare a [op, op'] [b, c] pos) (tChV p p' ta tb tc) := by
  intro pins s σ H Q I h
  refine Compare_chain (thn (ha pins s σ H _ I h) fun v s1 ⟨x, H1, I1, r1, q1⟩ => chain_link (thn (hb pins s1 σ H1 _ I1 q1) fun u s2 ⟨y, H2, I2, r2, q2⟩ => ?_)) hm
  obtain ⟨i, j, k, rfl, rfl, tq, q⟩ := q2
  refine thn (ho pins s2 σ H2 _ _ v u (fun z H3 => z = .bl (p i j) ∧ H3 = H2) I2 r1 r2 ⟨i, j, rfl, rfl, rfl, rfl⟩) fun d s3 ⟨z, H3, I3, r3, e1, e2⟩ => ?_
  subst e1 e2
  cases r3
  refine wpAny_truthy_bool ?_
  cases e : p i j with
  | false =>
    rw [e, Bool.false_and] at q
    exact ite_ff ⟨.bl false, _, I3, rfl, q⟩
  | true =>
    rw [e, Bool.true_and] at q
    exact ite_tt (chain_last (thn (hc pins s3 σ _ _ I3 tq) fun w' s4 ⟨z', H4, I4, r4, e3, e4⟩ => by
      subst e3 e4
      exact ho' pins s4 σ _ _ _ u w' Q I4 r2 r4 ⟨j, k, rfl, rfl, q⟩))
theorem pt_chV {op op' : CmpOp} {p p' : Int → Int → Bool} (ho : OpR X (compareOp op) (rI0 fun i j => .bl (p i j))) (ho' : OpR X (compareOp op') (rI0 fun i j => .bl (p' i j))) (ha : PE X a ta) (hb : PE X b tb) (hc : PE X c tc)
    (hm : lastMarks [op, op'] [b, c] = false := by with_unfolding_all rfl) : PT X (.Compare a [op, op'] [b, c] pos) (tTest (tChV p p' ta tb tc)) := by
  intro pins s σ H Q I h
  refine isTrue_chain (thn (ha pins s σ H _ I h) fun v s1 ⟨x, H1, I1, r1, q1⟩ => test_link (thn (hb pins s1 σ H1 _ I1 q1) fun u s2 ⟨y, H2, I2, r2, q2⟩ => ?_)) hm
  obtain ⟨i, j, k, rfl, rfl, tq, kk, ek, q⟩ := q2
  cases ek
  refine thn (ho pins s2 σ H2 _ _ v u (fun z H3 => z = .bl (p i j) ∧ H3 = H2) I2 r1 r2 ⟨i, j, rfl, rfl, rfl, rfl⟩) fun d s3 ⟨z, H3, I3, r3, e1, e2⟩ => ?_
  subst e1 e2
  cases r3
  refine wpAny_truthy_bool ?_
  cases e : p i j with
  | false =>
    rw [e, Bool.false_and] at q
    exact ite_ff ⟨_, I3, q⟩
  | true =>
    rw [e, Bool.true_and] at q
    refine ite_tt (test_last (thn (hc pins s3 σ _ _ I3 tq) fun w' s4 ⟨z', H4, I4, r4, e3, e4⟩ => ?_))
    subst e3 e4
    refine thn (ho' pins s4 σ _ _ _ u w' (fun z H5 => z = .bl (p' j k) ∧ H5 = H4) I4 r2 r4 ⟨j, k, rfl, rfl, rfl, rfl⟩) fun d' s5 ⟨z2, H5, I5, r5, e5, e6⟩ => ?_
    subst e5 e6
    cases r5
    exact wpAny_truthy_bool ⟨_, I5, q⟩
end
theorem itB {c : Bool} {A B : Prop} (h1 : c = true → A) (h2 : c = false → B) : if c = true then A else B := by
  cases c with
  | true =>
    rw [if_pos rfl]
    exact h1 rfl
  | false =>
    rw [if_neg Bool.false_ne_true]
    exact h2 rfl
end L2

namespace PySem
open Sem (wp)
open AutoSeq1 (wpAny_loadPart')
set_option maxRecDepth 100000
/-! enumerate over a tuple -/
section
variable {prog : Program} {w : World} {A : Around} {E : Value → Shared → Prop} {s : Shared}
theorem nextTup_item {q tt : Addr} {i : Nat} {vs : Array Value} {x : Value} {Q : Value → Shared → Prop} (g : s.heap.IsTupleIter q tt i) (gt : s.heap.IsTuple tt vs) (gx : vs[i]? = some x)
    (hQ : ∀ h', h'.IsTupleIter q tt (i + 1) → Heap.SameBut q s.heap h' → Q x { s with heap := h' }) : wpAny (model prog w) A (Builtin.SmallTypes.nextOf (.ref q)) Q E s := by
  obtain ⟨ob, go, gc, gd⟩ := id g
  obtain ⟨ot, got, _, nt, gdt⟩ := gt
  unfold Builtin.SmallTypes.nextOf
  refine wpAny_bind (wpAny_callSpecial?_slot (name := Str.ofString "__next__") g.typeIs F.slot_tuple_iterator_next (wpAny_call_entry F.slot_tuple_iterator_next g.typeIs F.entry_tuple_iterator_next ?_ (F.args_tuple_iterator_next_1 _)))
  show wpAny _ _ (field (.ref q) 0 >>= _) _ _ s
  refine wpAny_bind (wpAny_field go gd (x := .ref tt) rfl ?_)
  show wpAny _ _ (if (Value.ref tt == Value.none) = true then _ else _) _ _ s
  rw [if_neg (show ¬ ((Value.ref tt == Value.none) = true) from Bool.false_ne_true)]
  show wpAny _ _ (field (.ref q) 1 >>= _) _ _ s
  refine wpAny_bind (wpAny_field go gd (x := .int i 0) rfl ?_)
  show wpAny _ _ (seqItems? (.ref tt) >>= _) _ _ s
  refine wpAny_bind (wpAny_seqItems got gdt ?_)
  simp only [Int.toNat_natCast, gx]
  refine wpAny_bind (wpAny_setField go gd (by simp) (wpAny_pure ⟨x, rfl, wpAny_pure (hQ _ ?_ (Heap.SameBut.update ..))⟩))
  exact ⟨_, Heap.get?_update_self _ go (Obj.isFreed_of_fields (Obj.data_mapFields gd _)), (Obj.cls_mapFields ..).trans gc, by rw [Obj.data_mapFields gd]; simp [rawInt]⟩
theorem nextTup_end {q tt : Addr} {i : Nat} {vs : Array Value} {Q : Value → Shared → Prop} (hh : A.handled = none) (g : s.heap.IsTupleIter q tt i) (gt : s.heap.IsTuple tt vs) (gx : vs[i]? = none)
    (hE : ∀ h' e, Heap.ExtBut q s.heap h' → (∃ o, h'.get? e = some o ∧ o.cls = .type "StopIteration") → E (.ref e) { s with heap := h' }) : wpAny (model prog w) A (Builtin.SmallTypes.nextOf (.ref q)) Q E s := by
  obtain ⟨ob, go, gc, gd⟩ := id g
  obtain ⟨ot, got, _, nt, gdt⟩ := gt
  unfold Builtin.SmallTypes.nextOf
  refine wpAny_bind (wpAny_callSpecial?_slot (name := Str.ofString "__next__") g.typeIs F.slot_tuple_iterator_next (wpAny_call_entry F.slot_tuple_iterator_next g.typeIs F.entry_tuple_iterator_next ?_ (F.args_tuple_iterator_next_1 _)))
  show wpAny _ _ (field (.ref q) 0 >>= _) _ _ s
  refine wpAny_bind (wpAny_field go gd (x := .ref tt) rfl ?_)
  show wpAny _ _ (if (Value.ref tt == Value.none) = true then _ else _) _ _ s
  rw [if_neg (show ¬ ((Value.ref tt == Value.none) = true) from Bool.false_ne_true)]
  show wpAny _ _ (field (.ref q) 1 >>= _) _ _ s
  refine wpAny_bind (wpAny_field go gd (x := .int i 0) rfl ?_)
  show wpAny _ _ (seqItems? (.ref tt) >>= _) _ _ s
  refine wpAny_bind (wpAny_seqItems got gdt ?_)
  simp only [Int.toNat_natCast, gx]
  refine wpAny_bind (wpAny_rule (wpAny_bind (wpAny_setField go gd (by simp) ?_)))
  show wpAny _ _ ((newExc (.type "StopIteration") []) >>= _) _ _ _
  refine wpAny_bind ?_
  simp only [newExc, newTuple]
  refine (wpAny_bind (wpAny_newObj_type ?_ (by size_fits)))
  refine (wpAny_bind (m := firstArgMember _ _) (wpAny_of_eq (a := Value.none) (by first | rfl | (simp only [firstArgMember]; rfl)) ?_))
  refine (wpAny_newObj_type ?_ (by size_fits))
  simp only [raiseNew]
  refine wpAny_bind (wpAny_handled ?_)
  (first | rw [show A.in1.handled = none from hh] | rw [hh])
  refine (wpAny_bind (wpAny_pure (wpAny_throw ?_)))
  exact (hE _ _ (((Heap.SameBut.update ..).extBut.push _).push _) ⟨_, Heap.get?_push_size _ rfl, rfl⟩)
end
theorem drawsTup {prog : Program} {w : World} {A : Around} (hh : A.handled = none) (q tt : Addr) (hne : tt ≠ q) (vs : Array Value) :
    Draws prog w A q [q, tt] vs.size (fun i v => vs[i]? = some v) (fun i h => h.IsTupleIter q tt i ∧ h.IsTuple tt vs) where
  live := fun _ _ st => let ⟨o, ho, _⟩ := st.1; ⟨o, ho⟩
  frame := fun _ _ _ st hk => ⟨st.1.at fun o e => hk q (by simp) o e, st.2.at fun o e => hk tt (by simp) o e⟩
  item := fun i s Q E hi st hQ => by
    refine nextTup_item st.1 st.2 (x := vs[i]) (by simp [hi]) fun h' hit' hs' => ?_
    exact hQ _ h' s.toks (by simp [hi]) ⟨hit', st.2.extBut hs'.extBut hne⟩ hs'
  done := fun s Q E st hE => nextTup_end hh st.1 st.2 (by simp) hE
theorem enumNewT (l : Addr) (vs : Array Value) (n : Nat) (dct : Option Addr) (sl : Array (Option Value)) :
    Meets (Builtin.«enumerate.__new__» ⟨[.type "enumerate", .ref l], []⟩) (fun _ R s => s.heap.get? l = some { cls := .type "tuple", dict := dct, data := .seq vs n, slots := sl } ∧
      R (.ok (.ret (.ref (s.heap.push { cls := .type "tuple_iterator", data := .fields #[.ref l, .int 0 0] }).objs.size)))
        { s with heap := (s.heap.push { cls := .type "tuple_iterator", data := .fields #[.ref l, .int 0 0] }).push { cls := .type "enumerate", data := .fields #[.none, .bool false, .ref s.heap.objs.size, rawInt 0, .none, .none] } }) :=
  .of_wp fun prog w A R s h => by
    obtain ⟨hp, g, d, tk, os⟩ := s
    obtain ⟨hl, h⟩ := h
    have hsub := sub_enumerate
    have hL : Heap.IsTuple (Shared.heap ⟨hp, g, d, tk, os⟩) l vs := ⟨_, hl, rfl, n, rfl⟩
    wp_walk using wpAny_loadPart' hl
    refine wpAny_stack_any fun st => wpAny_pure ?_
    split
    · rename_i c _ _ _ _ _
      cases (c == Value.type "enumerate")
      · wp_walk using wpAny_loadPart' hl, wpAny_pyIter_tuple hL
        exact ⟨_, rfl, h⟩
      · wp_walk using wpAny_loadPart' hl, wpAny_pyIter_tuple hL
        exact ⟨_, rfl, h⟩
    · wp_walk using wpAny_loadPart' hl, wpAny_pyIter_tuple hL
      exact ⟨_, rfl, h⟩
theorem callEnumT {prog : Program} {w : World} {A : Around} {E : Value → Shared → Prop} {s : Shared} {l : Addr} {vs : Array Value} {Q : Value → Shared → Prop} (hL : s.heap.IsTuple l vs)
    (h : ∀ h', IsEnum h' (s.heap.objs.size + 1) s.heap.objs.size 0 .none → h'.IsTupleIter s.heap.objs.size l 0 → h'.objs.size = s.heap.objs.size + 2 →
      (∀ b o, s.heap.get? b = some o → h'.get? b = some o) → Q (.ref (s.heap.objs.size + 1)) { s with heap := h' }) :
    wpAny (model prog w) A (call (.type "enumerate") [.ref l]) Q E s := by
  obtain ⟨⟨c, dct, dt, sl⟩, hl, hc, n, hd⟩ := hL
  replace hc : c = .type "tuple" := hc
  replace hd : dt = .seq vs n := hd
  subst hc hd
  refine callType_new F.called_enumerate (by decide) (F.typeCall_enumerate_1 _) (F.newCall_enumerate_1 _) (fun obj => F.args_object_init_2 obj _) F.entry_enumerate_new (enumNewT l vs n dct sl) ⟨hl, ?_⟩
  have hz : (s.heap.push { cls := .type "tuple_iterator", data := .fields #[.ref l, .int 0 0] }).objs.size = s.heap.objs.size + 1 := Heap.size_push ..
  show _ ∧ _
  rw [hz]
  have he : IsEnum ((s.heap.push { cls := .type "tuple_iterator", data := .fields #[.ref l, .int 0 0] }).push
      { cls := .type "enumerate", data := .fields #[.none, .bool false, .ref s.heap.objs.size, rawInt 0, .none, .none] }) (s.heap.objs.size + 1) s.heap.objs.size 0 .none := by
    have := Heap.get?_push_size (s.heap.push { cls := .type "tuple_iterator", data := .fields #[.ref l, .int 0 0] })
      (o := { cls := .type "enumerate", data := .fields #[.none, .bool false, .ref s.heap.objs.size, rawInt 0, .none, .none] }) rfl
    rw [hz] at this
    exact this
  exact ⟨⟨_, he, rfl⟩, h _ he ⟨_, Heap.get?_push_of_some _ (Heap.get?_push_size _ rfl), rfl, rfl⟩ (by rw [Heap.size_push, hz]) fun b o x => Heap.get?_push_of_some _ (Heap.get?_push_of_some _ x)⟩
theorem enumEndT {prog : Program} {w : World} {A : Around} {E : Value → Shared → Prop} {s : Shared} {e q tt : Addr} {vs : Array Value} {i : Nat} {j : Int} {old : Value} {Q : Option Value → Shared → Prop} (hh : A.handled = none) (he : IsEnum s.heap e q j old) (g : s.heap.IsTupleIter q tt i) (gt : s.heap.IsTuple tt vs) (gx : vs[i]? = none)
    (hQ : ∀ h', Heap.ExtBut q s.heap h' → Q none { s with heap := h' }) : wpAny (model prog w) A (pyNext (.ref e)) Q E s := by
  have hT : s.TypeIs (.ref e) "enumerate" := ⟨_, he, rfl⟩
  unfold pyNext
  refine wpAny_bind (wpAny_attempt (wpAny_callSpecial?_slot (name := Str.ofString "__next__") hT F.slot_enumerate_next (wpAny_call_entry F.slot_enumerate_next hT F.entry_enumerate_next ?_ (F.args_enumerate_next_1 _))))
  show wpAny _ _ (field (.ref e) 2 >>= _) _ _ _
  refine wpAny_bind (wpAny_field he rfl (x := .ref q) rfl ?_)
  refine wpAny_bind (nextTup_end (A := A.in1) hh g gt gx fun h' x he' hx' => ?_)
  obtain ⟨o, ho, hc⟩ := hx'
  refine (wpAny_bind (wpAny_isInstance (T := "StopIteration") (b := true) ⟨o, ho, hc⟩ isSubtype_stop ?_))
  exact wpAny_pure (hQ _ he')
end PySem
namespace L2
open PySem PySem.Spec PyProof.Rows
section
variable {X : Cx} {pins : List (Addr × Obj)} {σ : St} {H : Hp} {s : Shared} {h' : Heap}
/-- several untracked records of ours have turned -/
theorem Inv.turnedL {t' : Nat} {ts : List Addr} (I : Inv X pins σ H s) (k : ∀ b o, b ∉ ts → s.heap.get? b = some o → h'.get? b = some o) (hf : ∀ b ∈ ts, FpOk X pins H b) : Inv X pins σ H { s with heap := h', toks := t' } := by
  have nit : ∀ b u, H b = some u → b ∉ ts := fun b u e z => by
    rw [(hf b z).1] at e
    cases e
  refine I.step (g' := s.gens) (d' := s.drawn) (ch := ts) (fun b hb => ?_) (fun b o _ _ hc e _ => k b o hc e) (fun b o _ _ hc e _ => ⟨o.slots, k b o hc e⟩) (fun _ _ _ _ n => n) (fun b o hc e => ⟨o, k b o hc e⟩) (fun _ _ e => e) (fun _ _ _ e => e) (fun b ps e => ⟨#[], by rw [e]; simp⟩) (fun m hm => ?_) (fun b u e => ?_) I.bare
  · obtain ⟨f0, f1, f2, f3, f4, f5⟩ := hf b hb
    exact ⟨f3, f1, f4, f5⟩
  · obtain ⟨o, es, ep, ho, r⟩ := hm
    exact ⟨o, es, ep, k _ o (fun z => (hf _ z).2.1 rfl) ho, r⟩
  · refine (I.hok b u e).stay (fun c v hc q => k c v ?_ q) (fun _ q => q) fun _ _ q => q
    rcases hc with z | z
    · rw [z]
      exact nit b u e
    · exact nit c _ z
end
/-- number and item of a tuple, at each turn in a new pair -/
def Ite (K : PySem.W.Frag) (a : Addr) : It :=
  ⟨fun i H => ∃ xs x, SqT K H a xs ∧ xs[i]? = some x, fun i H v H' => ∃ (t : Addr) (x : V), v = .ref t ∧ H t = none ∧ (∀ xs, SqT K H a xs → xs[i]? = some x) ∧ H' = upd H t (.tup [.int (i : Int), x]), fun i H => ∃ xs, SqT K H a xs ∧ xs.length ≤ i⟩
theorem turn_enum {P : Program} {w : World} {K : PySem.W.Frag} {es : List Expr} {k : Nat} {pos : Pos} (a e q : Addr) : Turn P w K (.Tuple es k pos) (Ite K a) [e, q] e (fun i h => (∃ old, IsEnum h e q (i : Nat) old) ∧ h.IsTupleIter q a i) where
  mem := by simp
  obj := fun i h st b hb => by
    obtain ⟨⟨old, he⟩, o, ho, hc, hd⟩ := st
    rcases List.mem_cons.mp hb with rfl | hb
    · refine ⟨_, he, fun v z => ?_⟩
      have z2 : Data.fields _ = Data.cell v := z
      cases z2
    · rw [List.mem_singleton.mp hb]
      exact ⟨o, ho, fun v z => by rw [hd] at z; cases z⟩
  keep := fun i h h' st k => by
    obtain ⟨⟨old, he⟩, hq⟩ := st
    exact ⟨⟨old, k e (by simp) _ he⟩, hq.at fun o z => k q (by simp) o z⟩
  item := by
    intro X hP hw hK hc i pins s σ H E I hf st hg
    subst hP hw hK
    obtain ⟨xs, x, hq, hx⟩ := hg
    obtain ⟨its, rv, p, hz⟩ := I.tuple hq
    obtain ⟨u, hu, ru⟩ := rv.get hx
    obtain ⟨⟨old, he⟩, hit⟩ := st
    have pt : s.heap.IsTuple a its.toArray := p
    have naq : a ≠ q := fun z => by
      obtain ⟨o1, g1, c1, _⟩ := pt
      obtain ⟨o2, g2, c2, _⟩ := hit
      rw [z, g2] at g1
      cases g1
      rw [c2] at c1
      injection c1 with c1
      exact absurd c1 (by decide)
    have neq : e ≠ q := fun z => by
      obtain ⟨o2, g2, c2, _⟩ := hit
      rw [← z] at g2
      have g3 := g2.symm.trans he
      cases g3
      have c3 : Value.type "enumerate" = Value.type "tuple_iterator" := c2
      injection c3 with c3
      exact absurd c3 (by decide)
    have nea : e ≠ a := fun z => by
      obtain ⟨o1, g1, c1, _⟩ := pt
      rw [← z] at g1
      have g3 := g1.symm.trans he
      cases g3
      have c3 : Value.type "enumerate" = Value.type "tuple" := c1
      injection c3 with c3
      exact absurd c3 (by decide)
    have D := drawsTup (prog := X.prog) (w := X.w) (A := X.A.in1) (I.ok.hd hc) q a naq its.toArray
    have hlt : i < its.toArray.size := by
      have := (List.getElem?_eq_some_iff.mp hu).1
      simpa using this
    have hnew : H s.heap.objs.size = none := I.hok.fresh (Nat.le_refl _)
    refine wpAny_pyNext_enum_itemD D he ⟨hit, pt⟩ hlt neq (by simp [neq, nea]) fun y h1 tk hy ho hs1 hT hsz hk => ?_
    obtain rfl : y = u := by
      rw [List.getElem?_toArray, hu] at hy
      exact (Option.some.inj hy).symm
    refine ⟨_, rfl, wpAny_letOwnedTupleGo_enum ho fun h2 he2 sb => ?_⟩
    have nse : s.heap.objs.size ≠ e := Nat.ne_of_gt (Heap.lt_size he)
    have nsq : s.heap.objs.size ≠ q := by
      obtain ⟨o2, g2, _⟩ := hit
      exact Nat.ne_of_gt (Heap.lt_size g2)
    have kk : ∀ b o, b ∉ [e, q] → s.heap.get? b = some o → h2.get? b = some o := fun b o hb g => by
      have b1 : b ≠ e := fun z => hb (by simp [z])
      have b2 : b ≠ q := fun z => hb (by simp [z])
      exact (sb.2 b b1).trans (hk b o b1 b2 g)
    have I1 : Inv X pins σ H { s with heap := h2, toks := tk + 1 } := I.turnedL kk hf
    have I2 : Inv X pins σ (upd H s.heap.objs.size (.tup [.int (i : Int), x])) { s with heap := h2, toks := tk + 1 } := by
      refine Inv.adopt I1 (I.fpOk (Nat.le_refl _) hnew) ⟨by show 2 ≤ sizeLine; decide, [.int i tk, y], .cons ⟨tk, rfl⟩ (.cons ru .nil), ?_⟩
      exact ⟨_, (sb.2 _ nse).trans hT, rfl, _, rfl⟩
    refine ⟨.ref s.heap.objs.size, _, I2, rfl, ⟨_, x, rfl, hnew, fun ys hy => by rw [I.tuple_inj hy hq]; exact hx, rfl⟩, ⟨⟨y, by have := he2; simpa using this⟩, hs1.1.at fun o g => (sb.2 q (Ne.symm neq)).trans g⟩, fun b hb => ?_⟩
    have nb : b ≠ s.heap.objs.size := by
      rcases List.mem_cons.mp hb with rfl | hb
      · exact Ne.symm nse
      · rw [List.mem_singleton.mp hb]
        exact Ne.symm nsq
    rw [upd_ne nb]
    exact (hf b hb).1
  done := by
    intro X hP hw hK hc i pins s σ H E I hf st hg
    subst hP hw hK
    obtain ⟨xs, hq, hx⟩ := hg
    obtain ⟨its, rv, p, hz⟩ := I.tuple hq
    obtain ⟨⟨old, he⟩, hit⟩ := st
    have pt : s.heap.IsTuple a its.toArray := p
    have hl := rv.length
    have hnone : its.toArray[i]? = none := by simp; omega
    refine enumEndT (I.ok.hd hc) he hit pt hnone fun h2 eb => ⟨rfl, ?_⟩
    exact I.turnedL (t' := s.toks) (fun b o hb g => eb b o (fun z => hb (by simp [z])) g) hf
  self := fun _ _ _ _ _ st h => by
    obtain ⟨⟨old, he⟩, _⟩ := st
    exact wpAny_pyIter_enum he h
section
variable {X : Cx} {es : List Expr} {k : Nat} {tpos : Pos}
def iEnum (K : PySem.W.Frag) (ta : TA) : TI := fun σ H R => ta σ H fun vs H1 => ∃ a, vs = [.ref a] ∧ (∃ xs, SqT K H1 a xs) ∧ R (Ite K a) H1
theorem pi_enum {l : Expr} {ta : TA} {p pos : Pos} (hg : Gl X "enumerate") (hm : X.mg "enumerate" = none) (ha : PA X [l] ta) (hs : starEach [l] X.env = [(false, eval l X.env)] := by rfl) : PI X (.Tuple es k tpos) (.Call (.Name "enumerate" p) [l] [] pos) (iEnum X.K ta) := by
  intro pins s σ H R I h
  refine Call_ (ld_blt I hg hm boot_enumerate (PyProof.Rows.callWith_type1 (thn (ha pos pins s σ H _ I h) fun us s1 ⟨vs, H1, I1, r1, q1⟩ => ?_) hs rfl))
  obtain ⟨a, e, ⟨xs, hq⟩, q⟩ := q1
  subst e
  cases r1 with
  | cons r rr =>
    cases rr
    cases r
    obtain ⟨its, rv, p, hz⟩ := I1.tuple hq
    refine callEnumT (show s1.heap.IsTuple a its.toArray from p) fun h' he hit hsz hk => ?_
    refine wpAny_pyIter_enum he ?_
    have I2 : Inv X pins σ H1 { s1 with heap := h' } := I1.kept (t' := s1.toks) hk
    refine ⟨s1.heap.objs.size + 1, [s1.heap.objs.size + 1, s1.heap.objs.size], _, _, H1, rfl, I2, turn_enum a _ _, ⟨⟨.none, by simpa using he⟩, hit⟩, fun b hb => ?_, q⟩
    rcases List.mem_cons.mp hb with rfl | hb
    · exact I1.fpOk (Nat.le_succ _) (I1.hok.fresh (Nat.le_succ _))
    · rw [List.mem_singleton.mp hb]
      exact I1.fpOk (Nat.le_refl _) (I1.hok.fresh (Nat.le_refl _))
end
end L2

namespace PySem
open Sem (wp)
set_option maxRecDepth 100000
/-! zip of two tuples: one turn of it by a core that both ends share, and its making -/
section
variable {prog : Program} {w : World} {A : Around} {E : Value → Shared → Prop} {s : Shared} {z TI TO i1 i2 l1 l2 : Addr}
/-- what a turn leaves as it was -/
def ZLeft (z TO i1 i2 : Addr) (h h' : Heap) : Prop := ∀ c o, c ≠ z → c ≠ TO → c ≠ i1 → c ≠ i2 → h.get? c = some o → h'.get? c = some o
/-- a walker has ended: the zip is set free, and the ending goes on -/
def zEnds (prog : Program) (w : World) (A : Around) (z : Addr) (E : Value → Shared → Prop) : Value → Shared → Prop := fun e s' => wpAny (model prog w) A (setField (.ref z) 0 .none) (fun _ s'' => E e s'') E s'
/-- the drawn item is put into the zip's own row -/
theorem zt_put {β : Type} {n : Nat} {a b x : Value} {k : Option (Array Value) → Sem β} {k' : Unit → Sem β} {k'' : Unit → Sem β} {old : Value} {Q : β → Shared → Prop} (hT : IsPair s.heap TO a b)
    (ek : k (some #[a, b]) = (updateSeq TO (·.setIfInBounds n x) >>= k')) (ek' : k' () = (letGo [old] >>= k''))
    (h : ∀ h', h'.get? TO = some { cls := .type "tuple", data := .seq ((#[a, b] : Array Value).setIfInBounds n x) } → Heap.SameBut TO s.heap h' → wpAny (model prog w) A (k'' ()) Q E { s with heap := h' }) :
    wpAny (model prog w) A (seqItems? (.ref TO) >>= k) Q E s := by
  refine wpAny_bind (wpAny_seqItems hT rfl ?_)
  rw [ek]
  refine wpAny_bind (wpAny_updateSeq_pair hT fun h' e sb => ?_)
  rw [ek']
  exact wpAny_bind (wpAny_letGo (h h' e sb))
theorem zt_core {Q : Fin → Shared → Prop} (hz : IsZip s.heap z TI TO .none) (hTI : IsPair s.heap TI (.ref i1) (.ref i2))
    (h : ∀ h1, IsZip h1 z TI TO .ellipsis → Heap.SameBut z s.heap h1 →
      wpAny (model prog w) A (Builtin.SmallTypes.nextOf (.ref i1)) (fun x s2 => ∃ a b, IsPair s2.heap TO a b ∧ ∀ h3, IsPair h3 TO x b → Heap.SameBut TO s2.heap h3 →
        wpAny (model prog w) A (Builtin.SmallTypes.nextOf (.ref i2)) (fun y s4 => IsPair s4.heap TO x b ∧ ∀ h5, IsPair h5 TO x y → Heap.SameBut TO s4.heap h5 → IsZip h5 z TI TO .ellipsis ∧
          ∀ h6, IsZip h6 z TI TO (rawInt h5.objs.size) → IsPair h6 h5.objs.size x y → h6.objs.size = h5.objs.size + 1 → (∀ c o, c ≠ z → h5.get? c = some o → h6.get? c = some o) → Q (.done (.ret (.ref h5.objs.size))) { s4 with heap := h6 })
        (zEnds prog w A z E) { s2 with heap := h3 }) (zEnds prog w A z E) { s with heap := h1 }) :
    wpAny (model prog w) A (Builtin.«zip.__next__» ⟨[.ref z], []⟩) Q E s := by
  have fl : ∀ {β : Type} {f0 v : Value} {n : Nat} {k : Value → Sem β} {Q' : β → Shared → Prop} {E' : Value → Shared → Prop} {s' : Shared}, IsZip s'.heap z TI TO f0 → (#[f0, .bool false, .bool false, .ref TI, .ref TO] : Array Value)[n]? = some v → wpAny (model prog w) A (k v) Q' E' s' → wpAny (model prog w) A (field (.ref z) n >>= k) Q' E' s' := fun g e r => wpAny_bind (wpAny_field g rfl e r)
  show wpAny _ _ (field (.ref z) 2 >>= _) _ _ _
  refine fl hz rfl ?_
  show wpAny _ _ (field (.ref z) 3 >>= _) _ _ _
  refine fl hz rfl (wpAny_bind (wpAny_seqItems hTI rfl ?_))
  show wpAny _ _ (Builtin.SmallTypes.ownedTupleIsFree (.ref z) >>= _) _ _ _
  refine wpAny_bind (fl hz rfl (wpAny_pure ?_))
  show wpAny _ _ (rule _ >>= _) _ _ _
  refine wpAny_bind (wpAny_rule (fl hz rfl (wpAny_bind (wpAny_setField_rec hz (by show 0 < 5; decide) fun h1 z1 s1 => wpAny_bind ?_))))
  simp only [List.zipIdx_cons, List.zipIdx_nil, List.forIn_cons, List.forIn_nil]
  refine wpAny_bind (wpAny_bind (wpAny_onRaise (wpAny_bind (wpAny_mono (h h1 z1 s1) ?_ fun _ _ r => r))))
  rintro x s2 ⟨a, b, t2, r2⟩
  refine wpAny_pure (zt_put t2 rfl rfl fun h3 t3 s3 => wpAny_pure (wpAny_bind (wpAny_bind (wpAny_onRaise (wpAny_bind (wpAny_mono (r2 h3 t3 s3) ?_ fun _ _ r => r))))))
  rintro y s4 ⟨t4, r4⟩
  refine wpAny_pure (zt_put t4 rfl rfl fun h5 t5 s5 => wpAny_pure (wpAny_pure ?_))
  obtain ⟨z5, r5⟩ := r4 h5 t5 s5
  refine wpAny_bind (wpAny_seqItems t5 rfl (wpAny_bind (wpAny_newTuple (wpAny_bind ?_) (by show 2 ≤ sizeLine; decide))))
  have nz : h5.objs.size ≠ z := Nat.ne_of_gt (Heap.lt_size z5)
  have z6 : IsZip (h5.push { cls := .type "tuple", data := .seq #[x, y] }) z TI TO .ellipsis := Heap.get?_push_of_some _ z5
  show wpAny _ _ (setField (.ref z) 0 _ >>= _) _ _ _
  refine wpAny_bind (wpAny_setField_rec z6 (by show 0 < 5; decide) fun h7 z7 s7 => wpAny_setField_rec z7 (by show 1 < 5; decide) fun h8 z8 s8 => wpAny_pure (r5 h8 z8 ?_ ?_ fun c o nc e => ?_))
  · exact s8.extBut _ _ nz (s7.extBut _ _ nz (Heap.get?_push_size _ rfl))
  · rw [s8.1, s7.1, Heap.size_push]
  · exact s8.extBut _ _ nc (s7.extBut _ _ nc (Heap.get?_push_of_some _ e))
end
end PySem
namespace PySem
open Sem (wp)
section
variable {prog : Program} {w : World} {A : Around} {E : Value → Shared → Prop} {s : Shared} {z TI TO i1 i2 l1 l2 : Addr} {k1 k2 : Nat} {xs ys : Array Value} {a b : Value}
/-- a zip over two tuples, as it stands between two turns -/
structure ZTup (h : Heap) (z TI TO i1 i2 l1 l2 : Addr) (k1 k2 : Nat) (xs ys : Array Value) (a b : Value) : Prop where
  apart : ZipApart z TI TO i1 i2 l1 l2
  zip : IsZip h z TI TO .none
  its : IsPair h TI (.ref i1) (.ref i2)
  row : IsPair h TO a b
  w1 : h.IsTupleIter i1 l1 k1
  w2 : h.IsTupleIter i2 l2 k2
  t1 : h.IsTuple l1 xs
  t2 : h.IsTuple l2 ys
theorem ZTup.next {x y : Value} {Q : Fin → Shared → Prop} (Z : ZTup s.heap z TI TO i1 i2 l1 l2 k1 k2 xs ys a b) (hx : xs[k1]? = some x) (hy : ys[k2]? = some y)
    (q : ∀ h', IsZip h' z TI TO (rawInt s.heap.objs.size) ∧ IsPair h' TO x y ∧ h'.IsTupleIter i1 l1 (k1 + 1) ∧ h'.IsTupleIter i2 l2 (k2 + 1) ∧ IsPair h' s.heap.objs.size x y ∧ ZLeft z TO i1 i2 s.heap h' → Q (.done (.ret (.ref s.heap.objs.size))) { s with heap := h' }) :
    wpAny (model prog w) A (Builtin.«zip.__next__» ⟨[.ref z], []⟩) Q E s := by
  obtain ⟨D, hz, hI, hO, u1, u2, v1, v2⟩ := Z
  refine zt_core hz hI fun ha za sa => nextTup_item (u1.extBut sa.extBut D.i1z) (v1.extBut sa.extBut D.l1z) hx fun hb wb sb => ⟨a, b, ?_, fun hc oc sc => ?_⟩
  · exact sb.extBut _ _ D.TOi1 (sa.extBut _ _ D.TOz hO)
  have before : ∀ {c : Addr} {o : Obj}, c ≠ z → c ≠ i1 → c ≠ TO → s.heap.get? c = some o → hc.get? c = some o := fun n1 n2 n3 e => sc.extBut _ _ n3 (sb.extBut _ _ n2 (sa.extBut _ _ n1 e))
  refine nextTup_item (u2.at fun o e => before D.i2z D.i12.symm D.TOi2.symm e) ?_ hy fun hd wd sd => ⟨?_, fun he oe se => ⟨?_, fun hf zf nf lf kf => ?_⟩⟩
  · obtain ⟨o, e, r⟩ := v2
    exact ⟨o, before D.l2z D.l2i1 D.l2TO e, r⟩
  · exact sd.extBut _ _ D.TOi2 oc
  · exact se.extBut _ _ D.TOz.symm (sd.extBut _ _ D.i2z.symm (sc.extBut _ _ D.TOz.symm (sb.extBut _ _ D.i1z.symm za)))
  have sz : he.objs.size = s.heap.objs.size := (((se.1.trans sd.1).trans sc.1).trans sb.1).trans sa.1
  rw [sz] at zf nf ⊢
  refine q hf ⟨zf, kf _ _ D.TOz oe, wb.at fun o e => ?_, wd.at fun o e => ?_, nf, fun c o n1 n2 n3 n4 e => ?_⟩
  · exact kf _ _ D.i1z (se.extBut _ _ D.TOi1.symm (sd.extBut _ _ D.i12 (sc.extBut _ _ D.TOi1.symm e)))
  · exact kf _ _ D.i2z (se.extBut _ _ D.TOi2.symm e)
  · exact kf _ _ n1 (se.extBut _ _ n2 (sd.extBut _ _ n4 (before n1 n3 n2 e)))
theorem zEnds.of {hp : Heap} {f0 : Value} {e : Addr} (hz : IsZip hp z TI TO f0) (he : ∃ o, hp.get? e = some o ∧ o.cls = .type "StopIteration") (q : ∀ h', Heap.SameBut z hp h' → (∃ o, h'.get? e = some o ∧ o.cls = .type "StopIteration") → E (.ref e) { s with heap := h' }) : zEnds prog w A z E (.ref e) { s with heap := hp } := by
  obtain ⟨o, g, c⟩ := he
  refine wpAny_setField_rec hz (by show 0 < 5; decide) fun h' _ sb => q h' sb ⟨o, sb.extBut _ _ (fun n => ?_) g, c⟩
  rw [n, hz] at g
  rw [← Option.some.inj g] at c
  have c' : Value.type "zip" = Value.type "StopIteration" := c
  exact absurd c' (by decide)
theorem ZTup.stop {Q : Fin → Shared → Prop} (hh : A.handled = none) (Z : ZTup s.heap z TI TO i1 i2 l1 l2 k1 k2 xs ys a b) (he : xs[k1]? = none ∨ ys[k2]? = none)
    (q : ∀ h' e, ZLeft z TO i1 i2 s.heap h' → (∃ o, h'.get? e = some o ∧ o.cls = .type "StopIteration") → E (.ref e) { s with heap := h' }) :
    wpAny (model prog w) A (Builtin.«zip.__next__» ⟨[.ref z], []⟩) Q E s := by
  obtain ⟨D, hz, hI, hO, u1, u2, v1, v2⟩ := Z
  refine zt_core hz hI fun ha za sa => ?_
  have u1' := u1.extBut sa.extBut D.i1z
  have v1' := v1.extBut sa.extBut D.l1z
  cases hx : xs[k1]? with
  | none => exact nextTup_end hh u1' v1' hx fun hb e sb st => zEnds.of (sb _ _ D.i1z.symm za) st fun h' sz st' => q h' e (fun c o n1 _ n3 _ g => sz.extBut _ _ n1 (sb _ _ n3 (sa.extBut _ _ n1 g))) st'
  | some x =>
    have hy := he.resolve_left (by rw [hx]; exact fun n => nomatch n)
    refine nextTup_item u1' v1' hx fun hb wb sb => ⟨a, b, sb.extBut _ _ D.TOi1 (sa.extBut _ _ D.TOz hO), fun hc oc sc => ?_⟩
    have before : ∀ {c : Addr} {o : Obj}, c ≠ z → c ≠ i1 → c ≠ TO → s.heap.get? c = some o → hc.get? c = some o := fun n1 n2 n3 e => sc.extBut _ _ n3 (sb.extBut _ _ n2 (sa.extBut _ _ n1 e))
    obtain ⟨o2, e2, r2⟩ := v2
    refine nextTup_end hh (u2.at fun o e => before D.i2z D.i12.symm D.TOi2.symm e) ⟨o2, before D.l2z D.l2i1 D.l2TO e2, r2⟩ hy fun hd e sd st => ?_
    refine zEnds.of (sd _ _ D.i2z.symm (sc.extBut _ _ D.TOz.symm (sb.extBut _ _ D.i1z.symm za))) st fun h' sz st' => q h' e (fun c o n1 n2 n3 n4 g => ?_) st'
    exact sz.extBut _ _ n1 (sd _ _ n4 (before n1 n3 n2 g))
theorem pyNext_zt {R : Option Value → Shared → Prop} (hz : IsZip s.heap z TI TO .none)
    (h : wpAny (model prog w) A.in1 (Builtin.«zip.__next__» ⟨[.ref z], []⟩) (fun f s' => ∃ v, f = .done (.ret v) ∧ R (some v) s') (fun e s' => (∃ c o, e = .ref c ∧ s'.heap.get? c = some o ∧ o.cls = .type "StopIteration") ∧ R none s') s) : wpAny (model prog w) A (pyNext (.ref z)) R E s := by
  have ty : s.TypeIs (.ref z) "zip" := ⟨_, hz, rfl⟩
  have back := wpAny_call_entry F.slot_zip_next ty F.entry_zip_next h (F.args_zip_next_1 _)
  unfold pyNext
  refine wpAny_bind (wpAny_attempt (wpAny_callSpecial?_slot (name := Str.ofString "__next__") ty F.slot_zip_next (wpAny_mono back ?_ ?_)))
  · exact fun v s' r => wpAny_pure r
  · rintro _ s' ⟨⟨c, o, rfl, g, cl⟩, r⟩
    exact wpAny_bind (wpAny_isInstance (T := "StopIteration") (b := true) ⟨o, g, cl⟩ isSubtype_stop (wpAny_pure r))
/-- the heap behind the making of a zip -/
def ztNew (h : Heap) (l1 l2 : Addr) : Heap := ((((h.push { cls := .type "tuple_iterator", data := .fields #[.ref l1, .int 0 0] }).push { cls := .type "tuple_iterator", data := .fields #[.ref l2, .int 0 0] }).push { cls := .type "tuple", data := .seq #[.ref h.objs.size, .ref (h.objs.size + 1)] }).push { cls := .type "tuple", data := .seq #[.none, .none] }).push
  { cls := .type "zip", data := .fields #[.none, .bool false, .bool false, .ref (h.objs.size + 2), .ref (h.objs.size + 3)] }
theorem push_up {h : Heap} {o : Obj} {n : Nat} (e : h.objs.size = n) : (h.push o).objs.size = n + 1 := by rw [Heap.size_push, e]
theorem meets_zt (l1 l2 : Addr) (xs ys : Array Value) : Meets (Builtin.«zip.__new__» ⟨[.type "zip", .ref l1, .ref l2], []⟩) (fun _ R s => s.heap.IsTuple l1 xs ∧ s.heap.IsTuple l2 ys ∧ R (.ok (.ret (.ref (s.heap.objs.size + 4)))) { s with heap := ztNew s.heap l1 l2 }) :=
  .of_wp fun prog w A R s h => by
    obtain ⟨hp, g, d, tk, os⟩ := s
    obtain ⟨g1, g2, r⟩ := h
    have sz := sub_zip
    have t1 : Heap.IsTuple (Shared.heap ⟨hp, g, d, tk, os⟩) l1 xs := g1
    have t2 : Heap.IsTuple (Shared.heap ⟨hp.push { cls := .type "tuple_iterator", data := .fields #[.ref l1, .int 0 0] }, g, d, tk, os⟩) l2 ys := g2.push _
    wp_walk using wpAny_pyIter_tuple t1, wpAny_pyIter_tuple t2
    have e1 := push_up (h := hp) (o := { cls := .type "tuple_iterator", data := .fields #[.ref l1, .int 0 0] }) rfl
    refine ⟨_, rfl, ?_⟩
    simp only [Heap.size_push] at r ⊢
    unfold ztNew at r
    exact r
theorem call_zt {Q : Value → Shared → Prop} (hx : s.heap.IsTuple l1 xs) (hy : s.heap.IsTuple l2 ys)
    (q : ∀ h', IsZip h' (s.heap.objs.size + 4) (s.heap.objs.size + 2) (s.heap.objs.size + 3) .none → IsPair h' (s.heap.objs.size + 2) (.ref s.heap.objs.size) (.ref (s.heap.objs.size + 1)) →
      IsPair h' (s.heap.objs.size + 3) .none .none → h'.IsTupleIter s.heap.objs.size l1 0 → h'.IsTupleIter (s.heap.objs.size + 1) l2 0 → (∀ c o, s.heap.get? c = some o → h'.get? c = some o) → Q (.ref (s.heap.objs.size + 4)) { s with heap := h' }) :
    wpAny (model prog w) A (call (.type "zip") [.ref l1, .ref l2]) Q E s := by
  refine callType_new F.called_zip (by decide) (F.typeCall_zip_2 _ _) (F.newCall_zip_2 _ _) (fun o => F.args_object_init_3 o _ _) F.entry_zip_new (meets_zt l1 l2 xs ys) ⟨hx, hy, ?_⟩
  have at_ : ∀ {h : Heap} {o : Obj} {n : Nat}, h.objs.size = n → (f : o.isFreed = false := by rfl) → (h.push o).get? n = some o := fun e f => by
    subst e
    exact Heap.get?_push_size _ f
  have up : ∀ {h : Heap} {o o' : Obj} {c : Addr}, h.get? c = some o → (h.push o').get? c = some o := fun e => Heap.get?_push_of_some _ e
  have p4 := at_ (h := ((((s.heap.push { cls := .type "tuple_iterator", data := .fields #[.ref l1, .int 0 0] }).push { cls := .type "tuple_iterator", data := .fields #[.ref l2, .int 0 0] }).push { cls := .type "tuple", data := .seq #[.ref s.heap.objs.size, .ref (s.heap.objs.size + 1)] }).push { cls := .type "tuple", data := .seq #[.none, .none] })) (o := { cls := .type "zip", data := .fields #[.none, .bool false, .bool false, .ref (s.heap.objs.size + 2), .ref (s.heap.objs.size + 3)] }) (push_up (push_up (push_up (push_up rfl))))
  refine ⟨⟨_, p4, rfl⟩, q _ p4 (up (up (at_ (push_up (push_up rfl))))) (up (at_ (push_up (push_up (push_up rfl))))) ⟨_, up (up (up (up (at_ rfl)))), rfl, rfl⟩ ⟨_, up (up (up (at_ (push_up rfl)))), rfl, rfl⟩ fun c o e => up (up (up (up (up e))))⟩
end
end PySem
namespace L2
open PySem PySem.Spec PyProof.Rows
section
variable {X : Cx} {pins : List (Addr × Obj)} {σ : St} {H : Hp} {s : Shared} {h' : Heap}
/-- several untracked records of ours have turned -/
theorem Inv.turnedZT {t' : Nat} {ts : List Addr} (I : Inv X pins σ H s) (k : ∀ b o, b ∉ ts → s.heap.get? b = some o → h'.get? b = some o) (hf : ∀ b ∈ ts, FpOk X pins H b) : Inv X pins σ H { s with heap := h', toks := t' } := by
  have nit : ∀ b u, H b = some u → b ∉ ts := fun b u e z => by
    rw [(hf b z).1] at e
    cases e
  refine I.step (g' := s.gens) (d' := s.drawn) (ch := ts) (fun b hb => ?_) (fun b o _ _ hc e _ => k b o hc e) (fun b o _ _ hc e _ => ⟨o.slots, k b o hc e⟩) (fun _ _ _ _ n => n) (fun b o hc e => ⟨o, k b o hc e⟩) (fun _ _ e => e) (fun _ _ _ e => e) (fun b ps e => ⟨#[], by rw [e]; simp⟩) (fun m hm => ?_) (fun b u e => ?_) I.bare
  · obtain ⟨f0, f1, f2, f3, f4, f5⟩ := hf b hb
    exact ⟨f3, f1, f4, f5⟩
  · obtain ⟨o, es, ep, ho, r⟩ := hm
    exact ⟨o, es, ep, k _ o (fun z => (hf _ z).2.1 rfl) ho, r⟩
  · refine (I.hok b u e).stay (fun c v hc q => k c v ?_ q) (fun _ q => q) fun _ _ q => q
    rcases hc with z | z
    · rw [z]
      exact nit b u e
    · exact nit c _ z
end

def Itzt (K : PySem.W.Frag) (a b : Addr) : It :=
  ⟨fun i H => ∃ xs ys x y, SqT K H a xs ∧ SqT K H b ys ∧ xs[i]? = some x ∧ ys[i]? = some y, fun i H v H' => ∃ (t : Addr) (x y : V), v = .ref t ∧ H t = none ∧ (∀ xs, SqT K H a xs → xs[i]? = some x) ∧ (∀ ys, SqT K H b ys → ys[i]? = some y) ∧ H' = upd H t (.tup [x, y]), fun i H => ∃ xs ys, SqT K H a xs ∧ SqT K H b ys ∧ (xs.length ≤ i ∨ ys.length ≤ i)⟩
theorem turn_zipT {P : Program} {w : World} {K : PySem.W.Frag} {es : List Expr} {k : Nat} {pos : Pos} (a b z TI TO i1 i2 : Addr) (D : ZipApart z TI TO i1 i2 a b) :
    Turn P w K (.Tuple es k pos) (Itzt K a b) [z, TI, TO, i1, i2] z (fun i h => IsZip h z TI TO .none ∧ IsPair h TI (.ref i1) (.ref i2) ∧ (∃ p q, IsPair h TO p q) ∧ h.IsTupleIter i1 a i ∧ h.IsTupleIter i2 b i) where
  mem := by simp
  obj := fun i h st c hc => by
    obtain ⟨hz, hTI, ⟨p, q, hTO⟩, ⟨o1, g1, _, d1⟩, ⟨o2, g2, _, d2⟩⟩ := st
    simp only [List.mem_cons, List.not_mem_nil, or_false] at hc
    rcases hc with rfl | rfl | rfl | rfl | rfl
    · exact ⟨_, hz, fun v y => by cases (show Data.fields _ = Data.cell v from y)⟩
    · exact ⟨_, hTI, fun v y => by cases (show Data.seq _ _ = Data.cell v from y)⟩
    · exact ⟨_, hTO, fun v y => by cases (show Data.seq _ _ = Data.cell v from y)⟩
    · exact ⟨o1, g1, fun v y => by rw [d1] at y; cases y⟩
    · exact ⟨o2, g2, fun v y => by rw [d2] at y; cases y⟩
  keep := fun i h h' st k => by
    obtain ⟨hz, hTI, ⟨p, q, hTO⟩, h1, h2⟩ := st
    exact ⟨k z (by simp) _ hz, k TI (by simp) _ hTI, ⟨p, q, k TO (by simp) _ hTO⟩, h1.at fun o e => k i1 (by simp) o e, h2.at fun o e => k i2 (by simp) o e⟩
  item := by
    intro X hP hw hK hc i pins s σ H E I hf st hg
    subst hP hw hK
    obtain ⟨xs, ys, x, y, hqa, hqb, hx, hy⟩ := hg
    obtain ⟨ia, ra, pa, _⟩ := I.tuple hqa
    obtain ⟨ib, rb, pb, _⟩ := I.tuple hqb
    obtain ⟨u, hu, ru⟩ := ra.get hx
    obtain ⟨v, hv, rv⟩ := rb.get hy
    obtain ⟨hz, hTI, ⟨p, q, hTO⟩, h1, h2⟩ := st
    have hnew : H s.heap.objs.size = none := I.hok.fresh (Nat.le_refl _)
    refine pyNext_zt hz (ZTup.next ⟨D, hz, hTI, hTO, h1, h2, pa, pb⟩ (x := u) (y := v) (by simpa using hu) (by simpa using hv) fun h' ⟨a1, a2, a3, a4, a5, hk⟩ => ⟨_, rfl, ?_⟩)
    have ltz : s.heap.objs.size ≠ z := Nat.ne_of_gt (Heap.lt_size hz)
    refine ⟨_, rfl, wpAny_letOwnedTupleGo_zip a1 fun h2' hz2 sb => ?_⟩
    have kk : ∀ c o, c ∉ [z, TI, TO, i1, i2] → s.heap.get? c = some o → h2'.get? c = some o := fun c o hc g => by
      simp only [List.mem_cons, List.not_mem_nil, or_false, not_or] at hc
      exact (sb.2 c hc.1).trans (hk c o hc.1 hc.2.2.1 hc.2.2.2.1 hc.2.2.2.2 g)
    have I1 : Inv X pins σ H { s with heap := h2', toks := s.toks } := I.turnedZT kk hf
    have I2 : Inv X pins σ (upd H s.heap.objs.size (.tup [x, y])) { s with heap := h2', toks := s.toks } := by
      refine Inv.adopt I1 (I.fpOk (Nat.le_refl _) hnew) ⟨by show 2 ≤ sizeLine; decide, [u, v], .cons ru (.cons rv .nil), ?_⟩
      exact ⟨_, (sb.2 _ ltz).trans a5, rfl, _, rfl⟩
    refine ⟨.ref s.heap.objs.size, _, I2, rfl, ⟨_, x, y, rfl, hnew, fun zs hz => by rw [I.tuple_inj hz hqa]; exact hx, fun zs hz => by rw [I.tuple_inj hz hqb]; exact hy, rfl⟩,
      ⟨hz2, (sb.2 TI D.TIz).trans (hk TI _ D.TIz D.TITO D.TIi1 D.TIi2 hTI), ⟨u, v, (sb.2 TO D.TOz).trans a2⟩, a3.at fun o e => (sb.2 i1 D.i1z).trans e, a4.at fun o e => (sb.2 i2 D.i2z).trans e⟩, fun c hc => ?_⟩
    rw [upd_ne]
    · exact (hf c hc).1
    · rintro rfl
      have nl : ∀ {c : Addr} {o : Obj}, s.heap.get? c = some o → s.heap.objs.size ≠ c := fun e => Nat.ne_of_gt (Heap.lt_size e)
      obtain ⟨o1, g1, _⟩ := h1
      obtain ⟨o2, g2, _⟩ := h2
      simp only [List.mem_cons, List.not_mem_nil, or_false] at hc
      rcases hc with e | e | e | e | e
      · exact nl hz e
      · exact nl hTI e
      · exact nl hTO e
      · exact nl g1 e
      · exact nl g2 e
  done := by
    intro X hP hw hK hc i pins s σ H E I hf st hg
    subst hP hw hK
    obtain ⟨xs, ys, hqa, hqb, hx⟩ := hg
    obtain ⟨ia, ra, pa, _⟩ := I.tuple hqa
    obtain ⟨ib, rb, pb, _⟩ := I.tuple hqb
    obtain ⟨hz, hTI, ⟨p, q, hTO⟩, h1, h2⟩ := st
    have la := ra.length
    have lb := rb.length
    refine pyNext_zt hz (ZTup.stop (I.ok.hd hc) ⟨D, hz, hTI, hTO, h1, h2, pa, pb⟩ (hx.elim (fun h => .inl (by simp; omega)) fun h => .inr (by simp; omega)) fun h' e hk ⟨o, g, cl⟩ => ⟨⟨e, o, rfl, g, cl⟩, rfl, ?_⟩)
    refine I.turnedZT (t' := s.toks) (fun c o hc g => ?_) hf
    simp only [List.mem_cons, List.not_mem_nil, or_false, not_or] at hc
    exact hk c o hc.1 hc.2.2.1 hc.2.2.2.1 hc.2.2.2.2 g
  self := fun _ _ _ _ _ st h => wpAny_pyIter_zip st.1 h
section
variable {X : Cx} {es : List Expr} {k : Nat} {tpos : Pos}
def iZipT (K : PySem.W.Frag) (ta : TA) : TI := fun σ H R => ta σ H fun vs H1 => ∃ a b, vs = [.ref a, .ref b] ∧ (∃ xs, SqT K H1 a xs) ∧ (∃ ys, SqT K H1 b ys) ∧ R (Itzt K a b) H1
theorem pi_zipT {l m : Expr} {ta : TA} {p pos : Pos} (hg : Gl X "zip") (hm : X.mg "zip" = none) (ha : PA X [l, m] ta) (hs : starEach [l, m] X.env = (false, eval l X.env) :: starEach [m] X.env := by rfl) (hp : (backTo pos (starEach [m] X.env)).any (·.1) = false := by rfl) : PI X (.Tuple es k tpos) (.Call (.Name "zip" p) [l, m] [] pos) (iZipT X.K ta) := by
  intro pins s σ H R I h
  refine Call_ (ld_blt I hg hm boot_zip (PyProof.Rows.callWith_type1 (thn (ha pos pins s σ H _ I h) fun us s1 ⟨vs, H1, I1, r1, q1⟩ => ?_) hs hp))
  obtain ⟨a, b, e, ⟨xs, hqa⟩, ⟨ys, hqb⟩, q⟩ := q1
  subst e
  obtain ⟨u, v, rfl, ra, rb⟩ := vals2 r1
  cases ra
  cases rb
  obtain ⟨ia, _, pa, _⟩ := I1.tuple hqa
  obtain ⟨ib, _, pb, _⟩ := I1.tuple hqb
  have al : a < s1.heap.objs.size := by
    obtain ⟨_, e, _⟩ := pa
    exact Heap.lt_size e
  have bl : b < s1.heap.objs.size := by
    obtain ⟨_, e, _⟩ := pb
    exact Heap.lt_size e
  refine call_zt pa pb fun h' hz hTI hTO h1 h2 hk => ?_
  refine wpAny_pyIter_zip hz ?_
  have I2 : Inv X pins σ H1 { s1 with heap := h' } := I1.kept (t' := s1.toks) hk
  refine ⟨s1.heap.objs.size + 4, _, _, _, H1, rfl, I2, turn_zipT a b _ _ _ _ _ (zipApart_new al bl), ⟨hz, hTI, ⟨_, _, hTO⟩, h1, h2⟩, fun c hc => ?_, q⟩
  have up : ∀ n : Nat, FpOk X pins H1 (s1.heap.objs.size + n) := fun n => I1.fpOk (Nat.le_add_right _ n) (I1.hok.fresh (Nat.le_add_right _ n))
  simp only [List.mem_cons, List.not_mem_nil, or_false] at hc
  rcases hc with rfl | rfl | rfl | rfl | rfl
  · exact up 4
  · exact up 2
  · exact up 3
  · exact up 0
  · exact up 1
end
end L2

namespace L2
open PySem PySem.Spec PyProof.Rows
/-! list comprehensions whose target is two names -/
/-- as for one name: two are set at each turn -/
structure CompSc2 (osc : Scope) (N : List Str) (scope : Scope) (x x2 : Str) (caps : List (Nat × Str)) : Prop where
  kind : scope.kind = .function
  hx : scope.names.lookup x = some .local
  hy : scope.names.lookup x2 = some .local
  ncell : ∀ q ∈ scope.names, q.2 ≠ .cell
  nloc : ∀ q ∈ scope.names, q.2 = .local → scope.names.lookup q.1 = some .local
  free : ∀ q ∈ scope.names, q.2 = .free → osc.names.lookup q.1 = some .cell ∨ osc.names.lookup q.1 = some .free
  cap : ∀ p ∈ caps, N[p.1]? = some p.2 ∧ scope.names.lookup p.2 = some .free
  nd : (x :: x2 :: caps.map (·.2)).Nodup

def tCompW2 (K : PySem.W.Frag) (J : It) (cs : St) (tc : TT) (te : TE) (H1 : Hp) (Z : List V → Hp → Prop) : Prop :=
  ∃ W : Nat → Nat → List V → Hp → Prop, (∃ m, W 0 m [] H1) ∧ ∀ i m acc H, W i m acc H →
    (J.stop i H ∧ Z acc H) ∨ (J.go i H ∧ ∃ N : List V → Hp → Prop, (∀ a H', N a H' → ∃ m', m' < m ∧ W (i + 1) m' a H') ∧
      ∀ x H', J.yld i H x H' → ∃ (a : Addr) (u v : V), x = .ref a ∧ SqT K H' a [u, v] ∧ tc (some u :: some v :: cs) H' fun b H2 => if b = true then te (some u :: some v :: cs) H2 fun v H3 => acc.length < sizeLine ∧ N (acc ++ [v]) H3 else N acc H2)
def tComp2 (K : PySem.W.Frag) (wi : TI) (caps : List (Nat × Str)) (tc : TT) (te : TE) : TE := fun σ H Q => wi σ H fun J H1 => tCompW2 K J (capS caps σ) tc te H1 fun acc H2 => ∀ p, H2 p = none → Q (.ref p) (upd H2 p (.lst acc))
section
variable {prog : Program} {w : World} {A : Around} {R : Result → Shared → Prop} {s : Shared}
theorem compLoopT {elt target iter : Expr} {ifs : List Expr} {scope : Scope} {pos : Pos} {it acc : Value} {env : Env} (I : Nat → Shared → Prop)
    (turn : ∀ n s, I n s → wpAny (model prog w) A (pyNext it) (fun r s₁ => match r with
      | none => R (.ok .next) s₁
      | some v => wpAny (model prog w) A (letOwnedTupleGo target it v) (fun _ sg => wpAny (model prog w) A (assign target env v) (fun _ s₂ =>
          wpAny (model prog w) A (forIn ifs true fun c r => if r = true then do let ok ← isTrue c env (eval c env); pure (ForInStep.yield ok) else pure (ForInStep.yield r)) (fun ok s₃ =>
            if ok = true then wpAny (model prog w) A (eval elt env) (fun x s₄ =>
              wpAny (model prog w) A (call (.builtin "list.append") [acc, x]) (fun _ s₅ => ∃ m, m < n ∧ I m s₅) (notedBy (model prog w) A env fun e s' => R (.error e) s') s₄) (notedBy (model prog w) A env fun e s' => R (.error e) s') s₃
            else ∃ m, m < n ∧ I m s₃) (notedBy (model prog w) A env fun e s' => R (.error e) s') s₂) (notedBy (model prog w) A env fun e s' => R (.error e) s') sg) (notedBy (model prog w) A env fun e s' => R (.error e) s') s₁) (notedBy (model prog w) A env fun e s' => R (.error e) s') s)
    (n : Nat) (h : I n s) : codeAny (model prog w) A (.compLoop (.ListComp elt [⟨target, iter, ifs, 0⟩] scope pos) 0 it acc env) R s := by
  refine codeAny_loop rfl I (fun n s hI => ?_) n h
  show wpAny _ A ((compTurn (.ListComp elt [⟨target, iter, ifs, 0⟩] scope pos) 0 it acc env).onRaise (fun q => do noteFrame q env; theTreesLotGoes q)) _ _ s
  refine wpAny_noted ?_
  rw [compTurn_list]
  refine wpAny_bind (wpAny_standAt (wpAny_bind (wpAny_mono (turn n s hI) (fun r s₁ h₁ => ?_) fun _ _ q => q)))
  cases r with
  | none => exact wpAny_pure h₁
  | some v =>
    refine wpAny_bind (wpAny_mono h₁ (fun _ sg hg => wpAny_bind (wpAny_mono hg (fun _ s₂ h₂ => wpAny_bind (wpAny_mono h₂ (fun ok s₃ h₃ => ?_) fun _ _ q => q)) fun _ _ q => q)) fun _ _ q => q)
    cases ok with
    | false => exact wpAny_pure ⟨rfl, h₃⟩
    | true =>
      exact wpAny_bind (wpAny_bind (wpAny_mono h₃ (fun x s₄ h₄ => wpAny_bind (wpAny_mono h₄ (fun _ s₅ h₅ => wpAny_pure (wpAny_pure ⟨rfl, h₅⟩)) fun _ _ q => q)) fun _ _ q => q))
end
/-! the loop -/
theorem comp_loop2 {X : Cx} {elt iter : Expr} {x x2 : Str} {ns : List Str} {px px2 pt pos : Pos} {kt : Nat} {ifs : List Expr} {scope : Scope} {it D : Addr} {fp : List Addr} {tn : Nat → Heap → Prop} {J : It} {tc : TT} {te : TE} {Z : List V → Hp → Prop} {R : Result → Shared → Prop}
    {cs : St} {o o2 : Option V} {H : Hp} {s : Shared} (hc : X.calm = true) (hN : X.N = x :: x2 :: ns) (nd : X.N.Nodup) (hx : X.env.scope.names.lookup x = some .local) (hy : X.env.scope.names.lookup x2 = some .local) (I : Inv X [] (o :: o2 :: cs) H s) (T : Turn X.prog X.w X.K (.Tuple [.Name x px, .Name x2 px2] kt pt) J fp it tn) (st : tn 0 s.heap) (hf : ∀ b ∈ fp, FpOk X [] H b)
    (hD : FpOk X [] H D) (hDf : D ∉ fp) (pl : s.heap.PlainList D #[]) (hifs : PIfs X ifs tc) (helt : PE X elt te) (hW : tCompW2 X.K J cs tc te H Z) (hxe : X.xe = notedBy (model X.prog X.w) X.A X.env fun e s' => R (.error e) s')
    (hR : ∀ (s' : Shared) (H' : Hp) (acc : List V) (its : List Value) (o' o2' : Option V), Inv X [] (o' :: o2' :: cs) H' s' → s'.heap.PlainList D its.toArray → Vals acc its → acc.length ≤ sizeLine → H' D = none → Z acc H' → R (.ok .next) s') :
    codeAny (model X.prog X.w) X.A (.compLoop (.ListComp elt [⟨.Tuple [.Name x px, .Name x2 px2] kt pt, iter, ifs, 0⟩] scope pos) 0 (.ref it) (.ref D) X.env) R s := by
  obtain ⟨W, ⟨m0, w0⟩, turn⟩ := hW
  refine compLoopT (fun n s' => ∃ (i : Nat) (acc : List V) (its : List Value) (H' : Hp) (o' o2' : Option V), Inv X [] (o' :: o2' :: cs) H' s' ∧ tn i s'.heap ∧ (∀ b ∈ fp, H' b = none) ∧ H' D = none ∧ s'.heap.PlainList D its.toArray ∧ Vals acc its ∧ acc.length ≤ sizeLine ∧ W i n acc H') ?_ m0
    ⟨0, [], [], H, o, o2, I, st, fun b hb => (hf b hb).1, hD.1, pl, .nil, Nat.zero_le _, w0⟩
  rintro n s3 ⟨i, acc, its, H3, o3, p3, I3, st3, fr3, hD3, ⟨nD, gD⟩, va, hl, w3⟩
  rw [← hxe]
  -- the list is pinned through the turn
  have I4 : Inv X [(D, { cls := .type "list", data := .seq its.toArray nD })] (o3 :: p3 :: cs) H3 s3 := I3.pins_of fun p hp => by
    obtain rfl : p = (D, { cls := .type "list", data := .seq its.toArray nD }) := by simpa using hp
    exact ⟨gD, hD3, hD.2.1, hD.2.2.1, fun v z => by cases (show Data.seq its.toArray nD = Data.cell v from z)⟩
  have stat : ∀ {H' : Hp}, (∀ b ∈ fp, H' b = none) → ∀ b ∈ fp, FpOk X [(D, { cls := .type "list", data := .seq its.toArray nD })] H' b := fun hn b hb => by
    obtain ⟨_, f1, f2, f3, f4, f5⟩ := hf b hb
    refine ⟨hn b hb, f1, f2, f3, f4, fun p hp => ?_⟩
    rcases List.mem_append.mp hp with z | z
    · exact f5 p (List.mem_append_left _ z)
    · obtain rfl : p = (D, { cls := .type "list", data := .seq its.toArray nD }) := by simpa using z
      exact fun e => hDf (by rw [show D = b from e]; exact hb)
  rcases turn i n acc H3 w3 with ⟨stop, z⟩ | ⟨go, N, hNn, step⟩
  · refine thn (T.done X rfl rfl rfl hc i _ s3 (o3 :: p3 :: cs) H3 X.xe I4 (stat fr3) st3 stop) fun r s4 ⟨hr, I5⟩ => ?_
    subst hr
    exact hR s4 H3 acc its o3 p3 (I5.pins_of fun p hp => absurd hp (by simp)) ⟨nD, (I5.pin _ (List.mem_append_right _ (List.mem_singleton.mpr rfl))).1⟩ va hl hD3 z
  · refine thn (T.item X rfl rfl rfl hc i _ s3 (o3 :: p3 :: cs) H3 X.xe I4 (stat fr3) st3 go) fun r s4 ⟨u, hr, h4⟩ => ?_
    subst hr
    refine thn h4 fun _ s5 ⟨xv, H5, I5, r5, y5, st5, fr5⟩ => ?_
    have I5' := I5.pinned (stat fr5) (T.obj _ _ st5)
    obtain ⟨at1, u1, u2, ex, sq, hq⟩ := step xv H5 y5
    subst ex
    have gt : PG X (.Tuple [.Name x px, .Name x2 px2] kt pt) (gTup X.K 2 (gCons (gName 0) (gCons (gName 1) gNil))) := pg_tup hc (pgs_cons (pg_name (i := 0) nd (by rw [hN]; rfl) (.inl hx) (.inr hx)) (pgs_cons (pg_name (i := 1) nd (by rw [hN]; rfl) (.inl hy) (.inr hy)) pgs_nil))
    refine thn (gt _ s5 (o3 :: p3 :: cs) H5 (.ref at1) u (fun σ' H' => σ' = some u1 :: some u2 :: cs ∧ H' = H5) I5' r5 ⟨at1, [u1, u2], rfl, sq, rfl, u1, [u2], rfl, u2, [], rfl, rfl, rfl, rfl⟩) fun _ s6 ⟨σ6, H6, I6, e6, e7⟩ => ?_
    subst e6
    subst e7
    have I6' : Inv X ([(D, { cls := .type "list", data := .seq its.toArray nD })] ++ pinsAt fp s5.heap) (some u1 :: some u2 :: cs) H6 s6 := I6
    -- what stays of the iterator and of the list, at any later state of the turn
    have later : ∀ {σ' : St} {H' : Hp} {s' : Shared}, Inv X ([(D, { cls := .type "list", data := .seq its.toArray nD })] ++ pinsAt fp s5.heap) σ' H' s' →
        Inv X [] σ' H' s' ∧ tn (i + 1) s'.heap ∧ (∀ b ∈ fp, H' b = none) ∧ H' D = none ∧ s'.heap.get? D = some { cls := .type "list", data := .seq its.toArray nD } := fun {σ' H' s'} J' => by
      have pD := J'.pin (D, { cls := .type "list", data := .seq its.toArray nD }) (List.mem_append_right _ (List.mem_append_left _ (List.mem_singleton.mpr rfl)))
      refine ⟨J'.pins_of fun p hp => absurd hp (by simp), T.keep _ _ _ st5 fun b hb ob e => (J'.pin (b, ob) (List.mem_append_right _ (List.mem_append_right _ (mem_pinsAt hb e)))).1, fun b hb => ?_, pD.2.1, pD.1⟩
      obtain ⟨ob, e, _⟩ := T.obj _ _ st5 b hb
      exact (J'.pin (b, ob) (List.mem_append_right _ (List.mem_append_right _ (mem_pinsAt hb e)))).2.1
    refine thn (hifs _ s6 (some u1 :: some u2 :: cs) H6 _ I6' hq) fun b s7 ⟨H7, I7, q7⟩ => ?_
    cases b with
    | false =>
      obtain ⟨m', hm, w7⟩ : ∃ m', m' < n ∧ W (i + 1) m' acc H7 := hNn acc H7 q7
      obtain ⟨l1, l2, l3, l4, l5⟩ := later I7
      exact ⟨m', hm, i + 1, acc, its, H7, some u1, some u2, l1, l2, l3, l4, ⟨nD, l5⟩, va, hl, w7⟩
    | true =>
      have q7' : te (some u1 :: some u2 :: cs) H7 fun v H3 => acc.length < sizeLine ∧ N (acc ++ [v]) H3 := q7
      show wpAny _ _ (eval elt X.env) _ _ s7
      refine thn (helt _ s7 (some u1 :: some u2 :: cs) H7 _ I7 q7') fun u8 s8 ⟨v, H8, I8, r8, hlt, n8⟩ => ?_
      obtain ⟨m', hm, w8⟩ := hNn _ _ n8
      obtain ⟨l1, l2, l3, l4, l5⟩ := later I8
      have hlen := va.length
      refine wpAny_list_append_plain (hsz := by simp only [List.size_toArray]; omega) ⟨nD, l5⟩ fun h9 pl9 sb9 => ?_
      refine ⟨m', hm, i + 1, acc ++ [v], its ++ [u8], H8, some u1, some u2, l1.turned (t' := s8.toks) (fun b ob hb e => (sb9.2 b hb).trans e) l4 hD.2.1 hD.2.2.2.1 hD.2.2.2.2.1 hD.2.2.2.2.2, ?_, l3, l4, by simpa using pl9, va.append (.cons r8 .nil), ?_, w8⟩
      · exact T.keep _ _ _ l2 fun b hb ob e => (sb9.2 b (fun z => hDf (z ▸ hb))).trans e
      · rw [List.length_append, List.length_singleton]
        omega

/-! the block -/
section
variable {X : Cx} {elt iter : Expr} {x x2 : Str} {px px2 pt pos : Pos} {kt : Nat} {ifs : List Expr} {scope : Scope} {caps : List (Nat × Str)} {wi : TI} {tc : TT} {te : TE}
theorem comp_block2 {pins : List (Addr × Obj)} {σ : St} {H : Hp} {s : Shared} {E : Value → Shared → Prop} {it : Addr} {fp : List Addr} {tn : Nat → Heap → Prop} {J : It} {Z : List V → Hp → Prop} {RR : Value → Addr → Result → Shared → Prop}
    (hc : X.calm = true) (S : CompSc2 X.env.scope X.N scope x x2 caps) (I : Inv X pins σ H s) (T : Turn X.prog X.w X.K (.Tuple [.Name x px, .Name x2 px2] kt pt) J fp it tn) (st : tn 0 s.heap) (hf : ∀ b ∈ fp, FpOk X pins H b)
    (hifs : ∀ C s H ex pn E, PIfs (cxComp X (x :: x2 :: caps.map (·.2)) scope C s H ex pn E) ifs tc) (helt : ∀ C s H ex pn E, PE (cxComp X (x :: x2 :: caps.map (·.2)) scope C s H ex pn E) elt te)
    (hW : tCompW2 X.K J (capS caps σ) tc te H Z)
    (hRR : ∀ (s' : Shared) (H' : Hp) (acc : List V) (its : List Value) (D C : Addr) (m : Str → Option Value), Inv X pins σ H' s' → s'.heap.PlainList D its.toArray → Vals acc its → acc.length ≤ sizeLine → FpOk X pins H' D → FpOk X pins H' C → D ≠ C → s'.heap.Ns C m → Z acc H' → RR (.ref D) C (.ok .next) s') :
    wpAny (model X.prog X.w) X.A (newList []) (fun acc s₃ => wpAny (model X.prog X.w) X.A (newFunctionEnv scope X.env.globals (clOf X.env scope) [] X.env.qual none .none (some X.env)) (fun cenv s₄ =>
      codeAny (model X.prog X.w) X.A (.compStart (.ListComp elt [⟨.Tuple [.Name x px, .Name x2 px2] kt pt, iter, ifs, 0⟩] scope pos) 0 (.ref it) acc { cenv with scope := relabel scope X.env }) (RR acc cenv.locals) s₄) E s₃) E s := by
  refine wpAny_newObj_type (wpAny_newFunctionEnv S.ncell (by intro y hy; simp at hy) (fun h₁ hns₁ hsb₁ => ?_) S.kind)
  dsimp only at hns₁ hsb₁ ⊢
  have hI3 : Inv X pins σ H { s with heap := s.heap.push { cls := .type "list", dict := none, data := .seq ([] : List Value).toArray } } := I.kept (t' := s.toks) fun b u e => Heap.get?_push_of_some _ e
  have gD3 : (s.heap.push { cls := .type "list", dict := none, data := .seq ([] : List Value).toArray }).get? s.heap.objs.size = some { cls := .type "list", dict := none, data := .seq ([] : List Value).toArray } := Heap.get?_push_size _ rfl
  have hz3 : (s.heap.push { cls := .type "list", dict := none, data := .seq ([] : List Value).toArray }).objs.size = s.heap.objs.size + 1 := Heap.size_push _ _
  generalize hH3 : s.heap.push { cls := .type "list", dict := none, data := .seq ([] : List Value).toArray } = h3 at hns₁ hsb₁ hI3 gD3 hz3 ⊢
  have k3 : ∀ b u, s.heap.get? b = some u → h3.get? b = some u := fun b u e => hH3 ▸ Heap.get?_push_of_some _ e
  have k31 : ∀ b u, h3.get? b = some u → h₁.get? b = some u := fun b u e => (hsb₁.2 b (Nat.ne_of_lt (Heap.lt_size e))).trans (Heap.get?_push_of_some _ e)
  have k1 : ∀ b u, s.heap.get? b = some u → h₁.get? b = some u := fun b u e => k31 b u (k3 b u e)
  have hDC : s.heap.objs.size ≠ h3.objs.size := by rw [hz3]; exact Nat.ne_of_lt (Nat.lt_succ_self _)
  have fD : FpOk X pins H s.heap.objs.size := I.fpOk (Nat.le_refl _) (I.hok.fresh (Nat.le_refl _))
  have fC : FpOk X pins H h3.objs.size := I.fpOk (by rw [hz3]; exact Nat.le_succ _) (I.hok.fresh (by rw [hz3]; exact Nat.le_succ _))
  have lfp : ∀ b ∈ fp, b < s.heap.objs.size := fun b hb => let ⟨_, e, _⟩ := T.obj _ _ st b hb; Heap.lt_size e
  have hDf : s.heap.objs.size ∉ fp := fun z => Nat.lt_irrefl _ (lfp _ z)
  -- the closure's cells are cells around
  have hfree : ∀ y ∈ scope.names, y.2 = .free → ∃ c, X.env.cells.lookup y.1 = some c := fun y hy e => I.ok.has y.1 (S.free y hy e)
  obtain ⟨sub, has⟩ := clG_look scope.names [] hfree (fun y c e => by simp at e)
  have sub' : ∀ y c, (clOf X.env scope).lookup y = some c → X.env.cells.lookup y = some c := sub
  have has' : ∀ y, (y, NameKind.free) ∈ scope.names → ∃ c, (clOf X.env scope).lookup y = some c := fun y hy => Option.isSome_iff_exists.mp (has y (.inr hy))
  have inj : ∀ b ∈ s.heap.objs.size :: fp, FpOk X pins H b := fun b hb => (List.mem_cons.mp hb).elim (fun z => z ▸ fD) (hf b)
  have ltC : ∀ b ∈ s.heap.objs.size :: fp, b ≠ h3.objs.size := fun b hb => (List.mem_cons.mp hb).elim (fun z => z ▸ hDC) fun z => Nat.ne_of_lt (by rw [hz3]; exact Nat.lt_succ_of_lt (lfp b z))
  have I1 : Inv (cxComp X (x :: x2 :: caps.map (·.2)) scope h3.objs.size { s with heap := h3 } H (s.heap.objs.size :: fp) (X.pn ++ pins)
      (notedBy (model X.prog X.w) X.A (compEnvC scope (clOf X.env scope) h3.objs.size X.env) fun e s' => RR (.ref s.heap.objs.size) h3.objs.size (.error e) s')) [] (none :: none :: capS caps σ) H { s with heap := h₁, toks := s.toks + ([] : List (Str × Value)).length } := by
    refine ⟨⟨I.ok.mod, S.kind, I.ok.glob, I.ok.blt, Nat.le_refl _, fun y z c e1 e2 => I.ok.inj y z c (sub' _ _ e1) (sub' _ _ e2), fun y hy => has' y (free_of_relabel S.ncell hy), fun y c e => (nomatch e), I.ok.hd, I.ok.frames, .inl rfl, fun b hb => ⟨ltC b hb, fun y c e => (inj b hb).2.2.2.2.1 y c (sub' y c e)⟩,
        fun b ob e => ⟨k3 b ob (I.bs b ob e).1, (I.bs b ob e).2⟩, ?_, fun b ob e z => ?_, fun b hb => I.stkNo (inj b hb).2.1 (inj b hb).2.2.1, ?_, I.stkFree⟩,
      rfl, I.bare, Un.kept k31, ⟨_, hns₁, fun i y v e1 e2 e3 => ?_⟩, fun y c e => ?_, fC.1, fun y c e => I.freeC y c (sub' y c e), fun p hp => ?_, I.hok.kept k1, ?_⟩
    · exact Nat.le_trans I.ok.bsz (Nat.le_trans I.sz (by show s.heap.objs.size ≤ h3.objs.size; rw [hz3]; exact Nat.le_succ _))
    · rcases (inj b z).2.2.2.1 with w1 | w1
      · exact I.ok.noex b ob e w1
      · exact absurd (Nat.lt_of_lt_of_le (Heap.lt_size e) I.ok.bsz) (Nat.not_lt.mpr w1)
    · exact Heap.FunFrames.of_keeps (fun b ob e _ => ⟨ob, k3 b ob e, rfl⟩) I.stack
    · rcases i with _ | _ | i
      · cases e2
      · cases e2
      · have e1' : (caps.map (·.2))[i]? = some y := e1
        have e2' : (capS caps σ)[i]? = some (some v) := e2
        unfold capS at e2'
        rw [List.getElem?_map] at e1' e2'
        cases ep : caps[i]? with
        | none => rw [ep] at e1'; cases e1'
        | some p =>
          rw [ep] at e1' e2'
          obtain rfl : p.2 = y := Option.some.inj e1'
          have e2'' : (σ[p.1]?).getD none = some v := Option.some.inj e2'
          have hσ : σ[p.1]? = some (some v) := by
            cases es : σ[p.1]? with
            | none => rw [es] at e2''; cases e2''
            | some w1 => rw [es] at e2''; exact congrArg some e2''
          obtain ⟨cN, cF⟩ := S.cap p (List.mem_of_getElem? ep)
          have mF : (p.2, NameKind.free) ∈ scope.names := PySem.mem_of_lookup cF
          have oF := S.free _ mF rfl
          obtain ⟨m, hn, hlook⟩ := I.loc
          obtain ⟨u, ru, lk⟩ := hlook p.1 p.2 v cN hσ (.inr oF)
          refine ⟨u, ru, .inr ⟨?_, ?_⟩⟩
          · rcases e3 with z | z
            · exact absurd z (lookup_relabel_free cF)
            · exact z
          · obtain ⟨c, ec⟩ := has' p.2 mF
            refine ⟨c, ec, ?_⟩
            rcases lk with ⟨z, _⟩ | ⟨_, c', ec', ob, ho, hd⟩
            · have z' : X.env.scope.names.lookup p.2 = some .local := z
              rw [z'] at oF
              rcases oF with q | q <;> cases q
            · have ee := (sub' _ _ ec).symm.trans ec'
              cases ee
              exact ⟨ob, k1 _ _ ho, hd⟩
    · obtain ⟨v, ob, ho, hd⟩ := I.cell y c (sub' y c e)
      exact ⟨v, ob, k1 _ _ ho, hd⟩
    · have hp' : p ∈ X.pn ++ pins := by
        rcases List.mem_append.mp hp with z | z
        · exact z
        · exact absurd z (by simp)
      obtain ⟨e, n, ne, nf, d⟩ := I.pin p hp'
      refine ⟨k1 _ _ e, n, Nat.ne_of_lt ?_, I.stkNo ne nf, d⟩
      show p.1 < h3.objs.size
      rw [hz3]
      exact Nat.lt_succ_of_lt (Heap.lt_size e)
    · show (none :: none :: capS caps σ).length = (x :: x2 :: caps.map (·.2)).length
      simp [capS]
  have hf1 : ∀ b ∈ s.heap.objs.size :: fp, FpOk (cxComp X (x :: x2 :: caps.map (·.2)) scope h3.objs.size { s with heap := h3 } H (s.heap.objs.size :: fp) (X.pn ++ pins)
      (notedBy (model X.prog X.w) X.A (compEnvC scope (clOf X.env scope) h3.objs.size X.env) fun e s' => RR (.ref s.heap.objs.size) h3.objs.size (.error e) s')) [] H b := fun b hb => by
    obtain ⟨f0, f1, f2, f3, f4, f5⟩ := inj b hb
    refine ⟨f0, ltC b hb, I.stkNo f1 f2, .inl hb, fun y c e => f4 y c (sub' y c e), fun p hp => f5 p ?_⟩
    rcases List.mem_append.mp hp with z | z
    · exact z
    · exact absurd z (by simp)
  have st1 : tn 0 h₁ := T.keep _ _ _ st fun b _ ob e => k1 b ob e
  have loop : codeAny (model X.prog X.w) X.A (.compLoop (.ListComp elt [⟨.Tuple [.Name x px, .Name x2 px2] kt pt, iter, ifs, 0⟩] scope pos) 0 (.ref it) (.ref s.heap.objs.size) (compEnvC scope (clOf X.env scope) h3.objs.size X.env)) (RR (.ref s.heap.objs.size) h3.objs.size) { s with heap := h₁, toks := s.toks + ([] : List (Str × Value)).length } := by
    refine comp_loop2 (X := cxComp X (x :: x2 :: caps.map (·.2)) scope h3.objs.size { s with heap := h3 } H (s.heap.objs.size :: fp) (X.pn ++ pins) (notedBy (model X.prog X.w) X.A (compEnvC scope (clOf X.env scope) h3.objs.size X.env) fun e s' => RR (.ref s.heap.objs.size) h3.objs.size (.error e) s'))
      hc rfl S.nd (lookup_relabel_local S.hx) (lookup_relabel_local S.hy) I1 T st1 (fun b hb => hf1 b (List.mem_cons_of_mem _ hb)) (hf1 _ List.mem_cons_self) hDf ⟨0, k31 _ _ gD3⟩ (hifs _ _ _ _ _ _) (helt _ _ _ _ _ _) hW rfl ?_
    intro s' H' acc its o' o2' J1 plD va hlen nD z
    have u1 : Un (frs X.stack) (s.heap.objs.size :: fp) H H' h3 s'.heap := J1.base
    have J2 : Inv X pins σ H' s' := Inv.call' (s := { s with heap := h3 }) hI3 J1.os u1 J1.hok J1.bare fun b hb => by
      obtain ⟨_, f1, _, f3, f4, f5⟩ := inj b hb
      exact ⟨f3, f1, f4, f5⟩
    obtain ⟨m, hn, _⟩ := J1.loc
    exact hRR s' H' acc its _ _ m J2 plD va hlen ⟨nD, fD.2⟩ ⟨J1.free, fC.2⟩ hDC hn z
  exact codeAny_compStart_list loop (T.self _ 0 _ _ _ st1 loop)

theorem pe_comp2 (hc : X.calm = true) (S : CompSc2 X.env.scope X.N scope x x2 caps) (hi : PI X (.Tuple [.Name x px, .Name x2 px2] kt pt) iter wi)
    (hifs : ∀ C s H ex pn E, PIfs (cxComp X (x :: x2 :: caps.map (·.2)) scope C s H ex pn E) ifs tc) (helt : ∀ C s H ex pn E, PE (cxComp X (x :: x2 :: caps.map (·.2)) scope C s H ex pn E) elt te)
    (hs : ∀ x, foldedSetIterable iter X.env x = pure x := by intro _; rfl) : PE X (.ListComp elt [⟨.Tuple [.Name x px, .Name x2 px2] kt pt, iter, ifs, 0⟩] scope pos) (tComp2 X.K wi caps tc te) := by
  intro pins s σ H Q I h
  have hfree : ∀ y ∈ scope.names, y.2 = .free → ∃ c, X.env.cells.lookup y.1 = some c := fun y hy e => I.ok.has y.1 (S.free y hy e)
  rw [eval_ListComp]
  refine wpAny_comprehension_free (use := none) rfl hs (closure_eq hfree) S.kind S.nloc (thn (hi pins s σ H _ I h) fun v s1 h1 => thn h1 fun itv s2 h2 => ?_)
  obtain ⟨it, fp, tn, J, H2, e, I2, T, st2, f2, hW⟩ := h2
  subst e
  refine comp_block2 (RR := fun acc C => compPost (model X.prog X.w) X.A X.xe none (EP X pins σ Q) acc C) hc S I2 T st2 f2 hifs helt hW ?_
  intro s' H' acc its D C m J2 plD va hlen fD fC hDC hn z
  obtain ⟨nD, gD⟩ := plD
  refine ⟨m, hn, fun h'' sb => ?_⟩
  have J3 : Inv X pins σ H' { s' with heap := h'' } := J2.turned (t' := s'.toks) (fun b ob hb e => (sb.2 b hb).trans e) fC.1 fC.2.1 fC.2.2.2.1 fC.2.2.2.2.1 fC.2.2.2.2.2
  exact ⟨.ref D, upd H' D (.lst acc), J3.adopt fD ⟨hlen, its, nD, va, (sb.2 D hDC).trans gD⟩, rfl, z D fD.1⟩
end
end L2

namespace L2
open PySem
/-! comprehensions over a zip of tuples, over the numbered items of a tuple -/
theorem comp2_zipT {K : PySem.W.Frag} {a b : Addr} {xs ys : List V} {cs : St} {tc : TT} {te : TE} {H1 : Hp} {Z : List V → Hp → Prop} (Pv : Nat → List V → Hp → Prop) (h0 : Pv 0 [] H1) (hl : ∀ i acc H, Pv i acc H → SqT K H a xs ∧ SqT K H b ys) (ln : xs.length = ys.length)
    (hs : ∀ i x y acc H t, xs[i]? = some x → ys[i]? = some y → Pv i acc H → H t = none → tc (some x :: some y :: cs) (upd H t (.tup [x, y])) fun b H2 => if b = true then te (some x :: some y :: cs) H2 fun v H3 => acc.length < sizeLine ∧ Pv (i + 1) (acc ++ [v]) H3 else Pv (i + 1) acc H2)
    (hd : ∀ acc H, Pv xs.length acc H → Z acc H) : tCompW2 K (Itzt K a b) cs tc te H1 Z := by
  refine ⟨fun i m acc H => m + i = xs.length ∧ Pv i acc H, ⟨xs.length, rfl, h0⟩, ?_⟩
  rintro i m acc H ⟨hm, p⟩
  obtain ⟨qa, qb⟩ := hl i acc H p
  by_cases hlt : i < xs.length
  · refine .inr ⟨⟨xs, ys, xs[i], ys[i], qa, qb, by simp [hlt], by simp [show i < ys.length by omega]⟩, Pv (i + 1), fun ac H' p' => ⟨m - 1, by omega, by omega, p'⟩, fun v H' y => ?_⟩
    obtain ⟨t, x, y', rfl, ht, hx, hy, rfl⟩ := y
    exact ⟨t, x, y', rfl, SqT.of upd_same, hs i x y' acc H t (hx xs qa) (hy ys qb) p ht⟩
  · obtain rfl : i = xs.length := by omega
    exact .inl ⟨⟨xs, ys, qa, qb, .inl (Nat.le_refl _)⟩, hd acc H p⟩
theorem comp2_enumT {K : PySem.W.Frag} {a : Addr} {xs : List V} {cs : St} {tc : TT} {te : TE} {H1 : Hp} {Z : List V → Hp → Prop} (Pv : Nat → List V → Hp → Prop) (h0 : Pv 0 [] H1) (hl : ∀ i acc H, Pv i acc H → SqT K H a xs)
    (hs : ∀ i x acc H t, xs[i]? = some x → Pv i acc H → H t = none → tc (some (.int (i : Int)) :: some x :: cs) (upd H t (.tup [.int (i : Int), x])) fun b H2 => if b = true then te (some (.int (i : Int)) :: some x :: cs) H2 fun v H3 => acc.length < sizeLine ∧ Pv (i + 1) (acc ++ [v]) H3 else Pv (i + 1) acc H2)
    (hd : ∀ acc H, Pv xs.length acc H → Z acc H) : tCompW2 K (Ite K a) cs tc te H1 Z := by
  refine ⟨fun i m acc H => m + i = xs.length ∧ Pv i acc H, ⟨xs.length, rfl, h0⟩, ?_⟩
  rintro i m acc H ⟨hm, p⟩
  have qa := hl i acc H p
  by_cases hlt : i < xs.length
  · refine .inr ⟨⟨xs, xs[i], qa, by simp [hlt]⟩, Pv (i + 1), fun ac H' p' => ⟨m - 1, by omega, by omega, p'⟩, fun v H' y => ?_⟩
    obtain ⟨t, x, rfl, ht, hx, rfl⟩ := y
    exact ⟨t, _, x, rfl, SqT.of upd_same, hs i x acc H t (hx xs qa) p ht⟩
  · obtain rfl : i = xs.length := by omega
    exact .inl ⟨⟨xs, qa, Nat.le_refl _⟩, hd acc H p⟩
end L2

namespace PySem
open Sem (wp)
namespace Rv
/-! tuple(reversed(xs)): what the tuple's maker collects from a list's backward iterator -/
theorem noLen : typeLookup (.type "list_reverseiterator") "__len__" = pure none := by
  rw [typeLookup_type, builtinLookup_eq_fast]; kernel_rfl
theorem hasHint : typeLookup (.type "list_reverseiterator") "__length_hint__" = pure (some (.builtin "list_reverseiterator.__length_hint__")) := by
  rw [typeLookup_type, builtinLookup_eq_fast]; kernel_rfl
section
variable {prog : Program} {w : World} {A : Around} {E : Value → Shared → Prop} {s : Shared} {I : Addr} {fp wr : List Addr} {G : Array GenState → Array GenState → Prop} {n : Nat} {P : Nat → Value → Prop} {St : Nat → Shared → Prop}
end
end Rv
end PySem
namespace L2
open PySem PySem.Spec PyProof.Rows
section
variable {X : Cx}
theorem items_rev {its : List Value} {acc : Array Value} (h : ItemsOf (fun i v => its.toArray[its.toArray.size - 1 - i]? = some v) acc its.toArray.size) : acc.toList = its.reverse := by
  obtain ⟨h1, h2⟩ := h
  have h1' : acc.size = its.length := by rw [h1, List.size_toArray]
  apply List.ext_getElem?
  intro i
  by_cases hi : i < acc.size
  · have e : acc.toList[i]? = some acc[i] := by simp [hi]
    have q := h2 i acc[i] (by simp [hi])
    rw [List.size_toArray] at q
    rw [e, List.getElem?_reverse (by omega)]
    have q' : its[its.length - 1 - i]? = some acc[i] := by simpa using q
    exact q'.symm
  · have e1 : acc.toList[i]? = none := by simp; omega
    have e2 : its.reverse[i]? = none := by simp; omega
    rw [e1, e2]
/-- tuple(reversed(a)), a a list: the iterator between is nobody's -/
def tTR (K : PySem.W.Frag) (t : TA) : TE := fun σ H Q => t σ H fun vs H1 => ∃ (p : Addr) (ys : List V), vs = [.ref p] ∧ SqL K H1 p ys ∧ ∀ q, H1 q = none → Q (.ref q) (upd H1 q (.tup ys.reverse))
end
end L2

namespace PySem
open Sem (wp)
namespace Rv
/-! list(reversed(xs)) -/
section
variable {prog : Program} {w : World} {A : Around} {E : Value → Shared → Prop} {s : Shared} {R : Result → Shared → Prop} {I : Addr} {fp wr : List Addr} {G : Array GenState → Array GenState → Prop} {n : Nat} {P : Nat → Value → Prop} {St : Nat → Shared → Prop}
theorem extRev (W : WalksS prog w A.in1 I fp wr G n P St) (ty : ∀ i s, St i s → s.TypeIs (.ref I) "list_reverseiterator") (S : Addr) (res : Value) (c₀ : Nat) (hst : St 0 s) (hSf : S ∉ fp) (hI : I ∈ fp)
    (hS : s.heap.get? S = some { cls := .type "list", data := .seq #[] c₀ })
    (hR : ∀ s' acc' c', Moved (S :: wr) G s s' → s'.heap.get? S = some { cls := .type "list", dict := none, data := .seq acc' c', slots := #[] } → ItemsOf P acc' n → R (.ok (.ret res)) s') (hn : n ≤ sizeLine) :
    wpAny (model prog w) A.in1 (Builtin.List.listExtendWith (.ref S) (.ref I) res)
      (fun fin s' => match fin with | .done f => R (.ok f) s' | .again c' => c'.quiet = true ∧ codeAny (model prog w) A c' R s') (fun e s' => R (.error e) s') s := by
  have hSI : S ≠ I := fun e => hSf (e ▸ hI)
  unfold Builtin.List.listExtendWith
  refine wpAny_bind (wpAny_typeOf (ty 0 _ hst) ?_)
  have other : Builtin.List.listSameRef (.ref S) (.ref I) = false := by simp [Builtin.List.listSameRef, hSI]
  rw [if_neg (by rw [other]; decide)]
  refine wpAny_bind (W.self 0 _ _ _ hst ?_); refine wpAny_bind (wpAny_holding ?_); unfold Builtin.List.listLengthHint
  refine wpAny_bind (wpAny_specialOf (ty 0 _ hst) noLen ?_)
  show wpAny _ A.in1 (specialOf (Value.ref I) (Str.ofString "__length_hint__") >>= _) _ _ _; refine wpAny_bind (wpAny_specialOf (ty 0 _ hst) hasHint ?_)
  (generalize hid : ("list_reverseiterator.__length_hint__" : String) = id0; (fail_if_success (clear hid id0)); wp_delta; rw [show splitId id0 = some ("list_reverseiterator", "__length_hint__") from by subst hid; decide +kernel]; subst hid)
  refine wpAny_bind (wpAny_isInstance (b := true) (ty 0 _ hst) (by rw [isSubtype_type]; kernel_rfl) ?_); refine wpAny_pure ?_; rw [if_neg (by decide)]
  exact wpAny_pure ⟨plainId_quiet F.plain_extend_loop _, codeAny_extend_loopS W hn _ hSf _ n 0 _ _ _ rfl (Nat.zero_le _) hst hS (ItemsOf.nil P) fun s' acc' c' hm hS' hacc => hR s' acc' c' hm hS' hacc⟩
theorem initRev (W : WalksS prog w A.in1 I fp wr G n P St) (ty : ∀ i s, St i s → s.TypeIs (.ref I) "list_reverseiterator") (S : Addr) (hst : St 0 s) (hSf : S ∉ fp) (hI : I ∈ fp)
    (hS : s.heap.get? S = some { cls := .type "list", data := .seq #[] })
    (hR : ∀ s' acc' c', Moved (S :: wr) G s s' → s'.heap.get? S = some { cls := .type "list", dict := none, data := .seq acc' c', slots := #[] } → ItemsOf P acc' n → R (.ok (.ret .none)) s') (hn : n ≤ sizeLine) :
    wpAny (model prog w) A.in1 (Builtin.«list.__init__» ⟨[.ref S, .ref I], []⟩)
      (fun fin s' => match fin with | .done f => R (.ok f) s' | .again c' => c'.quiet = true ∧ codeAny (model prog w) A c' R s') (fun e s' => R (.error e) s') s := by
  show wpAny _ A.in1 (do let old ← Builtin.List.listItems (.ref S); Builtin.List.listUpdate (.ref S) (fun _ => #[]); letGo old.toList.reverse; Builtin.List.listExtendWith (.ref S) (.ref I) .none) _ _ s
  refine wpAny_bind ?_
  unfold Builtin.List.listItems
  refine wpAny_bind (wpAny_seqItems hS rfl (wpAny_pure ?_))
  show wpAny _ A.in1 (updateSeq S (fun _ => #[]) >>= fun _ => letGo (#[] : Array Value).toList.reverse >>= fun _ => Builtin.List.listExtendWith (.ref S) (.ref I) .none) _ _ s
  refine wpAny_bind (wpAny_updateSeq hS rfl ?_)
  have hS₂ := Heap.get?_update_self (Obj.mapSeq (fun _ => (#[] : Array Value))) hS rfl
  have oth : ∀ b o, b ≠ S → s.heap.get? b = some o → (s.heap.update S (Obj.mapSeq (fun _ => (#[] : Array Value)))).get? b = some o :=
    fun b o hb e => (Heap.get?_update_other _ _ (Ne.symm hb)).trans e
  refine wpAny_bind (wpAny_letGo ?_)
  refine extRev (hn := hn) W ty S .none _ (W.frame 0 s _ s.toks hst (Nat.le_refl _) fun b hb o e => oth b o (fun h => hSf (h ▸ hb)) e) hSf hI hS₂ fun s' acc' c' hm hS' hacc => ?_
  exact hR s' acc' c' (Moved.trans W.gtrans ((Moved.refl W.grefl).then_heap (Nat.le_refl _) fun b o hb e => oth b o (fun h => hb (h ▸ List.mem_cons_self)) e) hm) hS' hacc
theorem callListRev {Q : Value → Shared → Prop} (W : WalksS prog w A.in1.in1 I fp wr G n P St) (ty : ∀ i s, St i s → s.TypeIs (.ref I) "list_reverseiterator") (hst : St 0 s) (hfp : ∀ b ∈ fp, b < s.heap.objs.size) (hI : I ∈ fp)
    (hQ : ∀ s' acc' c', Moved (s.heap.objs.size :: wr) G { s with heap := s.heap.push { cls := .type "list", data := .seq #[] } } s' →
      s'.heap.get? s.heap.objs.size = some { cls := .type "list", dict := none, data := .seq acc' c', slots := #[] } → ItemsOf P acc' n → Q (.ref s.heap.objs.size) s') (hn : n ≤ sizeLine) :
    wpAny (model prog w) A (call (.type "list") [.ref I]) Q E s := by
  have hSf : s.heap.objs.size ∉ fp := fun hm => Nat.lt_irrefl _ (hfp _ hm)
  refine callType_codes (Q₁ := fun obj s₁ => obj = .ref s.heap.objs.size ∧ s₁ = { s with heap := s.heap.push { cls := .type "list", data := .seq #[] } }) F.called_list (F.typeCall_list_1 _) F.entry_list_init
    (code_list_new _ ⟨rfl, rfl⟩) fun obj s₁ h₁ => ?_
  obtain ⟨rfl, rfl⟩ := h₁
  have hS : (s.heap.push { cls := .type "list", data := .seq #[] }).get? s.heap.objs.size = some { cls := .type "list", data := .seq #[] } := Heap.get?_push_size _ rfl
  refine ⟨⟨_, hS, rfl⟩, F.args_list_init_2 _ _, initRev (hn := hn) W ty _ (W.frame 0 s _ s.toks hst (Nat.le_refl _) fun b _ o e => Heap.get?_push_of_some _ e) hSf hI hS fun s' acc' c' hm hS' hacc => ?_⟩
  exact ⟨rfl, hQ s' acc' c' hm hS' hacc⟩
end
end Rv
end PySem
namespace L2
open PySem PySem.Spec PyProof.Rows
section
variable {X : Cx}
/-- list(reversed(a)), a a list: the iterator between is nobody's -/
def tLR (K : PySem.W.Frag) (t : TA) : TE := fun σ H Q => t σ H fun vs H1 => ∃ (p : Addr) (ys : List V), vs = [.ref p] ∧ SqL K H1 p ys ∧ ∀ q, H1 q = none → Q (.ref q) (upd H1 q (.lst ys.reverse))
theorem pe_listRev {a : Expr} {t : TA} {p1 p2 pos pos2 : Pos} (hc : X.calm = true) (hg : Gl X "list") (hm : X.mg "list" = none) (hg2 : Gl X "reversed") (hm2 : X.mg "reversed" = none) (ha : PA X [a] t)
    (he : starEach [a] X.env = [(false, eval a X.env)] := by rfl) (he2 : starEach [.Call (.Name "reversed" p2) [a] [] pos2] X.env = [(false, eval (.Call (.Name "reversed" p2) [a] [] pos2) X.env)] := by rfl) :
    PE X (.Call (.Name "list" p1) [.Call (.Name "reversed" p2) [a] [] pos2] [] pos) (tLR X.K t) := by
  intro pins s σ H Q I h
  refine wpAny_Call_Name_kw (ld_blt I hg hm PyProof.Rows.boot_list ?_)
  refine PyProof.Rows.callWith_type1 ?_ he2 rfl
  rw [he2]
  show wpAny _ _ (spliced ((false, eval (.Call (.Name "reversed" p2) [a] [] pos2) X.env) :: [])) _ _ s
  refine Calls.spliced_cons ?_
  refine wpAny_Call_Name_kw (ld_blt I hg2 hm2 PyProof.Rows.boot_reversed ?_)
  refine PyProof.Rows.callWith_type1 (thn (ha pos2 pins s σ H _ I h) fun us s1 ⟨vs, H1, I1, r1, q1⟩ => ?_) he rfl
  obtain ⟨p, ys, rfl, hq, q⟩ := q1
  obtain ⟨u, rfl, rx⟩ := vals1 r1
  cases rx
  obtain ⟨its, rv, pl, hz⟩ := I1.list hq
  have hlen := rv.length
  have hP : p < s1.heap.objs.size := by
    obtain ⟨o, ho, _⟩ := pl.isList
    exact Heap.lt_size ho
  have hsz : its.toArray.size = its.length := List.size_toArray
  refine call_reversed_list pl.isList (Calls.spliced_nil ?_)
  have I2 : Inv X pins σ H1 { s1 with heap := s1.heap.push (revObj p ((its.toArray.size : Int) - 1)) } := I1.kept (t' := s1.toks) fun b o e => Heap.get?_push_of_some _ e
  have fI : FpOk X pins H1 s1.heap.objs.size := I1.fpOk (Nat.le_refl _) (I1.hok.fresh (Nat.le_refl _))
  have z2 : (s1.heap.push (revObj p ((its.toArray.size : Int) - 1))).objs.size = s1.heap.objs.size + 1 := Heap.size_push _ _
  refine Rv.callListRev (Walks.listRev (prog := X.prog) (w := X.w) (A := X.A.in1.in1) (I.ok.hd hc) s1.heap.objs.size p (Nat.ne_of_lt hP) its.toArray).toS (fun i s' x => x.2.1.typeIs) ⟨Nat.zero_le _, ⟨_, Heap.get?_push_size _ rfl, rfl, ?_⟩, pl.isList.at fun o e => Heap.get?_push_of_some _ e⟩ (fun b hb => ?_) (by simp) (fun s' acc c' hmv hat hacc => ?_) (by rw [hsz, ← hlen]; exact hz)
  · show Data.fields #[.ref p, rawInt ((its.toArray.size : Int) - 1)] = Data.fields #[.ref p, rawInt ((its.toArray.size : Int) - 1 - ((0 : Nat) : Int))]
    rw [show ((its.toArray.size : Int) - 1 - ((0 : Nat) : Int)) = (its.toArray.size : Int) - 1 by omega]
  · show b < (s1.heap.push (revObj p ((its.toArray.size : Int) - 1))).objs.size
    rw [z2]
    rcases List.mem_cons.mp hb with rfl | hb
    · exact Nat.lt_succ_self _
    · rw [List.mem_singleton.mp hb]
      exact Nat.lt_succ_of_lt hP
  have e1 : s'.gens = s1.gens := hmv.gens
  have e2 : s'.drawn = s1.drawn := hmv.drawn
  have e3 : s'.os = s1.os := hmv.os
  have hk : ∀ b ob, s1.heap.get? b = some ob → s'.heap.get? b = some ob := fun b ob e => by
    have lb := Heap.lt_size e
    refine hmv.heap b ob (fun z => ?_) (Heap.get?_push_of_some _ (Heap.get?_push_of_some _ e))
    have z' : b = (s1.heap.push (revObj p ((its.toArray.size : Int) - 1))).objs.size ∨ b = s1.heap.objs.size := by simpa using z
    rcases z' with z' | z'
    · rw [z', z2] at lb
      exact absurd lb (Nat.not_lt.mpr (Nat.le_succ _))
    · rw [z'] at lb
      exact absurd lb (Nat.lt_irrefl _)
  have ea := items_rev hacc
  obtain ⟨h', g', d', tk', os'⟩ := s'
  have e1' : g' = s1.gens := e1
  have e2' : d' = s1.drawn := e2
  have e3' : os' = s1.os := e3
  subst e1' e2' e3'
  have eb : acc = its.reverse.toArray := by rw [← ea]
  subst eb
  refine ⟨.ref _, _, I1.laid (h' := h') (t' := tk') (o := .lst ys.reverse) hk (by show s1.heap.objs.size ≤ (s1.heap.push _).objs.size; rw [z2]; exact Nat.le_succ _) ⟨by rw [List.length_reverse]; exact hz, its.reverse, c', Vals.reverse rv, hat⟩, rfl, q _ (I1.hok.fresh (by show s1.heap.objs.size ≤ (s1.heap.push _).objs.size; rw [z2]; exact Nat.le_succ _))⟩
/-- xs.insert(i, y), i a place in the list -/
def rInsAt : V → List V → Hp → VK → Prop := fun x vs H Q => ∃ l xs y, ∃ i : Int, x = .ref l ∧ vs = [.int i, y] ∧ H l = some (.lst xs) ∧ xs.length ≤ 1000 ∧ 0 ≤ i ∧ i ≤ (xs.length : Int) ∧ Q .non (upd H l (.lst (xs.take i.toNat ++ y :: xs.drop i.toNat)))
end
end L2

namespace Tr
/-! rooms by their depths: parents, kids, the chain of rooms above; plain mathematics -/
def parGo (ds : List Int) (d : Int) : Nat → Option Nat
  | 0 => none
  | j + 1 => if ds.getD j 0 < d then some j else parGo ds d j
def par (ds : List Int) (k : Nat) : Option Nat := parGo ds (ds.getD k 0) k
theorem parGo_some {ds : List Int} {d : Int} : ∀ {k j : Nat}, j < k → ds.getD j 0 < d → (∀ i, j < i → i < k → d ≤ ds.getD i 0) → parGo ds d k = some j
  | 0, j, h, _, _ => by omega
  | k + 1, j, h, hd, ha => by
    unfold parGo
    by_cases e : j = k
    · subst e
      rw [if_pos hd]
    · have := ha k (by omega) (by omega)
      rw [if_neg (by omega)]
      exact parGo_some (by omega) hd fun i h1 h2 => ha i h1 (by omega)
theorem parGo_none {ds : List Int} {d : Int} : ∀ {k : Nat}, (∀ i, i < k → d ≤ ds.getD i 0) → parGo ds d k = none
  | 0, _ => rfl
  | k + 1, h => by
    unfold parGo
    have := h k (by omega)
    rw [if_neg (by omega)]
    exact parGo_none fun i hi => h i (by omega)
theorem parGo_lt {ds : List Int} {d : Int} : ∀ {k j : Nat}, parGo ds d k = some j → j < k ∧ ds.getD j 0 < d ∧ ∀ i, j < i → i < k → d ≤ ds.getD i 0
  | 0, j, h => by cases h
  | k + 1, j, h => by
    unfold parGo at h
    split at h
    · cases h
      exact ⟨by omega, by assumption, fun i h1 h2 => by omega⟩
    · rename_i hn
      obtain ⟨a, b, c⟩ := parGo_lt h
      refine ⟨by omega, b, fun i h1 h2 => ?_⟩
      by_cases e : i = k
      · subst e
        omega
      · exact c i h1 (by omega)
theorem par_lt {ds : List Int} {k j : Nat} (h : par ds k = some j) : j < k := (parGo_lt h).1
/-- the depths as they may stand -/
structure Good (ds : List Int) : Prop where
  pos : 0 < ds.length
  first : ds.getD 0 0 = 0
  next : ∀ k, k + 1 < ds.length → 1 ≤ ds.getD (k + 1) 0 ∧ ds.getD (k + 1) 0 ≤ ds.getD k 0 + 1
theorem Good.nonneg {ds : List Int} (g : Good ds) : ∀ k, k < ds.length → 0 ≤ ds.getD k 0
  | 0, _ => by rw [g.first]; exact Int.le_refl _
  | k + 1, h => by have := g.next k h; omega
theorem Good.le_ix {ds : List Int} (g : Good ds) : ∀ k, k < ds.length → ds.getD k 0 ≤ (k : Int)
  | 0, _ => by rw [g.first]; exact Int.le_refl _
  | k + 1, h => by
    have := g.next k h
    have := g.le_ix k (by omega)
    omega
theorem Good.snoc {ds : List Int} {v : Int} (g : Good ds) (h1 : 1 ≤ v) (h2 : v ≤ ds.getD (ds.length - 1) 0 + 1) : Good (ds ++ [v]) := by
  have hp := g.pos
  have old : ∀ k, k < ds.length → (ds ++ [v]).getD k 0 = ds.getD k 0 := fun k hk => by
    rw [List.getD_eq_getElem?_getD, List.getD_eq_getElem?_getD, List.getElem?_append_left hk]
  have new : (ds ++ [v]).getD ds.length 0 = v := by
    rw [List.getD_eq_getElem?_getD, List.getElem?_append_right (Nat.le_refl _)]
    simp
  refine ⟨by simp, by rw [old 0 hp]; exact g.first, fun k hk => ?_⟩
  rw [List.length_append, List.length_singleton] at hk
  by_cases e : k + 1 < ds.length
  · rw [old _ e, old k (by omega)]
    exact g.next k e
  · have e' : k + 1 = ds.length := by omega
    rw [old k (by omega), e', new, show k = ds.length - 1 by omega]
    exact ⟨h1, h2⟩
theorem Good.one : Good [0] := ⟨by decide, rfl, fun k h => by simp at h⟩
/-- what stands above, a row of rooms each the parent of the next; behind room k -/
structure Above (ds : List Int) (k : Nat) (s : List Nat) : Prop where
  len : (s.length : Int) = ds.getD k 0 + 1
  top : s[(ds.getD k 0).toNat]? = some k
  le : ∀ (i v : Nat), s[i]? = some v → v ≤ k ∧ ds.getD v 0 = (i : Int) ∧ ∀ j, v < j → j ≤ k → (i : Int) < ds.getD j 0
theorem Above.zero {ds : List Int} (g : Good ds) : Above ds 0 [0] := by
  refine ⟨by rw [g.first]; rfl, by rw [g.first]; rfl, fun i v h => ?_⟩
  cases i with
  | zero =>
    simp at h
    subst h
    exact ⟨Nat.le_refl _, by rw [g.first]; rfl, fun j h1 h2 => by omega⟩
  | succ i => simp at h
theorem Above.next {ds : List Int} {k : Nat} {s : List Nat} (g : Good ds) (h : k + 1 < ds.length) (a : Above ds k s) : Above ds (k + 1) (s.take (ds.getD (k + 1) 0).toNat ++ [k + 1]) := by
  obtain ⟨n1, n2⟩ := g.next k h
  have n0 := g.nonneg k (by omega)
  have hl := a.len
  have ht : (s.take (ds.getD (k + 1) 0).toNat).length = (ds.getD (k + 1) 0).toNat := by
    rw [List.length_take]
    omega
  refine ⟨?_, ?_, fun i v hv => ?_⟩
  · rw [List.length_append, ht, List.length_singleton]
    omega
  · rw [List.getElem?_append_right (by omega), ht]
    simp
  · by_cases hi : i < (ds.getD (k + 1) 0).toNat
    · rw [List.getElem?_append_left (by omega), List.getElem?_take_of_lt hi] at hv
      obtain ⟨a1, a2, a3⟩ := a.le i v hv
      refine ⟨by omega, a2, fun j h1 h2 => ?_⟩
      by_cases e : j = k + 1
      · subst e
        omega
      · exact a3 j h1 (by omega)
    · rw [List.getElem?_append_right (by omega), ht] at hv
      have e : i - (ds.getD (k + 1) 0).toNat = 0 := by
        by_cases z : i - (ds.getD (k + 1) 0).toNat = 0
        · exact z
        · rw [List.getElem?_eq_none (by rw [List.length_singleton]; omega)] at hv
          cases hv
      rw [e] at hv
      simp at hv
      subst hv
      exact ⟨Nat.le_refl _, by omega, fun j h1 h2 => by omega⟩
theorem Above.par {ds : List Int} {k : Nat} {s : List Nat} (g : Good ds) (hk : k < ds.length) (a : Above ds k s) : par ds k = if 1 < s.length then s[s.length - 2]? else none := by
  have hl := a.len
  have n0 := g.nonneg k hk
  by_cases h : 1 < s.length
  · rw [if_pos h, List.getElem?_eq_getElem (by omega)]
    obtain ⟨a1, a2, a3⟩ := a.le (s.length - 2) s[s.length - 2] (List.getElem?_eq_getElem (by omega))
    have e : ds.getD k 0 = ((s.length - 2 : Nat) : Int) + 1 := by omega
    refine parGo_some ?_ (by omega) fun i h1 h2 => ?_
    · by_cases z : s[s.length - 2] = k
      · rw [z] at a2
        omega
      · omega
    · have := a3 i h1 (by omega)
      omega
  · rw [if_neg h]
    refine parGo_none fun i hi => ?_
    have e : ds.getD k 0 = 0 := by omega
    have := g.nonneg i (by omega)
    omega
/-- the rooms whose parent this is -/
def kidsTo (ds : List Int) (r n : Nat) : List Nat := (List.range n).filter fun j => par ds j == some r
def kids (ds : List Int) (r : Nat) : List Nat := kidsTo ds r ds.length
theorem kidsTo_succ (ds : List Int) (r n : Nat) : kidsTo ds r (n + 1) = kidsTo ds r n ++ if par ds n == some r then [n] else [] := by
  unfold kidsTo
  rw [List.range_succ, List.filter_append]
  congr 1
  rw [List.filter_cons]
  simp
theorem kidsTo_len (ds : List Int) (r n : Nat) : (kidsTo ds r n).length ≤ n := by
  unfold kidsTo
  refine Nat.le_trans (List.length_filter_le _ _) ?_
  simp
/-! the chain of rooms above a room -/
def upF (ds : List Int) : Nat → Nat → List Nat
  | 0, _ => []
  | f + 1, k => match par ds k with
    | none => []
    | some j => j :: upF ds f j
def ups (ds : List Int) (k : Nat) : List Nat := upF ds k k
theorem upF_more (ds : List Int) : ∀ (f k : Nat), k ≤ f → upF ds f k = upF ds k k
  | f, 0, _ => by
    cases f with
    | zero => rfl
    | succ f => rfl
  | 0, k + 1, h => by omega
  | f + 1, k + 1, h => by
    show (match par ds (k + 1) with | none => [] | some j => j :: upF ds f j) = (match par ds (k + 1) with | none => [] | some j => j :: upF ds k j)
    cases e : par ds (k + 1) with
    | none => rfl
    | some j =>
      have hj := par_lt e
      show j :: upF ds f j = j :: upF ds k j
      rw [upF_more ds f j (by omega), upF_more ds k j (by omega)]
theorem ups_none {ds : List Int} {k : Nat} (h : par ds k = none) : ups ds k = [] := by
  unfold ups
  cases k with
  | zero => rfl
  | succ k =>
    show (match par ds (k + 1) with | none => [] | some j => j :: upF ds k j) = []
    rw [h]
theorem ups_some {ds : List Int} {k j : Nat} (h : par ds k = some j) : ups ds k = j :: ups ds j := by
  have hj := par_lt h
  unfold ups
  cases k with
  | zero => omega
  | succ k =>
    show (match par ds (k + 1) with | none => [] | some j => j :: upF ds k j) = _
    rw [h]
    show j :: upF ds k j = _
    rw [upF_more ds k j (by omega)]
theorem ups_lt {ds : List Int} : ∀ {k v : Nat}, v ∈ ups ds k → v < k := by
  intro k
  induction k using Nat.strongRecOn with
  | ind k ih =>
    intro v hv
    cases e : par ds k with
    | none =>
      rw [ups_none e] at hv
      cases hv
    | some j =>
      have hj := par_lt e
      rw [ups_some e] at hv
      rcases List.mem_cons.mp hv with rfl | h
      · exact hj
      · have := ih j hj h
        omega
/-- the deepest room of a sort in which both lie -/
def hall (ds : List Int) (isOne : Nat → Bool) (a b : Nat) : Option Nat := (ups ds a).find? fun x => (ups ds b).contains x && isOne x
/-- a room lies in another one -/
def liesIn (ds : List Int) (a b : Nat) : Bool := (ups ds a).contains b
theorem liesIn_none {ds : List Int} {a b : Nat} (h : par ds a = none) : liesIn ds a b = false := by
  unfold liesIn
  rw [ups_none h]
  rfl
theorem liesIn_some {ds : List Int} {a b j : Nat} (h : par ds a = some j) : liesIn ds a b = (j == b || liesIn ds j b) := by
  unfold liesIn
  rw [ups_some h, List.contains_cons]
  congr 1
  exact Bool.eq_iff_iff.mpr ⟨fun z => by simpa using (eq_of_beq z).symm, fun z => by simpa using (eq_of_beq z).symm⟩
end Tr

namespace Tr
/-! where the rooms that lie in a room end -/
structure EndOf (ds : List Int) (k e : Nat) : Prop where
  lt : k < e
  le : e ≤ ds.length
  ins : ∀ j, k < j → j < e → ds.getD k 0 < ds.getD j 0
  out : e < ds.length → ds.getD e 0 ≤ ds.getD k 0
theorem parGo_no {ds : List Int} {d : Int} : ∀ {k : Nat}, parGo ds d k = none → ∀ i, i < k → d ≤ ds.getD i 0
  | 0, _, i, h => by omega
  | k + 1, e, i, h => by
    unfold parGo at e
    split at e
    · cases e
    · rename_i hn
      by_cases q : i = k
      · subst q
        omega
      · exact parGo_no e i (by omega)
theorem par_iff {ds : List Int} {k j : Nat} : par ds j = some k ↔ k < j ∧ ds.getD k 0 < ds.getD j 0 ∧ ∀ i, k < i → i < j → ds.getD j 0 ≤ ds.getD i 0 :=
  ⟨fun h => parGo_lt h, fun ⟨a, b, c⟩ => parGo_some a b c⟩
theorem mem_ups {ds : List Int} : ∀ (a b : Nat), b ∈ ups ds a ↔ b < a ∧ ∀ j, b < j → j ≤ a → ds.getD b 0 < ds.getD j 0 := by
  intro a
  induction a using Nat.strongRecOn with
  | ind a ih =>
    intro b
    cases e : par ds a with
    | none =>
      rw [ups_none e]
      refine ⟨fun z => (by cases z), fun ⟨h1, h2⟩ => ?_⟩
      have := parGo_no e b h1
      have := h2 a h1 (Nat.le_refl _)
      omega
    | some p =>
      obtain ⟨hp, hd, ha⟩ := par_iff.mp e
      rw [ups_some e, List.mem_cons, ih p hp b]
      constructor
      · rintro (rfl | ⟨h1, h2⟩)
        · refine ⟨hp, fun j j1 j2 => ?_⟩
          by_cases q : j = a
          · rw [q]
            exact hd
          · have := ha j j1 (by omega)
            omega
        · refine ⟨by omega, fun j j1 j2 => ?_⟩
          by_cases q : j ≤ p
          · exact h2 j j1 q
          · have z := h2 p h1 (Nat.le_refl _)
            by_cases q2 : j = a
            · rw [q2]
              omega
            · have := ha j (by omega) (by omega)
              omega
      · rintro ⟨h1, h2⟩
        by_cases q : b = p
        · exact .inl q
        · right
          have z := h2 a h1 (Nat.le_refl _)
          by_cases q2 : p < b
          · have := ha b q2 h1
            omega
          · exact ⟨by omega, fun j j1 j2 => h2 j j1 (by omega)⟩
theorem lies_end {ds : List Int} {a b e : Nat} (h : EndOf ds b e) (ha : a < ds.length) : liesIn ds a b = (decide (b < a) && decide (a < e)) := by
  unfold liesIn
  rw [Bool.eq_iff_iff, List.contains_iff_mem, mem_ups, Bool.and_eq_true, decide_eq_true_iff, decide_eq_true_iff]
  constructor
  · rintro ⟨h1, h2⟩
    refine ⟨h1, ?_⟩
    by_cases q : a < e
    · exact q
    · have := h2 e h.lt (by omega)
      have := h.out (by omega)
      omega
  · rintro ⟨h1, h2⟩
    exact ⟨h1, fun j j1 j2 => h.ins j j1 (by omega)⟩
theorem par_end {ds : List Int} (g : Good ds) {j k e : Nat} (h : EndOf ds k e) (hj : j < ds.length) : (par ds j = some k) ↔ (k < j ∧ j < e ∧ ds.getD j 0 = ds.getD k 0 + 1) := by
  rw [par_iff]
  constructor
  · rintro ⟨h1, h2, h3⟩
    refine ⟨h1, ?_, ?_⟩
    · by_cases q : j < e
      · exact q
      · have := h.out (by have := h.lt; omega)
        by_cases q2 : j = e
        · subst q2
          omega
        · have := h3 e h.lt (by omega)
          omega
    · have n := g.next k (by omega)
      by_cases q : j = k + 1
      · subst q
        omega
      · have := h3 (k + 1) (by omega) (by omega)
        omega
  · rintro ⟨h1, h2, h3⟩
    refine ⟨h1, by omega, fun i i1 i2 => ?_⟩
    have := h.ins i i1 (by omega)
    omega
theorem kidsTo_low (ds : List Int) (k : Nat) : ∀ n, n ≤ k + 1 → kidsTo ds k n = []
  | 0, _ => rfl
  | n + 1, h => by
    rw [kidsTo_succ, kidsTo_low ds k n (by omega), if_neg]
    · rfl
    · intro z
      have := par_lt (eq_of_beq z)
      omega
theorem kidsTo_high {ds : List Int} (g : Good ds) {k e : Nat} (h : EndOf ds k e) : ∀ n, e + n ≤ ds.length → kidsTo ds k (e + n) = kidsTo ds k e
  | 0, _ => rfl
  | n + 1, hn => by
    rw [show e + (n + 1) = (e + n) + 1 by omega, kidsTo_succ, kidsTo_high g h n (by omega), if_neg, List.append_nil]
    intro z
    have := (par_end g h (by omega)).mp (eq_of_beq z)
    omega
theorem kids_end {ds : List Int} (g : Good ds) {k e : Nat} (h : EndOf ds k e) : kids ds k = kidsTo ds k e := by
  have q := kidsTo_high g h (ds.length - e) (by have := h.le; omega)
  rw [show e + (ds.length - e) = ds.length by have := h.le; omega] at q
  exact q
end Tr

namespace Tr
/-! goings in: plain mathematics -/
def bears (ds : List Int) (gs : List Nat) (k : Nat) : Bool := gs.any fun g => g == k || liesIn ds g k
def next (ds : List Int) (al : Nat → Bool) (gs : List Nat) (p : Nat) : List Nat :=
  if al p = true then kids ds p else match (kids ds p).find? (bears ds gs) with
    | some k => [k]
    | none => (kids ds p).take 1
inductive Gone (ds : List Int) (al : Nat → Bool) (gs : List Nat) (un : Option Nat) : Nat → Prop where
  | top : un = none → Gone ds al gs un 0
  | root {p k : Nat} : k ∈ next ds al gs p → un = some p → Gone ds al gs un k
  | low {p k : Nat} : k ∈ next ds al gs p → Gone ds al gs un p → Gone ds al gs un k
theorem Gone.kid {ds : List Int} {al : Nat → Bool} {gs : List Nat} {un : Option Nat} {p k : Nat} (h : k ∈ next ds al gs p) (h' : un = some p ∨ Gone ds al gs un p) : Gone ds al gs un k := by
  rcases h' with e | g
  · exact .root h e
  · exact .low h g
theorem mem_kids {ds : List Int} {r k : Nat} : k ∈ kids ds r ↔ k < ds.length ∧ par ds k = some r := by
  unfold kids kidsTo
  rw [List.mem_filter, List.mem_range]
  exact ⟨fun ⟨a, b⟩ => ⟨a, eq_of_beq b⟩, fun ⟨a, b⟩ => ⟨a, by rw [b]; exact beq_self_eq_true _⟩⟩
theorem kids_rise (ds : List Int) (p : Nat) : (kids ds p).Pairwise (· < ·) := by
  unfold kids kidsTo
  exact List.pairwise_lt_range.filter _
theorem next_sub {ds : List Int} {al : Nat → Bool} {gs : List Nat} {p k : Nat} (h : k ∈ next ds al gs p) : k ∈ kids ds p := by
  unfold next at h
  split at h
  · exact h
  · split at h
    · rename_i k' e
      rw [List.mem_singleton.mp h]
      exact List.mem_of_find?_eq_some e
    · exact List.mem_of_mem_take h
theorem next_par {ds : List Int} {al : Nat → Bool} {gs : List Nat} {p k : Nat} (h : k ∈ next ds al gs p) : par ds k = some p := (mem_kids.mp (next_sub h)).2
theorem next_lt {ds : List Int} {al : Nat → Bool} {gs : List Nat} {p k : Nat} (h : k ∈ next ds al gs p) : k < ds.length := (mem_kids.mp (next_sub h)).1
theorem next_rise (ds : List Int) (al : Nat → Bool) (gs : List Nat) (p : Nat) : (next ds al gs p).Pairwise (· < ·) := by
  unfold next
  split
  · exact kids_rise ds p
  · split
    · exact List.pairwise_singleton _ _
    · exact (kids_rise ds p).sublist (List.take_sublist _ _)
theorem Gone.lt {ds : List Int} {al : Nat → Bool} {gs : List Nat} {un : Option Nat} {k : Nat} (pos : 0 < ds.length) (h : Gone ds al gs un k) : k < ds.length := by
  cases h with
  | top => exact pos
  | root h _ => exact next_lt h
  | low h _ => exact next_lt h
theorem Gone.over {ds : List Int} {al : Nat → Bool} {gs : List Nat} {un : Option Nat} {k : Nat} (h : Gone ds al gs un k) : ∀ u, un = some u → u < k := by
  induction h with
  | top e => intro u e'; rw [e] at e'; cases e'
  | root h hp =>
    intro u e
    rw [e] at hp
    cases hp
    exact par_lt (next_par h)
  | low h _ ih =>
    intro u e
    have := par_lt (next_par h)
    have := ih u e
    omega
/-- of a room that has a parent -/
theorem Gone.iff {ds : List Int} {al : Nat → Bool} {gs : List Nat} {un : Option Nat} {k p : Nat} (h : par ds k = some p) : Gone ds al gs un k ↔ k ∈ next ds al gs p ∧ (un = some p ∨ Gone ds al gs un p) := by
  constructor
  · intro g
    cases g with
    | top => cases h
    | root hk hp =>
      have e := next_par hk
      rw [h] at e
      cases e
      exact ⟨hk, .inl hp⟩
    | low hk hp =>
      have e := next_par hk
      rw [h] at e
      cases e
      exact ⟨hk, .inr hp⟩
  · rintro ⟨a, b⟩
    exact .kid a b
theorem Good.par_some {ds : List Int} (g : Good ds) {k : Nat} (h0 : 0 < k) (h : k < ds.length) : ∃ p, par ds k = some p := by
  cases e : par ds k with
  | some p => exact ⟨p, rfl⟩
  | none =>
    have a := parGo_no e 0 h0
    rw [g.first] at a
    have b := g.next (k - 1) (by omega)
    rw [show k - 1 + 1 = k by omega] at b
    omega
/-! the row of rooms ahead -/
structure Work (ds : List Int) (al : Nat → Bool) (gs : List Nat) (un : Option Nat) (gone ahead : List Nat) : Prop where
  nd : (gone ++ ahead).Nodup
  ok : ∀ x ∈ gone ++ ahead, Gone ds al gs un x
  fr : ∀ x ∈ gone ++ ahead, par ds x = un ∨ ∃ g ∈ gone, par ds x = some g
  st : un = none → 0 ∈ gone ++ ahead
  su : ∀ u, un = some u → ∀ x ∈ next ds al gs u, x ∈ gone ++ ahead
  cl : ∀ g ∈ gone, ∀ x ∈ next ds al gs g, x ∈ gone ++ ahead
theorem nodup_rise {l : List Nat} (h : l.Pairwise (· < ·)) : l.Nodup := h.imp fun z => Nat.ne_of_lt z
theorem Work.none (ds : List Int) (al : Nat → Bool) (gs : List Nat) : Work ds al gs none [] [0] :=
  ⟨by simp, fun x hx => by rw [List.mem_singleton.mp hx]; exact .top rfl, fun x hx => by rw [List.mem_singleton.mp hx]; exact .inl rfl, fun _ => List.mem_singleton.mpr rfl, fun u e => (by cases e), fun g hg => (by cases hg)⟩
theorem Work.some (ds : List Int) (al : Nat → Bool) (gs : List Nat) (u : Nat) : Work ds al gs (some u) [] (next ds al gs u) :=
  ⟨nodup_rise (next_rise ds al gs u), fun x hx => .kid hx (.inl rfl), fun x hx => .inl (next_par hx), fun e => (by cases e), fun v e x hx => by cases e; exact hx, fun g hg => (by cases hg)⟩
theorem Work.step {ds : List Int} {al : Nat → Bool} {gs : List Nat} {un : Option Nat} {gone a : List Nat} {r : Nat} (w : Work ds al gs un gone (a ++ [r])) : Work ds al gs un (gone ++ [r]) (a ++ next ds al gs r) := by
  have gr : Gone ds al gs un r := w.ok r (by simp)
  have sub : ∀ x, x ∈ gone ++ (a ++ [r]) → x ∈ (gone ++ [r]) ++ (a ++ next ds al gs r) := fun x hx => by
    simp only [List.mem_append, List.mem_singleton] at hx ⊢
    rcases hx with h | h | h
    · exact .inl (.inl h)
    · exact .inr (.inl h)
    · exact .inl (.inr h)
  have nr : r ∉ gone := fun z => by
    have := (List.nodup_append.mp w.nd).2.2 r z r (by simp)
    exact this rfl
  have new : ∀ x ∈ next ds al gs r, x ∉ gone ++ (a ++ [r]) := fun x hx z => by
    have e := next_par hx
    rcases w.fr x z with h | ⟨g, hg, h⟩
    · rw [e] at h
      exact absurd (gr.over r h.symm) (Nat.lt_irrefl _)
    · rw [e] at h
      cases h
      exact nr hg
  have p1 : ((gone ++ [r]) ++ (a ++ next ds al gs r)).Perm ((gone ++ (a ++ [r])) ++ next ds al gs r) := by
    rw [List.append_assoc, List.append_assoc]
    refine List.Perm.append_left gone ?_
    rw [← List.append_assoc]
    refine List.Perm.append_right _ ?_
    exact List.perm_append_comm
  refine ⟨?_, fun x hx => ?_, fun x hx => ?_, fun e => sub _ (w.st e), fun u e x hx => sub _ (w.su u e x hx), fun g hg x hx => ?_⟩
  · refine p1.nodup_iff.mpr (List.nodup_append.mpr ⟨w.nd, nodup_rise (next_rise ds al gs r), fun x hx y hy e => ?_⟩)
    subst e
    exact new x hy hx
  · rcases List.mem_append.mp (p1.mem_iff.mp hx) with h | h
    · exact w.ok x h
    · exact .kid h (.inr gr)
  · rcases List.mem_append.mp (p1.mem_iff.mp hx) with h | h
    · rcases w.fr x h with h | ⟨g, hg, h⟩
      · exact .inl h
      · exact .inr ⟨g, List.mem_append_left _ hg, h⟩
    · exact .inr ⟨r, by simp, next_par h⟩
  · rcases List.mem_append.mp hg with h | h
    · exact sub _ (w.cl g h x hx)
    · rw [List.mem_singleton.mp h] at hx
      simp [hx]
theorem Work.done {ds : List Int} {al : Nat → Bool} {gs : List Nat} {un : Option Nat} {gone : List Nat} (w : Work ds al gs un gone []) (k : Nat) : k ∈ gone ↔ Gone ds al gs un k := by
  constructor
  · intro h
    exact w.ok k (by simpa using h)
  · intro h
    induction h with
    | top e => simpa using w.st e
    | root hk hp => simpa using w.su _ hp _ hk
    | low hk _ ih => simpa using w.cl _ ih _ hk
theorem nodup_lt : ∀ (n : Nat) (l : List Nat), l.Nodup → (∀ k ∈ l, k < n) → l.length ≤ n
  | 0, l, _, h => by
    cases l with
    | nil => exact Nat.le_refl _
    | cons x l => exact absurd (h x List.mem_cons_self) (Nat.not_lt_zero _)
  | n + 1, l, hd, h => by
    have e := nodup_lt n (l.filter (· ≠ n)) (hd.filter _) fun k hk => by
      obtain ⟨a, b⟩ := List.mem_filter.mp hk
      have := h k a
      have : k ≠ n := by simpa using b
      omega
    have : l.length ≤ (l.filter (· ≠ n)).length + 1 := by
      clear e h
      induction l with
      | nil => exact Nat.zero_le _
      | cons x l ih =>
        obtain ⟨h1, h2⟩ := List.nodup_cons.mp hd
        by_cases c : x = n
        · subst c
          have : l.filter (· ≠ x) = l := by
            rw [List.filter_eq_self]
            intro a ha
            have : a ≠ x := fun z => h1 (z ▸ ha)
            simpa using this
          rw [List.filter_cons, if_neg (by simp), this]
          exact Nat.le_refl _
        · rw [List.filter_cons, if_pos (by simpa using c), List.length_cons, List.length_cons]
          have := ih h2
          omega
    omega
theorem Work.len {ds : List Int} {al : Nat → Bool} {gs : List Nat} {un : Option Nat} {gone ahead : List Nat} (pos : 0 < ds.length) (w : Work ds al gs un gone ahead) : gone.length + ahead.length ≤ ds.length := by
  rw [← List.length_append]
  exact nodup_lt _ _ w.nd fun k hk => (w.ok k hk).lt pos
/-- what is gone into, rising -/
def Ins (ds : List Int) (al : Nat → Bool) (gs : List Nat) (un : Option Nat) (os : List Nat) : Prop := os.Pairwise (· < ·) ∧ ∀ k, k ∈ os ↔ Gone ds al gs un k
theorem Ins.unique {ds : List Int} {al : Nat → Bool} {gs : List Nat} {un : Option Nat} {a b : List Nat} (h1 : Ins ds al gs un a) (h2 : Ins ds al gs un b) : a = b :=
  L2.rise_unique a b h1.1 h2.1 fun k => (h1.2 k).trans (h2.2 k).symm
theorem Ins.lt {ds : List Int} {al : Nat → Bool} {gs : List Nat} {un : Option Nat} {os : List Nat} (pos : 0 < ds.length) (h : Ins ds al gs un os) : ∀ o ∈ os, o < ds.length := fun o ho => ((h.2 o).mp ho).lt pos
theorem Ins.len {ds : List Int} {al : Nat → Bool} {gs : List Nat} {un : Option Nat} {os : List Nat} (pos : 0 < ds.length) (h : Ins ds al gs un os) : os.length ≤ ds.length := nodup_lt _ _ (nodup_rise h.1) (h.lt pos)
/-- the kid that is gone into in a room of the kind one -/
def pick (ds : List Int) (gs : List Nat) (p : Nat) : Nat := match (kids ds p).find? (bears ds gs) with
  | some k => k
  | none => (kids ds p).headD 0
theorem next_one {ds : List Int} {al : Nat → Bool} {gs : List Nat} {p k : Nat} (h : al p = false) (hk : k ∈ kids ds p) : next ds al gs p = [pick ds gs p] := by
  unfold next pick
  rw [if_neg (by rw [h]; exact Bool.false_ne_true)]
  cases e : (kids ds p).find? (bears ds gs) with
  | some j => rfl
  | none =>
    show (kids ds p).take 1 = [(kids ds p).headD 0]
    cases e2 : kids ds p with
    | nil => rw [e2] at hk; cases hk
    | cons x l => rfl
theorem next_all {ds : List Int} {al : Nat → Bool} {gs : List Nat} {p : Nat} (h : al p = true) : next ds al gs p = kids ds p := by
  unfold next
  rw [if_pos h]
/-! full openings -/
def want (ds : List Int) (on al : Nat → Bool) (os : List Nat) (r : Nat) : Nat := if (decide (r ∈ os) && al r) = true then (kids ds r).length else if (decide (r ∈ os) && on r) = true then 1 else 0
def openKids (ds : List Int) (os : List Nat) (r : Nat) : List Nat := (kids ds r).filter fun k => decide (k ∈ os)
def FullB (ds : List Int) (on al : Nat → Bool) (os : List Nat) : Prop := os.Pairwise (· < ·) ∧ (∀ r, r < ds.length → (openKids ds os r).length = want ds on al os r) ∧ 0 ∈ os
theorem mem_open {ds : List Int} {os : List Nat} {r k : Nat} : k ∈ openKids ds os r ↔ k ∈ kids ds r ∧ k ∈ os := by
  unfold openKids
  rw [List.mem_filter, decide_eq_true_iff]
/-- a full opening holds the parents of its rooms -/
theorem FullB.up {ds : List Int} {on al : Nat → Bool} {os : List Nat} (f : FullB ds on al os) (lt : ∀ o ∈ os, o < ds.length) {k p : Nat} (hk : k ∈ os) (h : par ds k = some p) : p ∈ os := by
  have hl := lt k hk
  have hp := par_lt h
  have c := f.2.1 p (by omega)
  have m : k ∈ openKids ds os p := mem_open.mpr ⟨mem_kids.mpr ⟨hl, h⟩, hk⟩
  have pos : 0 < (openKids ds os p).length := List.length_pos_of_mem m
  rw [c] at pos
  unfold want at pos
  by_cases q : p ∈ os
  · exact q
  · rw [decide_eq_false q, Bool.false_and, Bool.false_and, if_neg Bool.false_ne_true, if_neg Bool.false_ne_true] at pos
    exact absurd pos (Nat.lt_irrefl _)
theorem FullB.ups {ds : List Int} {on al : Nat → Bool} {os : List Nat} (f : FullB ds on al os) (lt : ∀ o ∈ os, o < ds.length) : ∀ (k : Nat), k ∈ os → ∀ x, x ∈ ups ds k → x ∈ os := by
  intro k
  induction k using Nat.strongRecOn with
  | ind k ih =>
    intro hk x hx
    cases e : par ds k with
    | none =>
      rw [ups_none e] at hx
      cases hx
    | some p =>
      rw [ups_some e] at hx
      have hp := f.up lt hk e
      rcases List.mem_cons.mp hx with rfl | h
      · exact hp
      · exact ih p (par_lt e) hp x h
theorem FullB.bears {ds : List Int} {on al : Nat → Bool} {os : List Nat} (f : FullB ds on al os) (lt : ∀ o ∈ os, o < ds.length) (k : Nat) : bears ds os k = decide (k ∈ os) := by
  rw [Bool.eq_iff_iff, decide_eq_true_iff]
  unfold Tr.bears
  rw [List.any_eq_true]
  constructor
  · rintro ⟨g, hg, e⟩
    rw [Bool.or_eq_true] at e
    rcases e with e | e
    · rw [← eq_of_beq e]
      exact hg
    · unfold liesIn at e
      exact f.ups lt g hg k (List.contains_iff_mem.mp e)
  · intro h
    exact ⟨k, h, by rw [beq_self_eq_true, Bool.true_or]⟩
theorem find_filter {f : Nat → Bool} : ∀ (l : List Nat), l.find? f = (l.filter f).head?
  | [] => rfl
  | x :: l => by
    rw [List.find?_cons, List.filter_cons]
    cases e : f x with
    | true => simp
    | false => simpa using find_filter l
/-- beneath an open room of a full opening -/
theorem FullB.next {ds : List Int} {on al : Nat → Bool} {os : List Nat} (f : FullB ds on al os) (lt : ∀ o ∈ os, o < ds.length) {p : Nat} (hp : p ∈ os) (ha : al p = true ∨ on p = true) : next ds al os p = openKids ds os p := by
  have c := f.2.1 p (lt p hp)
  unfold want at c
  rw [decide_eq_true hp, Bool.true_and, Bool.true_and] at c
  cases e : al p with
  | true =>
    rw [e, if_pos rfl] at c
    rw [next_all e]
    unfold openKids at c ⊢
    exact (List.filter_eq_self.mpr (List.length_filter_eq_length_iff.mp c)).symm
  | false =>
    have o : on p = true := by
      rcases ha with h | h
      · rw [e] at h
        cases h
      · exact h
    rw [e, if_neg Bool.false_ne_true, o, if_pos rfl] at c
    unfold Tr.next
    rw [if_neg (by rw [e]; exact Bool.false_ne_true), find_filter]
    have eq : (kids ds p).filter (Tr.bears ds os) = openKids ds os p := by
      unfold openKids
      congr 1
      funext k
      exact f.bears lt k
    rw [eq]
    match openKids ds os p, c with
    | [x], _ => rfl
theorem full_ins {ds : List Int} (g : Good ds) {on al : Nat → Bool} {os : List Nat} (lt : ∀ o ∈ os, o < ds.length) (fit : ∀ k p, k < ds.length → par ds k = some p → (al p = true ∨ on p = true)) (hon : ∀ p, on p = true → kids ds p ≠ []) : FullB ds on al os ↔ Ins ds al os none os := by
  constructor
  · intro f
    refine ⟨f.1, fun k => ?_⟩
    induction k using Nat.strongRecOn with
    | ind k ih =>
      by_cases k0 : k = 0
      · subst k0
        exact ⟨fun _ => .top rfl, fun _ => f.2.2⟩
      by_cases kl : k < ds.length
      · obtain ⟨p, hp⟩ := g.par_some (by omega : 0 < k) kl
        have pl := par_lt hp
        rw [Gone.iff hp]
        constructor
        · intro hk
          have po := f.up lt hk hp
          refine ⟨?_, .inr ((ih p pl).mp po)⟩
          rw [f.next lt po (fit k p kl hp)]
          exact mem_open.mpr ⟨mem_kids.mpr ⟨kl, hp⟩, hk⟩
        · rintro ⟨h1, h2 | h2⟩
          · cases h2
          · have po := (ih p pl).mpr h2
            rw [f.next lt po (fit k p kl hp)] at h1
            exact (mem_open.mp h1).2
      · exact ⟨fun h => absurd (lt k h) kl, fun h => absurd (h.lt g.pos) kl⟩
  · rintro ⟨h1, h2⟩
    refine ⟨h1, fun r hr => ?_, (h2 0).mpr (.top rfl)⟩
    have mo : ∀ k, k ∈ openKids ds os r ↔ (k ∈ Tr.next ds al os r ∧ r ∈ os) := fun k => by
      rw [mem_open, h2 k, h2 r]
      constructor
      · rintro ⟨a, b⟩
        have e := (mem_kids.mp a).2
        rw [Gone.iff e] at b
        rcases b with ⟨b1, b2 | b2⟩
        · cases b2
        · exact ⟨b1, b2⟩
      · rintro ⟨a, b⟩
        exact ⟨next_sub a, .kid a (.inr b)⟩
    unfold want
    by_cases ro : r ∈ os
    · have eq : openKids ds os r = Tr.next ds al os r := by
        refine L2.rise_unique _ _ ?_ (next_rise _ _ _ _) fun k => by rw [mo k]; exact ⟨fun h => h.1, fun h => ⟨h, ro⟩⟩
        unfold openKids
        exact (kids_rise ds r).filter _
      rw [decide_eq_true ro, Bool.true_and, Bool.true_and, eq]
      cases e : al r with
      | true => rw [if_pos rfl, next_all e]
      | false =>
        rw [if_neg Bool.false_ne_true]
        cases hk : kids ds r with
        | nil =>
          have nn : Tr.next ds al os r = [] := by
            cases e2 : Tr.next ds al os r with
            | nil => rfl
            | cons x l =>
              have : x ∈ kids ds r := next_sub (al := al) (gs := os) (by rw [e2]; exact List.mem_cons_self)
              rw [hk] at this
              cases this
          rw [nn]
          cases e3 : on r with
          | false => rfl
          | true => exact absurd hk (hon r e3)
        | cons x l =>
          have hx' : x ∈ kids ds r := by rw [hk]; exact List.mem_cons_self
          rw [next_one e hx']
          rcases fit x r (mem_kids.mp hx').1 (mem_kids.mp hx').2 with h | h
          · rw [e] at h
            cases h
          · rw [h]
            rfl
    · have eq : openKids ds os r = [] := by
        cases e2 : openKids ds os r with
        | nil => rfl
        | cons x l =>
          have := (mo x).mp (by rw [e2]; exact List.mem_cons_self)
          exact absurd this.2 ro
      rw [eq, decide_eq_false ro, Bool.false_and, Bool.false_and, if_neg Bool.false_ne_true, if_neg Bool.false_ne_true]
      rfl
end Tr

namespace Tr
/-! an opening that is made room by room; out and in -/
/-- whether a room lies in the one that is gone out of; in all of them from outside -/
def under (ds : List Int) (k : Nat) : Option Nat → Bool
  | none => true
  | some u => liesIn ds k u
theorem under_kid {ds : List Int} {un : Option Nat} {k p : Nat} (h : par ds k = some p) (hu : un = some p ∨ under ds p un = true) : under ds k un = true := by
  cases un with
  | none => rfl
  | some u =>
    show liesIn ds k u = true
    rw [liesIn_some h, Bool.or_eq_true]
    rcases hu with e | e
    · injection e with e
      left
      rw [e]
      exact beq_self_eq_true _
    · exact .inr e
theorem Gone.under {ds : List Int} {al : Nat → Bool} {gs : List Nat} {un : Option Nat} {k : Nat} (h : Gone ds al gs un k) : under ds k un = true := by
  induction h with
  | top e =>
    subst e
    rfl
  | root hk hp => exact under_kid (next_par hk) (.inl hp)
  | low hk _ ih => exact under_kid (next_par hk) (.inr ih)
end Tr

namespace Tr
/-! the open kid is the least of the open rooms that lie in its parent -/
theorem lies_kid {ds : List Int} {r : Nat} : ∀ (x : Nat), liesIn ds x r = true → ∃ c, par ds c = some r ∧ (c = x ∨ c ∈ ups ds x) := by
  intro x
  induction x using Nat.strongRecOn with
  | ind x ih =>
    intro h
    cases e : par ds x with
    | none =>
      rw [liesIn_none e] at h
      cases h
    | some j =>
      rw [liesIn_some e, Bool.or_eq_true] at h
      rcases h with h | h
      · rw [eq_of_beq h] at e
        exact ⟨x, e, .inl rfl⟩
      · obtain ⟨c, hc, hx⟩ := ih j (par_lt e) h
        refine ⟨c, hc, .inr ?_⟩
        rw [ups_some e]
        rcases hx with hx | hx
        · rw [hx]
          exact List.mem_cons_self
        · exact List.mem_cons_of_mem _ hx
end Tr

namespace Tr
/-! what is kept leads back -/
theorem ups_trans {ds : List Int} {a b c : Nat} (h1 : b ∈ ups ds a) (h2 : c ∈ ups ds b) : c ∈ ups ds a := by
  rw [mem_ups] at h1 h2 ⊢
  refine ⟨by omega, fun j j1 j2 => ?_⟩
  by_cases q : j ≤ b
  · exact h2.2 j j1 q
  · have := h1.2 j (by omega) j2
    have := h2.2 b h2.1 (Nat.le_refl _)
    omega
theorem lies_iff {ds : List Int} {a b : Nat} : liesIn ds a b = true ↔ b ∈ ups ds a := by
  unfold liesIn
  exact List.contains_iff_mem
theorem lies_par {ds : List Int} {a p : Nat} (h : par ds a = some p) : liesIn ds a p = true := by
  rw [lies_iff, ups_some h]
  exact List.mem_cons_self
theorem lies_trans {ds : List Int} {a b c : Nat} (h1 : liesIn ds a b = true) (h2 : liesIn ds b c = true) : liesIn ds a c = true := by
  rw [lies_iff] at *
  exact ups_trans h1 h2
theorem lies_lt {ds : List Int} {a b : Nat} (h : liesIn ds a b = true) : b < a := ups_lt (lies_iff.mp h)
end Tr
namespace Tr
end Tr

namespace Tr
/-! k18: rows that a room which keeps deep may hold -/
def led (ds : List Int) (gs : List Nat) (k : Nat) : List Nat := (kids ds k).filter (bears ds gs)
structure DeepOk (ds : List Int) (on al pl : Nat → Bool) (room : Nat) (gs : List Nat) : Prop where
  rise : gs.Pairwise (· < ·)
  all : ∀ g ∈ gs, pl g = true ∧ liesIn ds g room = true
  led : ∀ k, k < ds.length → (k = room ∨ liesIn ds k room = true) → pl k = false → (on k = true → (led ds gs k).length ≤ 1) ∧ (al k = true → (led ds gs k).length = 0 ∨ (led ds gs k).length = (kids ds k).length)
structure Kinds (ds : List Int) (on al pl : Nat → Bool) : Prop where
  fit : ∀ k, k < ds.length → kids ds k ≠ [] → pl k = false
  leaf : ∀ k, k < ds.length → kids ds k = [] → pl k = true
  two : ∀ k, k < ds.length → pl k = false → al k = true ∨ on k = true
  one : ∀ k, on k = true → al k = false
theorem bears_iff {ds : List Int} {gs : List Nat} {k : Nat} : bears ds gs k = true ↔ ∃ g ∈ gs, g = k ∨ liesIn ds g k = true := by
  unfold bears
  rw [List.any_eq_true]
  constructor
  · rintro ⟨g, hg, h⟩
    rw [Bool.or_eq_true] at h
    exact ⟨g, hg, h.imp eq_of_beq id⟩
  · rintro ⟨g, hg, h⟩
    refine ⟨g, hg, ?_⟩
    rw [Bool.or_eq_true]
    exact h.imp (fun z => by rw [z]; exact beq_self_eq_true _) id
theorem lies_kid' {ds : List Int} {g p : Nat} (h : liesIn ds g p = true) : ∃ c, par ds c = some p ∧ (g = c ∨ liesIn ds g c = true) := by
  obtain ⟨c, h1, h2⟩ := lies_kid g h
  exact ⟨c, h1, h2.imp Eq.symm fun z => lies_iff.mpr z⟩
theorem bears_up {ds : List Int} {gs : List Nat} {k p : Nat} (hp : par ds k = some p) (h : bears ds gs k = true) : bears ds gs p = true := by
  rw [bears_iff] at h ⊢
  obtain ⟨g, hg, h⟩ := h
  refine ⟨g, hg, .inr ?_⟩
  rcases h with rfl | h
  · exact lies_par hp
  · exact lies_trans h (lies_par hp)
theorem under_par' {ds : List Int} {x p r : Nat} (hp : par ds x = some p) (h : liesIn ds x r = true) : p = r ∨ liesIn ds p r = true := by
  rw [liesIn_some hp, Bool.or_eq_true] at h
  exact h.imp eq_of_beq id
theorem lies_some {ds : List Int} {x r : Nat} (h : liesIn ds x r = true) : ∃ p, par ds x = some p := by
  cases e : par ds x with
  | none => rw [liesIn_none e] at h; cases h
  | some p => exact ⟨p, rfl⟩
theorem short_one {l : List Nat} (h : l.length ≤ 1) {x : Nat} (hx : x ∈ l) : l = [x] := by
  match l, h, hx with
  | [y], _, hx => rw [List.mem_singleton.mp hx]
  | _ :: _ :: _, h, _ => simp at h
theorem pick_led {ds : List Int} {gs : List Nat} {p : Nat} : pick ds gs p = (match (led ds gs p).head? with | some k => k | none => (kids ds p).headD 0) := by
  unfold pick led
  rw [find_filter]
  all_goals (cases ((kids ds p).filter (bears ds gs)).head? <;> rfl)
section
variable {ds : List Int} {on al pl : Nat → Bool} {room : Nat} {gs : List Nat}
theorem lead_gone (K : Kinds ds on al pl) (h : DeepOk ds on al pl room gs) : ∀ (n x : Nat), x < n → x < ds.length → liesIn ds x room = true → bears ds gs x = true → Gone ds al gs (some room) x
  | 0, x, hn, _, _, _ => absurd hn (Nat.not_lt_zero _)
  | n + 1, x, hn, hx, hl, hb => by
    obtain ⟨p, hp⟩ := lies_some hl
    have lp := par_lt hp
    have hk : x ∈ kids ds p := mem_kids.mpr ⟨hx, hp⟩
    have hpr := under_par' hp hl
    have pf := K.fit p (by omega) fun z => by rw [z] at hk; cases hk
    have hg : some room = some p ∨ Gone ds al gs (some room) p := by
      rcases hpr with rfl | hpr
      · exact .inl rfl
      · exact .inr (lead_gone K h n p (by omega) (by omega) hpr (bears_up hp hb))
    refine Gone.kid ?_ hg
    cases ha : al p with
    | true => rw [next_all ha]; exact hk
    | false =>
      have ho : on p = true := (K.two p (by omega) pf).resolve_left (by rw [ha]; exact Bool.false_ne_true)
      have e1 := short_one ((h.led p (by omega) hpr pf).1 ho) (List.mem_filter.mpr ⟨hk, hb⟩ : x ∈ led ds gs p)
      rw [next_one ha hk, pick_led, e1]
      exact List.mem_singleton.mpr rfl
theorem gone_bears (gd : Good ds) (K : Kinds ds on al pl) (h : DeepOk ds on al pl room gs) (ne : gs ≠ []) (rl : room < ds.length) : ∀ (n x : Nat), x < n → Gone ds al gs (some room) x → bears ds gs x = true
  | 0, x, hn, _ => absurd hn (Nat.not_lt_zero _)
  | n + 1, x, hn, hG => by
    have hx := hG.lt (by omega)
    have ov := hG.over room rfl
    obtain ⟨p, hp⟩ := gd.par_some (by omega) hx
    have lp := par_lt hp
    have hk : x ∈ kids ds p := mem_kids.mpr ⟨hx, hp⟩
    obtain ⟨hn', hor⟩ := (Gone.iff hp).mp hG
    have pf := K.fit p (by omega) fun z => by rw [z] at hk; cases hk
    have hpr : p = room ∨ liesIn ds p room = true := by
      rcases hor with e | g
      · exact .inl (Option.some.inj e).symm
      · exact .inr g.under
    have bp : bears ds gs p = true := by
      rcases hor with e | g
      · obtain ⟨g, hg⟩ := List.exists_mem_of_ne_nil gs ne
        rw [bears_iff]
        exact ⟨g, hg, .inr (by rw [← Option.some.inj e]; exact (h.all g hg).2)⟩
      · exact gone_bears gd K h ne rl n p (by omega) g
    rw [bears_iff] at bp
    obtain ⟨g, hg, hgp⟩ := bp
    have hgp : liesIn ds g p = true := hgp.resolve_left fun z => by
      have := (h.all g hg).1
      rw [z, pf] at this
      cases this
    obtain ⟨c, hc, hgc⟩ := lies_kid' hgp
    have gl : g < ds.length := by
      apply Classical.byContradiction
      intro z
      have e0 : par ds g = none := by
        cases e : par ds g with
        | none => rfl
        | some q =>
          exfalso
          have := (par_iff.mp e)
          have e1 : ds.getD g 0 = 0 := by rw [List.getD_eq_getElem?_getD, List.getElem?_eq_none (by omega)]; rfl
          have e2 := gd.nonneg q
          by_cases hq : q < ds.length
          · have := e2 hq
            omega
          · have e3 : ds.getD q 0 = 0 := by rw [List.getD_eq_getElem?_getD, List.getElem?_eq_none (by omega)]; rfl
            omega
      rw [liesIn_none e0] at hgp
      cases hgp
    have cl : c < ds.length := by
      rcases hgc with rfl | hgc
      · exact gl
      · have := lies_lt hgc
        omega
    have hcl : c ∈ led ds gs p := List.mem_filter.mpr ⟨mem_kids.mpr ⟨cl, hc⟩, bears_iff.mpr ⟨g, hg, hgc⟩⟩
    cases ha : al p with
    | true =>
      rcases (h.led p (by omega) hpr pf).2 ha with z | z
      · rw [List.eq_nil_of_length_eq_zero z] at hcl
        cases hcl
      · exact List.length_filter_eq_length_iff.mp z x hk
    | false =>
      rw [next_one ha hk, pick_led] at hn'
      have := List.mem_singleton.mp hn'
      cases e : led ds gs p with
      | nil => rw [e] at hcl; cases hcl
      | cons y l =>
        rw [e] at this
        have hy : y ∈ led ds gs p := by rw [e]; exact List.mem_cons_self
        rw [this]
        exact (List.mem_filter.mp hy).2
theorem gone_up (gd : Good ds) (rl : room < ds.length) {a : Nat} (hla : liesIn ds a room = true) : ∀ (n g : Nat), g < n → Gone ds al gs (some room) g → liesIn ds g a = true → Gone ds al gs (some room) a
  | 0, g, hn, _, _ => absurd hn (Nat.not_lt_zero _)
  | n + 1, g, hn, hG, hl => by
    obtain ⟨p, hp⟩ := lies_some hl
    have lp := par_lt hp
    obtain ⟨_, hor⟩ := (Gone.iff hp).mp hG
    rcases under_par' hp hl with rfl | hpa
    · rcases hor with e | g
      · rw [← Option.some.inj e] at hla
        exact absurd (lies_lt hla) (Nat.lt_irrefl _)
      · exact g
    · rcases hor with e | g
      · rw [← Option.some.inj e] at hpa
        have := lies_lt hpa
        have := lies_lt hla
        omega
      · exact gone_up gd rl hla n p (by omega) g hpa
theorem gone_plain (K : Kinds ds on al pl) (rl : room < ds.length) : ∀ (n x : Nat), ds.length ≤ n + x → Gone ds al gs (some room) x → ∃ g, Gone ds al gs (some room) g ∧ pl g = true ∧ (g = x ∨ liesIn ds g x = true)
  | 0, x, hn, hG => absurd (hG.lt (by omega)) (by omega)
  | n + 1, x, hn, hG => by
    have hx := hG.lt (by omega)
    cases e : pl x with
    | true => exact ⟨x, hG, e, .inl rfl⟩
    | false =>
      have hne : kids ds x ≠ [] := fun z => by rw [K.leaf x hx z] at e; cases e
      obtain ⟨k, hk⟩ := List.exists_mem_of_ne_nil _ hne
      obtain ⟨c, hc⟩ : ∃ c, c ∈ next ds al gs x := by
        cases ha : al x with
        | true => exact ⟨k, by rw [next_all ha]; exact hk⟩
        | false => exact ⟨_, by rw [next_one ha hk]; exact List.mem_singleton.mpr rfl⟩
      have pc := next_par hc
      have := par_lt pc
      obtain ⟨g, h1, h2, h3⟩ := gone_plain K rl n c (by omega) (.low hc hG)
      refine ⟨g, h1, h2, .inr ?_⟩
      rcases h3 with rfl | h3
      · exact lies_par pc
      · exact lies_trans h3 (lies_par pc)
theorem deep_iff (gd : Good ds) (K : Kinds ds on al pl) (rl : room < ds.length) (gl : ∀ g ∈ gs, g < ds.length) (ne : gs ≠ []) {ms : List Nat} (hm : Ins ds al gs (some room) ms) : gs = ms.filter pl ↔ DeepOk ds on al pl room gs := by
  constructor
  · intro e
    have mem : ∀ g, g ∈ gs ↔ Gone ds al gs (some room) g ∧ pl g = true := fun g => by
      have : g ∈ gs ↔ g ∈ ms.filter pl := by rw [← e]
      rw [this, List.mem_filter, hm.2]
    have lg : ∀ k a, (k = room ∨ liesIn ds k room = true) → a ∈ led ds gs k → Gone ds al gs (some room) a := fun k a hk ha => by
      obtain ⟨h1, h2⟩ := List.mem_filter.mp ha
      have pa := (mem_kids.mp h1).2
      have la : liesIn ds a room = true := by
        rcases hk with rfl | hk
        · exact lies_par pa
        · exact lies_trans (lies_par pa) hk
      obtain ⟨g, hg, h3⟩ := bears_iff.mp h2
      have hG := ((mem g).mp hg).1
      rcases h3 with rfl | h3
      · exact hG
      · exact gone_up gd rl la (g + 1) g (Nat.lt_succ_self _) hG h3
    refine ⟨by rw [e]; exact hm.1.filter _, fun g hg => ⟨((mem g).mp hg).2, ((mem g).mp hg).1.under⟩, fun k hk hkr pf => ⟨fun ho => ?_, fun ha => ?_⟩⟩
    · have ha := K.one k ho
      have rise : (led ds gs k).Pairwise (· < ·) := (kids_rise ds k).filter _
      have one : ∀ a ∈ led ds gs k, a = pick ds gs k := fun a h => by
        have hG := lg k a hkr h
        have hka := (List.mem_filter.mp h).1
        have := ((Gone.iff (mem_kids.mp hka).2).mp hG).1
        rw [next_one ha hka] at this
        exact List.mem_singleton.mp this
      generalize led ds gs k = L at rise one
      match L, rise, one with
      | [], _, _ => exact Nat.zero_le _
      | [x], _, _ => exact Nat.le_refl _
      | x :: y :: l, rise, one =>
        have := List.rel_of_pairwise_cons rise (List.mem_cons_self : y ∈ y :: l)
        rw [one x List.mem_cons_self, one y (List.mem_cons_of_mem _ List.mem_cons_self)] at this
        exact absurd this (Nat.lt_irrefl _)
    · cases el : led ds gs k with
      | nil => exact .inl rfl
      | cons a l =>
        right
        rw [← el]
        have hal : a ∈ led ds gs k := by rw [el]; exact List.mem_cons_self
        have hG := lg k a hkr hal
        have hor := ((Gone.iff (mem_kids.mp (List.mem_filter.mp hal).1).2).mp hG).2
        refine List.length_filter_eq_length_iff.mpr fun c hc => ?_
        have hGc : Gone ds al gs (some room) c := Gone.kid (by rw [next_all ha]; exact hc) hor
        obtain ⟨g, h1, h2, h3⟩ := gone_plain K rl ds.length c (by omega) hGc
        exact bears_iff.mpr ⟨g, (mem g).mpr ⟨h1, h2⟩, h3⟩
  · intro h
    refine L2.rise_unique _ _ h.rise (hm.1.filter _) fun g => ?_
    rw [List.mem_filter, hm.2]
    constructor
    · intro hg
      have := h.all g hg
      exact ⟨lead_gone K h (g + 1) g (Nat.lt_succ_self _) (gl g hg) this.2 (bears_iff.mpr ⟨g, hg, .inl rfl⟩), this.1⟩
    · rintro ⟨hG, hp⟩
      obtain ⟨g', hg', h3⟩ := bears_iff.mp (gone_bears gd K h ne rl (g + 1) g (Nat.lt_succ_self _) hG)
      rcases h3 with rfl | h3
      · exact hg'
      · exfalso
        obtain ⟨c, hc, hgc⟩ := lies_kid' h3
        have cl : c < ds.length := by
          have := gl g' hg'
          rcases hgc with rfl | hgc
          · exact this
          · have := lies_lt hgc
            omega
        have := K.fit g (hG.lt (by omega)) fun z => by
          have hk : c ∈ kids ds g := mem_kids.mpr ⟨cl, hc⟩
          rw [z] at hk
          cases hk
        rw [hp] at this
        cases this
end
end Tr

namespace L2
open PySem PySem.Spec PyProof.Rows
/-! isinstance with a type of Python's own -/
section
variable {X : Cx}
theorem call_isinst : CallR X (.builtin "isinstance") (fun xs H Q => ∃ (x : V) (T : String) (t : Value) (b : Bool), xs = [x, .ty T] ∧ TyOf X.K H x t ∧ PySem.W.kitOne X.K t (.type T) = some b ∧ Q (.bl b) H) := by
  intro pins s σ H xs us Q I r h
  obtain ⟨x, T, t, b, rfl, ty, e, q⟩ := h
  obtain ⟨u, w', rfl, r1, r2⟩ := vals2 r
  cases (show w' = Value.type T from r2)
  exact isinst_ok I r1 ty e fun tk => ⟨.bl b, H, I.tok tk, rfl, q⟩
end
end L2

namespace L2
open PySem
theorem ifT {c : Bool} {A B : Prop} (h : c = true) (a : A) : if c = true then A else B := by rw [if_pos h]; exact a
theorem ifF {c : Bool} {A B : Prop} (h : c = false) (b : B) : if c = true then A else B := by rw [if_neg (by rw [h]; decide)]; exact b
end L2

namespace Gds
open PySem L2
/-! guards as a datum of our own, and how the heap bears them -/
inductive Gd where
  | yes
  | is (b n : Int)
  | under (b n : Int)
  | inn (r : Int)
  | neg (g : Gd)
  | both (g h : Gd)
  | either (g h : Gd)
def Gd.ht : Gd → Nat
  | .yes => 1
  | .is _ _ => 1
  | .under _ _ => 1
  | .inn _ => 1
  | .neg g => g.ht + 1
  | .both g h => 1 + max g.ht h.ht
  | .either g h => 1 + max g.ht h.ht
def at0 (bx : List Int) (b : Int) : Int := bx.getD b.toNat 0
def Gd.holds (op bx : List Int) : Gd → Bool
  | .yes => true
  | .is b n => decide (V.int (at0 bx b) = V.int n)
  | .under b n => decide (at0 bx b < n)
  | .inn r => inV (.int r) (op.map V.int)
  | .neg g => !(g.holds op bx)
  | .both g h => g.holds op bx && h.holds op bx
  | .either g h => g.holds op bx || h.holds op bx
def Gd.ok (nb : Nat) : Gd → Prop
  | .yes => True
  | .is b _ => 0 ≤ b ∧ b < (nb : Int)
  | .under b _ => 0 ≤ b ∧ b < (nb : Int)
  | .inn _ => True
  | .neg g => g.ok nb
  | .both g h => g.ok nb ∧ h.ok nb
  | .either g h => g.ok nb ∧ h.ok nb
/-- tuples stay -/
def KeepT (H H' : Hp) : Prop := ∀ b xs, H b = some (.tup xs) → H' b = some (.tup xs)
theorem KeepT.trans {H H1 H2 : Hp} (a : KeepT H H1) (b : KeepT H1 H2) : KeepT H H2 := fun c xs h => b c xs (a c xs h)
theorem KeepT.of {H H' : Hp} (s : Same H H') : KeepT H H' := fun b xs h => s b _ h
theorem KeepT.lst {H : Hp} {p : Addr} {xs : List V} (h : H p = some (.lst xs)) (o : HO) : KeepT H (upd H p o) := fun b ys e => by
  rw [upd_ne (ne_of e h (by intro z; cases z))]
  exact e
theorem KeepT.new {H : Hp} {p : Addr} (h : H p = none) (o : HO) : KeepT H (upd H p o) := .of (same_new h o)
theorem same_upd {H H' : Hp} {p : Addr} (hp : H p = none) (s : Same H H') (o : HO) : Same H (upd H' p o) := fun b u e => by
  rw [upd_ne (ne_of_none e hp)]
  exact s b u e
inductive GdIn (H : Hp) : V → Gd → Prop where
  | yes {a : Addr} : H a = some (.tup [.str "yes"]) → GdIn H (.ref a) .yes
  | is {a : Addr} {b n : Int} : H a = some (.tup [.str "is", .int b, .int n]) → GdIn H (.ref a) (.is b n)
  | under {a : Addr} {b n : Int} : H a = some (.tup [.str "under", .int b, .int n]) → GdIn H (.ref a) (.under b n)
  | inn {a : Addr} {r : Int} : H a = some (.tup [.str "in", .int r]) → GdIn H (.ref a) (.inn r)
  | neg {a : Addr} {v : V} {g : Gd} : H a = some (.tup [.str "not", v]) → GdIn H v g → GdIn H (.ref a) (.neg g)
  | both {a : Addr} {v u : V} {g h : Gd} : H a = some (.tup [.str "both", v, u]) → GdIn H v g → GdIn H u h → GdIn H (.ref a) (.both g h)
  | either {a : Addr} {v u : V} {g h : Gd} : H a = some (.tup [.str "either", v, u]) → GdIn H v g → GdIn H u h → GdIn H (.ref a) (.either g h)
end Gds

namespace Rms
open PySem L2 Gds
/-! rooms as a datum of our own -/
structure Rm where
  nm : Str
  kind : Str
  depth : Int
  keeps : Str
  lamp : Str
  ins : V
  outs : V
def RmIn (H : Hp) (v : V) (r : Rm) : Prop := ∃ a : Addr, v = .ref a ∧ H a = some (.tup [.str r.nm, .str r.kind, .int r.depth, .str r.keeps, .str r.lamp, r.ins, r.outs])
inductive RmsIn (H : Hp) : List V → List Rm → Prop where
  | nil : RmsIn H [] []
  | cons {v : V} {r : Rm} {vs : List V} {rs : List Rm} : RmIn H v r → RmsIn H vs rs → RmsIn H (v :: vs) (r :: rs)
theorem RmIn.mono {H H' : Hp} {v : V} {r : Rm} (x : RmIn H v r) (k : KeepT H H') : RmIn H' v r := by
  obtain ⟨a, e, h⟩ := x
  exact ⟨a, e, k _ _ h⟩
theorem RmsIn.mono {H H' : Hp} {vs : List V} {rs : List Rm} (x : RmsIn H vs rs) (k : KeepT H H') : RmsIn H' vs rs := by
  induction x with
  | nil => exact .nil
  | cons h _ ih => exact .cons (h.mono k) ih
theorem RmsIn.length {H : Hp} {vs : List V} {rs : List Rm} (x : RmsIn H vs rs) : vs.length = rs.length := by
  induction x with
  | nil => rfl
  | cons _ _ ih => rw [List.length_cons, List.length_cons, ih]
theorem RmsIn.snoc {H : Hp} {vs : List V} {rs : List Rm} {v : V} {r : Rm} (x : RmsIn H vs rs) (y : RmIn H v r) : RmsIn H (vs ++ [v]) (rs ++ [r]) := by
  induction x with
  | nil => exact .cons y .nil
  | cons h _ ih => exact .cons h ih
theorem RmsIn.get {H : Hp} {vs : List V} {rs : List Rm} (x : RmsIn H vs rs) : ∀ {k : Nat} {r : Rm}, rs[k]? = some r → ∃ v, vs[k]? = some v ∧ RmIn H v r := by
  induction x with
  | nil => intro k r h; simp at h
  | cons h _ ih =>
    intro k r e
    cases k with
    | zero =>
      simp at e
      subst e
      exact ⟨_, rfl, h⟩
    | succ k => exact ih (by simpa using e)
/-- the rooms of a chart, a tuple -/
def Rooms (H : Hp) (t : Addr) (rs : List Rm) : Prop := ∃ vs, H t = some (.tup vs) ∧ RmsIn H vs rs
theorem Rooms.mono {H H' : Hp} {t : Addr} {rs : List Rm} (x : Rooms H t rs) (k : KeepT H H') : Rooms H' t rs := by
  obtain ⟨vs, h, r⟩ := x
  exact ⟨vs, k _ _ h, r.mono k⟩
def depths (rs : List Rm) : List Int := rs.map (·.depth)
theorem depths_len (rs : List Rm) : (depths rs).length = rs.length := List.length_map _
theorem depths_at {rs : List Rm} {k : Nat} {r : Rm} (h : rs[k]? = some r) : (depths rs).getD k 0 = r.depth := by
  unfold depths
  rw [List.getD_eq_getElem?_getD, List.getElem?_map, h]
  rfl
/-- the k-th room's own tuple -/
theorem Rooms.at {H : Hp} {t : Addr} {rs : List Rm} (x : Rooms H t rs) {k : Nat} (h : k < rs.length) : ∃ (vs : List V) (a : Addr) (r : Rm), H t = some (.tup vs) ∧ vs.length = rs.length ∧ rs[k]? = some r ∧ atI vs ((k : Nat) : Int) = some (.ref a) ∧ H a = some (.tup [.str r.nm, .str r.kind, .int r.depth, .str r.keeps, .str r.lamp, r.ins, r.outs]) := by
  obtain ⟨vs, hv, hr⟩ := x
  have e : rs[k]? = some rs[k] := List.getElem?_eq_getElem h
  obtain ⟨v, h1, a, rfl, h2⟩ := hr.get e
  exact ⟨vs, a, rs[k], hv, hr.length, e, atI_nat h1, h2⟩
/-- kinds that go with the depths -/
def Fit (rs : List Rm) : Prop := ∀ (k : Nat) (r : Rm), rs[k]? = some r → if k + 1 < rs.length ∧ (depths rs).getD k 0 < (depths rs).getD (k + 1) 0 then (r.kind = "one" ∨ r.kind = "all") else r.kind = "plain"
end Rms

namespace Mix
open PySem L2
def top (i : Nat) : Stmt := PySem.Challenge.pw_nesthall_k18_stands_known.main.body.getD i (.Pass ⟨0, 0, 0, 0⟩)
abbrev sEndOf : Stmt := top 1
abbrev sKids : Stmt := top 2
abbrev sBears : Stmt := top 4
abbrev sNext : Stmt := top 5
abbrev sIn : Stmt := top 6
abbrev sFull : Stmt := top 8
abbrev sPlain : Stmt := top 9
abbrev sCanKeep : Stmt := top 10
abbrev sHeld : Stmt := top 11
abbrev sStand : Stmt := top 12
abbrev sCell : Stmt := top 14
abbrev sMixed : Stmt := top 15
abbrev sWhole : Stmt := top 16
abbrev sTree : Stmt := top 17
abbrev sRooms : Stmt := top 18
abbrev sParents : Stmt := top 19
abbrev sOpening : Stmt := top 20
abbrev sPiece : Stmt := top 21
abbrev sLFull : Stmt := top 22
abbrev sLies : Stmt := top 23
abbrev sLKept : Stmt := top 24
abbrev sSpRow : Stmt := top 25
abbrev sSpoiled : Stmt := top 26
abbrev sLeads : Stmt := top 27
abbrev sLDeep : Stmt := top 28
abbrev sLDue : Stmt := top 29
abbrev sLawF : Stmt := top 30
abbrev sNear : Str := "_law_near"
end Mix

namespace Mix
open PySem L2
/-! the cell of a script and the mixed draw: the same two defs stand in every law -/
def spCell (K : PySem.W.Frag) : Sp := fun vs H Q _ => ∃ (a : Addr) (ns : List Int) (k : Int), vs = [.ref a, .int k] ∧ SqL K H a (ns.map V.int) ∧ ns.length ≤ 63 ∧ ∀ v : Int, Q (.int v) H
def spMixed (K : PySem.W.Frag) : Sp := fun vs H Q _ => ∃ (a : Addr) (ns : List Int) (k salt : Int), vs = [.ref a, .int k, .int salt] ∧ SqL K H a (ns.map V.int) ∧ ns.length ≤ 63 ∧ (0 ≤ k ∧ k ≤ 1000000) ∧ (0 ≤ salt ∧ salt ≤ 1000) ∧
  ∀ r : Int, 0 ≤ r → r < 2147483648 → Q (.int r) H
section
variable {P : Program} {w : World} {K : PySem.W.Frag} {mg : Str → Option Value} {base : Heap}
theorem scC : FnScope ["_law_script", "_law_k"] ["_law_script", "_law_k"] (defScope sCell) := ⟨rfl, rfl, rfl, by decide +kernel, rfl, by decide +kernel, by decide +kernel⟩
theorem ok_cell {f : Addr} {fd : FuncData} (F : Fun K "_law_cell_at" "_law_cell_at" sCell f fd) (ml : mg "len" = none) : FnOk P w K mg base CX0 1 f fd ["_law_script", "_law_k"] (spCell K) := by
  refine F.ok scC (fun vs H Q E h => ?_) (fun cdv A outer s H vs Q E hr h => ?_)
  · obtain ⟨a, ns, k, rfl, _⟩ := h
    rfl
  obtain ⟨a, ns, k, rfl, hS, h63, q⟩ := h
  refine ⟨_, pss_cons (ps_if (pt_cmpR op_eq (pe_callB call_len_seq rfl ml PySem.boot_len (pa_cons (pv 0) pa_nil)) pe_int (nomark _)) (pss_one (ps_ret pe_int)) pss_nil)
    (pss_one (ps_ret (pe_ix ix_list (pv 0) (pe_op op_mod (pv 1) (pe_callB call_len_seq rfl ml PySem.boot_len (pa_cons (pv 0) pa_nil))) (fun _ _ => rfl)))), ?_⟩
  have hl : (ns.map V.int).length = ns.length := List.length_map _
  refine ⟨_, rfl, a, _, rfl, .inl hS, rfl, _, rfl, ?_⟩
  refine ite2 (fun c => ?_) (fun c => ?_)
  · exact q 0
  · have c' : ¬ V.int (((ns.map V.int).length : Nat) : Int) = V.int 0 := of_decide_eq_false (Bool.eq_false_iff.mpr c)
    have hp : (0 : Int) < (((ns.map V.int).length : Nat) : Int) := by
      rw [hl] at c' ⊢
      have : ns.length ≠ 0 := fun z => c' (by rw [z]; rfl)
      omega
    obtain ⟨v, hv⟩ := atI_int (ns := ns) (i := k % (((ns.map V.int).length : Nat) : Int)) (Int.emod_nonneg _ (by omega)) (by have := Int.emod_lt_of_pos k hp; rw [hl] at this ⊢; exact this)
    exact ⟨_, rfl, _, rfl, _, rfl, a, _, rfl, .inl hS, _, _, rfl, rfl, hp, a, _, _, _, rfl, rfl, hS, hv, q v⟩
theorem scM : FnScope ["_law_script", "_law_k", "_law_salt", "_law_cell", "_law_lap", sNear] ["_law_script", "_law_k", "_law_salt"] (defScope sMixed) := ⟨rfl, rfl, rfl, by decide +kernel, rfl, by decide +kernel, by decide +kernel⟩
theorem mulIn {i j : Int} (h0 : 0 ≤ i) (h1 : i < 18446744073709551616) : CMul i j := .inl ⟨by omega, by omega⟩
theorem ok_mixed {f g : Addr} {fd gd : FuncData} (F : Fun K "_law_mixed" "_law_mixed" sMixed f fd) (G : FnOk P w K mg base CX0 1 g gd ["_law_script", "_law_k"] (spCell K)) (bG : Binds K gd ["_law_script", "_law_k"] []) (kG : PySem.W.keepIn K (.ref g) = true) (mG : mg "_law_cell_at" = some (.ref g))
    (ml : mg "len" = none) (mm : mg "max" = none) : FnOk P w K mg base CX0 2 f fd ["_law_script", "_law_k", "_law_salt"] (spMixed K) := by
  refine F.ok scM (fun vs H Q E h => ?_) (fun cdv A outer s H vs Q E hr h => ?_)
  · obtain ⟨a, ns, k, salt, rfl, _⟩ := h
    rfl
  obtain ⟨a, ns, k, salt, rfl, hS, h63, hk, hs, q⟩ := h
  refine ⟨_, pss_cons (ps_set (i := 3) scM.nd rfl (Or.inl rfl) (pe_call G hr rfl mG kG bG .nil pass0 (pa_cons (pv 0) (pa_cons (pv 1) pa_nil))))
    (pss_cons (ps_set (i := 4) scM.nd rfl (Or.inl rfl) (pe_op op_fdiv (pv 1) (pe_callB (call_max2 rfl) rfl mm PyProof.Rows.boot_max (pa_cons pe_int (pa_cons (pe_callB call_len_seq rfl ml PySem.boot_len (pa_cons (pv 0) pa_nil)) pa_nil)))))
    (pss_cons (ps_set (i := 5) scM.nd rfl (Or.inl rfl) (pe_op op_add (pe_op op_add (pe_op op_add (pe_op op_and (pv 3) pe_int) (pe_op op_mul (pe_op op_mul pe_int (pv 1)) (pv 1))) (pe_op op_mul (pe_op op_mul pe_int (pv 2)) (pv 2))) pe_int))
    (pss_cons (ps_set (i := 5) scM.nd rfl (Or.inl rfl) (pe_op op_mod (pe_op op_mul (pv 5) pe_int) pe_int))
    (pss_cons (ps_set (i := 5) scM.nd rfl (Or.inl rfl) (pe_op op_mod (pe_op op_mul (pv 5) (pv 5)) pe_int))
    (pss_one (ps_ret (pe_op op_and (pe_op op_add (pe_op op_shr (pv 3) (pe_op op_mul pe_int (pe_op op_add (pv 2) (pe_op op_mul pe_int (pv 4))))) (pv 5)) pe_int))))))), ?_⟩
  have hl : (ns.map V.int).length = ns.length := List.length_map _
  refine ⟨_, rfl, _, rfl, a, ns, k, rfl, hS, h63, fun v => ?_⟩
  -- lap
  refine ⟨_, rfl, _, rfl, a, _, rfl, .inl hS, _, _, rfl, _, _, rfl, rfl, ?_⟩
  have hM : 0 < (if (((ns.map V.int).length : Nat) : Int) > 1 then (((ns.map V.int).length : Nat) : Int) else 1) ∧ (if (((ns.map V.int).length : Nat) : Int) > 1 then (((ns.map V.int).length : Nat) : Int) else 1) < 1073741824 := by
    rw [hl]
    split <;> omega
  refine ⟨hM, ?_⟩
  have hlap : 0 ≤ k / (if (((ns.map V.int).length : Nat) : Int) > 1 then (((ns.map V.int).length : Nat) : Int) else 1) := Int.ediv_nonneg hk.1 (Int.le_of_lt hM.1)
  -- near
  refine ⟨_, rfl, _, _, rfl, rfl, _, rfl, _, _, rfl, rfl, mulIn (by decide) (by decide), _, rfl, _, _, rfl, rfl, mulIn (by omega) (by omega), _, _, rfl, rfl, _, rfl, _, _, rfl, rfl, mulIn (by decide) (by decide), _, rfl, _, _, rfl, rfl, mulIn (by omega) (by omega), _, _, rfl, rfl, _, _, rfl, rfl, ?_⟩
  refine ⟨_, rfl, _, _, rfl, rfl, .inr ⟨by decide, by decide⟩, _, _, rfl, rfl, (by show (0 : Int) < 2147483647; decide), ?_⟩
  have b1 := Int.emod_nonneg ((Builtin.bitAnd v 2147483647 + 1009 * k * k + 7919 * salt * salt + 12) * 48271) (show (2147483647 : Int) ≠ 0 by decide)
  have b2 := Int.emod_lt_of_pos ((Builtin.bitAnd v 2147483647 + 1009 * k * k + 7919 * salt * salt + 12) * 48271) (show (0 : Int) < 2147483647 by decide)
  refine ⟨_, rfl, _, rfl, _, _, rfl, rfl, mulIn b1 (Int.lt_trans b2 (by decide)), _, _, rfl, rfl, (by show (0 : Int) < 2147483629; decide), ?_⟩
  refine ⟨_, rfl, _, rfl, _, rfl, _, _, rfl, rfl, mulIn (by decide) (by decide), _, _, rfl, rfl, _, _, rfl, rfl, mulIn (by decide) (by decide), _, _, rfl, rfl, ?_, _, rfl, _, _, rfl, rfl, _, _, rfl, rfl, ?_⟩
  · have nn : ∀ lap : Int, 0 ≤ lap → 0 ≤ 31 * (salt + 128 * lap) := fun lap h => by omega
    exact nn _ hlap
  · exact q _ (maskB _).1 (maskB _).2
end
end Mix

namespace Mix
open PySem L2
/-! is it a whole number: the same def in many laws -/
def spWhole : Sp := fun vs H Q _ => ∃ n : Int, vs = [.int n] ∧ Q (.bl true) H
section
variable {P : Program} {w : World} {K : PySem.W.Frag} {mg : Str → Option Value} {base : Heap}
end
end Mix

namespace Mix
open PySem L2 Gds
/-! the parents of rooms, by a row of those above: the same def in many laws -/
def pV : Option Nat → V
  | none => .non
  | some j => .int (j : Int)
def parsV (ds : List Int) (n : Nat) : List V := (List.range n).map fun k => pV (Tr.par ds k)
theorem parsV_succ (ds : List Int) (n : Nat) : parsV ds (n + 1) = parsV ds n ++ [pV (Tr.par ds n)] := by
  unfold parsV
  rw [List.range_succ, List.map_append]
  rfl
theorem parsV_len (ds : List Int) (n : Nat) : (parsV ds n).length = n := by
  unfold parsV
  simp
theorem parsV_at (ds : List Int) {n k : Nat} (h : k < n) : (parsV ds n)[k]? = some (pV (Tr.par ds k)) := by
  unfold parsV
  rw [List.getElem?_map, List.getElem?_range h]
  rfl
def natsV (s : List Nat) : List V := s.map fun j : Nat => V.int (j : Int)
theorem cut_take (xs : List V) {d : Int} (h : 0 ≤ d) : cutV xs none (some d) = xs.take d.toNat := by
  show (xs.drop 0).take ((if d < 0 then (d + (xs.length : Int)).toNat else min d.toNat xs.length) - 0) = _
  rw [if_neg (by omega), List.drop_zero, Nat.sub_zero, List.take_eq_take_iff]
  omega
theorem atI_two {α : Type} {xs : List α} (h : 1 < xs.length) : atI xs (-2) = xs[xs.length - 2]? := by
  unfold atI ixN
  rw [if_neg (by decide), if_pos (by omega)]
  show xs[((-2 : Int) + (xs.length : Int)).toNat]? = _
  congr 1
  omega
def spParents : Sp := fun vs H Q _ => ∃ (a : Addr) (ds : List Int), vs = [.ref a] ∧ H a = some (.lst (ds.map V.int)) ∧ Tr.Good ds ∧ ds.length ≤ 63 ∧ ∀ (p : Addr) (H' : Hp), Same H H' → H p = none → H' p = some (.lst (parsV ds ds.length)) → Q (.ref p) H'
section
variable {P : Program} {w : World} {K : PySem.W.Frag} {mg : Str → Option Value} {base : Heap}
theorem sc_law_parents : FnScope ["_law_depths", "_law_above", "_law_found", "_law_k"] ["_law_depths"] (defScope sParents) := ⟨rfl, rfl, rfl, by decide +kernel, rfl, by decide +kernel, by decide +kernel⟩
theorem ok_parents {f : Addr} {fd : FuncData} (F : Fun K "_law_parents" "_law_parents" sParents f fd) (m_range : mg "range" = none) (m_len : mg "len" = none) : FnOk P w K mg base CX0 1 f fd ["_law_depths"] spParents := by
  refine F.ok sc_law_parents (fun vs H Q E h => ?_) (fun cdv A outer s H vs Q E hr h => ?_)
  · obtain ⟨a, ds, rfl, _⟩ := h
    rfl
  obtain ⟨a, ds, rfl, ha, good, h63, q⟩ := h
  refine ⟨_, (pss_cons (ps_set (i := 1) sc_law_parents.nd rfl (Or.inl rfl) (pe_lst pa_nil))
    (pss_cons (ps_set (i := 2) sc_law_parents.nd rfl (Or.inl rfl) (pe_lst pa_nil))
    (pss_cut (ps_for PassesOwn.never rfl (pi_range1 rfl m_range (pa_cons (pe_callB call_len_seq rfl m_len PySem.boot_len (pa_cons (pv 0) pa_nil)) pa_nil)) (pg_name (i := 3) sc_law_parents.nd rfl (Or.inl rfl))
      (pss_cons (ps_set (i := 1) sc_law_parents.nd rfl (Or.inl rfl) (pe_op op_cat (pe_slice sl_list (pv 1) po_none (po_some (pe_ix ix_list (pv 0) (pv 3) (fun _ _ => rfl)))) (pe_lst (pa_cons (pv 3) pa_nil))))
      (pss_one (ps_if (pt_cmpR op_gt (pe_callB call_len_seq rfl m_len PySem.boot_len (pa_cons (pv 1) pa_nil)) pe_int (nomark _))
        (pss_one (ps_expr (pe_bm PySem.F.plainAttrs_list PySem.F.slot_list_append PySem.F.type_list_append mt_append (pv 2) (pa_cons (pe_ix ix_list (pv 1) (pe_un un_neg pe_int) (fun _ _ => rfl)) pa_nil))))
        (pss_one (ps_expr (pe_bm PySem.F.plainAttrs_list PySem.F.slot_list_append PySem.F.type_list_append mt_append (pv 2) (pa_cons pe_non pa_nil))))))))
    (pss_one (ps_ret (pv 2)))))), ?_⟩
  refine ⟨Nat.zero_le _, fun p0 hp0 => ⟨Nat.zero_le _, fun pf hpf => ?_⟩⟩
  have s0 := same_new hp0 (.lst [])
  have hpf0 : H pf = none := s0.free hpf
  refine ⟨fun σ' H' => Same H H' ∧ H' pf = some (.lst (parsV ds ds.length)) ∧ ∃ o1 o3 : Option V, σ' = [some (.ref a), o1, some (.ref pf), o3], ?_, ?_⟩
  · have s1 := s0.trans (same_new hpf (.lst []))
    refine ⟨_, rfl, a, _, rfl, .inl (SqL.of (s1 _ _ ha)), _, rfl, by omega, by rw [List.length_map]; omega, ?_⟩
    refine for_range (fun i σ' H' => ∃ (pa : Addr) (s : List Nat) (o3 : Option V), Same H H' ∧ H' pf = some (.lst (parsV ds i)) ∧ pa ≠ pf ∧ H' pa = some (.lst (natsV s)) ∧ (i = 0 → s = []) ∧ (∀ k, i = k + 1 → Tr.Above ds k s) ∧ σ' = [some (.ref a), some (.ref pa), some (.ref pf), o3])
      ⟨p0, [], none, s1, upd_same, ne_of_none upd_same hpf, (same_new hpf _) _ _ upd_same, fun _ => rfl, fun k z => by omega, rfl⟩ ?_ ?_
    · rintro i σ' H1 hi ⟨pa, s, o3, s2, hf, npf, hpa, e0, e1, rfl⟩
      have hi' : i < ds.length := by
        simp only [List.length_map, Int.toNat_natCast] at hi
        exact hi
      have hat : atI (ds.map V.int) (0 + (i : Int)) = some (.int (ds.getD i 0)) := by
        rw [Int.zero_add]
        refine atI_nat ?_
        rw [List.getElem?_map, List.getElem?_eq_getElem hi', List.getD_eq_getElem?_getD, List.getElem?_eq_getElem hi']
        rfl
      have n0 := good.nonneg i hi'
      refine ⟨_, rfl, _, rfl, _, rfl, a, _, _, _, rfl, rfl, SqL.of (s2 _ _ ha), hat, _, rfl, pa, _, rfl, SqL.of hpa, fun p1 hp1 => ?_⟩
      rw [cut_take _ n0]
      have u1 := same_new hp1 (.lst ((natsV s).take (ds.getD i 0).toNat))
      refine ⟨_, rfl, small_le (by show 1 ≤ 1000; decide), fun p2 hp2 => ?_⟩
      have u2 := same_new hp2 (.lst [V.int (0 + (i : Int))])
      have ls : s.length ≤ 64 := by
        cases i with
        | zero => rw [e0 rfl]; exact Nat.zero_le _
        | succ k =>
          have a1 := (e1 k rfl).len
          have a2 := good.le_ix k (by omega)
          omega
      have lt : ((natsV s).take (ds.getD i 0).toNat).length ≤ 64 := by
        rw [List.length_take]
        unfold natsV
        rw [List.length_map]
        omega
      refine ⟨p1, p2, _, _, rfl, rfl, u2 _ _ upd_same, upd_same, small_le (by show _ + 1 ≤ 1000; omega), fun p3 hp3 => ?_⟩
      have ev : (natsV s).take (ds.getD i 0).toNat ++ [V.int (0 + (i : Int))] = natsV (s.take (ds.getD i 0).toNat ++ [i]) := by
        unfold natsV
        rw [List.map_append, List.map_take, Int.zero_add]
        rfl
      rw [ev]
      have ab : Tr.Above ds i (s.take (ds.getD i 0).toNat ++ [i]) := by
        cases i with
        | zero =>
          rw [e0 rfl, List.take_nil]
          exact .zero good
        | succ k => exact (e1 k rfl).next good hi'
      have ep := ab.par good hi'
      have la := ab.len
      generalize hs' : s.take (ds.getD i 0).toNat ++ [i] = s' at ab ep la ⊢
      have u3 := same_new hp3 (.lst (natsV s'))
      have sA := s2.trans (u1.trans (u2.trans u3))
      have hf3 := u3 _ _ (u2 _ _ (u1 _ _ hf))
      have nl : (natsV s').length = s'.length := by
        unfold natsV
        rw [List.length_map]
      have n3 : p3 ≠ pf := Ne.symm (ne_of_none (u2 _ _ (u1 _ _ hf)) hp3)
      refine ⟨_, rfl, p3, _, rfl, .inl (SqL.of upd_same), _, _, rfl, rfl, _, rfl, ?_⟩
      refine ite2 (fun c => ?_) (fun c => ?_)
      · have c' : (1 : Int) < (((natsV s').length : Nat) : Int) := of_decide_eq_true c
        rw [if_pos (by omega)] at ep
        have hx : (natsV s')[(natsV s').length - 2]? = some (pV (Tr.par ds i)) := by
          rw [nl, ep]
          unfold natsV
          rw [List.getElem?_map, List.getElem?_eq_getElem (show s'.length - 2 < s'.length by omega)]
          rfl
        refine ⟨_, rfl, .inl ⟨rfl, _, SqL.of hf3⟩, _, rfl, _, rfl, p3, _, _, _, rfl, rfl, SqL.of upd_same, (atI_two (by omega)).trans hx, pf, _, _, rfl, rfl, hf3, small1000 (by rw [parsV_len]; omega), p3, s', _, same_upd hpf0 sA _, ?_, n3, ?_, fun z => by omega, fun k z => by cases z; exact ab, rfl⟩
        · rw [parsV_succ]
          exact upd_same
        · rw [upd_ne n3]
          exact upd_same
      · have c' : ¬ (1 : Int) < (((natsV s').length : Nat) : Int) := fun z => c (decide_eq_true z)
        rw [if_neg (by omega)] at ep
        refine ⟨_, rfl, .inl ⟨rfl, _, SqL.of hf3⟩, pf, _, _, rfl, rfl, hf3, small1000 (by rw [parsV_len]; omega), p3, s', _, same_upd hpf0 sA _, ?_, n3, ?_, fun z => by omega, fun k z => by cases z; exact ab, rfl⟩
        · rw [parsV_succ, ep]
          exact upd_same
        · rw [upd_ne n3]
          exact upd_same
    · rintro σ' H1 ⟨pa, s, o3, s2, hf, npf, hpa, e0, e1, rfl⟩
      have e : (((ds.map V.int).length : Nat) : Int).toNat = ds.length := by simp
      rw [e] at hf
      exact ⟨s2, hf, _, _, rfl⟩
  rintro σ' H1 ⟨s2, hf, o1, o3, rfl⟩
  exact ⟨_, rfl, q pf H1 s2 hpf0 hf⟩
end
end Mix

namespace Mix
open PySem L2 Gds
/-! a tree of rooms by depths that fit -/
def spTree (K : PySem.W.Frag) : Sp := fun vs H Q _ => ∃ (a : Addr) (ns : List Int) (salt : Int), vs = [.ref a, .int salt] ∧ SqL K H a (ns.map V.int) ∧ ns.length ≤ 63 ∧ (0 ≤ salt ∧ salt ≤ 100) ∧
  ∀ (p : Addr) (ds : List Int) (H' : Hp), Same H H' → H p = none → H' p = some (.lst (ds.map V.int)) → Tr.Good ds → ds.length ≤ 40 → Q (.ref p) H'
theorem last_at {ds : List Int} {k : Nat} (h : k < ds.length) : atI (ds.map V.int) ((k : Nat) : Int) = some (.int (ds.getD k 0)) := by
  refine atI_nat ?_
  rw [List.getElem?_map, List.getElem?_eq_getElem h, List.getD_eq_getElem?_getD, List.getElem?_eq_getElem h]
  rfl
section
variable {P : Program} {w : World} {K : PySem.W.Frag} {mg : Str → Option Value} {base : Heap}
theorem sc_law_tree : FnScope ["_law_script", "_law_salt", "_law_number", "_law_many", "_law_depths", "_law_k", "_law_step", "_law_top"] ["_law_script", "_law_salt"] (defScope sTree) := ⟨rfl, rfl, rfl, by decide +kernel, rfl, by decide +kernel, by decide +kernel⟩
theorem ok_tree {f gm : Addr} {fd dm : FuncData} (F : Fun K "_law_tree" "_law_tree" sTree f fd) (G_law_mixed : FnOk P w K mg base CX0 2 gm dm ["_law_script", "_law_k", "_law_salt"] (spMixed K)) (b_law_mixed : Binds K dm ["_law_script", "_law_k", "_law_salt"] []) (k_law_mixed : PySem.W.keepIn K (.ref gm) = true) (m_law_mixed : mg "_law_mixed" = some (.ref gm))
    (m_range : mg "range" = none) (m_min : mg "min" = none) (m_int : mg "int" = none) : FnOk P w K mg base CX0 3 f fd ["_law_script", "_law_salt"] (spTree K) := by
  refine F.ok sc_law_tree (fun vs H Q E h => ?_) (fun cdv A outer s H vs Q E hr h => ?_)
  · obtain ⟨a, ns, salt, rfl, _⟩ := h
    rfl
  obtain ⟨a, ns, salt, rfl, hS, h63, hs, q⟩ := h
  refine ⟨_, (pss_cons (ps_set (i := 2) sc_law_tree.nd rfl (Or.inl rfl) (pe_call G_law_mixed hr rfl m_law_mixed k_law_mixed b_law_mixed .nil pass0 (pa_cons (pv 0) (pa_cons pe_int (pa_cons (pv 1) pa_nil)))))
    (pss_cons (ps_set (i := 3) sc_law_tree.nd rfl (Or.inl rfl) (pe_op op_add pe_int (pe_op op_mod (pv 2) pe_int)))
    (pss_cut (ps_if (pt_cmpR op_eq (pe_op op_mod (pe_op op_fdiv (pv 2) pe_int) pe_int) pe_int (nomark _))
      (pss_one (ps_set (i := 3) sc_law_tree.nd rfl (Or.inl rfl) (pe_op op_add pe_int (pe_op op_mod (pe_op op_fdiv (pv 2) pe_int) pe_int))))
      pss_nil)
    (pss_cons (ps_set (i := 4) sc_law_tree.nd rfl (Or.inl rfl) (pe_lst (pa_cons pe_int pa_nil)))
    (pss_cut (ps_for PassesOwn.never rfl (pi_range2 rfl m_range (pa_cons pe_int (pa_cons (pv 3) pa_nil))) (pg_name (i := 5) sc_law_tree.nd rfl (Or.inl rfl))
      (pss_cons (ps_set (i := 6) sc_law_tree.nd rfl (Or.inl rfl) (pe_call G_law_mixed hr rfl m_law_mixed k_law_mixed b_law_mixed .nil pass0 (pa_cons (pv 0) (pa_cons (pv 5) (pa_cons (pe_op op_add (pv 1) pe_int) pa_nil)))))
      (pss_cons (ps_set (i := 7) sc_law_tree.nd rfl (Or.inl rfl) (pe_cut (pe_callB (call_min2 rfl) rfl m_min PyProof.Rows.boot_min (pa_cons (pe_op op_add (pe_ix ix_list (pv 4) (pe_op op_sub (pv 5) pe_int) (fun _ _ => rfl)) pe_int) (pa_cons pe_int pa_nil)))))
      (pss_one (ps_if (pt_cut (PW.pt (pw_and (pt_cmpR op_eq (pe_op op_mod (pe_op op_fdiv (pv 2) pe_int) pe_int) pe_int (nomark _)) (pw_and1 (pt_cmpR op_gt (pe_op op_mod (pv 6) pe_int) pe_int (nomark _))))))
        (pss_one (ps_expr (pe_bm PySem.F.plainAttrs_list PySem.F.slot_list_append PySem.F.type_list_append mt_append (pv 4) (pa_cons (pv 7) pa_nil))))
        (pss_one (ps_expr (pe_bm PySem.F.plainAttrs_list PySem.F.slot_list_append PySem.F.type_list_append mt_append (pv 4) (pa_cons (pe_op op_add pe_int (pe_op op_mod (pe_op op_fdiv (pv 6) pe_int) (pv 7))) pa_nil)))))))))
    (pss_one (ps_ret (pv 4)))))))), ?_⟩
  refine ⟨_, rfl, _, rfl, a, ns, _, _, rfl, hS, h63, ⟨by decide, by decide⟩, ⟨by omega, by omega⟩, fun n n0 n1 => ?_⟩
  refine ⟨_, rfl, _, _, rfl, rfl, (by show (0 : Int) < 9; decide), _, _, rfl, rfl, ?_⟩
  refine ⟨fun σ' H' => H' = H ∧ ∃ m : Int, 1 ≤ m ∧ m ≤ 40 ∧ σ' = [some (.ref a), some (.int salt), some (.int n), some (.int m), none, none, none, none], ?_, ?_⟩
  · refine ⟨_, rfl, _, _, rfl, rfl, ⟨by decide, by decide⟩, _, _, rfl, rfl, (by show (0 : Int) < 4; decide), rfl, _, rfl, ?_⟩
    refine ite2 (fun _ => ?_) (fun _ => ⟨rfl, _, by omega, by omega, rfl⟩)
    exact ⟨_, rfl, _, _, rfl, rfl, ⟨by decide, by decide⟩, _, _, rfl, rfl, (by show (0 : Int) < 18; decide), _, _, rfl, rfl, rfl, _, by omega, by omega, rfl⟩
  rintro σ1 H1 ⟨rfl, m, m1, m40, rfl⟩
  refine ⟨small_le (by show 1 ≤ 1000; decide), fun p hp => ?_⟩
  have fr := hp
  refine ⟨fun σ' H' => ∃ ds : List Int, Same H1 H' ∧ H' p = some (.lst (ds.map V.int)) ∧ Tr.Good ds ∧ ds.length ≤ 40 ∧ ∃ o5 o6 o7 : Option V, σ' = [some (.ref a), some (.int salt), some (.int n), some (.int m), some (.ref p), o5, o6, o7], ?_, ?_⟩
  · refine ⟨_, rfl, 1, m, rfl, ⟨by decide, by decide, by omega, by omega⟩, ?_⟩
    refine for_range (fun i σ' H' => ∃ ds : List Int, Same H1 H' ∧ H' p = some (.lst (ds.map V.int)) ∧ Tr.Good ds ∧ ds.length = i + 1 ∧ ∃ o5 o6 o7 : Option V, σ' = [some (.ref a), some (.int salt), some (.int n), some (.int m), some (.ref p), o5, o6, o7])
      ⟨[0], same_new hp _, upd_same, .one, rfl, none, none, none, rfl⟩ ?_ ?_
    · rintro i σ' H2 hi ⟨ds, s2, h2, good, hl, o5, o6, o7, rfl⟩
      refine ⟨_, rfl, _, rfl, _, rfl, _, _, rfl, rfl, a, ns, _, _, rfl, s2.seq hS, h63, ⟨by omega, by omega⟩, ⟨by omega, by omega⟩, fun st st0 st1 => ?_⟩
      have lat := last_at (ds := ds) (k := i) (by omega)
      refine ⟨fun v H3 => Same H2 H3 ∧ ∃ t : Int, v = .int t ∧ 1 ≤ t ∧ t ≤ ds.getD i 0 + 1, ?_, ?_⟩
      · have nn := good.nonneg i (by omega)
        refine ⟨_, rfl, _, rfl, _, _, rfl, rfl, p, _, _, _, rfl, rfl, SqL.of h2, (by rw [show (1 + (i : Int)) - 1 = (i : Int) by omega]; exact lat), _, _, rfl, rfl, _, _, rfl, Same.refl _, _, rfl, ?_, ?_⟩
        · split <;> omega
        · split <;> omega
      rintro _ H3 ⟨s3, t, rfl, t1, t2⟩
      have h3 := s3 _ _ h2
      have put : ∀ v : Int, 1 ≤ v → v ≤ t → ∃ ds' : List Int, Same H1 (upd H3 p (.lst (ds.map V.int ++ [.int v]))) ∧ (upd H3 p (.lst (ds.map V.int ++ [.int v]))) p = some (.lst (ds'.map V.int)) ∧ Tr.Good ds' ∧ ds'.length = i + 1 + 1 := fun v v1 v2 => by
        refine ⟨ds ++ [v], same_upd fr (s2.trans s3) _, ?_, good.snoc v1 (by rw [hl, Nat.add_sub_cancel]; omega), by simp [hl]⟩
        rw [upd_same, List.map_append]
        rfl
      refine ⟨fun c H4 => H4 = H3, ?_, ?_⟩
      · refine ⟨_, rfl, _, _, rfl, rfl, ⟨by decide, by decide⟩, _, _, rfl, rfl, (by show (0 : Int) < 3; decide), rfl, _, rfl, ?_⟩
        refine ite2 (fun _ => ?_) (fun _ => rfl)
        exact ⟨_, rfl, _, _, rfl, rfl, (by show (0 : Int) < 4; decide), _, _, rfl, rfl, _, rfl, rfl⟩
      rintro c H4 rfl
      have hl' : (ds.map V.int).length ≤ 1000 := by
        rw [List.length_map]
        omega
      refine ite2 (fun _ => ?_) (fun _ => ?_)
      · obtain ⟨ds', g1, g2, g3, g4⟩ := put t t1 (Int.le_refl _)
        exact ⟨_, rfl, .inl ⟨rfl, _, SqL.of h3⟩, _, rfl, p, _, _, rfl, rfl, h3, small1000 hl', ds', g1, g2, g3, g4, _, _, _, rfl⟩
      · have e0 := Int.emod_nonneg (st / 4) (show t ≠ 0 by omega)
        have e1 := Int.emod_lt_of_pos (st / 4) (show 0 < t by omega)
        obtain ⟨ds', g1, g2, g3, g4⟩ := put (1 + st / 4 % t) (by omega) (by omega)
        exact ⟨_, rfl, .inl ⟨rfl, _, SqL.of h3⟩, _, rfl, _, _, rfl, rfl, ⟨by decide, by decide⟩, _, rfl, _, _, rfl, rfl, (by show 0 < t; omega), _, _, rfl, rfl, p, _, _, rfl, rfl, h3, small1000 hl', ds', g1, g2, g3, g4, _, _, _, rfl⟩
    · rintro σ' H2 ⟨ds, s2, h2, good, hl, o5, o6, o7, rfl⟩
      exact ⟨ds, s2, h2, good, by omega, o5, o6, o7, rfl⟩
  rintro σ' H2 ⟨ds, s2, h2, good, hl, o5, o6, o7, rfl⟩
  exact ⟨_, rfl, q p ds H2 s2 fr h2 good hl⟩
end
end Mix

namespace Mix
open PySem L2 Gds Rms
/-! an opening by the cells: the same def in many laws -/
def spOpening (K : PySem.W.Frag) : Sp := fun vs H Q _ => ∃ (a t pp : Addr) (ns ds : List Int) (rs : List Rm) (salt : Int), vs = [.ref a, .ref t, .ref pp, .int salt] ∧ SqL K H a (ns.map V.int) ∧ ns.length ≤ 63 ∧ Rooms H t rs ∧ H pp = some (.lst (parsV ds ds.length)) ∧ ds.length = rs.length ∧ 1 ≤ rs.length ∧ rs.length ≤ 40 ∧ (0 ≤ salt ∧ salt ≤ 100) ∧
  ∀ (p : Addr) (os : List Nat) (H' : Hp), Same H H' → H p = none → H' p = some (.lst (natsV os)) → (∀ o ∈ os, o < rs.length) → os.length ≤ 40 → os.Pairwise (· < ·) → 0 ∈ os → Q (.ref p) H'
theorem scP (x y : Option Nat) : scal (pV x) (pV y) = true := by cases x <;> cases y <;> rfl
theorem nats_flat (os : List Nat) : (natsV os).all flatV = true := by
  rw [List.all_eq_true]
  intro x hx
  obtain ⟨n, _, rfl⟩ := List.mem_map.mp hx
  rfl
theorem nats_in {os : List Nat} {j : Int} (h : inV (.int j) (natsV os) = true) : ∃ o ∈ os, (o : Int) = j := by
  unfold inV natsV at h
  rw [List.any_map, List.any_eq_true] at h
  obtain ⟨o, ho, e⟩ := h
  exact ⟨o, ho, by simpa [eqV] using e⟩
theorem nats_non (os : List Nat) : inV .non (natsV os) = false := by
  unfold inV natsV
  rw [List.any_map, List.any_eq_false]
  intro x hx e
  cases e
theorem natsV_at {os : List Nat} {i : Int} (h0 : 0 ≤ i) (h1 : i < (os.length : Int)) : ∃ o ∈ os, atI (natsV os) i = some (.int (o : Int)) := by
  obtain ⟨v, hv, e⟩ := atI_some (xs := natsV os) (i := i) h0 (by unfold natsV; rw [List.length_map]; exact h1)
  obtain ⟨o, ho, rfl⟩ := List.mem_map.mp hv
  exact ⟨o, ho, e⟩
theorem natsV_len (os : List Nat) : (natsV os).length = os.length := List.length_map _
theorem natsV_app (os : List Nat) (k : Nat) : natsV os ++ [.int (k : Int)] = natsV (os ++ [k]) := by
  unfold natsV
  rw [List.map_append]
  rfl
section
variable {P : Program} {w : World} {K : PySem.W.Frag} {mg : Str → Option Value} {base : Heap}
theorem sc_law_opening : FnScope ["_law_script", "_law_rooms_here", "_law_parents_here", "_law_salt", "_law_opened", "_law_k", "_law_above", "_law_near", "_law_pick"] ["_law_script", "_law_rooms_here", "_law_parents_here", "_law_salt"] (defScope sOpening) := ⟨rfl, rfl, rfl, by decide +kernel, rfl, by decide +kernel, by decide +kernel⟩
theorem ok_opening {f gm : Addr} {fd dm : FuncData} (F : Fun K "_law_opening" "_law_opening" sOpening f fd)
    (G_law_mixed : FnOk P w K mg base CX0 2 gm dm ["_law_script", "_law_k", "_law_salt"] (spMixed K)) (b_law_mixed : Binds K dm ["_law_script", "_law_k", "_law_salt"] []) (k_law_mixed : PySem.W.keepIn K (.ref gm) = true) (m_law_mixed : mg "_law_mixed" = some (.ref gm))
    (m_range : mg "range" = none) (m_len : mg "len" = none) : FnOk P w K mg base CX0 3 f fd ["_law_script", "_law_rooms_here", "_law_parents_here", "_law_salt"] (spOpening K) := by
  refine F.ok sc_law_opening (fun vs H Q E h => ?_) (fun cdv A outer s H vs Q E hr h => ?_)
  · obtain ⟨a, t, pp, ns, ds, rs, salt, rfl, _⟩ := h
    rfl
  obtain ⟨a, t, pp, ns, ds, rs, salt, rfl, hS, h63, hR, hpp, ld, l1, l40, ⟨t0, t1⟩, q⟩ := h
  refine ⟨_, (pss_cons (ps_set (i := 4) sc_law_opening.nd rfl (Or.inl rfl) (pe_lst (pa_cons pe_int pa_nil)))
    (pss_cut (ps_for PassesOwn.never rfl (pi_range2 rfl m_range (pa_cons pe_int (pa_cons (pe_callB call_len_seq rfl m_len PySem.boot_len (pa_cons (pv 1) pa_nil)) pa_nil))) (pg_name (i := 5) sc_law_opening.nd rfl (Or.inl rfl))
      (pss_cons (ps_set (i := 6) sc_law_opening.nd rfl (Or.inr rfl) (pe_ix ix_list (pv 2) (pv 5) (fun _ _ => rfl)))
      (pss_one (ps_if (pt_cmpR op_in_seq (pv 6) (pv 4) rfl)
        (pss_cons (ps_setC (i := 7) (caps := [(6, "_law_above"), (2, "_law_parents_here")]) rfl sc_law_opening.nd rfl (Or.inl rfl) (show CompSc (defScope sOpening) ["_law_script", "_law_rooms_here", "_law_parents_here", "_law_salt", "_law_opened", "_law_k", "_law_above", "_law_near", "_law_pick"] _ _ _ from ⟨rfl, rfl, by decide +kernel, by decide +kernel, by decide +kernel, by decide +kernel, by decide +kernel⟩) (pi_range1 rfl m_range (pa_cons (pe_callB call_len_seq rfl m_len PySem.boot_len (pa_cons (pv 1) pa_nil)) pa_nil)) (fun _ _ _ _ _ _ => pifs_one (pt_cmpR op_eq (pe_ix (r := rIxL K) ix_list (pv 2) (pv 0) (fun _ _ => rfl)) (pv 1) (nomark _))) (fun _ _ _ _ _ _ => (pv 0)))
        (pss_cons (ps_set (i := 8) sc_law_opening.nd rfl (Or.inl rfl) (pe_ix ix_list (pv 7) (pe_op op_mod (pe_call G_law_mixed hr rfl m_law_mixed k_law_mixed b_law_mixed .nil pass0 (pa_cons (pv 0) (pa_cons (pv 6) (pa_cons (pv 3) pa_nil)))) (pe_callB call_len_seq rfl m_len PySem.boot_len (pa_cons (pv 7) pa_nil))) (fun _ _ => rfl)))
        (pss_one (ps_if (pt_cut (PW.pt (pw_or (pt_cmpR op_eq (pe_ix ix_tup (pe_ix ix_tup (pv 1) (pv 6) (fun _ _ => rfl)) pe_int (fun _ _ => rfl)) pe_str (nomark _)) (pw_or1 (pt_cmpR op_eq (pv 8) (pv 5) (nomark _))))))
          (pss_one (ps_expr (pe_bm PySem.F.plainAttrs_list PySem.F.slot_list_append PySem.F.type_list_append mt_append (pv 4) (pa_cons (pv 5) pa_nil))))
          pss_nil))))
        pss_nil))))
    (pss_one (ps_ret (pv 4))))), ?_⟩
  obtain ⟨rv, htr, hrs⟩ := hR
  have lrv := hrs.length
  refine ⟨small_le (by show 1 ≤ 1000; decide), fun po hpo => ?_⟩
  have s1 := same_new hpo (.lst [V.int 0])
  refine ⟨fun σ' H' => ∃ os : List Nat, Same H H' ∧ H' po = some (.lst (natsV os)) ∧ (∀ o ∈ os, o < rs.length) ∧ os.length ≤ 40 ∧ os.Pairwise (· < ·) ∧ 0 ∈ os ∧ ∃ o5 o6 o7 o8 : Option V, σ' = [some (.ref a), some (.ref t), some (.ref pp), some (.int salt), some (.ref po), o5, o6, o7, o8], ?_, ?_⟩
  · refine ⟨_, rfl, t, _, rfl, .inr (SqT.of (s1 _ _ htr)), 1, (rv.length : Int), rfl, ⟨by decide, by decide, by omega, by omega⟩, ?_⟩
    refine for_range (fun i σ' H' => ∃ os : List Nat, Same H H' ∧ H' po = some (.lst (natsV os)) ∧ (∀ o ∈ os, o < 1 + i) ∧ os.length ≤ 1 + i ∧ os.Pairwise (· < ·) ∧ 0 ∈ os ∧ ∃ o5 o6 o7 o8 : Option V, σ' = [some (.ref a), some (.ref t), some (.ref pp), some (.int salt), some (.ref po), o5, o6, o7, o8])
      ⟨[0], s1, upd_same, fun o ho => (by rw [List.mem_singleton.mp ho]; omega), (by show 1 ≤ 1 + 0; decide), List.pairwise_singleton _ _, List.mem_singleton.mpr rfl, _, _, _, _, rfl⟩ ?_ ?_
    · rintro i σ' H2 hi ⟨os, s2, h2, hos, los, inc, zin, o5, o6, o7, o8, rfl⟩
      have hi' : 1 + i < rs.length := by omega
      have hk : (1 : Int) + (i : Int) = ((1 + i : Nat) : Int) := by omega
      have hat : atI (parsV ds ds.length) (1 + (i : Int)) = some (pV (Tr.par ds (1 + i))) := by
        rw [hk]
        exact atI_nat (parsV_at ds (by omega))
      refine ⟨_, rfl, _, rfl, pp, _, _, _, rfl, rfl, SqL.of (s2 _ _ hpp), hat, ?_⟩
      have skip : ∀ (H' : Hp) (x6 x7 x8 : Option V), Same H H' → H' po = some (.lst (natsV os)) → ∃ os' : List Nat, Same H H' ∧ H' po = some (.lst (natsV os')) ∧ (∀ o ∈ os', o < 1 + (i + 1)) ∧ os'.length ≤ 1 + (i + 1) ∧ os'.Pairwise (· < ·) ∧ 0 ∈ os' ∧ ∃ o5 o6 o7 o8 : Option V, [some (.ref a), some (.ref t), some (.ref pp), some (.int salt), some (.ref po), some (.int (1 + (i : Int))), x6, x7, x8] = [some (.ref a), some (.ref t), some (.ref pp), some (.int salt), some (.ref po), o5, o6, o7, o8] := fun H' x6 x7 x8 s h => ⟨os, s, h, fun o ho => by have := hos o ho; omega, by omega, inc, zin, _, _, _, _, rfl⟩
      cases hpar : Tr.par ds (1 + i) with
      | none => exact ⟨_, rfl, _, rfl, po, _, rfl, .inl (SqL.of h2), rfl, nats_flat os, _, rfl, ifF (nats_non os) (skip _ _ _ _ s2 h2)⟩
      | some j =>
        refine ⟨_, rfl, _, rfl, po, _, rfl, .inl (SqL.of h2), rfl, nats_flat os, _, rfl, ?_⟩
        refine itB (fun c => ?_) (fun _ => skip _ _ _ _ s2 h2)
        obtain ⟨j', hj', ej⟩ := nats_in c
        have hj : j < rs.length := by
          have := hos j' hj'
          omega
        refine ⟨_, rfl, t, _, rfl, .inr (SqT.of (s2 _ _ htr)), _, rfl, by omega, by omega, ?_⟩
        refine comp_range (fun i' acc H' => H' = H2 ∧ ∃ js : List Nat, acc = natsV js ∧ js.length ≤ i' ∧ (1 + i < i' → 1 + i ∈ js)) ⟨rfl, [], rfl, Nat.le_refl _, fun z => by omega⟩ (fun i' acc H' hi2 ⟨e1, js, e2, e3, e4⟩ => ?_) (fun acc H' ⟨e1, js, e2, e3, e4⟩ p2 hp2 => ?_)
        · subst e1 e2
          have hi3 : i' < ds.length := by omega
          have hat2 : atI (parsV ds ds.length) (0 + (i' : Int)) = some (pV (Tr.par ds i')) := by
            rw [Int.zero_add]
            exact atI_nat (parsV_at ds hi3)
          refine ⟨_, rfl, _, rfl, pp, _, _, _, rfl, rfl, SqL.of (s2 _ _ hpp), hat2, _, rfl, scP _ _, _, rfl, ?_⟩
          refine itB (fun c => ?_) (fun c => ?_)
          · refine ⟨_, rfl, small1000 (by rw [natsV_len]; omega), rfl, js ++ [i'], ?_, by simp; omega, fun z => ?_⟩
            · rw [← natsV_app, Int.zero_add]
            · by_cases e : 1 + i = i'
              · rw [e]
                exact List.mem_append_right _ (List.mem_singleton.mpr rfl)
              · exact List.mem_append_left _ (e4 (by omega))
          · refine ⟨rfl, js, rfl, by omega, fun z => ?_⟩
            by_cases e : 1 + i = i'
            · exfalso
              rw [← e, hpar] at c
              have c' := of_decide_eq_false c
              exact c' rfl
            · exact e4 (by omega)
        subst e1 e2
        have hmem := e4 (by omega)
        have ljs : 0 < js.length := List.length_pos_of_mem hmem
        have s3 := same_new hp2 (.lst (natsV js))
        have s23 := s2.trans s3
        have h3 := s3 _ _ h2
        refine ⟨_, rfl, _, rfl, _, rfl, _, rfl, a, ns, _, _, rfl, s23.seq hS, h63, ⟨by omega, by omega⟩, ⟨by omega, by omega⟩, fun y y0 y1 => ?_⟩
        have ln := natsV_len js
        obtain ⟨pk, _, hpk⟩ := natsV_at (os := js) (i := y % (((natsV js).length : Nat) : Int)) (Int.emod_nonneg _ (by omega)) (by
          have := Int.emod_lt_of_pos y (show (0 : Int) < (((natsV js).length : Nat) : Int) by omega)
          omega)
        refine ⟨_, rfl, p2, _, rfl, .inl (SqL.of upd_same), _, _, rfl, rfl, (by show (0 : Int) < (((natsV js).length : Nat) : Int); omega), p2, _, _, _, rfl, rfl, SqL.of upd_same, hpk, ?_⟩
        obtain ⟨v2, hv2, a2, rfl, ha2⟩ := hrs.get (List.getElem?_eq_getElem hj)
        generalize hH3 : upd H' p2 (.lst (natsV js)) = H3 at s3 s23 h3 ⊢
        refine ⟨fun c H4 => H4 = H3, ?_, ?_⟩
        · refine ⟨_, rfl, _, rfl, t, _, _, _, rfl, rfl, SqT.of (s23 _ _ htr), atI_nat hv2, a2, _, _, _, rfl, rfl, SqT.of (s23 _ _ ha2), rfl, rfl, _, rfl, ?_⟩
          refine itB (fun _ => rfl) (fun _ => ?_)
          exact ⟨_, rfl, _, rfl, rfl, _, rfl, rfl⟩
        rintro c2 H4 rfl
        refine itB (fun _ => ?_) (fun _ => skip _ _ _ _ s23 h3)
        refine ⟨_, rfl, .inl ⟨rfl, _, SqL.of h3⟩, _, rfl, po, _, _, rfl, rfl, h3, small1000 (by rw [natsV_len]; omega), os ++ [1 + i], same_upd hpo s23 _, ?_, fun o ho => ?_, by simp; omega, ?_, List.mem_append_left _ zin, _, _, _, _, rfl⟩
        · rw [upd_same, ← natsV_app, hk]
        · rcases List.mem_append.mp ho with h | h
          · have := hos o h
            omega
          · rw [List.mem_singleton.mp h]
            omega
        · refine List.pairwise_append.mpr ⟨inc, List.pairwise_singleton _ _, fun x hx y hy => ?_⟩
          rw [List.mem_singleton.mp hy]
          exact hos x hx
    · rintro σ' H2 ⟨os, s2, h2, hos, los, inc, zin, o5, o6, o7, o8, rfl⟩
      exact ⟨os, s2, h2, fun o ho => by have := hos o ho; omega, by omega, inc, zin, o5, o6, o7, o8, rfl⟩
  rintro σ' H2 ⟨os, s2, h2, hos, los, inc, zin, o5, o6, o7, o8, rfl⟩
  exact ⟨_, rfl, q po os H2 s2 hpo h2 hos los inc zin⟩
end
end Mix

namespace Prg
open PySem L2 Mix Gds Rms
/-! rows of the numbers of rooms -/
theorem filter_succ {os : List Nat} {f : Nat → Bool} {i o : Nat} (h : os[i]? = some o) : (os.take (i + 1)).filter f = (os.take i).filter f ++ (if f o = true then [o] else []) := by
  rw [List.take_add_one, h, List.filter_append]
  congr 1
  show [o].filter f = _
  rw [List.filter_cons]
  split <;> rfl
theorem natsV_get {os : List Nat} {i : Nat} {x : V} (h : (natsV os)[i]? = some x) : ∃ hi : i < os.length, x = .int ((os[i] : Nat) : Int) := by
  have hi : i < os.length := by
    have := (List.getElem?_eq_some_iff.mp h).1
    rw [natsV_len] at this
    exact this
  refine ⟨hi, ?_⟩
  unfold natsV at h
  rw [List.getElem?_map, List.getElem?_eq_getElem hi] at h
  exact (Option.some.inj h).symm
end Prg

namespace Mix
open PySem L2 Gds Rms
/-! rooms by their depths, with kinds and keeps by the cells -/
def K3 (x : Str) : Prop := x = ("" : Str) ∨ x = ("near" : Str) ∨ x = ("deep" : Str)
def NearOne (rs : List Rm) : Prop := ∀ r ∈ rs, (r.keeps = ("near" : Str) → r.kind = ("one" : Str)) ∧ K3 r.keeps
def spRooms (K : PySem.W.Frag) : Sp := fun vs H Q _ => ∃ (a pd : Addr) (ns ds : List Int), vs = [.ref a, .ref pd] ∧ SqL K H a (ns.map V.int) ∧ ns.length ≤ 63 ∧ H pd = some (.lst (ds.map V.int)) ∧ ds.length ≤ 40 ∧
  ∀ (t : Addr) (rs : List Rm) (H' : Hp), Same H H' → Rooms H' t rs → depths rs = ds → Fit rs → NearOne rs → Q (.ref t) H'
section
variable {P : Program} {w : World} {K : PySem.W.Frag} {mg : Str → Option Value} {base : Heap}
theorem sc_law_rooms : FnScope ["_law_script", "_law_depths", "_law_rooms_here", "_law_some", "_law_rest", "_law_at", "_law_k", "_law_number", "_law_kind", "_law_keeps", "_law_name"] ["_law_script", "_law_depths"] (defScope sRooms) := ⟨rfl, rfl, rfl, by decide +kernel, rfl, by decide +kernel, by decide +kernel⟩
theorem ok_rooms {f gm : Addr} {fd dm : FuncData} (F : Fun K "_law_rooms" "_law_rooms" sRooms f fd) (G_law_mixed : FnOk P w K mg base CX0 2 gm dm ["_law_script", "_law_k", "_law_salt"] (spMixed K)) (b_law_mixed : Binds K dm ["_law_script", "_law_k", "_law_salt"] []) (k_law_mixed : PySem.W.keepIn K (.ref gm) = true) (m_law_mixed : mg "_law_mixed" = some (.ref gm))
    (m_range : mg "range" = none) (m_len : mg "len" = none) (m_tuple : mg "tuple" = none) : FnOk P w K mg base CX0 3 f fd ["_law_script", "_law_depths"] (spRooms K) := by
  refine F.ok sc_law_rooms (fun vs H Q E h => ?_) (fun cdv A outer s H vs Q E hr h => ?_)
  · obtain ⟨a, pd, ns, ds, rfl, _⟩ := h
    rfl
  obtain ⟨a, pd, ns, ds, rfl, hS, h63, hd, h40, q⟩ := h
  refine ⟨_, (pss_cons (ps_set (i := 2) sc_law_rooms.nd rfl (Or.inl rfl) (pe_lst pa_nil))
    (pss_cons (ps_set (i := 3) sc_law_rooms.nd rfl (Or.inl rfl) (pe_call G_law_mixed hr rfl m_law_mixed k_law_mixed b_law_mixed .nil pass0 (pa_cons (pv 0) (pa_cons pe_int (pa_cons pe_int pa_nil)))))
    (pss_cons (ps_set (i := 4) sc_law_rooms.nd rfl (Or.inl rfl) (pe_cut (pe_ix ix_list (pe_lst (pa_cons pe_str (pa_cons pe_str (pa_cons pe_str (pa_cons pe_str pa_nil))))) (pe_op op_mod (pv 3) pe_int) (fun _ _ => rfl))))
    (pss_cons (ps_set (i := 5) sc_law_rooms.nd rfl (Or.inl rfl) (pe_cut (pe_op op_mod (pe_op op_fdiv (pv 3) pe_int) (pe_op op_add (pe_callB call_len_str rfl m_len PySem.boot_len (pa_cons (pv 4) pa_nil)) pe_int))))
    (pss_cut (ps_for PassesOwn.never rfl (pi_range1 rfl m_range (pa_cons (pe_callB call_len_seq rfl m_len PySem.boot_len (pa_cons (pv 1) pa_nil)) pa_nil)) (pg_name (i := 6) sc_law_rooms.nd rfl (Or.inl rfl))
      (pss_cons (ps_set (i := 7) sc_law_rooms.nd rfl (Or.inl rfl) (pe_call G_law_mixed hr rfl m_law_mixed k_law_mixed b_law_mixed .nil pass0 (pa_cons (pv 0) (pa_cons (pv 6) (pa_cons pe_int pa_nil)))))
      (pss_cons (ps_set (i := 8) sc_law_rooms.nd rfl (Or.inl rfl) pe_str)
      (pss_cons (ps_set (i := 9) sc_law_rooms.nd rfl (Or.inl rfl) pe_str)
      (pss_cut (ps_if (pt_cut (PW.pt (pw_and (pt_cmpR op_lt (pe_op op_add (pv 6) pe_int) (pe_callB call_len_seq rfl m_len PySem.boot_len (pa_cons (pv 1) pa_nil)) (nomark _)) (pw_and1 (pt_cmpR op_gt (pe_ix ix_list (pv 1) (pe_op op_add (pv 6) pe_int) (fun _ _ => rfl)) (pe_ix ix_list (pv 1) (pv 6) (fun _ _ => rfl)) (nomark _))))))
        (pss_cons (ps_set (i := 8) sc_law_rooms.nd rfl (Or.inl rfl) (pe_ix ix_list (pe_lst (pa_cons pe_str (pa_cons pe_str pa_nil))) (pe_op op_mod (pv 7) pe_int) (fun _ _ => rfl)))
        (pss_one (ps_set (i := 9) sc_law_rooms.nd rfl (Or.inl rfl) (pe_ix ix_list (pe_lst (pa_cons pe_str (pa_cons pe_str (pa_cons pe_str pa_nil)))) (pe_op op_mod (pe_op op_fdiv (pv 7) pe_int) pe_int) (fun _ _ => rfl)))))
        pss_nil)
      (pss_cut (ps_if (pt_cut (PW.pt (pw_and (pt_cmpR op_eq (pv 8) pe_str (nomark _)) (pw_and1 (pt_cmpR op_eq (pv 9) pe_str (nomark _))))))
        (pss_one (ps_set (i := 9) sc_law_rooms.nd rfl (Or.inl rfl) pe_str))
        pss_nil)
      (pss_cons (ps_set (i := 10) sc_law_rooms.nd rfl (Or.inl rfl) (pe_cut (pe_op op_add_str (pe_op op_add_str (pe_op op_add_str (pe_slice sl_str (pv 4) po_none (po_some (pv 5))) (pe_ix ix_str pe_str (pe_op op_mod (pv 6) pe_int) (fun _ _ => rfl))) (pe_ix ix_str pe_str (pe_op op_fdiv (pv 6) pe_int) (fun _ _ => rfl))) (pe_slice sl_str (pv 4) (po_some (pv 5)) po_none))))
      (pss_one (ps_expr (pe_bm PySem.F.plainAttrs_list PySem.F.slot_list_append PySem.F.type_list_append mt_append (pv 2) (pa_cons (pe_tup (pa_cons (pv 10) (pa_cons (pv 8) (pa_cons (pe_ix ix_list (pv 1) (pv 6) (fun _ _ => rfl)) (pa_cons (pv 9) (pa_cons pe_str (pa_cons (pe_tup pa_nil) (pa_cons (pe_tup pa_nil) pa_nil)))))))) pa_nil)))))))))))
    (pss_one (ps_ret (pe_callTy call_tuple_of rfl m_tuple PyProof.Rows.boot_tuple (pa_cons (pv 2) pa_nil))))))))), ?_⟩
  have lds : (ds.map V.int).length = ds.length := List.length_map _
  have sl : ∀ (z : Str) (lo hi : Option Int), z.length ≤ 10 → (Txt.slice z lo hi).length ≤ 10 := fun z lo hi h => Nat.le_trans (Txt.slice_le z lo hi) h
  refine ⟨Nat.zero_le _, fun pr hpr => ?_⟩
  have s1 := same_new hpr (.lst [])
  refine ⟨_, rfl, a, ns, 1, 3, rfl, s1.seq hS, h63, ⟨by decide, by decide⟩, ⟨by decide, by decide⟩, fun r r0 r1 => ?_⟩
  refine ⟨fun v H' => Same (upd H pr (.lst [])) H' ∧ ∃ z : Str, v = .str z ∧ z.length ≤ 10, ?_, ?_⟩
  · refine ⟨small_le (by show 4 ≤ 1000; decide), fun p2 hp2 => ?_⟩
    obtain ⟨v, hv, hat⟩ := atI_some (xs := [V.str "", V.str "yard", V.str "attic", V.str "bbbbbbbbbb"]) (i := r % 4) (by omega) (by show r % 4 < 4; omega)
    obtain ⟨z, rfl, hz⟩ : ∃ z : Str, v = .str z ∧ z.length ≤ 10 := by
      simp only [List.mem_cons, List.not_mem_nil, or_false] at hv
      rcases hv with rfl | rfl | rfl | rfl <;> exact ⟨_, rfl, by decide +kernel⟩
    exact ⟨_, rfl, _, _, rfl, rfl, (by show (0 : Int) < 4; decide), p2, _, _, _, rfl, rfl, SqL.of upd_same, hat, same_new hp2 _, z, rfl, hz⟩
  rintro _ H2 ⟨s2, z, rfl, hz⟩
  have hz' : z.length ≤ sizeLine := small_le (by omega)
  refine ⟨fun v H' => H' = H2 ∧ ∃ t : Int, v = .int t, ?_, ?_⟩
  · exact ⟨_, rfl, _, _, rfl, rfl, ⟨by decide, by decide⟩, _, rfl, z, rfl, hz', _, _, rfl, rfl, _, _, rfl, rfl, (by show (0 : Int) < (z.length : Int) + 1; omega), rfl, _, rfl⟩
  rintro _ H2 ⟨rfl, at', rfl⟩
  have hd2 := s2 _ _ (s1 _ _ hd)
  have hr2 := s2 _ _ (upd_same (H := H) (a := pr) (o := .lst []))
  have s12 := s1.trans s2
  refine ⟨fun σ' H' => ∃ (vs : List V) (rs : List Rm), Same H H' ∧ H' pr = some (.lst vs) ∧ RmsIn H' vs rs ∧ depths rs = ds ∧ Fit rs ∧ NearOne rs ∧ ∃ o6 o7 o8 o9 o10 : Option V, σ' = [some (.ref a), some (.ref pd), some (.ref pr), some (.int r), some (.str z), some (.int at'), o6, o7, o8, o9, o10], ?_, ?_⟩
  · refine ⟨_, rfl, pd, _, rfl, .inl (SqL.of hd2), _, rfl, by omega, by rw [lds]; omega, ?_⟩
    refine for_range (fun i σ' H' => ∃ (vs : List V) (rs : List Rm), Same H H' ∧ H' pr = some (.lst vs) ∧ RmsIn H' vs rs ∧ depths rs = ds.take i ∧ rs.length = i ∧ (∀ (k : Nat) (x : Rm), rs[k]? = some x → if k + 1 < ds.length ∧ ds.getD k 0 < ds.getD (k + 1) 0 then (x.kind = "one" ∨ x.kind = "all") else x.kind = "plain") ∧ NearOne rs ∧
      ∃ o6 o7 o8 o9 o10 : Option V, σ' = [some (.ref a), some (.ref pd), some (.ref pr), some (.int r), some (.str z), some (.int at'), o6, o7, o8, o9, o10]) ⟨[], [], s12, hr2, .nil, rfl, rfl, (fun k x h => by simp at h), (fun x h => by cases h), none, none, none, none, none, rfl⟩ ?_ ?_
    · rintro i σ' H3 hi ⟨vs, rs, s3, h3, hI, hdep, hlen, hkd, hno, o6, o7, o8, o9, o10, rfl⟩
      have hi' : i < ds.length := by
        simp only [List.length_map, Int.toNat_natCast] at hi
        exact hi
      have hd3 := s3 _ _ hd
      have hat : atI (ds.map V.int) (0 + (i : Int)) = some (.int (ds.getD i 0)) := by
        rw [Int.zero_add]
        exact last_at hi'
      refine ⟨_, rfl, _, rfl, a, ns, _, _, rfl, s3.seq hS, h63, ⟨by omega, by omega⟩, ⟨by decide, by decide⟩, fun x x0 x1 => ?_⟩
      refine ⟨fun σ' H4 => Same H3 H4 ∧ ∃ kd kp : Str, K3 kp ∧ (if i + 1 < ds.length ∧ ds.getD i 0 < ds.getD (i + 1) 0 then (kd = "one" ∨ kd = "all") else (kd = "plain" ∧ kp = "")) ∧ ∃ o10 : Option V, σ' = [some (.ref a), some (.ref pd), some (.ref pr), some (.int r), some (.str z), some (.int at'), some (.int (0 + (i : Int))), some (.int x), some (.str kd), some (.str kp), o10], ?_, ?_⟩
      · refine ⟨fun c H4 => H4 = H3 ∧ c = decide (i + 1 < ds.length ∧ ds.getD i 0 < ds.getD (i + 1) 0), ?_, ?_⟩
        · refine ⟨_, rfl, _, _, rfl, rfl, _, rfl, pd, _, rfl, .inl (SqL.of hd3), _, _, rfl, rfl, _, rfl, ?_⟩
          refine ite2 (fun c => ?_) (fun c => ⟨rfl, ?_⟩)
          · have c' : (0 : Int) + (i : Int) + 1 < (((ds.map V.int).length : Nat) : Int) := of_decide_eq_true c
            rw [lds] at c'
            have hat2 : atI (ds.map V.int) (0 + (i : Int) + 1) = some (.int (ds.getD (i + 1) 0)) := by
              rw [show (0 : Int) + (i : Int) + 1 = ((i + 1 : Nat) : Int) by omega]
              exact last_at (by omega)
            refine ⟨_, rfl, _, rfl, _, _, rfl, rfl, pd, _, _, _, rfl, rfl, SqL.of hd3, hat2, _, rfl, _, rfl, pd, _, _, _, rfl, rfl, SqL.of hd3, hat, _, _, rfl, rfl, _, rfl, rfl, ?_⟩
            have e : i + 1 < ds.length := by omega
            simp [e]
          · have c' : ¬ (0 : Int) + (i : Int) + 1 < (((ds.map V.int).length : Nat) : Int) := fun z => c (decide_eq_true z)
            rw [lds] at c'
            have e : ¬ i + 1 < ds.length := by omega
            simp [e]
        rintro c H4 ⟨rfl, hc⟩
        refine ite2 (fun c1 => ?_) (fun c1 => ?_)
        · rw [c1] at hc
          have hc' := of_decide_eq_true hc.symm
          refine ⟨small_le (by show 2 ≤ 1000; decide), fun p5 hp5 => ?_⟩
          have s5 := same_new hp5 (.lst [V.str "one", V.str "all"])
          obtain ⟨v, hv, hat2⟩ := atI_some (xs := [V.str "one", V.str "all"]) (i := x % 2) (by omega) (by show x % 2 < 2; omega)
          obtain ⟨kd, rfl, hkd2⟩ : ∃ kd : Str, v = .str kd ∧ (kd = "one" ∨ kd = "all") := by
            simp only [List.mem_cons, List.not_mem_nil, or_false] at hv
            rcases hv with rfl | rfl
            · exact ⟨_, rfl, .inl rfl⟩
            · exact ⟨_, rfl, .inr rfl⟩
          refine ⟨_, rfl, _, _, rfl, rfl, (by show (0 : Int) < 2; decide), p5, _, _, _, rfl, rfl, SqL.of upd_same, hat2, ?_⟩
          refine ⟨small_le (by show 3 ≤ 1000; decide), fun p6 hp6 => ?_⟩
          have s6 := s5.trans (same_new hp6 (.lst [V.str "", V.str "near", V.str "deep"]))
          obtain ⟨v2, hv2, hat3⟩ := atI_some (xs := [V.str "", V.str "near", V.str "deep"]) (i := x / 2 % 3) (by omega) (by show x / 2 % 3 < 3; omega)
          obtain ⟨kp, rfl, k3⟩ : ∃ kp : Str, v2 = .str kp ∧ K3 kp := by
            simp only [List.mem_cons, List.not_mem_nil, or_false] at hv2
            rcases hv2 with rfl | rfl | rfl
            · exact ⟨_, rfl, .inl rfl⟩
            · exact ⟨_, rfl, .inr (.inl rfl)⟩
            · exact ⟨_, rfl, .inr (.inr rfl)⟩
          exact ⟨_, rfl, _, _, rfl, rfl, ⟨by decide, by decide⟩, _, _, rfl, rfl, (by show (0 : Int) < 3; decide), p6, _, _, _, rfl, rfl, SqL.of upd_same, hat3, s6, kd, kp, k3, (by rw [if_pos hc']; exact hkd2), _, rfl⟩
        · rw [Bool.eq_false_iff.mpr c1] at hc
          have hc' := of_decide_eq_false hc.symm
          exact ⟨Same.refl _, _, _, .inl rfl, (by rw [if_neg hc']; exact ⟨rfl, rfl⟩), _, rfl⟩
      rintro σ4 H4 ⟨s4, kd, kp, k3, hkd4, o10', rfl⟩
      refine ⟨fun σ' H' => H' = H4 ∧ ∃ kp' : Str, ((kp' = "near" → kd = "one") ∧ K3 kp') ∧ σ' = [some (.ref a), some (.ref pd), some (.ref pr), some (.int r), some (.str z), some (.int at'), some (.int (0 + (i : Int))), some (.int x), some (.str kd), some (.str kp'), o10'], ?_, ?_⟩
      · have kall : kd = "one" ∨ kd = "all" ∨ kp = "" := by
          split at hkd4
          · exact hkd4.elim .inl fun h => .inr (.inl h)
          · exact .inr (.inr hkd4.2)
        refine ⟨fun c H' => H' = H4 ∧ c = (decide (kd = ("all" : Str)) && decide (kp = ("near" : Str))), ?_, ?_⟩
        · have e1 : decide (V.str kd = V.str ("all" : Str)) = decide (kd = ("all" : Str)) := decide_eq_decide.mpr ⟨fun z => by injection z, fun z => by rw [z]⟩
          have e2 : decide (V.str kp = V.str ("near" : Str)) = decide (kp = ("near" : Str)) := decide_eq_decide.mpr ⟨fun z => by injection z, fun z => by rw [z]⟩
          refine ⟨_, rfl, rfl, _, rfl, ?_⟩
          refine itB (fun c => ?_) (fun c => ⟨rfl, by rw [← e1, show decide (V.str kd = V.str ("all" : Str)) = false from c, Bool.false_and]⟩)
          refine ⟨_, rfl, rfl, _, rfl, rfl, ?_⟩
          rw [← e1, show decide (V.str kd = V.str ("all" : Str)) = true from c, Bool.true_and]
          exact e2
        rintro c H' ⟨rfl, rfl⟩
        refine itB (fun c => ⟨rfl, "", ⟨fun z => absurd z (by decide), .inl rfl⟩, rfl⟩) (fun c => ⟨rfl, kp, ⟨fun z => ?_, k3⟩, rfl⟩)
        rw [decide_eq_true z, Bool.and_true] at c
        rcases kall with h | h | h
        · exact h
        · exact absurd h (of_decide_eq_false c)
        · rw [h] at z
          exact absurd z (by decide)
      rintro σ5 H5 ⟨rfl, kp', hnear, rfl⟩
      refine ⟨fun v H' => H' = H5 ∧ ∃ y : Str, v = .str y, ?_, ?_⟩
      · obtain ⟨c1, _, h1⟩ := atI_some (xs := ("abcdefgh" : Str).cps.toList) (i := (0 + (i : Int)) % 8) (by omega) (by show (0 + (i : Int)) % 8 < 8; omega)
        obtain ⟨c2, _, h2⟩ := atI_some (xs := ("ijklm" : Str).cps.toList) (i := (0 + (i : Int)) / 8) (by omega) (by show (0 + (i : Int)) / 8 < 5; omega)
        have l1 := sl z none (some at') hz
        have l2 := sl z (some at') none hz
        have la : ∀ x y : Str, (x ++ y).length = x.length + y.length := fun x y => by
          show (x.cps ++ y.cps).size = _
          rw [Array.size_append]
          rfl
        have lo : ∀ c : Nat, (⟨#[c]⟩ : Str).length = 1 := fun c => rfl
        refine ⟨_, rfl, _, rfl, _, rfl, z, rfl, hz', _, rfl, _, _, rfl, rfl, (by show (0 : Int) < 8; decide), _, _, c1, rfl, rfl, small_le (by decide +kernel), h1, _, _, rfl, rfl, small_le (by rw [lo]; omega), _, rfl, _, _, rfl, rfl, ⟨by decide, by decide⟩, _, _, c2, rfl, rfl, small_le (by decide +kernel), h2, _, _, rfl, rfl, small_le (by rw [la, lo, lo]; omega), _, rfl, _, rfl, _, rfl, z, rfl, hz', _, _, rfl, rfl, small_le (by rw [la, la, lo, lo]; omega), rfl, _, rfl⟩
      rintro _ H4 ⟨rfl, y, rfl⟩
      have h4 := s4 _ _ h3
      have s34 := s3.trans s4
      refine ⟨_, rfl, .inl ⟨rfl, _, SqL.of h4⟩, _, rfl, _, rfl, _, rfl, _, rfl, pd, _, _, _, rfl, rfl, SqL.of (s4 _ _ hd3), hat, _, rfl, Nat.zero_le _, fun e1 he1 => ⟨Nat.zero_le _, fun e2 he2 => ⟨small_le (by show 7 ≤ 1000; decide), fun p7 hp7 => ?_⟩⟩⟩
      have u1 := same_new he1 (.tup [])
      have u2 := same_new he2 (.tup [])
      have u3 := same_new hp7 (.tup [.str y, .str kd, .int (ds.getD i 0), .str kp', .str "", .ref e1, .ref e2])
      have uA := (u1.trans u2).trans u3
      have h7 := uA _ _ h4
      have lv := hI.length
      have kl := KeepT.lst h7 (.lst (vs ++ [.ref p7]))
      refine ⟨pr, _, _, rfl, rfl, h7, small1000 (by omega), vs ++ [.ref p7], rs ++ [⟨y, kd, ds.getD i 0, kp', "", .ref e1, .ref e2⟩], same_upd hpr (s34.trans uA) _, upd_same, RmsIn.snoc (hI.mono ((KeepT.of (s4.trans uA)).trans kl)) ⟨p7, rfl, kl _ _ upd_same⟩, ?_, by simp [hlen], fun k x hx => ?_, fun x hx => ?_, _, _, _, _, _, rfl⟩
      · unfold depths at hdep ⊢
        rw [List.map_append, hdep, List.take_add_one, List.getElem?_eq_getElem hi', List.getD_eq_getElem?_getD, List.getElem?_eq_getElem hi']
        rfl
      · by_cases hk : k < rs.length
        · rw [List.getElem?_append_left hk] at hx
          exact hkd k x hx
        · have hk' : k = rs.length := by
            have := (List.getElem?_eq_some_iff.mp hx).1
            simp only [List.length_append, List.length_singleton] at this
            omega
          subst hk'
          rw [List.getElem?_append_right (Nat.le_refl _)] at hx
          simp at hx
          subst hx
          rw [hlen]
          show if i + 1 < ds.length ∧ ds.getD i 0 < ds.getD (i + 1) 0 then (kd = "one" ∨ kd = "all") else kd = "plain"
          split at hkd4
          · rename_i hc
            rw [if_pos hc]
            exact hkd4
          · rename_i hc
            rw [if_neg hc]
            exact hkd4.1
      · rcases List.mem_append.mp hx with h | h
        · exact hno x h
        · rw [List.mem_singleton.mp h]
          exact hnear
    · rintro σ' H3 ⟨vs, rs, s3, h3, hI, hdep, hlen, hkd, hno, o6, o7, o8, o9, o10, rfl⟩
      have e : (((ds.map V.int).length : Nat) : Int).toNat = ds.length := by simp
      rw [e] at hdep hlen
      rw [List.take_of_length_le (Nat.le_refl _)] at hdep
      refine ⟨vs, rs, s3, h3, hI, hdep, fun k x hx => ?_, hno, o6, o7, o8, o9, o10, rfl⟩
      rw [hdep, hlen]
      exact hkd k x hx
  rintro σ' H3 ⟨vs, rs, s3, h3, hI, hdep, hfit, hno, o6, o7, o8, o9, o10, rfl⟩
  refine ⟨_, rfl, pr, _, rfl, .inl ⟨SqL.of h3, fun t ht => ?_⟩⟩
  exact q t rs _ (s3.trans (same_new ht _)) ⟨vs, upd_same, hI.mono (KeepT.new ht _)⟩ hdep hfit hno
end
end Mix

namespace K14
open PySem L2 Mix Gds Rms
/-! steps to the parent -/
def leftOf (ds : List Int) (other : Nat) : Option Nat → Bool
  | none => false
  | some j => j == other || Tr.liesIn ds j other
theorem lies_step (ds : List Int) (k other : Nat) : Tr.liesIn ds k other = leftOf ds other (Tr.par ds k) := by
  cases e : Tr.par ds k with
  | none => exact Tr.liesIn_none e
  | some j => exact Tr.liesIn_some e
def hgt : Option Nat → Nat
  | none => 0
  | some j => j + 1
theorem par_at (ds : List Int) {k : Nat} (h : k < ds.length) : atI (parsV ds ds.length) (k : Int) = some (pV (Tr.par ds k)) := atI_nat (parsV_at ds h)
theorem ne_nat (j o : Nat) : (!decide (V.int (j : Int) = V.int (o : Int))) = !(j == o) := by
  congr 1
  rw [show (j == o) = decide (j = o) from rfl]
  exact decide_eq_decide.mpr ⟨fun h => by injection h with h; omega, fun h => by rw [h]⟩
end K14

namespace K14
open PySem L2 Mix Gds Rms
/-! whether a room is met by steps to the parent -/
def spLies : Sp := fun vs H Q _ => ∃ (p : Addr) (ds : List Int) (one other : Nat), vs = [.ref p, .int (one : Int), .int (other : Int)] ∧ H p = some (.lst (parsV ds ds.length)) ∧ one < ds.length ∧ Q (.bl (Tr.liesIn ds one other)) H
section
variable {P : Program} {w : World} {K : PySem.W.Frag} {mg : Str → Option Value} {base : Heap}
theorem sc_law_lies : FnScope ["_law_parents_here", "_law_one", "_law_other", "_law_at"] ["_law_parents_here", "_law_one", "_law_other"] (defScope sLies) := ⟨rfl, rfl, rfl, by decide +kernel, rfl, by decide +kernel, by decide +kernel⟩
theorem ok_lies {f : Addr} {fd : FuncData} (F : Fun K "_law_lies" "_law_lies" sLies f fd) : FnOk P w K mg base CX0 1 f fd ["_law_parents_here", "_law_one", "_law_other"] spLies := by
  refine F.ok sc_law_lies (fun vs H Q E h => ?_) (fun cdv A outer s H vs Q E hr h => ?_)
  · obtain ⟨p, ds, one, other, rfl, _⟩ := h
    rfl
  obtain ⟨p, ds, one, other, rfl, hp, h1, q⟩ := h
  refine ⟨_, (pss_cons (ps_set (i := 3) sc_law_lies.nd rfl (Or.inl rfl) (pe_ix ix_list (pv 0) (pv 1) (fun _ _ => rfl)))
    (pss_cut (ps_while PassesOwn.never (PW.pt (pw_and (pt_cmpR op_notN (pv 3) pe_non (nomark _)) (pw_and1 (pt_cmpR op_ne (pv 3) (pv 2) (nomark _)))))
      (pss_one (ps_set (i := 3) sc_law_lies.nd rfl (Or.inl rfl) (pe_ix ix_list (pv 0) (pv 3) (fun _ _ => rfl)))))
    (pss_one (ps_ret (pe_cmpR op_notN (pv 3) pe_non (nomark _)))))), ?_⟩
  refine ⟨_, rfl, _, rfl, p, _, _, _, rfl, rfl, SqL.of hp, par_at ds h1, ?_⟩
  refine ⟨fun σ' H' => H' = H ∧ ∃ v : Option Nat, Tr.liesIn ds one other = v.isSome ∧ σ' = [some (.ref p), some (.int (one : Int)), some (.int (other : Int)), some (pV v)], ?_, ?_⟩
  · refine ⟨fun m σ' H' => H' = H ∧ ∃ v : Option Nat, m = hgt v ∧ (∀ j, v = some j → j < ds.length) ∧ Tr.liesIn ds one other = leftOf ds other v ∧ σ' = [some (.ref p), some (.int (one : Int)), some (.int (other : Int)), some (pV v)],
      ⟨_, rfl, _, rfl, fun j e => Nat.lt_trans (Tr.par_lt e) h1, lies_step ds one other, rfl⟩, ?_⟩
    rintro m σ' H' ⟨rfl, v, rfl, hv, hl, rfl⟩
    cases v with
    | none => exact ⟨_, rfl, rfl, _, rfl, ifF rfl (ifF rfl ⟨rfl, none, hl, rfl⟩)⟩
    | some j =>
      have hj := hv j rfl
      have hl' : Tr.liesIn ds one other = (j == other || Tr.liesIn ds j other) := hl
      refine ⟨_, rfl, rfl, _, rfl, ifT rfl ⟨_, rfl, _, rfl, rfl, _, rfl, ?_⟩⟩
      refine itB (fun c => ?_) (fun c => ?_)
      · have c : (!decide (V.int (j : Int) = V.int (other : Int))) = true := c
        rw [ne_nat, Bool.not_eq_true'] at c
        rw [c, Bool.false_or] at hl'
        refine ⟨fun σ' H2 => H2 = H' ∧ Tr.liesIn ds one other = leftOf ds other (Tr.par ds j) ∧ σ' = [some (.ref p), some (.int (one : Int)), some (.int (other : Int)), some (pV (Tr.par ds j))], ?_, ?_⟩
        · rintro σ' H2 ⟨rfl, e, rfl⟩
          refine ⟨hgt (Tr.par ds j), ?_, rfl, _, rfl, fun i e => Nat.lt_trans (Tr.par_lt e) hj, e, rfl⟩
          cases e2 : Tr.par ds j with
          | none => show 0 < j + 1; omega
          | some i => have := Tr.par_lt e2; show i + 1 < j + 1; omega
        · exact ⟨_, rfl, _, rfl, p, _, _, _, rfl, rfl, SqL.of hp, par_at ds hj, rfl, hl'.trans (lies_step ds j other), rfl⟩
      · have c : (!decide (V.int (j : Int) = V.int (other : Int))) = false := c
        rw [ne_nat, Bool.not_eq_false'] at c
        rw [c, Bool.true_or] at hl'
        exact ⟨rfl, some j, hl', rfl⟩
  rintro σ' H' ⟨rfl, v, e, rfl⟩
  rw [e] at q
  cases v with
  | none => exact ⟨_, rfl, rfl, q⟩
  | some j => exact ⟨_, rfl, rfl, q⟩
end
end K14

namespace K14
open PySem L2 Mix Gds Rms
/-! goings out: what is asked of them -/
def under (ds : List Int) (o : Nat) : Option Nat → Bool
  | none => true
  | some u => Tr.liesIn ds o u
def outsOf (ds : List Int) (un : Option Nat) (os : List Nat) : List Nat := (os.filter fun o => under ds o un).reverse
def spOut : Sp := fun vs H Q _ => ∃ (t to' : Addr) (rs : List Rm) (un : Option Nat) (os : List Nat), vs = [.ref t, pV un, .ref to'] ∧ Rooms H t rs ∧ Tr.Good (depths rs) ∧ rs.length ≤ 40 ∧ (∀ u, un = some u → u < rs.length) ∧ H to' = some (.tup (natsV os)) ∧ (∀ o ∈ os, o < rs.length) ∧ os.length ≤ 40 ∧ os.Pairwise (· < ·) ∧
  ∀ (p : Addr) (H' : Hp), Same H H' → H p = none → H' p = some (.lst (natsV (outsOf (depths rs) un os))) → Q (.ref p) H'
theorem in_nats (k : Nat) (os : List Nat) : inV (.int (k : Int)) (natsV os) = decide (k ∈ os) := by
  rw [Bool.eq_iff_iff, decide_eq_true_iff]
  constructor
  · intro h
    obtain ⟨o, ho, e⟩ := nats_in h
    rw [show k = o by omega]
    exact ho
  · intro h
    unfold inV natsV
    rw [List.any_map, List.any_eq_true]
    exact ⟨k, h, by simp [eqV]⟩
theorem nats_lt (os : List Nat) {k : Nat} (h : k < os.length) : atI (natsV os) (k : Int) = some (.int ((os[k] : Nat) : Int)) := atI_nat (by unfold natsV; rw [List.getElem?_map, List.getElem?_eq_getElem h]; rfl)
end K14

namespace Prg
open PySem L2 Mix Gds Rms
/-! goings in: what is asked of them -/
def kindAt (rs : List Rm) (p : Nat) : Str := (rs.map (·.kind)).getD p ("" : Str)
theorem kind_at {rs : List Rm} {p : Nat} {r : Rm} (h : rs[p]? = some r) : kindAt rs p = r.kind := by
  unfold kindAt
  rw [List.getD_eq_getElem?_getD, List.getElem?_map, h]
  rfl
def alB (rs : List Rm) (p : Nat) : Bool := decide (kindAt rs p = ("all" : Str))
def onB (rs : List Rm) (p : Nat) : Bool := decide (kindAt rs p = ("one" : Str))
theorem up_next {ds : List Int} {j k : Nat} (hj : j < ds.length) (h : Tr.par ds j = some k) : k + 1 < ds.length ∧ ds.getD k 0 < ds.getD (k + 1) 0 := by
  obtain ⟨h1, h2, h3⟩ := Tr.par_iff.mp h
  refine ⟨by omega, ?_⟩
  by_cases q : j = k + 1
  · rw [← q]
    exact h2
  · have := h3 (k + 1) (by omega) (by omega)
    omega
theorem Fit.par {rs : List Rm} (f : Fit rs) {j k : Nat} (hj : j < rs.length) (h : Tr.par (depths rs) j = some k) : alB rs k = true ∨ onB rs k = true := by
  have ld := depths_len rs
  obtain ⟨a, b⟩ := up_next (by omega) h
  have e := List.getElem?_eq_getElem (show k < rs.length by omega)
  have q := f k _ e
  rw [if_pos ⟨by omega, b⟩] at q
  unfold alB onB
  rw [kind_at e]
  rcases q with q | q
  · exact .inr (decide_eq_true q)
  · exact .inl (decide_eq_true q)
theorem Fit.one {rs : List Rm} (g : Tr.Good (depths rs)) (f : Fit rs) (k : Nat) (h : onB rs k = true) : Tr.kids (depths rs) k ≠ [] := by
  have h' := of_decide_eq_true h
  have ld := depths_len rs
  by_cases hk : k < rs.length
  · have e := List.getElem?_eq_getElem hk
    rw [kind_at e] at h'
    have q := f k _ e
    by_cases c : k + 1 < rs.length ∧ (depths rs).getD k 0 < (depths rs).getD (k + 1) 0
    · have m : k + 1 ∈ Tr.kids (depths rs) k := Tr.mem_kids.mpr ⟨by omega, Tr.par_iff.mpr ⟨by omega, c.2, fun i h1 h2 => by omega⟩⟩
      intro z
      rw [z] at m
      cases m
    · rw [if_neg c, h'] at q
      exact absurd q (by decide)
  · unfold kindAt at h'
    rw [List.getD_eq_getElem?_getD, List.getElem?_eq_none (by rw [List.length_map]; omega)] at h'
    exact absurd h' (by decide)
def GoalsIn (H : Hp) (pg : Addr) (rs : List Rm) (gs : List Nat) : Prop := H pg = some (.lst (natsV gs)) ∧ (∀ g ∈ gs, g < rs.length) ∧ gs.length ≤ 100
theorem GoalsIn.mono {H H' : Hp} {pg : Addr} {rs : List Rm} {gs : List Nat} (h : GoalsIn H pg rs gs) (s : Same H H') : GoalsIn H' pg rs gs := ⟨s _ _ h.1, h.2⟩
def spBears : Sp := fun vs H Q _ => ∃ (t pg : Addr) (rs : List Rm) (k : Nat) (gs : List Nat), vs = [.ref t, .int (k : Int), .ref pg] ∧ Rooms H t rs ∧ rs.length ≤ 40 ∧ k < rs.length ∧ GoalsIn H pg rs gs ∧ ∀ H', Same H H' → Q (.bl (Tr.bears (depths rs) gs k)) H'
def spNext : Sp := fun vs H Q _ => ∃ (t pg : Addr) (rs : List Rm) (k : Nat) (gs : List Nat), vs = [.ref t, .int (k : Int), .ref pg] ∧ Rooms H t rs ∧ Tr.Good (depths rs) ∧ rs.length ≤ 40 ∧ k < rs.length ∧ GoalsIn H pg rs gs ∧
  ∀ (p : Addr) (H' : Hp), Same H H' → H p = none → H' p = some (.lst (natsV (Tr.next (depths rs) (alB rs) gs k))) → Q (.ref p) H'
def spIn : Sp := fun vs H Q _ => ∃ (t pg : Addr) (rs : List Rm) (un : Option Nat) (gs : List Nat), vs = [.ref t, pV un, .ref pg] ∧ Rooms H t rs ∧ Tr.Good (depths rs) ∧ rs.length ≤ 40 ∧ (∀ u, un = some u → u < rs.length) ∧ GoalsIn H pg rs gs ∧
  ∀ (p : Addr) (ms : List Nat) (H' : Hp), Same H H' → H p = none → H' p = some (.lst (natsV ms)) → Tr.Ins (depths rs) (alB rs) gs un ms → Q (.ref p) H'
end Prg

namespace Prg
open PySem L2 Mix Gds Rms
/-! what is kept -/
def RowIn (H : Hp) (v : V) (k : List Nat) : Prop := ∃ a : Addr, v = .ref a ∧ H a = some (.tup (natsV k))
inductive RowsIn (H : Hp) : List V → List (List Nat) → Prop where
  | nil : RowsIn H [] []
  | cons {v : V} {k : List Nat} {vs : List V} {ks : List (List Nat)} : RowIn H v k → RowsIn H vs ks → RowsIn H (v :: vs) (k :: ks)
def keepsAt (rs : List Rm) (p : Nat) : Str := (rs.map (·.keeps)).getD p ("" : Str)
theorem keeps_at {rs : List Rm} {p : Nat} {r : Rm} (h : rs[p]? = some r) : keepsAt rs p = r.keeps := by
  unfold keepsAt
  rw [List.getD_eq_getElem?_getD, List.getElem?_map, h]
  rfl
def plB (rs : List Rm) (p : Nat) : Bool := decide (kindAt rs p = ("plain" : Str))
def insideOf (ds : List Int) (os : List Nat) (r : Nat) : List Nat := os.filter fun o => Tr.liesIn ds o r
/-- what is kept of a room -/
def keptV (rs : List Rm) (os : List Nat) (r : Nat) : List Nat := if keepsAt rs r = ("near" : Str) then (insideOf (depths rs) os r).take 1 else (insideOf (depths rs) os r).filter (plB rs)
def keptFold (rs : List Rm) (os : List Nat) (ls : List Nat) (ks : List (List Nat)) : List (List Nat) := ls.foldl (fun k r => if keepsAt rs r = ("" : Str) then k else k.set r (keptV rs os r)) ks
end Prg

namespace K12
open PySem L2 Mix Gds Rms Prg
/-! whether an opening is full, by the law -/
def spLFull : Sp := fun vs H Q _ => ∃ (t pp po : Addr) (rs : List Rm) (os : List Nat), vs = [.ref t, .ref pp, .ref po] ∧ Rooms H t rs ∧ rs.length ≤ 40 ∧ H pp = some (.lst (parsV (depths rs) (depths rs).length)) ∧ H po = some (.lst (natsV os)) ∧ os.length ≤ 100 ∧
  ∀ (b : Bool) (H' : Hp), Same H H' → (b = true ↔ Tr.FullB (depths rs) (onB rs) (alB rs) os) → Q (.bl b) H'
theorem eq_par (x : Option Nat) (p : Nat) : decide (pV x = V.int (p : Int)) = (x == some p) := by
  cases x with
  | none => exact decide_eq_false (fun z => by cases z)
  | some j =>
    rw [show ((some j : Option Nat) == some p) = decide (j = p) from rfl]
    exact decide_eq_decide.mpr ⟨fun z => by injection z with z; omega, fun z => by rw [z]; rfl⟩
theorem scI (x : Option Nat) (i : Int) : scal (pV x) (.int i) = true := by cases x <;> rfl
theorem rise_steps {os : List Nat} (h : ∀ i (hi : i + 1 < os.length), os[i] < os[i + 1]) : os.Pairwise (· < ·) := by
  rw [List.pairwise_iff_getElem]
  intro i j hi hj hij
  induction j with
  | zero => omega
  | succ j ih =>
    by_cases c : i = j
    · subst c
      exact h i hj
    · have := ih (by omega) (by omega)
      have := h j hj
      omega
section
variable {P : Program} {w : World} {K : PySem.W.Frag} {mg : Str → Option Value} {base : Heap}
theorem sc_law_full : FnScope ["_law_rooms_here", "_law_parents_here", "_law_opening_here", "_law_k", "_law_room", "_law_near", "_law_want"] ["_law_rooms_here", "_law_parents_here", "_law_opening_here"] (defScope sLFull) := ⟨rfl, rfl, rfl, by decide +kernel, rfl, by decide +kernel, by decide +kernel⟩
theorem ok_full {f : Addr} {fd : FuncData} (F : Fun K "_law_full" "_law_full" sLFull f fd) (m_range : mg "range" = none) (m_len : mg "len" = none) : FnOk P w K mg base CX0 1 f fd ["_law_rooms_here", "_law_parents_here", "_law_opening_here"] spLFull := by
  refine F.ok sc_law_full (fun vs H Q E h => ?_) (fun cdv A outer s H vs Q E hr h => ?_)
  · obtain ⟨t, pp, po, rs, os, rfl, _⟩ := h
    rfl
  obtain ⟨t, pp, po, rs, os, rfl, hR, l40, hpp, hpo, los, q⟩ := h
  refine ⟨_, (pss_cut (ps_for PassesOwn.never rfl (pi_range2 rfl m_range (pa_cons pe_int (pa_cons (pe_callB call_len_seq rfl m_len PySem.boot_len (pa_cons (pv 2) pa_nil)) pa_nil))) (pg_name (i := 3) sc_law_full.nd rfl (Or.inl rfl))
      (pss_one (ps_if (pt_cmpR op_ge (pe_ix ix_list (pv 2) (pe_op op_sub (pv 3) pe_int) (fun _ _ => rfl)) (pe_ix ix_list (pv 2) (pv 3) (fun _ _ => rfl)) (nomark _))
        (pss_one (ps_ret pe_bl))
        pss_nil)))
    (pss_cut (ps_for PassesOwn.never rfl (pi_range1 rfl m_range (pa_cons (pe_callB call_len_seq rfl m_len PySem.boot_len (pa_cons (pv 0) pa_nil)) pa_nil)) (pg_name (i := 4) sc_law_full.nd rfl (Or.inr rfl))
      (pss_cons (ps_setC (i := 5) (caps := [(4, "_law_room"), (1, "_law_parents_here")]) rfl sc_law_full.nd rfl (Or.inl rfl) (show CompSc (defScope sLFull) ["_law_rooms_here", "_law_parents_here", "_law_opening_here", "_law_k", "_law_room", "_law_near", "_law_want"] _ _ _ from ⟨rfl, rfl, by decide +kernel, by decide +kernel, by decide +kernel, by decide +kernel, by decide +kernel⟩) (pi_range1 rfl m_range (pa_cons (pe_callB call_len_seq rfl m_len PySem.boot_len (pa_cons (pv 0) pa_nil)) pa_nil)) (fun _ _ _ _ _ _ => pifs_one (pt_cmpR op_eq (pe_ix (r := rIxL K) ix_list (pv 2) (pv 0) (fun _ _ => rfl)) (pv 1) (nomark _))) (fun _ _ _ _ _ _ => (pv 0)))
      (pss_cons (ps_set (i := 6) sc_law_full.nd rfl (Or.inl rfl) pe_int)
      (pss_cut (ps_if (pt_cut (PW.pt (pw_and (pt_cmpR op_in_seq (pv 4) (pv 2) rfl) (pw_and1 (pt_cmpR op_eq (pe_ix ix_tup (pe_ix ix_tup (pv 0) (pv 4) (fun _ _ => rfl)) pe_int (fun _ _ => rfl)) pe_str (nomark _))))))
        (pss_one (ps_set (i := 6) sc_law_full.nd rfl (Or.inl rfl) pe_int))
        pss_nil)
      (pss_cut (ps_if (pt_cut (PW.pt (pw_and (pt_cmpR op_in_seq (pv 4) (pv 2) rfl) (pw_and1 (pt_cmpR op_eq (pe_ix ix_tup (pe_ix ix_tup (pv 0) (pv 4) (fun _ _ => rfl)) pe_int (fun _ _ => rfl)) pe_str (nomark _))))))
        (pss_one (ps_set (i := 6) sc_law_full.nd rfl (Or.inl rfl) (pe_callB call_len_seq rfl m_len PySem.boot_len (pa_cons (pv 5) pa_nil))))
        pss_nil)
      (pss_one (ps_if (pt_cmpR op_ne (pe_callB call_len_seq rfl m_len PySem.boot_len (pa_cons (pe_comp (caps := [(2, "_law_opening_here")]) rfl (show CompSc (defScope sLFull) ["_law_rooms_here", "_law_parents_here", "_law_opening_here", "_law_k", "_law_room", "_law_near", "_law_want"] _ _ _ from ⟨rfl, rfl, by decide +kernel, by decide +kernel, by decide +kernel, by decide +kernel, by decide +kernel⟩) (pi_list (pv 5)) (fun _ _ _ _ _ _ => pifs_one (pt_cmpR (r := rIn K false) op_in_seq (pv 0) (pv 1) rfl)) (fun _ _ _ _ _ _ => (pv 0))) pa_nil)) (pv 6) (nomark _))
        (pss_one (ps_ret pe_bl))
        pss_nil)))))))
    (pss_one (ps_ret (pe_cmpR op_in_seq pe_int (pv 2) rfl))))), ?_⟩
  obtain ⟨rv, htr, hrs⟩ := id hR
  have lrv := hrs.length
  have ld : (depths rs).length = rs.length := depths_len rs
  refine ⟨fun σ' H' => H' = H ∧ os.Pairwise (· < ·) ∧ ∃ o3 : Option V, σ' = [some (.ref t), some (.ref pp), some (.ref po), o3, none, none, none], ?_, ?_⟩
  · refine ⟨_, rfl, po, _, rfl, .inl (SqL.of hpo), 1, _, rfl, ⟨by decide, by decide, by omega, by rw [natsV_len]; omega⟩, ?_⟩
    refine for_range (fun i σ' H' => H' = H ∧ (∀ j (hj : j + 1 < os.length), j < i → os[j] < os[j + 1]) ∧ ∃ o3 : Option V, σ' = [some (.ref t), some (.ref pp), some (.ref po), o3, none, none, none]) ⟨rfl, fun j _ z => by omega, _, rfl⟩ ?_ ?_
    · rintro i σ' H' hi ⟨rfl, hup, o3, rfl⟩
      have hi' : i + 1 < os.length := by
        rw [natsV_len] at hi
        omega
      have a1 : atI (natsV os) (1 + (i : Int) - 1) = some (.int ((os[i] : Nat) : Int)) := by
        rw [show (1 + (i : Int)) - 1 = (i : Int) by omega]
        exact K14.nats_lt os (by omega)
      have a2 : atI (natsV os) (1 + (i : Int)) = some (.int ((os[i + 1] : Nat) : Int)) := by
        rw [show (1 + (i : Int)) = ((i + 1 : Nat) : Int) by omega]
        exact K14.nats_lt os hi'
      refine ⟨_, rfl, _, rfl, _, _, rfl, rfl, po, _, _, _, rfl, rfl, SqL.of hpo, a1, _, rfl, _, rfl, po, _, _, _, rfl, rfl, SqL.of hpo, a2, _, _, rfl, rfl, _, rfl, ?_⟩
      refine itB (fun c => ?_) (fun c => ?_)
      · have c' := of_decide_eq_true c
        refine q false _ (Same.refl _) ⟨fun z => (by cases z), fun z => ?_⟩
        have := List.pairwise_iff_getElem.mp z.1 i (i + 1) (by omega) hi' (by omega)
        omega
      · have c' := of_decide_eq_false c
        refine ⟨rfl, fun j hj z => ?_, _, rfl⟩
        by_cases e : j = i
        · subst e
          omega
        · exact hup j hj (by omega)
    · rintro σ' H' ⟨rfl, hup, o3, rfl⟩
      exact ⟨rfl, rise_steps fun j hj => hup j hj (by rw [natsV_len]; omega), _, rfl⟩
  rintro σ1 H1 ⟨rfl, rise, o3, rfl⟩
  refine ⟨fun σ' H' => Same H1 H' ∧ (∀ r, r < (depths rs).length → (Tr.openKids (depths rs) os r).length = Tr.want (depths rs) (onB rs) (alB rs) os r) ∧ ∃ o4 o5 o6 : Option V, σ' = [some (.ref t), some (.ref pp), some (.ref po), o3, o4, o5, o6], ?_, ?_⟩
  · refine ⟨_, rfl, t, _, rfl, .inr (SqT.of htr), _, rfl, by omega, by omega, ?_⟩
    refine for_range (fun i σ' H' => Same H1 H' ∧ (∀ r, r < i → (Tr.openKids (depths rs) os r).length = Tr.want (depths rs) (onB rs) (alB rs) os r) ∧ ∃ o4 o5 o6 : Option V, σ' = [some (.ref t), some (.ref pp), some (.ref po), o3, o4, o5, o6]) ⟨Same.refl _, fun r z => by omega, _, _, _, rfl⟩ ?_ ?_
    · rintro i σ' H2 hi ⟨s2, hcount, o4, o5, o6, rfl⟩
      have hi' : i < rs.length := by omega
      have z : (0 : Int) + (i : Int) = (i : Int) := Int.zero_add _
      refine ⟨_, rfl, t, _, rfl, .inr (SqT.of (s2 _ _ htr)), _, rfl, by omega, by omega, ?_⟩
      refine comp_range (fun j acc H' => H' = H2 ∧ acc = natsV (Tr.kidsTo (depths rs) i j)) ⟨rfl, rfl⟩ (fun j acc H' hj ⟨e1, e2⟩ => ?_) (fun acc H' ⟨e1, e2⟩ pn hpn => ?_)
      · subst e1 e2
        have hj' : j < (depths rs).length := by omega
        have hat : atI (parsV (depths rs) (depths rs).length) (0 + (j : Int)) = some (pV (Tr.par (depths rs) j)) := by
          rw [Int.zero_add]
          exact K14.par_at _ hj'
        have kl := Tr.kidsTo_len (depths rs) i j
        refine ⟨_, rfl, _, rfl, pp, _, _, _, rfl, rfl, SqL.of (s2 _ _ hpp), hat, _, rfl, scI _ _, _, rfl, ?_⟩
        have eb := eq_par (Tr.par (depths rs) j) i
        rw [Tr.kidsTo_succ]
        refine itB (fun c => ?_) (fun c => ?_)
        · have c' : (Tr.par (depths rs) j == some i) = true := by
            rw [← eb, ← z]
            exact c
          rw [if_pos c', ← natsV_app]
          exact ⟨_, rfl, small1000 (by rw [natsV_len]; omega), rfl, by rw [Int.zero_add]⟩
        · have c' : (Tr.par (depths rs) j == some i) = false := by
            rw [← eb, ← z]
            exact c
          rw [if_neg (by rw [c']; exact Bool.false_ne_true), List.append_nil]
          exact ⟨rfl, rfl⟩
      have e3 : acc = natsV (Tr.kids (depths rs) i) := by
        rw [e2]
        unfold Tr.kids
        congr 2 <;> omega
      subst e1
      subst e3
      have kll : (Tr.kids (depths rs) i).length ≤ 40 := by
        have := Tr.kidsTo_len (depths rs) i (depths rs).length
        show (Tr.kidsTo (depths rs) i (depths rs).length).length ≤ 40
        omega
      have s3 := same_new hpn (.lst (natsV (Tr.kids (depths rs) i)))
      have hpn3 : (upd H' pn (.lst (natsV (Tr.kids (depths rs) i)))) pn = some (.lst (natsV (Tr.kids (depths rs) i))) := upd_same
      generalize upd H' pn (.lst (natsV (Tr.kids (depths rs) i))) = H3 at s3 hpn3 ⊢
      have s13 := s2.trans s3
      obtain ⟨vr, hvr, ar, rfl, har⟩ := hrs.get (List.getElem?_eq_getElem hi')
      have hvr' : atI rv (0 + (i : Int)) = some (.ref ar) := by
        rw [z]
        exact atI_nat hvr
      have ek : ∀ kd : Str, decide (V.str rs[i].kind = V.str kd) = decide (kindAt rs i = kd) := fun kd => by
        rw [kind_at (List.getElem?_eq_getElem hi')]
        exact decide_eq_decide.mpr ⟨fun z => by injection z, fun z => by rw [z]⟩
      refine ⟨fun σ' H' => H' = H3 ∧ ∃ wn : Int, wn = (if (decide (i ∈ os) && onB rs i) = true then 1 else 0) ∧ σ' = [some (.ref t), some (.ref pp), some (.ref po), o3, some (.int (0 + (i : Int))), some (.ref pn), some (.int wn)], ?_, ?_⟩
      · refine ⟨fun c H' => H' = H3 ∧ c = (decide (i ∈ os) && onB rs i), ?_, ?_⟩
        · refine ⟨_, rfl, _, rfl, po, _, rfl, .inl (SqL.of (s13 _ _ hpo)), rfl, nats_flat os, _, rfl, ?_⟩
          have ei : inV (.int (0 + (i : Int))) (natsV os) = decide (i ∈ os) := by rw [z, K14.in_nats]
          refine itB (fun c => ?_) (fun c => ⟨rfl, by rw [← ei, show inV (.int (0 + (i : Int))) (natsV os) = false from c, Bool.false_and]⟩)
          refine ⟨_, rfl, _, rfl, t, _, _, _, rfl, rfl, SqT.of (s13 _ _ htr), hvr', ar, _, _, _, rfl, rfl, SqT.of (s13 _ _ har), rfl, rfl, _, rfl, rfl, ?_⟩
          rw [← ei, show inV (.int (0 + (i : Int))) (natsV os) = true from c, Bool.true_and]
          exact ek "one"
        rintro c H' ⟨rfl, rfl⟩
        refine itB (fun c => ⟨rfl, 1, by rw [if_pos c], rfl⟩) (fun c => ⟨rfl, 0, by rw [if_neg (by rw [c]; exact Bool.false_ne_true)], rfl⟩)
      rintro σ4 H4 ⟨rfl, w1, ew1, rfl⟩
      refine ⟨fun σ' H' => H' = H4 ∧ σ' = [some (.ref t), some (.ref pp), some (.ref po), o3, some (.int (0 + (i : Int))), some (.ref pn), some (.int (Tr.want (depths rs) (onB rs) (alB rs) os i : Int))], ?_, ?_⟩
      · refine ⟨fun c H' => H' = H4 ∧ c = (decide (i ∈ os) && alB rs i), ?_, ?_⟩
        · refine ⟨_, rfl, _, rfl, po, _, rfl, .inl (SqL.of (s13 _ _ hpo)), rfl, nats_flat os, _, rfl, ?_⟩
          have ei : inV (.int (0 + (i : Int))) (natsV os) = decide (i ∈ os) := by rw [z, K14.in_nats]
          refine itB (fun c => ?_) (fun c => ⟨rfl, by rw [← ei, show inV (.int (0 + (i : Int))) (natsV os) = false from c, Bool.false_and]⟩)
          refine ⟨_, rfl, _, rfl, t, _, _, _, rfl, rfl, SqT.of (s13 _ _ htr), hvr', ar, _, _, _, rfl, rfl, SqT.of (s13 _ _ har), rfl, rfl, _, rfl, rfl, ?_⟩
          rw [← ei, show inV (.int (0 + (i : Int))) (natsV os) = true from c, Bool.true_and]
          exact ek "all"
        rintro c H' ⟨rfl, rfl⟩
        refine itB (fun c => ?_) (fun c => ?_)
        · refine ⟨_, rfl, pn, _, rfl, .inl (SqL.of hpn3), rfl, ?_⟩
          unfold Tr.want
          rw [if_pos c, natsV_len]
          rfl
        · refine ⟨rfl, ?_⟩
          unfold Tr.want
          rw [if_neg (by rw [c]; exact Bool.false_ne_true), ew1]
          split <;> rfl
      rintro σ5 H5 ⟨rfl, rfl⟩
      refine ⟨_, rfl, pn, rfl, ⟨_, SqL.of hpn3⟩, ?_⟩
      refine comp_list (K := K) (a := pn) (xs := natsV (Tr.kids (depths rs) i)) (fun j acc H' => H' = H5 ∧ acc = natsV (((Tr.kids (depths rs) i).take j).filter fun k => decide (k ∈ os))) ⟨rfl, rfl⟩ (fun j acc H' ⟨e, _⟩ => by subst e; exact SqL.of hpn3) (fun j x acc H' hx ⟨e1, e2⟩ => ?_) (fun acc H' ⟨e1, e2⟩ pk hpk => ?_)
      · subst e1 e2
        obtain ⟨hj, rfl⟩ := natsV_get hx
        refine ⟨_, rfl, _, rfl, po, _, rfl, .inl (SqL.of (s13 _ _ hpo)), rfl, nats_flat os, _, rfl, ?_⟩
        have ei := K14.in_nats (Tr.kids (depths rs) i)[j] os
        rw [filter_succ (List.getElem?_eq_getElem hj)]
        have ll := List.length_filter_le (fun k => decide (k ∈ os)) ((Tr.kids (depths rs) i).take j)
        rw [List.length_take] at ll
        refine itB (fun c => ?_) (fun c => ?_)
        · have c' : decide ((Tr.kids (depths rs) i)[j] ∈ os) = true := ei.symm.trans c
          rw [if_pos c', ← natsV_app]
          exact ⟨_, rfl, small1000 (by rw [natsV_len]; omega), rfl, rfl⟩
        · have c' : decide ((Tr.kids (depths rs) i)[j] ∈ os) = false := ei.symm.trans c
          rw [if_neg (by rw [c']; exact Bool.false_ne_true), List.append_nil]
          exact ⟨rfl, rfl⟩
      subst e1 e2
      rw [List.take_of_length_le (by rw [natsV_len]; exact Nat.le_refl _)]
      have s5 := same_new hpk (.lst (natsV ((Tr.kids (depths rs) i).filter fun k => decide (k ∈ os))))
      refine ⟨pk, _, rfl, .inl (SqL.of upd_same), _, rfl, rfl, _, rfl, ?_⟩
      have eq : (!decide (V.int (((natsV ((Tr.kids (depths rs) i).filter fun k => decide (k ∈ os))).length : Nat) : Int) = V.int (Tr.want (depths rs) (onB rs) (alB rs) os i : Int))) = !decide ((Tr.openKids (depths rs) os i).length = Tr.want (depths rs) (onB rs) (alB rs) os i) := by
        congr 1
        rw [natsV_len]
        exact decide_eq_decide.mpr ⟨fun h => by injection h with h; unfold Tr.openKids; omega, fun h => by unfold Tr.openKids at h; rw [h]⟩
      refine itB (fun c => ?_) (fun c => ?_)
      · have c' := eq.symm.trans c
        rw [Bool.not_eq_true'] at c'
        exact q false _ (s13.trans s5) ⟨fun z => (by cases z), fun z => absurd (z.2.1 i (by omega)) (of_decide_eq_false c')⟩
      · have c' := eq.symm.trans c
        rw [Bool.not_eq_false'] at c'
        refine ⟨s13.trans s5, fun r hr' => ?_, _, _, _, rfl⟩
        by_cases e : r = i
        · subst e
          exact of_decide_eq_true c'
        · exact hcount r (by omega)
    · rintro σ' H2 ⟨s2, hcount, o4, o5, o6, rfl⟩
      exact ⟨s2, fun r hr' => hcount r (by omega), _, _, _, rfl⟩
  rintro σ2 H2 ⟨s2, hcount, o4, o5, o6, rfl⟩
  refine ⟨_, rfl, po, _, rfl, .inl (SqL.of (s2 _ _ hpo)), rfl, nats_flat os, ?_⟩
  refine q _ H2 s2 ?_
  have e0 : inV (.int 0) (natsV os) = decide (0 ∈ os) := K14.in_nats 0 os
  rw [e0, if_neg Bool.false_ne_true, decide_eq_true_iff]
  exact ⟨fun h => ⟨rise, hcount, h⟩, fun h => h.2.2⟩
end
end K12

namespace Prg
open PySem L2 Mix Gds Rms
def spEnd : Sp := fun vs H Q _ => ∃ (t : Addr) (rs : List Rm) (k : Nat), vs = [.ref t, .int (k : Int)] ∧ Rooms H t rs ∧ rs.length ≤ 40 ∧ k < rs.length ∧ ∀ e : Nat, Tr.EndOf (depths rs) k e → Q (.int (e : Int)) H
section
variable {P : Program} {w : World} {K : PySem.W.Frag} {mg : Str → Option Value} {base : Heap}
theorem sc_end_of : FnScope ["rooms", "room", "depth", "other"] ["rooms", "room"] (defScope sEndOf) := ⟨rfl, rfl, rfl, by decide +kernel, rfl, by decide +kernel, by decide +kernel⟩
theorem ok_end {f : Addr} {fd : FuncData} (F : Fun K "end_of" "end_of" sEndOf f fd) (m_range : mg "range" = none) (m_len : mg "len" = none) : FnOk P w K mg base CX0 1 f fd ["rooms", "room"] spEnd := by
  refine F.ok sc_end_of (fun vs H Q E h => ?_) (fun cdv A outer s H vs Q E hr h => ?_)
  · obtain ⟨t, rs, k, rfl, _⟩ := h
    rfl
  obtain ⟨t, rs, k, rfl, hR, h40, hk, q⟩ := h
  refine ⟨_, (pss_cons (ps_set (i := 2) sc_end_of.nd rfl (Or.inl rfl) (pe_ix ix_tup (pe_ix ix_tup (pv 0) (pv 1) (fun _ _ => rfl)) pe_int (fun _ _ => rfl)))
    (pss_cut (ps_for PassesOwn.never rfl (pi_range2 rfl m_range (pa_cons (pe_op op_add (pv 1) pe_int) (pa_cons (pe_callB call_len_seq rfl m_len PySem.boot_len (pa_cons (pv 0) pa_nil)) pa_nil))) (pg_name (i := 3) sc_end_of.nd rfl (Or.inl rfl))
      (pss_one (ps_if (pt_cmpR op_le (pe_ix ix_tup (pe_ix ix_tup (pv 0) (pv 3) (fun _ _ => rfl)) pe_int (fun _ _ => rfl)) (pv 2) (nomark _))
        (pss_one (ps_ret (pv 3)))
        pss_nil)))
    (pss_one (ps_ret (pe_callB call_len_seq rfl m_len PySem.boot_len (pa_cons (pv 0) pa_nil)))))), ?_⟩
  obtain ⟨vs, a, r, ht, hl, hr0, hat, ha⟩ := hR.at hk
  have ed := depths_at hr0
  have dl := depths_len rs
  refine ⟨_, rfl, _, rfl, t, vs, _, _, rfl, rfl, SqT.of ht, hat, a, _, _, _, rfl, rfl, SqT.of ha, rfl, ?_⟩
  refine ⟨fun σ' H' => H' = H ∧ Tr.EndOf (depths rs) k rs.length ∧ ∃ o3 : Option V, σ' = [some (.ref t), some (.int (k : Int)), some (.int r.depth), o3], ?_, ?_⟩
  · refine ⟨_, rfl, _, _, rfl, rfl, _, rfl, t, _, rfl, .inr (SqT.of ht), _, _, rfl, ⟨by omega, by omega, by omega, by omega⟩, ?_⟩
    refine for_range (fun i σ' H' => H' = H ∧ (∀ j, k < j → j < k + 1 + i → (depths rs).getD k 0 < (depths rs).getD j 0) ∧ ∃ o3 : Option V, σ' = [some (.ref t), some (.int (k : Int)), some (.int r.depth), o3]) ⟨rfl, fun j j1 j2 => by omega, none, rfl⟩ ?_ ?_
    · rintro i σ' H' hi ⟨rfl, hin, o3, rfl⟩
      have hj : k + 1 + i < rs.length := by omega
      obtain ⟨vs2, a2, r2, ht2, hl2, hr2, hat2, ha2⟩ := hR.at hj
      rw [ht] at ht2
      cases ht2
      have ed2 := depths_at hr2
      have ej : (k : Int) + 1 + (i : Int) = ((k + 1 + i : Nat) : Int) := by omega
      refine ⟨_, rfl, _, rfl, t, vs, _, _, rfl, rfl, SqT.of ht, (by rw [ej]; exact hat2), a2, _, _, _, rfl, rfl, SqT.of ha2, rfl, _, rfl, _, _, rfl, rfl, _, rfl, ?_⟩
      refine ite2 (fun c => ?_) (fun c => ?_)
      · have c' := of_decide_eq_true c
        refine ⟨_, rfl, ?_⟩
        have z := q (k + 1 + i) ⟨by omega, by omega, hin, fun _ => by rw [ed2, ed]; exact c'⟩
        rw [← ej] at z
        exact z
      · have c' : ¬ r2.depth ≤ r.depth := fun z => c (decide_eq_true z)
        refine ⟨rfl, fun j j1 j2 => ?_, _, rfl⟩
        by_cases y : j = k + 1 + i
        · rw [y, ed2, ed]
          omega
        · exact hin j j1 (by omega)
    · rintro σ' H' ⟨rfl, hin, o3, rfl⟩
      exact ⟨rfl, ⟨hk, by omega, fun j j1 j2 => hin j j1 (by omega), fun z => by omega⟩, o3, rfl⟩
  rintro σ' H' ⟨rfl, he, o3, rfl⟩
  refine ⟨_, rfl, t, _, rfl, .inr (SqT.of ht), ?_⟩
  have z := q _ he
  rw [← hl] at z
  exact z
end
end Prg

namespace Prg
open PySem L2 Mix Gds Rms
def spKids : Sp := fun vs H Q _ => ∃ (t : Addr) (rs : List Rm) (k : Nat), vs = [.ref t, .int (k : Int)] ∧ Rooms H t rs ∧ Tr.Good (depths rs) ∧ rs.length ≤ 40 ∧ k < rs.length ∧ ∀ (p : Addr) (H' : Hp), Same H H' → H p = none → H' p = some (.lst (natsV (Tr.kids (depths rs) k))) → Q (.ref p) H'
section
variable {P : Program} {w : World} {K : PySem.W.Frag} {mg : Str → Option Value} {base : Heap}
theorem sc_kids : FnScope ["rooms", "room", "depth"] ["rooms", "room"] (defScope sKids) := ⟨rfl, rfl, rfl, by decide +kernel, rfl, by decide +kernel, by decide +kernel⟩
theorem ok_kids {n : Nat} {f ge : Addr} {fd de : FuncData} (F : Fun K "kids" "kids" sKids f fd) (G_end_of : FnOk P w K mg base CX0 n ge de ["rooms", "room"] spEnd) (b_end_of : Binds K de ["rooms", "room"] []) (k_end_of : PySem.W.keepIn K (.ref ge) = true) (m_end_of : mg "end_of" = some (.ref ge)) (m_range : mg "range" = none) :
    FnOk P w K mg base CX0 (n + 1) f fd ["rooms", "room"] spKids := by
  refine F.ok sc_kids (fun vs H Q E h => ?_) (fun cdv A outer s H vs Q E hr h => ?_)
  · obtain ⟨t, rs, k, rfl, _⟩ := h
    rfl
  obtain ⟨t, rs, k, rfl, hR, good, h40, hk, q⟩ := h
  refine ⟨_, (pss_cons (ps_set (i := 2) sc_kids.nd rfl (Or.inr rfl) (pe_op op_add (pe_ix ix_tup (pe_ix ix_tup (pv 0) (pv 1) (fun _ _ => rfl)) pe_int (fun _ _ => rfl)) pe_int))
    (pss_one (ps_ret (pe_comp (caps := [(2, "depth"), (0, "rooms")]) rfl (show CompSc (defScope sKids) ["rooms", "room", "depth"] _ _ _ from ⟨rfl, rfl, by decide +kernel, by decide +kernel, by decide +kernel, by decide +kernel, by decide +kernel⟩) (pi_range2 rfl m_range (pa_cons (pe_op op_add (pv 1) pe_int) (pa_cons (pe_call G_end_of hr rfl m_end_of k_end_of b_end_of .nil pass0 (pa_cons (pv 0) (pa_cons (pv 1) pa_nil))) pa_nil))) (fun _ _ _ _ _ _ => pifs_one (pt_cmpR op_eq (pe_ix (r := rIxT K) ix_tup (pe_ix (r := rIxT K) ix_tup (pv 2) (pv 0) (fun _ _ => rfl)) pe_int (fun _ _ => rfl)) (pv 1) (nomark _))) (fun _ _ _ _ _ _ => (pv 0)))))), ?_⟩
  obtain ⟨vs, a, r, ht, hl, hr0, hat, ha⟩ := hR.at hk
  have ed := depths_at hr0
  have dl := depths_len rs
  refine ⟨_, rfl, _, rfl, t, vs, _, _, rfl, rfl, SqT.of ht, hat, a, _, _, _, rfl, rfl, SqT.of ha, rfl, _, _, rfl, rfl, ?_⟩
  refine ⟨_, rfl, _, _, rfl, rfl, _, rfl, _, rfl, t, rs, k, rfl, hR, h40, hk, fun e he => ?_⟩
  have he1 := he.lt
  have he2 := he.le
  refine ⟨_, _, rfl, ⟨by omega, by omega, by omega, by omega⟩, ?_⟩
  refine comp_range (fun i acc H' => H' = H ∧ acc = natsV (Tr.kidsTo (depths rs) k (k + 1 + i))) ⟨rfl, by rw [Tr.kidsTo_low _ _ _ (by omega)]; rfl⟩ (fun i acc H' hi ⟨e1, e2⟩ => ?_) (fun acc H' ⟨e1, e2⟩ p hp => ?_)
  · subst e1 e2
    have hj : k + 1 + i < rs.length := by omega
    obtain ⟨vs2, a2, r2, ht2, hl2, hr2, hat2, ha2⟩ := hR.at hj
    rw [ht] at ht2
    cases ht2
    have ed2 := depths_at hr2
    have ej : (k : Int) + 1 + (i : Int) = ((k + 1 + i : Nat) : Int) := by omega
    have pe := Tr.par_end good he (j := k + 1 + i) (by omega)
    refine ⟨_, rfl, _, rfl, t, vs, _, _, rfl, rfl, SqT.of ht, (by rw [ej]; exact hat2), a2, _, _, _, rfl, rfl, SqT.of ha2, rfl, _, rfl, rfl, _, rfl, ?_⟩
    refine ite2 (fun c => ?_) (fun c => ?_)
    · have c' := of_decide_eq_true c
      injection c' with c'
      refine ⟨_, rfl, ?_, rfl, ?_⟩
      · unfold natsV
        have := Tr.kidsTo_len (depths rs) k (k + 1 + i)
        exact small1000 (by rw [List.length_map]; omega)
      · rw [show k + 1 + (i + 1) = (k + 1 + i) + 1 by omega, Tr.kidsTo_succ, if_pos (by rw [pe.mpr ⟨by omega, by omega, by rw [ed2, ed]; exact c'⟩]; simp), ej]
        unfold natsV
        rw [List.map_append]
        rfl
    · refine ⟨rfl, ?_⟩
      rw [show k + 1 + (i + 1) = (k + 1 + i) + 1 by omega, Tr.kidsTo_succ, if_neg, List.append_nil]
      intro z
      have y := (pe.mp (eq_of_beq z)).2.2
      rw [ed2, ed] at y
      exact c (decide_eq_true (by rw [y]))
  · subst e1 e2
    refine q p _ (same_new hp _) hp ?_
    rw [upd_same, Tr.kids_end good he, show k + 1 + ((e : Int) - ((k : Int) + 1)).toNat = e by omega]
end
end Prg

namespace Prg
open PySem L2 Mix Gds Rms
/-! goings in -/
section
variable {P : Program} {w : World} {K : PySem.W.Frag} {mg : Str → Option Value} {base : Heap}
theorem sc_bears_goal : FnScope ["rooms", "room", "goals", "end"] ["rooms", "room", "goals"] (defScope sBears) := ⟨rfl, rfl, rfl, by decide +kernel, rfl, by decide +kernel, by decide +kernel⟩
theorem ok_bears_goal {n : Nat} {f ge : Addr} {fd de : FuncData} (F : Fun K "bears_goal" "bears_goal" sBears f fd) (G_end_of : FnOk P w K mg base CX0 n ge de ["rooms", "room"] spEnd) (b_end_of : Binds K de ["rooms", "room"] []) (k_end_of : PySem.W.keepIn K (.ref ge) = true) (m_end_of : mg "end_of" = some (.ref ge)) (m_any : mg "any" = none) :
    FnOk P w K mg base CX0 (n + 1) f fd ["rooms", "room", "goals"] spBears := by
  refine F.ok sc_bears_goal (fun vs H Q E h => ?_) (fun cdv A outer s H vs Q E hr h => ?_)
  · obtain ⟨t, pg, rs, k, gs, rfl, _⟩ := h
    rfl
  obtain ⟨t, pg, rs, k, gs, rfl, hR, h40, hk, hG, q⟩ := h
  refine ⟨_, (pss_cons (ps_set (i := 3) sc_bears_goal.nd rfl (Or.inr rfl) (pe_call G_end_of hr rfl m_end_of k_end_of b_end_of .nil pass0 (pa_cons (pv 0) (pa_cons (pv 1) pa_nil))))
    (pss_one (ps_ret (pe_callB (call_anyB rfl) rfl m_any PyProof.Rows.boot_any (pa_cons (pe_comp (caps := [(1, "room"), (3, "end")]) rfl (show CompSc (defScope sBears) ["rooms", "room", "goals", "end"] _ _ _ from ⟨rfl, rfl, by decide +kernel, by decide +kernel, by decide +kernel, by decide +kernel, by decide +kernel⟩) (pi_list (pv 2)) (fun _ _ _ _ _ _ => pifs_nil) (fun _ _ _ _ _ _ => (pe_chV op_le op_lt (pv 1) (pv 0) (pv 2)))) pa_nil))))), ?_⟩
  obtain ⟨hg, hgl, hg100⟩ := hG
  have dl := depths_len rs
  refine ⟨_, rfl, _, rfl, t, rs, k, rfl, hR, h40, hk, fun e he => ?_⟩
  refine ⟨_, rfl, pg, rfl, ⟨_, SqL.of hg⟩, ?_⟩
  refine comp_list (K := K) (a := pg) (xs := natsV gs) (fun i acc H' => H' = H ∧ acc = ((gs.take i).map fun g : Nat => (decide ((k : Int) ≤ (g : Int)) && decide ((g : Int) < (e : Int)))).map V.bl) ⟨rfl, rfl⟩ (fun i acc H' ⟨e, _⟩ => by subst e; exact SqL.of hg) (fun i x acc H' hx ⟨e1, e2⟩ => ?_) (fun acc H' ⟨e1, e2⟩ p hp => ?_)
  · subst e1 e2
    obtain ⟨hi, rfl⟩ := natsV_get hx
    refine ⟨_, rfl, _, rfl, _, _, (e : Int), rfl, rfl, ⟨_, rfl, rfl, rfl⟩, small1000 (by rw [List.length_map, List.length_map, List.length_take]; omega), rfl, ?_⟩
    rw [List.take_add_one, List.getElem?_eq_getElem hi, List.map_append, List.map_append]
    rfl
  subst e1 e2
  rw [List.take_of_length_le (by rw [natsV_len]; exact Nat.le_refl _)]
  refine ⟨p, _, rfl, SqL.of upd_same, ?_⟩
  have z := q (upd H' p (.lst ((gs.map fun g : Nat => (decide ((k : Int) ≤ (g : Int)) && decide ((g : Int) < (e : Int)))).map V.bl))) (same_new hp _)
  have ee : (gs.map fun g : Nat => (decide ((k : Int) ≤ (g : Int)) && decide ((g : Int) < (e : Int)))).any id = Tr.bears (depths rs) gs k := by
    unfold Tr.bears
    rw [List.any_map, Bool.eq_iff_iff, List.any_eq_true, List.any_eq_true]
    have he1 := he.lt
    have pt : ∀ g ∈ gs, ((id ∘ fun g : Nat => (decide ((k : Int) ≤ (g : Int)) && decide ((g : Int) < (e : Int)))) g = true ↔ (g == k || Tr.liesIn (depths rs) g k) = true) := fun g hg' => by
      have := hgl g hg'
      rw [Tr.lies_end he (by omega)]
      show (decide ((k : Int) ≤ (g : Int)) && decide ((g : Int) < (e : Int))) = true ↔ _
      rw [Bool.or_eq_true, Bool.and_eq_true, Bool.and_eq_true, decide_eq_true_iff, decide_eq_true_iff, decide_eq_true_iff, decide_eq_true_iff, beq_iff_eq]
      omega
    exact ⟨fun ⟨g, a, b⟩ => ⟨g, a, (pt g a).mp b⟩, fun ⟨g, a, b⟩ => ⟨g, a, (pt g a).mpr b⟩⟩
  rw [ee]
  exact z
theorem sc_next_in : FnScope ["rooms", "room", "goals", "own", "kid"] ["rooms", "room", "goals"] (defScope sNext) := ⟨rfl, rfl, rfl, by decide +kernel, rfl, by decide +kernel, by decide +kernel⟩
theorem ok_next_in {n : Nat} {f gk gb : Addr} {fd dk db : FuncData} (F : Fun K "next_in" "next_in" sNext f fd)
    (G_kids : FnOk P w K mg base CX0 n gk dk ["rooms", "room"] spKids) (b_kids : Binds K dk ["rooms", "room"] []) (k_kids : PySem.W.keepIn K (.ref gk) = true) (m_kids : mg "kids" = some (.ref gk))
    (G_bears_goal : FnOk P w K mg base CX0 n gb db ["rooms", "room", "goals"] spBears) (b_bears_goal : Binds K db ["rooms", "room", "goals"] []) (k_bears_goal : PySem.W.keepIn K (.ref gb) = true) (m_bears_goal : mg "bears_goal" = some (.ref gb)) :
    FnOk P w K mg base CX0 (n + 1) f fd ["rooms", "room", "goals"] spNext := by
  refine F.ok sc_next_in (fun vs H Q E h => ?_) (fun cdv A outer s H vs Q E hr h => ?_)
  · obtain ⟨t, pg, rs, k, gs, rfl, _⟩ := h
    rfl
  obtain ⟨t, pg, rs, k, gs, rfl, hR, good, h40, hk, hG, q⟩ := h
  refine ⟨_, (pss_cons (ps_set (i := 3) sc_next_in.nd rfl (Or.inl rfl) (pe_call G_kids hr rfl m_kids k_kids b_kids .nil pass0 (pa_cons (pv 0) (pa_cons (pv 1) pa_nil))))
    (pss_cons (ps_if (pt_cmpR op_eq (pe_ix ix_tup (pe_ix ix_tup (pv 0) (pv 1) (fun _ _ => rfl)) pe_int (fun _ _ => rfl)) pe_str (nomark _))
      (pss_one (ps_ret (pv 3)))
      pss_nil)
    (pss_cut (ps_for PassesOwn.never rfl (pi_list (pv 3)) (pg_name (i := 4) sc_next_in.nd rfl (Or.inl rfl))
      (pss_one (ps_if (pt_val (pe_call G_bears_goal hr rfl m_bears_goal k_bears_goal b_bears_goal .nil pass0 (pa_cons (pv 0) (pa_cons (pv 4) (pa_cons (pv 2) pa_nil)))))
        (pss_one (ps_ret (pe_lst (pa_cons (pv 4) pa_nil))))
        pss_nil)))
    (pss_one (ps_ret (pe_slice sl_list (pv 3) po_none (po_some pe_int))))))), ?_⟩
  obtain ⟨vs, a, r, ht, hl, hr0, hat, ha⟩ := hR.at hk
  have dl := depths_len rs
  refine ⟨_, rfl, _, rfl, t, rs, k, rfl, hR, good, h40, hk, fun po H1 s1 npo hpo => ?_⟩
  refine ⟨_, rfl, _, rfl, t, vs, _, _, rfl, rfl, SqT.of (s1 _ _ ht), hat, a, _, _, _, rfl, rfl, SqT.of (s1 _ _ ha), rfl, rfl, _, rfl, ?_⟩
  have eal : alB rs k = decide (V.str r.kind = V.str ("all" : Str)) := by
    unfold alB
    rw [kind_at hr0]
    exact decide_eq_decide.mpr ⟨fun z => by rw [z], fun z => by injection z⟩
  refine itB (fun c => ?_) (fun c => ?_)
  · refine ⟨_, rfl, q po H1 s1 npo ?_⟩
    rw [Tr.next_all (eal.trans c)]
    exact hpo
  have nal : alB rs k = false := eal.trans c
  have kl : ∀ x ∈ Tr.kids (depths rs) k, x < rs.length := fun x hx => by
    have := (Tr.mem_kids.mp hx).1
    omega
  have eN : Tr.next (depths rs) (alB rs) gs k = match (Tr.kids (depths rs) k).find? (Tr.bears (depths rs) gs) with
      | some j => [j]
      | none => (Tr.kids (depths rs) k).take 1 := by
    unfold Tr.next
    rw [if_neg (by rw [nal]; exact Bool.false_ne_true)]
    all_goals (cases (Tr.kids (depths rs) k).find? (Tr.bears (depths rs) gs) <;> rfl)
  generalize hks : Tr.kids (depths rs) k = ks at hpo kl eN
  refine ⟨fun σ' H' => Same H1 H' ∧ (∀ x ∈ ks, Tr.bears (depths rs) gs x = false) ∧ ∃ o4 : Option V, σ' = [some (.ref t), some (.int (k : Int)), some (.ref pg), some (.ref po), o4], ?_, ?_⟩
  · refine ⟨_, rfl, po, rfl, ⟨_, SqL.of hpo⟩, ?_⟩
    refine for_list (K := K) (a := po) (xs := natsV ks) (fun i σ' H' => Same H1 H' ∧ (∀ x ∈ ks.take i, Tr.bears (depths rs) gs x = false) ∧ ∃ o4 : Option V, σ' = [some (.ref t), some (.int (k : Int)), some (.ref pg), some (.ref po), o4])
      ⟨Same.refl _, fun x hx => (by rw [List.take_zero] at hx; cases hx), _, rfl⟩ (fun i σ' H' _ ⟨s2, _⟩ => SqL.of (s2 _ _ hpo)) ?_ ?_
    · rintro j x σ' H2 hx ⟨s2, hno, o4, rfl⟩
      obtain ⟨hj, rfl⟩ := natsV_get hx
      have hlt := kl _ (List.getElem_mem hj)
      refine ⟨_, rfl, _, rfl, _, rfl, t, pg, rs, ks[j], gs, rfl, hR.mono (KeepT.of (s1.trans s2)), h40, hlt, hG.mono (s1.trans s2), fun H3 s3 => ⟨_, rfl, ?_⟩⟩
      refine itB (fun c => ?_) (fun c => ?_)
      · refine ⟨_, rfl, small_le (by show 1 ≤ 1000; decide), fun p hp => q p _ ((s1.trans (s2.trans s3)).trans (same_new hp _)) ((s1.trans (s2.trans s3)).free hp) ?_⟩
        have ef : ks.find? (Tr.bears (depths rs) gs) = some ks[j] := by
          rw [List.find?_eq_some_iff_getElem]
          exact ⟨c, j, hj, rfl, fun i hi => by rw [hno _ (by rw [List.mem_take_iff_getElem]; exact ⟨i, by omega, rfl⟩)]; rfl⟩
        rw [upd_same, eN, ef]
        rfl
      · refine ⟨s2.trans s3, fun x hx => ?_, _, rfl⟩
        rw [List.take_add_one, List.getElem?_eq_getElem hj] at hx
        rcases List.mem_append.mp hx with h | h
        · exact hno x h
        · rw [List.mem_singleton.mp h]
          exact c
    · rintro σ' H2 ⟨s2, hno, o4, rfl⟩
      rw [List.take_of_length_le (by rw [natsV_len]; exact Nat.le_refl _)] at hno
      exact ⟨s2, hno, _, rfl⟩
  rintro σ' H2 ⟨s2, hno, o4, rfl⟩
  refine ⟨_, rfl, _, rfl, po, _, rfl, SqL.of (s2 _ _ hpo), fun p hp => q p _ ((s1.trans s2).trans (same_new hp _)) ((s1.trans s2).free hp) ?_⟩
  have ef : ks.find? (Tr.bears (depths rs) gs) = none := by
    rw [List.find?_eq_none]
    intro x hx
    rw [hno x hx]
    exact Bool.false_ne_true
  rw [upd_same, eN, ef, cut_take _ (by decide)]
  show some (HO.lst ((natsV ks).take 1)) = some (HO.lst (natsV (ks.take 1)))
  unfold natsV
  rw [List.map_take]
theorem sc_goings_in : FnScope ["rooms", "under", "goals", "ahead", "gone", "room"] ["rooms", "under", "goals"] (defScope sIn) := ⟨rfl, rfl, rfl, by decide +kernel, rfl, by decide +kernel, by decide +kernel⟩
theorem ok_goings_in {n : Nat} {f gn : Addr} {fd dn : FuncData} (F : Fun K "goings_in" "goings_in" sIn f fd)
    (G_next_in : FnOk P w K mg base CX0 n gn dn ["rooms", "room", "goals"] spNext) (b_next_in : Binds K dn ["rooms", "room", "goals"] []) (k_next_in : PySem.W.keepIn K (.ref gn) = true) (m_next_in : mg "next_in" = some (.ref gn))
    (m_len : mg "len" = none) (m_sorted : mg "sorted" = none) : FnOk P w K mg base CX0 (n + 1) f fd ["rooms", "under", "goals"] spIn := by
  refine F.ok sc_goings_in (fun vs H Q E h => ?_) (fun cdv A outer s H vs Q E hr h => ?_)
  · obtain ⟨t, pg, rs, un, gs, rfl, _⟩ := h
    rfl
  obtain ⟨t, pg, rs, un, gs, rfl, hR, good, h40, hun, hG, q⟩ := h
  refine ⟨_, (pss_cons (ps_set (i := 3) sc_goings_in.nd rfl (Or.inl rfl) (pe_cut (pe_ifExp (pt_cmpR op_isN (pv 1) pe_non (nomark _)) (pe_lst (pa_cons pe_int pa_nil)) (pe_call G_next_in hr rfl m_next_in k_next_in b_next_in .nil pass0 (pa_cons (pv 0) (pa_cons (pv 1) (pa_cons (pv 2) pa_nil)))))))
    (pss_cons (ps_set (i := 4) sc_goings_in.nd rfl (Or.inl rfl) (pe_lst pa_nil))
    (pss_cut (ps_while PassesOwn.never (pt_cmpR op_gt (pe_callB call_len_seq rfl m_len PySem.boot_len (pa_cons (pv 3) pa_nil)) pe_int (nomark _))
      (pss_cons (ps_set (i := 5) sc_goings_in.nd rfl (Or.inl rfl) (pe_bm0 PySem.F.plainAttrs_list PySem.F.slot_list_pop PySem.F.type_list_pop mt_pop (pv 3)))
      (pss_cons (ps_expr (pe_bm PySem.F.plainAttrs_list PySem.F.slot_list_append PySem.F.type_list_append mt_append (pv 4) (pa_cons (pv 5) pa_nil)))
      (pss_one (ps_expr (pe_bm PySem.F.plainAttrs_list PySem.F.slot_list_extend PySem.F.type_list_extend mt_extend (pv 3) (pa_cons (pe_call G_next_in hr rfl m_next_in k_next_in b_next_in .nil pass0 (pa_cons (pv 0) (pa_cons (pv 5) (pa_cons (pv 2) pa_nil)))) pa_nil)))))))
    (pss_one (ps_ret (pe_callB call_sorted rfl m_sorted PyProof.Rows.boot_sorted (pa_cons (pv 4) pa_nil))))))), ?_⟩
  have dl := depths_len rs
  have pos := good.pos
  refine ⟨fun v H' => ∃ (pa : Addr) (ah : List Nat), v = .ref pa ∧ Same H H' ∧ H pa = none ∧ H' pa = some (.lst (natsV ah)) ∧ Tr.Work (depths rs) (alB rs) gs un [] ah, ?_, ?_⟩
  · cases un with
    | none => exact ⟨_, rfl, rfl, _, rfl, ifT rfl ⟨small_le (by show 1 ≤ 1000; decide), fun p hp => ⟨p, [0], rfl, same_new hp _, hp, upd_same, Tr.Work.none _ _ _⟩⟩⟩
    | some u => exact ⟨_, rfl, rfl, _, rfl, ifF rfl ⟨_, rfl, _, rfl, _, rfl, t, pg, rs, u, gs, rfl, hR, good, h40, hun u rfl, hG, fun p H1 s1 np hp => ⟨p, _, rfl, s1, np, hp, Tr.Work.some _ _ _ u⟩⟩⟩
  rintro _ H1 ⟨pa, ah, rfl, s1, npa, hpa, wk⟩
  refine ⟨Nat.zero_le _, fun pn hpn => ?_⟩
  have npn : H pn = none := s1.free hpn
  have ne : pn ≠ pa := fun e => by
    rw [e, hpa] at hpn
    cases hpn
  refine ⟨fun σ' H' => ∃ gone : List Nat, Same H H' ∧ H' pn = some (.lst (natsV gone)) ∧ Tr.Work (depths rs) (alB rs) gs un gone [] ∧ ∃ o5 : Option V, σ' = [some (.ref t), some (pV un), some (.ref pg), some (.ref pa), some (.ref pn), o5], ?_, ?_⟩
  · refine ⟨fun m σ' H' => ∃ (gone ahead : List Nat), m = rs.length - gone.length ∧ Same H H' ∧ H' pa = some (.lst (natsV ahead)) ∧ H' pn = some (.lst (natsV gone)) ∧ Tr.Work (depths rs) (alB rs) gs un gone ahead ∧ ∃ o5 : Option V, σ' = [some (.ref t), some (pV un), some (.ref pg), some (.ref pa), some (.ref pn), o5],
      ⟨_, [], ah, rfl, s1.trans (same_new hpn _), (same_new hpn _) _ _ hpa, upd_same, wk, _, rfl⟩, ?_⟩
    rintro m σ' H2 ⟨gone, ahead, rfl, s2, ha2, hn2, wk2, o5, rfl⟩
    refine ⟨_, rfl, pa, _, rfl, .inl (SqL.of ha2), _, _, rfl, rfl, _, rfl, ?_⟩
    refine itB (fun c => ?_) (fun c => ?_)
    · have c' := of_decide_eq_true c
      rw [natsV_len] at c'
      have wl := wk2.len pos
      obtain ⟨a, r, rfl⟩ : ∃ a r, ahead = a ++ [r] := by
        refine ⟨ahead.dropLast, ahead.getLast (fun z => by rw [z] at c'; exact absurd c' (by decide)), (List.dropLast_concat_getLast _).symm⟩
      have hrl : r < rs.length := by
        have := (wk2.ok r (by simp)).lt pos
        omega
      rw [List.length_append, List.length_singleton] at wl
      refine ⟨fun σ' H' => ∃ (gone2 ahead2 : List Nat), gone2.length = gone.length + 1 ∧ Same H H' ∧ H' pa = some (.lst (natsV ahead2)) ∧ H' pn = some (.lst (natsV gone2)) ∧ Tr.Work (depths rs) (alB rs) gs un gone2 ahead2 ∧ ∃ o5 : Option V, σ' = [some (.ref t), some (pV un), some (.ref pg), some (.ref pa), some (.ref pn), o5], ?_, ?_⟩
      · rintro σ' H3 ⟨g2, a2, hl, rest⟩
        exact ⟨rs.length - g2.length, by omega, g2, a2, rfl, rest⟩
      refine ⟨_, rfl, .inl ⟨rfl, _, SqL.of ha2⟩, pa, _, .int (r : Int), rfl, rfl, ha2, ?_, ?_⟩
      · rw [← natsV_app, List.length_append, List.length_singleton, Nat.add_sub_cancel, List.getElem?_append_right (Nat.le_refl _), Nat.sub_self]
        rfl
      have hn3 : (upd H2 pa (.lst (natsV (a ++ [r])).dropLast)) pn = some (.lst (natsV gone)) := by
        rw [upd_ne ne]
        exact hn2
      refine ⟨_, rfl, .inl ⟨rfl, _, SqL.of hn3⟩, _, rfl, pn, _, _, rfl, rfl, hn3, small1000 (by rw [natsV_len]; omega), ?_⟩
      have s3 : Same H (upd (upd H2 pa (.lst (natsV (a ++ [r])).dropLast)) pn (.lst (natsV gone ++ [.int (r : Int)]))) := same_upd npn (same_upd npa s2 _) _
      have ha3 : (upd (upd H2 pa (.lst (natsV (a ++ [r])).dropLast)) pn (.lst (natsV gone ++ [.int (r : Int)]))) pa = some (.lst (natsV a)) := by
        rw [upd_ne (Ne.symm ne), upd_same, ← natsV_app, List.dropLast_concat]
      have hn4 : (upd (upd H2 pa (.lst (natsV (a ++ [r])).dropLast)) pn (.lst (natsV gone ++ [.int (r : Int)]))) pn = some (.lst (natsV (gone ++ [r]))) := by
        rw [upd_same, natsV_app]
      generalize upd (upd H2 pa (.lst (natsV (a ++ [r])).dropLast)) pn (.lst (natsV gone ++ [.int (r : Int)])) = H3 at s3 ha3 hn4 ⊢
      refine ⟨_, rfl, .inl ⟨rfl, _, SqL.of ha3⟩, _, rfl, _, rfl, _, rfl, t, pg, rs, r, gs, rfl, hR.mono (KeepT.of s3), good, h40, hrl, hG.mono s3, fun px H4 s4 npx hpx => ?_⟩
      have wk3 := wk2.step
      have wl3 := wk3.len pos
      rw [List.length_append] at wl3
      refine ⟨pa, px, _, _, rfl, rfl, s4 _ _ ha3, hpx, small_le (by rw [natsV_len, natsV_len]; rw [List.length_append] at wl3; omega), gone ++ [r], a ++ Tr.next (depths rs) (alB rs) gs r, by rw [List.length_append]; rfl, same_upd npa (s3.trans s4) _, ?_, ?_, wk3, _, rfl⟩
      · rw [upd_same]
        unfold natsV
        rw [List.map_append]
      · rw [upd_ne ne]
        exact s4 _ _ hn4
    · have c' := of_decide_eq_false c
      rw [natsV_len] at c'
      have e : ahead = [] := List.eq_nil_of_length_eq_zero (by omega)
      subst e
      exact ⟨gone, s2, hn2, wk2, _, rfl⟩
  rintro σ' H2 ⟨gone, s2, hn2, wk2, o5, rfl⟩
  have wl := wk2.len pos
  refine ⟨_, rfl, pn, _, rfl, .inl (SqL.of (by rw [hn2]; unfold natsV; rw [nats_ints])), by rw [List.length_map]; omega, fun p rs' hp perm srt => ?_⟩
  have nd : gone.Nodup := by
    have := wk2.nd
    rw [List.append_nil] at this
    exact this
  obtain ⟨ms, rfl, rise, hpm⟩ := sorted_rise perm srt nd
  refine q p ms _ (s2.trans (same_new hp _)) (s2.free hp) ?_ ⟨rise, fun k => (hpm.mem_iff).trans (wk2.done k)⟩
  rw [upd_same, ← nats_ints]
  rfl
end
end Prg

namespace Prg
open PySem L2 Mix Gds Rms
/-! full openings -/
def spFull : Sp := fun vs H Q _ => ∃ (t to' : Addr) (rs : List Rm) (os : List Nat), vs = [.ref t, .ref to'] ∧ Rooms H t rs ∧ Tr.Good (depths rs) ∧ rs.length ≤ 40 ∧ H to' = some (.tup (natsV os)) ∧ (∀ o ∈ os, o < rs.length) ∧ os.length ≤ 100 ∧
  ∀ (ms : List Nat) (H' : Hp), Same H H' → Tr.Ins (depths rs) (alB rs) os none ms → Q (.bl (decide (os = ms))) H'
section
variable {P : Program} {w : World} {K : PySem.W.Frag} {mg : Str → Option Value} {base : Heap}
theorem sc_is_full : FnScope ["rooms", "opening"] ["rooms", "opening"] (defScope sFull) := ⟨rfl, rfl, rfl, by decide +kernel, rfl, by decide +kernel, by decide +kernel⟩
theorem ok_is_full {n : Nat} {f gg : Addr} {fd dg : FuncData} (F : Fun K "is_full" "is_full" sFull f fd)
    (G_goings_in : FnOk P w K mg base CX0 n gg dg ["rooms", "under", "goals"] spIn) (b_goings_in : Binds K dg ["rooms", "under", "goals"] []) (k_goings_in : PySem.W.keepIn K (.ref gg) = true) (m_goings_in : mg "goings_in" = some (.ref gg))
    (m_list : mg "list" = none) : FnOk P w K mg base CX0 (n + 1) f fd ["rooms", "opening"] spFull := by
  refine F.ok sc_is_full (fun vs H Q E h => ?_) (fun cdv A outer s H vs Q E hr h => ?_)
  · obtain ⟨t, to', rs, os, rfl, _⟩ := h
    rfl
  obtain ⟨t, to', rs, os, rfl, hR, good, h40, hto, hos, los, q⟩ := h
  refine ⟨_, (pss_one (ps_ret (pe_cmpR (op_eqN hr.units0) (pe_callTy call_list_of rfl m_list PyProof.Rows.boot_list (pa_cons (pv 1) pa_nil)) (pe_call G_goings_in hr rfl m_goings_in k_goings_in b_goings_in .nil pass0 (pa_cons (pv 0) (pa_cons pe_non (pa_cons (pe_callTy call_list_of rfl m_list PyProof.Rows.boot_list (pa_cons (pv 1) pa_nil)) pa_nil)))) (nomark _)))), ?_⟩
  refine ⟨_, rfl, to', _, rfl, .inr (SqT.of hto), fun p1 hp1 => ?_⟩
  have s1 := same_new hp1 (.lst (natsV os))
  refine ⟨_, rfl, _, rfl, to', _, rfl, .inr (SqT.of (s1 _ _ hto)), fun p2 hp2 => ?_⟩
  have s2 := same_new hp2 (.lst (natsV os))
  refine ⟨t, p2, rs, none, os, rfl, hR.mono (KeepT.of (s1.trans s2)), good, h40, fun u e => (by cases e), ⟨upd_same, hos, los⟩, fun p ms H3 s3 np hp ins => ?_⟩
  exact ⟨p1, p, os, ms, rfl, rfl, SqL.of ((s2.trans s3) _ _ upd_same), SqL.of hp, q ms H3 ((s1.trans s2).trans s3) ins⟩
end
end Prg

namespace Prg
open PySem L2 Mix Gds Rms
/-! the plain ones (Kpp without what is kept) -/
def spPlain : Sp := fun vs H Q _ => ∃ (t pt : Addr) (rs : List Rm) (os : List Nat), vs = [.ref t, .ref pt] ∧ Rooms H t rs ∧ rs.length ≤ 40 ∧ H pt = some (.lst (natsV os)) ∧ (∀ o ∈ os, o < rs.length) ∧ os.length ≤ 100 ∧
  ∀ (p : Addr) (H' : Hp), Same H H' → H' p = some (.tup (natsV (os.filter (plB rs)))) → Q (.ref p) H'
section
variable {P : Program} {w : World} {K : PySem.W.Frag} {mg : Str → Option Value} {base : Heap}
theorem sc_plain_ones : FnScope ["rooms", "told"] ["rooms", "told"] (defScope sPlain) := ⟨rfl, rfl, rfl, by decide +kernel, rfl, by decide +kernel, by decide +kernel⟩
theorem ok_plain_ones {f : Addr} {fd : FuncData} (F : Fun K "plain_ones" "plain_ones" sPlain f fd) (m_tuple : mg "tuple" = none) : FnOk P w K mg base CX0 1 f fd ["rooms", "told"] spPlain := by
  refine F.ok sc_plain_ones (fun vs H Q E h => ?_) (fun cdv A outer s H vs Q E hr h => ?_)
  · obtain ⟨t, pt, rs, os, rfl, _⟩ := h
    rfl
  obtain ⟨t, pt, rs, os, rfl, hR, h40, hpt, hos, los, q⟩ := h
  refine ⟨_, (pss_one (ps_ret (pe_callTy call_tuple_of rfl m_tuple PyProof.Rows.boot_tuple (pa_cons (pe_comp (caps := [(0, "rooms")]) rfl (show CompSc (defScope sPlain) ["rooms", "told"] _ _ _ from ⟨rfl, rfl, by decide +kernel, by decide +kernel, by decide +kernel, by decide +kernel, by decide +kernel⟩) (pi_list (pv 1)) (fun _ _ _ _ _ _ => pifs_one (pt_cmpR op_eq (pe_ix (r := rIxT K) ix_tup (pe_ix (r := rIxT K) ix_tup (pv 1) (pv 0) (fun _ _ => rfl)) pe_int (fun _ _ => rfl)) pe_str (nomark _))) (fun _ _ _ _ _ _ => (pv 0))) pa_nil)))), ?_⟩
  refine ⟨_, rfl, pt, rfl, ⟨_, SqL.of hpt⟩, ?_⟩
  refine comp_list (K := K) (a := pt) (xs := natsV os) (fun i acc H' => H' = H ∧ acc = natsV ((os.take i).filter (plB rs))) ⟨rfl, rfl⟩ (fun i acc H' ⟨e, _⟩ => by subst e; exact SqL.of hpt) (fun i x acc H' hx ⟨e1, e2⟩ => ?_) (fun acc H' ⟨e1, e2⟩ p hp => ?_)
  · subst e1 e2
    obtain ⟨hi, rfl⟩ := natsV_get hx
    obtain ⟨vs, a, r, ht, hl, hr0, hat, ha⟩ := hR.at (hos _ (List.getElem_mem hi))
    refine ⟨_, rfl, _, rfl, t, vs, _, _, rfl, rfl, SqT.of ht, hat, a, _, _, _, rfl, rfl, SqT.of ha, rfl, rfl, _, rfl, ?_⟩
    have ep : plB rs os[i] = decide (V.str r.kind = V.str ("plain" : Str)) := by
      unfold plB
      rw [kind_at hr0]
      exact decide_eq_decide.mpr ⟨fun z => by rw [z], fun z => by injection z⟩
    rw [filter_succ (List.getElem?_eq_getElem hi)]
    have ll := List.length_filter_le (plB rs) (os.take i)
    rw [List.length_take] at ll
    refine itB (fun c => ?_) (fun c => ?_)
    · rw [if_pos (ep.trans c), ← natsV_app]
      exact ⟨_, rfl, small1000 (by rw [natsV_len]; omega), rfl, rfl⟩
    · rw [if_neg (by rw [show plB rs os[i] = false from ep.trans c]; exact Bool.false_ne_true), List.append_nil]
      exact ⟨rfl, rfl⟩
  subst e1 e2
  rw [List.take_of_length_le (by rw [natsV_len]; exact Nat.le_refl _)]
  exact ⟨p, _, rfl, .inl ⟨SqL.of upd_same, fun p2 hp2 => q p2 _ ((same_new hp _).trans (same_new hp2 _)) upd_same⟩⟩
end
end Prg

namespace K16
open PySem L2 Mix Gds Rms Prg
/-! k16: a piece of an opening, what was kept -/
def spPiece (K : PySem.W.Frag) : Sp := fun vs H Q _ => ∃ (a t pp : Addr) (ns ds : List Int) (rs : List Rm) (room : Nat) (salt : Int), vs = [.ref a, .ref t, .ref pp, .int (room : Int), .int salt] ∧ SqL K H a (ns.map V.int) ∧ ns.length ≤ 63 ∧ Rooms H t rs ∧ H pp = some (.lst (parsV ds ds.length)) ∧ ds.length = rs.length ∧ room < rs.length ∧ rs.length ≤ 40 ∧ (0 ≤ salt ∧ salt ≤ 1000) ∧
  ∀ (p : Addr) (os : List Nat) (H' : Hp), Same H H' → H' p = some (.lst (natsV os)) → (∀ o ∈ os, o < rs.length) → os.length ≤ 40 → Q (.ref p) H'
section
variable {P : Program} {w : World} {K : PySem.W.Frag} {mg : Str → Option Value} {base : Heap}
theorem sc_law_piece : FnScope ["_law_script", "_law_rooms_here", "_law_parents_here", "_law_room", "_law_salt", "_law_opened", "_law_k", "_law_above", "_law_near", "_law_pick"] ["_law_script", "_law_rooms_here", "_law_parents_here", "_law_room", "_law_salt"] (defScope sPiece) := ⟨rfl, rfl, rfl, by decide +kernel, rfl, by decide +kernel, by decide +kernel⟩
theorem ok_piece {f gm : Addr} {fd dm : FuncData} (F : Fun K "_law_piece" "_law_piece" sPiece f fd)
    (G_law_mixed : FnOk P w K mg base CX0 2 gm dm ["_law_script", "_law_k", "_law_salt"] (spMixed K)) (b_law_mixed : Binds K dm ["_law_script", "_law_k", "_law_salt"] []) (k_law_mixed : PySem.W.keepIn K (.ref gm) = true) (m_law_mixed : mg "_law_mixed" = some (.ref gm))
    (m_range : mg "range" = none) (m_len : mg "len" = none) : FnOk P w K mg base CX0 3 f fd ["_law_script", "_law_rooms_here", "_law_parents_here", "_law_room", "_law_salt"] (spPiece K) := by
  refine F.ok sc_law_piece (fun vs H Q E h => ?_) (fun cdv A outer s H vs Q E hr h => ?_)
  · obtain ⟨a, t, pp, ns, ds, rs, room, salt, rfl, _⟩ := h
    rfl
  obtain ⟨a, t, pp, ns, ds, rs, room, salt, rfl, hS, h63, hR, hpp, ld, l1, l40, ⟨t0, t1⟩, q⟩ := h
  refine ⟨_, (pss_cons (ps_set (i := 5) sc_law_piece.nd rfl (Or.inl rfl) (pe_lst (pa_cons (pv 3) pa_nil)))
    (pss_cut (ps_for PassesOwn.never rfl (pi_range2 rfl m_range (pa_cons (pe_op op_add (pv 3) pe_int) (pa_cons (pe_callB call_len_seq rfl m_len PySem.boot_len (pa_cons (pv 1) pa_nil)) pa_nil))) (pg_name (i := 6) sc_law_piece.nd rfl (Or.inl rfl))
      (pss_cons (ps_set (i := 7) sc_law_piece.nd rfl (Or.inr rfl) (pe_ix ix_list (pv 2) (pv 6) (fun _ _ => rfl)))
      (pss_one (ps_if (pt_cmpR op_in_seq (pv 7) (pv 5) rfl)
        (pss_cons (ps_setC (i := 8) (caps := [(7, "_law_above"), (2, "_law_parents_here")]) rfl sc_law_piece.nd rfl (Or.inl rfl) (show CompSc (defScope sPiece) ["_law_script", "_law_rooms_here", "_law_parents_here", "_law_room", "_law_salt", "_law_opened", "_law_k", "_law_above", "_law_near", "_law_pick"] _ _ _ from ⟨rfl, rfl, by decide +kernel, by decide +kernel, by decide +kernel, by decide +kernel, by decide +kernel⟩) (pi_range1 rfl m_range (pa_cons (pe_callB call_len_seq rfl m_len PySem.boot_len (pa_cons (pv 1) pa_nil)) pa_nil)) (fun _ _ _ _ _ _ => pifs_one (pt_cmpR op_eq (pe_ix (r := rIxL K) ix_list (pv 2) (pv 0) (fun _ _ => rfl)) (pv 1) (nomark _))) (fun _ _ _ _ _ _ => (pv 0)))
        (pss_cons (ps_set (i := 9) sc_law_piece.nd rfl (Or.inl rfl) (pe_ix ix_list (pv 8) (pe_op op_mod (pe_call G_law_mixed hr rfl m_law_mixed k_law_mixed b_law_mixed .nil pass0 (pa_cons (pv 0) (pa_cons (pv 7) (pa_cons (pv 4) pa_nil)))) (pe_callB call_len_seq rfl m_len PySem.boot_len (pa_cons (pv 8) pa_nil))) (fun _ _ => rfl)))
        (pss_one (ps_if (pt_cut (PW.pt (pw_or (pt_cmpR op_eq (pe_ix ix_tup (pe_ix ix_tup (pv 1) (pv 7) (fun _ _ => rfl)) pe_int (fun _ _ => rfl)) pe_str (nomark _)) (pw_or1 (pt_cmpR op_eq (pv 9) (pv 6) (nomark _))))))
          (pss_one (ps_expr (pe_bm PySem.F.plainAttrs_list PySem.F.slot_list_append PySem.F.type_list_append mt_append (pv 5) (pa_cons (pv 6) pa_nil))))
          pss_nil))))
        pss_nil))))
    (pss_one (ps_ret (pv 5))))), ?_⟩
  obtain ⟨rv, htr, hrs⟩ := hR
  have lrv := hrs.length
  refine ⟨_, rfl, small_le (by show 1 ≤ 1000; decide), fun po hpo => ?_⟩
  have s1 := same_new hpo (.lst [V.int (room : Int)])
  refine ⟨fun σ' H' => ∃ os : List Nat, Same H H' ∧ H' po = some (.lst (natsV os)) ∧ (∀ o ∈ os, o < rs.length) ∧ os.length ≤ 40 ∧ ∃ o5 o6 o7 o8 : Option V, σ' = [some (.ref a), some (.ref t), some (.ref pp), some (.int (room : Int)), some (.int salt), some (.ref po), o5, o6, o7, o8], ?_, ?_⟩
  · refine ⟨_, rfl, _, _, rfl, rfl, _, rfl, t, _, rfl, .inr (SqT.of (s1 _ _ htr)), (room : Int) + 1, (rv.length : Int), rfl, ⟨by omega, by omega, by omega, by omega⟩, ?_⟩
    refine for_range (fun i σ' H' => ∃ os : List Nat, Same H H' ∧ H' po = some (.lst (natsV os)) ∧ (∀ o ∈ os, o < room + 1 + i) ∧ os.length ≤ 1 + i ∧ ∃ o5 o6 o7 o8 : Option V, σ' = [some (.ref a), some (.ref t), some (.ref pp), some (.int (room : Int)), some (.int salt), some (.ref po), o5, o6, o7, o8])
      ⟨[room], s1, upd_same, fun o ho => (by rw [List.mem_singleton.mp ho]; omega), (by show 1 ≤ 1 + 0; decide), _, _, _, _, rfl⟩ ?_ ?_
    · rintro i σ' H2 hi ⟨os, s2, h2, hos, los, o5, o6, o7, o8, rfl⟩
      have hi' : room + 1 + i < rs.length := by omega
      have hk : (room : Int) + 1 + (i : Int) = ((room + 1 + i : Nat) : Int) := by omega
      have hat : atI (parsV ds ds.length) ((room : Int) + 1 + (i : Int)) = some (pV (Tr.par ds (room + 1 + i))) := by
        rw [hk]
        exact atI_nat (parsV_at ds (by omega))
      refine ⟨_, rfl, _, rfl, pp, _, _, _, rfl, rfl, SqL.of (s2 _ _ hpp), hat, ?_⟩
      have skip : ∀ (H' : Hp) (x6 x7 x8 : Option V), Same H H' → H' po = some (.lst (natsV os)) → ∃ os' : List Nat, Same H H' ∧ H' po = some (.lst (natsV os')) ∧ (∀ o ∈ os', o < room + 1 + (i + 1)) ∧ os'.length ≤ 1 + (i + 1) ∧ ∃ o5 o6 o7 o8 : Option V, [some (.ref a), some (.ref t), some (.ref pp), some (.int (room : Int)), some (.int salt), some (.ref po), some (.int ((room : Int) + 1 + (i : Int))), x6, x7, x8] = [some (.ref a), some (.ref t), some (.ref pp), some (.int (room : Int)), some (.int salt), some (.ref po), o5, o6, o7, o8] := fun H' x6 x7 x8 s h => ⟨os, s, h, fun o ho => by have := hos o ho; omega, by omega, _, _, _, _, rfl⟩
      cases hpar : Tr.par ds (room + 1 + i) with
      | none => exact ⟨_, rfl, _, rfl, po, _, rfl, .inl (SqL.of h2), rfl, nats_flat os, _, rfl, ifF (nats_non os) (skip _ _ _ _ s2 h2)⟩
      | some j =>
        refine ⟨_, rfl, _, rfl, po, _, rfl, .inl (SqL.of h2), rfl, nats_flat os, _, rfl, ?_⟩
        refine itB (fun c => ?_) (fun _ => skip _ _ _ _ s2 h2)
        have hj : j < rs.length := by
          have := Tr.par_lt hpar
          omega
        refine ⟨_, rfl, t, _, rfl, .inr (SqT.of (s2 _ _ htr)), _, rfl, by omega, by omega, ?_⟩
        refine comp_range (fun i' acc H' => H' = H2 ∧ ∃ js : List Nat, acc = natsV js ∧ js.length ≤ i' ∧ (room + 1 + i < i' → room + 1 + i ∈ js)) ⟨rfl, [], rfl, Nat.le_refl _, fun z => by omega⟩ (fun i' acc H' hi2 ⟨e1, js, e2, e3, e4⟩ => ?_) (fun acc H' ⟨e1, js, e2, e3, e4⟩ p2 hp2 => ?_)
        · subst e1 e2
          have hi3 : i' < ds.length := by omega
          have hat2 : atI (parsV ds ds.length) (0 + (i' : Int)) = some (pV (Tr.par ds i')) := by
            rw [Int.zero_add]
            exact atI_nat (parsV_at ds hi3)
          refine ⟨_, rfl, _, rfl, pp, _, _, _, rfl, rfl, SqL.of (s2 _ _ hpp), hat2, _, rfl, scP _ _, _, rfl, ?_⟩
          refine itB (fun c => ?_) (fun c => ?_)
          · refine ⟨_, rfl, small1000 (by rw [natsV_len]; omega), rfl, js ++ [i'], ?_, by simp; omega, fun z => ?_⟩
            · rw [← natsV_app, Int.zero_add]
            · by_cases e : room + 1 + i = i'
              · rw [e]
                exact List.mem_append_right _ (List.mem_singleton.mpr rfl)
              · exact List.mem_append_left _ (e4 (by omega))
          · refine ⟨rfl, js, rfl, by omega, fun z => ?_⟩
            by_cases e : room + 1 + i = i'
            · exfalso
              rw [← e, hpar] at c
              have c' := of_decide_eq_false c
              exact c' rfl
            · exact e4 (by omega)
        subst e1 e2
        have hmem := e4 (by omega)
        have ljs : 0 < js.length := List.length_pos_of_mem hmem
        have s3 := same_new hp2 (.lst (natsV js))
        have s23 := s2.trans s3
        have h3 := s3 _ _ h2
        refine ⟨_, rfl, _, rfl, _, rfl, _, rfl, a, ns, _, _, rfl, s23.seq hS, h63, ⟨by omega, by omega⟩, ⟨by omega, by omega⟩, fun y y0 y1 => ?_⟩
        have ln := natsV_len js
        obtain ⟨pk, _, hpk⟩ := natsV_at (os := js) (i := y % (((natsV js).length : Nat) : Int)) (Int.emod_nonneg _ (by omega)) (by
          have := Int.emod_lt_of_pos y (show (0 : Int) < (((natsV js).length : Nat) : Int) by omega)
          omega)
        refine ⟨_, rfl, p2, _, rfl, .inl (SqL.of upd_same), _, _, rfl, rfl, (by show (0 : Int) < (((natsV js).length : Nat) : Int); omega), p2, _, _, _, rfl, rfl, SqL.of upd_same, hpk, ?_⟩
        obtain ⟨v2, hv2, a2, rfl, ha2⟩ := hrs.get (List.getElem?_eq_getElem hj)
        generalize hH3 : upd H' p2 (.lst (natsV js)) = H3 at s3 s23 h3 ⊢
        refine ⟨fun c H4 => H4 = H3, ?_, ?_⟩
        · refine ⟨_, rfl, _, rfl, t, _, _, _, rfl, rfl, SqT.of (s23 _ _ htr), atI_nat hv2, a2, _, _, _, rfl, rfl, SqT.of (s23 _ _ ha2), rfl, rfl, _, rfl, ?_⟩
          refine itB (fun _ => rfl) (fun _ => ?_)
          exact ⟨_, rfl, _, rfl, rfl, _, rfl, rfl⟩
        rintro c2 H4 rfl
        refine itB (fun _ => ?_) (fun _ => skip _ _ _ _ s23 h3)
        refine ⟨_, rfl, .inl ⟨rfl, _, SqL.of h3⟩, _, rfl, po, _, _, rfl, rfl, h3, small1000 (by rw [natsV_len]; omega), os ++ [room + 1 + i], same_upd hpo s23 _, ?_, fun o ho => ?_, by simp; omega, _, _, _, _, rfl⟩
        · rw [upd_same, ← natsV_app, hk]
        · rcases List.mem_append.mp ho with h | h
          · have := hos o h
            omega
          · rw [List.mem_singleton.mp h]
            omega
    · rintro σ' H2 ⟨os, s2, h2, hos, los, o5, o6, o7, o8, rfl⟩
      exact ⟨os, s2, h2, fun o ho => by have := hos o ho; omega, by omega, o5, o6, o7, o8, rfl⟩
  rintro σ' H2 ⟨os, s2, h2, hos, los, o5, o6, o7, o8, rfl⟩
  exact ⟨_, rfl, q po os H2 s2 h2 hos los⟩
end
end K16

namespace K18
open PySem L2 Mix Gds Rms Prg
/-! k18: what a stand must be -/
def KpOk (rs : List Rm) (r : Nat) (js : List Nat) : Prop := js = [] ∨ (keepsAt rs r = ("near" : Str) ∧ ∃ k, js = [k] ∧ k ∈ Tr.kids (depths rs) r) ∨ (keepsAt rs r = ("deep" : Str) ∧ Tr.DeepOk (depths rs) (onB rs) (alB rs) (plB rs) r js)
def HeldOk (bs held : List Int) : Prop := held.length = bs.length ∧ ∀ (i : Nat) (x z : Int), held[i]? = some x → bs[i]? = some z → 0 ≤ x ∧ x < z
structure StOk (rs : List Rm) (bs : List Int) (os : List Nat) (held : List Int) (ks : List (List Nat)) : Prop where
  full : Tr.FullB (depths rs) (onB rs) (alB rs) os
  held : HeldOk bs held
  len : ks.length = rs.length
  row : ∀ (r : Nat) (js : List Nat), ks[r]? = some js → KpOk rs r js
theorem kind_pl {rs : List Rm} {k : Nat} : plB rs k = true → alB rs k = false ∧ onB rs k = false := fun h => by
  have := of_decide_eq_true h
  unfold alB onB
  rw [this]
  exact ⟨by decide +kernel, by decide +kernel⟩
theorem leaf_pl {rs : List Rm} (f : Fit rs) (c : Nat) (h : c < (depths rs).length) (hk : Tr.kids (depths rs) c = []) : plB rs c = true := by
  have ld := depths_len rs
  have e := List.getElem?_eq_getElem (show c < rs.length by omega)
  have q := f c _ e
  by_cases k : c + 1 < rs.length ∧ (depths rs).getD c 0 < (depths rs).getD (c + 1) 0
  · exfalso
    have m : c + 1 ∈ Tr.kids (depths rs) c := Tr.mem_kids.mpr ⟨by omega, Tr.par_iff.mpr ⟨by omega, k.2, fun i h1 h2 => by omega⟩⟩
    rw [hk] at m
    cases m
  · rw [if_neg k] at q
    unfold plB
    rw [kind_at e]
    exact decide_eq_true q
theorem kinds_of {rs : List Rm} (f : Fit rs) : Tr.Kinds (depths rs) (onB rs) (alB rs) (plB rs) where
  fit := fun k hk hn => by
    obtain ⟨j, hj⟩ := List.exists_mem_of_ne_nil _ hn
    obtain ⟨h1, h2⟩ := Tr.mem_kids.mp hj
    have h3 := Fit.par f (by rw [← depths_len rs]; exact h1) h2
    cases e : plB rs k with
    | false => rfl
    | true =>
      have := kind_pl e
      rw [this.1, this.2] at h3
      rcases h3 with h | h <;> cases h
  leaf := fun k hk hn => leaf_pl f k hk hn
  two := fun k hk hn => by
    have ld := depths_len rs
    have e := List.getElem?_eq_getElem (show k < rs.length by omega)
    have q := f k _ e
    unfold plB at hn
    rw [kind_at e] at hn
    unfold alB onB
    rw [kind_at e]
    split at q
    · rcases q with q | q
      · exact .inr (decide_eq_true q)
      · exact .inl (decide_eq_true q)
    · rw [decide_eq_true q] at hn
      cases hn
  one := fun k hk => by
    have := of_decide_eq_true hk
    unfold alB
    rw [this]
    decide +kernel
end K18

namespace K18
open PySem L2 Mix Gds Rms Prg
/-! k18: may a room keep these -/
def spCanKeep : Sp := fun vs H Q _ => ∃ (t pg : Addr) (rs : List Rm) (r : Nat) (gs : List Nat), vs = [.ref t, .int (r : Int), .ref pg] ∧ Rooms H t rs ∧ Tr.Good (depths rs) ∧ rs.length ≤ 40 ∧ Fit rs ∧ r < rs.length ∧ H pg = some (.tup (natsV gs)) ∧ (∀ g ∈ gs, g < rs.length) ∧ gs.length ≤ 100 ∧
  ∀ (b : Bool) (H' : Hp), Same H H' → (b = true ↔ KpOk rs r gs) → Q (.bl b) H'
section
variable {P : Program} {w : World} {K : PySem.W.Frag} {mg : Str → Option Value} {base : Heap}
theorem sc_can_keep : FnScope ["rooms", "room", "goals"] ["rooms", "room", "goals"] (defScope sCanKeep) := ⟨rfl, rfl, rfl, by decide +kernel, rfl, by decide +kernel, by decide +kernel⟩
theorem ok_can_keep {n : Nat} {f g1 g2 g3 : Addr} {fd d1 d2 d3 : FuncData} (F : Fun K "can_keep" "can_keep" sCanKeep f fd)
    (G_kids : FnOk P w K mg base CX0 n g1 d1 ["rooms", "room"] spKids) (b_kids : Binds K d1 ["rooms", "room"] []) (k_kids : PySem.W.keepIn K (.ref g1) = true) (m_kids : mg "kids" = some (.ref g1))
    (G_plain_ones : FnOk P w K mg base CX0 n g2 d2 ["rooms", "told"] spPlain) (b_plain_ones : Binds K d2 ["rooms", "told"] []) (k_plain_ones : PySem.W.keepIn K (.ref g2) = true) (m_plain_ones : mg "plain_ones" = some (.ref g2))
    (G_goings_in : FnOk P w K mg base CX0 n g3 d3 ["rooms", "under", "goals"] spIn) (b_goings_in : Binds K d3 ["rooms", "under", "goals"] []) (k_goings_in : PySem.W.keepIn K (.ref g3) = true) (m_goings_in : mg "goings_in" = some (.ref g3))
    (m_len : mg "len" = none) (m_list : mg "list" = none) : FnOk P w K mg base CX0 (n + 1) f fd ["rooms", "room", "goals"] spCanKeep := by
  refine F.ok sc_can_keep (fun vs H Q E h => ?_) (fun cdv A outer s H vs Q E hr h => ?_)
  · obtain ⟨t, pg, rs, r, gs, rfl, _⟩ := h
    rfl
  obtain ⟨t, pg, rs, r, gs, rfl, hR, good, h40, fit, hr', hpg, hgs, lgs, q⟩ := h
  refine ⟨_, (pss_cons (ps_if (pt_cmpR op_eq (pe_callB call_len_seq rfl m_len PySem.boot_len (pa_cons (pv 2) pa_nil)) pe_int (nomark _))
      (pss_one (ps_ret pe_bl))
      pss_nil)
    (pss_cons (ps_if (pt_cmpR op_eq (pe_ix ix_tup (pe_ix ix_tup (pv 0) (pv 1) (fun _ _ => rfl)) pe_int (fun _ _ => rfl)) pe_str (nomark _))
      (pss_one (ps_ret (pe_cut (pe_and (pe_cmpR op_eq (pe_callB call_len_seq rfl m_len PySem.boot_len (pa_cons (pv 2) pa_nil)) pe_int (nomark _)) (pe_one (pe_cmpR op_in_seq (pe_ix ix_tup (pv 2) pe_int (fun _ _ => rfl)) (pe_call G_kids hr rfl m_kids k_kids b_kids .nil pass0 (pa_cons (pv 0) (pa_cons (pv 1) pa_nil))) rfl))))))
      pss_nil)
    (pss_cons (ps_if (pt_cmpR op_eq (pe_ix ix_tup (pe_ix ix_tup (pv 0) (pv 1) (fun _ _ => rfl)) pe_int (fun _ _ => rfl)) pe_str (nomark _))
      (pss_one (ps_ret (pe_cmpR (op_eqNT hr.units0) (pv 2) (pe_call G_plain_ones hr rfl m_plain_ones k_plain_ones b_plain_ones .nil pass0 (pa_cons (pv 0) (pa_cons (pe_call G_goings_in hr rfl m_goings_in k_goings_in b_goings_in .nil pass0 (pa_cons (pv 0) (pa_cons (pv 1) (pa_cons (pe_callTy call_list_of rfl m_list PyProof.Rows.boot_list (pa_cons (pv 2) pa_nil)) pa_nil)))) pa_nil))) (nomark _))))
      pss_nil)
    (pss_one (ps_ret pe_bl))))), ?_⟩
  have ld := depths_len rs
  obtain ⟨vs, a, x, ht, hl, hx, hat, ha⟩ := hR.at hr'
  have ek := keeps_at hx
  have es : ∀ y z : Str, decide (V.str y = V.str z) = decide (y = z) := fun y z => decide_eq_decide.mpr ⟨fun h => by injection h, fun h => by rw [h]⟩
  refine ⟨_, rfl, pg, _, rfl, .inr (SqT.of hpg), rfl, _, rfl, itB (fun z => ?_) (fun z => ?_)⟩
  · have z : V.int (((natsV gs).length : Nat) : Int) = V.int 0 := of_decide_eq_true z
    injection z with z
    rw [natsV_len] at z
    have : gs = [] := List.eq_nil_of_length_eq_zero (by omega)
    exact q true H (Same.refl _) ⟨fun _ => .inl this, fun _ => rfl⟩
  have ne : gs ≠ [] := fun e => by
    rw [e] at z
    exact absurd z (by decide)
  refine ⟨_, rfl, _, rfl, t, _, _, _, rfl, rfl, SqT.of ht, hat, a, _, _, _, rfl, rfl, SqT.of ha, rfl, rfl, _, rfl, itB (fun z => ?_) (fun z => ?_)⟩
  · rw [es] at z
    have kn := of_decide_eq_true z
    rw [← ek] at kn
    refine ⟨fun v H' => ∃ b : Bool, v = .bl b ∧ Same H H' ∧ (b = true ↔ KpOk rs r gs), ?_, fun v H' ⟨b, e, s, h⟩ => by rw [e]; exact q b H' s h⟩
    have nd : keepsAt rs r ≠ ("deep" : Str) := by rw [kn]; decide +kernel
    refine ⟨_, rfl, pg, _, rfl, .inr (SqT.of hpg), rfl, _, rfl, itB (fun z2 => ?_) (fun z2 => ?_)⟩
    · have z2 : V.int (((natsV gs).length : Nat) : Int) = V.int 1 := of_decide_eq_true z2
      injection z2 with z2
      rw [natsV_len] at z2
      obtain ⟨k, rfl⟩ := List.length_eq_one_iff.mp (show gs.length = 1 by omega)
      refine ⟨_, rfl, pg, _, _, _, rfl, rfl, SqT.of hpg, (atI_nat (j := 0) rfl), _, rfl, _, rfl, t, rs, r, rfl, hR, good, h40, hr', fun p H2 s2 np hp => ?_⟩
      refine ⟨p, _, rfl, .inl (SqL.of hp), rfl, nats_flat _, _, rfl, s2, ?_⟩
      show inV (.int (k : Int)) (natsV (Tr.kids (depths rs) r)) = true ↔ _
      rw [K14.in_nats, decide_eq_true_iff]
      constructor
      · exact fun h => .inr (.inl ⟨kn, k, rfl, h⟩)
      · rintro (h | ⟨_, k', h, h2⟩ | ⟨h, _⟩)
        · cases h
        · rw [List.singleton_inj.mp h]
          exact h2
        · exact absurd h nd
    · refine ⟨false, rfl, Same.refl _, ⟨(fun z => by cases z), ?_⟩⟩
      rintro (h | ⟨_, k', rfl, h2⟩ | ⟨h, _⟩)
      · exact absurd h ne
      · exact absurd z2 (by show ¬ decide (V.int ((1 : Nat) : Int) = V.int 1) = false; decide)
      · exact absurd h nd
  rw [es] at z
  have kn := of_decide_eq_false z
  rw [← ek] at kn
  refine ⟨_, rfl, _, rfl, t, _, _, _, rfl, rfl, SqT.of ht, hat, a, _, _, _, rfl, rfl, SqT.of ha, rfl, rfl, _, rfl, itB (fun z => ?_) (fun z => ?_)⟩
  · rw [es] at z
    have kd := of_decide_eq_true z
    rw [← ek] at kd
    refine ⟨_, rfl, _, rfl, _, rfl, _, rfl, _, rfl, pg, _, rfl, .inr (SqT.of hpg), fun p2 hp2 => ?_⟩
    have s2 := same_new hp2 (.lst (natsV gs))
    have i2 : upd H p2 (.lst (natsV gs)) p2 = some (.lst (natsV gs)) := upd_same
    generalize upd H p2 (.lst (natsV gs)) = H2 at s2 i2 ⊢
    refine ⟨t, p2, rs, some r, gs, rfl, hR.mono (KeepT.of s2), good, h40, fun u e => (by rw [← Option.some.inj e]; exact hr'), ⟨i2, hgs, lgs⟩, fun p ms H3 s3 np hp ins => ?_⟩
    have s23 := s2.trans s3
    have lms := ins.len (by omega)
    refine ⟨t, p, rs, ms, rfl, hR.mono (KeepT.of s23), h40, hp, fun o ho => (by rw [← ld]; exact ins.lt (by omega) o ho), by omega, fun p4 H4 s4 hp4 => ?_⟩
    refine ⟨pg, p4, gs, _, rfl, rfl, SqT.of ((s23.trans s4) _ _ hpg), SqT.of hp4, q _ H4 (s23.trans s4) ?_⟩
    rw [decide_eq_true_iff, Tr.deep_iff good (kinds_of fit) (by omega) (fun g hg => by rw [ld]; exact hgs g hg) ne ins]
    constructor
    · exact fun h => .inr (.inr ⟨kd, h⟩)
    · rintro (h | ⟨h, _⟩ | ⟨_, h⟩)
      · exact absurd h ne
      · exact absurd h kn
      · exact h
  rw [es] at z
  have kd := of_decide_eq_false z
  rw [← ek] at kd
  refine q false H (Same.refl _) ⟨(fun z => by cases z), ?_⟩
  rintro (h | ⟨h, _⟩ | ⟨h, _⟩)
  · exact absurd h ne
  · exact absurd h kn
  · exact absurd h kd
end
end K18

namespace K18
open PySem L2 Mix Gds Rms Prg
/-! k18: numbers that boxes can hold; a stand -/
def BxsIn (H : Hp) (bv : List V) (bs : List Int) : Prop := bv.length = bs.length ∧ ∀ (i : Nat) (v : V) (z : Int), bv[i]? = some v → bs[i]? = some z → ∃ (a : Addr) (x y : V), v = .ref a ∧ H a = some (.tup [x, .int z, y])
theorem BxsIn.mono {H H' : Hp} {bv : List V} {bs : List Int} (x : BxsIn H bv bs) (k : KeepT H H') : BxsIn H' bv bs := ⟨x.1, fun i v z h1 h2 => by
  obtain ⟨a, p, q, h3, h4⟩ := x.2 i v z h1 h2
  exact ⟨a, p, q, h3, k _ _ h4⟩⟩
def spHeld : Sp := fun vs H Q _ => ∃ (pb pn : Addr) (bv : List V) (bs hs : List Int), vs = [.ref pb, .ref pn] ∧ H pb = some (.tup bv) ∧ BxsIn H bv bs ∧ H pn = some (.tup (hs.map V.int)) ∧ hs.length ≤ 100 ∧ bs.length ≤ 100 ∧
  ∀ (b : Bool) (H' : Hp), Same H H' → (b = true ↔ HeldOk bs hs) → Q (.bl b) H'
def RowsT (H : Hp) (kv : List V) (ks : List (List Nat)) : Prop := kv.length = ks.length ∧ ∀ (i : Nat) (v : V) (js : List Nat), kv[i]? = some v → ks[i]? = some js → ∃ a : Addr, v = .ref a ∧ H a = some (.tup (natsV js))
theorem RowsT.mono {H H' : Hp} {kv : List V} {ks : List (List Nat)} (x : RowsT H kv ks) (k : KeepT H H') : RowsT H' kv ks := ⟨x.1, fun i v z h1 h2 => by
  obtain ⟨a, h3, h4⟩ := x.2 i v z h1 h2
  exact ⟨a, h3, k _ _ h4⟩⟩
def spIsStand : Sp := fun vs H Q _ => ∃ (pc ps pb t po ph pk : Addr) (x0 x1 x2 x4 x6 : V) (bv kv : List V) (rs : List Rm) (bs hs : List Int) (os : List Nat) (ks : List (List Nat)), vs = [.ref pc, .ref ps] ∧ H pc = some (.tup [x0, x1, x2, .ref pb, x4, .ref t, x6]) ∧ H pb = some (.tup bv) ∧ BxsIn H bv bs ∧ Rooms H t rs ∧ Tr.Good (depths rs) ∧ rs.length ≤ 40 ∧ Fit rs ∧
  H ps = some (.tup [.ref po, .ref ph, .ref pk]) ∧ H po = some (.tup (natsV os)) ∧ (∀ o ∈ os, o < rs.length) ∧ os.length ≤ 100 ∧ H ph = some (.tup (hs.map V.int)) ∧ hs.length ≤ 100 ∧ bs.length ≤ 100 ∧ H pk = some (.tup kv) ∧ RowsT H kv ks ∧ ks.length ≤ 100 ∧ (∀ js ∈ ks, (∀ g ∈ js, g < rs.length) ∧ js.length ≤ 100) ∧
  ∀ (b : Bool) (H' : Hp), Same H H' → (b = true ↔ StOk rs bs os hs ks) → Q (.bl b) H'
theorem all_id {bs : List Bool} : bs.all id = true ↔ ∀ b ∈ bs, b = true := by
  rw [List.all_eq_true]
  rfl
section
variable {P : Program} {w : World} {K : PySem.W.Frag} {mg : Str → Option Value} {base : Heap}
theorem sc_are_held : FnScope ["boxes", "numbers"] ["boxes", "numbers"] (defScope sHeld) := ⟨rfl, rfl, rfl, by decide +kernel, rfl, by decide +kernel, by decide +kernel⟩
theorem ok_are_held {f : Addr} {fd : FuncData} (F : Fun K "are_held" "are_held" sHeld f fd) (m_len : mg "len" = none) (m_all : mg "all" = none) (m_zip : mg "zip" = none) : FnOk P w K mg base CX0 1 f fd ["boxes", "numbers"] spHeld := by
  refine F.ok sc_are_held (fun vs H Q E h => ?_) (fun cdv A outer s H vs Q E hr h => ?_)
  · obtain ⟨pb, pn, bv, bs, hs, rfl, _⟩ := h
    rfl
  obtain ⟨pb, pn, bv, bs, hs, rfl, hpb, hB, hpn, lhs, lbs, q⟩ := h
  refine ⟨_, (pss_cons (ps_if (pt_cmpR op_ne (pe_callB call_len_seq rfl m_len PySem.boot_len (pa_cons (pv 1) pa_nil)) (pe_callB call_len_seq rfl m_len PySem.boot_len (pa_cons (pv 0) pa_nil)) (nomark _))
      (pss_one (ps_ret pe_bl))
      pss_nil)
    (pss_one (ps_ret (pe_callB (call_allB rfl) rfl m_all PyProof.Rows.boot_all (pa_cons (pe_comp2 (caps := []) rfl (show CompSc2 (defScope sHeld) ["boxes", "numbers"] _ _ _ _ from ⟨rfl, rfl, rfl, by decide +kernel, by decide +kernel, by decide +kernel, by decide +kernel, by decide +kernel⟩) (pi_zipT rfl m_zip (pa_cons (pv 1) (pa_cons (pv 0) pa_nil))) (fun _ _ _ _ _ _ => pifs_nil) (fun _ _ _ _ _ _ => (pe_chV op_le op_lt pe_int (pv 0) (pe_ix (r := rIxT K) ix_tup (pv 1) pe_int (fun _ _ => rfl))))) pa_nil))))), ?_⟩
  have lb := hB.1
  refine ⟨_, rfl, pn, _, rfl, .inr (SqT.of hpn), _, rfl, pb, _, rfl, .inr (SqT.of hpb), rfl, _, rfl, itB (fun z => ?_) (fun z => ?_)⟩
  · refine q false H (Same.refl _) ⟨(fun z => by cases z), fun h => ?_⟩
    exfalso
    have z : (!decide (V.int (((hs.map V.int).length : Nat) : Int) = V.int ((bv.length : Nat) : Int))) = true := z
    rw [List.length_map, h.1, lb, decide_eq_true rfl] at z
    cases z
  have ll : hs.length = bv.length := by
    have z : (!decide (V.int (((hs.map V.int).length : Nat) : Int) = V.int ((bv.length : Nat) : Int))) = false := z
    rw [Bool.not_eq_false'] at z
    have := of_decide_eq_true z
    injection this with this
    rw [List.length_map] at this
    omega
  refine ⟨_, rfl, _, rfl, pn, pb, rfl, ⟨_, SqT.of hpn⟩, ⟨_, SqT.of hpb⟩, ?_⟩
  refine comp2_zipT (K := K) (a := pn) (b := pb) (xs := hs.map V.int) (ys := bv) (fun i acc H' => Same H H' ∧ ∃ cs : List Bool, acc = cs.map V.bl ∧ cs.length = i ∧ ((∀ b ∈ cs, b = true) ↔ ∀ (j : Nat) (x z : Int), j < i → hs[j]? = some x → bs[j]? = some z → 0 ≤ x ∧ x < z)) ⟨Same.refl _, [], rfl, rfl, ⟨fun _ j x z h => absurd h (Nat.not_lt_zero _), (fun _ b hb => by cases hb)⟩⟩ (fun i acc H' z => ⟨SqT.of (z.1 _ _ hpn), SqT.of (z.1 _ _ hpb)⟩) (by rw [List.length_map]; exact ll) ?_ ?_
  · rintro i x y acc H' t hx hy ⟨s1, cs, rfl, lc, hc⟩ ht
    rw [List.getElem?_map] at hx
    cases hk : hs[i]? with
    | none => rw [hk] at hx; cases hx
    | some x' =>
      rw [hk] at hx
      obtain rfl := Option.some.inj hx
      have hi : i < bs.length := by
        have := (List.getElem?_eq_some_iff.mp hk).1
        omega
      have hz := List.getElem?_eq_getElem hi
      generalize bs[i] = z at hz
      obtain ⟨a, p, q', rfl, ha⟩ := hB.2 i y z hy hz
      have u2 := same_new ht (.tup [V.int x', V.ref a])
      refine ⟨_, rfl, _, _, z, rfl, rfl, ⟨_, rfl, a, _, _, _, rfl, rfl, SqT.of ((s1.trans u2) _ _ ha), rfl, rfl, rfl⟩, small1000 (by rw [List.length_map]; omega), s1.trans u2, cs ++ [decide (0 ≤ x') && decide (x' < z)], by rw [List.map_append]; rfl, by rw [List.length_append, List.length_singleton, lc], ?_⟩
      constructor
      · intro h j x y hj h1 h2
        by_cases c : j < i
        · exact hc.mp (fun b hb => h b (List.mem_append_left _ hb)) j x y c h1 h2
        · obtain rfl : j = i := by omega
          have := h _ (List.mem_append_right _ (List.mem_singleton.mpr rfl))
          rw [Bool.and_eq_true, decide_eq_true_iff, decide_eq_true_iff] at this
          rw [hk] at h1
          rw [hz] at h2
          rw [← Option.some.inj h1, ← Option.some.inj h2]
          exact this
      · intro h b hb
        rcases List.mem_append.mp hb with hb | hb
        · exact hc.mpr (fun j x y hj h1 h2 => h j x y (by omega) h1 h2) b hb
        · rw [List.mem_singleton.mp hb, Bool.and_eq_true, decide_eq_true_iff, decide_eq_true_iff]
          exact h i x' z (by omega) hk hz
  · rintro acc H' ⟨s1, cs, rfl, lc, hc⟩ p hp
    refine ⟨p, cs, rfl, SqL.of upd_same, q _ _ (s1.trans (same_new hp _)) ?_⟩
    rw [all_id, hc]
    refine ⟨fun h => ⟨by omega, fun i x z h1 h2 => h i x z ?_ h1 h2⟩, fun h j x z _ h1 h2 => h.2 j x z h1 h2⟩
    have := (List.getElem?_eq_some_iff.mp h1).1
    rw [List.length_map]
    exact this
end
end K18

namespace K18
open PySem L2 Mix Gds Rms Prg
/-! k18: is it a stand -/
section
variable {P : Program} {w : World} {K : PySem.W.Frag} {mg : Str → Option Value} {base : Heap}
theorem sc_is_stand : FnScope ["chart", "stand", "rooms", "kept"] ["chart", "stand"] (defScope sStand) := ⟨rfl, rfl, rfl, by decide +kernel, rfl, by decide +kernel, by decide +kernel⟩
theorem ok_is_stand {n : Nat} {f g1 g2 g3 : Addr} {fd d1 d2 d3 : FuncData} (F : Fun K "is_stand" "is_stand" sStand f fd)
    (G_is_full : FnOk P w K mg base CX0 n g1 d1 ["rooms", "opening"] spFull) (b_is_full : Binds K d1 ["rooms", "opening"] []) (k_is_full : PySem.W.keepIn K (.ref g1) = true) (m_is_full : mg "is_full" = some (.ref g1))
    (G_are_held : FnOk P w K mg base CX0 n g2 d2 ["boxes", "numbers"] spHeld) (b_are_held : Binds K d2 ["boxes", "numbers"] []) (k_are_held : PySem.W.keepIn K (.ref g2) = true) (m_are_held : mg "are_held" = some (.ref g2))
    (G_can_keep : FnOk P w K mg base CX0 n g3 d3 ["rooms", "room", "goals"] spCanKeep) (b_can_keep : Binds K d3 ["rooms", "room", "goals"] []) (k_can_keep : PySem.W.keepIn K (.ref g3) = true) (m_can_keep : mg "can_keep" = some (.ref g3))
    (m_len : mg "len" = none) (m_all : mg "all" = none) (m_enumerate : mg "enumerate" = none) : FnOk P w K mg base CX0 (n + 1) f fd ["chart", "stand"] spIsStand := by
  refine F.ok sc_is_stand (fun vs H Q E h => ?_) (fun cdv A outer s H vs Q E hr h => ?_)
  · obtain ⟨pc, ps, pb, t, po, ph, pk, x0, x1, x2, x4, x6, bv, kv, rs, bs, hs, os, ks, rfl, _⟩ := h
    rfl
  obtain ⟨pc, ps, pb, t, po, ph, pk, x0, x1, x2, x4, x6, bv, kv, rs, bs, hs, os, ks, rfl, hpc, hpb, hB, hR, good, h40, fit, hps, hpo, hos, los, hph, lhs, lbs, hpk, hK, lks, hks, q⟩ := h
  refine ⟨_, (pss_cons (ps_set (i := 2) sc_is_stand.nd rfl (Or.inr rfl) (pe_ix ix_tup (pv 0) pe_int (fun _ _ => rfl)))
    (pss_cons (ps_set (i := 3) sc_is_stand.nd rfl (Or.inl rfl) (pe_ix ix_tup (pv 1) pe_int (fun _ _ => rfl)))
    (pss_cons (ps_if (pt_cut (PW.pt (pw_or (pt_not (pt_val (pe_call G_is_full hr rfl m_is_full k_is_full b_is_full .nil pass0 (pa_cons (pv 2) (pa_cons (pe_ix ix_tup (pv 1) pe_int (fun _ _ => rfl)) pa_nil))))) (pw_or1 (pt_not (pt_val (pe_call G_are_held hr rfl m_are_held k_are_held b_are_held .nil pass0 (pa_cons (pe_ix ix_tup (pv 0) pe_int (fun _ _ => rfl)) (pa_cons (pe_ix ix_tup (pv 1) pe_int (fun _ _ => rfl)) pa_nil)))))))))
      (pss_one (ps_ret pe_bl))
      pss_nil)
    (pss_cons (ps_if (pt_cmpR op_ne (pe_callB call_len_seq rfl m_len PySem.boot_len (pa_cons (pv 3) pa_nil)) (pe_callB call_len_seq rfl m_len PySem.boot_len (pa_cons (pv 2) pa_nil)) (nomark _))
      (pss_one (ps_ret pe_bl))
      pss_nil)
    (pss_one (ps_ret (pe_callB (call_allB rfl) rfl m_all PyProof.Rows.boot_all (pa_cons (pe_comp2 (caps := [(2, "rooms")]) rfl (show CompSc2 (defScope sStand) ["chart", "stand", "rooms", "kept"] _ _ _ _ from ⟨rfl, rfl, rfl, by decide +kernel, by decide +kernel, by decide +kernel, by decide +kernel, by decide +kernel⟩) (pi_enum rfl m_enumerate (pa_cons (pv 3) pa_nil)) (fun _ _ _ _ _ _ => pifs_nil) (fun _ _ _ _ _ _ => (pe_call G_can_keep hr rfl m_can_keep k_can_keep b_can_keep .nil pass0 (pa_cons (pv 2) (pa_cons (pv 0) (pa_cons (pv 1) pa_nil)))))) pa_nil)))))))), ?_⟩
  have ld := depths_len rs
  have lk := hK.1
  have lt' : ∀ o ∈ os, o < (depths rs).length := fun o h => by rw [ld]; exact hos o h
  obtain ⟨rv, ht, hrv⟩ := id hR
  have lrv := hrv.length
  refine ⟨_, rfl, pc, _, _, _, rfl, rfl, SqT.of hpc, rfl, ?_⟩
  refine ⟨_, rfl, ps, _, _, _, rfl, rfl, SqT.of hps, rfl, ?_⟩
  refine ⟨fun c H' => Same H H' ∧ (c = false ↔ Tr.FullB (depths rs) (onB rs) (alB rs) os ∧ HeldOk bs hs), ?_, ?_⟩
  · refine ⟨_, rfl, _, rfl, ps, _, _, _, rfl, rfl, SqT.of hps, rfl, t, po, rs, os, rfl, hR, good, h40, hpo, hos, los, fun ms H2 s2 ins => ?_⟩
    have fi : decide (os = ms) = true ↔ Tr.FullB (depths rs) (onB rs) (alB rs) os := by
      rw [decide_eq_true_iff, Tr.full_ins good lt' (fun k p hk hp => Fit.par fit (by rw [← ld]; exact hk) hp) (fun p hp => Fit.one good fit p hp)]
      exact ⟨fun e => by rw [← e] at ins; exact ins, fun h => h.unique ins⟩
    refine ⟨_, rfl, itB (fun z => ?_) (fun z => ?_)⟩
    · refine ⟨s2, (fun z => by cases z), fun h => ?_⟩
      have z : (!decide (os = ms)) = true := z
      rw [fi.mpr h.1] at z
      cases z
    · have z : (!decide (os = ms)) = false := z
      rw [Bool.not_eq_false'] at z
      have full := fi.mp z
      refine ⟨_, rfl, pc, _, _, _, rfl, rfl, SqT.of (s2 _ _ hpc), rfl, _, rfl, ps, _, _, _, rfl, rfl, SqT.of (s2 _ _ hps), rfl, pb, ph, bv, bs, hs, rfl, s2 _ _ hpb, hB.mono (KeepT.of s2), s2 _ _ hph, lhs, lbs, fun b H3 s3 hb => ?_⟩
      refine ⟨_, rfl, s2.trans s3, ?_⟩
      rw [Bool.not_eq_false', hb]
      exact ⟨fun h => ⟨full, h⟩, fun h => h.2⟩
  rintro c H2 ⟨s2, hc⟩
  refine itB (fun z => ?_) (fun z => ?_)
  · refine q false H2 s2 ⟨(fun z => by cases z), fun h => ?_⟩
    have := hc.mpr ⟨h.full, h.held⟩
    rw [this] at z
    cases z
  obtain ⟨full, held⟩ := hc.mp z
  refine ⟨_, rfl, pk, _, rfl, .inr (SqT.of (s2 _ _ hpk)), _, rfl, t, _, rfl, .inr (SqT.of (s2 _ _ ht)), rfl, _, rfl, itB (fun z => ?_) (fun z => ?_)⟩
  · refine q false H2 s2 ⟨(fun z => by cases z), fun h => ?_⟩
    have z : (!decide (V.int ((kv.length : Nat) : Int) = V.int ((rv.length : Nat) : Int))) = true := z
    rw [lk, h.len, lrv, decide_eq_true rfl] at z
    cases z
  have ll : ks.length = rs.length := by
    have z : (!decide (V.int ((kv.length : Nat) : Int) = V.int ((rv.length : Nat) : Int))) = false := z
    rw [Bool.not_eq_false'] at z
    have := of_decide_eq_true z
    injection this with this
    omega
  refine ⟨_, rfl, pk, rfl, ⟨_, SqT.of (s2 _ _ hpk)⟩, ?_⟩
  refine comp2_enumT (K := K) (a := pk) (xs := kv) (fun i acc H' => Same H H' ∧ ∃ cs : List Bool, acc = cs.map V.bl ∧ cs.length = i ∧ ((∀ b ∈ cs, b = true) ↔ ∀ (r : Nat) (js : List Nat), r < i → ks[r]? = some js → KpOk rs r js)) ⟨s2, [], rfl, rfl, ⟨fun _ r js h => absurd h (Nat.not_lt_zero _), (fun _ b hb => by cases hb)⟩⟩ (fun i acc H' z => SqT.of (z.1 _ _ hpk)) ?_ ?_
  · rintro i x acc H' p hx ⟨s3, cs, rfl, lc, hc⟩ hp
    have hi : i < ks.length := by
      have := (List.getElem?_eq_some_iff.mp hx).1
      omega
    have hj := List.getElem?_eq_getElem hi
    have hm := List.getElem_mem hi
    generalize ks[i] = js at hj hm
    obtain ⟨a, rfl, ha⟩ := hK.2 i x js hx hj
    have u4 := same_new hp (.tup [V.int (i : Int), V.ref a])
    have s4 := s3.trans u4
    refine ⟨_, rfl, _, rfl, _, rfl, t, a, rs, i, js, rfl, hR.mono (KeepT.of s4), good, h40, fit, by omega, s4 _ _ ha, (hks js hm).1, (hks js hm).2, fun b H5 s5 hb => ?_⟩
    refine ⟨small1000 (by rw [List.length_map]; omega), s4.trans s5, cs ++ [b], by rw [List.map_append]; rfl, by rw [List.length_append, List.length_singleton, lc], ?_⟩
    constructor
    · intro h r y hr1 h1
      by_cases c : r < i
      · exact hc.mp (fun b hb => h b (List.mem_append_left _ hb)) r y c h1
      · obtain rfl : r = i := by omega
        have := h _ (List.mem_append_right _ (List.mem_singleton.mpr rfl))
        rw [hj] at h1
        rw [← Option.some.inj h1]
        exact hb.mp this
    · intro h b' hb'
      rcases List.mem_append.mp hb' with hb' | hb'
      · exact hc.mpr (fun r y hr1 h1 => h r y (by omega) h1) b' hb'
      · rw [List.mem_singleton.mp hb']
        exact hb.mpr (h i js (by omega) hj)
  · rintro acc H' ⟨s3, cs, rfl, lc, hc⟩ p hp
    refine ⟨p, cs, rfl, SqL.of upd_same, q _ _ (s3.trans (same_new hp _)) ?_⟩
    rw [all_id, hc]
    refine ⟨fun h => ⟨full, held, ll, fun r js h1 => h r js ?_ h1⟩, fun h r js _ h1 => h.row r js h1⟩
    have := (List.getElem?_eq_some_iff.mp h1).1
    omega
end
end K18

namespace K18
open PySem L2 Mix Gds Rms Prg
/-! k18: the law's word on rows that go deep -/
def spLeads : Sp := fun vs H Q _ => ∃ (pp pr : Addr) (ds : List Int) (room : Nat) (row : List Nat), vs = [.ref pp, .int (room : Int), .ref pr] ∧ H pp = some (.lst (parsV ds ds.length)) ∧ H pr = some (.lst (natsV row)) ∧ (∀ g ∈ row, g < ds.length) ∧ row.length ≤ 100 ∧ ∀ H', Same H H' → Q (.bl (Tr.bears ds row room)) H'
def spDeep : Sp := fun vs H Q _ => ∃ (t pp pr : Addr) (rs : List Rm) (room : Nat) (row : List Nat), vs = [.ref t, .ref pp, .int (room : Int), .ref pr] ∧ Rooms H t rs ∧ rs.length ≤ 40 ∧ H pp = some (.lst (parsV (depths rs) (depths rs).length)) ∧ room < rs.length ∧ H pr = some (.lst (natsV row)) ∧ (∀ g ∈ row, g < rs.length) ∧ row.length ≤ 100 ∧
  ∀ (b : Bool) (H' : Hp), Same H H' → (b = true ↔ Tr.DeepOk (depths rs) (onB rs) (alB rs) (plB rs) room row) → Q (.bl b) H'
theorem bears_some (ds : List Int) (row : List Nat) (room : Nat) : decide ((0 : Int) < (((natsV (row.filter fun g => g == room || Tr.liesIn ds g room)).length : Nat) : Int)) = Tr.bears ds row room := by
  rw [natsV_len]
  unfold Tr.bears
  rw [Bool.eq_iff_iff, decide_eq_true_iff, List.any_eq_true]
  constructor
  · intro h
    obtain ⟨g, hg⟩ := List.exists_mem_of_length_pos (show 0 < (row.filter fun g => g == room || Tr.liesIn ds g room).length by omega)
    exact ⟨g, (List.mem_filter.mp hg).1, (List.mem_filter.mp hg).2⟩
  · rintro ⟨g, h1, h2⟩
    have := List.length_pos_of_mem (List.mem_filter.mpr ⟨h1, h2⟩ : g ∈ row.filter fun g => g == room || Tr.liesIn ds g room)
    omega
section
variable {P : Program} {w : World} {K : PySem.W.Frag} {mg : Str → Option Value} {base : Heap}
theorem sc_law_leads : FnScope ["_law_parents_here", "_law_room", "_law_row"] ["_law_parents_here", "_law_room", "_law_row"] (defScope sLeads) := ⟨rfl, rfl, rfl, by decide +kernel, rfl, by decide +kernel, by decide +kernel⟩
theorem ok_leads {n : Nat} {f gl : Addr} {fd dl : FuncData} (F : Fun K "_law_leads" "_law_leads" sLeads f fd)
    (G_law_lies : FnOk P w K mg base CX0 n gl dl ["_law_parents_here", "_law_one", "_law_other"] K14.spLies) (b_law_lies : Binds K dl ["_law_parents_here", "_law_one", "_law_other"] []) (k_law_lies : PySem.W.keepIn K (.ref gl) = true) (m_law_lies : mg "_law_lies" = some (.ref gl))
    (m_len : mg "len" = none) : FnOk P w K mg base CX0 (n + 1) f fd ["_law_parents_here", "_law_room", "_law_row"] spLeads := by
  refine F.ok sc_law_leads (fun vs H Q E h => ?_) (fun cdv A outer s H vs Q E hr h => ?_)
  · obtain ⟨pp, pr, ds, room, row, rfl, _⟩ := h
    rfl
  obtain ⟨pp, pr, ds, room, row, rfl, hpp, hpr, hrow, lrow, q⟩ := h
  refine ⟨_, (pss_one (ps_ret (pe_cmpR op_gt (pe_callB call_len_seq rfl m_len PySem.boot_len (pa_cons (pe_comp (caps := [(1, "_law_room"), (0, "_law_parents_here")]) rfl (show CompSc (defScope sLeads) ["_law_parents_here", "_law_room", "_law_row"] _ _ _ from ⟨rfl, rfl, by decide +kernel, by decide +kernel, by decide +kernel, by decide +kernel, by decide +kernel⟩) (pi_list (pv 2)) (fun _ _ _ _ _ _ => pifs_one (PW.pt (pw_or (pt_cmpR (r := rEq) op_eq (pv 0) (pv 1) (nomark _)) (pw_or1 (pt_val (pe_call G_law_lies hr rfl m_law_lies k_law_lies b_law_lies .nil pass0 (pa_cons (pv 2) (pa_cons (pv 0) (pa_cons (pv 1) pa_nil))))))))) (fun _ _ _ _ _ _ => (pv 0))) pa_nil)) pe_int (nomark _)))), ?_⟩
  refine ⟨_, rfl, pr, rfl, ⟨_, SqL.of hpr⟩, ?_⟩
  refine comp_list (K := K) (a := pr) (xs := natsV row) (fun i acc H' => H' = H ∧ acc = natsV ((row.take i).filter fun g => g == room || Tr.liesIn ds g room)) ⟨rfl, rfl⟩ (fun i acc H' ⟨e, _⟩ => by subst e; exact SqL.of hpr) (fun i x acc H' hx ⟨e1, e2⟩ => ?_) (fun acc H' ⟨e1, e2⟩ p hp => ?_)
  · subst e1 e2
    obtain ⟨hi, rfl⟩ := natsV_get hx
    have lf := List.length_filter_le (fun g => g == room || Tr.liesIn ds g room) (row.take i)
    rw [List.length_take] at lf
    have ee : decide (V.int ((row[i] : Nat) : Int) = V.int (room : Int)) = (row[i] == room) := by
      rw [Bool.eq_iff_iff, decide_eq_true_iff, beq_iff_eq]
      exact ⟨fun z => by injection z with z; omega, fun z => by rw [z]⟩
    rw [filter_succ (List.getElem?_eq_getElem hi)]
    refine ⟨_, rfl, _, rfl, rfl, _, rfl, itB (fun z => ?_) (fun z => ?_)⟩
    · rw [ee] at z
      rw [if_pos (by rw [z, Bool.true_or]), ← natsV_app]
      exact ifT rfl ⟨_, rfl, small1000 (by rw [natsV_len]; omega), rfl, rfl⟩
    · rw [ee] at z
      refine ⟨_, rfl, _, rfl, _, rfl, pp, ds, row[i], room, rfl, hpp, hrow _ (List.getElem_mem hi), _, rfl, ?_⟩
      rw [z, Bool.false_or]
      refine itB (fun z2 => ?_) (fun z2 => ?_)
      · rw [if_pos z2, ← natsV_app]
        exact ⟨_, rfl, small1000 (by rw [natsV_len]; omega), rfl, rfl⟩
      · rw [if_neg (by rw [z2]; exact Bool.false_ne_true), List.append_nil]
        exact ⟨rfl, rfl⟩
  · subst e1 e2
    rw [natsV_len, List.take_of_length_le (Nat.le_refl _)]
    refine ⟨p, _, rfl, .inl (SqL.of upd_same), _, _, rfl, rfl, ?_⟩
    have z := q _ (same_new hp (.lst (natsV (row.filter fun g => g == room || Tr.liesIn ds g room))))
    rw [← bears_some] at z
    exact z
theorem sc_law_deep : FnScope ["_law_rooms_here", "_law_parents_here", "_law_room", "_law_row", "_law_k", "_law_near", "_law_led"] ["_law_rooms_here", "_law_parents_here", "_law_room", "_law_row"] (defScope sLDeep) := ⟨rfl, rfl, rfl, by decide +kernel, rfl, by decide +kernel, by decide +kernel⟩
theorem ok_deep {n : Nat} {f gl ge : Addr} {fd dl de : FuncData} (F : Fun K "_law_deep" "_law_deep" sLDeep f fd)
    (G_law_lies : FnOk P w K mg base CX0 n gl dl ["_law_parents_here", "_law_one", "_law_other"] K14.spLies) (b_law_lies : Binds K dl ["_law_parents_here", "_law_one", "_law_other"] []) (k_law_lies : PySem.W.keepIn K (.ref gl) = true) (m_law_lies : mg "_law_lies" = some (.ref gl))
    (G_law_leads : FnOk P w K mg base CX0 n ge de ["_law_parents_here", "_law_room", "_law_row"] spLeads) (b_law_leads : Binds K de ["_law_parents_here", "_law_room", "_law_row"] []) (k_law_leads : PySem.W.keepIn K (.ref ge) = true) (m_law_leads : mg "_law_leads" = some (.ref ge))
    (m_range : mg "range" = none) (m_len : mg "len" = none) : FnOk P w K mg base CX0 (n + 1) f fd ["_law_rooms_here", "_law_parents_here", "_law_room", "_law_row"] spDeep := by
  refine F.ok sc_law_deep (fun vs H Q E h => ?_) (fun cdv A outer s H vs Q E hr h => ?_)
  · obtain ⟨t, pp, pr, rs, room, row, rfl, _⟩ := h
    rfl
  obtain ⟨t, pp, pr, rs, room, row, rfl, hR, h40, hpp, hroom, hpr, hrow, lrow, q⟩ := h
  refine ⟨_, (pss_cut (ps_for PassesOwn.never rfl (pi_range1 rfl m_range (pa_cons (pe_callB call_len_seq rfl m_len PySem.boot_len (pa_cons (pv 3) pa_nil)) pa_nil)) (pg_name (i := 4) sc_law_deep.nd rfl (Or.inr rfl))
      (pss_cons (ps_if (pt_cut (PW.pt (pw_or (pt_cmpR op_ne (pe_ix ix_tup (pe_ix ix_tup (pv 0) (pe_ix ix_list (pv 3) (pv 4) (fun _ _ => rfl)) (fun _ _ => rfl)) pe_int (fun _ _ => rfl)) pe_str (nomark _)) (pw_or1 (pt_not (pt_val (pe_call G_law_lies hr rfl m_law_lies k_law_lies b_law_lies .nil pass0 (pa_cons (pv 1) (pa_cons (pe_ix ix_list (pv 3) (pv 4) (fun _ _ => rfl)) (pa_cons (pv 2) pa_nil))))))))))
        (pss_one (ps_ret pe_bl))
        pss_nil)
      (pss_one (ps_if (pt_cut (PW.pt (pw_and (pt_cmpR op_gt (pv 4) pe_int (nomark _)) (pw_and1 (pt_cmpR op_ge (pe_ix ix_list (pv 3) (pe_op op_sub (pv 4) pe_int) (fun _ _ => rfl)) (pe_ix ix_list (pv 3) (pv 4) (fun _ _ => rfl)) (nomark _))))))
        (pss_one (ps_ret pe_bl))
        pss_nil))))
    (pss_cut (ps_for PassesOwn.never rfl (pi_range2 rfl m_range (pa_cons (pv 2) (pa_cons (pe_callB call_len_seq rfl m_len PySem.boot_len (pa_cons (pv 0) pa_nil)) pa_nil))) (pg_name (i := 4) sc_law_deep.nd rfl (Or.inr rfl))
      (pss_one (ps_if (pt_cut (PW.pt (pw_and (pt_cmpR op_ne (pe_ix ix_tup (pe_ix ix_tup (pv 0) (pv 4) (fun _ _ => rfl)) pe_int (fun _ _ => rfl)) pe_str (nomark _)) (pw_and1 (PW.pt (pw_or (pt_cmpR op_eq (pv 4) (pv 2) (nomark _)) (pw_or1 (pt_val (pe_call G_law_lies hr rfl m_law_lies k_law_lies b_law_lies .nil pass0 (pa_cons (pv 1) (pa_cons (pv 4) (pa_cons (pv 2) pa_nil))))))))))))
        (pss_cons (ps_setC (i := 5) (caps := [(4, "_law_k"), (1, "_law_parents_here")]) rfl sc_law_deep.nd rfl (Or.inl rfl) (show CompSc (defScope sLDeep) ["_law_rooms_here", "_law_parents_here", "_law_room", "_law_row", "_law_k", "_law_near", "_law_led"] _ _ _ from ⟨rfl, rfl, by decide +kernel, by decide +kernel, by decide +kernel, by decide +kernel, by decide +kernel⟩) (pi_range1 rfl m_range (pa_cons (pe_callB call_len_seq rfl m_len PySem.boot_len (pa_cons (pv 0) pa_nil)) pa_nil)) (fun _ _ _ _ _ _ => pifs_one (pt_cmpR (r := rEq) op_eq (pe_ix (r := rIxL K) ix_list (pv 2) (pv 0) (fun _ _ => rfl)) (pv 1) (nomark _))) (fun _ _ _ _ _ _ => (pv 0)))
        (pss_cons (ps_set (i := 6) sc_law_deep.nd rfl (Or.inl rfl) (pe_callB call_len_seq rfl m_len PySem.boot_len (pa_cons (pe_comp (caps := [(1, "_law_parents_here"), (3, "_law_row")]) rfl (show CompSc (defScope sLDeep) ["_law_rooms_here", "_law_parents_here", "_law_room", "_law_row", "_law_k", "_law_near", "_law_led"] _ _ _ from ⟨rfl, rfl, by decide +kernel, by decide +kernel, by decide +kernel, by decide +kernel, by decide +kernel⟩) (pi_list (pv 5)) (fun _ _ _ _ _ _ => pifs_one (pt_val (pe_call G_law_leads hr rfl m_law_leads k_law_leads b_law_leads .nil pass0 (pa_cons (pv 1) (pa_cons (pv 0) (pa_cons (pv 2) pa_nil)))))) (fun _ _ _ _ _ _ => (pv 0))) pa_nil)))
        (pss_one (ps_if (pt_cut (PW.pt (pw_or (PW.pt (pw_and (pt_cmpR op_gt (pv 6) pe_int (nomark _)) (pw_and1 (pt_cmpR op_eq (pe_ix ix_tup (pe_ix ix_tup (pv 0) (pv 4) (fun _ _ => rfl)) pe_int (fun _ _ => rfl)) pe_str (nomark _))))) (pw_or1 (PW.pt (pw_and (pt_chV op_lt op_lt pe_int (pv 6) (pe_callB call_len_seq rfl m_len PySem.boot_len (pa_cons (pv 5) pa_nil))) (pw_and1 (pt_cmpR op_eq (pe_ix ix_tup (pe_ix ix_tup (pv 0) (pv 4) (fun _ _ => rfl)) pe_int (fun _ _ => rfl)) pe_str (nomark _)))))))))
          (pss_one (ps_ret pe_bl))
          pss_nil))))
        pss_nil)))
    (pss_one (ps_ret pe_bl)))), ?_⟩
  obtain ⟨rv, htr, hrs⟩ := id hR
  have lrv := hrs.length
  have ld := depths_len rs
  have es : ∀ y z : Str, decide (V.str y = V.str z) = decide (y = z) := fun y z => decide_eq_decide.mpr ⟨fun h => by injection h, fun h => by rw [h]⟩
  refine ⟨fun σ' H' => H' = H ∧ (∀ g ∈ row, plB rs g = true ∧ Tr.liesIn (depths rs) g room = true) ∧ row.Pairwise (· < ·) ∧ ∃ o4 : Option V, σ' = [some (.ref t), some (.ref pp), some (.int (room : Int)), some (.ref pr), o4, none, none], ?_, ?_⟩
  · refine ⟨_, rfl, pr, _, rfl, .inl (SqL.of hpr), _, rfl, by omega, by rw [natsV_len]; omega, ?_⟩
    refine for_range (fun i σ' H' => H' = H ∧ (∀ j (hj : j < row.length), j < i → plB rs row[j] = true ∧ Tr.liesIn (depths rs) row[j] room = true) ∧ (∀ j (hj : j + 1 < row.length), j + 1 < i → row[j] < row[j + 1]) ∧ ∃ o4 : Option V, σ' = [some (.ref t), some (.ref pp), some (.int (room : Int)), some (.ref pr), o4, none, none]) ⟨rfl, fun j _ z => by omega, fun j _ z => by omega, _, rfl⟩ ?_ ?_
    · rintro i σ' H' hi ⟨rfl, hA, hB, o4, rfl⟩
      have hi' : i < row.length := by
        rw [natsV_len] at hi
        omega
      have a1 : atI (natsV row) (0 + (i : Int)) = some (.int ((row[i] : Nat) : Int)) := by
        rw [Int.zero_add]
        exact K14.nats_lt row hi'
      have hg := hrow _ (List.getElem_mem hi')
      obtain ⟨rv', a, x, ht, hl, hx, hat, ha⟩ := hR.at hg
      have ek : decide (V.str x.kind = V.str ("plain" : Str)) = plB rs row[i] := by
        rw [es]
        unfold plB
        rw [kind_at hx]
      refine ⟨fun c H2 => H2 = H' ∧ (c = false ↔ plB rs row[i] = true ∧ Tr.liesIn (depths rs) row[i] room = true), ?_, ?_⟩
      · refine ⟨_, rfl, _, rfl, _, rfl, pr, _, _, _, rfl, rfl, SqL.of hpr, a1, t, _, _, _, rfl, rfl, SqT.of ht, hat, a, _, _, _, rfl, rfl, SqT.of ha, rfl, rfl, _, rfl, itB (fun z => ?_) (fun z => ?_)⟩
        · have z : (!decide (V.str x.kind = V.str ("plain" : Str))) = true := z
          rw [ek] at z
          refine ⟨rfl, (fun z => by cases z), fun h => ?_⟩
          rw [h.1] at z
          cases z
        · have z : (!decide (V.str x.kind = V.str ("plain" : Str))) = false := z
          rw [ek, Bool.not_eq_false'] at z
          refine ⟨_, rfl, _, rfl, _, rfl, pr, _, _, _, rfl, rfl, SqL.of hpr, a1, _, rfl, pp, depths rs, row[i], room, rfl, hpp, by omega, _, rfl, rfl, ?_⟩
          rw [Bool.not_eq_false']
          exact ⟨fun h => ⟨z, h⟩, fun h => h.2⟩
      rintro c H2 ⟨rfl, hc⟩
      refine itB (fun z => ?_) (fun z => ?_)
      · refine q false _ (Same.refl _) ⟨(fun z => by cases z), fun h => ?_⟩
        have := hc.mpr (h.all _ (List.getElem_mem hi'))
        rw [this] at z
        cases z
      have hci := hc.mp z
      refine ⟨fun c H3 => H3 = H2 ∧ (c = true ↔ 0 < i ∧ ∃ h : i - 1 < row.length, row[i] ≤ row[i - 1]), ?_, ?_⟩
      · refine ⟨_, rfl, _, _, rfl, rfl, _, rfl, itB (fun z => ?_) (fun z => ?_)⟩
        · have z := of_decide_eq_true z
          have a0 : atI (natsV row) (0 + (i : Int) - 1) = some (.int ((row[i - 1] : Nat) : Int)) := by
            rw [show (0 : Int) + (i : Int) - 1 = ((i - 1 : Nat) : Int) by omega]
            exact K14.nats_lt row (by omega)
          refine ⟨_, rfl, _, rfl, _, _, rfl, rfl, pr, _, _, _, rfl, rfl, SqL.of hpr, a0, _, rfl, _, rfl, pr, _, _, _, rfl, rfl, SqL.of hpr, a1, _, _, rfl, rfl, _, rfl, rfl, ?_⟩
          show decide (((row[i] : Nat) : Int) ≤ ((row[i - 1] : Nat) : Int)) = true ↔ _
          rw [decide_eq_true_iff]
          exact ⟨fun h => ⟨by omega, by omega, by omega⟩, fun h => by obtain ⟨_, _, h⟩ := h; omega⟩
        · have z := of_decide_eq_false z
          exact ⟨rfl, (fun z => by cases z), fun h => by omega⟩
      rintro c H3 ⟨rfl, hc2⟩
      refine itB (fun z => ?_) (fun z => ?_)
      · refine q false _ (Same.refl _) ⟨(fun z => by cases z), fun h => ?_⟩
        obtain ⟨i0, hl', h2⟩ := hc2.mp z
        have := List.pairwise_iff_getElem.mp h.rise (i - 1) i hl' hi' (by omega)
        omega
      · refine ⟨rfl, fun j hj z2 => ?_, fun j hj z2 => ?_, _, rfl⟩
        · by_cases e : j = i
          · subst e
            exact hci
          · exact hA j hj (by omega)
        · by_cases e : j + 1 = i
          · subst e
            apply Classical.byContradiction
            intro z3
            have := hc2.mpr ⟨by omega, by omega, by simp only [Nat.add_sub_cancel]; omega⟩
            rw [this] at z
            cases z
          · exact hB j hj (by omega)
    · rintro σ' H' ⟨rfl, hA, hB, o4, rfl⟩
      refine ⟨rfl, fun g hg => ?_, K12.rise_steps fun j hj => hB j hj (by rw [natsV_len]; omega), _, rfl⟩
      obtain ⟨j, hj, rfl⟩ := List.getElem_of_mem hg
      exact hA j hj (by rw [natsV_len]; omega)
  rintro σ1 H1 ⟨rfl, allg, rise, o4, rfl⟩
  refine ⟨fun σ' H' => Same H1 H' ∧ (∀ k, k < (depths rs).length → (k = room ∨ Tr.liesIn (depths rs) k room = true) → plB rs k = false → (onB rs k = true → (Tr.led (depths rs) row k).length ≤ 1) ∧ (alB rs k = true → (Tr.led (depths rs) row k).length = 0 ∨ (Tr.led (depths rs) row k).length = (Tr.kids (depths rs) k).length)), ?_, ?_⟩
  · refine ⟨_, rfl, _, rfl, t, _, rfl, .inr (SqT.of htr), _, _, rfl, ⟨by omega, by omega, by omega, by omega⟩, ?_⟩
    refine for_range (fun i σ' H' => Same H1 H' ∧ (∀ k, k < room + i → k < (depths rs).length → (k = room ∨ Tr.liesIn (depths rs) k room = true) → plB rs k = false → (onB rs k = true → (Tr.led (depths rs) row k).length ≤ 1) ∧ (alB rs k = true → (Tr.led (depths rs) row k).length = 0 ∨ (Tr.led (depths rs) row k).length = (Tr.kids (depths rs) k).length)) ∧ ∃ o4 o5 o6 : Option V, σ' = [some (.ref t), some (.ref pp), some (.int (room : Int)), some (.ref pr), o4, o5, o6]) ⟨Same.refl _, fun k h1 _ h2 => ?_, _, _, _, rfl⟩ ?_ ?_
    · exfalso
      rcases h2 with h2 | h2
      · omega
      · have := Tr.lies_lt h2
        omega
    · rintro i σ' H2 hi ⟨s2, hA, o4, o5, o6, rfl⟩
      have hk : room + i < rs.length := by omega
      have ek : (room : Int) + (i : Int) = ((room + i : Nat) : Int) := by omega
      rw [ek]
      generalize hkk : room + i = k at hk ⊢
      obtain ⟨rv', a, x, ht, hl, hx, hat, ha⟩ := hR.at hk
      have kk := kind_at hx
      have next : (∀ k', k' = k → k' < (depths rs).length → (k' = room ∨ Tr.liesIn (depths rs) k' room = true) → plB rs k' = false → (onB rs k' = true → (Tr.led (depths rs) row k').length ≤ 1) ∧ (alB rs k' = true → (Tr.led (depths rs) row k').length = 0 ∨ (Tr.led (depths rs) row k').length = (Tr.kids (depths rs) k').length)) → ∀ k', k' < room + (i + 1) → k' < (depths rs).length → (k' = room ∨ Tr.liesIn (depths rs) k' room = true) → plB rs k' = false → (onB rs k' = true → (Tr.led (depths rs) row k').length ≤ 1) ∧ (alB rs k' = true → (Tr.led (depths rs) row k').length = 0 ∨ (Tr.led (depths rs) row k').length = (Tr.kids (depths rs) k').length) := fun h k' h1 => by
        by_cases e : k' = k
        · exact h k' e
        · exact hA k' (by omega)
      refine ⟨fun c H3 => H3 = H2 ∧ (c = true ↔ plB rs k = false ∧ (k = room ∨ Tr.liesIn (depths rs) k room = true)), ?_, ?_⟩
      · refine ⟨_, rfl, _, rfl, t, _, _, _, rfl, rfl, SqT.of (s2 _ _ ht), hat, a, _, _, _, rfl, rfl, SqT.of (s2 _ _ ha), rfl, rfl, _, rfl, ?_⟩
        have e1 : (!decide (V.str x.kind = V.str ("plain" : Str))) = !plB rs k := by
          rw [es]
          unfold plB
          rw [kk]
        refine itB (fun z => ?_) (fun z => ?_)
        · have z : (!decide (V.str x.kind = V.str ("plain" : Str))) = true := z
          rw [e1, Bool.not_eq_true'] at z
          refine ⟨_, rfl, _, rfl, rfl, _, rfl, itB (fun z2 => ?_) (fun z2 => ?_)⟩
          · have z2 := of_decide_eq_true z2
            injection z2 with z2
            exact ⟨rfl, fun _ => ⟨z, .inl (by omega)⟩, fun _ => rfl⟩
          · have z2 := of_decide_eq_false z2
            refine ⟨_, rfl, _, rfl, _, rfl, pp, depths rs, k, room, rfl, s2 _ _ hpp, by omega, _, rfl, rfl, fun h => ⟨z, .inr h⟩, fun h => h.2.resolve_left fun e => z2 (by rw [e])⟩
        · have z : (!decide (V.str x.kind = V.str ("plain" : Str))) = false := z
          rw [e1, Bool.not_eq_false'] at z
          refine ⟨rfl, (fun z => by cases z), fun h => ?_⟩
          rw [z] at h
          cases h.1
      rintro c H3 ⟨rfl, hc⟩
      refine itB (fun z => ?_) (fun z => ?_)
      rotate_left
      · refine ⟨s2, next fun k' e _ h2 h3 => ?_, _, _, _, rfl⟩
        subst e
        have := hc.mpr ⟨h3, h2⟩
        rw [this] at z
        cases z
      obtain ⟨pf, und⟩ := hc.mp z
      refine ⟨_, rfl, t, _, rfl, .inr (SqT.of (s2 _ _ htr)), _, rfl, by omega, by omega, ?_⟩
      refine comp_range (fun j acc H' => H' = H3 ∧ acc = natsV (Tr.kidsTo (depths rs) k j)) ⟨rfl, rfl⟩ (fun j acc H' hj ⟨e1, e2⟩ => ?_) (fun acc H' ⟨e1, e2⟩ pn hpn => ?_)
      · subst e1 e2
        have hj' : j < (depths rs).length := by omega
        have hat : atI (parsV (depths rs) (depths rs).length) (0 + (j : Int)) = some (pV (Tr.par (depths rs) j)) := by
          rw [Int.zero_add]
          exact K14.par_at _ hj'
        have kl := Tr.kidsTo_len (depths rs) k j
        refine ⟨_, rfl, _, rfl, pp, _, _, _, rfl, rfl, SqL.of (s2 _ _ hpp), hat, _, rfl, K12.scI _ _, _, rfl, ?_⟩
        have eb := K12.eq_par (Tr.par (depths rs) j) k
        rw [Tr.kidsTo_succ]
        refine itB (fun c => ?_) (fun c => ?_)
        · have c' : (Tr.par (depths rs) j == some k) = true := by
            rw [← eb]
            exact c
          rw [if_pos c', ← natsV_app]
          exact ⟨_, rfl, small1000 (by rw [natsV_len]; omega), rfl, by rw [Int.zero_add]⟩
        · have c' : (Tr.par (depths rs) j == some k) = false := by
            rw [← eb]
            exact c
          rw [if_neg (by rw [c']; exact Bool.false_ne_true), List.append_nil]
          exact ⟨rfl, rfl⟩
      have e3 : acc = natsV (Tr.kids (depths rs) k) := by
        rw [e2]
        have : ((rv.length : Nat) : Int).toNat = (depths rs).length := by omega
        rw [this]
        rfl
      subst e1 e3
      have lkid : (Tr.kids (depths rs) k).length ≤ (depths rs).length := Tr.kidsTo_len _ _ _
      have u4 := same_new hpn (.lst (natsV (Tr.kids (depths rs) k)))
      have i4 : upd H' pn (.lst (natsV (Tr.kids (depths rs) k))) pn = some (.lst (natsV (Tr.kids (depths rs) k))) := upd_same
      generalize upd H' pn (.lst (natsV (Tr.kids (depths rs) k))) = H4 at u4 i4 ⊢
      have s4 := s2.trans u4
      refine ⟨_, rfl, pn, rfl, ⟨_, SqL.of i4⟩, ?_⟩
      refine comp_list (K := K) (a := pn) (xs := natsV (Tr.kids (depths rs) k)) (fun j acc H' => Same H4 H' ∧ acc = natsV (((Tr.kids (depths rs) k).take j).filter (Tr.bears (depths rs) row))) ⟨Same.refl _, rfl⟩ (fun i acc H' z => SqL.of (z.1 _ _ i4)) (fun j y acc H' hy ⟨s5, e5⟩ => ?_) (fun acc H' ⟨s5, e5⟩ p hp => ?_)
      · subst e5
        obtain ⟨hj, rfl⟩ := natsV_get hy
        have lf := List.length_filter_le (Tr.bears (depths rs) row) ((Tr.kids (depths rs) k).take j)
        rw [List.length_take] at lf
        have s45 := s4.trans s5
        rw [filter_succ (List.getElem?_eq_getElem hj)]
        refine ⟨_, rfl, _, rfl, _, rfl, pp, pr, depths rs, _, row, rfl, s45 _ _ hpp, s45 _ _ hpr, (fun g hg => by rw [ld]; exact hrow g hg), lrow, fun H6 s6 => ⟨_, rfl, ?_⟩⟩
        refine itB (fun z2 => ?_) (fun z2 => ?_)
        · rw [if_pos z2, ← natsV_app]
          exact ⟨_, rfl, small1000 (by rw [natsV_len]; omega), s5.trans s6, rfl⟩
        · rw [if_neg (by rw [z2]; exact Bool.false_ne_true), List.append_nil]
          exact ⟨s5.trans s6, rfl⟩
      rw [natsV_len, List.take_of_length_le (Nat.le_refl _)] at e5
      have e5 : acc = natsV (Tr.led (depths rs) row k) := e5
      subst e5
      have lled : (Tr.led (depths rs) row k).length ≤ (Tr.kids (depths rs) k).length := List.length_filter_le _ _
      have u6 := same_new hp (.lst (natsV (Tr.led (depths rs) row k)))
      have i6 : upd H' p (.lst (natsV (Tr.led (depths rs) row k))) p = some (.lst (natsV (Tr.led (depths rs) row k))) := upd_same
      generalize upd H' p (.lst (natsV (Tr.led (depths rs) row k))) = H6 at u6 i6 ⊢
      have s46 := s5.trans u6
      have s6 := s4.trans s46
      refine ⟨p, _, rfl, .inl (SqL.of i6), ?_⟩
      rw [natsV_len]
      refine ⟨fun c H7 => H7 = H6 ∧ (c = true ↔ (1 < (Tr.led (depths rs) row k).length ∧ onB rs k = true) ∨ (0 < (Tr.led (depths rs) row k).length ∧ (Tr.led (depths rs) row k).length < (Tr.kids (depths rs) k).length ∧ alB rs k = true)), ?_, ?_⟩
      · have e1 : decide (V.str x.kind = V.str ("one" : Str)) = onB rs k := by
          rw [es]
          unfold onB
          rw [kk]
        have e2 : decide (V.str x.kind = V.str ("all" : Str)) = alB rs k := by
          rw [es]
          unfold alB
          rw [kk]
        refine ⟨_, rfl, _, _, rfl, rfl, _, rfl, itB (fun z1 => ⟨_, rfl, _, rfl, t, _, _, _, rfl, rfl, SqT.of (s6 _ _ ht), hat, a, _, _, _, rfl, rfl, SqT.of (s6 _ _ ha), rfl, rfl, _, rfl, itB (fun z2 => ?_) (fun z2 => ?_)⟩) (fun z1 => ?_)⟩
        · have z1 := of_decide_eq_true z1
          rw [e1] at z2
          exact ⟨rfl, fun _ => .inl ⟨by omega, z2⟩, fun _ => rfl⟩
        rotate_left
        · refine ifF rfl ?_
          have no : ¬ (1 < (Tr.led (depths rs) row k).length ∧ onB rs k = true) := fun h => by
            have z1 := of_decide_eq_false z1
            omega
          refine ⟨_, rfl, _, _, (((Tr.kids (depths rs) k).length : Nat) : Int), rfl, rfl, ⟨_, rfl, pn, _, rfl, .inl (SqL.of (s46 _ _ i4)), by rw [natsV_len], rfl⟩, _, rfl, itB (fun z3 => ⟨_, rfl, _, rfl, t, _, _, _, rfl, rfl, SqT.of (s6 _ _ ht), hat, a, _, _, _, rfl, rfl, SqT.of (s6 _ _ ha), rfl, rfl, _, rfl, rfl, ?_⟩) (fun z3 => ⟨rfl, ?_⟩)⟩
          · rw [Bool.and_eq_true, decide_eq_true_iff, decide_eq_true_iff] at z3
            rw [e2]
            exact ⟨fun h => .inr ⟨by omega, by omega, h⟩, fun h => (h.resolve_left no).2.2⟩
          · rw [Bool.and_eq_false_iff, decide_eq_false_iff_not, decide_eq_false_iff_not] at z3
            exact ⟨(fun z => by cases z), fun h => by
              have := h.resolve_left no
              omega⟩
        · have no : ¬ (1 < (Tr.led (depths rs) row k).length ∧ onB rs k = true) := fun h => by
            rw [e1] at z2
            rw [h.2] at z2
            cases z2
          refine ⟨_, rfl, _, _, (((Tr.kids (depths rs) k).length : Nat) : Int), rfl, rfl, ⟨_, rfl, pn, _, rfl, .inl (SqL.of (s46 _ _ i4)), by rw [natsV_len], rfl⟩, _, rfl, itB (fun z3 => ⟨_, rfl, _, rfl, t, _, _, _, rfl, rfl, SqT.of (s6 _ _ ht), hat, a, _, _, _, rfl, rfl, SqT.of (s6 _ _ ha), rfl, rfl, _, rfl, rfl, ?_⟩) (fun z3 => ⟨rfl, ?_⟩)⟩
          · rw [Bool.and_eq_true, decide_eq_true_iff, decide_eq_true_iff] at z3
            rw [e2]
            exact ⟨fun h => .inr ⟨by omega, by omega, h⟩, fun h => (h.resolve_left no).2.2⟩
          · rw [Bool.and_eq_false_iff, decide_eq_false_iff_not, decide_eq_false_iff_not] at z3
            exact ⟨(fun z => by cases z), fun h => by
              have := h.resolve_left no
              omega⟩
      rintro c H7 ⟨rfl, hc3⟩
      refine itB (fun z => ?_) (fun z => ?_)
      · refine q false _ s6 ⟨(fun z => by cases z), fun h => ?_⟩
        have := h.led k (by omega) und pf
        rcases hc3.mp z with ⟨h1, h2⟩ | ⟨h1, h2, h3⟩
        · have := this.1 h2
          omega
        · have := this.2 h3
          omega
      · refine ⟨s6, next fun k' e _ h2 h3 => ?_, _, _, _, rfl⟩
        subst e
        constructor
        · intro h
          apply Classical.byContradiction
          intro z2
          have := hc3.mpr (.inl ⟨by omega, h⟩)
          rw [this] at z
          cases z
        · intro h
          apply Classical.byContradiction
          intro z2
          have := hc3.mpr (.inr ⟨by omega, by omega, h⟩)
          rw [this] at z
          cases z
    · rintro σ' H2 ⟨s2, hA, _⟩
      exact ⟨s2, fun k hk => hA k (by omega) hk⟩
  rintro σ2 H2 ⟨s2, hA⟩
  exact q true H2 s2 ⟨fun _ => ⟨rise, allg, hA⟩, fun _ => rfl⟩
end
end K18

namespace K18
open PySem L2 Mix Gds Rms Prg
/-! k18: the law's word on stands -/
def RowsL (H : Hp) (kv : List V) (ks : List (List Nat)) : Prop := kv.length = ks.length ∧ ∀ (i : Nat) (v : V) (js : List Nat), kv[i]? = some v → ks[i]? = some js → ∃ a : Addr, v = .ref a ∧ H a = some (.lst (natsV js))
theorem RowsL.mono {H H' : Hp} {kv : List V} {ks : List (List Nat)} (x : RowsL H kv ks) (k : Same H H') : RowsL H' kv ks := ⟨x.1, fun i v z h1 h2 => by
  obtain ⟨a, h3, h4⟩ := x.2 i v z h1 h2
  exact ⟨a, h3, k _ _ h4⟩⟩
def spDue : Sp := fun vs H Q _ => ∃ (pc pp po ph pk pb t : Addr) (x0 x1 x2 x4 x6 : V) (bv kv : List V) (rs : List Rm) (bs hs : List Int) (os : List Nat) (ks : List (List Nat)), vs = [.ref pc, .ref pp, .ref po, .ref ph, .ref pk] ∧ H pc = some (.tup [x0, x1, x2, .ref pb, x4, .ref t, x6]) ∧ H pb = some (.tup bv) ∧ BxsIn H bv bs ∧ Rooms H t rs ∧ rs.length ≤ 40 ∧ NearOne rs ∧
  H pp = some (.lst (parsV (depths rs) (depths rs).length)) ∧ H po = some (.lst (natsV os)) ∧ os.length ≤ 100 ∧ H ph = some (.lst (hs.map V.int)) ∧ hs.length ≤ 100 ∧ bs.length ≤ 100 ∧ H pk = some (.lst kv) ∧ RowsL H kv ks ∧ ks.length ≤ 100 ∧ (∀ js ∈ ks, (∀ g ∈ js, g < rs.length) ∧ js.length ≤ 100) ∧
  ∀ (b : Bool) (H' : Hp), Same H H' → (b = true ↔ StOk rs bs os hs ks) → Q (.bl b) H'
section
variable {P : Program} {w : World} {K : PySem.W.Frag} {mg : Str → Option Value} {base : Heap}
theorem sc_law_due : FnScope ["_law_chart", "_law_parents_here", "_law_opening_here", "_law_held", "_law_kept_here", "_law_rooms_here", "_law_k", "_law_room", "_law_row"] ["_law_chart", "_law_parents_here", "_law_opening_here", "_law_held", "_law_kept_here"] (defScope sLDue) := ⟨rfl, rfl, rfl, by decide +kernel, rfl, by decide +kernel, by decide +kernel⟩
theorem ok_due {n : Nat} {f g1 g2 : Addr} {fd d1 d2 : FuncData} (F : Fun K "_law_due" "_law_due" sLDue f fd)
    (G_law_full : FnOk P w K mg base CX0 n g1 d1 ["_law_rooms_here", "_law_parents_here", "_law_opening_here"] K12.spLFull) (b_law_full : Binds K d1 ["_law_rooms_here", "_law_parents_here", "_law_opening_here"] []) (k_law_full : PySem.W.keepIn K (.ref g1) = true) (m_law_full : mg "_law_full" = some (.ref g1))
    (G_law_deep : FnOk P w K mg base CX0 n g2 d2 ["_law_rooms_here", "_law_parents_here", "_law_room", "_law_row"] spDeep) (b_law_deep : Binds K d2 ["_law_rooms_here", "_law_parents_here", "_law_room", "_law_row"] []) (k_law_deep : PySem.W.keepIn K (.ref g2) = true) (m_law_deep : mg "_law_deep" = some (.ref g2))
    (m_range : mg "range" = none) (m_len : mg "len" = none) : FnOk P w K mg base CX0 (n + 1) f fd ["_law_chart", "_law_parents_here", "_law_opening_here", "_law_held", "_law_kept_here"] spDue := by
  refine F.ok sc_law_due (fun vs H Q E h => ?_) (fun cdv A outer s H vs Q E hr h => ?_)
  · obtain ⟨pc, pp, po, ph, pk, pb, t, x0, x1, x2, x4, x6, bv, kv, rs, bs, hs, os, ks, rfl, _⟩ := h
    rfl
  obtain ⟨pc, pp, po, ph, pk, pb, t, x0, x1, x2, x4, x6, bv, kv, rs, bs, hs, os, ks, rfl, hpc, hpb, hB, hR, h40, k3, hpp, hpo, los, hph, lhs, lbs, hpk, hK, lks, hks, q⟩ := h
  refine ⟨_, (pss_cons (ps_set (i := 5) sc_law_due.nd rfl (Or.inl rfl) (pe_ix ix_tup (pv 0) pe_int (fun _ _ => rfl)))
    (pss_cons (ps_if (pt_cut (PW.pt (pw_or (pt_not (pt_val (pe_call G_law_full hr rfl m_law_full k_law_full b_law_full .nil pass0 (pa_cons (pv 5) (pa_cons (pv 1) (pa_cons (pv 2) pa_nil)))))) (pw_or (pt_cmpR op_ne (pe_callB call_len_seq rfl m_len PySem.boot_len (pa_cons (pv 3) pa_nil)) (pe_callB call_len_seq rfl m_len PySem.boot_len (pa_cons (pe_ix ix_tup (pv 0) pe_int (fun _ _ => rfl)) pa_nil)) (nomark _)) (pw_or1 (pt_cmpR op_ne (pe_callB call_len_seq rfl m_len PySem.boot_len (pa_cons (pv 4) pa_nil)) (pe_callB call_len_seq rfl m_len PySem.boot_len (pa_cons (pv 5) pa_nil)) (nomark _)))))))
      (pss_one (ps_ret pe_bl))
      pss_nil)
    (pss_cut (ps_for PassesOwn.never rfl (pi_range1 rfl m_range (pa_cons (pe_callB call_len_seq rfl m_len PySem.boot_len (pa_cons (pv 3) pa_nil)) pa_nil)) (pg_name (i := 6) sc_law_due.nd rfl (Or.inl rfl))
      (pss_one (ps_if (pt_not (pt_chV op_le op_lt pe_int (pe_ix ix_list (pv 3) (pv 6) (fun _ _ => rfl)) (pe_ix ix_tup (pe_ix ix_tup (pe_ix ix_tup (pv 0) pe_int (fun _ _ => rfl)) (pv 6) (fun _ _ => rfl)) pe_int (fun _ _ => rfl))))
        (pss_one (ps_ret pe_bl))
        pss_nil)))
    (pss_cut (ps_for PassesOwn.never rfl (pi_range1 rfl m_range (pa_cons (pe_callB call_len_seq rfl m_len PySem.boot_len (pa_cons (pv 5) pa_nil)) pa_nil)) (pg_name (i := 7) sc_law_due.nd rfl (Or.inl rfl))
      (pss_cons (ps_set (i := 8) sc_law_due.nd rfl (Or.inl rfl) (pe_ix ix_list (pv 4) (pv 7) (fun _ _ => rfl)))
      (pss_cons (ps_if (pt_cut (PW.pt (pw_and (pt_cmpR op_gt (pe_callB call_len_seq rfl m_len PySem.boot_len (pa_cons (pv 8) pa_nil)) pe_int (nomark _)) (pw_and1 (pt_cmpR op_eq (pe_ix ix_tup (pe_ix ix_tup (pv 5) (pv 7) (fun _ _ => rfl)) pe_int (fun _ _ => rfl)) pe_str (nomark _))))))
        (pss_one (ps_ret pe_bl))
        pss_nil)
      (pss_cons (ps_if (pt_cut (PW.pt (pw_and (pt_cmpR op_gt (pe_callB call_len_seq rfl m_len PySem.boot_len (pa_cons (pv 8) pa_nil)) pe_int (nomark _)) (pw_and (pt_cmpR op_eq (pe_ix ix_tup (pe_ix ix_tup (pv 5) (pv 7) (fun _ _ => rfl)) pe_int (fun _ _ => rfl)) pe_str (nomark _)) (pw_and1 (PW.pt (pw_or (pt_cmpR op_ne (pe_callB call_len_seq rfl m_len PySem.boot_len (pa_cons (pv 8) pa_nil)) pe_int (nomark _)) (pw_or1 (pt_cmpR op_ne (pe_ix ix_list (pv 1) (pe_ix ix_list (pv 8) pe_int (fun _ _ => rfl)) (fun _ _ => rfl)) (pv 7) (nomark _))))))))))
        (pss_one (ps_ret pe_bl))
        pss_nil)
      (pss_one (ps_if (pt_cut (PW.pt (pw_and (pt_cmpR op_gt (pe_callB call_len_seq rfl m_len PySem.boot_len (pa_cons (pv 8) pa_nil)) pe_int (nomark _)) (pw_and (pt_cmpR op_eq (pe_ix ix_tup (pe_ix ix_tup (pv 5) (pv 7) (fun _ _ => rfl)) pe_int (fun _ _ => rfl)) pe_str (nomark _)) (pw_and1 (pt_not (pt_val (pe_call G_law_deep hr rfl m_law_deep k_law_deep b_law_deep .nil pass0 (pa_cons (pv 5) (pa_cons (pv 1) (pa_cons (pv 7) (pa_cons (pv 8) pa_nil))))))))))))
        (pss_one (ps_ret pe_bl))
        pss_nil))))))
    (pss_one (ps_ret pe_bl)))))), ?_⟩
  have ld := depths_len rs
  have lk := hK.1
  have lb := hB.1
  obtain ⟨rv, htr, hrs⟩ := id hR
  have lrv := hrs.length
  have es : ∀ y z : Str, decide (V.str y = V.str z) = decide (y = z) := fun y z => decide_eq_decide.mpr ⟨fun h => by injection h, fun h => by rw [h]⟩
  have ei : ∀ a b : Nat, (!decide (V.int (a : Int) = V.int (b : Int))) = false ↔ a = b := fun a b => by
    rw [Bool.not_eq_false', decide_eq_true_iff]
    exact ⟨fun h => by injection h with h; omega, fun h => by rw [h]⟩
  refine ⟨_, rfl, pc, _, _, _, rfl, rfl, SqT.of hpc, rfl, ?_⟩
  refine ⟨fun c H' => Same H H' ∧ (c = false ↔ Tr.FullB (depths rs) (onB rs) (alB rs) os ∧ hs.length = bs.length ∧ ks.length = rs.length), ?_, ?_⟩
  · refine ⟨_, rfl, _, rfl, _, rfl, t, pp, po, rs, os, rfl, hR, h40, hpp, hpo, los, fun b H2 s2 hb => ?_⟩
    refine ⟨_, rfl, itB (fun z => ?_) (fun z => ?_)⟩
    · refine ⟨s2, (fun z => by cases z), fun h => ?_⟩
      have z : (!b) = true := z
      rw [hb.mpr h.1] at z
      cases z
    have z : (!b) = false := z
    rw [Bool.not_eq_false'] at z
    have full := hb.mp z
    refine ⟨_, rfl, ph, _, rfl, .inl (SqL.of (s2 _ _ hph)), _, rfl, pc, _, _, _, rfl, rfl, SqT.of (s2 _ _ hpc), rfl, pb, _, rfl, .inr (SqT.of (s2 _ _ hpb)), rfl, _, rfl, ?_⟩
    have e1 := ei (hs.map V.int).length bv.length
    rw [List.length_map] at e1 ⊢
    refine itB (fun z => ?_) (fun z => ?_)
    · refine ⟨s2, (fun z => by cases z), fun h => ?_⟩
      have := e1.mpr (by omega)
      rw [this] at z
      cases z
    have l1 := e1.mp z
    refine ⟨_, rfl, pk, _, rfl, .inl (SqL.of (s2 _ _ hpk)), _, rfl, t, _, rfl, .inr (SqT.of (s2 _ _ htr)), rfl, _, rfl, s2, ?_⟩
    have e2 := ei kv.length rv.length
    rw [e2]
    exact ⟨fun h => ⟨full, by omega, by omega⟩, fun h => by omega⟩
  rintro c H2 ⟨s2, hc⟩
  refine itB (fun z => ?_) (fun z => ?_)
  · refine q false H2 s2 ⟨(fun z => by cases z), fun h => ?_⟩
    have := hc.mpr ⟨h.full, h.held.1, h.len⟩
    rw [this] at z
    cases z
  obtain ⟨full, l1, l2⟩ := hc.mp z
  clear hc z
  refine ⟨fun σ' H' => H' = H2 ∧ (∀ (i : Nat) (x z : Int), hs[i]? = some x → bs[i]? = some z → 0 ≤ x ∧ x < z) ∧ ∃ o6 : Option V, σ' = [some (.ref pc), some (.ref pp), some (.ref po), some (.ref ph), some (.ref pk), some (.ref t), o6, none, none], ?_, ?_⟩
  · refine ⟨_, rfl, ph, _, rfl, .inl (SqL.of (s2 _ _ hph)), _, rfl, by omega, by rw [List.length_map]; omega, ?_⟩
    refine for_range (fun i σ' H' => H' = H2 ∧ (∀ (j : Nat) (x z : Int), j < i → hs[j]? = some x → bs[j]? = some z → 0 ≤ x ∧ x < z) ∧ ∃ o6 : Option V, σ' = [some (.ref pc), some (.ref pp), some (.ref po), some (.ref ph), some (.ref pk), some (.ref t), o6, none, none]) ⟨rfl, fun j _ _ z => by omega, _, rfl⟩ ?_ ?_
    · rintro i σ' H' hi ⟨rfl, hA, o6, rfl⟩
      have hi' : i < hs.length := by
        rw [List.length_map] at hi
        omega
      have hx := List.getElem?_eq_getElem hi'
      have hz := List.getElem?_eq_getElem (show i < bs.length by omega)
      have hv := List.getElem?_eq_getElem (show i < bv.length by omega)
      generalize hs[i] = x at hx
      generalize bs[i] = z at hz
      generalize bv[i] = v at hv
      obtain ⟨a, y1, y2, rfl, ha⟩ := hB.2 i v z hv hz
      have a1 : atI (hs.map V.int) (0 + (i : Int)) = some (.int x) := by
        rw [Int.zero_add]
        exact atI_nat (by rw [List.getElem?_map, hx]; rfl)
      have a2 : atI bv (0 + (i : Int)) = some (.ref a) := by
        rw [Int.zero_add]
        exact atI_nat hv
      refine ⟨_, rfl, _, rfl, ph, _, _, _, rfl, rfl, SqL.of (s2 _ _ hph), a1, _, _, z, rfl, rfl, ⟨_, rfl, pc, _, _, _, rfl, rfl, SqT.of (s2 _ _ hpc), rfl, _, rfl, pb, _, _, _, rfl, rfl, SqT.of (s2 _ _ hpb), a2, a, _, _, _, rfl, rfl, SqT.of (s2 _ _ ha), rfl, rfl, rfl⟩, _, rfl, ?_⟩
      refine itB (fun z3 => ?_) (fun z3 => ?_)
      · refine q false _ s2 ⟨(fun z => by cases z), fun h => ?_⟩
        have := h.held.2 i x z hx hz
        have z3 : (!(decide (0 ≤ x) && decide (x < z))) = true := z3
        rw [decide_eq_true this.1, decide_eq_true this.2] at z3
        cases z3
      · have z3 : (!(decide (0 ≤ x) && decide (x < z))) = false := z3
        rw [Bool.not_eq_false', Bool.and_eq_true, decide_eq_true_iff, decide_eq_true_iff] at z3
        refine ⟨rfl, fun j x' z' hj h1 h2 => ?_, _, rfl⟩
        by_cases e : j = i
        · subst e
          rw [hx] at h1
          rw [hz] at h2
          rw [← Option.some.inj h1, ← Option.some.inj h2]
          exact z3
        · exact hA j x' z' (by omega) h1 h2
    · rintro σ' H' ⟨rfl, hA, o6, rfl⟩
      refine ⟨rfl, fun i x z h1 h2 => hA i x z ?_ h1 h2, _, rfl⟩
      have := (List.getElem?_eq_some_iff.mp h1).1
      rw [List.length_map]
      omega
  rintro σ3 H3 ⟨rfl, held, o6, rfl⟩
  refine ⟨fun σ' H' => Same H3 H' ∧ (∀ (r : Nat) (js : List Nat), ks[r]? = some js → KpOk rs r js), ?_, ?_⟩
  rotate_left
  · rintro σ4 H4 ⟨s4, hA⟩
    exact q true H4 (s2.trans s4) ⟨fun _ => ⟨full, ⟨l1, held⟩, l2, hA⟩, fun _ => rfl⟩
  refine ⟨_, rfl, t, _, rfl, .inr (SqT.of (s2 _ _ htr)), _, rfl, by omega, by omega, ?_⟩
  refine for_range (fun i σ' H' => Same H3 H' ∧ (∀ (r : Nat) (js : List Nat), r < i → ks[r]? = some js → KpOk rs r js) ∧ ∃ o7 o8 : Option V, σ' = [some (.ref pc), some (.ref pp), some (.ref po), some (.ref ph), some (.ref pk), some (.ref t), o6, o7, o8]) ⟨Same.refl _, fun r js z => by omega, _, _, rfl⟩ ?_ ?_
  rotate_left
  · rintro σ' H' ⟨s4, hA, _⟩
    refine ⟨s4, fun r js h1 => hA r js ?_ h1⟩
    have := (List.getElem?_eq_some_iff.mp h1).1
    omega
  rintro r σ' H4 hi ⟨s4, hA, o7, o8, rfl⟩
  have s24 := s2.trans s4
  have hr1 : r < ks.length := by omega
  have hj := List.getElem?_eq_getElem hr1
  have hjm := List.getElem_mem hr1
  have hv := List.getElem?_eq_getElem (show r < kv.length by omega)
  generalize ks[r] = js at hj hjm
  generalize kv[r] = v at hv
  obtain ⟨a, rfl, ha⟩ := hK.2 r v js hv hj
  have hjs := hks js hjm
  have a1 : atI kv (0 + (r : Int)) = some (.ref a) := by
    rw [Int.zero_add]
    exact atI_nat hv
  obtain ⟨rv', ar, x, ht, hl, hx, hat, har⟩ := hR.at (show r < rs.length by omega)
  have hat : atI rv' (0 + (r : Int)) = some (.ref ar) := by
    rw [Int.zero_add]
    exact hat
  have kx := keeps_at hx
  have k3x := (k3 x (List.mem_of_getElem? hx)).2
  have lj : decide ((0 : Int) < (((natsV js).length : Nat) : Int)) = true ↔ js ≠ [] := by
    rw [natsV_len, decide_eq_true_iff]
    exact ⟨fun h e => by rw [e] at h; exact absurd h (by decide), fun h => by have := List.length_pos_iff.mpr h; omega⟩
  refine ⟨_, rfl, _, rfl, pk, _, _, _, rfl, rfl, SqL.of (s24 _ _ hpk), a1, ?_⟩
  have ha4 := s24 _ _ ha
  have keep : ∀ {y : Str}, decide (V.str x.keeps = V.str y) = true ↔ keepsAt rs r = y := fun {y} => by
    rw [es, decide_eq_true_iff, kx]
  -- a room that keeps nothing
  refine ⟨fun c H' => H' = H4 ∧ (c = true ↔ js ≠ [] ∧ keepsAt rs r = ("" : Str)), ?_, ?_⟩
  · refine ⟨_, rfl, a, _, rfl, .inl (SqL.of ha4), _, _, rfl, rfl, _, rfl, itB (fun z => ?_) (fun z => ?_)⟩
    · have jn := lj.mp z
      refine ⟨_, rfl, _, rfl, t, _, _, _, rfl, rfl, SqT.of (s24 _ _ ht), hat, ar, _, _, _, rfl, rfl, SqT.of (s24 _ _ har), rfl, rfl, _, rfl, rfl, ?_⟩
      rw [keep]
      exact ⟨fun h => ⟨jn, h⟩, fun h => h.2⟩
    · refine ⟨rfl, (fun z => by cases z), fun h => ?_⟩
      have := lj.mpr h.1
      rw [show decide ((0 : Int) < (((natsV js).length : Nat) : Int)) = false from z] at this
      cases this
  rintro c H5 ⟨rfl, hc1⟩
  have bad : ¬ KpOk rs r js → ¬ StOk rs bs os hs ks := fun h1 h2 => h1 (h2.row r js hj)
  refine itB (fun z => ?_) (fun z => ?_)
  · refine q false _ s24 ⟨(fun z => by cases z), fun h => absurd h (bad fun h2 => ?_)⟩
    obtain ⟨h3, h4⟩ := hc1.mp z
    rcases h2 with h2 | ⟨h2, _⟩ | ⟨h2, _⟩
    · exact h3 h2
    · rw [h4] at h2
      exact absurd h2 (by decide +kernel)
    · rw [h4] at h2
      exact absurd h2 (by decide +kernel)
  have n1 : ¬ (js ≠ [] ∧ keepsAt rs r = ("" : Str)) := fun h => by
    rw [hc1.mpr h] at z
    cases z
  clear hc1 z
  -- a room that keeps what is near
  refine ⟨fun c H' => H' = H5 ∧ (c = true ↔ js ≠ [] ∧ keepsAt rs r = ("near" : Str) ∧ ¬ ∃ k, js = [k] ∧ k ∈ Tr.kids (depths rs) r), ?_, ?_⟩
  · refine ⟨_, rfl, a, _, rfl, .inl (SqL.of ha4), _, _, rfl, rfl, _, rfl, itB (fun z => ?_) (fun z => ?_)⟩
    rotate_left
    · refine ⟨rfl, (fun z => by cases z), fun h => ?_⟩
      have := lj.mpr h.1
      rw [show decide ((0 : Int) < (((natsV js).length : Nat) : Int)) = false from z] at this
      cases this
    have jn := lj.mp z
    refine ⟨_, rfl, _, rfl, t, _, _, _, rfl, rfl, SqT.of (s24 _ _ ht), hat, ar, _, _, _, rfl, rfl, SqT.of (s24 _ _ har), rfl, rfl, _, rfl, itB (fun z => ?_) (fun z => ?_)⟩
    rotate_left
    · refine ⟨rfl, (fun z => by cases z), fun h => ?_⟩
      rw [keep.mpr h.2.1] at z
      cases z
    have kn := keep.mp z
    refine ⟨_, rfl, a, _, rfl, .inl (SqL.of ha4), rfl, _, rfl, itB (fun z => ?_) (fun z => ?_)⟩
    · refine ⟨rfl, fun _ => ⟨jn, kn, ?_⟩, fun _ => rfl⟩
      rintro ⟨k, rfl, _⟩
      cases z
    have z : (!decide (V.int (((natsV js).length : Nat) : Int) = V.int ((1 : Nat) : Int))) = false := z
    rw [ei, natsV_len] at z
    obtain ⟨k, rfl⟩ := List.length_eq_one_iff.mp z
    have hkl := hjs.1 k (List.mem_singleton.mpr rfl)
    refine ⟨_, rfl, _, rfl, a, _, _, _, rfl, rfl, SqL.of ha4, (atI_nat (j := 0) rfl), pp, _, _, _, rfl, rfl, SqL.of (s24 _ _ hpp), K14.par_at _ (by omega), _, rfl, K12.scI _ _, _, rfl, rfl, ?_⟩
    rw [Int.zero_add]
    have ep := K12.eq_par (Tr.par (depths rs) k) r
    show (!decide (pV (Tr.par (depths rs) k) = V.int (r : Int))) = true ↔ _
    rw [ep, Bool.not_eq_true', beq_eq_false_iff_ne]
    constructor
    · refine fun h => ⟨jn, kn, ?_⟩
      rintro ⟨k', h1, h2⟩
      rw [← List.singleton_inj.mp h1] at h2
      exact h (Tr.mem_kids.mp h2).2
    · exact fun h e => h.2.2 ⟨k, rfl, Tr.mem_kids.mpr ⟨by omega, e⟩⟩
  rintro c H6 ⟨rfl, hc1⟩
  refine itB (fun z => ?_) (fun z => ?_)
  · refine q false _ s24 ⟨(fun z => by cases z), fun h => absurd h (bad fun h2 => ?_)⟩
    obtain ⟨h3, h4, h5⟩ := hc1.mp z
    rcases h2 with h2 | ⟨_, h2⟩ | ⟨h2, _⟩
    · exact h3 h2
    · exact h5 h2
    · rw [h4] at h2
      exact absurd h2 (by decide +kernel)
  have n2 : ¬ (js ≠ [] ∧ keepsAt rs r = ("near" : Str) ∧ ¬ ∃ k, js = [k] ∧ k ∈ Tr.kids (depths rs) r) := fun h => by
    rw [hc1.mpr h] at z
    cases z
  clear hc1 z
  -- a room that keeps what is deep
  refine ⟨fun c H' => Same H6 H' ∧ (c = true ↔ js ≠ [] ∧ keepsAt rs r = ("deep" : Str) ∧ ¬ Tr.DeepOk (depths rs) (onB rs) (alB rs) (plB rs) r js), ?_, ?_⟩
  · refine ⟨_, rfl, a, _, rfl, .inl (SqL.of ha4), _, _, rfl, rfl, _, rfl, itB (fun z => ?_) (fun z => ?_)⟩
    rotate_left
    · refine ⟨Same.refl _, (fun z => by cases z), fun h => ?_⟩
      have := lj.mpr h.1
      rw [show decide ((0 : Int) < (((natsV js).length : Nat) : Int)) = false from z] at this
      cases this
    have jn := lj.mp z
    refine ⟨_, rfl, _, rfl, t, _, _, _, rfl, rfl, SqT.of (s24 _ _ ht), hat, ar, _, _, _, rfl, rfl, SqT.of (s24 _ _ har), rfl, rfl, _, rfl, itB (fun z => ?_) (fun z => ?_)⟩
    rotate_left
    · refine ⟨Same.refl _, (fun z => by cases z), fun h => ?_⟩
      rw [keep.mpr h.2.1] at z
      cases z
    have kn := keep.mp z
    refine ⟨_, rfl, _, rfl, _, rfl, _, rfl, t, pp, a, rs, r, js, by rw [Int.zero_add]; rfl, hR.mono (KeepT.of s24), h40, s24 _ _ hpp, by omega, ha4, hjs.1, hjs.2, fun b H7 s7 hb => ⟨_, rfl, s7, ?_⟩⟩
    rw [Bool.not_eq_true', ← Bool.not_eq_true, hb]
    exact ⟨fun h => ⟨jn, kn, h⟩, fun h => h.2.2⟩
  rintro c H7 ⟨s7, hc1⟩
  have s27 := s24.trans s7
  refine itB (fun z => ?_) (fun z => ?_)
  · refine q false _ s27 ⟨(fun z => by cases z), fun h => absurd h (bad fun h2 => ?_)⟩
    obtain ⟨h3, h4, h5⟩ := hc1.mp z
    rcases h2 with h2 | ⟨h2, _⟩ | ⟨_, h2⟩
    · exact h3 h2
    · rw [h4] at h2
      exact absurd h2 (by decide +kernel)
    · exact h5 h2
  have n3 : ¬ (js ≠ [] ∧ keepsAt rs r = ("deep" : Str) ∧ ¬ Tr.DeepOk (depths rs) (onB rs) (alB rs) (plB rs) r js) := fun h => by
    rw [hc1.mpr h] at z
    cases z
  refine ⟨s4.trans s7, fun r' y hr2 h1 => ?_, _, _, rfl⟩
  by_cases e : r' = r
  · subst e
    rw [hj] at h1
    rw [← Option.some.inj h1]
    by_cases e0 : js = []
    · exact .inl e0
    · rw [← kx] at k3x
      rcases k3x with k | k | k
      · exact absurd ⟨e0, k⟩ n1
      · exact .inr (.inl ⟨k, Classical.byContradiction fun h => n2 ⟨e0, k, h⟩⟩)
      · exact .inr (.inr ⟨k, Classical.byContradiction fun h => n3 ⟨e0, k, h⟩⟩)
  · exact hA r' y (by omega) h1
end
end K18

namespace K18
open PySem L2 Mix Gds Rms Prg
/-! k18: what a drawn stand keeps; a row spoiled -/
theorem cut_any (os : List Nat) (lo hi : Option Int) : ∃ cs : List Nat, cutV (natsV os) lo hi = natsV cs ∧ cs.length ≤ os.length ∧ ∀ o ∈ cs, o ∈ os := by
  refine ⟨(os.drop (HT.sIx os.length 0 lo)).take (HT.sIx os.length os.length hi - HT.sIx os.length 0 lo), ?_, ?_, fun o h => List.mem_of_mem_drop (List.mem_of_mem_take h)⟩
  · unfold cutV
    rw [natsV_len]
    unfold natsV
    rw [List.map_take, List.map_drop]
  · rw [List.length_take, List.length_drop]
    omega
/-- rows in lists that are new since H0 -/
structure RowsN (H0 H : Hp) (p : Addr) (kv : List V) (ks : List (List Nat)) : Prop where
  rows : RowsL H kv ks
  new : ∀ v ∈ kv, ∃ a : Addr, v = .ref a ∧ H0 a = none ∧ a ≠ p
theorem RowsL.snoc {H : Hp} {kv : List V} {ks : List (List Nat)} {a : Addr} {js : List Nat} (x : RowsL H kv ks) (h : H a = some (.lst (natsV js))) : RowsL H (kv ++ [.ref a]) (ks ++ [js]) := by
  refine ⟨by rw [List.length_append, List.length_append, x.1]; rfl, fun i v z h1 h2 => ?_⟩
  by_cases c : i < kv.length
  · rw [List.getElem?_append_left c] at h1
    rw [List.getElem?_append_left (by rw [← x.1]; exact c)] at h2
    exact x.2 i v z h1 h2
  · have l := x.1
    have hi := (List.getElem?_eq_some_iff.mp h1).1
    rw [List.length_append, List.length_singleton] at hi
    obtain rfl : i = kv.length := by omega
    rw [List.getElem?_append_right (Nat.le_refl _), Nat.sub_self] at h1
    rw [l, List.getElem?_append_right (Nat.le_refl _), Nat.sub_self] at h2
    obtain rfl := Option.some.inj h1
    obtain rfl := Option.some.inj h2
    exact ⟨a, rfl, h⟩
theorem RowsN.set {H0 H : Hp} {p : Addr} {kv : List V} {ks : List (List Nat)} (x : RowsN H0 H p kv ks) (o : HO) : RowsL (upd H p o) kv ks := ⟨x.rows.1, fun i v z h1 h2 => by
  obtain ⟨a, rfl, h3⟩ := x.rows.2 i v z h1 h2
  obtain ⟨a', e, _, n⟩ := x.new _ (List.mem_of_getElem? h1)
  injection e with e
  subst e
  exact ⟨a, rfl, by rw [upd_ne n]; exact h3⟩⟩
def spKept (K : PySem.W.Frag) : Sp := fun vs H Q _ => ∃ (a t pp : Addr) (ns : List Int) (rs : List Rm) (k : Nat), vs = [.ref a, .ref t, .ref pp, .int (0 + (k : Int))] ∧ SqL K H a (ns.map V.int) ∧ ns.length ≤ 63 ∧ Rooms H t rs ∧ H pp = some (.lst (parsV (depths rs) (depths rs).length)) ∧ rs.length ≤ 40 ∧ k ≤ 30 ∧
  ∀ (p : Addr) (kv : List V) (ks : List (List Nat)) (H' : Hp), Same H H' → H p = none → H' p = some (.lst kv) → RowsN H H' p kv ks → ks.length = rs.length → (∀ js ∈ ks, (∀ g ∈ js, g < rs.length) ∧ js.length ≤ 40) → Q (.ref p) H'
section
variable {P : Program} {w : World} {K : PySem.W.Frag} {mg : Str → Option Value} {base : Heap}
theorem sc_law_kept : FnScope ["_law_script", "_law_rooms_here", "_law_parents_here", "_law_k", "_law_kept_here", "_law_room", "_law_number", "_law_row"] ["_law_script", "_law_rooms_here", "_law_parents_here", "_law_k"] (defScope sLKept) := ⟨rfl, rfl, rfl, by decide +kernel, rfl, by decide +kernel, by decide +kernel⟩
theorem ok_kept {n : Nat} {f gm gp : Addr} {fd dm dp : FuncData} (F : Fun K "_law_kept" "_law_kept" sLKept f fd)
    (G_law_mixed : FnOk P w K mg base CX0 n gm dm ["_law_script", "_law_k", "_law_salt"] (spMixed K)) (b_law_mixed : Binds K dm ["_law_script", "_law_k", "_law_salt"] []) (k_law_mixed : PySem.W.keepIn K (.ref gm) = true) (m_law_mixed : mg "_law_mixed" = some (.ref gm))
    (G_law_piece : FnOk P w K mg base CX0 n gp dp ["_law_script", "_law_rooms_here", "_law_parents_here", "_law_room", "_law_salt"] (K16.spPiece K)) (b_law_piece : Binds K dp ["_law_script", "_law_rooms_here", "_law_parents_here", "_law_room", "_law_salt"] []) (k_law_piece : PySem.W.keepIn K (.ref gp) = true) (m_law_piece : mg "_law_piece" = some (.ref gp))
    (m_range : mg "range" = none) (m_len : mg "len" = none) : FnOk P w K mg base CX0 (n + 1) f fd ["_law_script", "_law_rooms_here", "_law_parents_here", "_law_k"] (spKept K) := by
  refine F.ok sc_law_kept (fun vs H Q E h => ?_) (fun cdv A outer s H vs Q E hr h => ?_)
  · obtain ⟨a, t, pp, ns, rs, k, rfl, _⟩ := h
    rfl
  obtain ⟨a, t, pp, ns, rs, k, rfl, hS, h63, hR, hpp, l40, hk30, q⟩ := h
  refine ⟨_, (pss_cons (ps_set (i := 4) sc_law_kept.nd rfl (Or.inl rfl) (pe_lst pa_nil))
    (pss_cut (ps_for PassesOwn.never rfl (pi_range1 rfl m_range (pa_cons (pe_callB call_len_seq rfl m_len PySem.boot_len (pa_cons (pv 1) pa_nil)) pa_nil)) (pg_name (i := 5) sc_law_kept.nd rfl (Or.inr rfl))
      (pss_cons (ps_set (i := 6) sc_law_kept.nd rfl (Or.inl rfl) (pe_call G_law_mixed hr rfl m_law_mixed k_law_mixed b_law_mixed .nil pass0 (pa_cons (pv 0) (pa_cons (pv 5) (pa_cons (pe_op op_add pe_int (pv 3)) pa_nil)))))
      (pss_cons (ps_set (i := 7) sc_law_kept.nd rfl (Or.inl rfl) (pe_slice sl_list (pe_call G_law_piece hr rfl m_law_piece k_law_piece b_law_piece .nil pass0 (pa_cons (pv 0) (pa_cons (pv 1) (pa_cons (pv 2) (pa_cons (pv 5) (pa_cons (pe_op op_add pe_int (pv 3)) pa_nil)))))) (po_some pe_int) po_none))
      (pss_cut (ps_if (pt_cut (PW.pt (pw_or (pt_cmpR op_eq (pe_ix ix_tup (pe_ix ix_tup (pv 1) (pv 5) (fun _ _ => rfl)) pe_int (fun _ _ => rfl)) pe_str (nomark _)) (pw_or1 (pt_cmpR op_eq (pe_op op_mod (pv 6) pe_int) pe_int (nomark _))))))
        (pss_one (ps_set (i := 7) sc_law_kept.nd rfl (Or.inl rfl) (pe_lst pa_nil)))
        pss_nil)
      (pss_cut (ps_if (pt_cmpR op_eq (pe_ix ix_tup (pe_ix ix_tup (pv 1) (pv 5) (fun _ _ => rfl)) pe_int (fun _ _ => rfl)) pe_str (nomark _))
        (pss_one (ps_set (i := 7) sc_law_kept.nd rfl (Or.inl rfl) (pe_slice sl_list (pv 7) po_none (po_some pe_int))))
        pss_nil)
      (pss_one (ps_expr (pe_bm PySem.F.plainAttrs_list PySem.F.slot_list_append PySem.F.type_list_append mt_append (pv 4) (pa_cons (pe_comp (caps := [(1, "_law_rooms_here"), (5, "_law_room")]) rfl (show CompSc (defScope sLKept) ["_law_script", "_law_rooms_here", "_law_parents_here", "_law_k", "_law_kept_here", "_law_room", "_law_number", "_law_row"] _ _ _ from ⟨rfl, rfl, by decide +kernel, by decide +kernel, by decide +kernel, by decide +kernel, by decide +kernel⟩) (pi_list (pv 7)) (fun _ _ _ _ _ _ => pifs_one (pt_cut (PW.pt (pw_or (pt_cmpR (r := rEq) op_eq (pe_ix (r := rIxT K) ix_tup (pe_ix (r := rIxT K) ix_tup (pv 1) (pv 0) (fun _ _ => rfl)) pe_int (fun _ _ => rfl)) pe_str (nomark _)) (pw_or1 (pt_cmpR (r := rEq) op_eq (pe_ix (r := rIxT K) ix_tup (pe_ix (r := rIxT K) ix_tup (pv 1) (pv 2) (fun _ _ => rfl)) pe_int (fun _ _ => rfl)) pe_str (nomark _))))))) (fun _ _ _ _ _ _ => (pv 0))) pa_nil)))))))))
    (pss_one (ps_ret (pv 4))))), ?_⟩
  obtain ⟨rv, htr, hrs⟩ := id hR
  have lrv := hrs.length
  have ld : (depths rs).length = rs.length := depths_len rs
  refine ⟨Nat.zero_le _, fun pk hpk => ?_⟩
  have s1 := same_new hpk (.lst [])
  refine ⟨fun σ' H' => ∃ (kv : List V) (ks : List (List Nat)), Same H H' ∧ H' pk = some (.lst kv) ∧ RowsN H H' pk kv ks ∧ ks.length = rs.length ∧ (∀ js ∈ ks, (∀ g ∈ js, g < rs.length) ∧ js.length ≤ 40) ∧ ∃ o5 o6 o7 : Option V, σ' = [some (.ref a), some (.ref t), some (.ref pp), some (.int (0 + (k : Int))), some (.ref pk), o5, o6, o7], ?_, ?_⟩
  · refine ⟨_, rfl, t, _, rfl, .inr (SqT.of (s1 _ _ htr)), _, rfl, by omega, by omega, ?_⟩
    refine for_range (fun i σ' H' => ∃ (kv : List V) (ks : List (List Nat)), Same H H' ∧ H' pk = some (.lst kv) ∧ RowsN H H' pk kv ks ∧ ks.length = i ∧ (∀ js ∈ ks, (∀ g ∈ js, g < rs.length) ∧ js.length ≤ 40) ∧ ∃ o5 o6 o7 : Option V, σ' = [some (.ref a), some (.ref t), some (.ref pp), some (.int (0 + (k : Int))), some (.ref pk), o5, o6, o7])
      ⟨[], [], s1, upd_same, ⟨⟨rfl, (fun i v z h => by cases h)⟩, (fun v h => by cases h)⟩, rfl, (fun k h => by cases h), _, _, _, rfl⟩ ?_ ?_
    · rintro i σ' H2 hi ⟨kv, ks, s2, h2, hks, lks, bks, o5, o6, o7, rfl⟩
      have hi' : i < rs.length := by omega
      have z : (0 : Int) + (i : Int) = (i : Int) := Int.zero_add _
      refine ⟨_, rfl, _, rfl, _, rfl, _, _, rfl, rfl, a, ns, _, _, rfl, s2.seq hS, h63, ⟨by omega, by omega⟩, ⟨by omega, by omega⟩, fun x x0 x1 => ?_⟩
      refine ⟨_, rfl, _, rfl, _, rfl, _, rfl, _, rfl, _, _, rfl, rfl, a, t, pp, ns, depths rs, rs, i, 100 + (0 + (k : Int)), (by rw [z]; rfl), s2.seq hS, h63, hR.mono (KeepT.of s2), s2 _ _ hpp, ld, hi', l40, ⟨by omega, by omega⟩, fun p1 os H3 s3 hp1 hos los => ?_⟩
      obtain ⟨cs, ecs, lcs, mcs⟩ := cut_any os (some 1) none
      refine ⟨_, rfl, p1, _, rfl, SqL.of hp1, fun p2 hp2 => ?_⟩
      rw [ecs]
      have s4 := s3.trans (same_new hp2 (.lst (natsV cs)))
      have h4 : (upd H3 p2 (.lst (natsV cs))) p2 = some (.lst (natsV cs)) := upd_same
      generalize upd H3 p2 (.lst (natsV cs)) = H4 at s4 h4 ⊢
      obtain ⟨vr, hvr, ar, rfl, har⟩ := hrs.get (List.getElem?_eq_getElem hi')
      have hvr' : atI rv (0 + (i : Int)) = some (.ref ar) := by
        rw [z]
        exact atI_nat hvr
      refine ⟨fun σ' H' => ∃ (p : Addr) (row : List Nat), Same H2 H' ∧ H' p = some (.lst (natsV row)) ∧ (∀ o ∈ row, o < rs.length) ∧ row.length ≤ 40 ∧ σ' = [some (.ref a), some (.ref t), some (.ref pp), some (.int (0 + (k : Int))), some (.ref pk), some (.int (0 + (i : Int))), some (.int x), some (.ref p)], ?_, ?_⟩
      · refine ⟨fun c H' => H' = H4, ?_, ?_⟩
        · have htr4 := (s2.trans s4) _ _ htr
          refine ⟨_, rfl, _, rfl, t, _, _, _, rfl, rfl, SqT.of htr4, hvr', ar, _, _, _, rfl, rfl, SqT.of ((s2.trans s4) _ _ har), rfl, rfl, _, rfl, ?_⟩
          exact itB (fun _ => rfl) (fun _ => ⟨_, rfl, _, _, rfl, rfl, (by show (0 : Int) < 3; decide), rfl, _, rfl, rfl⟩)
        rintro c H' rfl
        refine itB (fun _ => ?_) (fun _ => ⟨p2, cs, s4, h4, fun o ho => hos o (mcs o ho), by omega, rfl⟩)
        exact ⟨Nat.zero_le _, fun p3 hp3 => ⟨p3, [], s4.trans (same_new hp3 _), upd_same, fun o h => (by cases h), Nat.zero_le _, rfl⟩⟩
      rintro σ5 H5 ⟨p3, row, s5, h5, mrow, lrow, rfl⟩
      refine ⟨fun σ' H' => ∃ (p : Addr) (row : List Nat), Same H2 H' ∧ H' p = some (.lst (natsV row)) ∧ (∀ o ∈ row, o < rs.length) ∧ row.length ≤ 40 ∧ σ' = [some (.ref a), some (.ref t), some (.ref pp), some (.int (0 + (k : Int))), some (.ref pk), some (.int (0 + (i : Int))), some (.int x), some (.ref p)], ?_, ?_⟩
      · refine ⟨_, rfl, _, rfl, t, _, _, _, rfl, rfl, SqT.of ((s2.trans s5) _ _ htr), hvr', ar, _, _, _, rfl, rfl, SqT.of ((s2.trans s5) _ _ har), rfl, rfl, _, rfl, ?_⟩
        refine itB (fun _ => ?_) (fun _ => ⟨p3, row, s5, h5, mrow, lrow, rfl⟩)
        obtain ⟨cs2, ecs2, lcs2, mcs2⟩ := cut_any row none (some 1)
        refine ⟨_, rfl, _, rfl, p3, _, rfl, SqL.of h5, fun p4 hp4 => ?_⟩
        rw [ecs2]
        exact ⟨p4, cs2, s5.trans (same_new hp4 _), upd_same, fun o ho => mrow o (mcs2 o ho), by omega, rfl⟩
      rintro σ6 H6 ⟨p4, row2, s6, h6, mrow2, lrow2, rfl⟩
      have s26 := s2.trans s6
      refine ⟨_, rfl, .inl ⟨rfl, _, SqL.of (s6 _ _ h2)⟩, _, rfl, p4, rfl, ⟨_, SqL.of h6⟩, ?_⟩
      refine comp_list (K := K) (a := p4) (xs := natsV row2) (fun j acc H' => H' = H6 ∧ ∃ gs : List Nat, acc = natsV gs ∧ gs.length ≤ j ∧ ∀ g ∈ gs, g < rs.length) ⟨rfl, [], rfl, Nat.le_refl _, (fun g h => by cases h)⟩ (fun j acc H' ⟨e, _⟩ => by subst e; exact SqL.of h6) (fun j x acc H' hx ⟨e1, gs, e2, e3, e4⟩ => ?_) (fun acc H' ⟨e1, gs, e2, e3, e4⟩ p5 hp5 => ?_)
      · subst e1 e2
        obtain ⟨hj, rfl⟩ := natsV_get hx
        have hlt := mrow2 _ (List.getElem_mem hj)
        obtain ⟨v2, hv2, a2, rfl, ha2⟩ := hrs.get (List.getElem?_eq_getElem hlt)
        refine ⟨fun _ H9 => H9 = H', ?_, ?_⟩
        · refine ⟨_, rfl, _, rfl, t, _, _, _, rfl, rfl, SqT.of (s26 _ _ htr), atI_nat hv2, a2, _, _, _, rfl, rfl, SqT.of (s26 _ _ ha2), rfl, rfl, _, rfl, ?_⟩
          exact itB (fun _ => rfl) (fun _ => ⟨_, rfl, _, rfl, t, _, _, _, rfl, rfl, SqT.of (s26 _ _ htr), hvr', ar, _, _, _, rfl, rfl, SqT.of (s26 _ _ har), rfl, rfl, _, rfl, rfl⟩)
        rintro c H9 rfl
        refine itB (fun _ => ?_) (fun _ => ⟨rfl, gs, rfl, by omega, e4⟩)
        refine ⟨_, rfl, small1000 (by rw [natsV_len]; omega), rfl, gs ++ [row2[j]], natsV_app _ _, by rw [List.length_append, List.length_singleton]; omega, fun g hg => ?_⟩
        rcases List.mem_append.mp hg with hg | hg
        · exact e4 g hg
        · rw [List.mem_singleton.mp hg]
          exact hlt
      subst e1 e2
      rw [natsV_len] at e3
      have u7 := same_new hp5 (.lst (natsV gs))
      have i7 : upd H' p5 (.lst (natsV gs)) p5 = some (.lst (natsV gs)) := upd_same
      generalize upd H' p5 (.lst (natsV gs)) = H7 at u7 i7 ⊢
      have s7 := s6.trans u7
      have h7 := s7 _ _ h2
      have n5 : p5 ≠ pk := fun e => by
        rw [e, s6 _ _ h2] at hp5
        cases hp5
      have lkv := hks.rows.1
      refine ⟨pk, _, _, rfl, rfl, h7, small1000 (by omega), kv ++ [.ref p5], ks ++ [gs], same_upd hpk (s2.trans s7) _, upd_same, ⟨RowsL.snoc (RowsN.set ⟨hks.rows.mono s7, hks.new⟩ _) (by rw [upd_ne n5]; exact i7), fun v hv => ?_⟩, by rw [List.length_append, List.length_singleton, lks], fun k' hk' => ?_, _, _, _, rfl⟩
      · rcases List.mem_append.mp hv with h | h
        · exact hks.new v h
        · exact ⟨p5, List.mem_singleton.mp h, s26.free hp5, n5⟩
      · rcases List.mem_append.mp hk' with h | h
        · exact bks k' h
        · rw [List.mem_singleton.mp h]
          exact ⟨e4, by omega⟩
    · rintro σ' H2 ⟨kv, ks, s2, h2, hks, lks, bks, o5, o6, o7, rfl⟩
      exact ⟨kv, ks, s2, h2, hks, by omega, bks, _, _, _, rfl⟩
  rintro σ' H2 ⟨kv, ks, s2, h2, hks, lks, bks, o5, o6, o7, rfl⟩
  exact ⟨_, rfl, q pk kv ks _ s2 hpk h2 hks lks bks⟩
end
end K18

namespace K18
open PySem L2 Mix Gds Rms Prg
/-! k18: a row spoiled -/
theorem nats_cat (a b : List Nat) : natsV a ++ natsV b = natsV (a ++ b) := by
  unfold natsV
  rw [List.map_append]
def spSpRow : Sp := fun vs H Q _ => ∃ (pr pp : Addr) (js ps : List Nat) (N : Int) (m o : Nat), vs = [.ref pr, .int N, .int (o : Int), .ref pp] ∧ H pr = some (.lst (natsV js)) ∧ H pp = some (.lst (natsV ps)) ∧ (∀ g ∈ js, g < m) ∧ (∀ g ∈ ps, g < m) ∧ o < m ∧ js.length ≤ 40 ∧ ps.length ≤ 40 ∧
  ∀ (p : Addr) (gs : List Nat) (H' : Hp), Same H H' → (p = pp ∨ H p = none) → H' p = some (.lst (natsV gs)) → (∀ g ∈ gs, g < m) → gs.length ≤ 100 → Q (.ref p) H'
section
variable {P : Program} {w : World} {K : PySem.W.Frag} {mg : Str → Option Value} {base : Heap}
theorem sc_law_spoiled_row : FnScope ["_law_row", "_law_number", "_law_other", "_law_piece_here", "_law_at"] ["_law_row", "_law_number", "_law_other", "_law_piece_here"] (defScope sSpRow) := ⟨rfl, rfl, rfl, by decide +kernel, rfl, by decide +kernel, by decide +kernel⟩
theorem ok_spoiled_row {f : Addr} {fd : FuncData} (F : Fun K "_law_spoiled_row" "_law_spoiled_row" sSpRow f fd) (m_len : mg "len" = none) (m_list : mg "list" = none) (m_reversed : mg "reversed" = none) : FnOk P w K mg base CX0 1 f fd ["_law_row", "_law_number", "_law_other", "_law_piece_here"] spSpRow := by
  refine F.ok sc_law_spoiled_row (fun vs H Q E h => ?_) (fun cdv A outer s H vs Q E hr h => ?_)
  · obtain ⟨pr, pp, js, ps, N, m, o, rfl, _⟩ := h
    rfl
  obtain ⟨pr, pp, js, ps, N, m, o, rfl, hpr, hpp, hjs, hps, ho, ljs, lps, q⟩ := h
  refine ⟨_, (pss_cons (ps_set (i := 4) sc_law_spoiled_row.nd rfl (Or.inl rfl) (pe_op op_mod (pe_op op_fdiv (pv 1) pe_int) (pe_op op_add (pe_callB call_len_seq rfl m_len PySem.boot_len (pa_cons (pv 0) pa_nil)) pe_int)))
    (pss_cons (ps_if (pt_cmpR op_eq (pe_op op_mod (pv 1) pe_int) pe_int (nomark _))
      (pss_one (ps_ret (pe_op op_cat (pe_op op_cat (pe_slice sl_list (pv 0) po_none (po_some (pv 4))) (pe_lst (pa_cons (pv 2) pa_nil))) (pe_slice sl_list (pv 0) (po_some (pv 4)) po_none))))
      pss_nil)
    (pss_cons (ps_if (pt_cmpR op_eq (pe_op op_mod (pv 1) pe_int) pe_int (nomark _))
      (pss_one (ps_ret (pe_op op_cat (pe_slice sl_list (pv 0) po_none (po_some (pv 4))) (pe_slice sl_list (pv 0) (po_some (pe_op op_add (pv 4) pe_int)) po_none))))
      pss_nil)
    (pss_cons (ps_if (pt_cmpR op_eq (pe_op op_mod (pv 1) pe_int) pe_int (nomark _))
      (pss_one (ps_ret (pe_listRev rfl rfl m_list rfl m_reversed (pa_cons (pv 0) pa_nil))))
      pss_nil)
    (pss_cons (ps_if (pt_cmpR op_eq (pe_op op_mod (pv 1) pe_int) pe_int (nomark _))
      (pss_one (ps_ret (pv 3)))
      pss_nil)
    (pss_one (ps_ret (pe_lst (pa_cons (pv 2) pa_nil))))))))), ?_⟩
  refine ⟨_, rfl, _, _, rfl, rfl, ⟨by decide, by decide⟩, _, rfl, pr, _, rfl, .inl (SqL.of hpr), _, _, rfl, rfl, _, _, rfl, rfl, (by rw [natsV_len]; omega), ?_⟩
  have five : (0 : Int) < 5 := by decide
  refine ⟨_, rfl, _, _, rfl, rfl, five, rfl, _, rfl, itB (fun z => ?_) (fun z => ?_)⟩
  · obtain ⟨cs, e1, l1, m1⟩ := cut_any js none (some (N / 5 % ((((natsV js).length : Nat) : Int) + 1)))
    obtain ⟨ds, e2, l2, m2⟩ := cut_any js (some (N / 5 % ((((natsV js).length : Nat) : Int) + 1))) none
    refine ⟨_, rfl, _, rfl, _, rfl, pr, _, rfl, SqL.of hpr, fun p1 hp1 => ?_⟩
    rw [e1]
    have u1 := same_new hp1 (.lst (natsV cs))
    have i1 : upd H p1 (.lst (natsV cs)) p1 = some (.lst (natsV cs)) := upd_same
    generalize upd H p1 (.lst (natsV cs)) = H1 at u1 i1 ⊢
    refine ⟨_, rfl, small_le (by show 1 ≤ 1000; decide), fun p2 hp2 => ?_⟩
    have u2 := same_new hp2 (.lst [V.int (o : Int)])
    have i2 : upd H1 p2 (.lst [V.int (o : Int)]) p2 = some (.lst (natsV [o])) := upd_same
    generalize upd H1 p2 (.lst [V.int (o : Int)]) = H2 at u2 i2 ⊢
    refine ⟨p1, p2, _, _, rfl, rfl, u2 _ _ i1, i2, small_le (by rw [natsV_len, natsV_len, List.length_singleton]; omega), fun p3 hp3 => ?_⟩
    rw [nats_cat]
    have u3 := same_new hp3 (.lst (natsV (cs ++ [o])))
    have i3 : upd H2 p3 (.lst (natsV (cs ++ [o]))) p3 = some (.lst (natsV (cs ++ [o]))) := upd_same
    generalize upd H2 p3 (.lst (natsV (cs ++ [o]))) = H3 at u3 i3 ⊢
    have s3 := u1.trans (u2.trans u3)
    refine ⟨_, rfl, _, rfl, _, rfl, pr, _, rfl, SqL.of (s3 _ _ hpr), fun p4 hp4 => ?_⟩
    rw [e2]
    have u4 := same_new hp4 (.lst (natsV ds))
    have i4 : upd H3 p4 (.lst (natsV ds)) p4 = some (.lst (natsV ds)) := upd_same
    generalize upd H3 p4 (.lst (natsV ds)) = H4 at u4 i4 ⊢
    refine ⟨p3, p4, _, _, rfl, rfl, u4 _ _ i3, i4, small_le (by rw [natsV_len, natsV_len, List.length_append, List.length_singleton]; omega), fun p5 hp5 => ?_⟩
    rw [nats_cat]
    have s4 := s3.trans u4
    refine q p5 _ _ (s4.trans (same_new hp5 _)) (.inr (s4.free hp5)) upd_same (fun g hg => ?_) (by rw [List.length_append, List.length_append, List.length_singleton]; omega)
    rcases List.mem_append.mp hg with hg | hg
    · rcases List.mem_append.mp hg with hg | hg
      · exact hjs g (m1 g hg)
      · rw [List.mem_singleton.mp hg]
        exact ho
    · exact hjs g (m2 g hg)
  refine ⟨_, rfl, _, _, rfl, rfl, five, rfl, _, rfl, itB (fun z => ?_) (fun z => ?_)⟩
  · obtain ⟨cs, e1, l1, m1⟩ := cut_any js none (some (N / 5 % ((((natsV js).length : Nat) : Int) + 1)))
    obtain ⟨ds, e2, l2, m2⟩ := cut_any js (some (N / 5 % ((((natsV js).length : Nat) : Int) + 1) + 1)) none
    refine ⟨_, rfl, _, rfl, _, rfl, pr, _, rfl, SqL.of hpr, fun p1 hp1 => ?_⟩
    rw [e1]
    have u1 := same_new hp1 (.lst (natsV cs))
    have i1 : upd H p1 (.lst (natsV cs)) p1 = some (.lst (natsV cs)) := upd_same
    generalize upd H p1 (.lst (natsV cs)) = H1 at u1 i1 ⊢
    refine ⟨_, rfl, _, rfl, _, _, rfl, rfl, _, rfl, pr, _, rfl, SqL.of (u1 _ _ hpr), fun p4 hp4 => ?_⟩
    rw [e2]
    have u4 := same_new hp4 (.lst (natsV ds))
    have i4 : upd H1 p4 (.lst (natsV ds)) p4 = some (.lst (natsV ds)) := upd_same
    generalize upd H1 p4 (.lst (natsV ds)) = H4 at u4 i4 ⊢
    refine ⟨p1, p4, _, _, rfl, rfl, u4 _ _ i1, i4, small_le (by rw [natsV_len, natsV_len]; omega), fun p5 hp5 => ?_⟩
    rw [nats_cat]
    have s4 := u1.trans u4
    refine q p5 _ _ (s4.trans (same_new hp5 _)) (.inr (s4.free hp5)) upd_same (fun g hg => ?_) (by rw [List.length_append]; omega)
    rcases List.mem_append.mp hg with hg | hg
    · exact hjs g (m1 g hg)
    · exact hjs g (m2 g hg)
  refine ⟨_, rfl, _, _, rfl, rfl, five, rfl, _, rfl, itB (fun z => ?_) (fun z => ?_)⟩
  · refine ⟨_, rfl, pr, _, rfl, SqL.of hpr, fun p1 hp1 => ?_⟩
    have er : (natsV js).reverse = natsV js.reverse := by
      unfold natsV
      rw [List.map_reverse]
    rw [er]
    exact q p1 _ _ (same_new hp1 _) (.inr hp1) upd_same (fun g hg => hjs g (List.mem_reverse.mp hg)) (by rw [List.length_reverse]; omega)
  refine ⟨_, rfl, _, _, rfl, rfl, five, rfl, _, rfl, itB (fun z => ?_) (fun z => ?_)⟩
  · exact ⟨_, rfl, q pp ps H (Same.refl _) (.inl rfl) hpp hps (by omega)⟩
  refine ⟨_, rfl, small_le (by show 1 ≤ 1000; decide), fun p2 hp2 => ?_⟩
  exact q p2 [o] _ (same_new hp2 _) (.inr hp2) upd_same (fun g hg => by rw [List.mem_singleton.mp hg]; exact ho) (by show 1 ≤ 100; decide)
end
end K18

namespace K18
open PySem L2 Mix Gds Rms Prg
/-! k18: what every step of spoiling a stand keeps -/
structure SpI (H0 H : Hp) (ph0 pk0 : Addr) (n : Nat) (bs : List Int) (N : Int) (po ph pk : Addr) (os : List Nat) (hs : List Int) (kv : List V) (ks : List (List Nat)) : Prop where
  fr : ∀ b o, H0 b = some o → b ≠ ph0 → b ≠ pk0 → H b = some o
  live : ∀ b, H b = none → H0 b = none
  hpo : H po = some (.lst (natsV os))
  osl : ∀ o ∈ os, o < n
  olen : os.length ≤ 100
  hph : H ph = some (.lst (hs.map V.int))
  hlen : hs.length ≤ 20
  hpk : H pk = some (.lst kv)
  rows : RowsL H kv ks
  klen : ks.length ≤ 60
  kb : ∀ js ∈ ks, (∀ g ∈ js, g < n) ∧ js.length ≤ 100
  apart : ∀ v ∈ kv, ∃ a : Addr, v = .ref a ∧ a ≠ ph ∧ a ≠ pk
  nh : ph = ph0 ∨ H0 ph = none
  nk : pk = pk0 ∨ H0 pk = none
  hk : ph ≠ pk
  oh : po ≠ ph
  ok : po ≠ pk
  c11 : N % 20 = 11 → 0 < os.length
  c34 : N % 20 = 3 ∨ N % 20 = 4 → hs.length = bs.length
  c69 : 6 ≤ N % 20 ∧ N % 20 ≤ 9 → ks.length = n
section
variable {H0 H H' : Hp} {ph0 pk0 po ph pk p : Addr} {n : Nat} {bs hs : List Int} {N : Int} {os : List Nat} {kv : List V} {ks : List (List Nat)}
theorem SpI.grow (x : SpI H0 H ph0 pk0 n bs N po ph pk os hs kv ks) (s : Same H H') : SpI H0 H' ph0 pk0 n bs N po ph pk os hs kv ks :=
  { x with fr := fun b o e n1 n2 => s _ _ (x.fr b o e n1 n2), live := fun b e => x.live b (s.free e), hpo := s _ _ x.hpo, hph := s _ _ x.hph, hpk := s _ _ x.hpk, rows := x.rows.mono s }
theorem SpI.newO {os' : List Nat} (x : SpI H0 H ph0 pk0 n bs N po ph pk os hs kv ks) (hp : H p = some (.lst (natsV os'))) (n1 : p ≠ ph) (n2 : p ≠ pk) (l : ∀ o ∈ os', o < n) (ll : os'.length ≤ 100) (c : N % 20 = 11 → 0 < os'.length) : SpI H0 H ph0 pk0 n bs N p ph pk os' hs kv ks :=
  { x with hpo := hp, osl := l, olen := ll, oh := n1, ok := n2, c11 := c }
theorem SpI.newH {hs' : List Int} (x : SpI H0 H ph0 pk0 n bs N po ph pk os hs kv ks) (hp : H p = some (.lst (hs'.map V.int))) (new : H0 p = none) (n1 : po ≠ p) (n2 : p ≠ pk) (ap : ∀ v ∈ kv, ∃ a : Addr, v = .ref a ∧ a ≠ p ∧ a ≠ pk) (ll : hs'.length ≤ 20) (c : N % 20 = 3 ∨ N % 20 = 4 → hs'.length = bs.length) : SpI H0 H ph0 pk0 n bs N po p pk os hs' kv ks :=
  { x with hph := hp, hlen := ll, nh := .inr new, hk := n2, oh := n1, apart := ap, c34 := c }
theorem SpI.newK {kv' : List V} {ks' : List (List Nat)} (x : SpI H0 H ph0 pk0 n bs N po ph pk os hs kv ks) (hp : H p = some (.lst kv')) (new : H0 p = none) (n1 : po ≠ p) (n2 : ph ≠ p) (r : RowsL H kv' ks') (ll : ks'.length ≤ 60) (kb : ∀ js ∈ ks', (∀ g ∈ js, g < n) ∧ js.length ≤ 100) (ap : ∀ v ∈ kv', ∃ a : Addr, v = .ref a ∧ a ≠ ph ∧ a ≠ p) (c : 6 ≤ N % 20 ∧ N % 20 ≤ 9 → ks'.length = n) : SpI H0 H ph0 pk0 n bs N po ph p os hs kv' ks' :=
  { x with hpk := hp, nk := .inr new, hk := n2, ok := n1, rows := r, klen := ll, kb := kb, apart := ap, c69 := c }
theorem frame_upd {q0 q1 : Addr} {o' : HO} (fr : ∀ b o, H0 b = some o → b ≠ ph0 → b ≠ pk0 → H b = some o) (h : p = ph0 ∨ p = pk0 ∨ H0 p = none) : ∀ b o, H0 b = some o → b ≠ ph0 → b ≠ pk0 → (upd H p o') b = some o := fun b o e n1 n2 => by
  rw [upd_ne]
  · exact fr b o e n1 n2
  · intro z
    rcases h with h | h | h
    · exact n1 (z.trans h)
    · exact n2 (z.trans h)
    · rw [← z, e] at h
      cases h
theorem live_upd {o' : HO} (l : ∀ b, H b = none → H0 b = none) : ∀ b, (upd H p o') b = none → H0 b = none := fun b e => by
  by_cases c : b = p
  · rw [c, upd_same] at e
    cases e
  · rw [upd_ne c] at e
    exact l b e
theorem rows_upd {o' : HO} (r : RowsL H kv ks) (ap : ∀ v ∈ kv, ∃ a : Addr, v = .ref a ∧ a ≠ p) : RowsL (upd H p o') kv ks := ⟨r.1, fun i v z h1 h2 => by
  obtain ⟨a, rfl, h3⟩ := r.2 i v z h1 h2
  obtain ⟨a', e, n1⟩ := ap _ (List.mem_of_getElem? h1)
  injection e with e
  subst e
  exact ⟨a, rfl, by rw [upd_ne n1]; exact h3⟩⟩
theorem SpI.setH {hs' : List Int} (x : SpI H0 H ph0 pk0 n bs N po ph pk os hs kv ks) (ll : hs'.length = hs.length) : SpI H0 (upd H ph (.lst (hs'.map V.int))) ph0 pk0 n bs N po ph pk os hs' kv ks :=
  { x with
    fr := frame_upd (q0 := po) (q1 := po) x.fr (x.nh.elim .inl fun h => .inr (.inr h))
    live := live_upd x.live
    hpo := by rw [upd_ne x.oh]; exact x.hpo
    hph := upd_same
    hlen := by rw [ll]; exact x.hlen
    hpk := by rw [upd_ne (Ne.symm x.hk)]; exact x.hpk
    rows := rows_upd x.rows fun v hv => by
      obtain ⟨a, e, n1, _⟩ := x.apart v hv
      exact ⟨a, e, n1⟩
    c34 := by rw [ll]; exact x.c34 }
theorem rows_set {i : Nat} {gs : List Nat} (r : RowsL H kv ks) (hi : i < kv.length) (h : H p = some (.lst (natsV gs))) : RowsL H (kv.set i (.ref p)) (ks.set i gs) := by
  refine ⟨by rw [List.length_set, List.length_set, r.1], fun j v z h1 h2 => ?_⟩
  by_cases c : j = i
  · subst c
    rw [List.getElem?_set_self hi] at h1
    rw [List.getElem?_set_self (by rw [← r.1]; exact hi)] at h2
    obtain rfl := Option.some.inj h1
    obtain rfl := Option.some.inj h2
    exact ⟨p, rfl, h⟩
  · rw [List.getElem?_set_ne (Ne.symm c)] at h1
    rw [List.getElem?_set_ne (Ne.symm c)] at h2
    exact r.2 j v z h1 h2
theorem SpI.setK {i : Nat} {gs : List Nat} (x : SpI H0 H ph0 pk0 n bs N po ph pk os hs kv ks) (hi : i < kv.length) (h : H p = some (.lst (natsV gs))) (n1 : p ≠ ph) (n2 : p ≠ pk) (hg : (∀ g ∈ gs, g < n) ∧ gs.length ≤ 100) : SpI H0 (upd H pk (.lst (kv.set i (.ref p)))) ph0 pk0 n bs N po ph pk os hs (kv.set i (.ref p)) (ks.set i gs) := by
  have ap : ∀ v ∈ kv.set i (.ref p), ∃ a : Addr, v = .ref a ∧ a ≠ ph ∧ a ≠ pk := fun v hv => by
    rcases List.mem_or_eq_of_mem_set hv with hv | rfl
    · exact x.apart v hv
    · exact ⟨p, rfl, n1, n2⟩
  exact { x with
    fr := frame_upd (q0 := po) (q1 := po) x.fr (x.nk.elim (fun h => .inr (.inl h)) fun h => .inr (.inr h))
    live := live_upd x.live
    hpo := by rw [upd_ne x.ok]; exact x.hpo
    hph := by rw [upd_ne x.hk]; exact x.hph
    hpk := upd_same
    rows := rows_upd (rows_set x.rows hi h) fun v hv => by
      obtain ⟨a, e, _, n2⟩ := ap v hv
      exact ⟨a, e, n2⟩
    klen := by rw [List.length_set]; exact x.klen
    kb := fun js hj => by
      rcases List.mem_or_eq_of_mem_set hj with hj | rfl
      · exact x.kb js hj
      · exact hg
    apart := ap
    c69 := by rw [List.length_set]; exact x.c69 }
end
end K18

namespace K18
open PySem L2 Mix Gds Rms Prg
/-! k18: a stand spoiled -/
def BxL (H : Hp) (pb : Addr) (bs : List Int) : Prop := ∃ bv : List V, H pb = some (.lst bv) ∧ BxsIn H bv bs
def spSpoiled (K : PySem.W.Frag) : Sp := fun vs H Q _ => ∃ (a t pp pst pb po ph pk : Addr) (ns bs hs : List Int) (rs : List Rm) (os : List Nat) (kv : List V) (ks : List (List Nat)) (k : Nat), vs = [.ref a, .ref t, .ref pp, .int (0 + (k : Int)), .ref pst, .ref pb] ∧ SqL K H a (ns.map V.int) ∧ ns.length ≤ 63 ∧ Rooms H t rs ∧ H pp = some (.lst (parsV (depths rs) (depths rs).length)) ∧ rs.length ≤ 40 ∧ 1 ≤ rs.length ∧ k ≤ 30 ∧ os.length ≤ 40 ∧ hs.length ≤ 6 ∧ ks.length ≤ 40 ∧ (∀ js ∈ ks, js.length ≤ 40) ∧
  H pst = some (.tup [.ref po, .ref ph, .ref pk]) ∧ BxL H pb bs ∧ pb ≠ ph ∧ pb ≠ pk ∧ pp ≠ ph ∧ pp ≠ pk ∧ (∃ Hs : Hp, Same Hs H ∧ Hs ph = none ∧ Hs pk = none ∧ SqL K Hs a (ns.map V.int)) ∧ (∀ N : Int, SpI H H ph pk rs.length bs N po ph pk os hs kv ks) ∧
  ∀ (p po' ph' pk' : Addr) (os' : List Nat) (hs' : List Int) (kv' : List V) (ks' : List (List Nat)) (N : Int) (H' : Hp), SpI H H' ph pk rs.length bs N po' ph' pk' os' hs' kv' ks' → H p = none → H' p = some (.tup [.ref po', .ref ph', .ref pk']) → Q (.ref p) H'
def SpS (H : Hp) (a t pp pst pb ph pk : Addr) (k n : Nat) (bs : List Int) (N : Int) (C : List Nat → List Int → List (List Nat) → Prop) : St → Hp → Prop := fun σ' H' => ∃ (po' ph' pk' : Addr) (os' : List Nat) (hs' : List Int) (kv' : List V) (ks' : List (List Nat)) (o : Nat) (o12 o13 o14 o15 : Option V), (o < n ∧ C os' hs' ks') ∧ SpI H H' ph pk n bs N po' ph' pk' os' hs' kv' ks' ∧ σ' = [some (.ref a), some (.ref t), some (.ref pp), some (.int (0 + (k : Int))), some (.ref pst), some (.ref pb), some (.int N), some (.int (N / 20)), some (.ref po'), some (.ref ph'), some (.ref pk'), some (.int (o : Int)), o12, o13, o14, o15]
theorem cut_anyI (hs : List Int) (lo hi : Option Int) : ∃ cs : List Int, cutV (hs.map V.int) lo hi = cs.map V.int ∧ cs.length ≤ hs.length := by
  refine ⟨(hs.drop (HT.sIx hs.length 0 lo)).take (HT.sIx hs.length hs.length hi - HT.sIx hs.length 0 lo), ?_, ?_⟩
  · unfold cutV
    rw [List.length_map, List.map_take, List.map_drop]
  · rw [List.length_take, List.length_drop]
    omega
theorem rep_zero (k : Nat) : (List.replicate k [V.int 0]).flatten = (List.replicate k (0 : Int)).map V.int := by
  induction k with
  | zero => rfl
  | succ k ih =>
    rw [List.replicate_succ, List.flatten_cons, ih, List.replicate_succ]
    rfl
theorem ixN_nat {n j : Nat} (h1 : j < n) : ixN n (j : Int) = some j := by
  unfold ixN
  rw [if_pos (by omega), if_pos (by omega), Int.toNat_natCast]
theorem frame_seq {K : PySem.W.Frag} {Hs H H' : Hp} {a p q : Addr} {xs : List V} (fr : ∀ b o, H b = some o → b ≠ p → b ≠ q → H' b = some o) (ss : Same Hs H) (n1 : Hs p = none) (n2 : Hs q = none) (h : SqL K Hs a xs) : SqL K H' a xs := by
  have go : ∀ {o : HO}, Hs a = some o → H' a = some o := fun {o} e => fr _ _ (ss _ _ e) (fun z => by rw [← z, e] at n1; cases n1) (fun z => by rw [← z, e] at n2; cases n2)
  rcases h with (h | ⟨o, h⟩) | h
  · exact .inl (.inl (go h))
  · exact .inl (.inr ⟨o, go h⟩)
  · exact .inr h
theorem cut_to (xs : List V) (i : Int) : ∃ m : Nat, cutV xs none (some i) = xs.take m := ⟨_, rfl⟩
theorem RowsL.take {H : Hp} {kv : List V} {ks : List (List Nat)} (x : RowsL H kv ks) (m : Nat) : RowsL H (kv.take m) (ks.take m) := by
  refine ⟨by rw [List.length_take, List.length_take, x.1], fun i v z h1 h2 => ?_⟩
  have hi := (List.getElem?_eq_some_iff.mp h1).1
  rw [List.length_take] at hi
  rw [List.getElem?_take_of_lt (by omega)] at h1 h2
  exact x.2 i v z h1 h2
theorem rep_one (m : Nat) (v : V) : (List.replicate m [v]).flatten = List.replicate m v := by
  induction m with
  | zero => rfl
  | succ m ih =>
    rw [List.replicate_succ, List.flatten_cons, ih, List.replicate_succ]
    rfl
theorem SpI.fresh {H0 H : Hp} {ph0 pk0 po ph pk p : Addr} {n : Nat} {bs hs : List Int} {N : Int} {os : List Nat} {kv : List V} {ks : List (List Nat)} (x : SpI H0 H ph0 pk0 n bs N po ph pk os hs kv ks) (hp : H p = none) : p ≠ ph ∧ p ≠ pk ∧ po ≠ p :=
  ⟨(fun e => by rw [e, x.hph] at hp; cases hp), (fun e => by rw [e, x.hpk] at hp; cases hp), (fun e => by rw [← e, x.hpo] at hp; cases hp)⟩
section
variable {P : Program} {w : World} {K : PySem.W.Frag} {mg : Str → Option Value} {base : Heap}
theorem sc_law_spoiled : FnScope ["_law_script", "_law_rooms_here", "_law_parents_here", "_law_k", "_law_stand", "_law_boxes", "_law_number", "_law_some", "_law_opening_here", "_law_held", "_law_kept_here", "_law_other", "_law_at", "_law_cell", "_law_keepers", "_law_piece_here"] ["_law_script", "_law_rooms_here", "_law_parents_here", "_law_k", "_law_stand", "_law_boxes"] (defScope sSpoiled) := ⟨rfl, rfl, rfl, by decide +kernel, rfl, by decide +kernel, by decide +kernel⟩
theorem ok_spoiled {n : Nat} {f gm gp gc gr : Addr} {fd dm dp dc dr : FuncData} (F : Fun K "_law_spoiled" "_law_spoiled" sSpoiled f fd)
    (G_law_mixed : FnOk P w K mg base CX0 n gm dm ["_law_script", "_law_k", "_law_salt"] (spMixed K)) (b_law_mixed : Binds K dm ["_law_script", "_law_k", "_law_salt"] []) (k_law_mixed : PySem.W.keepIn K (.ref gm) = true) (m_law_mixed : mg "_law_mixed" = some (.ref gm))
    (G_law_piece : FnOk P w K mg base CX0 n gp dp ["_law_script", "_law_rooms_here", "_law_parents_here", "_law_room", "_law_salt"] (K16.spPiece K)) (b_law_piece : Binds K dp ["_law_script", "_law_rooms_here", "_law_parents_here", "_law_room", "_law_salt"] []) (k_law_piece : PySem.W.keepIn K (.ref gp) = true) (m_law_piece : mg "_law_piece" = some (.ref gp))
    (G_law_cell_at : FnOk P w K mg base CX0 n gc dc ["_law_script", "_law_k"] (spCell K)) (b_law_cell_at : Binds K dc ["_law_script", "_law_k"] []) (k_law_cell_at : PySem.W.keepIn K (.ref gc) = true) (m_law_cell_at : mg "_law_cell_at" = some (.ref gc))
    (G_law_spoiled_row : FnOk P w K mg base CX0 n gr dr ["_law_row", "_law_number", "_law_other", "_law_piece_here"] spSpRow) (b_law_spoiled_row : Binds K dr ["_law_row", "_law_number", "_law_other", "_law_piece_here"] []) (k_law_spoiled_row : PySem.W.keepIn K (.ref gr) = true) (m_law_spoiled_row : mg "_law_spoiled_row" = some (.ref gr))
    (m_range : mg "range" = none) (m_len : mg "len" = none) : FnOk P w K mg base CX0 (n + 1) f fd ["_law_script", "_law_rooms_here", "_law_parents_here", "_law_k", "_law_stand", "_law_boxes"] (spSpoiled K) := by
  refine F.ok sc_law_spoiled (fun vs H Q E h => ?_) (fun cdv A outer s H vs Q E hr h => ?_)
  · obtain ⟨a, t, pp, pst, pb, po, ph, pk, ns, bs, hs, rs, os, kv, ks, k, rfl, _⟩ := h
    rfl
  obtain ⟨a, t, pp, pst, pb, po, ph, pk, ns, bs, hs, rs, os, kv, ks, k, rfl, hS, h63, hR, hpp, h40, h1, hk30, lo40, l6, lk40, lkr, hst, hB, nb1, nb2, np1, np2, ⟨Hs, ss, na1, na2, hSs⟩, hI, q⟩ := h
  refine ⟨_, (pss_cons (ps_set (i := 6) sc_law_spoiled.nd rfl (Or.inl rfl) (pe_call G_law_mixed hr rfl m_law_mixed k_law_mixed b_law_mixed .nil pass0 (pa_cons (pv 0) (pa_cons (pv 3) (pa_cons pe_int pa_nil)))))
    (pss_cons (ps_set (i := 7) sc_law_spoiled.nd rfl (Or.inl rfl) (pe_op op_fdiv (pv 6) pe_int))
    (pss_cons (ps_asg (pv 4) (pg_tup rfl (pgs_cons (pg_name (i := 8) sc_law_spoiled.nd rfl (Or.inr rfl)) (pgs_cons (pg_name (i := 9) sc_law_spoiled.nd rfl (Or.inl rfl)) (pgs_cons (pg_name (i := 10) sc_law_spoiled.nd rfl (Or.inl rfl)) pgs_nil)))))
    (pss_cons (ps_set (i := 11) sc_law_spoiled.nd rfl (Or.inr rfl) (pe_op op_mod (pv 7) (pe_callB call_len_seq rfl m_len PySem.boot_len (pa_cons (pv 1) pa_nil))))
    (pss_cut (ps_if (pt_cmpR op_eq (pe_op op_mod (pv 6) pe_int) pe_int (nomark _))
      (pss_one (ps_set (i := 8) sc_law_spoiled.nd rfl (Or.inr rfl) (pe_comp (caps := [(11, "_law_other")]) rfl (show CompSc (defScope sSpoiled) ["_law_script", "_law_rooms_here", "_law_parents_here", "_law_k", "_law_stand", "_law_boxes", "_law_number", "_law_some", "_law_opening_here", "_law_held", "_law_kept_here", "_law_other", "_law_at", "_law_cell", "_law_keepers", "_law_piece_here"] _ _ _ from ⟨rfl, rfl, by decide +kernel, by decide +kernel, by decide +kernel, by decide +kernel, by decide +kernel⟩) (pi_list (pv 8)) (fun _ _ _ _ _ _ => pifs_one (pt_cmpR op_ne (pv 0) (pv 1) (nomark _))) (fun _ _ _ _ _ _ => (pv 0)))))
      pss_nil)
    (pss_cut (ps_if (pt_cmpR op_eq (pe_op op_mod (pv 6) pe_int) pe_int (nomark _))
      (pss_one (ps_set (i := 8) sc_law_spoiled.nd rfl (Or.inr rfl) (pe_comp (caps := [(8, "_law_opening_here"), (11, "_law_other")]) rfl (show CompSc (defScope sSpoiled) ["_law_script", "_law_rooms_here", "_law_parents_here", "_law_k", "_law_stand", "_law_boxes", "_law_number", "_law_some", "_law_opening_here", "_law_held", "_law_kept_here", "_law_other", "_law_at", "_law_cell", "_law_keepers", "_law_piece_here"] _ _ _ from ⟨rfl, rfl, by decide +kernel, by decide +kernel, by decide +kernel, by decide +kernel, by decide +kernel⟩) (pi_range1 rfl m_range (pa_cons (pe_callB call_len_seq rfl m_len PySem.boot_len (pa_cons (pv 1) pa_nil)) pa_nil)) (fun _ _ _ _ _ _ => pifs_one (pt_cut (PW.pt (pw_or (pt_cmpR (r := rIn K false) op_in_seq (pv 0) (pv 1) rfl) (pw_or1 (pt_cmpR (r := rEq) op_eq (pv 0) (pv 2) (nomark _))))))) (fun _ _ _ _ _ _ => (pv 0)))))
      pss_nil)
    (pss_cut (ps_if (pt_cmpR op_eq (pe_op op_mod (pv 6) pe_int) pe_int (nomark _))
      (pss_one (ps_set (i := 9) sc_law_spoiled.nd rfl (Or.inl rfl) (pe_op op_cat (pe_slice sl_list (pv 9) po_none (po_some (pe_op op_mod (pv 7) pe_int))) (pe_op op_rep (pe_lst (pa_cons pe_int pa_nil)) (pe_op op_mod (pe_op op_fdiv (pv 7) pe_int) pe_int)))))
      pss_nil)
    (pss_cut (ps_if (pt_cut (PW.pt (pw_and (pt_chV op_le op_le pe_int (pe_op op_mod (pv 6) pe_int) pe_int) (pw_and1 (pt_cmpR op_gt (pe_callB call_len_seq rfl m_len PySem.boot_len (pa_cons (pv 9) pa_nil)) pe_int (nomark _))))))
      (pss_cons (ps_set (i := 12) sc_law_spoiled.nd rfl (Or.inl rfl) (pe_op op_mod (pv 7) (pe_callB call_len_seq rfl m_len PySem.boot_len (pa_cons (pv 9) pa_nil))))
      (pss_cons (ps_set (i := 13) sc_law_spoiled.nd rfl (Or.inl rfl) (pe_op op_sub (pe_op op_mod (pe_call G_law_cell_at hr rfl m_law_cell_at k_law_cell_at b_law_cell_at .nil pass0 (pa_cons (pv 0) (pa_cons (pv 3) pa_nil))) (pe_op op_mul pe_int (pe_op op_pow pe_int pe_int))) (pe_op op_pow pe_int pe_int)))
      (pss_one (ps_asg (pe_ix ix_list (pe_lst (pa_cons (pe_un un_neg pe_int) (pa_cons (pe_ix ix_tup (pe_ix ix_list (pv 5) (pv 12) (fun _ _ => rfl)) pe_int (fun _ _ => rfl)) (pa_cons (pe_op op_sub (pe_ix ix_tup (pe_ix ix_list (pv 5) (pv 12) (fun _ _ => rfl)) pe_int (fun _ _ => rfl)) pe_int) (pa_cons (pv 13) pa_nil))))) (pe_op op_mod (pe_op op_fdiv (pv 7) pe_int) pe_int) (fun _ _ => rfl)) (pg_sub (pv 9) (pv 12) set_list)))))
      pss_nil)
    (pss_cut (ps_if (pt_cmpR op_eq (pe_op op_mod (pv 6) pe_int) pe_int (nomark _))
      (pss_one (ps_set (i := 10) sc_law_spoiled.nd rfl (Or.inl rfl) (pe_op op_cat (pe_slice sl_list (pv 10) po_none (po_some (pe_op op_mod (pe_op op_fdiv (pv 7) pe_int) (pe_op op_add (pe_callB call_len_seq rfl m_len PySem.boot_len (pa_cons (pv 10) pa_nil)) pe_int)))) (pe_op op_rep (pe_lst (pa_cons (pe_lst pa_nil) pa_nil)) (pe_op op_mod (pv 7) pe_int)))))
      pss_nil)
    (pss_cut (ps_if (pt_chV op_le op_le pe_int (pe_op op_mod (pv 6) pe_int) pe_int)
      (pss_cons (ps_setC (i := 14) (caps := [(1, "_law_rooms_here")]) rfl sc_law_spoiled.nd rfl (Or.inl rfl) (show CompSc (defScope sSpoiled) ["_law_script", "_law_rooms_here", "_law_parents_here", "_law_k", "_law_stand", "_law_boxes", "_law_number", "_law_some", "_law_opening_here", "_law_held", "_law_kept_here", "_law_other", "_law_at", "_law_cell", "_law_keepers", "_law_piece_here"] _ _ _ from ⟨rfl, rfl, by decide +kernel, by decide +kernel, by decide +kernel, by decide +kernel, by decide +kernel⟩) (pi_range1 rfl m_range (pa_cons (pe_callB call_len_seq rfl m_len PySem.boot_len (pa_cons (pv 1) pa_nil)) pa_nil)) (fun _ _ _ _ _ _ => pifs_one (pt_cmpR op_ne (pe_ix (r := rIxT K) ix_tup (pe_ix (r := rIxT K) ix_tup (pv 1) (pv 0) (fun _ _ => rfl)) pe_int (fun _ _ => rfl)) pe_str (nomark _))) (fun _ _ _ _ _ _ => (pv 0)))
      (pss_cut (ps_if (pt_cut (PW.pt (pw_and (pt_cmpR op_eq (pe_op op_mod (pv 6) pe_int) pe_int (nomark _)) (pw_and1 (pt_cmpR op_gt (pe_callB call_len_seq rfl m_len PySem.boot_len (pa_cons (pv 14) pa_nil)) pe_int (nomark _))))))
        (pss_one (ps_set (i := 11) sc_law_spoiled.nd rfl (Or.inr rfl) (pe_ix ix_list (pv 14) (pe_op op_mod (pv 7) (pe_callB call_len_seq rfl m_len PySem.boot_len (pa_cons (pv 14) pa_nil))) (fun _ _ => rfl))))
        pss_nil)
      (pss_cons (ps_setC (i := 15) (caps := [(1, "_law_rooms_here")]) rfl sc_law_spoiled.nd rfl (Or.inl rfl) (show CompSc (defScope sSpoiled) ["_law_script", "_law_rooms_here", "_law_parents_here", "_law_k", "_law_stand", "_law_boxes", "_law_number", "_law_some", "_law_opening_here", "_law_held", "_law_kept_here", "_law_other", "_law_at", "_law_cell", "_law_keepers", "_law_piece_here"] _ _ _ from ⟨rfl, rfl, by decide +kernel, by decide +kernel, by decide +kernel, by decide +kernel, by decide +kernel⟩) (pi_list (pe_call G_law_piece hr rfl m_law_piece k_law_piece b_law_piece .nil pass0 (pa_cons (pv 0) (pa_cons (pv 1) (pa_cons (pv 2) (pa_cons (pv 11) (pa_cons (pe_op op_add pe_int (pv 3)) pa_nil))))))) (fun _ _ _ _ _ _ => pifs_one (pt_cmpR (r := rEq) op_eq (pe_ix (r := rIxT K) ix_tup (pe_ix (r := rIxT K) ix_tup (pv 1) (pv 0) (fun _ _ => rfl)) pe_int (fun _ _ => rfl)) pe_str (nomark _))) (fun _ _ _ _ _ _ => (pv 0)))
      (pss_one (ps_asg (pe_call G_law_spoiled_row hr rfl m_law_spoiled_row k_law_spoiled_row b_law_spoiled_row .nil pass0 (pa_cons (pe_ix ix_list (pv 10) (pv 11) (fun _ _ => rfl)) (pa_cons (pe_op op_fdiv (pv 7) pe_int) (pa_cons (pe_op op_mod (pe_op op_fdiv (pv 7) pe_int) (pe_callB call_len_seq rfl m_len PySem.boot_len (pa_cons (pv 1) pa_nil))) (pa_cons (pv 15) pa_nil))))) (pg_sub (pv 10) (pv 11) set_list))))))
      pss_nil)
    (pss_cut (ps_if (pt_cut (PW.pt (pw_and (pt_cmpR op_eq (pe_op op_mod (pv 6) pe_int) pe_int (nomark _)) (pw_and1 (pt_cmpR op_gt (pe_callB call_len_seq rfl m_len PySem.boot_len (pa_cons (pv 8) pa_nil)) pe_int (nomark _))))))
      (pss_cons (ps_set (i := 12) sc_law_spoiled.nd rfl (Or.inl rfl) (pe_op op_mod (pv 7) (pe_op op_sub (pe_callB call_len_seq rfl m_len PySem.boot_len (pa_cons (pv 8) pa_nil)) pe_int)))
      (pss_one (ps_set (i := 8) sc_law_spoiled.nd rfl (Or.inr rfl) (pe_op op_cat (pe_op op_cat (pe_slice sl_list (pv 8) po_none (po_some (pv 12))) (pe_lst (pa_cons (pe_ix ix_list (pv 8) (pe_op op_add (pv 12) pe_int) (fun _ _ => rfl)) (pa_cons (pe_ix ix_list (pv 8) (pv 12) (fun _ _ => rfl)) pa_nil)))) (pe_slice sl_list (pv 8) (po_some (pe_op op_add (pv 12) pe_int)) po_none)))))
      pss_nil)
    (pss_cut (ps_if (pt_cmpR op_eq (pe_op op_mod (pv 6) pe_int) pe_int (nomark _))
      (pss_cons (ps_set (i := 12) sc_law_spoiled.nd rfl (Or.inl rfl) (pe_op op_mod (pv 7) (pe_callB call_len_seq rfl m_len PySem.boot_len (pa_cons (pv 8) pa_nil))))
      (pss_one (ps_set (i := 8) sc_law_spoiled.nd rfl (Or.inr rfl) (pe_op op_cat (pe_op op_cat (pe_slice sl_list (pv 8) po_none (po_some (pv 12))) (pe_lst (pa_cons (pe_ix ix_list (pv 8) (pv 12) (fun _ _ => rfl)) pa_nil))) (pe_slice sl_list (pv 8) (po_some (pv 12)) po_none)))))
      pss_nil)
    (pss_cut (ps_if (pt_cmpR op_eq (pe_op op_mod (pv 6) pe_int) pe_int (nomark _))
      (pss_one (ps_set (i := 8) sc_law_spoiled.nd rfl (Or.inr rfl) (pe_ix ix_list (pe_lst (pa_cons (pe_lst pa_nil) (pa_cons (pe_slice sl_list (pv 8) (po_some pe_int) po_none) (pa_cons (pe_slice sl_list (pv 8) po_none (po_some pe_int)) pa_nil)))) (pe_op op_mod (pv 7) pe_int) (fun _ _ => rfl))))
      pss_nil)
    (pss_one (ps_ret (pe_tup (pa_cons (pv 8) (pa_cons (pv 9) (pa_cons (pv 10) pa_nil))))))))))))))))))), ?_⟩
  have ld := depths_len rs
  obtain ⟨rv, htr, hrs⟩ := id hR
  have lrv := hrs.length
  obtain ⟨bv, hpb, hbv⟩ := id hB
  have hph0 := (hI 0).hph
  have hpk0 := (hI 0).hpk
  refine ⟨_, rfl, _, rfl, a, ns, _, _, rfl, hS, h63, ⟨by omega, by omega⟩, ⟨by decide, by decide⟩, fun N N0 N1 => ?_⟩
  refine ⟨_, rfl, _, _, rfl, rfl, ⟨by decide, by decide⟩, ?_⟩
  refine ⟨_, rfl, pst, _, rfl, SqT.of hst, rfl, _, _, rfl, _, _, rfl, _, _, rfl, rfl, ?_⟩
  refine ⟨_, rfl, _, rfl, t, _, rfl, .inr (SqT.of htr), _, _, rfl, rfl, (by omega), ?_⟩
  obtain ⟨o, ho, eo⟩ : ∃ o : Nat, o < rs.length ∧ N / 20 % ((rv.length : Nat) : Int) = (o : Int) := by
    have g0 := Int.emod_nonneg (N / 20) (show ((rv.length : Nat) : Int) ≠ 0 by omega)
    have g1 := Int.emod_lt_of_pos (N / 20) (show (0 : Int) < ((rv.length : Nat) : Int) by omega)
    exact ⟨(N / 20 % ((rv.length : Nat) : Int)).toNat, by omega, by omega⟩
  have way : ∀ {c : Int}, decide (V.int (N % 20) = V.int c) = true → N % 20 = c := fun {c} z => by
    have := of_decide_eq_true z
    injection this
  have p20 : (0 : Int) < 20 := by decide
  have kt : ∀ {H' : Hp} {po' ph' pk' : Addr} {os' : List Nat} {hs' : List Int} {kv' : List V} {ks' : List (List Nat)}, SpI H H' ph pk rs.length bs N po' ph' pk' os' hs' kv' ks' → KeepT H H' := fun x b ys e => x.fr _ _ e (ne_of e hph0 (by intro z; cases z)) (ne_of e hpk0 (by intro z; cases z))
  -- a room left out
  refine ⟨SpS H a t pp pst pb ph pk k rs.length bs N (fun u h k => u.length ≤ 40 ∧ h.length ≤ 6 ∧ k.length ≤ 40 ∧ ∀ js ∈ k, js.length ≤ 40), ?_, ?_⟩
  · refine ⟨_, rfl, _, _, rfl, rfl, p20, rfl, _, rfl, itB (fun z => ?_) (fun z => ⟨po, ph, pk, os, hs, kv, ks, o, _, _, _, _, ⟨ho, (by omega), l6, lk40, lkr⟩, hI N, by rw [← eo]; rfl⟩)⟩
    have c := way z
    refine ⟨_, rfl, po, rfl, ⟨_, SqL.of (hI N).hpo⟩, ?_⟩
    refine comp_list (K := K) (a := po) (xs := natsV os) (fun j acc H' => H' = H ∧ ∃ gs : List Nat, acc = natsV gs ∧ gs.length ≤ j ∧ ∀ g ∈ gs, g ∈ os) ⟨rfl, [], rfl, Nat.le_refl _, (fun g h => by cases h)⟩ (fun j acc H' ⟨e, _⟩ => by subst e; exact SqL.of (hI N).hpo) (fun j x acc H' hx ⟨e1, gs, e2, e3, e4⟩ => ?_) (fun acc H' ⟨e1, gs, e2, e3, e4⟩ p5 hp5 => ?_)
    · subst e1 e2
      obtain ⟨hj, rfl⟩ := natsV_get hx
      have ol := (hI N).olen
      refine ⟨_, rfl, _, rfl, rfl, _, rfl, itB (fun _ => ?_) (fun _ => ⟨rfl, gs, rfl, by omega, e4⟩)⟩
      refine ⟨_, rfl, small1000 (by rw [natsV_len]; omega), rfl, gs ++ [os[j]], natsV_app _ _, by rw [List.length_append, List.length_singleton]; omega, fun g hg => ?_⟩
      rcases List.mem_append.mp hg with hg | hg
      · exact e4 g hg
      · rw [List.mem_singleton.mp hg]
        exact List.getElem_mem hj
    · subst e1 e2
      rw [natsV_len] at e3
      have fs := (hI N).fresh hp5
      have ol := (hI N).olen
      exact ⟨p5, ph, pk, gs, hs, kv, ks, o, _, _, _, _, ⟨ho, (by omega), l6, lk40, lkr⟩, ((hI N).grow (same_new hp5 _)).newO upd_same fs.1 fs.2.1 (fun g hg => (hI N).osl g (e4 g hg)) (by omega) (fun z => by omega), by rw [← eo]; rfl⟩
  clear hI eo ho o
  rintro σ1 H1 ⟨po1, ph1, pk1, os1, hs1, kv1, ks1, o, o12, o13, o14, o15, ⟨ho, l6'⟩, x, rfl⟩
  -- a room put in
  refine ⟨SpS H a t pp pst pb ph pk k rs.length bs N (fun u h k => u.length ≤ 40 ∧ h.length ≤ 6 ∧ k.length ≤ 40 ∧ ∀ js ∈ k, js.length ≤ 40), ?_, ?_⟩
  · refine ⟨_, rfl, _, _, rfl, rfl, p20, rfl, _, rfl, itB (fun z => ?_) (fun z => ⟨po1, ph1, pk1, os1, hs1, kv1, ks1, o, _, _, _, _, ⟨ho, l6'⟩, x, rfl⟩)⟩
    have c := way z
    refine ⟨_, rfl, t, _, rfl, .inr (SqT.of (kt x _ _ htr)), _, rfl, by omega, by omega, ?_⟩
    refine comp_range (fun i acc H' => H' = H1 ∧ ∃ js : List Nat, acc = natsV js ∧ js.length ≤ i ∧ ∀ g ∈ js, g < i) ⟨rfl, [], rfl, Nat.le_refl _, (fun g h => by cases h)⟩ (fun i acc H' hi ⟨e1, js, e2, e3, e4⟩ => ?_) (fun acc H' ⟨e1, js, e2, e3, e4⟩ p hp => ?_)
    · subst e1 e2
      refine ⟨fun _ H2 => H2 = H', ?_, ?_⟩
      · refine ⟨_, rfl, _, rfl, po1, _, rfl, .inl (SqL.of x.hpo), rfl, nats_flat _, _, rfl, ?_⟩
        exact itB (fun _ => rfl) (fun _ => ⟨_, rfl, _, rfl, rfl, _, rfl, rfl⟩)
      rintro c2 H2 rfl
      refine itB (fun _ => ?_) (fun _ => ⟨rfl, js, rfl, by omega, fun g hg => by have := e4 g hg; omega⟩)
      refine ⟨_, rfl, small1000 (by rw [natsV_len]; omega), rfl, js ++ [i], ?_, by rw [List.length_append, List.length_singleton]; omega, fun g hg => ?_⟩
      · rw [← natsV_app, Int.zero_add]
      · rcases List.mem_append.mp hg with h | h
        · have := e4 g h
          omega
        · rw [List.mem_singleton.mp h]
          omega
    · subst e1 e2
      have fs := x.fresh hp
      exact ⟨p, ph1, pk1, js, hs1, kv1, ks1, o, _, _, _, _, ⟨ho, (by omega), l6'.2⟩, (x.grow (same_new hp _)).newO upd_same fs.1 fs.2.1 (fun g hg => by have := e4 g hg; omega) (by omega) (fun z => by omega), rfl⟩
  clear x ho o
  rintro σ2 H2 ⟨po2, ph2, pk2, os2, hs2, kv2, ks2, o, o12', o13', o14', o15', ⟨ho, l62⟩, x, rfl⟩
  -- numbers left out, or one more
  refine ⟨SpS H a t pp pst pb ph pk k rs.length bs N (fun u _ k => u.length ≤ 40 ∧ k.length ≤ 40 ∧ ∀ js ∈ k, js.length ≤ 40), ?_, ?_⟩
  · refine ⟨_, rfl, _, _, rfl, rfl, p20, rfl, _, rfl, itB (fun z => ?_) (fun z => ⟨po2, ph2, pk2, os2, hs2, kv2, ks2, o, _, _, _, _, ⟨ho, l62.1, l62.2.2⟩, x, rfl⟩)⟩
    have c := way z
    have hl : hs2.length ≤ 6 := l62.2.1
    obtain ⟨cs, e1, l1⟩ := cut_anyI hs2 none (some (N / 20 % 7))
    refine ⟨_, rfl, _, rfl, _, _, rfl, rfl, (by show (0 : Int) < 7; decide), _, rfl, ph2, _, rfl, SqL.of x.hph, fun p1 hp1 => ?_⟩
    rw [e1]
    have u1 := same_new hp1 (.lst (cs.map V.int))
    have i1 : upd H2 p1 (.lst (cs.map V.int)) p1 = some (.lst (cs.map V.int)) := upd_same
    generalize upd H2 p1 (.lst (cs.map V.int)) = H3 at u1 i1 ⊢
    refine ⟨small_le (by show 1 ≤ 1000; decide), fun p2 hp2 => ?_⟩
    have u2 := same_new hp2 (.lst [V.int 0])
    have i2 : upd H3 p2 (.lst [V.int 0]) p2 = some (.lst [V.int 0]) := upd_same
    generalize upd H3 p2 (.lst [V.int 0]) = H4 at u2 i2 ⊢
    have lim : 0 ≤ N / 20 / 7 % 2 ∧ N / 20 / 7 % 2 < 2 := by omega
    refine ⟨_, rfl, _, _, rfl, rfl, ⟨by decide, by decide⟩, _, _, rfl, rfl, (by show (0 : Int) < 2; decide), p2, _, _, rfl, rfl, i2, by omega, by omega, small_le (by rw [List.length_singleton]; omega), fun p3 hp3 => ?_⟩
    rw [rep_zero]
    have u3 := same_new hp3 (.lst ((List.replicate (N / 20 / 7 % 2).toNat (0 : Int)).map V.int))
    have i3 : upd H4 p3 (.lst ((List.replicate (N / 20 / 7 % 2).toNat (0 : Int)).map V.int)) p3 = some (.lst ((List.replicate (N / 20 / 7 % 2).toNat (0 : Int)).map V.int)) := upd_same
    generalize upd H4 p3 (.lst ((List.replicate (N / 20 / 7 % 2).toNat (0 : Int)).map V.int)) = H5 at u3 i3 ⊢
    have u13 := u1.trans (u2.trans u3)
    refine ⟨p1, p3, _, _, rfl, rfl, (u2.trans u3) _ _ i1, i3, small_le (by rw [List.length_map, List.length_map, List.length_replicate]; omega), fun p4 hp4 => ?_⟩
    rw [← List.map_append]
    have x5 := x.grow u13
    have fs := x5.fresh hp4
    have ap : ∀ v ∈ kv2, ∃ b : Addr, v = .ref b ∧ b ≠ p4 ∧ b ≠ pk2 := fun v hv => by
      obtain ⟨i, hi⟩ := List.getElem_of_mem hv
      obtain ⟨hi, e⟩ := hi
      have hi2 := List.getElem?_eq_getElem hi
      have hj2 := List.getElem?_eq_getElem (show i < ks2.length by rw [← x.rows.1]; exact hi)
      obtain ⟨b, e2, h3⟩ := x5.rows.2 i _ _ hi2 hj2
      obtain ⟨b', e3, _, n2⟩ := x.apart v hv
      refine ⟨b', e3, ?_, n2⟩
      rw [e, e3] at e2
      injection e2 with e2
      rw [e2]
      exact ne_of_none h3 hp4
    exact ⟨po2, p4, pk2, os2, _, kv2, ks2, o, _, _, _, _, ⟨ho, l62.1, l62.2.2⟩, (x5.grow (same_new hp4 _)).newH upd_same (x5.live _ hp4) fs.2.2 fs.2.1 ap (by rw [List.length_append, List.length_replicate]; omega) (fun z => by omega), rfl⟩
  clear x ho o
  rintro σ3 H3 ⟨po3, ph3, pk3, os3, hs3, kv3, ks3, o, q12, q13, q14, q15, ⟨ho, l43⟩, x, rfl⟩
  -- a number changed
  refine ⟨SpS H a t pp pst pb ph pk k rs.length bs N (fun u _ k => u.length ≤ 40 ∧ k.length ≤ 40 ∧ ∀ js ∈ k, js.length ≤ 40), ?_, ?_⟩
  · refine ⟨fun c H' => H' = H3 ∧ (c = true → (N % 20 = 3 ∨ N % 20 = 4) ∧ 0 < hs3.length), ?_, ?_⟩
    · refine ⟨_, rfl, _, _, rfl, rfl, p20, _, _, 4, rfl, rfl, ⟨rfl, rfl⟩, _, rfl, itB (fun z => ?_) (fun z => ⟨rfl, (fun z => by cases z)⟩)⟩
      rw [Bool.and_eq_true, decide_eq_true_iff, decide_eq_true_iff] at z
      refine ⟨_, rfl, ph3, _, rfl, .inl (SqL.of x.hph), _, _, rfl, rfl, _, rfl, rfl, fun z2 => ⟨by omega, ?_⟩⟩
      have z2 := of_decide_eq_true z2
      rw [List.length_map] at z2
      omega
    rintro c H4 ⟨rfl, hc⟩
    refine itB (fun z => ?_) (fun z => ⟨po3, ph3, pk3, os3, hs3, kv3, ks3, o, _, _, _, _, ⟨ho, l43⟩, x, rfl⟩)
    obtain ⟨c34, lpos⟩ := hc z
    have lb := x.c34 c34
    have lbv := hbv.1
    refine ⟨_, rfl, _, rfl, ph3, _, rfl, .inl (SqL.of x.hph), _, _, rfl, rfl, (by rw [List.length_map]; omega), ?_⟩
    obtain ⟨j, hj, ej⟩ : ∃ j : Nat, j < hs3.length ∧ N / 20 % (((hs3.map V.int).length : Nat) : Int) = (j : Int) := by
      rw [List.length_map]
      have g0 := Int.emod_nonneg (N / 20) (show ((hs3.length : Nat) : Int) ≠ 0 by omega)
      have g1 := Int.emod_lt_of_pos (N / 20) (show (0 : Int) < ((hs3.length : Nat) : Int) by omega)
      exact ⟨(N / 20 % ((hs3.length : Nat) : Int)).toNat, by omega, by omega⟩
    have hzb := List.getElem?_eq_getElem (show j < bs.length by omega)
    have hvb := List.getElem?_eq_getElem (show j < bv.length by omega)
    generalize bs[j] = zb at hzb
    generalize bv[j] = vb at hvb
    obtain ⟨ab, y1, y2, rfl, hab⟩ := hbv.2 j vb zb hvb hzb
    have hpb4 := x.fr _ _ hpb nb1 nb2
    have hab4 := kt x _ _ hab
    have atb : atI bv (N / 20 % (((hs3.map V.int).length : Nat) : Int)) = some (.ref ab) := by
      rw [ej]
      exact atI_nat hvb
    have pw : CPow 10 30 := ⟨by decide, by decide, by decide⟩
    refine ⟨_, rfl, _, rfl, a, ns, _, rfl, frame_seq x.fr ss na1 na2 hSs, h63, fun v => ?_⟩
    refine ⟨_, _, rfl, rfl, pw, _, _, rfl, rfl, mulIn (by decide) (by decide), _, _, rfl, rfl, (by show (0 : Int) < 3 * 10 ^ 30; decide), _, _, rfl, rfl, pw, _, _, rfl, rfl, ?_⟩
    refine ⟨_, rfl, _, rfl, _, rfl, pb, _, _, _, rfl, rfl, SqL.of hpb4, atb, ab, _, _, _, rfl, rfl, SqT.of hab4, rfl, _, rfl, _, rfl, pb, _, _, _, rfl, rfl, SqL.of hpb4, atb, ab, _, _, _, rfl, rfl, SqT.of hab4, rfl, _, _, rfl, rfl, _, rfl, small_le (by show 4 ≤ 1000; decide), fun p5 hp5 => ?_⟩
    obtain ⟨v4, hv4, hat4⟩ := atI_some (xs := [V.int (-1), V.int zb, V.int (zb - 1), V.int (v % (3 * 10 ^ 30) - 10 ^ 30)]) (i := N / 20 / 6 % 4) (by omega) (by show N / 20 / 6 % 4 < 4; omega)
    obtain ⟨w4, rfl⟩ : ∃ w4 : Int, v4 = .int w4 := by
      simp only [List.mem_cons, List.not_mem_nil, or_false] at hv4
      rcases hv4 with rfl | rfl | rfl | rfl <;> exact ⟨_, rfl⟩
    have x5 := x.grow (same_new hp5 (.lst [V.int (-1), V.int zb, V.int (zb - 1), V.int (v % (3 * 10 ^ 30) - 10 ^ 30)]))
    refine ⟨_, rfl, _, _, rfl, rfl, ⟨by decide, by decide⟩, _, _, rfl, rfl, (by show (0 : Int) < 4; decide), p5, _, _, _, rfl, rfl, SqL.of upd_same, hat4, _, rfl, _, rfl, ph3, _, _, j, rfl, rfl, x5.hph, ?_, ?_⟩
    · rw [List.length_map] at ej ⊢
      rw [ej]
      exact ixN_nat hj
    · rw [← List.map_set]
      exact ⟨po3, ph3, pk3, os3, hs3.set j w4, kv3, ks3, o, _, _, _, _, ⟨ho, l43⟩, x5.setH (by rw [List.length_set]), rfl⟩
  clear x ho o l43
  rintro σ4 H4 ⟨po4, ph4, pk4, os4, hs4, kv4, ks4, o, r12, r13, r14, r15, ⟨ho, l44⟩, x, rfl⟩
  -- rows left out, or one more
  refine ⟨SpS H a t pp pst pb ph pk k rs.length bs N (fun u _ k => u.length ≤ 40 ∧ ∀ js ∈ k, js.length ≤ 40), ?_, ?_⟩
  · refine ⟨_, rfl, _, _, rfl, rfl, p20, rfl, _, rfl, itB (fun z => ?_) (fun z => ⟨po4, ph4, pk4, os4, hs4, kv4, ks4, o, _, _, _, _, ⟨ho, l44.1, l44.2.2⟩, x, rfl⟩)⟩
    have c := way z
    have lkv := x.rows.1
    have l44' : ks4.length ≤ 40 := l44.2.1
    obtain ⟨m, em⟩ := cut_to kv4 (N / 20 / 7 % (((kv4.length : Nat) : Int) + 1))
    refine ⟨_, rfl, _, rfl, _, _, rfl, rfl, ⟨by decide, by decide⟩, _, rfl, pk4, _, rfl, .inl (SqL.of x.hpk), _, _, rfl, rfl, _, _, rfl, rfl, (by omega), _, rfl, pk4, _, rfl, SqL.of x.hpk, fun p1 hp1 => ?_⟩
    rw [em]
    have u1 := same_new hp1 (.lst (kv4.take m))
    have i1 : upd H4 p1 (.lst (kv4.take m)) p1 = some (.lst (kv4.take m)) := upd_same
    generalize upd H4 p1 (.lst (kv4.take m)) = H5 at u1 i1 ⊢
    refine ⟨Nat.zero_le _, fun p2 hp2 => ?_⟩
    have u2 := same_new hp2 (.lst [])
    have i2 : upd H5 p2 (.lst []) p2 = some (.lst (natsV [])) := upd_same
    generalize upd H5 p2 (.lst []) = H6 at u2 i2 ⊢
    refine ⟨small_le (by show 1 ≤ 1000; decide), fun p3 hp3 => ?_⟩
    have u3 := same_new hp3 (.lst [V.ref p2])
    have i3 : upd H6 p3 (.lst [V.ref p2]) p3 = some (.lst [V.ref p2]) := upd_same
    generalize upd H6 p3 (.lst [V.ref p2]) = H7 at u3 i3 ⊢
    have lim : 0 ≤ N / 20 % 2 ∧ N / 20 % 2 < 2 := by omega
    refine ⟨_, rfl, _, _, rfl, rfl, (by show (0 : Int) < 2; decide), p3, _, _, rfl, rfl, i3, by omega, by omega, small_le (by rw [List.length_singleton]; omega), fun p4 hp4 => ?_⟩
    rw [rep_one]
    have u4 := same_new hp4 (.lst (List.replicate (N / 20 % 2).toNat (V.ref p2)))
    have i4 : upd H7 p4 (.lst (List.replicate (N / 20 % 2).toNat (V.ref p2))) p4 = some (.lst (List.replicate (N / 20 % 2).toNat (V.ref p2))) := upd_same
    generalize upd H7 p4 (.lst (List.replicate (N / 20 % 2).toNat (V.ref p2))) = H8 at u4 i4 ⊢
    refine ⟨p1, p4, _, _, rfl, rfl, (u2.trans (u3.trans u4)) _ _ i1, i4, small_le (by rw [List.length_take, List.length_replicate]; omega), fun p5 hp5 => ?_⟩
    have x8 := x.grow (u1.trans (u2.trans (u3.trans u4)))
    have fs := x8.fresh hp5
    have u5 := same_new hp5 (.lst (kv4.take m ++ List.replicate (N / 20 % 2).toNat (V.ref p2)))
    have e28 := (u3.trans u4) _ _ i2
    have n2h : p2 ≠ ph4 := fun e => by
      have := (x.grow u1).hph
      rw [← e, hp2] at this
      cases this
    have n2p : p2 ≠ p5 := ne_of_none e28 hp5
    have rT := (x8.rows.mono u5).take m
    have ap : ∀ v ∈ kv4, ∃ b : Addr, v = .ref b ∧ b ≠ ph4 ∧ b ≠ p5 := fun v hv => by
      obtain ⟨i, hi, e⟩ := List.getElem_of_mem hv
      have hi2 := List.getElem?_eq_getElem hi
      have hj2 := List.getElem?_eq_getElem (show i < ks4.length by omega)
      obtain ⟨b, e2, h3⟩ := x8.rows.2 i _ _ hi2 hj2
      obtain ⟨b', e3, n1, _⟩ := x.apart v hv
      refine ⟨b', e3, n1, ?_⟩
      rw [e, e3] at e2
      injection e2 with e2
      rw [e2]
      exact ne_of_none h3 hp5
    have c01 : (N / 20 % 2).toNat = 0 ∨ (N / 20 % 2).toNat = 1 := by omega
    have ltk : (ks4.take m).length ≤ 40 := by rw [List.length_take]; omega
    rcases c01 with e | e
    · rw [e] at u5 rT ⊢
      refine ⟨po4, ph4, p5, os4, hs4, _, ks4.take m, o, _, _, _, _, ⟨ho, l44.1, fun js hj => l44.2.2 js (List.mem_of_mem_take hj)⟩, (x8.grow u5).newK upd_same (x8.live _ hp5) fs.2.2 (Ne.symm fs.1) (by rw [List.replicate_zero, List.append_nil]; rw [List.replicate_zero, List.append_nil] at rT; exact rT) (by omega) (fun js hj => x.kb js (List.mem_of_mem_take hj)) (fun v hv => ?_) (fun z => by omega), rfl⟩
      rw [List.replicate_zero, List.append_nil] at hv
      exact ap v (List.mem_of_mem_take hv)
    · rw [e] at u5 rT ⊢
      refine ⟨po4, ph4, p5, os4, hs4, _, ks4.take m ++ [[]], o, _, _, _, _, ⟨ho, l44.1, fun js hj => by
        rcases List.mem_append.mp hj with hj | hj
        · exact l44.2.2 js (List.mem_of_mem_take hj)
        · rw [List.mem_singleton.mp hj]
          exact Nat.zero_le _⟩, (x8.grow u5).newK upd_same (x8.live _ hp5) fs.2.2 (Ne.symm fs.1) (rT.snoc (u5 _ _ e28)) (by rw [List.length_append, List.length_singleton]; omega) (fun js hj => ?_) (fun v hv => ?_) (fun z => by omega), rfl⟩
      · rcases List.mem_append.mp hj with hj | hj
        · exact x.kb js (List.mem_of_mem_take hj)
        · rw [List.mem_singleton.mp hj]
          exact ⟨(fun g h => by cases h), Nat.zero_le _⟩
      · rcases List.mem_append.mp hv with hv | hv
        · exact ap v (List.mem_of_mem_take hv)
        · exact ⟨p2, List.mem_singleton.mp hv, n2h, n2p⟩
  clear x ho o l44
  rintro σ5 H5 ⟨po5, ph5, pk5, os5, hs5, kv5, ks5, o, s12, s13, s14, s15, ⟨ho, l45⟩, x, rfl⟩
  -- a row changed
  refine ⟨SpS H a t pp pst pb ph pk k rs.length bs N (fun u _ _ => u.length ≤ 40), ?_, ?_⟩
  · refine ⟨_, rfl, _, _, rfl, rfl, p20, _, _, 9, rfl, rfl, ⟨rfl, rfl⟩, _, rfl, itB (fun z => ?_) (fun z => ⟨po5, ph5, pk5, os5, hs5, kv5, ks5, o, _, _, _, _, ⟨ho, l45.1⟩, x, rfl⟩)⟩
    rw [Bool.and_eq_true, decide_eq_true_iff, decide_eq_true_iff] at z
    have lk := x.c69 (by omega)
    have lkv := x.rows.1
    refine ⟨_, rfl, t, _, rfl, .inr (SqT.of (kt x _ _ htr)), _, rfl, by omega, by omega, ?_⟩
    refine comp_range (fun i acc H' => H' = H5 ∧ ∃ js : List Nat, acc = natsV js ∧ js.length ≤ i ∧ ∀ g ∈ js, g < i) ⟨rfl, [], rfl, Nat.le_refl _, (fun g h => by cases h)⟩ (fun i acc H' hi ⟨e1, js, e2, e3, e4⟩ => ?_) (fun acc H' ⟨e1, js, e2, e3, e4⟩ p6 hp6 => ?_)
    · subst e1 e2
      obtain ⟨rv', a2, xr, ht2, hl2, hx2, hat2, ha2⟩ := (hR.mono (kt x)).at (show i < rs.length by omega)
      refine ⟨_, rfl, _, rfl, t, _, _, _, rfl, rfl, SqT.of ht2, (by rw [Int.zero_add]; exact hat2), a2, _, _, _, rfl, rfl, SqT.of ha2, rfl, rfl, _, rfl, itB (fun _ => ?_) (fun _ => ⟨rfl, js, rfl, by omega, fun g hg => by have := e4 g hg; omega⟩)⟩
      refine ⟨_, rfl, small1000 (by rw [natsV_len]; omega), rfl, js ++ [i], ?_, by rw [List.length_append, List.length_singleton]; omega, fun g hg => ?_⟩
      · rw [← natsV_app, Int.zero_add]
      · rcases List.mem_append.mp hg with h | h
        · have := e4 g h
          omega
        · rw [List.mem_singleton.mp h]
          omega
    subst e1 e2
    have u6 := same_new hp6 (.lst (natsV js))
    have i6 : upd H' p6 (.lst (natsV js)) p6 = some (.lst (natsV js)) := upd_same
    generalize upd H' p6 (.lst (natsV js)) = H6 at u6 i6 ⊢
    have x6 := x.grow u6
    refine ⟨fun σ' H2 => ∃ o' : Nat, o' < rs.length ∧ H2 = H6 ∧ σ' = [some (.ref a), some (.ref t), some (.ref pp), some (.int (0 + (k : Int))), some (.ref pst), some (.ref pb), some (.int N), some (.int (N / 20)), some (.ref po5), some (.ref ph5), some (.ref pk5), some (.int (o' : Int)), s12, s13, some (.ref p6), s15], ?_, ?_⟩
    · refine ⟨fun c H2 => H2 = H6 ∧ (c = true → 0 < js.length), ?_, ?_⟩
      · refine ⟨_, rfl, _, _, rfl, rfl, (by show (0 : Int) < 2; decide), rfl, _, rfl, itB (fun _ => ⟨_, rfl, p6, _, rfl, .inl (SqL.of i6), _, _, rfl, rfl, _, rfl, rfl, fun z2 => ?_⟩) (fun _ => ⟨rfl, (fun z => by cases z)⟩)⟩
        have z2 := of_decide_eq_true z2
        rw [natsV_len] at z2
        omega
      rintro c H2 ⟨rfl, hc⟩
      refine itB (fun z2 => ?_) (fun _ => ⟨o, ho, rfl, rfl⟩)
      have lp := hc z2
      obtain ⟨j, hj, ej⟩ : ∃ j : Nat, j < js.length ∧ N / 20 % (((natsV js).length : Nat) : Int) = (j : Int) := by
        rw [natsV_len]
        have g0 := Int.emod_nonneg (N / 20) (show ((js.length : Nat) : Int) ≠ 0 by omega)
        have g1 := Int.emod_lt_of_pos (N / 20) (show (0 : Int) < ((js.length : Nat) : Int) by omega)
        exact ⟨(N / 20 % ((js.length : Nat) : Int)).toNat, by omega, by omega⟩
      have atj : atI (natsV js) (N / 20 % (((natsV js).length : Nat) : Int)) = some (.int ((js[j] : Nat) : Int)) := by
        rw [ej]
        exact K14.nats_lt js hj
      refine ⟨_, rfl, _, rfl, _, rfl, p6, _, rfl, .inl (SqL.of i6), _, _, rfl, rfl, (by rw [natsV_len]; omega), p6, _, _, _, rfl, rfl, SqL.of i6, atj, ?_⟩
      have := e4 _ (List.getElem_mem hj)
      exact ⟨js[j], by omega, rfl, rfl⟩
    rintro σ6 H6' ⟨o', ho', rfl, rfl⟩
    refine ⟨_, rfl, _, rfl, _, rfl, _, rfl, _, rfl, _, _, rfl, rfl, a, t, pp, ns, depths rs, rs, o', 140 + (0 + (k : Int)), rfl, frame_seq x6.fr ss na1 na2 hSs, h63, hR.mono (kt x6), x6.fr _ _ hpp np1 np2, ld, ho', h40, ⟨by omega, by omega⟩, fun p7 os7 H7 s7 hp7 hos7 los7 => ?_⟩
    refine ⟨p7, rfl, ⟨_, SqL.of hp7⟩, ?_⟩
    have x7 := x6.grow s7
    refine comp_list (K := K) (a := p7) (xs := natsV os7) (fun j acc H' => H' = H7 ∧ ∃ gs : List Nat, acc = natsV gs ∧ gs.length ≤ j ∧ ∀ g ∈ gs, g < rs.length) ⟨rfl, [], rfl, Nat.le_refl _, (fun g h => by cases h)⟩ (fun j acc H' ⟨e, _⟩ => by subst e; exact SqL.of hp7) (fun j y acc H' hy ⟨e1, gs, e2, e3, e4⟩ => ?_) (fun acc H' ⟨e1, gs, e2, e3, e4⟩ p8 hp8 => ?_)
    · subst e1 e2
      obtain ⟨hj, rfl⟩ := natsV_get hy
      have hlt := hos7 _ (List.getElem_mem hj)
      obtain ⟨rv', a2, xr, ht2, hl2, hx2, hat2, ha2⟩ := (hR.mono (kt x7)).at hlt
      refine ⟨_, rfl, _, rfl, t, _, _, _, rfl, rfl, SqT.of ht2, hat2, a2, _, _, _, rfl, rfl, SqT.of ha2, rfl, rfl, _, rfl, itB (fun _ => ?_) (fun _ => ⟨rfl, gs, rfl, by omega, e4⟩)⟩
      refine ⟨_, rfl, small1000 (by rw [natsV_len]; omega), rfl, gs ++ [os7[j]], natsV_app _ _, by rw [List.length_append, List.length_singleton]; omega, fun g hg => ?_⟩
      rcases List.mem_append.mp hg with hg | hg
      · exact e4 g hg
      · rw [List.mem_singleton.mp hg]
        exact hlt
    subst e1 e2
    rw [natsV_len] at e3
    have f8 := x7.fresh hp8
    have u8 := same_new hp8 (.lst (natsV gs))
    have i8 : upd H' p8 (.lst (natsV gs)) p8 = some (.lst (natsV gs)) := upd_same
    generalize upd H' p8 (.lst (natsV gs)) = H8 at u8 i8 ⊢
    have x8 := x7.grow u8
    have hvk := List.getElem?_eq_getElem (show o' < kv5.length by omega)
    have hjk := List.getElem?_eq_getElem (show o' < ks5.length by omega)
    have hmk := List.getElem_mem (show o' < ks5.length by omega)
    generalize kv5[o'] = vk at hvk
    generalize ks5[o'] = jk at hjk hmk
    obtain ⟨b, rfl, hb⟩ := x8.rows.2 o' vk jk hvk hjk
    have kbj := x.kb jk hmk
    obtain ⟨o2, ho2, eo2⟩ : ∃ o2 : Nat, o2 < rs.length ∧ N / 20 / 300 % ((rv.length : Nat) : Int) = (o2 : Int) := by
      have g0 := Int.emod_nonneg (N / 20 / 300) (show ((rv.length : Nat) : Int) ≠ 0 by omega)
      have g1 := Int.emod_lt_of_pos (N / 20 / 300) (show (0 : Int) < ((rv.length : Nat) : Int) by omega)
      exact ⟨(N / 20 / 300 % ((rv.length : Nat) : Int)).toNat, by omega, by omega⟩
    refine ⟨_, rfl, _, rfl, pk5, _, _, _, rfl, rfl, SqL.of x8.hpk, atI_nat hvk, _, rfl, _, _, rfl, rfl, ⟨by decide, by decide⟩, _, rfl, _, _, rfl, rfl, ⟨by decide, by decide⟩, _, rfl, t, _, rfl, .inr (SqT.of (kt x8 _ _ htr)), _, _, rfl, rfl, (by omega), _, rfl, ?_⟩
    refine ⟨b, p8, jk, gs, N / 20 / 41, rs.length, o2, (by rw [← eo2]; rfl), hb, i8, kbj.1, e4, ho2, l45.2 jk hmk, by omega, fun p9 js9 H9 s9 new9 hp9 hg9 lg9 => ?_⟩
    have x9 := x8.grow s9
    have n9 : p9 ≠ ph5 ∧ p9 ≠ pk5 := by
      rcases new9 with rfl | h
      · exact ⟨f8.1, f8.2.1⟩
      · exact ⟨(x8.fresh h).1, (x8.fresh h).2.1⟩
    refine ⟨_, rfl, _, rfl, pk5, _, _, o', rfl, rfl, x9.hpk, ixN_nat (by omega), ?_⟩
    exact ⟨po5, ph5, pk5, os5, hs5, _, _, o', _, _, _, _, ⟨ho', l45.1⟩, x9.setK (by omega) hp9 n9.1 n9.2 ⟨hg9, lg9⟩, rfl⟩
  clear x ho o l45
  rintro σ6 H6 ⟨po6, ph6, pk6, os6, hs6, kv6, ks6, o, t12, t13, t14, t15, ⟨ho, l46⟩, x, rfl⟩
  -- two rooms in each other's place
  refine ⟨SpS H a t pp pst pb ph pk k rs.length bs N (fun u _ _ => N % 20 = 10 ∨ u.length ≤ 40), ?_, ?_⟩
  · refine ⟨fun c H' => H' = H6 ∧ (c = true → N % 20 = 10 ∧ 1 < os6.length), ?_, ?_⟩
    · refine ⟨_, rfl, _, _, rfl, rfl, p20, rfl, _, rfl, itB (fun z => ⟨_, rfl, po6, _, rfl, .inl (SqL.of x.hpo), _, _, rfl, rfl, _, rfl, rfl, fun z2 => ⟨way z, ?_⟩⟩) (fun _ => ⟨rfl, (fun z => by cases z)⟩)⟩
      have z2 := of_decide_eq_true z2
      rw [natsV_len] at z2
      omega
    rintro c H7 ⟨rfl, hc⟩
    refine itB (fun z => ?_) (fun z => ⟨po6, ph6, pk6, os6, hs6, kv6, ks6, o, _, _, _, _, ⟨ho, .inr l46⟩, x, rfl⟩)
    obtain ⟨c10, lo⟩ := hc z
    have ol : os6.length ≤ 40 := l46
    refine ⟨_, rfl, _, rfl, po6, _, rfl, .inl (SqL.of x.hpo), _, _, rfl, rfl, _, _, rfl, rfl, (by rw [natsV_len]; omega), ?_⟩
    obtain ⟨j, hj, ej⟩ : ∃ j : Nat, j + 1 < os6.length ∧ N / 20 % ((((natsV os6).length : Nat) : Int) - 1) = (j : Int) := by
      rw [natsV_len]
      have g0 := Int.emod_nonneg (N / 20) (show ((os6.length : Nat) : Int) - 1 ≠ 0 by omega)
      have g1 := Int.emod_lt_of_pos (N / 20) (show (0 : Int) < ((os6.length : Nat) : Int) - 1 by omega)
      exact ⟨(N / 20 % (((os6.length : Nat) : Int) - 1)).toNat, by omega, by omega⟩
    have a0 : atI (natsV os6) (N / 20 % ((((natsV os6).length : Nat) : Int) - 1)) = some (.int ((os6[j] : Nat) : Int)) := by
      rw [ej]
      exact K14.nats_lt os6 (by omega)
    have a1 : atI (natsV os6) (N / 20 % ((((natsV os6).length : Nat) : Int) - 1) + 1) = some (.int ((os6[j + 1] : Nat) : Int)) := by
      rw [ej, show (j : Int) + 1 = ((j + 1 : Nat) : Int) by omega]
      exact K14.nats_lt os6 hj
    obtain ⟨cs, e1, l1, m1⟩ := cut_any os6 none (some (N / 20 % ((((natsV os6).length : Nat) : Int) - 1)))
    obtain ⟨ds, e2, l2, m2⟩ := cut_any os6 (some (N / 20 % ((((natsV os6).length : Nat) : Int) - 1) + 2)) none
    refine ⟨_, rfl, _, rfl, _, rfl, po6, _, rfl, SqL.of x.hpo, fun p1 hp1 => ?_⟩
    rw [e1]
    have u1 := same_new hp1 (.lst (natsV cs))
    have i1 : upd H7 p1 (.lst (natsV cs)) p1 = some (.lst (natsV cs)) := upd_same
    generalize upd H7 p1 (.lst (natsV cs)) = H8 at u1 i1 ⊢
    refine ⟨_, rfl, _, rfl, _, _, rfl, rfl, po6, _, _, _, rfl, rfl, SqL.of (u1 _ _ x.hpo), a1, _, rfl, _, rfl, po6, _, _, _, rfl, rfl, SqL.of (u1 _ _ x.hpo), a0, small_le (by show 2 ≤ 1000; decide), fun p2 hp2 => ?_⟩
    have u2 := same_new hp2 (.lst [V.int ((os6[j + 1] : Nat) : Int), V.int ((os6[j] : Nat) : Int)])
    have i2 : upd H8 p2 (.lst [V.int ((os6[j + 1] : Nat) : Int), V.int ((os6[j] : Nat) : Int)]) p2 = some (.lst (natsV [os6[j + 1], os6[j]])) := upd_same
    generalize upd H8 p2 (.lst [V.int ((os6[j + 1] : Nat) : Int), V.int ((os6[j] : Nat) : Int)]) = H9 at u2 i2 ⊢
    refine ⟨p1, p2, _, _, rfl, rfl, u2 _ _ i1, i2, small_le (by rw [natsV_len, natsV_len]; show _ + 2 ≤ _; omega), fun p3 hp3 => ?_⟩
    rw [nats_cat]
    have u3 := same_new hp3 (.lst (natsV (cs ++ [os6[j + 1], os6[j]])))
    have i3 : upd H9 p3 (.lst (natsV (cs ++ [os6[j + 1], os6[j]]))) p3 = some (.lst (natsV (cs ++ [os6[j + 1], os6[j]]))) := upd_same
    generalize upd H9 p3 (.lst (natsV (cs ++ [os6[j + 1], os6[j]]))) = H10 at u3 i3 ⊢
    have s3 := u1.trans (u2.trans u3)
    refine ⟨_, rfl, _, rfl, _, _, rfl, rfl, _, rfl, po6, _, rfl, SqL.of (s3 _ _ x.hpo), fun p4 hp4 => ?_⟩
    rw [e2]
    have u4 := same_new hp4 (.lst (natsV ds))
    have i4 : upd H10 p4 (.lst (natsV ds)) p4 = some (.lst (natsV ds)) := upd_same
    generalize upd H10 p4 (.lst (natsV ds)) = H11 at u4 i4 ⊢
    refine ⟨p3, p4, _, _, rfl, rfl, u4 _ _ i3, i4, small_le (by rw [natsV_len, natsV_len, List.length_append]; show _ + 2 + _ ≤ _; omega), fun p5 hp5 => ?_⟩
    rw [nats_cat]
    have x11 := x.grow (s3.trans u4)
    have fs := x11.fresh hp5
    refine ⟨p5, ph6, pk6, _, hs6, kv6, ks6, o, _, _, _, _, ⟨ho, .inl c10⟩, (x11.grow (same_new hp5 _)).newO upd_same fs.1 fs.2.1 (fun g hg => ?_) (by rw [List.length_append, List.length_append]; show _ + 2 + _ ≤ _; omega) (fun z => by omega), rfl⟩
    rcases List.mem_append.mp hg with hg | hg
    · rcases List.mem_append.mp hg with hg | hg
      · exact x.osl g (m1 g hg)
      · simp only [List.mem_cons, List.not_mem_nil, or_false] at hg
        rcases hg with rfl | rfl
        · exact x.osl _ (List.getElem_mem hj)
        · exact x.osl _ (List.getElem_mem _)
    · exact x.osl g (m2 g hg)
  clear x ho o l46
  rintro σ7 H7 ⟨po7, ph7, pk7, os7, hs7, kv7, ks7, o, v12, v13, v14, v15, ⟨ho, l47⟩, x, rfl⟩
  -- a room twice
  refine ⟨SpS H a t pp pst pb ph pk k rs.length bs N (fun _ _ _ => True), ?_, ?_⟩
  · refine ⟨_, rfl, _, _, rfl, rfl, p20, rfl, _, rfl, itB (fun z => ?_) (fun z => ⟨po7, ph7, pk7, os7, hs7, kv7, ks7, o, _, _, _, _, ⟨ho, trivial⟩, x, rfl⟩)⟩
    have c := way z
    have lpos := x.c11 c
    have ol : os7.length ≤ 40 := l47.resolve_left (by omega)
    refine ⟨_, rfl, _, rfl, po7, _, rfl, .inl (SqL.of x.hpo), _, _, rfl, rfl, (by rw [natsV_len]; omega), ?_⟩
    obtain ⟨j, hj, ej⟩ : ∃ j : Nat, j < os7.length ∧ N / 20 % (((natsV os7).length : Nat) : Int) = (j : Int) := by
      rw [natsV_len]
      have g0 := Int.emod_nonneg (N / 20) (show ((os7.length : Nat) : Int) ≠ 0 by omega)
      have g1 := Int.emod_lt_of_pos (N / 20) (show (0 : Int) < ((os7.length : Nat) : Int) by omega)
      exact ⟨(N / 20 % ((os7.length : Nat) : Int)).toNat, by omega, by omega⟩
    have a0 : atI (natsV os7) (N / 20 % (((natsV os7).length : Nat) : Int)) = some (.int ((os7[j] : Nat) : Int)) := by
      rw [ej]
      exact K14.nats_lt os7 hj
    obtain ⟨cs, e1, l1, m1⟩ := cut_any os7 none (some (N / 20 % (((natsV os7).length : Nat) : Int)))
    obtain ⟨ds, e2, l2, m2⟩ := cut_any os7 (some (N / 20 % (((natsV os7).length : Nat) : Int))) none
    refine ⟨_, rfl, _, rfl, _, rfl, po7, _, rfl, SqL.of x.hpo, fun p1 hp1 => ?_⟩
    rw [e1]
    have u1 := same_new hp1 (.lst (natsV cs))
    have i1 : upd H7 p1 (.lst (natsV cs)) p1 = some (.lst (natsV cs)) := upd_same
    generalize upd H7 p1 (.lst (natsV cs)) = H8 at u1 i1 ⊢
    refine ⟨_, rfl, _, rfl, po7, _, _, _, rfl, rfl, SqL.of (u1 _ _ x.hpo), a0, small_le (by show 1 ≤ 1000; decide), fun p2 hp2 => ?_⟩
    have u2 := same_new hp2 (.lst [V.int ((os7[j] : Nat) : Int)])
    have i2 : upd H8 p2 (.lst [V.int ((os7[j] : Nat) : Int)]) p2 = some (.lst (natsV [os7[j]])) := upd_same
    generalize upd H8 p2 (.lst [V.int ((os7[j] : Nat) : Int)]) = H9 at u2 i2 ⊢
    refine ⟨p1, p2, _, _, rfl, rfl, u2 _ _ i1, i2, small_le (by rw [natsV_len, natsV_len]; show _ + 1 ≤ _; omega), fun p3 hp3 => ?_⟩
    rw [nats_cat]
    have u3 := same_new hp3 (.lst (natsV (cs ++ [os7[j]])))
    have i3 : upd H9 p3 (.lst (natsV (cs ++ [os7[j]]))) p3 = some (.lst (natsV (cs ++ [os7[j]]))) := upd_same
    generalize upd H9 p3 (.lst (natsV (cs ++ [os7[j]]))) = H10 at u3 i3 ⊢
    have s3 := u1.trans (u2.trans u3)
    refine ⟨_, rfl, _, rfl, _, rfl, po7, _, rfl, SqL.of (s3 _ _ x.hpo), fun p4 hp4 => ?_⟩
    rw [e2]
    have u4 := same_new hp4 (.lst (natsV ds))
    have i4 : upd H10 p4 (.lst (natsV ds)) p4 = some (.lst (natsV ds)) := upd_same
    generalize upd H10 p4 (.lst (natsV ds)) = H11 at u4 i4 ⊢
    refine ⟨p3, p4, _, _, rfl, rfl, u4 _ _ i3, i4, small_le (by rw [natsV_len, natsV_len, List.length_append]; show _ + 1 + _ ≤ _; omega), fun p5 hp5 => ?_⟩
    rw [nats_cat]
    have x11 := x.grow (s3.trans u4)
    have fs := x11.fresh hp5
    refine ⟨p5, ph7, pk7, _, hs7, kv7, ks7, o, _, _, _, _, ⟨ho, trivial⟩, (x11.grow (same_new hp5 _)).newO upd_same fs.1 fs.2.1 (fun g hg => ?_) (by rw [List.length_append, List.length_append]; show _ + 1 + _ ≤ _; omega) (fun _ => by rw [List.length_append, List.length_append]; show 0 < _ + 1 + _; omega), rfl⟩
    rcases List.mem_append.mp hg with hg | hg
    · rcases List.mem_append.mp hg with hg | hg
      · exact x.osl g (m1 g hg)
      · rw [List.mem_singleton.mp hg]
        exact x.osl _ (List.getElem_mem hj)
    · exact x.osl g (m2 g hg)
  clear x ho o l47
  rintro σ8 H8 ⟨po8, ph8, pk8, os8, hs8, kv8, ks8, o, w12, w13, w14, w15, ⟨ho, _⟩, x, rfl⟩
  -- less of the opening
  refine ⟨SpS H a t pp pst pb ph pk k rs.length bs N (fun _ _ _ => True), ?_, ?_⟩
  · refine ⟨_, rfl, _, _, rfl, rfl, p20, rfl, _, rfl, itB (fun z => ?_) (fun z => ⟨po8, ph8, pk8, os8, hs8, kv8, ks8, o, _, _, _, _, ⟨ho, trivial⟩, x, rfl⟩)⟩
    have c := way z
    have ol := x.olen
    obtain ⟨cs, e1, l1, m1⟩ := cut_any os8 (some 1) none
    obtain ⟨ds, e2, l2, m2⟩ := cut_any os8 none (some 1)
    refine ⟨Nat.zero_le _, fun p0 hp0 => ?_⟩
    have u0 := same_new hp0 (.lst [])
    have i0 : upd H8 p0 (.lst []) p0 = some (.lst (natsV [])) := upd_same
    generalize upd H8 p0 (.lst []) = H9 at u0 i0 ⊢
    refine ⟨_, rfl, _, rfl, po8, _, rfl, SqL.of (u0 _ _ x.hpo), fun p1 hp1 => ?_⟩
    rw [e1]
    have u1 := same_new hp1 (.lst (natsV cs))
    have i1 : upd H9 p1 (.lst (natsV cs)) p1 = some (.lst (natsV cs)) := upd_same
    generalize upd H9 p1 (.lst (natsV cs)) = H10 at u1 i1 ⊢
    refine ⟨_, rfl, _, rfl, po8, _, rfl, SqL.of ((u0.trans u1) _ _ x.hpo), fun p2 hp2 => ?_⟩
    rw [e2]
    have u2 := same_new hp2 (.lst (natsV ds))
    have i2 : upd H10 p2 (.lst (natsV ds)) p2 = some (.lst (natsV ds)) := upd_same
    generalize upd H10 p2 (.lst (natsV ds)) = H11 at u2 i2 ⊢
    refine ⟨small_le (by show 3 ≤ 1000; decide), fun p3 hp3 => ?_⟩
    have u3 := same_new hp3 (.lst [V.ref p0, V.ref p1, V.ref p2])
    have i3 : upd H11 p3 (.lst [V.ref p0, V.ref p1, V.ref p2]) p3 = some (.lst [V.ref p0, V.ref p1, V.ref p2]) := upd_same
    generalize upd H11 p3 (.lst [V.ref p0, V.ref p1, V.ref p2]) = H12 at u3 i3 ⊢
    have x12 := x.grow (u0.trans (u1.trans (u2.trans u3)))
    have f0 := x.fresh hp0
    have f1 := (x.grow u0).fresh hp1
    have f2 := (x.grow (u0.trans u1)).fresh hp2
    obtain ⟨v4, hv4, hat4⟩ := atI_some (xs := [V.ref p0, V.ref p1, V.ref p2]) (i := N / 20 % 3) (by omega) (by show N / 20 % 3 < 3; omega)
    refine ⟨_, rfl, _, _, rfl, rfl, (by show (0 : Int) < 3; decide), p3, _, _, _, rfl, rfl, SqL.of i3, hat4, ?_⟩
    simp only [List.mem_cons, List.not_mem_nil, or_false] at hv4
    rcases hv4 with rfl | rfl | rfl
    · exact ⟨p0, ph8, pk8, [], hs8, kv8, ks8, o, _, _, _, _, ⟨ho, trivial⟩, x12.newO ((u1.trans (u2.trans u3)) _ _ i0) f0.1 f0.2.1 (fun g hg => by cases hg) (Nat.zero_le _) (fun z => by omega), rfl⟩
    · exact ⟨p1, ph8, pk8, cs, hs8, kv8, ks8, o, _, _, _, _, ⟨ho, trivial⟩, x12.newO ((u2.trans u3) _ _ i1) f1.1 f1.2.1 (fun g hg => x.osl g (m1 g hg)) (by omega) (fun z => by omega), rfl⟩
    · exact ⟨p2, ph8, pk8, ds, hs8, kv8, ks8, o, _, _, _, _, ⟨ho, trivial⟩, x12.newO (u3 _ _ i2) f2.1 f2.2.1 (fun g hg => x.osl g (m2 g hg)) (by omega) (fun z => by omega), rfl⟩
  clear x ho o
  rintro σ9 H9 ⟨po9, ph9, pk9, os9, hs9, kv9, ks9, o, w12, w13, w14, w15, ⟨ho, _⟩, x, rfl⟩
  refine ⟨_, rfl, _, rfl, _, rfl, small_le (by show 3 ≤ 1000; decide), fun p hp => ?_⟩
  exact q p po9 ph9 pk9 os9 hs9 kv9 ks9 N _ (x.grow (same_new hp _)) (x.live _ hp) upd_same
end
end K18

namespace K18
open PySem L2 Mix Gds Rms Prg
/-! k18: the law -/
theorem kit_bb (K : PySem.W.Frag) : PySem.W.kitOne K (.type "bool") (.type "bool") = some true := by rfl
theorem BxsIn.snoc {H : Hp} {bv : List V} {bs : List Int} {a : Addr} {x y : V} {z : Int} (b : BxsIn H bv bs) (h : H a = some (.tup [x, .int z, y])) : BxsIn H (bv ++ [.ref a]) (bs ++ [z]) := by
  refine ⟨by rw [List.length_append, List.length_append, b.1]; rfl, fun i v w h1 h2 => ?_⟩
  by_cases c : i < bv.length
  · rw [List.getElem?_append_left c] at h1
    rw [List.getElem?_append_left (by rw [← b.1]; exact c)] at h2
    exact b.2 i v w h1 h2
  · have l := b.1
    have hi := (List.getElem?_eq_some_iff.mp h1).1
    rw [List.length_append, List.length_singleton] at hi
    obtain rfl : i = bv.length := by omega
    rw [List.getElem?_append_right (Nat.le_refl _), Nat.sub_self] at h1
    rw [l, List.getElem?_append_right (Nat.le_refl _), Nat.sub_self] at h2
    obtain rfl := Option.some.inj h1
    obtain rfl := Option.some.inj h2
    exact ⟨a, x, y, rfl, h⟩
theorem RowsT.snoc {H : Hp} {kv : List V} {ks : List (List Nat)} {a : Addr} {js : List Nat} (x : RowsT H kv ks) (h : H a = some (.tup (natsV js))) : RowsT H (kv ++ [.ref a]) (ks ++ [js]) := by
  refine ⟨by rw [List.length_append, List.length_append, x.1]; rfl, fun i v z h1 h2 => ?_⟩
  have l := x.1
  by_cases c : i < kv.length
  · rw [List.getElem?_append_left c] at h1
    rw [List.getElem?_append_left (by omega)] at h2
    exact x.2 i v z h1 h2
  · have hi := (List.getElem?_eq_some_iff.mp h1).1
    rw [List.length_append, List.length_singleton] at hi
    obtain rfl : i = kv.length := by omega
    rw [List.getElem?_append_right (Nat.le_refl _), Nat.sub_self] at h1
    rw [l, List.getElem?_append_right (Nat.le_refl _), Nat.sub_self] at h2
    obtain rfl := Option.some.inj h1
    obtain rfl := Option.some.inj h2
    exact ⟨a, rfl, h⟩
def rTupOf (K : PySem.W.Frag) : List V → Hp → (V → Hp → Prop) → Prop := fun xs H Q => ∃ p ys, xs = [V.ref p] ∧ ((SqL K H p ys ∧ ∀ l : Addr, H l = none → Q (.ref l) (upd H l (.tup ys))) ∨ SqT K H p ys ∧ Q (.ref p) H)
def spLaw (K : PySem.W.Frag) : Sp := fun vs H Q _ => ∃ (a : Addr) (ns : List Int), vs = [.ref a] ∧ SqL K H a (ns.map V.int) ∧ ns.length ≤ 63 ∧ ∀ H', Q (.bl true) H'
section
variable {P : Program} {w : World} {K : PySem.W.Frag} {mg : Str → Option Value} {base : Heap}
theorem sc_law : FnScope ["_law_script", "_law_rooms_here", "_law_parents_here", "_law_boxes", "_law_k", "_law_number", "_law_size", "_law_chart", "_law_held", "_law_stand", "_law_opening_here", "_law_kept_here", "_law_found"] ["_law_script"] (defScope sLawF) := ⟨rfl, rfl, rfl, by decide +kernel, rfl, by decide +kernel, by decide +kernel⟩
theorem ok_law {n : Nat} {f g1 g2 g3 g4 g5 g6 g7 g8 g9 g10 : Addr} {fd d1 d2 d3 d4 d5 d6 d7 d8 d9 d10 : FuncData} (F : Fun K "law" "law" sLawF f fd)
    (G_law_rooms : FnOk P w K mg base CX0 n g1 d1 ["_law_script", "_law_depths"] (spRooms K)) (b_law_rooms : Binds K d1 ["_law_script", "_law_depths"] []) (k_law_rooms : PySem.W.keepIn K (.ref g1) = true) (m_law_rooms : mg "_law_rooms" = some (.ref g1))
    (G_law_tree : FnOk P w K mg base CX0 n g2 d2 ["_law_script", "_law_salt"] (spTree K)) (b_law_tree : Binds K d2 ["_law_script", "_law_salt"] []) (k_law_tree : PySem.W.keepIn K (.ref g2) = true) (m_law_tree : mg "_law_tree" = some (.ref g2))
    (G_law_parents : FnOk P w K mg base CX0 n g3 d3 ["_law_depths"] spParents) (b_law_parents : Binds K d3 ["_law_depths"] []) (k_law_parents : PySem.W.keepIn K (.ref g3) = true) (m_law_parents : mg "_law_parents" = some (.ref g3))
    (G_law_mixed : FnOk P w K mg base CX0 n g4 d4 ["_law_script", "_law_k", "_law_salt"] (spMixed K)) (b_law_mixed : Binds K d4 ["_law_script", "_law_k", "_law_salt"] []) (k_law_mixed : PySem.W.keepIn K (.ref g4) = true) (m_law_mixed : mg "_law_mixed" = some (.ref g4))
    (G_law_cell_at : FnOk P w K mg base CX0 n g5 d5 ["_law_script", "_law_k"] (spCell K)) (b_law_cell_at : Binds K d5 ["_law_script", "_law_k"] []) (k_law_cell_at : PySem.W.keepIn K (.ref g5) = true) (m_law_cell_at : mg "_law_cell_at" = some (.ref g5))
    (G_law_opening : FnOk P w K mg base CX0 n g6 d6 ["_law_script", "_law_rooms_here", "_law_parents_here", "_law_salt"] (spOpening K)) (b_law_opening : Binds K d6 ["_law_script", "_law_rooms_here", "_law_parents_here", "_law_salt"] []) (k_law_opening : PySem.W.keepIn K (.ref g6) = true) (m_law_opening : mg "_law_opening" = some (.ref g6))
    (G_law_kept : FnOk P w K mg base CX0 n g7 d7 ["_law_script", "_law_rooms_here", "_law_parents_here", "_law_k"] (spKept K)) (b_law_kept : Binds K d7 ["_law_script", "_law_rooms_here", "_law_parents_here", "_law_k"] []) (k_law_kept : PySem.W.keepIn K (.ref g7) = true) (m_law_kept : mg "_law_kept" = some (.ref g7))
    (G_law_spoiled : FnOk P w K mg base CX0 n g8 d8 ["_law_script", "_law_rooms_here", "_law_parents_here", "_law_k", "_law_stand", "_law_boxes"] (spSpoiled K)) (b_law_spoiled : Binds K d8 ["_law_script", "_law_rooms_here", "_law_parents_here", "_law_k", "_law_stand", "_law_boxes"] []) (k_law_spoiled : PySem.W.keepIn K (.ref g8) = true) (m_law_spoiled : mg "_law_spoiled" = some (.ref g8))
    (G_is_stand : FnOk P w K mg base CX0 n g9 d9 ["chart", "stand"] spIsStand) (b_is_stand : Binds K d9 ["chart", "stand"] []) (k_is_stand : PySem.W.keepIn K (.ref g9) = true) (m_is_stand : mg "is_stand" = some (.ref g9))
    (G_law_due : FnOk P w K mg base CX0 n g10 d10 ["_law_chart", "_law_parents_here", "_law_opening_here", "_law_held", "_law_kept_here"] spDue) (b_law_due : Binds K d10 ["_law_chart", "_law_parents_here", "_law_opening_here", "_law_held", "_law_kept_here"] []) (k_law_due : PySem.W.keepIn K (.ref g10) = true) (m_law_due : mg "_law_due" = some (.ref g10))
    (m_range : mg "range" = none) (m_len : mg "len" = none) (m_min : mg "min" = none) (m_tuple : mg "tuple" = none) (m_isinstance : mg "isinstance" = none) (m_bool : mg "bool" = none) : FnOk P w K mg base CX0 (n + 1) f fd ["_law_script"] (spLaw K) := by
  refine F.ok sc_law (fun vs H Q E h => ?_) (fun cdv A outer s H vs Q E hr h => ?_)
  · obtain ⟨a, ns, rfl, _⟩ := h
    rfl
  obtain ⟨a, ns, rfl, hS, h63, q⟩ := h
  refine ⟨_, (pss_cons (ps_set (i := 1) sc_law.nd rfl (Or.inl rfl) (pe_call G_law_rooms hr rfl m_law_rooms k_law_rooms b_law_rooms .nil pass0 (pa_cons (pv 0) (pa_cons (pe_call G_law_tree hr rfl m_law_tree k_law_tree b_law_tree .nil pass0 (pa_cons (pv 0) (pa_cons pe_int pa_nil))) pa_nil))))
    (pss_cons (ps_set (i := 2) sc_law.nd rfl (Or.inl rfl) (pe_call G_law_parents hr rfl m_law_parents k_law_parents b_law_parents .nil pass0 (pa_cons (pe_comp (caps := []) rfl (show CompSc (defScope sLawF) ["_law_script", "_law_rooms_here", "_law_parents_here", "_law_boxes", "_law_k", "_law_number", "_law_size", "_law_chart", "_law_held", "_law_stand", "_law_opening_here", "_law_kept_here", "_law_found"] _ _ _ from ⟨rfl, rfl, by decide +kernel, by decide +kernel, by decide +kernel, by decide +kernel, by decide +kernel⟩) (pi_tup (pv 1)) (fun _ _ _ _ _ _ => pifs_nil) (fun _ _ _ _ _ _ => (pe_ix (r := rIxT K) ix_tup (pv 0) pe_int (fun _ _ => rfl)))) pa_nil)))
    (pss_cons (ps_set (i := 3) sc_law.nd rfl (Or.inr rfl) (pe_lst pa_nil))
    (pss_cut (ps_for PassesOwn.never rfl (pi_range1 rfl m_range (pa_cons (pe_op op_mod (pe_call G_law_mixed hr rfl m_law_mixed k_law_mixed b_law_mixed .nil pass0 (pa_cons (pv 0) (pa_cons pe_int (pa_cons pe_int pa_nil)))) pe_int) pa_nil)) (pg_name (i := 4) sc_law.nd rfl (Or.inr rfl))
      (pss_cons (ps_set (i := 5) sc_law.nd rfl (Or.inl rfl) (pe_call G_law_mixed hr rfl m_law_mixed k_law_mixed b_law_mixed .nil pass0 (pa_cons (pv 0) (pa_cons (pv 4) (pa_cons pe_int pa_nil)))))
      (pss_cons (ps_set (i := 6) sc_law.nd rfl (Or.inl rfl) (pe_ix ix_list (pe_lst (pa_cons (pe_op op_add pe_int (pe_op op_mod (pe_op op_fdiv (pv 5) pe_int) pe_int)) (pa_cons (pe_op op_pow pe_int pe_int) (pa_cons (pe_op op_add pe_int (pe_op op_mod (pe_call G_law_cell_at hr rfl m_law_cell_at k_law_cell_at b_law_cell_at .nil pass0 (pa_cons (pv 0) (pa_cons (pv 4) pa_nil))) (pe_op op_pow pe_int pe_int))) (pa_cons pe_int pa_nil))))) (pe_op op_mod (pv 5) pe_int) (fun _ _ => rfl)))
      (pss_one (ps_expr (pe_bm PySem.F.plainAttrs_list PySem.F.slot_list_append PySem.F.type_list_append mt_append (pv 3) (pa_cons (pe_tup (pa_cons (pe_op op_add_str pe_str (pe_ix ix_str pe_str (pv 4) (fun _ _ => rfl))) (pa_cons (pv 6) (pa_cons pe_int pa_nil)))) pa_nil)))))))
    (pss_cons (ps_set (i := 7) sc_law.nd rfl (Or.inl rfl) (pe_tup (pa_cons pe_str (pa_cons pe_int (pa_cons pe_int (pa_cons (pe_callTy call_tuple_of rfl m_tuple PyProof.Rows.boot_tuple (pa_cons (pv 3) pa_nil)) (pa_cons (pe_tup pa_nil) (pa_cons (pv 1) (pa_cons (pe_tup pa_nil) pa_nil)))))))))
    (pss_cut (ps_for PassesOwn.never rfl (pi_range1 rfl m_range (pa_cons (pe_callB (call_min2 rfl) rfl m_min PyProof.Rows.boot_min (pa_cons (pe_op op_add (pe_callB call_len_seq rfl m_len PySem.boot_len (pa_cons (pv 0) pa_nil)) pe_int) (pa_cons pe_int pa_nil))) pa_nil)) (pg_name (i := 4) sc_law.nd rfl (Or.inr rfl))
      (pss_cons (ps_setC (i := 8) (caps := [(0, "_law_script"), (4, "_law_k"), (3, "_law_boxes")]) rfl sc_law.nd rfl (Or.inl rfl) (show CompSc (defScope sLawF) ["_law_script", "_law_rooms_here", "_law_parents_here", "_law_boxes", "_law_k", "_law_number", "_law_size", "_law_chart", "_law_held", "_law_stand", "_law_opening_here", "_law_kept_here", "_law_found"] _ _ _ from ⟨rfl, rfl, by decide +kernel, by decide +kernel, by decide +kernel, by decide +kernel, by decide +kernel⟩) (pi_range1 rfl m_range (pa_cons (pe_callB call_len_seq rfl m_len PySem.boot_len (pa_cons (pv 3) pa_nil)) pa_nil)) (fun _ _ _ _ _ _ => pifs_nil) (fun _ _ _ _ _ _ => (pe_op op_mod (pe_op op_add (pe_call G_law_cell_at hr rfl m_law_cell_at k_law_cell_at b_law_cell_at .nil pass0 (pa_cons (pv 1) (pa_cons (pv 2) pa_nil))) (pe_op op_mul pe_int (pv 0))) (pe_ix (r := rIxT K) ix_tup (pe_ix (r := rIxL K) ix_list (pv 3) (pv 0) (fun _ _ => rfl)) pe_int (fun _ _ => rfl)))))
      (pss_cons (ps_set (i := 9) sc_law.nd rfl (Or.inl rfl) (pe_tup (pa_cons (pe_call G_law_opening hr rfl m_law_opening k_law_opening b_law_opening .nil pass0 (pa_cons (pv 0) (pa_cons (pv 1) (pa_cons (pv 2) (pa_cons (pe_op op_add pe_int (pv 4)) pa_nil))))) (pa_cons (pv 8) (pa_cons (pe_call G_law_kept hr rfl m_law_kept k_law_kept b_law_kept .nil pass0 (pa_cons (pv 0) (pa_cons (pv 1) (pa_cons (pv 2) (pa_cons (pv 4) pa_nil))))) pa_nil)))))
      (pss_cons (ps_asg (pe_call G_law_spoiled hr rfl m_law_spoiled k_law_spoiled b_law_spoiled .nil pass0 (pa_cons (pv 0) (pa_cons (pv 1) (pa_cons (pv 2) (pa_cons (pv 4) (pa_cons (pv 9) (pa_cons (pv 3) pa_nil))))))) (pg_tup rfl (pgs_cons (pg_name (i := 10) sc_law.nd rfl (Or.inl rfl)) (pgs_cons (pg_name (i := 8) sc_law.nd rfl (Or.inl rfl)) (pgs_cons (pg_name (i := 11) sc_law.nd rfl (Or.inl rfl)) pgs_nil)))))
      (pss_cons (ps_set (i := 12) sc_law.nd rfl (Or.inl rfl) (pe_call G_is_stand hr rfl m_is_stand k_is_stand b_is_stand .nil pass0 (pa_cons (pv 7) (pa_cons (pe_tup (pa_cons (pe_callTy call_tuple_of rfl m_tuple PyProof.Rows.boot_tuple (pa_cons (pv 10) pa_nil)) (pa_cons (pe_callTy call_tuple_of rfl m_tuple PyProof.Rows.boot_tuple (pa_cons (pv 8) pa_nil)) (pa_cons (pe_callTy call_tuple_of rfl m_tuple PyProof.Rows.boot_tuple (pa_cons (pe_comp (caps := []) rfl (show CompSc (defScope sLawF) ["_law_script", "_law_rooms_here", "_law_parents_here", "_law_boxes", "_law_k", "_law_number", "_law_size", "_law_chart", "_law_held", "_law_stand", "_law_opening_here", "_law_kept_here", "_law_found"] _ _ _ from ⟨rfl, rfl, by decide +kernel, by decide +kernel, by decide +kernel, by decide +kernel, by decide +kernel⟩) (pi_list (pv 11)) (fun _ _ _ _ _ _ => pifs_nil) (fun _ _ _ _ _ _ => (pe_callTy (r := rTupOf K) call_tuple_of rfl m_tuple PyProof.Rows.boot_tuple (pa_cons (pv 0) pa_nil)))) pa_nil)) pa_nil)))) pa_nil))))
      (pss_one (ps_if (pt_cut (PW.pt (pw_or (pt_not (pt_val (pe_callB call_isinst rfl m_isinstance PyProof.Rows.boot_isinstance (pa_cons (pv 12) (pa_cons (pe_bltn (v := .ty "bool") rfl m_bool PyProof.Rows.boot_bool rfl) pa_nil))))) (pw_or1 (pt_cmpR op_ne (pv 12) (pe_call G_law_due hr rfl m_law_due k_law_due b_law_due .nil pass0 (pa_cons (pv 7) (pa_cons (pv 2) (pa_cons (pv 10) (pa_cons (pv 8) (pa_cons (pv 11) pa_nil)))))) (nomark _))))))
        (pss_one (ps_ret pe_bl))
        pss_nil)))))))
    (pss_one (ps_ret pe_bl)))))))), ?_⟩
  refine ⟨_, rfl, _, rfl, a, ns, 1, rfl, hS, h63, ⟨by decide, by decide⟩, fun pd ds H0 s0 npd hpd good lds => ?_⟩
  refine ⟨a, pd, ns, ds, rfl, s0.seq hS, h63, hpd, lds, fun t rs H1 s1' hR edp fit hno => ?_⟩
  have s1 := s0.trans s1'
  have l1 : 1 ≤ rs.length := by
    have e := congrArg List.length edp
    rw [depths_len] at e
    have g0 := good.1
    omega
  obtain ⟨rv, htr, hrs⟩ := id hR
  have lrv := hrs.length
  have ld : (depths rs).length = rs.length := depths_len rs
  have l40 : rs.length ≤ 40 := by rw [← ld, edp]; exact lds
  rw [← edp] at good
  refine ⟨_, rfl, t, rfl, ⟨_, SqT.of htr⟩, ?_⟩
  refine comp_tup (K := K) (a := t) (xs := rv) (fun i acc H' => H' = H1 ∧ acc = ((depths rs).take i).map V.int) ⟨rfl, rfl⟩ (fun i acc H' ⟨e, _⟩ => by subst e; exact SqT.of htr) (fun i x acc H' hx ⟨e1, e2⟩ => ?_) (fun acc H' ⟨e1, e2⟩ p hp => ?_)
  · subst e1 e2
    have hi : i < rs.length := by
      have := (List.getElem?_eq_some_iff.mp hx).1
      omega
    have er := List.getElem?_eq_getElem hi
    obtain ⟨v, hv, a2, rfl, ha2⟩ := hrs.get er
    rw [hv] at hx
    obtain rfl := Option.some.inj hx
    refine ⟨_, rfl, a2, _, _, _, rfl, rfl, SqT.of ha2, rfl, small1000 (by rw [List.length_map, List.length_take]; omega), rfl, ?_⟩
    rw [List.take_add_one, show (depths rs)[i]? = some rs[i].depth by unfold depths; rw [List.getElem?_map, er]; rfl, List.map_append]
    rfl
  subst e1 e2
  rw [show (depths rs).take rv.length = depths rs from List.take_of_length_le (by omega)]
  refine ⟨p, depths rs, rfl, upd_same, good, by omega, fun pp H2 s2 npp hpp => ?_⟩
  have s3 := (s1.trans (same_new hp _)).trans s2
  have s12 := (same_new hp (.lst ((depths rs).map V.int))).trans s2
  have hR2 := hR.mono (KeepT.of s12)
  refine ⟨Nat.zero_le _, fun pb hpb => ?_⟩
  have u3 := same_new hpb (.lst [])
  have i3 : upd H2 pb (.lst []) pb = some (.lst []) := upd_same
  generalize upd H2 pb (.lst []) = H3 at u3 i3 ⊢
  have pw : CPow 10 30 := ⟨by decide, by decide, by decide⟩
  have p30 : (0 : Int) < 10 ^ 30 := by decide
  -- the boxes
  refine ⟨fun σ' H' => ∃ (bv : List V) (bs : List Int) (o4 o5 o6 : Option V), Same H2 H' ∧ H' pb = some (.lst bv) ∧ BxsIn H' bv bs ∧ (∀ z ∈ bs, 0 < z) ∧ bs.length ≤ 6 ∧ σ' = [some (.ref a), some (.ref t), some (.ref pp), some (.ref pb), o4, o5, o6, none, none, none, none, none, none], ?_, ?_⟩
  · refine ⟨_, rfl, a, ns, _, _, rfl, (s3.trans u3).seq hS, h63, ⟨by decide, by decide⟩, ⟨by decide, by decide⟩, fun x x0 x1 => ⟨_, _, rfl, rfl, (by show (0 : Int) < 7; decide), _, rfl, by omega, by omega, ?_⟩⟩
    refine for_range (fun i σ' H' => ∃ (bv : List V) (bs : List Int) (o4 o5 o6 : Option V), Same H2 H' ∧ H' pb = some (.lst bv) ∧ BxsIn H' bv bs ∧ (∀ z ∈ bs, 0 < z) ∧ bs.length = i ∧ σ' = [some (.ref a), some (.ref t), some (.ref pp), some (.ref pb), o4, o5, o6, none, none, none, none, none, none]) ⟨[], [], _, _, _, u3, i3, ⟨rfl, (fun i v z h => by cases h)⟩, (fun z h => by cases h), rfl, rfl⟩ ?_ ?_
    · rintro i σ' H4 hi ⟨bv, bs, o4, o5, o6, s4, h4, hB, pos, lb, rfl⟩
      have hi6 : i < 6 := by omega
      have s34 := s3.trans s4
      refine ⟨_, rfl, _, rfl, a, ns, _, _, rfl, s34.seq hS, h63, ⟨by omega, by omega⟩, ⟨by decide, by decide⟩, fun y y0 y1 => ?_⟩
      refine ⟨_, rfl, _, _, rfl, rfl, ⟨by decide, by decide⟩, _, _, rfl, rfl, (by show (0 : Int) < 4; decide), _, _, rfl, rfl, _, _, rfl, rfl, pw, _, rfl, _, rfl, a, ns, _, rfl, s34.seq hS, h63, fun v => ?_⟩
      refine ⟨_, _, rfl, rfl, pw, _, _, rfl, rfl, p30, _, _, rfl, rfl, small_le (by show 4 ≤ 1000; decide), fun p5 hp5 => ?_⟩
      obtain ⟨v4, hv4, hat4⟩ := atI_some (xs := [V.int (1 + y / 4 % 4), V.int (10 ^ 30), V.int (1 + v % 10 ^ 30), V.int 2]) (i := y % 4) (by omega) (by show y % 4 < 4; omega)
      obtain ⟨w4, rfl, w0⟩ : ∃ w4 : Int, v4 = .int w4 ∧ 0 < w4 := by
        simp only [List.mem_cons, List.not_mem_nil, or_false] at hv4
        rcases hv4 with rfl | rfl | rfl | rfl
        · exact ⟨_, rfl, by omega⟩
        · exact ⟨_, rfl, p30⟩
        · exact ⟨_, rfl, by have := Int.emod_nonneg v (Int.ne_of_gt p30); omega⟩
        · exact ⟨_, rfl, by decide⟩
      refine ⟨_, rfl, _, _, rfl, rfl, (by show (0 : Int) < 4; decide), p5, _, _, _, rfl, rfl, SqL.of upd_same, hat4, ?_⟩
      have u5 := same_new hp5 (.lst [V.int (1 + y / 4 % 4), V.int (10 ^ 30), V.int (1 + v % 10 ^ 30), V.int 2])
      obtain ⟨c1, _, hc1⟩ := atI_some (xs := ("uvwxyz" : Str).cps.toList) (i := 0 + (i : Int)) (by omega) (by show 0 + (i : Int) < 6; omega)
      have la : ∀ x y : Str, (x ++ y).length = x.length + y.length := fun x y => by
        show (x.cps ++ y.cps).size = _
        rw [Array.size_append]
        rfl
      have lo : ∀ c : Nat, (⟨#[c]⟩ : Str).length = 1 := fun c => rfl
      refine ⟨_, rfl, .inl ⟨rfl, _, SqL.of (u5 _ _ h4)⟩, _, rfl, _, _, c1, rfl, rfl, small_le (by decide +kernel), hc1, _, _, rfl, rfl, small_le (by rw [lo]; show 3 + 1 ≤ 1000; decide), _, rfl, small_le (by show 3 ≤ 1000; decide), fun p6 hp6 => ?_⟩
      have u6 := same_new hp6 (.tup [V.str (("box" : Str) ++ (⟨#[c1]⟩ : Str)), V.int w4, V.int 0])
      refine ⟨pb, _, _, rfl, rfl, u6 _ _ (u5 _ _ h4), small1000 (by have := hB.1; omega), ?_⟩
      refine ⟨bv ++ [.ref p6], bs ++ [w4], _, _, _, same_upd hpb (s4.trans (u5.trans u6)) _, upd_same, ?_, ?_, by rw [List.length_append, List.length_singleton, lb], rfl⟩
      · have kl := KeepT.lst (u6 _ _ (u5 _ _ h4)) (.lst (bv ++ [.ref p6]))
        exact BxsIn.snoc (hB.mono ((KeepT.of (u5.trans u6)).trans kl)) (kl _ _ upd_same)
      · intro z hz
        rcases List.mem_append.mp hz with hz | hz
        · exact pos z hz
        · rw [List.mem_singleton.mp hz]
          exact w0
    · rintro σ' H4 ⟨bv, bs, o4, o5, o6, s4, h4, hB, pos, lb, rfl⟩
      exact ⟨bv, bs, o4, o5, o6, s4, h4, hB, pos, by omega, rfl⟩
  rintro σ4 H4 ⟨bv, bs, o4, o5, o6, s4, h4, hB, pos, lb, rfl⟩
  refine ⟨_, rfl, pb, _, rfl, .inl ⟨SqL.of h4, fun pt hpt => ?_⟩⟩
  have u5 := same_new hpt (.tup bv)
  have i5 : upd H4 pt (.tup bv) pt = some (.tup bv) := upd_same
  generalize upd H4 pt (.tup bv) = H5 at u5 i5 ⊢
  refine ⟨Nat.zero_le _, fun pe1 hpe1 => ?_⟩
  have u6 := same_new hpe1 (.tup [])
  generalize upd H5 pe1 (.tup []) = H6 at u6 ⊢
  refine ⟨_, rfl, Nat.zero_le _, fun pe2 hpe2 => ?_⟩
  have u7 := same_new hpe2 (.tup [])
  generalize upd H6 pe2 (.tup []) = H7 at u7 ⊢
  refine ⟨small_le (by show 7 ≤ 1000; decide), fun pc hpc => ?_⟩
  have u8 := same_new hpc (.tup [V.str ("inner" : Str), V.int 2, V.int 3, V.ref pt, V.ref pe1, V.ref t, V.ref pe2])
  have i8 : upd H7 pc (.tup [V.str ("inner" : Str), V.int 2, V.int 3, V.ref pt, V.ref pe1, V.ref t, V.ref pe2]) pc = some (.tup [V.str ("inner" : Str), V.int 2, V.int 3, V.ref pt, V.ref pe1, V.ref t, V.ref pe2]) := upd_same
  generalize upd H7 pc (.tup [V.str ("inner" : Str), V.int 2, V.int 3, V.ref pt, V.ref pe1, V.ref t, V.ref pe2]) = H8 at u8 i8 ⊢
  have s48 := u5.trans (u6.trans (u7.trans u8))
  have i58 := (u6.trans (u7.trans u8)) _ _ i5
  refine ⟨fun _ _ => True, ?_, fun _ H' _ => q H'⟩
  have s08 := s3.trans (s4.trans s48)
  have h48 := s48 _ _ h4
  have hR8 := hR2.mono (KeepT.of (s4.trans s48))
  have hpp8 := (s4.trans s48) _ _ hpp
  have hB8 := hB.mono (KeepT.of s48)
  have lb' := hB.1
  refine ⟨_, rfl, a, _, rfl, .inl (s08.seq hS), _, _, rfl, rfl, _, _, rfl, _, rfl, ?_, ?_, ?_⟩
  · split <;> omega
  · rw [List.length_map]
    split <;> omega
  refine for_range (fun i σ' H' => Same H8 H' ∧ ∃ o4 o5 o6 o8 o9 o10 o11 o12 : Option V, σ' = [some (.ref a), some (.ref t), some (.ref pp), some (.ref pb), o4, o5, o6, some (.ref pc), o8, o9, o10, o11, o12]) ⟨Same.refl _, _, _, _, _, _, _, _, _, rfl⟩ ?_ (fun _ _ _ => trivial)
  clear o4 o5 o6
  rintro k σ' H9 hk ⟨s9, o4, o5, o6, o8, o9, o10, o11, o12, rfl⟩
  have k8 : k < 8 := by
    rw [List.length_map] at hk
    split at hk <;> omega
  have h49 := s9 _ _ h48
  refine ⟨_, rfl, pb, _, rfl, .inl (SqL.of h49), _, rfl, by omega, by omega, ?_⟩
  refine comp_range (fun j acc H' => H' = H9 ∧ ∃ hs : List Int, acc = hs.map V.int ∧ hs.length = j) ⟨rfl, [], rfl, rfl⟩ (fun j acc H' hj ⟨e1, hs, e2, e3⟩ => ?_) (fun acc H' ⟨e1, hs, e2, e3⟩ ph hph => ?_)
  · subst e1 e2
    have hj' : j < bv.length := by
      simp at hj
      omega
    have ev := List.getElem?_eq_getElem hj'
    have ez := List.getElem?_eq_getElem (show j < bs.length by omega)
    obtain ⟨ab, x, y, eab, hab⟩ := hB8.2 j _ _ ev ez
    rw [eab] at ev
    have atb : atI bv (0 + (j : Int)) = some (.ref ab) := by
      rw [Int.zero_add]
      exact atI_nat ev
    have pz := pos _ (List.getElem_mem (show j < bs.length by omega))
    refine ⟨_, rfl, _, rfl, a, ns, _, rfl, (s08.trans s9).seq hS, h63, fun v => ?_⟩
    refine ⟨_, rfl, _, _, rfl, rfl, mulIn (by decide) (by decide), _, _, rfl, rfl, _, rfl, _, rfl, pb, _, _, _, rfl, rfl, SqL.of h49, atb, ab, _, _, _, rfl, rfl, SqT.of (s9 _ _ hab), rfl, _, _, rfl, rfl, pz, small1000 (by rw [List.length_map]; omega), rfl, hs ++ [(v + 31 * (0 + (j : Int))) % bs[j]], ?_, by rw [List.length_append, List.length_singleton, e3]⟩
    rw [List.map_append]
    rfl
  subst e1 e2
  have lhs : hs.length = bs.length := by
    simp at e3
    omega
  have uA := same_new hph (.lst (hs.map V.int))
  have iA : upd H' ph (.lst (hs.map V.int)) ph = some (.lst (hs.map V.int)) := upd_same
  generalize upd H' ph (.lst (hs.map V.int)) = HA at uA iA ⊢
  have s8A := s9.trans uA
  refine ⟨_, rfl, _, rfl, _, rfl, _, rfl, _, _, rfl, rfl, a, t, pp, ns, depths rs, rs, _, rfl, (s08.trans s8A).seq hS, h63, hR8.mono (KeepT.of s8A), s8A _ _ hpp8, ld, l1, l40, ⟨by omega, by omega⟩, fun po os HB sB npo hpo osl o40 inc h0 => ?_⟩
  have s8B := s8A.trans sB
  refine ⟨_, rfl, _, rfl, _, rfl, _, rfl, _, rfl, a, t, pp, ns, rs, k, rfl, (s08.trans s8B).seq hS, h63, hR8.mono (KeepT.of s8B), s8B _ _ hpp8, l40, by omega, fun pk kv ks HC sC npk hpk rN lks kb => ?_⟩
  have s8C := s8B.trans sC
  refine ⟨small_le (by show 3 ≤ 1000; decide), fun pst hpst => ?_⟩
  have uD := same_new hpst (.tup [.ref po, .ref ph, .ref pk])
  have iD : upd HC pst (.tup [.ref po, .ref ph, .ref pk]) pst = some (.tup [.ref po, .ref ph, .ref pk]) := upd_same
  generalize upd HC pst (.tup [.ref po, .ref ph, .ref pk]) = HD at uD iD ⊢
  have s8D := s8C.trans uD
  have sAD := (sB.trans sC).trans uD
  have npk9 : H' pk = none := uA.free (sB.free npk)
  have n1 : ph ≠ pk := fun z => by rw [← z, sB _ _ iA] at npk; cases npk
  have n2 : po ≠ ph := fun z => by rw [z, iA] at npo; cases npo
  have n3 : po ≠ pk := fun z => by rw [z, npk] at hpo; cases hpo
  have off : ∀ {b : Addr} {o : HO}, H8 b = some o → b ≠ ph ∧ b ≠ pk := fun {b o} e => ⟨fun z => (by rw [← z, s9 _ _ e] at hph; cases hph), fun z => (by rw [← z, s9 _ _ e] at npk9; cases npk9)⟩
  have I0 : ∀ N : Int, SpI HD HD ph pk rs.length bs N po ph pk os hs kv ks := fun N =>
    { fr := fun b o e _ _ => e, live := fun b e => e, hpo := (sC.trans uD) _ _ hpo, osl := osl, olen := by omega, hph := sAD _ _ iA, hlen := by omega, hpk := uD _ _ hpk, rows := rN.rows.mono uD, klen := by omega
      kb := fun js hj => ⟨(kb js hj).1, by have := (kb js hj).2; omega⟩
      apart := fun v hv => by
        obtain ⟨b, rfl, e1, e2⟩ := rN.new v hv
        exact ⟨b, rfl, fun z => (by rw [z, sB _ _ iA] at e1; cases e1), e2⟩
      nh := .inl rfl, nk := .inl rfl, hk := n1, oh := n2, ok := n3
      c11 := fun _ => List.length_pos_of_mem h0
      c34 := fun _ => lhs
      c69 := fun _ => lks }
  refine ⟨_, rfl, _, rfl, _, rfl, _, rfl, _, rfl, _, rfl, a, t, pp, pst, pb, po, ph, pk, ns, bs, hs, rs, os, kv, ks, k, rfl, (s08.trans s8D).seq hS, h63, hR8.mono (KeepT.of s8D), s8D _ _ hpp8, l40, l1, by omega, o40, by omega, by omega, fun js hj => (kb js hj).2, iD, ⟨bv, s8D _ _ h48, hB8.mono (KeepT.of s8D)⟩, (off h48).1, (off h48).2, (off hpp8).1, (off hpp8).2, ⟨H', uA.trans sAD, hph, npk9, (s08.trans s9).seq hS⟩, I0, ?_⟩
  intro p1 po1 ph1 pk1 os1 hs1 kv1 ks1 N HE x np1 hp1
  have s8E : Same H8 HE := fun b o e => x.fr _ _ (s8D _ _ e) (off e).1 (off e).2
  refine ⟨p1, _, rfl, SqT.of hp1, rfl, _, _, rfl, _, _, rfl, _, _, rfl, rfl, ?_⟩
  have lo1 := x.olen
  have lh1 := x.hlen
  have lk1 := x.klen
  refine ⟨_, rfl, _, rfl, po1, _, rfl, .inl ⟨SqL.of x.hpo, fun q1 hq1 => ?_⟩⟩
  have uF := same_new hq1 (.tup (natsV os1))
  have iF : upd HE q1 (.tup (natsV os1)) q1 = some (.tup (natsV os1)) := upd_same
  generalize upd HE q1 (.tup (natsV os1)) = HF at uF iF ⊢
  refine ⟨_, rfl, ph1, _, rfl, .inl ⟨SqL.of (uF _ _ x.hph), fun q2 hq2 => ?_⟩⟩
  have uG := same_new hq2 (.tup (hs1.map V.int))
  have iG : upd HF q2 (.tup (hs1.map V.int)) q2 = some (.tup (hs1.map V.int)) := upd_same
  generalize upd HF q2 (.tup (hs1.map V.int)) = HG at uG iG ⊢
  have sEG := uF.trans uG
  refine ⟨_, rfl, pk1, rfl, ⟨_, SqL.of (sEG _ _ x.hpk)⟩, ?_⟩
  have lkv := x.rows.1
  refine comp_list (K := K) (a := pk1) (xs := kv1) (fun j acc H' => Same HG H' ∧ RowsT H' acc (ks1.take j)) ⟨Same.refl _, rfl, (fun i v z h => by cases h)⟩ (fun j acc H' ⟨e, _⟩ => SqL.of (e _ _ (sEG _ _ x.hpk))) (fun j v acc H' hv ⟨e1, e2⟩ => ?_) (fun acc H' ⟨e1, e2⟩ pl hpl => ?_)
  · have hj := (List.getElem?_eq_some_iff.mp hv).1
    have ez := List.getElem?_eq_getElem (show j < ks1.length by omega)
    obtain ⟨b, rfl, hb⟩ := x.rows.2 j _ _ hv ez
    have la := e2.1
    rw [List.length_take] at la
    refine ⟨_, rfl, b, _, rfl, .inl ⟨SqL.of (e1 _ _ (sEG _ _ hb)), fun l hl => ⟨small1000 (by omega), e1.trans (same_new hl _), ?_⟩⟩⟩
    rw [List.take_add_one, ez]
    exact RowsT.snoc (e2.mono (KeepT.of (same_new hl _))) upd_same
  rw [List.take_of_length_le (by omega)] at e2
  have uI := same_new hpl (.lst acc)
  have iI : upd H' pl (.lst acc) pl = some (.lst acc) := upd_same
  generalize upd H' pl (.lst acc) = HI at uI iI ⊢
  refine ⟨pl, _, rfl, .inl ⟨SqL.of iI, fun q3 hq3 => ?_⟩⟩
  have uJ := same_new hq3 (.tup acc)
  have iJ : upd HI q3 (.tup acc) q3 = some (.tup acc) := upd_same
  generalize upd HI q3 (.tup acc) = HJ at uJ iJ ⊢
  refine ⟨small_le (by show 3 ≤ 1000; decide), fun q4 hq4 => ?_⟩
  have uL := same_new hq4 (.tup [.ref q1, .ref q2, .ref q3])
  have iL : upd HJ q4 (.tup [.ref q1, .ref q2, .ref q3]) q4 = some (.tup [.ref q1, .ref q2, .ref q3]) := upd_same
  generalize upd HJ q4 (.tup [.ref q1, .ref q2, .ref q3]) = HL at uL iL ⊢
  have sGL := e1.trans (uI.trans (uJ.trans uL))
  have sEL := sEG.trans sGL
  have s8L := s8E.trans sEL
  refine ⟨pc, q4, pt, t, q1, q2, q3, _, _, _, _, _, bv, acc, rs, bs, hs1, os1, ks1, rfl, s8L _ _ i8, s8L _ _ i58, hB8.mono (KeepT.of s8L), hR8.mono (KeepT.of s8L), good, l40, fit, iL, (uG.trans sGL) _ _ iF, x.osl, by omega, sGL _ _ iG, by omega, by omega, uL _ _ iJ, e2.mono (KeepT.of (uI.trans (uJ.trans uL))), by omega, x.kb, fun b HM sM hb => ?_⟩
  have sEM := sEL.trans sM
  have s8M := s8E.trans sEM
  refine ⟨fun c H' => c = false ∧ Same H8 H', ?_, ?_⟩
  · refine ⟨_, rfl, _, "bool", _, true, rfl, .bl _, kit_bb K, _, rfl, ifF rfl ?_⟩
    refine ⟨_, rfl, _, rfl, _, rfl, _, rfl, _, rfl, _, rfl, pc, pp, po1, ph1, pk1, pt, t, _, _, _, _, _, bv, kv1, rs, bs, hs1, os1, ks1, rfl, s8M _ _ i8, s8M _ _ i58, hB8.mono (KeepT.of s8M), hR8.mono (KeepT.of s8M), l40, hno, s8M _ _ hpp8, sEM _ _ x.hpo, by omega, sEM _ _ x.hph, by omega, by omega, sEM _ _ x.hpk, x.rows.mono sEM, by omega, x.kb, fun b' HN sN hb' => ?_⟩
    have e : b = b' := by rw [Bool.eq_iff_iff, hb, hb']
    refine ⟨rfl, _, rfl, ?_, s8M.trans sN⟩
    show (!decide (V.bl b = V.bl b')) = false
    rw [e, decide_eq_true rfl]
    rfl
  rintro c HN ⟨rfl, sN⟩
  exact ifF rfl ⟨sN, _, _, _, _, _, _, _, _, rfl⟩
end
end K18

namespace K18
open PySem L2 Mix Gds Rms
/-! the top -/
def fnD (x q : Str) (st : Stmt) (pm cd : Value) : FuncData := PySem.W.fnOf x q (defArgs st) (defBody st) (defScope st) .none .none .none pm none cd .none
def fnB (d : FuncData) : Obj := ⟨.type "function", none, .func d, #[]⟩
def fd1 : FuncData := fnD "_law_cell_at" "_law_cell_at" sCell (.str "law_nesthall_k18_stands_known" 273) (.ref 80)
def fd2 : FuncData := fnD "_law_mixed" "_law_mixed" sMixed (.str "law_nesthall_k18_stands_known" 273) (.ref 87)
def fd3 : FuncData := fnD "end_of" "end_of" sEndOf (.str "nesthall.nesting" 187) (.ref 20)
def fd4 : FuncData := fnD "kids" "kids" sKids (.str "nesthall.nesting" 187) (.ref 25)
def fd5 : FuncData := fnD "bears_goal" "bears_goal" sBears (.str "nesthall.goings" 205) (.ref 30)
def fd6 : FuncData := fnD "next_in" "next_in" sNext (.str "nesthall.goings" 205) (.ref 37)
def fd7 : FuncData := fnD "goings_in" "goings_in" sIn (.str "nesthall.goings" 205) (.ref 44)
def fd8 : FuncData := fnD "is_full" "is_full" sFull (.str "nesthall.stands" 236) (.ref 51)
def fd9 : FuncData := fnD "plain_ones" "plain_ones" sPlain (.str "nesthall.stands" 236) (.ref 56)
def fd10 : FuncData := fnD "can_keep" "can_keep" sCanKeep (.str "nesthall.stands" 236) (.ref 63)
def fd11 : FuncData := fnD "are_held" "are_held" sHeld (.str "nesthall.stands" 236) (.ref 68)
def fd12 : FuncData := fnD "is_stand" "is_stand" sStand (.str "nesthall.stands" 236) (.ref 73)
def fd13 : FuncData := fnD "_law_tree" "_law_tree" sTree (.str "law_nesthall_k18_stands_known" 273) (.ref 101)
def fd14 : FuncData := fnD "_law_rooms" "_law_rooms" sRooms (.str "law_nesthall_k18_stands_known" 273) (.ref 108)
def fd15 : FuncData := fnD "_law_parents" "_law_parents" sParents (.str "law_nesthall_k18_stands_known" 273) (.ref 115)
def fd16 : FuncData := fnD "_law_opening" "_law_opening" sOpening (.str "law_nesthall_k18_stands_known" 273) (.ref 120)
def fd17 : FuncData := fnD "_law_piece" "_law_piece" sPiece (.str "law_nesthall_k18_stands_known" 273) (.ref 125)
def fd18 : FuncData := fnD "_law_full" "_law_full" sLFull (.str "law_nesthall_k18_stands_known" 273) (.ref 130)
def fd19 : FuncData := fnD "_law_lies" "_law_lies" sLies (.str "law_nesthall_k18_stands_known" 273) (.ref 137)
def fd20 : FuncData := fnD "_law_kept" "_law_kept" sLKept (.str "law_nesthall_k18_stands_known" 273) (.ref 142)
def fd21 : FuncData := fnD "_law_spoiled_row" "_law_spoiled_row" sSpRow (.str "law_nesthall_k18_stands_known" 273) (.ref 149)
def fd22 : FuncData := fnD "_law_spoiled" "_law_spoiled" sSpoiled (.str "law_nesthall_k18_stands_known" 273) (.ref 154)
def fd23 : FuncData := fnD "_law_leads" "_law_leads" sLeads (.str "law_nesthall_k18_stands_known" 273) (.ref 159)
def fd24 : FuncData := fnD "_law_deep" "_law_deep" sLDeep (.str "law_nesthall_k18_stands_known" 273) (.ref 164)
def fd25 : FuncData := fnD "_law_due" "_law_due" sLDue (.str "law_nesthall_k18_stands_known" 273) (.ref 171)
def fd26 : FuncData := fnD "law" "law" sLawF (.str "law_nesthall_k18_stands_known" 273) (.ref 176)
def KO (P : Params) : PySem.W.Frag := [
  (3, ⟨.type "dict", none, .dict #[⟨PyData.keyHash P "__name__", .str "__name__" 165, .str "law_nesthall_k18_stands_known" 273⟩, ⟨PyData.keyHash P "__doc__", .str "__doc__" 166, .none⟩, ⟨PyData.keyHash P "__package__", .str "__package__" 167, .none⟩, ⟨PyData.keyHash P "__loader__", .str "__loader__" 168, .builtin "__main__.__loader__#opaque"⟩, ⟨PyData.keyHash P "__spec__", .str "__spec__" 169, .none⟩, ⟨PyData.keyHash P "__annotations__", .str "__annotations__" 170, .ref 6⟩, ⟨PyData.keyHash P "__builtins__", .str "__builtins__" 171, .ref 4⟩, ⟨PyData.keyHash P "__file__", .str "__file__" 173, .str "/claim/cut.py" 172⟩, ⟨PyData.keyHash P "__cached__", .str "__cached__" 174, .none⟩, ⟨PyData.keyHash P "end_of", .str "end_of" 198, .ref 21⟩, ⟨PyData.keyHash P "kids", .str "kids" 204, .ref 26⟩, ⟨PyData.keyHash P "bears_goal", .str "bears_goal" 212, .ref 31⟩, ⟨PyData.keyHash P "next_in", .str "next_in" 223, .ref 38⟩, ⟨PyData.keyHash P "goings_in", .str "goings_in" 235, .ref 45⟩, ⟨PyData.keyHash P "is_full", .str "is_full" 245, .ref 52⟩, ⟨PyData.keyHash P "plain_ones", .str "plain_ones" 251, .ref 57⟩, ⟨PyData.keyHash P "can_keep", .str "can_keep" 260, .ref 64⟩, ⟨PyData.keyHash P "are_held", .str "are_held" 266, .ref 69⟩, ⟨PyData.keyHash P "is_stand", .str "is_stand" 272, .ref 74⟩, ⟨PyData.keyHash P "_law_cell_at", .str "_law_cell_at" 282, .ref 81⟩, ⟨PyData.keyHash P "_law_mixed", .str "_law_mixed" 294, .ref 88⟩, ⟨PyData.keyHash P "_law_whole", .str "_law_whole" 301, .ref 95⟩, ⟨PyData.keyHash P "_law_tree", .str "_law_tree" 315, .ref 102⟩, ⟨PyData.keyHash P "_law_rooms", .str "_law_rooms" 332, .ref 109⟩, ⟨PyData.keyHash P "_law_parents", .str "_law_parents" 342, .ref 116⟩, ⟨PyData.keyHash P "_law_opening", .str "_law_opening" 348, .ref 121⟩, ⟨PyData.keyHash P "_law_piece", .str "_law_piece" 354, .ref 126⟩, ⟨PyData.keyHash P "_law_full", .str "_law_full" 360, .ref 131⟩, ⟨PyData.keyHash P "_law_lies", .str "_law_lies" 370, .ref 138⟩, ⟨PyData.keyHash P "_law_kept", .str "_law_kept" 376, .ref 143⟩, ⟨PyData.keyHash P "_law_spoiled_row", .str "_law_spoiled_row" 387, .ref 150⟩, ⟨PyData.keyHash P "_law_spoiled", .str "_law_spoiled" 393, .ref 155⟩, ⟨PyData.keyHash P "_law_leads", .str "_law_leads" 399, .ref 160⟩, ⟨PyData.keyHash P "_law_deep", .str "_law_deep" 405, .ref 165⟩, ⟨PyData.keyHash P "_law_due", .str "_law_due" 420, .ref 172⟩, ⟨PyData.keyHash P "law", .str "law" 426, .ref 177⟩] 36, #[]⟩),
  (80, ⟨.type "code", none, .fields #[.str "_law_cell_at" 275, .str "_law_cell_at" 276, .str "/claim/cut.py" 277, .int (57) 0, .int (2) 0, .int (0) 0, .int (0) 0, .int (3) 0, .ref 75, .bool true, .int (181) 0, .ref 76, .none, .ref 77, .ref 78, .ref 79, .int (280) 0, .int (57) 0, .str "/claim/cut.py" 281], #[]⟩),
  (81, fnB fd1),
  (87, ⟨.type "code", none, .fields #[.str "_law_mixed" 283, .str "_law_mixed" 284, .str "/claim/cut.py" 285, .int (61) 0, .int (3) 0, .int (0) 0, .int (0) 0, .int (3) 0, .ref 82, .bool true, .int (181) 0, .ref 83, .none, .ref 84, .ref 85, .ref 86, .int (292) 0, .int (61) 0, .str "/claim/cut.py" 293], #[]⟩),
  (88, fnB fd2),
  (20, ⟨.type "code", none, .fields #[.str "end_of" 189, .str "end_of" 190, .str "/claim/cut.py" 191, .int (2) 0, .int (2) 0, .int (0) 0, .int (0) 0, .int (3) 0, .ref 15, .bool true, .int (181) 0, .ref 16, .none, .ref 17, .ref 18, .ref 19, .int (196) 0, .int (2) 0, .str "/claim/cut.py" 197], #[]⟩),
  (21, fnB fd3),
  (25, ⟨.type "code", none, .fields #[.str "kids" 199, .str "kids" 200, .str "/claim/cut.py" 201, .int (8) 0, .int (2) 0, .int (0) 0, .int (0) 0, .int (3) 0, .ref 22, .bool true, .int (181) 0, .ref 23, .none, .none, .none, .ref 24, .int (202) 0, .int (8) 0, .str "/claim/cut.py" 203], #[]⟩),
  (26, fnB fd4),
  (30, ⟨.type "code", none, .fields #[.str "bears_goal" 207, .str "bears_goal" 208, .str "/claim/cut.py" 209, .int (12) 0, .int (3) 0, .int (0) 0, .int (0) 0, .int (3) 0, .ref 27, .bool true, .int (181) 0, .ref 28, .none, .none, .none, .ref 29, .int (210) 0, .int (12) 0, .str "/claim/cut.py" 211], #[]⟩),
  (31, fnB fd5),
  (37, ⟨.type "code", none, .fields #[.str "next_in" 213, .str "next_in" 214, .str "/claim/cut.py" 215, .int (15) 0, .int (3) 0, .int (0) 0, .int (0) 0, .int (3) 0, .ref 32, .bool true, .int (181) 0, .ref 33, .none, .ref 34, .ref 35, .ref 36, .int (221) 0, .int (15) 0, .str "/claim/cut.py" 222], #[]⟩),
  (38, fnB fd6),
  (44, ⟨.type "code", none, .fields #[.str "goings_in" 224, .str "goings_in" 225, .str "/claim/cut.py" 226, .int (23) 0, .int (3) 0, .int (0) 0, .int (0) 0, .int (3) 0, .ref 39, .bool true, .int (181) 0, .ref 40, .none, .ref 41, .ref 42, .ref 43, .int (233) 0, .int (23) 0, .str "/claim/cut.py" 234], #[]⟩),
  (45, fnB fd7),
  (51, ⟨.type "code", none, .fields #[.str "is_full" 238, .str "is_full" 239, .str "/claim/cut.py" 240, .int (32) 0, .int (2) 0, .int (0) 0, .int (0) 0, .int (3) 0, .ref 46, .bool true, .int (181) 0, .ref 47, .none, .ref 48, .ref 49, .ref 50, .int (243) 0, .int (32) 0, .str "/claim/cut.py" 244], #[]⟩),
  (52, fnB fd8),
  (56, ⟨.type "code", none, .fields #[.str "plain_ones" 246, .str "plain_ones" 247, .str "/claim/cut.py" 248, .int (34) 0, .int (2) 0, .int (0) 0, .int (0) 0, .int (3) 0, .ref 53, .bool true, .int (181) 0, .ref 54, .none, .none, .none, .ref 55, .int (249) 0, .int (34) 0, .str "/claim/cut.py" 250], #[]⟩),
  (57, fnB fd9),
  (63, ⟨.type "code", none, .fields #[.str "can_keep" 252, .str "can_keep" 253, .str "/claim/cut.py" 254, .int (36) 0, .int (3) 0, .int (0) 0, .int (0) 0, .int (3) 0, .ref 58, .bool true, .int (181) 0, .ref 59, .none, .ref 60, .ref 61, .ref 62, .int (258) 0, .int (36) 0, .str "/claim/cut.py" 259], #[]⟩),
  (64, fnB fd10),
  (68, ⟨.type "code", none, .fields #[.str "are_held" 261, .str "are_held" 262, .str "/claim/cut.py" 263, .int (44) 0, .int (2) 0, .int (0) 0, .int (0) 0, .int (3) 0, .ref 65, .bool true, .int (181) 0, .ref 66, .none, .none, .none, .ref 67, .int (264) 0, .int (44) 0, .str "/claim/cut.py" 265], #[]⟩),
  (69, fnB fd11),
  (73, ⟨.type "code", none, .fields #[.str "is_stand" 267, .str "is_stand" 268, .str "/claim/cut.py" 269, .int (48) 0, .int (2) 0, .int (0) 0, .int (0) 0, .int (3) 0, .ref 70, .bool true, .int (181) 0, .ref 71, .none, .none, .none, .ref 72, .int (270) 0, .int (48) 0, .str "/claim/cut.py" 271], #[]⟩),
  (74, fnB fd12),
  (101, ⟨.type "code", none, .fields #[.str "_law_tree" 302, .str "_law_tree" 303, .str "/claim/cut.py" 304, .int (70) 0, .int (2) 0, .int (0) 0, .int (0) 0, .int (3) 0, .ref 96, .bool true, .int (181) 0, .ref 97, .none, .ref 98, .ref 99, .ref 100, .int (313) 0, .int (70) 0, .str "/claim/cut.py" 314], #[]⟩),
  (102, fnB fd13),
  (108, ⟨.type "code", none, .fields #[.str "_law_rooms" 316, .str "_law_rooms" 317, .str "/claim/cut.py" 318, .int (84) 0, .int (2) 0, .int (0) 0, .int (0) 0, .int (3) 0, .ref 103, .bool true, .int (181) 0, .ref 104, .none, .ref 105, .ref 106, .ref 107, .int (330) 0, .int (84) 0, .str "/claim/cut.py" 331], #[]⟩),
  (109, fnB fd14),
  (115, ⟨.type "code", none, .fields #[.str "_law_parents" 333, .str "_law_parents" 334, .str "/claim/cut.py" 335, .int (101) 0, .int (1) 0, .int (0) 0, .int (0) 0, .int (3) 0, .ref 110, .bool true, .int (181) 0, .ref 111, .none, .ref 112, .ref 113, .ref 114, .int (340) 0, .int (101) 0, .str "/claim/cut.py" 341], #[]⟩),
  (116, fnB fd15),
  (120, ⟨.type "code", none, .fields #[.str "_law_opening" 343, .str "_law_opening" 344, .str "/claim/cut.py" 345, .int (111) 0, .int (4) 0, .int (0) 0, .int (0) 0, .int (3) 0, .ref 117, .bool true, .int (181) 0, .ref 118, .none, .none, .none, .ref 119, .int (346) 0, .int (111) 0, .str "/claim/cut.py" 347], #[]⟩),
  (121, fnB fd16),
  (125, ⟨.type "code", none, .fields #[.str "_law_piece" 349, .str "_law_piece" 350, .str "/claim/cut.py" 351, .int (121) 0, .int (5) 0, .int (0) 0, .int (0) 0, .int (3) 0, .ref 122, .bool true, .int (181) 0, .ref 123, .none, .none, .none, .ref 124, .int (352) 0, .int (121) 0, .str "/claim/cut.py" 353], #[]⟩),
  (126, fnB fd17),
  (130, ⟨.type "code", none, .fields #[.str "_law_full" 355, .str "_law_full" 356, .str "/claim/cut.py" 357, .int (131) 0, .int (3) 0, .int (0) 0, .int (0) 0, .int (3) 0, .ref 127, .bool true, .int (181) 0, .ref 128, .none, .none, .none, .ref 129, .int (358) 0, .int (131) 0, .str "/claim/cut.py" 359], #[]⟩),
  (131, fnB fd18),
  (137, ⟨.type "code", none, .fields #[.str "_law_lies" 361, .str "_law_lies" 362, .str "/claim/cut.py" 363, .int (145) 0, .int (3) 0, .int (0) 0, .int (0) 0, .int (3) 0, .ref 132, .bool true, .int (181) 0, .ref 133, .none, .ref 134, .ref 135, .ref 136, .int (368) 0, .int (145) 0, .str "/claim/cut.py" 369], #[]⟩),
  (138, fnB fd19),
  (142, ⟨.type "code", none, .fields #[.str "_law_kept" 371, .str "_law_kept" 372, .str "/claim/cut.py" 373, .int (150) 0, .int (4) 0, .int (0) 0, .int (0) 0, .int (3) 0, .ref 139, .bool true, .int (181) 0, .ref 140, .none, .none, .none, .ref 141, .int (374) 0, .int (150) 0, .str "/claim/cut.py" 375], #[]⟩),
  (143, fnB fd20),
  (149, ⟨.type "code", none, .fields #[.str "_law_spoiled_row" 377, .str "_law_spoiled_row" 378, .str "/claim/cut.py" 379, .int (161) 0, .int (4) 0, .int (0) 0, .int (0) 0, .int (3) 0, .ref 144, .bool true, .int (181) 0, .ref 145, .none, .ref 146, .ref 147, .ref 148, .int (385) 0, .int (161) 0, .str "/claim/cut.py" 386], #[]⟩),
  (150, fnB fd21),
  (154, ⟨.type "code", none, .fields #[.str "_law_spoiled" 388, .str "_law_spoiled" 389, .str "/claim/cut.py" 390, .int (172) 0, .int (6) 0, .int (0) 0, .int (0) 0, .int (3) 0, .ref 151, .bool true, .int (181) 0, .ref 152, .none, .none, .none, .ref 153, .int (391) 0, .int (172) 0, .str "/claim/cut.py" 392], #[]⟩),
  (155, fnB fd22),
  (159, ⟨.type "code", none, .fields #[.str "_law_leads" 394, .str "_law_leads" 395, .str "/claim/cut.py" 396, .int (204) 0, .int (3) 0, .int (0) 0, .int (0) 0, .int (3) 0, .ref 156, .bool true, .int (181) 0, .ref 157, .none, .none, .none, .ref 158, .int (397) 0, .int (204) 0, .str "/claim/cut.py" 398], #[]⟩),
  (160, fnB fd23),
  (164, ⟨.type "code", none, .fields #[.str "_law_deep" 400, .str "_law_deep" 401, .str "/claim/cut.py" 402, .int (206) 0, .int (4) 0, .int (0) 0, .int (0) 0, .int (3) 0, .ref 161, .bool true, .int (181) 0, .ref 162, .none, .none, .none, .ref 163, .int (403) 0, .int (206) 0, .str "/claim/cut.py" 404], #[]⟩),
  (165, fnB fd24),
  (171, ⟨.type "code", none, .fields #[.str "_law_due" 406, .str "_law_due" 407, .str "/claim/cut.py" 408, .int (219) 0, .int (5) 0, .int (0) 0, .int (0) 0, .int (3) 0, .ref 166, .bool true, .int (181) 0, .ref 167, .none, .ref 168, .ref 169, .ref 170, .int (418) 0, .int (219) 0, .str "/claim/cut.py" 419], #[]⟩),
  (172, fnB fd25),
  (176, ⟨.type "code", none, .fields #[.str "law" 421, .str "law" 422, .str "/claim/cut.py" 423, .int (235) 0, .int (1) 0, .int (0) 0, .int (0) 0, .int (3) 0, .ref 173, .bool true, .int (181) 0, .ref 174, .none, .none, .none, .ref 175, .int (424) 0, .int (235) 0, .str "/claim/cut.py" 425], #[]⟩),
  (177, fnB fd26)]
def KA : List Addr := [3, 80, 81, 87, 88, 20, 21, 25, 26, 30, 31, 37, 38, 44, 45, 51, 52, 56, 57, 63, 64, 68, 69, 73, 74, 101, 102, 108, 109, 115, 116, 120, 121, 125, 126, 130, 131, 137, 138, 142, 143, 149, 150, 154, 155, 159, 160, 164, 165, 171, 172, 176, 177]
def PW : Program := PySem.Challenge.pw_nesthall_k18_stands_known
def QV : Program := PySem.W.view PW [30]
def LS : List Str := [Str.ofString "__name__", Str.ofString "end_of", Str.ofString "kids", Str.ofString "bears_goal", Str.ofString "next_in", Str.ofString "goings_in", Str.ofString "is_full", Str.ofString "plain_ones", Str.ofString "can_keep", Str.ofString "are_held", Str.ofString "is_stand", Str.ofString "_law_cell_at", Str.ofString "_law_mixed", Str.ofString "_law_whole", Str.ofString "_law_tree", Str.ofString "_law_rooms", Str.ofString "_law_parents", Str.ofString "_law_opening", Str.ofString "_law_piece", Str.ofString "_law_full", Str.ofString "_law_lies", Str.ofString "_law_kept", Str.ofString "_law_spoiled_row", Str.ofString "_law_spoiled", Str.ofString "_law_leads", Str.ofString "_law_deep", Str.ofString "_law_due"]
def HK : PySem.W.Hook := PySem.W.kHook KO KA fun _ => by kernel_rfl
def defPos : Stmt → Pos
  | .FunctionDef _ _ _ _ _ _ _ _ _ p => p
  | _ => ⟨0, 0, 0, 0⟩
def dLaw : DefRec := ⟨"law", defArgs sLawF, defBody sLawF, defScope sLawF, defPos sLawF⟩
set_option maxHeartbeats 0 in
theorem said : PySem.Challenge.rw_nesthall_k18_stands_known.wellSaid = true := by kernel_rfl
set_option maxHeartbeats 0 in
theorem left : PySem.W.LeftO PW QV LS (fun s => PySem.W.xlAt QV [] s && PySem.W.recOk [] s) HK.obs HK.val 2798 := fun w => by kernel_rfl
theorem hdef : PySem.W.defOf QV "law" = some (dLaw, []) := by kernel_rfl
theorem hok : (PySem.W.chainsOk QV && PySem.W.opensWell PW && (PySem.W.frees PySem.Challenge.rw_nesthall_k18_stands_known.row.toRowW && PySem.Challenge.rw_nesthall_k18_stands_known.row.within.isEmpty)) = true := by kernel_rfl
theorem hbare : PW.bare := ⟨rfl, rfl, rfl, rfl, rfl, by decide +kernel⟩
theorem hkw : PySem.W.kwWritten? dLaw.params.kwonlyargs dLaw.params.kw_defaults = some [] := by kernel_rfl
theorem hthe : PW.theDef "law" = some (dLaw.params, dLaw.body, dLaw.scope) := by kernel_rfl
theorem a1 (P : Params) : PySem.W.nsIn (KO P) mainGlobals "_law_cell_at" = some (some (.ref 81)) := by kernel_rfl
theorem u1 (P : Params) : Fun (KO P) "_law_cell_at" "_law_cell_at" sCell 81 fd1 := fun_mk (show (KO P).lookup 81 = some (fnB fd1) by kernel_rfl) (by kernel_rfl) (by kernel_rfl)
theorem a2 (P : Params) : PySem.W.nsIn (KO P) mainGlobals "_law_mixed" = some (some (.ref 88)) := by kernel_rfl
theorem u2 (P : Params) : Fun (KO P) "_law_mixed" "_law_mixed" sMixed 88 fd2 := fun_mk (show (KO P).lookup 88 = some (fnB fd2) by kernel_rfl) (by kernel_rfl) (by kernel_rfl)
theorem a3 (P : Params) : PySem.W.nsIn (KO P) mainGlobals "end_of" = some (some (.ref 21)) := by kernel_rfl
theorem u3 (P : Params) : Fun (KO P) "end_of" "end_of" sEndOf 21 fd3 := fun_mk (show (KO P).lookup 21 = some (fnB fd3) by kernel_rfl) (by kernel_rfl) (by kernel_rfl)
theorem a4 (P : Params) : PySem.W.nsIn (KO P) mainGlobals "kids" = some (some (.ref 26)) := by kernel_rfl
theorem u4 (P : Params) : Fun (KO P) "kids" "kids" sKids 26 fd4 := fun_mk (show (KO P).lookup 26 = some (fnB fd4) by kernel_rfl) (by kernel_rfl) (by kernel_rfl)
theorem a5 (P : Params) : PySem.W.nsIn (KO P) mainGlobals "bears_goal" = some (some (.ref 31)) := by kernel_rfl
theorem u5 (P : Params) : Fun (KO P) "bears_goal" "bears_goal" sBears 31 fd5 := fun_mk (show (KO P).lookup 31 = some (fnB fd5) by kernel_rfl) (by kernel_rfl) (by kernel_rfl)
theorem a6 (P : Params) : PySem.W.nsIn (KO P) mainGlobals "next_in" = some (some (.ref 38)) := by kernel_rfl
theorem u6 (P : Params) : Fun (KO P) "next_in" "next_in" sNext 38 fd6 := fun_mk (show (KO P).lookup 38 = some (fnB fd6) by kernel_rfl) (by kernel_rfl) (by kernel_rfl)
theorem a7 (P : Params) : PySem.W.nsIn (KO P) mainGlobals "goings_in" = some (some (.ref 45)) := by kernel_rfl
theorem u7 (P : Params) : Fun (KO P) "goings_in" "goings_in" sIn 45 fd7 := fun_mk (show (KO P).lookup 45 = some (fnB fd7) by kernel_rfl) (by kernel_rfl) (by kernel_rfl)
theorem a8 (P : Params) : PySem.W.nsIn (KO P) mainGlobals "is_full" = some (some (.ref 52)) := by kernel_rfl
theorem u8 (P : Params) : Fun (KO P) "is_full" "is_full" sFull 52 fd8 := fun_mk (show (KO P).lookup 52 = some (fnB fd8) by kernel_rfl) (by kernel_rfl) (by kernel_rfl)
theorem a9 (P : Params) : PySem.W.nsIn (KO P) mainGlobals "plain_ones" = some (some (.ref 57)) := by kernel_rfl
theorem u9 (P : Params) : Fun (KO P) "plain_ones" "plain_ones" sPlain 57 fd9 := fun_mk (show (KO P).lookup 57 = some (fnB fd9) by kernel_rfl) (by kernel_rfl) (by kernel_rfl)
theorem a10 (P : Params) : PySem.W.nsIn (KO P) mainGlobals "can_keep" = some (some (.ref 64)) := by kernel_rfl
theorem u10 (P : Params) : Fun (KO P) "can_keep" "can_keep" sCanKeep 64 fd10 := fun_mk (show (KO P).lookup 64 = some (fnB fd10) by kernel_rfl) (by kernel_rfl) (by kernel_rfl)
theorem a11 (P : Params) : PySem.W.nsIn (KO P) mainGlobals "are_held" = some (some (.ref 69)) := by kernel_rfl
theorem u11 (P : Params) : Fun (KO P) "are_held" "are_held" sHeld 69 fd11 := fun_mk (show (KO P).lookup 69 = some (fnB fd11) by kernel_rfl) (by kernel_rfl) (by kernel_rfl)
theorem a12 (P : Params) : PySem.W.nsIn (KO P) mainGlobals "is_stand" = some (some (.ref 74)) := by kernel_rfl
theorem u12 (P : Params) : Fun (KO P) "is_stand" "is_stand" sStand 74 fd12 := fun_mk (show (KO P).lookup 74 = some (fnB fd12) by kernel_rfl) (by kernel_rfl) (by kernel_rfl)
theorem a13 (P : Params) : PySem.W.nsIn (KO P) mainGlobals "_law_tree" = some (some (.ref 102)) := by kernel_rfl
theorem u13 (P : Params) : Fun (KO P) "_law_tree" "_law_tree" sTree 102 fd13 := fun_mk (show (KO P).lookup 102 = some (fnB fd13) by kernel_rfl) (by kernel_rfl) (by kernel_rfl)
theorem a14 (P : Params) : PySem.W.nsIn (KO P) mainGlobals "_law_rooms" = some (some (.ref 109)) := by kernel_rfl
theorem u14 (P : Params) : Fun (KO P) "_law_rooms" "_law_rooms" sRooms 109 fd14 := fun_mk (show (KO P).lookup 109 = some (fnB fd14) by kernel_rfl) (by kernel_rfl) (by kernel_rfl)
theorem a15 (P : Params) : PySem.W.nsIn (KO P) mainGlobals "_law_parents" = some (some (.ref 116)) := by kernel_rfl
theorem u15 (P : Params) : Fun (KO P) "_law_parents" "_law_parents" sParents 116 fd15 := fun_mk (show (KO P).lookup 116 = some (fnB fd15) by kernel_rfl) (by kernel_rfl) (by kernel_rfl)
theorem a16 (P : Params) : PySem.W.nsIn (KO P) mainGlobals "_law_opening" = some (some (.ref 121)) := by kernel_rfl
theorem u16 (P : Params) : Fun (KO P) "_law_opening" "_law_opening" sOpening 121 fd16 := fun_mk (show (KO P).lookup 121 = some (fnB fd16) by kernel_rfl) (by kernel_rfl) (by kernel_rfl)
theorem a17 (P : Params) : PySem.W.nsIn (KO P) mainGlobals "_law_piece" = some (some (.ref 126)) := by kernel_rfl
theorem u17 (P : Params) : Fun (KO P) "_law_piece" "_law_piece" sPiece 126 fd17 := fun_mk (show (KO P).lookup 126 = some (fnB fd17) by kernel_rfl) (by kernel_rfl) (by kernel_rfl)
theorem a18 (P : Params) : PySem.W.nsIn (KO P) mainGlobals "_law_full" = some (some (.ref 131)) := by kernel_rfl
theorem u18 (P : Params) : Fun (KO P) "_law_full" "_law_full" sLFull 131 fd18 := fun_mk (show (KO P).lookup 131 = some (fnB fd18) by kernel_rfl) (by kernel_rfl) (by kernel_rfl)
theorem a19 (P : Params) : PySem.W.nsIn (KO P) mainGlobals "_law_lies" = some (some (.ref 138)) := by kernel_rfl
theorem u19 (P : Params) : Fun (KO P) "_law_lies" "_law_lies" sLies 138 fd19 := fun_mk (show (KO P).lookup 138 = some (fnB fd19) by kernel_rfl) (by kernel_rfl) (by kernel_rfl)
theorem a20 (P : Params) : PySem.W.nsIn (KO P) mainGlobals "_law_kept" = some (some (.ref 143)) := by kernel_rfl
theorem u20 (P : Params) : Fun (KO P) "_law_kept" "_law_kept" sLKept 143 fd20 := fun_mk (show (KO P).lookup 143 = some (fnB fd20) by kernel_rfl) (by kernel_rfl) (by kernel_rfl)
theorem a21 (P : Params) : PySem.W.nsIn (KO P) mainGlobals "_law_spoiled_row" = some (some (.ref 150)) := by kernel_rfl
theorem u21 (P : Params) : Fun (KO P) "_law_spoiled_row" "_law_spoiled_row" sSpRow 150 fd21 := fun_mk (show (KO P).lookup 150 = some (fnB fd21) by kernel_rfl) (by kernel_rfl) (by kernel_rfl)
theorem a22 (P : Params) : PySem.W.nsIn (KO P) mainGlobals "_law_spoiled" = some (some (.ref 155)) := by kernel_rfl
theorem u22 (P : Params) : Fun (KO P) "_law_spoiled" "_law_spoiled" sSpoiled 155 fd22 := fun_mk (show (KO P).lookup 155 = some (fnB fd22) by kernel_rfl) (by kernel_rfl) (by kernel_rfl)
theorem a23 (P : Params) : PySem.W.nsIn (KO P) mainGlobals "_law_leads" = some (some (.ref 160)) := by kernel_rfl
theorem u23 (P : Params) : Fun (KO P) "_law_leads" "_law_leads" sLeads 160 fd23 := fun_mk (show (KO P).lookup 160 = some (fnB fd23) by kernel_rfl) (by kernel_rfl) (by kernel_rfl)
theorem a24 (P : Params) : PySem.W.nsIn (KO P) mainGlobals "_law_deep" = some (some (.ref 165)) := by kernel_rfl
theorem u24 (P : Params) : Fun (KO P) "_law_deep" "_law_deep" sLDeep 165 fd24 := fun_mk (show (KO P).lookup 165 = some (fnB fd24) by kernel_rfl) (by kernel_rfl) (by kernel_rfl)
theorem a25 (P : Params) : PySem.W.nsIn (KO P) mainGlobals "_law_due" = some (some (.ref 172)) := by kernel_rfl
theorem u25 (P : Params) : Fun (KO P) "_law_due" "_law_due" sLDue 172 fd25 := fun_mk (show (KO P).lookup 172 = some (fnB fd25) by kernel_rfl) (by kernel_rfl) (by kernel_rfl)
theorem a26 (P : Params) : PySem.W.nsIn (KO P) mainGlobals "law" = some (some (.ref 177)) := by kernel_rfl
theorem u26 (P : Params) : Fun (KO P) "law" "law" sLawF 177 fd26 := fun_mk (show (KO P).lookup 177 = some (fnB fd26) by kernel_rfl) (by kernel_rfl) (by kernel_rfl)
theorem z1 (P : Params) : PySem.W.nsIn (KO P) mainGlobals "len" = some none := by kernel_rfl
theorem z2 (P : Params) : PySem.W.nsIn (KO P) mainGlobals "max" = some none := by kernel_rfl
theorem z3 (P : Params) : PySem.W.nsIn (KO P) mainGlobals "min" = some none := by kernel_rfl
theorem z4 (P : Params) : PySem.W.nsIn (KO P) mainGlobals "range" = some none := by kernel_rfl
theorem z5 (P : Params) : PySem.W.nsIn (KO P) mainGlobals "list" = some none := by kernel_rfl
theorem z6 (P : Params) : PySem.W.nsIn (KO P) mainGlobals "tuple" = some none := by kernel_rfl
theorem z7 (P : Params) : PySem.W.nsIn (KO P) mainGlobals "isinstance" = some none := by kernel_rfl
theorem z8 (P : Params) : PySem.W.nsIn (KO P) mainGlobals "int" = some none := by kernel_rfl
theorem z9 (P : Params) : PySem.W.nsIn (KO P) mainGlobals "bool" = some none := by kernel_rfl
theorem z10 (P : Params) : PySem.W.nsIn (KO P) mainGlobals "sorted" = some none := by kernel_rfl
theorem z11 (P : Params) : PySem.W.nsIn (KO P) mainGlobals "any" = some none := by kernel_rfl
theorem z12 (P : Params) : PySem.W.nsIn (KO P) mainGlobals "all" = some none := by kernel_rfl
theorem z13 (P : Params) : PySem.W.nsIn (KO P) mainGlobals "zip" = some none := by kernel_rfl
theorem z14 (P : Params) : PySem.W.nsIn (KO P) mainGlobals "enumerate" = some none := by kernel_rfl
theorem z15 (P : Params) : PySem.W.nsIn (KO P) mainGlobals "reversed" = some none := by kernel_rfl
set_option maxHeartbeats 0 in
theorem law_ok {w : World} {mg : Str → Option Value} {h base : Heap} (X : (KO w.params).In h) (G : h.Ns mainGlobals mg) : FnOk PW w (KO w.params) mg base CX0 7 177 fd26 ["_law_script"] (spLaw (KO w.params)) := by
  have F1 := u1 w.params
  have b1 := F1.binds (ps := ["_law_script", "_law_k"]) fun _ _ _ _ _ _ us hl => match us, hl with | [_, _], _ => rfl
  have m1 := PySem.W.mg_of X G (a1 w.params)
  have k1 := F1.kp
  have F2 := u2 w.params
  have b2 := F2.binds (ps := ["_law_script", "_law_k", "_law_salt"]) fun _ _ _ _ _ _ us hl => match us, hl with | [_, _, _], _ => rfl
  have m2 := PySem.W.mg_of X G (a2 w.params)
  have k2 := F2.kp
  have F3 := u3 w.params
  have b3 := F3.binds (ps := ["rooms", "room"]) fun _ _ _ _ _ _ us hl => match us, hl with | [_, _], _ => rfl
  have m3 := PySem.W.mg_of X G (a3 w.params)
  have k3 := F3.kp
  have F4 := u4 w.params
  have b4 := F4.binds (ps := ["rooms", "room"]) fun _ _ _ _ _ _ us hl => match us, hl with | [_, _], _ => rfl
  have m4 := PySem.W.mg_of X G (a4 w.params)
  have k4 := F4.kp
  have F5 := u5 w.params
  have b5 := F5.binds (ps := ["rooms", "room", "goals"]) fun _ _ _ _ _ _ us hl => match us, hl with | [_, _, _], _ => rfl
  have m5 := PySem.W.mg_of X G (a5 w.params)
  have k5 := F5.kp
  have F6 := u6 w.params
  have b6 := F6.binds (ps := ["rooms", "room", "goals"]) fun _ _ _ _ _ _ us hl => match us, hl with | [_, _, _], _ => rfl
  have m6 := PySem.W.mg_of X G (a6 w.params)
  have k6 := F6.kp
  have F7 := u7 w.params
  have b7 := F7.binds (ps := ["rooms", "under", "goals"]) fun _ _ _ _ _ _ us hl => match us, hl with | [_, _, _], _ => rfl
  have m7 := PySem.W.mg_of X G (a7 w.params)
  have k7 := F7.kp
  have F8 := u8 w.params
  have b8 := F8.binds (ps := ["rooms", "opening"]) fun _ _ _ _ _ _ us hl => match us, hl with | [_, _], _ => rfl
  have m8 := PySem.W.mg_of X G (a8 w.params)
  have k8 := F8.kp
  have F9 := u9 w.params
  have b9 := F9.binds (ps := ["rooms", "told"]) fun _ _ _ _ _ _ us hl => match us, hl with | [_, _], _ => rfl
  have m9 := PySem.W.mg_of X G (a9 w.params)
  have k9 := F9.kp
  have F10 := u10 w.params
  have b10 := F10.binds (ps := ["rooms", "room", "goals"]) fun _ _ _ _ _ _ us hl => match us, hl with | [_, _, _], _ => rfl
  have m10 := PySem.W.mg_of X G (a10 w.params)
  have k10 := F10.kp
  have F11 := u11 w.params
  have b11 := F11.binds (ps := ["boxes", "numbers"]) fun _ _ _ _ _ _ us hl => match us, hl with | [_, _], _ => rfl
  have m11 := PySem.W.mg_of X G (a11 w.params)
  have k11 := F11.kp
  have F12 := u12 w.params
  have b12 := F12.binds (ps := ["chart", "stand"]) fun _ _ _ _ _ _ us hl => match us, hl with | [_, _], _ => rfl
  have m12 := PySem.W.mg_of X G (a12 w.params)
  have k12 := F12.kp
  have F13 := u13 w.params
  have b13 := F13.binds (ps := ["_law_script", "_law_salt"]) fun _ _ _ _ _ _ us hl => match us, hl with | [_, _], _ => rfl
  have m13 := PySem.W.mg_of X G (a13 w.params)
  have k13 := F13.kp
  have F14 := u14 w.params
  have b14 := F14.binds (ps := ["_law_script", "_law_depths"]) fun _ _ _ _ _ _ us hl => match us, hl with | [_, _], _ => rfl
  have m14 := PySem.W.mg_of X G (a14 w.params)
  have k14 := F14.kp
  have F15 := u15 w.params
  have b15 := F15.binds (ps := ["_law_depths"]) fun _ _ _ _ _ _ us hl => match us, hl with | [_], _ => rfl
  have m15 := PySem.W.mg_of X G (a15 w.params)
  have k15 := F15.kp
  have F16 := u16 w.params
  have b16 := F16.binds (ps := ["_law_script", "_law_rooms_here", "_law_parents_here", "_law_salt"]) fun _ _ _ _ _ _ us hl => match us, hl with | [_, _, _, _], _ => rfl
  have m16 := PySem.W.mg_of X G (a16 w.params)
  have k16 := F16.kp
  have F17 := u17 w.params
  have b17 := F17.binds (ps := ["_law_script", "_law_rooms_here", "_law_parents_here", "_law_room", "_law_salt"]) fun _ _ _ _ _ _ us hl => match us, hl with | [_, _, _, _, _], _ => rfl
  have m17 := PySem.W.mg_of X G (a17 w.params)
  have k17 := F17.kp
  have F18 := u18 w.params
  have b18 := F18.binds (ps := ["_law_rooms_here", "_law_parents_here", "_law_opening_here"]) fun _ _ _ _ _ _ us hl => match us, hl with | [_, _, _], _ => rfl
  have m18 := PySem.W.mg_of X G (a18 w.params)
  have k18 := F18.kp
  have F19 := u19 w.params
  have b19 := F19.binds (ps := ["_law_parents_here", "_law_one", "_law_other"]) fun _ _ _ _ _ _ us hl => match us, hl with | [_, _, _], _ => rfl
  have m19 := PySem.W.mg_of X G (a19 w.params)
  have k19 := F19.kp
  have F20 := u20 w.params
  have b20 := F20.binds (ps := ["_law_script", "_law_rooms_here", "_law_parents_here", "_law_k"]) fun _ _ _ _ _ _ us hl => match us, hl with | [_, _, _, _], _ => rfl
  have m20 := PySem.W.mg_of X G (a20 w.params)
  have k20 := F20.kp
  have F21 := u21 w.params
  have b21 := F21.binds (ps := ["_law_row", "_law_number", "_law_other", "_law_piece_here"]) fun _ _ _ _ _ _ us hl => match us, hl with | [_, _, _, _], _ => rfl
  have m21 := PySem.W.mg_of X G (a21 w.params)
  have k21 := F21.kp
  have F22 := u22 w.params
  have b22 := F22.binds (ps := ["_law_script", "_law_rooms_here", "_law_parents_here", "_law_k", "_law_stand", "_law_boxes"]) fun _ _ _ _ _ _ us hl => match us, hl with | [_, _, _, _, _, _], _ => rfl
  have m22 := PySem.W.mg_of X G (a22 w.params)
  have k22 := F22.kp
  have F23 := u23 w.params
  have b23 := F23.binds (ps := ["_law_parents_here", "_law_room", "_law_row"]) fun _ _ _ _ _ _ us hl => match us, hl with | [_, _, _], _ => rfl
  have m23 := PySem.W.mg_of X G (a23 w.params)
  have k23 := F23.kp
  have F24 := u24 w.params
  have b24 := F24.binds (ps := ["_law_rooms_here", "_law_parents_here", "_law_room", "_law_row"]) fun _ _ _ _ _ _ us hl => match us, hl with | [_, _, _, _], _ => rfl
  have m24 := PySem.W.mg_of X G (a24 w.params)
  have k24 := F24.kp
  have F25 := u25 w.params
  have b25 := F25.binds (ps := ["_law_chart", "_law_parents_here", "_law_opening_here", "_law_held", "_law_kept_here"]) fun _ _ _ _ _ _ us hl => match us, hl with | [_, _, _, _, _], _ => rfl
  have m25 := PySem.W.mg_of X G (a25 w.params)
  have k25 := F25.kp
  have F26 := u26 w.params
  have n_len := PySem.W.mg_none_of X G (z1 w.params)
  have n_max := PySem.W.mg_none_of X G (z2 w.params)
  have n_min := PySem.W.mg_none_of X G (z3 w.params)
  have n_range := PySem.W.mg_none_of X G (z4 w.params)
  have n_list := PySem.W.mg_none_of X G (z5 w.params)
  have n_tuple := PySem.W.mg_none_of X G (z6 w.params)
  have n_isinstance := PySem.W.mg_none_of X G (z7 w.params)
  have n_int := PySem.W.mg_none_of X G (z8 w.params)
  have n_bool := PySem.W.mg_none_of X G (z9 w.params)
  have n_sorted := PySem.W.mg_none_of X G (z10 w.params)
  have n_any := PySem.W.mg_none_of X G (z11 w.params)
  have n_all := PySem.W.mg_none_of X G (z12 w.params)
  have n_zip := PySem.W.mg_none_of X G (z13 w.params)
  have n_enumerate := PySem.W.mg_none_of X G (z14 w.params)
  have n_reversed := PySem.W.mg_none_of X G (z15 w.params)
  have G1 := Mix.ok_cell (P := PW) (w := w) (base := base) (mg := mg) F1 n_len
  have G2 := Mix.ok_mixed (P := PW) (w := w) (base := base) (mg := mg) F2 G1 b1 k1 m1 n_len n_max
  have G3 := Prg.ok_end (P := PW) (w := w) (base := base) (mg := mg) F3 n_range n_len
  have G4 := Prg.ok_kids (P := PW) (w := w) (base := base) (mg := mg) F4 G3 b3 k3 m3 n_range
  have G5 := Prg.ok_bears_goal (P := PW) (w := w) (base := base) (mg := mg) F5 G3 b3 k3 m3 n_any
  have G6 := Prg.ok_next_in (P := PW) (w := w) (base := base) (mg := mg) F6 G4 b4 k4 m4 G5 b5 k5 m5
  have G7 := Prg.ok_goings_in (P := PW) (w := w) (base := base) (mg := mg) F7 G6 b6 k6 m6 n_len n_sorted
  have G8 := Prg.ok_is_full (P := PW) (w := w) (base := base) (mg := mg) F8 G7 b7 k7 m7 n_list
  have G9 := Prg.ok_plain_ones (P := PW) (w := w) (base := base) (mg := mg) F9 n_tuple
  have G10 := ok_can_keep (P := PW) (w := w) (base := base) (mg := mg) F10 (G4.mono (show 2 ≤ 4 by decide)) b4 k4 m4 (G9.mono (show 1 ≤ 4 by decide)) b9 k9 m9 G7 b7 k7 m7 n_len n_list
  have G11 := ok_are_held (P := PW) (w := w) (base := base) (mg := mg) F11 n_len n_all n_zip
  have G12 := ok_is_stand (P := PW) (w := w) (base := base) (mg := mg) F12 G8 b8 k8 m8 (G11.mono (show 1 ≤ 5 by decide)) b11 k11 m11 G10 b10 k10 m10 n_len n_all n_enumerate
  have G13 := ok_tree (P := PW) (w := w) (base := base) (mg := mg) F13 G2 b2 k2 m2 n_range n_min n_int
  have G14 := ok_rooms (P := PW) (w := w) (base := base) (mg := mg) F14 G2 b2 k2 m2 n_range n_len n_tuple
  have G15 := ok_parents (P := PW) (w := w) (base := base) (mg := mg) F15 n_range n_len
  have G16 := ok_opening (P := PW) (w := w) (base := base) (mg := mg) F16 G2 b2 k2 m2 n_range n_len
  have G17 := K16.ok_piece (P := PW) (w := w) (base := base) (mg := mg) F17 G2 b2 k2 m2 n_range n_len
  have G18 := K12.ok_full (P := PW) (w := w) (base := base) (mg := mg) F18 n_range n_len
  have G19 := K14.ok_lies (P := PW) (w := w) (base := base) (mg := mg) F19
  have G20 := ok_kept (P := PW) (w := w) (base := base) (mg := mg) F20 (G2.mono (show 2 ≤ 3 by decide)) b2 k2 m2 G17 b17 k17 m17 n_range n_len
  have G21 := ok_spoiled_row (P := PW) (w := w) (base := base) (mg := mg) F21 n_len n_list n_reversed
  have G22 := ok_spoiled (P := PW) (w := w) (base := base) (mg := mg) F22 (G2.mono (show 2 ≤ 3 by decide)) b2 k2 m2 G17 b17 k17 m17 (G1.mono (show 1 ≤ 3 by decide)) b1 k1 m1 (G21.mono (show 1 ≤ 3 by decide)) b21 k21 m21 n_range n_len
  have G23 := ok_leads (P := PW) (w := w) (base := base) (mg := mg) F23 G19 b19 k19 m19 n_len
  have G24 := ok_deep (P := PW) (w := w) (base := base) (mg := mg) F24 (G19.mono (show 1 ≤ 2 by decide)) b19 k19 m19 G23 b23 k23 m23 n_range n_len
  have G25 := ok_due (P := PW) (w := w) (base := base) (mg := mg) F25 (G18.mono (show 1 ≤ 3 by decide)) b18 k18 m18 G24 b24 k24 m24 n_range n_len
  exact ok_law (n := 6) F26 (G14.mono (show 3 ≤ 6 by decide)) b14 k14 m14 (G13.mono (show 3 ≤ 6 by decide)) b13 k13 m13 (G15.mono (show 1 ≤ 6 by decide)) b15 k15 m15 (G2.mono (show 2 ≤ 6 by decide)) b2 k2 m2 (G1.mono (show 1 ≤ 6 by decide)) b1 k1 m1 (G16.mono (show 3 ≤ 6 by decide)) b16 k16 m16 (G20.mono (show 4 ≤ 6 by decide)) b20 k20 m20 (G22.mono (show 4 ≤ 6 by decide)) b22 k22 m22 G12 b12 k12 m12 (G25.mono (show 4 ≤ 6 by decide)) b25 k25 m25 n_range n_len n_min n_tuple n_isinstance n_bool
theorem walk : PySem.W.WalkO QV LS (PySem.W.XL QV []) HK.says PySem.Challenge.rw_nesthall_k18_stands_known.row.toRowW dLaw [] (fun f vs => PySem.call f vs) := by
  refine L2.walk_of (l := PySem.Challenge.rw_nesthall_k18_stands_known) (n := 63) (k := 7) (x := "_law_script") (K := KO) (CX := fun _ => CX0) (sp := fun w => spLaw (KO w.params)) rfl (by decide) rfl ⟨rfl, by decide, by decide⟩ (fun w h Y => Y) ?_ (fun _ _ a ns hl _ hS => ⟨a, ns, rfl, hS, hl, fun _ => rfl⟩) fun _ _ _ _ _ z => z
  intro w mg fa h KX G hmg
  have e := hmg.symm.trans (PySem.W.mg_of KX G (a26 w.params))
  cases e
  exact ⟨fd26, fun s v => .of_eq rfl, fun base _ _ => law_ok KX G⟩
end K18
open PySem PySem.W PyProof.Rows
set_option maxRecDepth 100000 in
set_option maxHeartbeats 0 in
theorem PySem.Challenge.cw_nesthall_k18_stands_known_holds : PySem.Challenge.rw_nesthall_k18_stands_known.Holds := by
  refine holds_law K18.said fun said => ?_
  refine PySem.W.holds_open (r := PySem.Challenge.rw_nesthall_k18_stands_known.row) K18.left K18.HK.of K18.HK.keeps
    (fun s e => xl_of s (Bool.and_eq_true_iff.mp e).1) XL.keeps K18.hdef K18.hthe K18.hkw
    (fun s e => recFacts_of (Bool.and_eq_true_iff.mp e).2) rfl said K18.hok K18.hbare ?hw K18.walk
  case hw => w_witness2
