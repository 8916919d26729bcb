import PyProof.Rows.All
import Wide.All
import OpenK.AllK
import Wide.FinOn
import Lean
import PyProof.EqAt
import PyProof.EqKinds
import PyProof.TupleCall
import PySem.Challenge.RW_nesthall_k22_inner_and_outer
set_option Elab.async false
set_option linter.all false
set_option maxRecDepth 100000
/-! THE HAND LAYER, for ints, bools, texts, own classes, LISTS and tuples (index, slices, in, append, pop ..), calls, loops. Paste it whole ahead of your own text; what your proof does not reach may be deleted. -/
namespace L2
open PySem PySem.Spec PyProof.Rows

/-- a key: an int or a str -/
abbrev Key := Sum Int Str
def keyIs : Key → Value → Bool
  | .inl k, v => Value.isInt k v
  | .inr x, v => Value.isStrOf x v
def keyH (w : World) : Key → Int
  | .inl k => hashInt k
  | .inr x => hashStr w x
theorem keyIs_shape : ∀ {k : Key} {v : Value}, keyIs k v = true → (∃ i t, k = Sum.inl i ∧ v = Value.int i t) ∨ (∃ x t, k = Sum.inr x ∧ v = Value.str x t)
  | .inl i, v, h => by
    obtain ⟨t, e⟩ := Value.isInt_shape (k := i) (v := v) h
    exact .inl ⟨i, t, rfl, e⟩
  | .inr x, v, h => by
    obtain ⟨t, e⟩ := Value.isStrOf_shape (x := x) (v := v) h
    exact .inr ⟨x, t, rfl, e⟩
theorem keyIs_int (i : Int) (t : Tok) : keyIs (.inl i) (.int i t) = true := by simp [keyIs, Value.isInt]
theorem keyIs_str (x : Str) (t : Tok) : keyIs (.inr x) (.str x t) = true := by simp [keyIs, Value.isStrOf]
theorem key_ll (a b : Int) : decide ((Sum.inl a : Key) = Sum.inl b) = (a == b) := by
  by_cases e : a = b
  · subst e; simp
  · have h : ¬ (Sum.inl a : Key) = Sum.inl b := fun q => e (Sum.inl.inj q)
    rw [decide_eq_false h]
    exact (beq_eq_false_iff_ne.mpr e).symm
theorem key_rr (a b : Str) : decide ((Sum.inr a : Key) = Sum.inr b) = decide (a = b) := by
  by_cases e : a = b
  · subst e; simp
  · have h : ¬ (Sum.inr a : Key) = Sum.inr b := fun q => e (Sum.inr.inj q)
    rw [decide_eq_false h, decide_eq_false e]
theorem key_lr (a : Int) (b : Str) : decide ((Sum.inl a : Key) = Sum.inr b) = false := decide_eq_false (fun q => nomatch q)
theorem key_rl (a : Str) (b : Int) : decide ((Sum.inr a : Key) = Sum.inl b) = false := decide_eq_false (fun q => nomatch q)

def mixKind (prog : Program) (w : World) : PySem.KeyKind prog w Key where
  is := keyIs
  hash := keyH w
  inj := fun v a b ha hb => by
    rcases keyIs_shape ha with ⟨i, t, rfl, rfl⟩ | ⟨x, t, rfl, rfl⟩
    · rcases keyIs_shape hb with ⟨j, u, rfl, e⟩ | ⟨y, u, rfl, e⟩
      · injection e with e1 _; rw [e1]
      · exact nomatch e
    · rcases keyIs_shape hb with ⟨j, u, rfl, e⟩ | ⟨y, u, rfl, e⟩
      · exact nomatch e
      · injection e with e1 _; rw [e1]
  byValue := fun k v h => by
    rcases keyIs_shape h with ⟨i, t, rfl, rfl⟩ | ⟨x, t, rfl, rfl⟩ <;> rfl
  pyHash := fun hv h => by
    rcases keyIs_shape hv with ⟨i, t, rfl, rfl⟩ | ⟨x, t, rfl, rfl⟩
    · exact wpAny_pyHash_int h
    · exact wpAny_pyHash_str h
  eqBool := fun hu hv h => by
    rcases keyIs_shape hu with ⟨i, t, rfl, rfl⟩ | ⟨x, t, rfl, rfl⟩
    · rcases keyIs_shape hv with ⟨j, u, rfl, rfl⟩ | ⟨y, u, rfl, rfl⟩
      · rw [key_ll] at h; exact wpAny_eqBool_int h
      · rw [key_lr] at h; exact SeqAt.EqAt.int_str i t y u _ _ _ _ h
    · rcases keyIs_shape hv with ⟨j, u, rfl, rfl⟩ | ⟨y, u, rfl, rfl⟩
      · rw [key_rl] at h; exact SeqAt.EqAt.str_int x t j u _ _ _ _ h
      · rw [key_rr] at h; exact wpAny_eqBool_str h
  «strs» := fun k x t v h => by
    rcases keyIs_shape h with ⟨i, u, rfl, e⟩ | ⟨y, u, rfl, e⟩
    · exact nomatch e
    · injection e with e1 _
      subst e1
      cases v <;> rfl

theorem mixKind_int (prog : Program) (w : World) (i : Int) (t : Tok) : (mixKind prog w).is (.inl i) (.int i t) = true := keyIs_int i t
theorem mixKind_str (prog : Program) (w : World) (x : Str) (t : Tok) : (mixKind prog w).is (.inr x) (.str x t) = true := keyIs_str x t
end L2

namespace L2
open PySem PySem.Spec PyProof.Rows

/-- a value, without the heap -/
inductive V where
  | non | bl (b : Bool) | int (i : Int) | str (x : Str) | byt (b : Array UInt8) | flt (b : UInt64) | ref (a : Addr) | ty (n : String)
  deriving DecidableEq

def RelV : V → Value → Prop
  | .non, u => u = Value.none
  | .bl b, u => u = Value.bool b
  | .int i, u => ∃ t, u = Value.int i t
  | .str x, u => ∃ t, u = Value.str x t
  | .byt b, u => ∃ t, u = Value.bytes b t
  | .flt b, u => ∃ t, u = Value.float b t
  | .ref a, u => u = Value.ref a
  | .ty n, u => u = Value.type n

abbrev Vals : List V → List Value → Prop := Paired RelV
theorem Vals.length {xs : List V} {us : List Value} (r : Vals xs us) : xs.length = us.length := Paired.length r
theorem Vals.get : ∀ {xs : List V} {us : List Value} {i : Nat} {x : V}, Vals xs us → xs[i]? = some x → ∃ u, us[i]? = some u ∧ RelV x u
  | _, _, _, _, .nil, e => by simp at e
  | _, _, 0, _, .cons r _, e => by simp at e; subst e; exact ⟨_, rfl, r⟩
  | _, _, i + 1, x, .cons _ t, e => by
    obtain ⟨u, h1, h2⟩ := Vals.get (i := i) (x := x) t (by simpa using e)
    exact ⟨u, by simpa using h1, h2⟩
theorem Vals.append : ∀ {xs ys : List V} {us ws : List Value}, Vals xs us → Vals ys ws → Vals (xs ++ ys) (us ++ ws)
  | _, _, _, _, .nil, s => s
  | _, _, _, _, .cons r t, s => .cons r (Vals.append t s)
theorem Vals.take : ∀ {xs : List V} {us : List Value} (n : Nat), Vals xs us → Vals (xs.take n) (us.take n)
  | _, _, 0, _ => .nil
  | _, _, _ + 1, .nil => .nil
  | _, _, n + 1, .cons r t => .cons r (Vals.take n t)
theorem Vals.drop : ∀ {xs : List V} {us : List Value} (n : Nat), Vals xs us → Vals (xs.drop n) (us.drop n)
  | _, _, 0, r => r
  | _, _, _ + 1, .nil => .nil
  | _, _, n + 1, .cons _ t => Vals.drop n t
def RelO : Option V → Option Value → Prop
  | some v, some u => RelV v u
  | none, none => True
  | _, _ => False
def KV {κ : Type} : List (κ × V) → List (κ × Value) → Prop := Paired fun (p : κ × V) (q : κ × Value) => p.1 = q.1 ∧ RelV p.2 q.2

/-- a key of a dict (00_mix): an int or a text -/
def kV : Key → V
  | .inl i => .int i
  | .inr x => .str x

/-- what stands at a tracked address -/
inductive HO where
  /-- a list -/
  | lst (xs : List V)
  /-- a tuple (never changes) -/
  | tup (xs : List V)
  /-- a dict whose keys are ints and texts; one whose keys are tuples of ints and texts (the empty one is both) -/
  | dK (kvs : List (Key × V)) | dT (kvs : List (List Key × V))
  /-- a set of ints: its members, its size -/
  | set (S : Int → Bool) (n : Nat)
  /-- an instance of the class at C, its dict at dx, its attributes -/
  | ins (C dx : Addr) (fs : List (Str × V))
  /-- the dict of the instance at x -/
  | own (x : Addr)
  /-- the dict of an exception -/
  | xd (fs : List (Str × V))
  /-- a bound method, f of x -/
  | met (f x : Addr)
  /-- a range object lo, lo + 1, .. below hi -/
  | rng (lo hi : Int)
  /-- a thing that is known to the object (the script; a dict while a loop walks it): read, never written while it is so -/
  | frz (o : Obj) (u : HO)
  /-- a code object's table -/
  | tbl (ps : Array Value)
  /-- any other thing, by what is true of its one object (a def of one's own: SetO a S n := HO.ext fun h => ..) -/
  | ext (φ : Heap → Prop)

abbrev Hp := Addr → Option HO
def upd (H : Hp) (a : Addr) (o : HO) : Hp := fun b => if b = a then some o else H b
theorem upd_same {H : Hp} {a : Addr} {o : HO} : upd H a o a = some o := by unfold upd; rw [if_pos rfl]
theorem upd_ne {H : Hp} {a b : Addr} {o : HO} (h : b ≠ a) : upd H a o b = H b := by unfold upd; rw [if_neg h]
/-- two objects of different content stand apart -/
theorem ne_of {H : Hp} {a b : Addr} {o u : HO} (h : H a = some o) (h' : H b = some u) (d : o ≠ u) : a ≠ b := by
  intro e; subst e; rw [h] at h'; exact d (Option.some.inj h')
theorem ne_of_none {H : Hp} {a b : Addr} {o : HO} (h : H a = some o) (h' : H b = none) : a ≠ b := by
  intro e; subst e; rw [h] at h'; cases h'

section
variable (P : Program) (w : World)
def ObjOk (H : Hp) (h : Heap) (a : Addr) : HO → Prop
  | .lst xs => xs.length ≤ sizeLine ∧ ∃ (its : List Value) (n : Nat), Vals xs its ∧ h.get? a = some { cls := .type "list", data := .seq its.toArray n }
  | .tup xs => xs.length ≤ sizeLine ∧ ∃ its : List Value, Vals xs its ∧ IsTup h a its.toArray
  | .dK kvs => kvs.length ≤ sizeLine ∧ (a == sysModules) = false ∧ ∃ vs, KV kvs vs ∧ h.DictOf (mixKind P w) a vs
  | .dT kvs => kvs.length ≤ sizeLine ∧ (a == sysModules) = false ∧ ∃ xs : List (List Key × Addr × Value),
      Paired (fun (p : List Key × V) (q : List Key × Addr × Value) => p.1 = q.1 ∧ H q.2.1 = some (.tup (p.1.map kV)) ∧ RelV p.2 q.2.2) kvs xs ∧
      ∃ o es ep, h.get? a = some o ∧ o.ExactDict ∧ o.data = .dict es ep ∧ es.toList = xs.map (entryOfKey (tupleKind (mixKind P w))) ∧ (xs.map (·.1)).Nodup
  | .set S n => h.SetOf (intKind P w) a S n
  | .ins C dx fs => H dx = some (.own a) ∧ fs.length ≤ 1000 ∧ dx ≠ a ∧ h.get? a = some (PySem.W.instObj C dx) ∧
      ∃ mA, h.Ns1 dx mA ∧ (∀ f, RelO (fs.lookup f) (mA f)) ∧ PySem.Within mA (fs.map (·.1))
  | .own _ => ∃ o, h.get? a = some o
  | .xd fs => ∃ mA, h.Ns1 a mA ∧ ∀ f, RelO (fs.lookup f) (mA f)
  | .rng lo hi => ∃ t u v, h.get? a = some { cls := .type "range", data := .fields #[.int lo t, .int hi u, .int 1 v] }
  | .frz o u => h.get? a = some o ∧ ObjOk H h a u
  | .tbl ps => h.get? a = some { cls := .none, data := .fields ps }
  | .met f x => h.get? a = some (PySem.W.methodObj (.ref f) (.ref x))
  | .ext φ => φ h ∧ (∃ o, h.get? a = some o) ∧ ∀ h1 h2 : Heap, φ h1 → (∀ o, h1.get? a = some o → h2.get? a = some o) → φ h2
/-- the abstract heap is held -/
def HOk (H : Hp) (h : Heap) : Prop := ∀ a o, H a = some o → ObjOk P w H h a o
end

section
variable {P : Program} {w : World} {H H' : Hp} {h h' : Heap} {a : Addr} {o : HO}
theorem ObjOk.lt (x : ObjOk P w H h a o) : a < h.objs.size := by
  cases o with
  | lst xs => obtain ⟨_, _, _, _, e⟩ := x; exact Heap.lt_size e
  | tup xs => obtain ⟨_, _, _, p⟩ := x; exact p.lt
  | dK kvs => obtain ⟨_, _, _, _, o, _, _, e, _⟩ := x; exact Heap.lt_size e
  | dT kvs => obtain ⟨_, _, _, _, o, _, _, e, _⟩ := x; exact Heap.lt_size e
  | set S n => obtain ⟨o, _, _, _, e, _⟩ := x; exact Heap.lt_size e
  | ins C dx fs => obtain ⟨_, _, _, e, _⟩ := x; exact Heap.lt_size e
  | own y => obtain ⟨_, e⟩ := x; exact Heap.lt_size e
  | xd fs => obtain ⟨_, ⟨_, _, _, e, _⟩, _⟩ := x; exact Heap.lt_size e
  | rng lo hi => obtain ⟨_, _, _, e⟩ := x; exact Heap.lt_size e
  | frz ob u => obtain ⟨e, _⟩ := x; exact Heap.lt_size e
  | tbl ps => exact Heap.lt_size (show h.get? a = some _ from x)
  | met f y => exact Heap.lt_size (show h.get? a = some _ from x)
  | ext φ => obtain ⟨_, ⟨_, e⟩, _⟩ := x; exact Heap.lt_size e
theorem Paired.mapP {α β : Type} {F G : α → β → Prop} : ∀ {l₁ : List α} {l₂ : List β}, Paired F l₁ l₂ → (∀ a b, F a b → G a b) → Paired G l₁ l₂
  | _, _, .nil, _ => .nil
  | _, _, .cons r t, f => .cons (f _ _ r) (Paired.mapP t f)
/-- what an object's description leans on: its own object, its own dict, the tuples -/
theorem ObjOk.stay (x : ObjOk P w H h a o) (k : ∀ b u, (b = a ∨ H b = some (.own a)) → h.get? b = some u → h'.get? b = some u)
    (ho : ∀ b, H b = some (.own a) → H' b = some (.own a)) (ht : ∀ b xs, H b = some (.tup xs) → H' b = some (.tup xs)) : ObjOk P w H' h' a o := by
  induction o with
  | lst xs => obtain ⟨z, its, n, r, e⟩ := x; exact ⟨z, its, n, r, k _ _ (.inl rfl) e⟩
  | tup xs => obtain ⟨z, its, r, ob, e, c⟩ := x; exact ⟨z, its, r, ob, k _ _ (.inl rfl) e, c⟩
  | dK kvs => obtain ⟨z, y, vs, r, ob, es, ep, e, c⟩ := x; exact ⟨z, y, vs, r, ob, es, ep, k _ _ (.inl rfl) e, c⟩
  | dT kvs =>
    obtain ⟨z, y, xs, r, ob, es, ep, e, c⟩ := x
    exact ⟨z, y, xs, Paired.mapP r fun p q z => ⟨z.1, ht _ _ z.2.1, z.2.2⟩, ob, es, ep, k _ _ (.inl rfl) e, c⟩
  | set S n => obtain ⟨ob, es, ep, t, e, c⟩ := x; exact ⟨ob, es, ep, t, k _ _ (.inl rfl) e, c⟩
  | ins C dx fs =>
    obtain ⟨d, z, ne, e, mA, ⟨od, es, ep, e2, c⟩, r⟩ := x
    exact ⟨ho _ d, z, ne, k _ _ (.inl rfl) e, mA, ⟨od, es, ep, k _ _ (.inr d) e2, c⟩, r⟩
  | own y => obtain ⟨ob, e⟩ := x; exact ⟨ob, k _ _ (.inl rfl) e⟩
  | xd fs => obtain ⟨mA, ⟨od, es, ep, e, c⟩, r⟩ := x; exact ⟨mA, ⟨od, es, ep, k _ _ (.inl rfl) e, c⟩, r⟩
  | rng lo hi => obtain ⟨t, u, v, e⟩ := x; exact ⟨t, u, v, k _ _ (.inl rfl) e⟩
  | frz ob u ih => obtain ⟨e, q⟩ := x; exact ⟨k _ _ (.inl rfl) e, ih q⟩
  | tbl ps =>
    have e : h.get? a = some { cls := .none, data := .fields ps } := x
    show h'.get? a = some { cls := .none, data := .fields ps }
    exact k a _ (.inl rfl) e
  | met f y =>
    have e : h.get? a = some (PySem.W.methodObj (.ref f) (.ref y)) := x
    show h'.get? a = some (PySem.W.methodObj (.ref f) (.ref y))
    exact k a _ (.inl rfl) e
  | ext φ => obtain ⟨p, ⟨o, e⟩, st⟩ := x; exact ⟨st _ _ p fun o q => k _ _ (.inl rfl) q, ⟨o, k _ _ (.inl rfl) e⟩, st⟩
theorem HOk.lt (x : HOk P w H h) (e : H a = some o) : a < h.objs.size := (x a o e).lt
theorem HOk.fresh (x : HOk P w H h) (e : h.objs.size ≤ a) : H a = none := by
  cases q : H a with
  | none => rfl
  | some u => exact absurd (Nat.lt_of_lt_of_le (x.lt q) e) (Nat.lt_irrefl _)
/-- every object of the heap is kept -/
theorem HOk.kept (x : HOk P w H h) (k : ∀ b u, h.get? b = some u → h'.get? b = some u) : HOk P w H h' := fun a o e =>
  (x a o e).stay (fun b u _ q => k b u q) (fun _ q => q) fun _ _ q => q
/-- a new object is laid and tracked -/
theorem HOk.laid (x : HOk P w H h) (k : ∀ b u, h.get? b = some u → h'.get? b = some u) (hp : h.objs.size ≤ a) (new : ObjOk P w (upd H a o) h' a o) : HOk P w (upd H a o) h' := fun b u e => by
  have hn := x.fresh hp
  by_cases hb : b = a
  · subst hb; rw [upd_same] at e; cases e; exact new
  · rw [upd_ne hb] at e
    exact (x b u e).stay (fun c v _ q => k c v q) (fun c q => by rw [upd_ne (ne_of_none q hn)]; exact q) fun c xs q => by rw [upd_ne (ne_of_none q hn)]; exact q
end

/-- what may be read as u: it is u, or a known u -/
def Rd (H : Hp) (a : Addr) (u : HO) : Prop := H a = some u ∨ ∃ o, H a = some (.frz o u)
theorem Rd.ok {P : Program} {w : World} {H : Hp} {h : Heap} {a : Addr} {u : HO} (r : Rd H a u) (x : HOk P w H h) : ObjOk P w H h a u := by
  rcases r with r | ⟨o, r⟩
  · exact x a u r
  · obtain ⟨_, q⟩ := x a _ r
    exact q
/-- what may be written -/
def Mut : Option HO → Prop
  | some (.lst _) => True
  | some (.dK _) => True
  | some (.dT _) => True
  | some (.set _ _) => True
  | some (.ins _ _ _) => True
  | some (.ext _) => True
  | _ => False
section
variable {P : Program} {w : World} {H : Hp} {h h' : Heap} {x e : Addr} {o' : HO}
/-- the object at e is changed: x itself, or the dict of the instance x -/
theorem HOk.write (ok : HOk P w H h) (mu : Mut (H x)) (he : e = x ∨ H e = some (.own x)) (k : ∀ b u, b ≠ e → h.get? b = some u → h'.get? b = some u) (heo : ∃ u, h'.get? e = some u)
    (new : ObjOk P w (upd H x o') h' x o') : HOk P w (upd H x o') h' := fun b u q => by
  have nown : ∀ c y, H c = some (.own y) → c ≠ x := fun c y r z => by subst z; rw [r] at mu; exact mu
  have ntup : ∀ c xs, H c = some (.tup xs) → c ≠ x := fun c xs r z => by subst z; rw [r] at mu; exact mu
  by_cases hb : b = x
  · subst hb; rw [upd_same] at q; cases q; exact new
  · rw [upd_ne hb] at q
    by_cases hbe : b = e
    · have q' : H b = some (.own x) := by
        rcases he with z | z
        · exact absurd (hbe.trans z) hb
        · rw [hbe]; exact z
      rw [q] at q'; cases q'
      obtain ⟨v, hv⟩ := heo
      exact ⟨v, by rw [hbe]; exact hv⟩
    · refine (ok b u q).stay (fun c v hc r => k c v ?_ r) (fun c r => by rw [upd_ne (nown c b r)]; exact r) fun c xs r => by rw [upd_ne (ntup c xs r)]; exact r
      rcases hc with rfl | hc
      · exact hbe
      · rintro rfl
        rcases he with z | z
        · exact nown c b hc z
        · rw [hc] at z; cases z; exact hb rfl
end

/-! ### kept unless tracked; of the frames at fs (the callers') the slots may change (an exception that passes writes there); of the records at ex (iterators) nothing is said -/
structure Un (fs ex : List Addr) (H H' : Hp) (h h' : Heap) : Prop where
  keep : ∀ b o, h.get? b = some o → H b = none → b ∉ fs → b ∉ ex → h'.get? b = some o
  slot : ∀ b o, h.get? b = some o → H b = none → b ∈ fs → b ∉ ex → ∃ sl, h'.get? b = some { o with slots := sl }
  free : ∀ b o, h.get? b = some o → H b = none → b ∉ ex → H' b = none
  there : ∀ b o, h.get? b = some o → b ∉ ex → ∃ o', h'.get? b = some o'
  tups : ∀ b xs, H b = some (.tup xs) → H' b = some (.tup xs)
  frzs : ∀ b o u, H b = some (.frz o u) → H' b = some (.frz o u)
  tbls : ∀ b ps, H b = some (.tbl ps) → ∃ more, H' b = some (.tbl (ps ++ more))
section
variable {fs fs' ex ex' : List Addr} {H H1 H2 : Hp} {h h1 h2 h' : Heap} {a x e : Addr} {o : HO}
theorem Un.any (u : Un fs ex H H1 h h1) {b : Addr} {ob : Obj} (q : h.get? b = some ob) (n : H b = none) (hx : b ∉ ex) : ∃ sl, h1.get? b = some { ob with slots := sl } := by
  by_cases hb : b ∈ fs
  · exact u.slot b ob q n hb hx
  · exact ⟨ob.slots, u.keep b ob q n hb hx⟩
theorem Un.kept (k : ∀ b u, h.get? b = some u → h'.get? b = some u) : Un fs ex H H h h' :=
  ⟨fun b ob q _ _ _ => k b ob q, fun b ob q _ _ _ => ⟨ob.slots, k b ob q⟩, fun _ _ _ n _ => n, fun b ob q _ => ⟨ob, k b ob q⟩, fun _ _ q => q, fun _ _ _ q => q, fun _ ps q => ⟨#[], by rw [q]; simp⟩⟩
theorem Un.refl : Un fs ex H H h h := Un.kept fun _ _ q => q
theorem Un.laid (k : ∀ b u, h.get? b = some u → h'.get? b = some u) (hp : h.objs.size ≤ a) (hn : H a = none) : Un fs ex H (upd H a o) h h' where
  keep := fun b u q _ _ _ => k b u q
  slot := fun b u q _ _ _ => ⟨u.slots, k b u q⟩
  free := fun b u q n _ => by rw [upd_ne (Nat.ne_of_lt (Nat.lt_of_lt_of_le (Heap.lt_size q) hp))]; exact n
  there := fun b u q _ => ⟨u, k b u q⟩
  tups := fun b xs q => by rw [upd_ne (ne_of_none q hn)]; exact q
  frzs := fun b u xs q => by rw [upd_ne (ne_of_none q hn)]; exact q
  tbls := fun b ps q => ⟨#[], by rw [upd_ne (ne_of_none q hn), q]; simp⟩
theorem Un.write (mu : Mut (H x)) (he : e = x ∨ H e = some (.own x)) (k : ∀ b u, b ≠ e → h.get? b = some u → h'.get? b = some u) (heo : ∃ u, h'.get? e = some u) : Un fs ex H (upd H x o) h h' := by
  have hx : ∀ b, H b = none → b ≠ x := fun b n z => by subst z; rw [n] at mu; exact mu
  have hb : ∀ b, H b = none → b ≠ e := fun b n z => by
    subst z
    rcases he with r | r
    · exact hx b n r
    · rw [n] at r; cases r
  have hm : ∀ b u, H b = some u → ¬ Mut (some u) → b ≠ x := fun b u q nm z => by subst z; rw [q] at mu; exact nm mu
  refine ⟨fun b u q n _ _ => k b u (hb b n) q, fun b u q n _ _ => ⟨u.slots, k b u (hb b n) q⟩, fun b u q n _ => by rw [upd_ne (hx b n)]; exact n, fun b u q _ => ?_,
    fun b xs q => by rw [upd_ne (hm b _ q fun z => z)]; exact q, fun b u xs q => by rw [upd_ne (hm b _ q fun z => z)]; exact q, fun b ps q => ⟨#[], by rw [upd_ne (hm b _ q fun z => z), q]; simp⟩⟩
  by_cases hbe : b = e
  · subst hbe; exact heo
  · exact ⟨u, k b u hbe q⟩
end

/-! ### the heap without what is tracked -/
def trk (h : Heap) (H : Hp) : List Addr := (List.range h.objs.size).filter fun a => (H a).isSome
def hidT (h : Heap) (H : Hp) : Heap := PySem.W.hideAll h (trk h H)
theorem hidT_size (h : Heap) (H : Hp) : (hidT h H).objs.size = h.objs.size := PySem.W.hideAll_size _ _
theorem hidT_get {h : Heap} {H : Hp} {b : Addr} {o : Obj} (e : h.get? b = some o) (n : H b = none) : (hidT h H).get? b = some o :=
  PySem.W.hideAll_get _ e fun hm => by
    have q : (H b).isSome = true := (List.mem_filter.mp hm).2
    rw [n] at q; simp at q
theorem of_hidT {h : Heap} {H : Hp} {b : Addr} {o : Obj} (e : (hidT h H).get? b = some o) : h.get? b = some o ∧ H b = none := by
  have e' : h.get? b = some o := PySem.W.of_hideAll (trk h H) e
  refine ⟨e', ?_⟩
  cases q : H b with
  | none => rfl
  | some x =>
    have hm : b ∈ trk h H := List.mem_filter.mpr ⟨List.mem_range.mpr (Heap.lt_size e'), by simp [q]⟩
    have z : (hidT h H).get? b = none := PySem.W.hideAll_none (trk h H) hm
    rw [z] at e; cases e

/-! ### OpenK's ledger, filled with every new object but one -/
def allNews (g h : Heap) (L : Addr) : List (Addr × Obj) := (List.range h.objs.size).filterMap fun a => if a = L ∨ (g.get? a).isSome = true then none else (h.get? a).map fun o => (a, o)
def rest (g h : Heap) (L d : Addr) : List (Addr × Obj) := (allNews g h L).filter fun p => decide (p.1 ≠ d)
end L2

namespace L2
open PySem PySem.Spec PyProof.Rows

/-- the module's facts, over the base: the heap at the law's entry without what is tracked there -/
structure Mod (K : PySem.W.Frag) (mg : Str → Option Value) (base : Heap) : Prop where
  kin : K.In base
  glob : base.Ns mainGlobals mg
  blt : ∃ mb, base.Ns builtinsNs mb ∧ ∀ x : Str, x ≠ "__name__" → mb x = bootBuiltins x
  nolimit : base.NoLimit

/-- the context: a def's body (or a comprehension's block) running. base: fixed through the whole law; s₀, H₀: the entry; outer: the frames whose slots others may change (a def's callers); stack: all frames that run;
   ex: iterators that were made ahead of the entry and are walked here (a comprehension's); fn: the names whose cells were made at the entry (a def: all; a comprehension's block: its own); calm: not within an except suite; pn: pins that every state bears; xe: what is wanted of an exception that leaves the code -/
structure Cx where
  prog : Program
  w : World
  K : PySem.W.Frag
  mg : Str → Option Value
  base : Heap
  A : Around
  N : List Str
  s₀ : Shared
  H₀ : Hp
  env : Env
  outer : List Env
  stack : List Env
  ex : List Addr
  fn : Str → Bool
  calm : Bool
  pn : List (Addr × Obj)
  xe : Value → Shared → Prop
/-- the callers' frames -/
def frs (l : List Env) : List Addr := l.filterMap (·.frame)
abbrev Cx.fs (X : Cx) : List Addr := frs X.outer

def Vis (sc : Scope) (x : Str) : Prop := sc.names.lookup x = some .local ∨ sc.names.lookup x = some .cell ∨ sc.names.lookup x = some .free
def Loc (sc : Scope) (x : Str) : Prop := sc.names.lookup x = some .local ∨ sc.names.lookup x = some .cell
def Look (env : Env) (h : Heap) (m : Str → Option Value) (x : Str) (u : Value) : Prop :=
  (env.kindOf x = some .local ∧ m x = some u) ∨ ((env.kindOf x = some .cell ∨ env.kindOf x = some .free) ∧ ∃ c, env.cells.lookup x = some c ∧ h.IsCell c (some u))

structure Cx.Ok (X : Cx) : Prop where
  mod : Mod X.K X.mg X.base
  kind : X.env.scope.kind = .function
  glob : X.env.globals = mainGlobals
  blt : X.env.builtins = builtinsNs
  above : X.s₀.heap.objs.size ≤ X.env.locals
  inj : ∀ x y c, X.env.cells.lookup x = some c → X.env.cells.lookup y = some c → x = y
  has : ∀ x, (X.env.kindOf x = some .cell ∨ X.env.kindOf x = some .free) → ∃ c, X.env.cells.lookup x = some c
  cab : ∀ x c, X.fn x = true → X.env.cells.lookup x = some c → X.s₀.heap.objs.size ≤ c
  hd : X.calm = true → X.A.handled = none
  frames : X.A.frames = some X.stack
  stk : X.stack = X.outer ∨ (X.stack = X.env :: X.outer ∧ X.env.frame = some X.env.locals)
  exf : ∀ b ∈ X.ex, b ≠ X.env.locals ∧ ∀ x c, X.env.cells.lookup x = some c → c ≠ b
  bs : ∀ b o, X.base.get? b = some o → X.s₀.heap.get? b = some o ∧ X.H₀ b = none
  bsz : X.base.objs.size ≤ X.s₀.heap.objs.size
  noex : ∀ b o, X.base.get? b = some o → b ∉ X.ex
  exfs : ∀ b ∈ X.ex, b ∉ X.fs
  funs : X.s₀.heap.FunFrames X.base X.outer
  frf : ∀ b ∈ X.fs, X.H₀ b = none

structure Inv (X : Cx) (pins : List (Addr × Obj)) (σ : List (Option V)) (H : Hp) (s : Shared) : Prop where
  ok : X.Ok
  os : s.os = X.s₀.os
  bare : AllBare s.gens
  base : Un X.fs X.ex X.H₀ H X.s₀.heap s.heap
  loc : ∃ m, s.heap.Ns X.env.locals m ∧ ∀ (i : Nat) (x : Str) (v : V), X.N[i]? = some x → σ[i]? = some (some v) → Vis X.env.scope x → ∃ u, RelV v u ∧ Look X.env s.heap m x u
  cell : ∀ x c, X.env.cells.lookup x = some c → ∃ v, s.heap.IsCell c v
  free : H X.env.locals = none
  freeC : ∀ x c, X.env.cells.lookup x = some c → H c = none
  pin : ∀ p ∈ X.pn ++ pins, s.heap.get? p.1 = some p.2 ∧ H p.1 = none ∧ p.1 ≠ X.env.locals ∧ p.1 ∉ X.fs ∧ ∀ v, p.2.data ≠ .cell v
  hok : HOk X.prog X.w H s.heap
  len : σ.length = X.N.length

section
variable {X : Cx} {pins : List (Addr × Obj)} {σ : List (Option V)} {H H' : Hp} {s : Shared} {h' : Heap}

theorem Cx.Ok.nofr (ok : X.Ok) {b : Addr} {o : Obj} (e : X.base.get? b = some o) : b ∉ X.fs := fun hb => by
  have := (ok.funs.mem hb).1
  rw [e] at this; cases this
theorem Inv.bs (I : Inv X pins σ H s) : ∀ b o, X.base.get? b = some o → s.heap.get? b = some o ∧ H b = none := fun b o e =>
  ⟨I.base.keep b o (I.ok.bs b o e).1 (I.ok.bs b o e).2 (I.ok.nofr e) (I.ok.noex b o e), I.base.free b o (I.ok.bs b o e).1 (I.ok.bs b o e).2 (I.ok.noex b o e)⟩
theorem Inv.bk (I : Inv X pins σ H s) : ∀ b o, X.base.get? b = some o → s.heap.get? b = some o := fun b o e => (I.bs b o e).1
theorem Inv.mod (I : Inv X pins σ H s) : Mod X.K X.mg X.base := I.ok.mod
theorem Inv.kIn (I : Inv X pins σ H s) : X.K.In s.heap := I.ok.mod.kin.keeps I.bk
theorem Inv.lt (I : Inv X pins σ H s) : X.env.locals < s.heap.objs.size := let ⟨_, hn, _⟩ := I.loc; hn.lt
theorem Inv.sz (I : Inv X pins σ H s) : X.s₀.heap.objs.size ≤ s.heap.objs.size := Nat.le_trans I.ok.above (Nat.le_of_lt I.lt)
theorem Inv.nofs (I : Inv X pins σ H s) {a : Addr} (h : s.heap.objs.size ≤ a) : a ∉ X.fs := fun hb => by
  obtain ⟨_, o, ho, _⟩ := I.ok.funs.mem hb
  exact absurd (Nat.lt_of_lt_of_le (Heap.lt_size ho) (Nat.le_trans I.sz h)) (Nat.lt_irrefl _)
theorem Inv.cne (I : Inv X pins σ H s) : ∀ x c, X.env.cells.lookup x = some c → c ≠ X.env.locals := fun x c e z => by
  obtain ⟨v, o, ho, hd⟩ := I.cell x c e
  obtain ⟨m, ⟨o', es, ep, ho', hd', _⟩, _⟩ := I.loc
  rw [z, ho'] at ho; cases ho; rw [hd'] at hd; cases hd
theorem Inv.funs (I : Inv X pins σ H s) : s.heap.FunFrames X.base X.outer := by
  have all : ∀ (l : List Env), (∀ b ∈ frs l, b ∈ X.fs) → X.s₀.heap.FunFrames X.base l → s.heap.FunFrames X.base l := by
    intro l
    induction l with
    | nil => intro _ _; trivial
    | cons env r ih =>
      intro hs hl
      obtain ⟨hk, ⟨L, o, hf, hn, ho, hd⟩, hr⟩ := hl
      have hL : L ∈ X.fs := hs L (by unfold frs; rw [List.filterMap_cons, hf]; exact List.mem_cons_self)
      obtain ⟨sl, e⟩ := I.base.slot L o ho (I.ok.frf L hL) hL fun z => I.ok.exfs L z hL
      exact ⟨hk, ⟨L, _, hf, hn, e, hd⟩, ih (fun b hb => hs b (by unfold frs; rw [List.filterMap_cons, hf]; exact List.mem_cons_of_mem _ hb)) hr⟩
  exact all X.outer (fun _ hb => hb) I.ok.funs

/-- the frames that run, for a call -/
theorem Inv.stack (I : Inv X pins σ H s) : s.heap.FunFrames X.base X.stack := by
  rcases I.ok.stk with e | ⟨e, hf⟩
  · rw [e]; exact I.funs
  · rw [e]
    obtain ⟨m, hn, _⟩ := I.loc
    refine .cons (by rw [I.ok.kind]; decide) hf hn ?_ I.funs
    exact Heap.get?_none_of_le (Nat.le_trans I.ok.bsz I.ok.above)
theorem Inv.stkSub (I : Inv X pins σ H s) : ∀ b ∈ frs X.stack, b ∈ X.env.locals :: X.fs := fun b hb => by
  rcases I.ok.stk with e | ⟨e, hf⟩
  · rw [e] at hb; exact List.mem_cons_of_mem _ hb
  · rw [e] at hb
    unfold frs at hb
    rw [List.filterMap_cons, hf] at hb
    exact hb
theorem Inv.stkFree (I : Inv X pins σ H s) : ∀ b ∈ frs X.stack, H b = none := fun b hb => by
  rcases List.mem_cons.mp (I.stkSub b hb) with e | hb
  · rw [e]; exact I.free
  · obtain ⟨_, o, ho, _⟩ := I.ok.funs.mem hb
    exact I.base.free b o ho (I.ok.frf b hb) fun z => I.ok.exfs b z hb

/-- THE STEP: the untracked objects but the frame and the records at ch are kept (the callers' frames up to slots), the frame's map is kept, the new abstract heap is held -/
theorem Inv.step {g' : Array GenState} {t' : Nat} {d' : Drawn} {ch : List Addr} (I : Inv X pins σ H s)
    (hch : ∀ b ∈ ch, (b ∈ X.ex ∨ X.s₀.heap.objs.size ≤ b) ∧ b ≠ X.env.locals ∧ (∀ x c, X.env.cells.lookup x = some c → c ≠ b) ∧ ∀ p ∈ X.pn ++ pins, p.1 ≠ b)
    (keep : ∀ b o, b ≠ X.env.locals → b ∉ X.fs → b ∉ ch → s.heap.get? b = some o → H b = none → h'.get? b = some o)
    (slot : ∀ b o, b ≠ X.env.locals → b ∈ X.fs → b ∉ ch → s.heap.get? b = some o → H b = none → ∃ sl, h'.get? b = some { o with slots := sl }) (free : ∀ b o, b ∉ ch → s.heap.get? b = some o → H b = none → H' b = none)
    (there : ∀ b o, b ∉ ch → s.heap.get? b = some o → ∃ o', h'.get? b = some o')
    (tups : ∀ b xs, H b = some (.tup xs) → H' b = some (.tup xs)) (frzs : ∀ b o u, H b = some (.frz o u) → H' b = some (.frz o u)) (tbls : ∀ b ps, H b = some (.tbl ps) → ∃ more, H' b = some (.tbl (ps ++ more)))
    (ns : ∀ m, s.heap.Ns X.env.locals m → h'.Ns X.env.locals m) (hok : HOk X.prog X.w H' h') (hg : AllBare g') :
    Inv X pins σ H' { s with heap := h', gens := g', drawn := d', toks := t' } := by
  have neL : ∀ b o, X.s₀.heap.get? b = some o → b ≠ X.env.locals := fun b o e => Nat.ne_of_lt (Nat.lt_of_lt_of_le (Heap.lt_size e) I.ok.above)
  have neC : ∀ b o, X.s₀.heap.get? b = some o → b ∉ X.ex → b ∉ ch := fun b o e hx hb => by
    rcases (hch b hb).1 with z | z
    · exact hx z
    · exact absurd (Nat.lt_of_lt_of_le (Heap.lt_size e) z) (Nat.lt_irrefl _)
  have cellK : ∀ x c, X.env.cells.lookup x = some c → ∀ v, s.heap.IsCell c v → h'.IsCell c v := fun x c e v ⟨o, ho, hd⟩ => by
    have nch : c ∉ ch := fun z => (hch c z).2.2.1 x c e rfl
    by_cases hc : c ∈ X.fs
    · obtain ⟨sl, q⟩ := slot c o (I.cne x c e) hc nch ho (I.freeC x c e)
      exact ⟨_, q, hd⟩
    · exact ⟨o, keep c o (I.cne x c e) hc nch ho (I.freeC x c e), hd⟩
  refine ⟨I.ok, I.os, hg, ⟨fun b o e n hb hx => ?_, fun b o e n hb hx => ?_, fun b o e n hx => ?_, fun b o e hx => ?_, fun b xs e => tups b xs (I.base.tups b xs e), fun b o xs e => frzs b o xs (I.base.frzs b o xs e), fun b ps e => ?_⟩, ?_, fun x c e => ?_, ?_, fun x c e => ?_, fun p hp => ?_, hok, I.len⟩
  · exact keep b o (neL b o e) hb (neC b o e hx) (I.base.keep b o e n hb hx) (I.base.free b o e n hx)
  · obtain ⟨sl, e1⟩ := I.base.slot b o e n hb hx
    obtain ⟨sl', e2⟩ := slot b _ (neL b o e) hb (neC b o e hx) e1 (I.base.free b o e n hx)
    exact ⟨sl', e2⟩
  · obtain ⟨o', e1⟩ := I.base.there b o e hx
    exact free b o' (neC b o e hx) e1 (I.base.free b o e n hx)
  · obtain ⟨o', e1⟩ := I.base.there b o e hx
    exact there b o' (neC b o e hx) e1
  · obtain ⟨m1, e1⟩ := I.base.tbls b ps e
    obtain ⟨m2, e2⟩ := tbls b _ e1
    exact ⟨m1 ++ m2, by rw [e2, Array.append_assoc]⟩
  · obtain ⟨m, hn, hl⟩ := I.loc
    refine ⟨m, ns m hn, fun i x v e1 e2 e3 => ?_⟩
    obtain ⟨u, r, l⟩ := hl i x v e1 e2 e3
    refine ⟨u, r, ?_⟩
    rcases l with l | ⟨k, c, e, z⟩
    · exact .inl l
    · exact .inr ⟨k, c, e, cellK x c e _ z⟩
  · obtain ⟨v, z⟩ := I.cell x c e
    exact ⟨v, cellK x c e v z⟩
  · obtain ⟨m, ⟨o, _, _, ho, _⟩, _⟩ := I.loc
    exact free _ o (fun z => (hch _ z).2.1 rfl) ho I.free
  · obtain ⟨v, o, ho, hd⟩ := I.cell x c e
    exact free c o (fun z => (hch c z).2.2.1 x c e rfl) ho (I.freeC x c e)
  · obtain ⟨e, n, ne, nf, d⟩ := I.pin p hp
    have nch : p.1 ∉ ch := fun z => (hch p.1 z).2.2.2 p hp rfl
    exact ⟨keep p.1 p.2 ne nf nch e n, free p.1 p.2 nch e n, ne, nf, d⟩
/-- .. where the frame's own object is kept too -/
theorem Inv.un {t' : Nat} (I : Inv X pins σ H s) (u : Un X.fs [] H H' s.heap h') (hok : HOk X.prog X.w H' h') : Inv X pins σ H' { s with heap := h', toks := t' } := by
  obtain ⟨m, ⟨o, es, ep, ho, r⟩, _⟩ := id I.loc
  obtain ⟨sl, hL⟩ := u.any ho I.free (by simp)
  exact I.step (g' := s.gens) (d' := s.drawn) (ch := []) (fun _ z => nomatch z) (fun b o _ hb _ e n => u.keep b o e n hb (by simp)) (fun b o _ hb _ e n => u.slot b o e n hb (by simp)) (fun b o _ e n => u.free b o e n (by simp)) (fun b o _ e => u.there b o e (by simp)) u.tups u.frzs u.tbls (fun m' hm => by
    obtain ⟨o', es', ep', ho', r'⟩ := hm
    rw [ho] at ho'; cases ho'
    exact ⟨_, es', ep', hL, r'⟩) hok I.bare
/-- behind a call (or a comprehension's block): the slots of this frame may have changed too, the records at ch may have turned -/
theorem Inv.call {g' : Array GenState} {t' : Nat} {d' : Drawn} {ch : List Addr} (I : Inv X pins σ H s) (u : Un (frs X.stack) ch H H' s.heap h') (hok : HOk X.prog X.w H' h') (hg : AllBare g')
    (hch : ∀ b ∈ ch, (b ∈ X.ex ∨ X.s₀.heap.objs.size ≤ b) ∧ b ≠ X.env.locals ∧ (∀ x c, X.env.cells.lookup x = some c → c ≠ b) ∧ ∀ p ∈ X.pn ++ pins, p.1 ≠ b) :
    Inv X pins σ H' { s with heap := h', gens := g', drawn := d', toks := t' } := by
  obtain ⟨m, ⟨o, es, ep, ho, r⟩, _⟩ := id I.loc
  obtain ⟨sl, hL⟩ := u.any ho I.free fun z => (hch _ z).2.1 rfl
  exact I.step (ch := ch) hch (fun b o hL hb hc e n => u.keep b o e n (fun z => (List.mem_cons.mp (I.stkSub b z)).elim hL hb) hc) (fun b o _ _ hc e n => u.any e n hc) (fun b o hc e n => u.free b o e n hc) (fun b o hc e => u.there b o e hc) u.tups u.frzs u.tbls (fun m' hm => by
    obtain ⟨o', es', ep', ho', r'⟩ := hm
    rw [ho] at ho'; cases ho'
    exact ⟨_, es', ep', hL, r'⟩) hok hg
/-- an untracked record of ours (an iterator) has turned -/
theorem Inv.turned {t' : Nat} {it : Addr} (I : Inv X pins σ H s) (k : ∀ b o, b ≠ it → s.heap.get? b = some o → h'.get? b = some o) (hn : H it = none) (hL : it ≠ X.env.locals)
    (h1 : it ∈ X.ex ∨ X.s₀.heap.objs.size ≤ it) (h2 : ∀ x c, X.env.cells.lookup x = some c → c ≠ it) (h3 : ∀ p ∈ X.pn ++ pins, p.1 ≠ it) : Inv X pins σ H { s with heap := h', toks := t' } := by
  have nit : ∀ b u, H b = some u → b ≠ it := fun b u e z => by rw [z, hn] at e; cases e
  refine I.step (g' := s.gens) (d' := s.drawn) (ch := [it]) (fun b hb => ?_) (fun b o _ _ hc e _ => k b o (fun z => hc (by simp [z])) e) (fun b o _ _ hc e _ => ⟨o.slots, k b o (fun z => hc (by simp [z])) e⟩) (fun _ _ _ _ n => n)
    (fun b o hc e => ⟨o, k b o (fun z => hc (by simp [z])) e⟩) (fun _ _ e => e) (fun _ _ _ e => e) (fun b ps e => ⟨#[], by rw [e]; simp⟩) (fun m hm => ?_) (fun b u e => ?_) I.bare
  · have e : b = it := by simpa using hb
    subst e
    exact ⟨h1, hL, h2, h3⟩
  · obtain ⟨o, es, ep, ho, r⟩ := hm
    exact ⟨o, es, ep, k _ o (Ne.symm hL) ho, r⟩
  · refine (I.hok b u e).stay (fun c v hc q => k c v ?_ q) (fun _ q => q) fun _ _ q => q
    rcases hc with z | z
    · rw [z]; exact nit b u e
    · exact nit c _ z
theorem Inv.tok (I : Inv X pins σ H s) (t : Nat) : Inv X pins σ H { s with toks := t } := I.un (h' := s.heap) (t' := t) Un.refl I.hok
/-- all objects kept -/
theorem Inv.kept {t' : Nat} (I : Inv X pins σ H s) (k : ∀ b u, s.heap.get? b = some u → h'.get? b = some u) : Inv X pins σ H { s with heap := h', toks := t' } := I.un (Un.kept k) (I.hok.kept k)
/-- a new object laid and tracked -/
theorem Inv.laid {a : Addr} {o : HO} {t' : Nat} (I : Inv X pins σ H s) (k : ∀ b u, s.heap.get? b = some u → h'.get? b = some u) (hp : s.heap.objs.size ≤ a) (new : ObjOk X.prog X.w (upd H a o) h' a o) :
    Inv X pins σ (upd H a o) { s with heap := h', toks := t' } := I.un (Un.laid k hp (I.hok.fresh hp)) (I.hok.laid k hp new)
/-- an object written -/
theorem Inv.write {x e : Addr} {o : HO} {t' : Nat} (I : Inv X pins σ H s) (mu : Mut (H x)) (he : e = x ∨ H e = some (.own x)) (k : ∀ b u, b ≠ e → s.heap.get? b = some u → h'.get? b = some u) (heo : ∃ u, h'.get? e = some u)
    (new : ObjOk X.prog X.w (upd H x o) h' x o) : Inv X pins σ (upd H x o) { s with heap := h', toks := t' } := I.un (Un.write mu he k heo) (I.hok.write mu he k heo new)
theorem Inv.pins_of {pins' : List (Addr × Obj)} (I : Inv X pins σ H s) (h : ∀ p ∈ pins', s.heap.get? p.1 = some p.2 ∧ H p.1 = none ∧ p.1 ≠ X.env.locals ∧ p.1 ∉ X.fs ∧ ∀ v, p.2.data ≠ .cell v) : Inv X pins' σ H s :=
  ⟨I.ok, I.os, I.bare, I.base, I.loc, I.cell, I.free, I.freeC, fun p hp => (List.mem_append.mp hp).elim (fun z => I.pin p (List.mem_append_left _ z)) (h p), I.hok, I.len⟩

theorem nodup_ix {N : List Str} (hN : N.Nodup) {i j : Nat} {x : Str} (a : N[i]? = some x) (b : N[j]? = some x) : i = j := by
  obtain ⟨h1, e1⟩ := List.getElem?_eq_some_iff.mp a
  obtain ⟨h2, e2⟩ := List.getElem?_eq_some_iff.mp b
  exact (List.getElem_inj hN).mp (e1.trans e2.symm)

/-- a name is stored; what changed -/
theorem store_ok2 {M : Model} {A : Around} {E : Value → Shared → Prop} {i : Nat} {x : Str} {v : V} {u : Value} {Q : Unit → Shared → Prop} (I : Inv X pins σ H s) (hN : X.N.Nodup) (hi : X.N[i]? = some x) (hx : Loc X.env.scope x) (r : RelV v u)
    (h : ∀ s', Inv X pins (σ.set i (some v)) H s' → (∃ a, Heap.SameBut a s.heap s'.heap ∧ (a = X.env.locals ∨ X.env.cells.lookup x = some a)) → Q () s') (hf : X.fn x = true ∨ X.env.scope.names.lookup x = some .local := by first | exact .inl rfl | exact .inr rfl | assumption) : wpAny M A (storeName X.env x u) Q E s := by
  obtain ⟨m, hn, hl⟩ := id I.loc
  have hcls : (X.env.scope.kind == .class || (X.env.scope.kind == .module && X.env.locals != X.env.globals)) = false := by rw [I.ok.kind]; rfl
  have hiσ : i < σ.length := by rw [I.len]; exact (List.getElem?_eq_some_iff.mp hi).1
  have cne := I.cne
  have tracked : ∀ {a : Addr} {h' : Heap}, (∃ o, s.heap.get? a = some o ∧ H a = none) → Heap.SameBut a s.heap h' → HOk X.prog X.w H h' := fun {a h'} ha hs b ob e => by
    obtain ⟨_, _, hfree⟩ := ha
    refine (I.hok b ob e).stay (fun c w' hc q => (hs.2 c ?_).trans q) (fun _ q => q) fun _ _ q => q
    rintro rfl
    rcases hc with rfl | hc
    · rw [hfree] at e; cases e
    · rw [hfree] at hc; cases hc
  rcases hx with hk | hk
  · refine wpAny_storeName_local hk hn (fun h' hn' hs => ?_) hcls
    obtain ⟨oL, _, _, hoL, _⟩ := id hn
    refine h _ ⟨I.ok, I.os, I.bare, ⟨fun b o e n hb hx => ?_, fun b o e n hb hx => ?_, I.base.free, fun b o e hx => ?_, I.base.tups, I.base.frzs, I.base.tbls⟩, ⟨_, hn', fun j y v' e1 e2 e3 => ?_⟩, fun y c e => ?_, I.free, I.freeC, fun p hp => ?_, tracked ⟨oL, hoL, I.free⟩ hs, by simpa using I.len⟩ ⟨_, hs, .inl rfl⟩
    · exact (hs.2 b (Nat.ne_of_lt (Nat.lt_of_lt_of_le (Heap.lt_size e) I.ok.above))).trans (I.base.keep b o e n hb hx)
    · obtain ⟨sl, e1⟩ := I.base.slot b o e n hb hx
      exact ⟨sl, (hs.2 b (Nat.ne_of_lt (Nat.lt_of_lt_of_le (Heap.lt_size e) I.ok.above))).trans e1⟩
    · obtain ⟨o', e1⟩ := I.base.there b o e hx
      exact ⟨o', (hs.2 b (Nat.ne_of_lt (Nat.lt_of_lt_of_le (Heap.lt_size e) I.ok.above))).trans e1⟩
    · by_cases hj : j = i
      · subst hj
        rw [hi] at e1; cases e1
        rw [List.getElem?_set_self hiσ] at e2
        cases e2
        exact ⟨u, r, .inl ⟨hk, by simp⟩⟩
      · rw [List.getElem?_set_ne (Ne.symm hj)] at e2
        obtain ⟨u', r', q⟩ := hl j y v' e1 e2 e3
        refine ⟨u', r', ?_⟩
        rcases q with ⟨k, e⟩ | ⟨k, c, e, z⟩
        · refine .inl ⟨k, ?_⟩
          have : y ≠ x := fun e => hj (nodup_ix hN e1 (e ▸ hi))
          simp [this, e]
        · exact .inr ⟨k, c, e, z.sameBut hs (cne y c e)⟩
    · obtain ⟨w', z⟩ := I.cell y c e
      exact ⟨w', z.sameBut hs (cne y c e)⟩
    · obtain ⟨e, n, ne, nf, d⟩ := I.pin p hp
      exact ⟨(hs.2 p.1 ne).trans e, n, ne, nf, d⟩
  · have hfn : X.fn x = true := by
      rcases hf with z | z
      · exact z
      · rw [z] at hk; cases hk
    obtain ⟨c, hc⟩ := I.ok.has x (.inl hk)
    obtain ⟨w', z⟩ := I.cell x c hc
    refine wpAny_storeName_cell I.ok.kind hk hc z (fun h' hc' hs => ?_)
    obtain ⟨oc, hoc, hocd⟩ := id z
    refine h { s with heap := h' } ⟨I.ok, I.os, I.bare, ⟨fun b o e n hb hx => ?_, fun b o e n hb hx => ?_, I.base.free, fun b o e hx => ?_, I.base.tups, I.base.frzs, I.base.tbls⟩, ⟨m, hn.sameBut hs (Ne.symm (cne x c hc)), fun j y v' e1 e2 e3 => ?_⟩, fun y c' e => ?_, I.free, I.freeC, fun p hp => ?_, tracked ⟨oc, hoc, I.freeC x c hc⟩ hs, by simpa using I.len⟩ ⟨c, hs, .inr hc⟩
    · exact (hs.2 b (Nat.ne_of_lt (Nat.lt_of_lt_of_le (Heap.lt_size e) (I.ok.cab x c hfn hc)))).trans (I.base.keep b o e n hb hx)
    · obtain ⟨sl, e1⟩ := I.base.slot b o e n hb hx
      exact ⟨sl, (hs.2 b (Nat.ne_of_lt (Nat.lt_of_lt_of_le (Heap.lt_size e) (I.ok.cab x c hfn hc)))).trans e1⟩
    · obtain ⟨o', e1⟩ := I.base.there b o e hx
      exact ⟨o', (hs.2 b (Nat.ne_of_lt (Nat.lt_of_lt_of_le (Heap.lt_size e) (I.ok.cab x c hfn hc)))).trans e1⟩
    · by_cases hj : j = i
      · subst hj
        rw [hi] at e1; cases e1
        rw [List.getElem?_set_self hiσ] at e2
        cases e2
        exact ⟨u, r, .inr ⟨.inl hk, c, hc, hc'⟩⟩
      · rw [List.getElem?_set_ne (Ne.symm hj)] at e2
        obtain ⟨u', r', q⟩ := hl j y v' e1 e2 e3
        refine ⟨u', r', ?_⟩
        rcases q with q | ⟨k, c', e, z'⟩
        · exact .inl q
        · refine .inr ⟨k, c', e, z'.sameBut hs ?_⟩
          rintro rfl
          exact hj (nodup_ix hN e1 (I.ok.inj _ _ _ e hc ▸ hi))
    · by_cases hcc : c' = c
      · subst hcc; exact ⟨_, hc'⟩
      · obtain ⟨w2, z2⟩ := I.cell y c' e
        exact ⟨w2, z2.sameBut hs hcc⟩
    · obtain ⟨e, n, ne, nf, d⟩ := I.pin p hp
      refine ⟨(hs.2 p.1 ?_).trans e, n, ne, nf, d⟩
      intro q
      rw [q, hoc] at e
      have q' : oc = p.2 := Option.some.inj e
      exact d w' (by rw [← q']; exact hocd)
theorem store_ok {M : Model} {A : Around} {E : Value → Shared → Prop} {i : Nat} {x : Str} {v : V} {u : Value} {Q : Unit → Shared → Prop} (I : Inv X pins σ H s) (hN : X.N.Nodup) (hi : X.N[i]? = some x) (hx : Loc X.env.scope x) (r : RelV v u)
    (h : ∀ s', Inv X pins (σ.set i (some v)) H s' → Q () s') (hf : X.fn x = true ∨ X.env.scope.names.lookup x = some .local := by first | exact .inl rfl | exact .inr rfl | assumption) : wpAny M A (storeName X.env x u) Q E s :=
  store_ok2 I hN hi hx r (fun s' I' _ => h s' I') hf
/-- behind a call or a block, the state as it is -/
theorem Inv.call' {s' : Shared} {ch : List Addr} (I : Inv X pins σ H s) (ho : s'.os = s.os) (u : Un (frs X.stack) ch H H' s.heap s'.heap) (hok : HOk X.prog X.w H' s'.heap) (hg : AllBare s'.gens)
    (hch : ∀ b ∈ ch, (b ∈ X.ex ∨ X.s₀.heap.objs.size ≤ b) ∧ b ≠ X.env.locals ∧ (∀ x c, X.env.cells.lookup x = some c → c ≠ b) ∧ ∀ p ∈ X.pn ++ pins, p.1 ≠ b) : Inv X pins σ H' s' := by
  obtain ⟨h', g', d', t', o'⟩ := s'
  have e : o' = s.os := ho
  subst e
  exact I.call (g' := g') (t' := t') (d' := d') u hok hg hch
end

/-! ### the judgements -/
/-- an exception: its class, its own dict's address (where it has one), the abstract heap behind it -/
abbrev XK := Value → Option Addr → Hp → Prop
abbrev St := List (Option V)
abbrev VK := V → Hp → Prop
/-- an expression's reading; a test's; an argument list's -/
abbrev TE := St → Hp → VK → Prop
abbrev TT := St → Hp → (Bool → Hp → Prop) → Prop
abbrev TA := St → Hp → (List V → Hp → Prop) → Prop
/-- what is wanted behind a statement -/
structure Ends where
  nx : St → Hp → Prop
  rt : VK
  bk : St → Hp → Prop := fun _ _ => False
  ct : St → Hp → Prop := fun _ _ => False
abbrev TS := Ends → St → Hp → Prop

def EP (X : Cx) (pins : List (Addr × Obj)) (σ : St) (Q : VK) (u : Value) (s' : Shared) : Prop := ∃ v H', Inv X pins σ H' s' ∧ RelV v u ∧ Q v H'
def TP (X : Cx) (pins : List (Addr × Obj)) (σ : St) (Q : Bool → Hp → Prop) (b : Bool) (s' : Shared) : Prop := ∃ H', Inv X pins σ H' s' ∧ Q b H'
def AP (X : Cx) (pins : List (Addr × Obj)) (σ : St) (Q : List V → Hp → Prop) (us : List Value) (s' : Shared) : Prop := ∃ vs H', Inv X pins σ H' s' ∧ Vals vs us ∧ Q vs H'
def SP (X : Cx) (pins : List (Addr × Obj)) (D : Ends) (f : Flow) (s' : Shared) : Prop :=
  match f with
  | .next => ∃ σ' H', Inv X pins σ' H' s' ∧ D.nx σ' H'
  | .brk => ∃ σ' H', Inv X pins σ' H' s' ∧ D.bk σ' H'
  | .cont => ∃ σ' H', Inv X pins σ' H' s' ∧ D.ct σ' H'
  | .ret u => ∃ v σ' H', Inv X pins σ' H' s' ∧ RelV v u ∧ D.rt v H'

def PE (X : Cx) (e : Expr) (t : TE) : Prop :=
  ∀ (pins : List (Addr × Obj)) (s : Shared) (σ : St) (H : Hp) (Q : VK), Inv X pins σ H s → t σ H Q → wpAny (model X.prog X.w) X.A (eval e X.env) (EP X pins σ Q) X.xe s
def PT (X : Cx) (e : Expr) (t : TT) : Prop :=
  ∀ (pins : List (Addr × Obj)) (s : Shared) (σ : St) (H : Hp) (Q : Bool → Hp → Prop), Inv X pins σ H s → t σ H Q → wpAny (model X.prog X.w) X.A (isTrue e X.env (eval e X.env)) (TP X pins σ Q) X.xe s
/-- a test whatever its 'whole' is (and, or) -/
def PW (X : Cx) (e : Expr) (t : TT) : Prop :=
  ∀ (whole : Sem Value) (pins : List (Addr × Obj)) (s : Shared) (σ : St) (H : Hp) (Q : Bool → Hp → Prop), Inv X pins σ H s → t σ H Q → wpAny (model X.prog X.w) X.A (isTrue e X.env whole) (TP X pins σ Q) X.xe s
theorem PW.pt {X : Cx} {e : Expr} {t : TT} (h : PW X e t) : PT X e t := h _
/-- an argument list (no star), from the left -/
def PA (X : Cx) (es : List Expr) (t : TA) : Prop :=
  ∀ (pos : Pos) (pins : List (Addr × Obj)) (s : Shared) (σ : St) (H : Hp) (Q : List V → Hp → Prop), Inv X pins σ H s → t σ H Q → wpAny (model X.prog X.w) X.A (spliced (backTo pos (starEach es X.env))) (AP X pins σ Q) X.xe s
def PS (X : Cx) (st : Stmt) (t : TS) : Prop :=
  ∀ (pins : List (Addr × Obj)) (s : Shared) (σ : St) (H : Hp) (D : Ends), Inv X pins σ H s → t D σ H → wpAny (model X.prog X.w) X.A (exec st X.env) (SP X pins D) X.xe s
def PSs (X : Cx) (st : List Stmt) (t : TS) : Prop :=
  ∀ (pins : List (Addr × Obj)) (s : Shared) (σ : St) (H : Hp) (D : Ends), Inv X pins σ H s → t D σ H → wpAny (model X.prog X.w) X.A (execs st X.env) (SP X pins D) X.xe s
/-- weaken the end -/
theorem thn {α : Type} {t : Sem α} {Q Q' : α → Shared → Prop} {M : Model} {A : Around} {E : Value → Shared → Prop} {s : Shared} (h : wpAny M A t Q E s) (hQ : ∀ a s, Q a s → Q' a s) : wpAny M A t Q' E s := wpAny_mono h hQ fun _ _ x => x
end L2

namespace L2
open PySem PySem.Spec PyProof.Rows
section
variable {X : Cx}

/-! ### names and constants -/
def tVar (i : Nat) : TE := fun σ H Q => ∃ v, σ[i]? = some (some v) ∧ Q v H
def tC (v : V) : TE := fun _ H Q => Q v H
theorem pe_var {i : Nat} {x : Str} {pos : Pos} (hN : X.N[i]? = some x) (hv : Vis X.env.scope x) (hd : (x == ("__debug__" : Str)) = false := by decide) (hcd : (x == ("__classdict__" : Str)) = false := by decide) : PE X (.Name x pos) (tVar i) := by
  intro pins s σ H Q I h
  obtain ⟨v, e, h⟩ := h
  obtain ⟨m, hn, hl⟩ := I.loc
  obtain ⟨u, r, l⟩ := hl i x v hN e hv
  have fin : EP X pins σ Q u s := ⟨v, H, I, r, h⟩
  rcases l with ⟨hk, hm⟩ | ⟨hk, c, hc, hcell⟩
  · exact wpAny_Name (wpAny_loadName_local I.ok.kind hk hn hm fin) hd
  · rcases hk with hk | hk
    · exact wpAny_Name (wpAny_loadName_cell I.ok.kind hk hc hcell fin) hd
    · exact wpAny_Name (wpAny_loadName_free I.ok.kind hk hc hcell fin hcd) hd
theorem pe_int {i j pos} : PE X (.Constant (.int i) j pos) (tC (.int i)) := fun _ _ _ H _ I h => wpAny_Constant_int ⟨.int i, H, I.tok _, ⟨_, rfl⟩, h⟩
theorem pe_bl {b j pos} : PE X (.Constant (.bool b) j pos) (tC (.bl b)) := fun _ _ _ H _ I h => Constant_bool ⟨.bl b, H, I, rfl, h⟩
theorem pe_non {j pos} : PE X (.Constant .none j pos) (tC .non) := fun _ _ _ H _ I h => Constant_none ⟨.non, H, I, rfl, h⟩
theorem pe_str {x j pos} : PE X (.Constant (.str x) j pos) (tC (.str x)) := fun _ _ _ H _ I h => Calls.Constant_str ⟨.str x, H, I.tok _, ⟨_, rfl⟩, h⟩

/-- a global name of the def -/
def Gl (X : Cx) (x : Str) : Prop := X.env.kindOf x = some .globalImplicit
theorem ld_glob {E : Value → Shared → Prop} {pins : List (Addr × Obj)} {s : Shared} {σ : St} {H : Hp} {x : Str} {u : Value} {pos : Pos} {Q : Value → Shared → Prop} (I : Inv X pins σ H s) (hg : Gl X x) (hm : X.mg x = some u) (h : Q u s)
    (hd : (x == ("__debug__" : Str)) = false := by decide) : wpAny (model X.prog X.w) X.A (eval (.Name x pos) X.env) Q E s :=
  Calls.Name_function_global I.ok.kind hg (Calls.loadGlobal_global (by rw [I.ok.glob]; exact I.mod.glob.keeps I.bk) hm h) hd
theorem ld_blt {E : Value → Shared → Prop} {pins : List (Addr × Obj)} {s : Shared} {σ : St} {H : Hp} {x : Str} {u : Value} {pos : Pos} {Q : Value → Shared → Prop} (I : Inv X pins σ H s) (hg : Gl X x) (hm : X.mg x = none) (hv : bootBuiltins x = some u) (h : Q u s)
    (hn : x ≠ "__name__" := by decide) (hd : (x == ("__debug__" : Str)) = false := by decide) : wpAny (model X.prog X.w) X.A (eval (.Name x pos) X.env) Q E s := by
  obtain ⟨mb, h1, h2⟩ := I.mod.blt
  exact Calls.Name_function_global I.ok.kind hg (Calls.loadGlobal_builtin (by rw [I.ok.glob]; exact I.mod.glob.keeps I.bk) hm (by rw [I.ok.blt]; exact h1.keeps I.bk) ((h2 x hn).trans hv) h) hd
theorem pe_bltn {x : Str} {v : V} {u : Value} {pos : Pos} (hg : Gl X x) (hm : X.mg x = none) (hv : bootBuiltins x = some u) (r : RelV v u) (hn : x ≠ "__name__" := by decide) (hd : (x == ("__debug__" : Str)) = false := by decide) : PE X (.Name x pos) (tC v) :=
  fun _ _ _ H _ I h => ld_blt I hg hm hv ⟨v, H, I, r, h⟩ hn hd

/-! ### arithmetic -/
/-- two ints -/
def t2I (ta tb : TE) (k : Int → Int → Hp → Prop) : St → Hp → Prop := fun σ H => ta σ H fun x H1 => tb σ H1 fun y H2 => ∃ i j, x = .int i ∧ y = .int j ∧ k i j H2
def tAdd (ta tb : TE) : TE := fun σ H Q => t2I ta tb (fun i j H2 => Q (.int (i + j)) H2) σ H
def tSub (ta tb : TE) : TE := fun σ H Q => t2I ta tb (fun i j H2 => Q (.int (i - j)) H2) σ H
/-- the left factor below 2^64 -/
def tMul (ta tb : TE) : TE := fun σ H Q => t2I ta tb (fun i j H2 => (-(2 ^ 64) < i ∧ i < 2 ^ 64) ∧ Q (.int (i * j)) H2) σ H
variable {a b : Expr} {ta tb : TE} {pos : Pos}
/-! ### comparisons -/
def PC (X : Cx) (op : CmpOp) (a b : Expr) (t : TE) : Prop :=
  ∀ (pins : List (Addr × Obj)) (s : Shared) (σ : St) (H : Hp) (Q : VK), Inv X pins σ H s → t σ H Q →
    wpAny (model X.prog X.w) X.A (eval a X.env) (fun v s₁ => wpAny (model X.prog X.w) X.A (eval b X.env) (fun u s₂ => wpAny (model X.prog X.w) X.A (compareOp op v u) (EP X pins σ Q) X.xe s₂) X.xe s₁) X.xe s
def tCmp (p : Int → Int → Bool) (ta tb : TE) : TE := fun σ H Q => t2I ta tb (fun i j H2 => Q (.bl (p i j)) H2) σ H
abbrev tLt : TE → TE → TE := tCmp fun i j => decide (i < j)
abbrev tLe : TE → TE → TE := tCmp fun i j => decide (i ≤ j)
abbrev tGt : TE → TE → TE := tCmp fun i j => decide (j < i)
abbrev tGe : TE → TE → TE := tCmp fun i j => decide (j ≤ i)
abbrev tEqI : TE → TE → TE := tCmp fun i j => decide (i = j)
abbrev tNeI : TE → TE → TE := tCmp fun i j => !decide (i = j)
/-- is None -/
def tIsN (ta : TE) : TE := fun σ H Q => ta σ H fun x H1 => Q (.bl (decide (x = .non))) H1
def tNotN (ta : TE) : TE := fun σ H Q => ta σ H fun x H1 => Q (.bl (!decide (x = .non))) H1
/-- a comparison as a value, as a test -/
def tB (t : TE) : TT := fun σ H Q => t σ H fun x H1 => ∃ c, x = .bl c ∧ Q c H1
theorem pt_cmp {op : CmpOp} {t : TE} (h : PC X op a b t) (h1 : behindInMarks op b = false := by first | exact nobehind _ (by decide) (by decide) | rfl) : PT X (.Compare a [op] [b] pos) (tB t) := by
  intro pins s σ H Q I hw
  refine wpAny_isTrue_Compare1 (thn (h pins s σ H _ I hw) fun v s1 h1 => thn h1 fun u s2 h2 => thn h2 fun c s3 ⟨x, H1, I1, r1, q1⟩ => ?_) h1
  obtain ⟨d, rfl, q⟩ := q1
  cases r1
  exact wpAny_truthy_bool ⟨H1, I1, q⟩
/-- an expression whose value is a bool, as a test -/
theorem pt_val {e : Expr} {t : TE} (h : PE X e t) (he : ∀ whole, isTrue e X.env whole = (do let v ← whole; standAt e.pos; holding [v] (truthy v)) := by intro _; rfl) : PT X e (tB t) := by
  intro pins s σ H Q I hw
  refine isTrue_plain (thn (h pins s σ H _ I hw) fun v s1 ⟨x, H1, I1, r1, q1⟩ => ?_) (he _)
  obtain ⟨d, rfl, q⟩ := q1
  cases r1
  exact wpAny_truthy_bool ⟨H1, I1, q⟩

/-! ### and, or, not -/
variable {tA tB' : TT} {rest : List Expr}
def tAnd (t u : TT) : TT := fun σ H Q => t σ H fun c H1 => if c = true then u σ H1 Q else Q false H1
def tOr (t u : TT) : TT := fun σ H Q => t σ H fun c H1 => if c = true then Q true H1 else u σ H1 Q
def tNot (t : TT) : TT := fun σ H Q => t σ H fun c H1 => Q (!c) H1
theorem pw_and1 (ha : PT X a tA) : PW X (.BoolOp .And [a] pos) tA := by
  intro wh pins s σ H Q I h
  refine isTrue_and (thn (ha pins s σ H Q I h) fun c s1 e => ?_)
  cases c with
  | true => exact isTrue_and_nil e
  | false => exact e
theorem pw_or1 (ha : PT X a tA) : PW X (.BoolOp .Or [a] pos) tA := by
  intro wh pins s σ H Q I h
  refine isTrue_or (thn (ha pins s σ H Q I h) fun c s1 e => ?_)
  cases c with
  | false => exact isTrue_or_nil e
  | true => exact e
theorem pw_and (ha : PT X a tA) (hb : PW X (.BoolOp .And (b :: rest) pos) tB') : PW X (.BoolOp .And (a :: b :: rest) pos) (tAnd tA tB') := by
  intro wh pins s σ H Q I h
  refine isTrue_and (thn (ha pins s σ H _ I h) fun c s1 ⟨H1, I1, q1⟩ => ?_)
  cases c with
  | true => exact hb wh pins s1 σ H1 Q I1 q1
  | false => exact ⟨H1, I1, q1⟩
theorem pw_or (ha : PT X a tA) (hb : PW X (.BoolOp .Or (b :: rest) pos) tB') : PW X (.BoolOp .Or (a :: b :: rest) pos) (tOr tA tB') := by
  intro wh pins s σ H Q I h
  refine isTrue_or (thn (ha pins s σ H _ I h) fun c s1 ⟨H1, I1, q1⟩ => ?_)
  cases c with
  | true => exact ⟨H1, I1, q1⟩
  | false => exact hb wh pins s1 σ H1 Q I1 q1
theorem pt_not (ha : PT X a tA) : PT X (.UnaryOp .Not a pos) (tNot tA) := by
  intro pins s σ H Q I h
  exact isTrue_not (ha pins s σ H (fun c H1 => Q (!c) H1) I h)
/-- .. as values (bools) -/
def tAndV (ta tb : TE) : TE := fun σ H Q => ta σ H fun x H1 => ∃ c, x = .bl c ∧ if c = true then tb σ H1 Q else Q (.bl false) H1
def tOrV (ta tb : TE) : TE := fun σ H Q => ta σ H fun x H1 => ∃ c, x = .bl c ∧ if c = true then Q (.bl true) H1 else tb σ H1 Q
def tNotV (ta : TE) : TE := fun σ H Q => ta σ H fun x H1 => ∃ c, x = .bl c ∧ Q (.bl (!c)) H1
theorem pe_one {op} {t : TE} (h : PE X a t) : PE X (.BoolOp op [a] pos) t := fun pins s σ H Q I hw => BoolOp_one (h pins s σ H Q I hw)
theorem pe_and (ha : PE X a ta) (hb : PE X (.BoolOp .And (b :: rest) pos) tb) : PE X (.BoolOp .And (a :: b :: rest) pos) (tAndV ta tb) := by
  intro pins s σ H Q I h
  refine BoolOp_and (thn (ha pins s σ H _ I h) fun v s1 ⟨x, H1, I1, r1, q1⟩ => ?_)
  obtain ⟨c, rfl, q1⟩ := q1
  cases r1
  refine wpAny_truthy_bool ?_
  cases c with
  | true => exact hb pins s1 σ H1 Q I1 q1
  | false => exact ⟨.bl false, H1, I1, rfl, q1⟩
theorem pe_or (ha : PE X a ta) (hb : PE X (.BoolOp .Or (b :: rest) pos) tb) : PE X (.BoolOp .Or (a :: b :: rest) pos) (tOrV ta tb) := by
  intro pins s σ H Q I h
  refine BoolOp_or (thn (ha pins s σ H _ I h) fun v s1 ⟨x, H1, I1, r1, q1⟩ => ?_)
  obtain ⟨c, rfl, q1⟩ := q1
  cases r1
  refine wpAny_truthy_bool ?_
  cases c with
  | false => exact hb pins s1 σ H1 Q I1 q1
  | true => exact ⟨.bl true, H1, I1, rfl, q1⟩
theorem pe_not (ha : PE X a ta) : PE X (.UnaryOp .Not a pos) (tNotV ta) := by
  intro pins s σ H Q I h
  refine UnaryOp_ (thn (ha pins s σ H _ I h) fun v s1 ⟨x, H1, I1, r1, q1⟩ => ?_)
  obtain ⟨c, rfl, q1⟩ := q1
  cases r1
  exact not_of (wpAny_truthy_bool ⟨.bl (!c), H1, I1, rfl, q1⟩)
/-- a if t else b -/
def tIf (t : TT) (ta tb : TE) : TE := fun σ H Q => t σ H fun c H1 => if c = true then ta σ H1 Q else tb σ H1 Q
end
end L2

namespace L2
open PySem PySem.Spec PyProof.Rows

/-! ### a list, a tuple that is read: tracked, frozen, or an object of the module -/
def SqL (K : PySem.W.Frag) (H : Hp) (a : Addr) (xs : List V) : Prop :=
  Rd H a (.lst xs) ∨
    ∃ (o : Obj) (its : Array Value) (n : Nat), K.lookup a = some o ∧ o.cls = .type "list" ∧ o.dict = none ∧ o.data = .seq its n ∧ its.size ≤ sizeLine ∧ Vals xs its.toList
def SqT (K : PySem.W.Frag) (H : Hp) (a : Addr) (xs : List V) : Prop :=
  Rd H a (.tup xs) ∨
    ∃ (o : Obj) (its : Array Value) (n : Nat), K.lookup a = some o ∧ o.cls = .type "tuple" ∧ o.data = .seq its n ∧ its.size ≤ sizeLine ∧ Vals xs its.toList
def absV : Value → Option V
  | .none => some .non
  | .bool b => some (.bl b)
  | .int i _ => some (.int i)
  | .str x _ => some (.str x)
  | .bytes b _ => some (.byt b)
  | .float b _ => some (.flt b)
  | .ref a => some (.ref a)
  | .type n => some (.ty n)
  | _ => none
theorem RelV.abs {x : V} {u : Value} (r : RelV x u) : absV u = some x := by
  cases x with
  | non => cases r; rfl
  | bl _ => cases r; rfl
  | int _ => obtain ⟨t, rfl⟩ := r; rfl
  | str _ => obtain ⟨t, rfl⟩ := r; rfl
  | byt _ => obtain ⟨t, rfl⟩ := r; rfl
  | flt _ => obtain ⟨t, rfl⟩ := r; rfl
  | ref _ => cases r; rfl
  | ty _ => cases r; rfl
theorem RelV.inj {x y : V} {u : Value} (r : RelV x u) (q : RelV y u) : x = y := Option.some.inj (r.abs.symm.trans q.abs)
theorem Vals.inj : ∀ {xs ys : List V} {us : List Value}, Vals xs us → Vals ys us → xs = ys
  | _, _, _, .nil, .nil => rfl
  | _, _, _, .cons r t, .cons r' t' => by rw [r.inj r', Vals.inj t t']
section
variable {X : Cx} {pins : List (Addr × Obj)} {σ : St} {H : Hp} {s : Shared} {a : Addr} {xs ys : List V}
theorem SqL.of {K : PySem.W.Frag} (h : H a = some (.lst xs)) : SqL K H a xs := .inl (.inl h)
theorem SqT.of {K : PySem.W.Frag} (h : H a = some (.tup xs)) : SqT K H a xs := .inl (.inl h)
theorem Inv.list (I : Inv X pins σ H s) (h : SqL X.K H a xs) : ∃ its : List Value, Vals xs its ∧ PlainL s.heap a its.toArray ∧ xs.length ≤ sizeLine := by
  rcases h with h | ⟨o, its, n, hk, hc, hd, hs, hz, r⟩
  · obtain ⟨z, its, n, r, e⟩ := h.ok I.hok
    exact ⟨its, r, ⟨_, n, e, rfl, rfl, rfl⟩, z⟩
  · refine ⟨its.toList, r, ⟨o, n, I.kIn a o hk, hc, hd, by simpa using hs⟩, ?_⟩
    have e := r.length
    simp only [Array.length_toList] at e
    omega
theorem Inv.tuple (I : Inv X pins σ H s) (h : SqT X.K H a xs) : ∃ its : List Value, Vals xs its ∧ IsTup s.heap a its.toArray ∧ xs.length ≤ sizeLine := by
  rcases h with h | ⟨o, its, n, hk, hc, hs, hz, r⟩
  · obtain ⟨z, its, r, p⟩ := h.ok I.hok
    exact ⟨its, r, p, z⟩
  · refine ⟨its.toList, r, ⟨o, I.kIn a o hk, hc, n, by simpa using hs⟩, ?_⟩
    have e := r.length
    simp only [Array.length_toList] at e
    omega
theorem Inv.list_inj (I : Inv X pins σ H s) (h : SqL X.K H a xs) (h' : SqL X.K H a ys) : xs = ys := by
  obtain ⟨its, r, ⟨o, n, e, _, _, d⟩, _⟩ := I.list h
  obtain ⟨its', r', ⟨o', n', e', _, _, d'⟩, _⟩ := I.list h'
  rw [e] at e'; cases e'
  rw [d] at d'
  injection d' with d1 _
  have : its = its' := by simpa using congrArg Array.toList d1
  subst this
  exact r.inj r'
theorem Inv.tuple_inj (I : Inv X pins σ H s) (h : SqT X.K H a xs) (h' : SqT X.K H a ys) : xs = ys := by
  obtain ⟨its, r, ⟨o, e, _, n, d⟩, _⟩ := I.tuple h
  obtain ⟨its', r', ⟨o', e', _, n', d'⟩, _⟩ := I.tuple h'
  rw [e] at e'; cases e'
  rw [d] at d'
  injection d' with d1 _
  have : its = its' := by simpa using congrArg Array.toList d1
  subst this
  exact r.inj r'
end

/-! ### another wish about exceptions -/
abbrev Cx.wish (X : Cx) (E : Value → Shared → Prop) : Cx := { X with xe := E }
/-- no exception leaves -/
abbrev Cx.nox (X : Cx) : Cx := X.wish fun _ _ => False
theorem Cx.Ok.wish {X : Cx} (ok : X.Ok) (E : Value → Shared → Prop) : (X.wish E).Ok :=
  ⟨ok.mod, ok.kind, ok.glob, ok.blt, ok.above, ok.inj, ok.has, ok.cab, ok.hd, ok.frames, ok.stk, ok.exf, ok.bs, ok.bsz, ok.noex, ok.exfs, ok.funs, ok.frf⟩
theorem Cx.Ok.unwish {X : Cx} {E : Value → Shared → Prop} (ok : (X.wish E).Ok) : X.Ok :=
  ⟨ok.mod, ok.kind, ok.glob, ok.blt, ok.above, ok.inj, ok.has, ok.cab, ok.hd, ok.frames, ok.stk, ok.exf, ok.bs, ok.bsz, ok.noex, ok.exfs, ok.funs, ok.frf⟩
section
variable {X : Cx} {pins : List (Addr × Obj)} {σ : St} {H : Hp} {s : Shared} {E : Value → Shared → Prop}
theorem Inv.wish (I : Inv X pins σ H s) (E : Value → Shared → Prop) : Inv (X.wish E) pins σ H s := ⟨I.ok.wish E, I.os, I.bare, I.base, I.loc, I.cell, I.free, I.freeC, I.pin, I.hok, I.len⟩
theorem Inv.unwish (I : Inv (X.wish E) pins σ H s) : Inv X pins σ H s := ⟨I.ok.unwish, I.os, I.bare, I.base, I.loc, I.cell, I.free, I.freeC, I.pin, I.hok, I.len⟩
theorem SP.unwish {D : Ends} {f : Flow} {s' : Shared} (h : SP (X.wish E) pins D f s') : SP X pins D f s' := by
  cases f with
  | next => obtain ⟨σ', H', I, q⟩ := h; exact ⟨σ', H', I.unwish, q⟩
  | brk => obtain ⟨σ', H', I, q⟩ := h; exact ⟨σ', H', I.unwish, q⟩
  | cont => obtain ⟨σ', H', I, q⟩ := h; exact ⟨σ', H', I.unwish, q⟩
  | ret u => obtain ⟨v, σ', H', I, r, q⟩ := h; exact ⟨v, σ', H', I.unwish, r, q⟩
theorem PSs.nox {st : List Stmt} {t : TS} (h : PSs X.nox st t) : PSs X st t := fun pins s σ H D I hw =>
  wpAny_mono (h pins s σ H D (I.wish _) hw) (fun _ _ q => q.unwish) fun _ _ z => False.elim z
end

/-! ### blocks and small statements -/
section
variable {X : Cx} {st : Stmt} {rest : List Stmt} {t u : TS} {e : Expr} {te : TE} {pos : Pos}
def tNext : TS := fun D σ H => D.nx σ H
def tSeq (t u : TS) : TS := fun D σ H => t { D with nx := u D } σ H
theorem pss_nil : PSs X [] tNext := fun _ _ σ H _ I h => wpAny_execs_nil ⟨σ, H, I, h⟩
theorem pss_cons (h1 : PS X st t) (h2 : PSs X rest u) : PSs X (st :: rest) (tSeq t u) := by
  intro pins s σ H D I h
  refine wpAny_execs_cons (thn (h1 pins s σ H { D with nx := u D } I h) fun f s1 q => ?_)
  cases f with
  | next =>
    obtain ⟨σ', H', I', q⟩ := q
    exact h2 pins s1 σ' H' D I' q
  | ret v => exact q
  | brk => exact q
  | cont => exact q
theorem pss_one (h1 : PS X st t) : PSs X [st] t := by
  intro pins s σ H D I h
  refine wpAny_execs_cons (thn (h1 pins s σ H D I h) fun f s1 q => ?_)
  cases f with
  | next => exact wpAny_execs_nil q
  | ret v => exact q
  | brk => exact q
  | cont => exact q
def tBreak : TS := fun D σ H => D.bk σ H
def tCont : TS := fun D σ H => D.ct σ H
/-- in a def's body nothing is shown -/
theorem Inv.quiet {pins : List (Addr × Obj)} {σ : St} {H : Hp} {s : Shared} (I : Inv X pins σ H s) : interactive X.env = false := by simp [interactive, I.ok.kind]
/-- an expression whose value is dropped -/
def tDrop (te : TE) : TS := fun D σ H => te σ H fun _ H1 => D.nx σ H1
theorem ps_expr (he : PE X e te) (hs : swapsWith e none pos.line X.env = pure false := by rfl) : PS X (.Expr e pos) (tDrop te) := by
  intro pins s σ H D I h
  exact wpAny_Expr_any (thn (he pins s σ H _ I h) fun v s1 ⟨x, H1, I1, r1, q1⟩ => ⟨σ, H1, I1, q1⟩) I.quiet hs
def tRet (te : TE) : TS := fun D σ H => te σ H D.rt
theorem ps_ret (he : PE X e te) : PS X (.Return (some e) pos) (tRet te) := by
  intro pins s σ H D I h
  exact wpAny_Return_some (thn (he pins s σ H _ I h) fun v s1 ⟨x, H1, I1, r1, q1⟩ => ⟨x, σ, H1, I1, r1, q1⟩)
def tRetN : TS := fun D _ H => D.rt .non H
def tIfS (c : TT) (t u : TS) : TS := fun D σ H => c σ H fun b H1 => if b = true then t D σ H1 else u D σ H1
theorem ps_if {c : Expr} {a b : List Stmt} {tc : TT} (hc : PT X c tc) (ha : PSs X a t) (hb : PSs X b u) : PS X (.If c a b pos) (tIfS tc t u) := by
  intro pins s σ H D I h
  refine wpAny_If (thn (hc pins s σ H _ I h) fun d s1 ⟨H1, I1, q1⟩ => ?_)
  cases d with
  | true => exact ha pins s1 σ H1 D I1 q1
  | false => exact hb pins s1 σ H1 D I1 q1
/-- code that the proof never comes to -/
def tNever : TS := fun _ _ _ => False
end

/-! ### targets -/
abbrev TG := V → St → Hp → (St → Hp → Prop) → Prop
abbrev TGs := List V → St → Hp → (St → Hp → Prop) → Prop
def PG (X : Cx) (target : Expr) (t : TG) : Prop :=
  ∀ (pins : List (Addr × Obj)) (s : Shared) (σ : St) (H : Hp) (v : V) (u : Value) (Q : St → Hp → Prop), Inv X pins σ H s → RelV v u → t v σ H Q →
    wpAny (model X.prog X.w) X.A (assign target X.env u) (fun _ s' => ∃ σ' H', Inv X pins σ' H' s' ∧ Q σ' H') X.xe s
/-- several targets, one after another -/
def PGs (X : Cx) (ts : List Expr) (t : TGs) : Prop :=
  ∀ (pins : List (Addr × Obj)) (s : Shared) (σ : St) (H : Hp) (vs : List V) (us : List Value) (Q : St → Hp → Prop), Inv X pins σ H s → Vals vs us → t vs σ H Q →
    wpAny (model X.prog X.w) X.A (assignInOrder ((assignEach ts X.env).map (·.2)) us) (fun _ s' => ∃ σ' H', Inv X pins σ' H' s' ∧ Q σ' H') X.xe s
/-- o[i] = v, by values -/
abbrev TSet := V → V → V → Hp → (Hp → Prop) → Prop
def PSet (X : Cx) (t : TSet) : Prop :=
  ∀ (pins : List (Addr × Obj)) (s : Shared) (σ : St) (H : Hp) (o i v : V) (ov iv u : Value) (Q : Hp → Prop), Inv X pins σ H s → RelV o ov → RelV i iv → RelV v u → t o i v H Q →
    wpAny (model X.prog X.w) X.A (setItem ov iv u) (fun _ s' => ∃ H', Inv X pins σ H' s' ∧ Q H') X.xe s
/-- a op= b, by values -/
abbrev TIp := V → V → Hp → VK → Prop
def PIp (X : Cx) (op : Operator) (t : TIp) : Prop :=
  ∀ (pins : List (Addr × Obj)) (s : Shared) (σ : St) (H : Hp) (x y : V) (v u : Value) (Q : VK), Inv X pins σ H s → RelV x v → RelV y u → t x y H Q →
    wpAny (model X.prog X.w) X.A (inplaceOp op v u) (EP X pins σ Q) X.xe s
section
variable {X : Cx} {pos : Pos}
def gName (i : Nat) : TG := fun v σ H Q => Q (σ.set i (some v)) H
theorem pg_name {i : Nat} {x : Str} (hN : X.N.Nodup) (hi : X.N[i]? = some x) (hx : Loc X.env.scope x) (hf : X.fn x = true ∨ X.env.scope.names.lookup x = some .local := by first | exact .inl rfl | exact .inr rfl | assumption) : PG X (.Name x pos) (gName i) := by
  intro pins s σ H v u Q I r h
  exact wpAny_assign_Name (store_ok I hN hi hx r (fun s' I' => ⟨_, H, I', h⟩) hf)
def gNil : TGs := fun vs σ H Q => vs = [] ∧ Q σ H
def gCons (t : TG) (u : TGs) : TGs := fun vs σ H Q => ∃ v r, vs = v :: r ∧ t v σ H fun σ' H' => u r σ' H' Q
theorem pgs_nil : PGs X [] gNil := by
  intro pins s σ H vs us Q I r h
  obtain ⟨e, h⟩ := h
  subst e
  cases r
  exact assignInOrder_nil ⟨σ, H, I, h⟩
theorem pgs_cons {e : Expr} {es : List Expr} {t : TG} {u : TGs} (h1 : PG X e t) (h2 : PGs X es u)
    (hs : (assignEach (e :: es) X.env).map (·.2) = assign e X.env :: (assignEach es X.env).map (·.2) := by rfl) : PGs X (e :: es) (gCons t u) := by
  intro pins s σ H vs us Q I r h
  obtain ⟨v, vr, e1, h⟩ := h
  subst e1
  cases r with
  | cons r rr =>
    rw [hs]
    refine assignInOrder_cons (thn (h1 pins s σ H _ _ _ I r h) fun _ s1 ⟨σ1, H1, I1, q1⟩ => ?_)
    exact h2 pins s1 σ1 H1 _ _ Q I1 rr q1
/-- (a, b, ..) = a tuple of that length -/
def gTup (K : PySem.W.Frag) (n : Nat) (t : TGs) : TG := fun v σ H Q => ∃ a xs, v = .ref a ∧ SqT K H a xs ∧ xs.length = n ∧ t xs σ H Q
theorem pg_tup {es : List Expr} {k : Nat} {t : TGs} {n : Nat} (hc : X.calm = true) (h : PGs X es t)
    (hn : (assignEach es X.env).length = n := by rfl) (hst : (assignEach es X.env).findIdx? (·.1) = none := by rfl) : PG X (.Tuple es k pos) (gTup X.K n t) := by
  intro pins s σ H v u Q I r hw
  obtain ⟨a, xs, e1, hq, hl, hw⟩ := hw
  subst e1
  cases r
  obtain ⟨its, rv, ht, hz⟩ := I.tuple hq
  refine assign_Tuple_tuple (I.ok.hd hc) ht (by simp [hn, ← hl, rv.length]) hst fun h' hx => ?_
  have I1 : Inv X pins σ H { s with heap := h' } := I.kept (t' := s.toks) fun b o e => hx b o (Nat.ne_of_lt (Heap.lt_size e)) e
  exact h pins _ σ H xs _ Q I1 (by simpa using rv) hw
/-- o[i] = .. -/
def gSub (to ti : TE) (t : TSet) : TG := fun v σ H Q => to σ H fun o H1 => ti σ H1 fun i H2 => t o i v H2 fun H3 => Q σ H3
/-- target = value -/
def tAsg (te : TE) (g : TG) : TS := fun D σ H => te σ H fun x H1 => g x σ H1 D.nx
/-- name = value -/
theorem ps_set {i : Nat} {x : Str} {e : Expr} {te : TE} {pos' : Pos} (hN : X.N.Nodup) (hi : X.N[i]? = some x) (hx : Loc X.env.scope x) (he : PE X e te) (hs : swapsWith e (some (.Name x pos')) pos.line X.env = pure false := by rfl) (hf : X.fn x = true ∨ X.env.scope.names.lookup x = some .local := by first | exact .inl rfl | exact .inr rfl | assumption) :
    PS X (.Assign [.Name x pos'] e pos) (tAsg te (gName i)) := by
  intro pins s σ H D I h
  refine wpAny_Assign_Name (thn (he pins s σ H _ I h) fun v s1 ⟨y, H1, I1, r1, q1⟩ => ?_) hs
  exact store_ok I1 hN hi hx r1 (fun s2 I2 => ⟨_, H1, I2, q1⟩) hf
/-- a, b = x, y with plain local names: stored from the right; the pair itself is not tracked (the opening rows as in PyProof/Rows/TupAssign.lean:23) -/
def tPar (i j : Nat) (ta : TA) : TS := fun D σ H => ta σ H fun vs H1 => ∃ v w, vs = [v, w] ∧ D.nx ((σ.set i (some v)).set j (some w)) H1
/-- name op= e -/
def tAug (i : Nat) (te : TE) (ti : TIp) : TS := fun D σ H => ∃ x, σ[i]? = some (some x) ∧ te σ H fun y H1 => ti x y H1 fun z H2 => D.nx (σ.set i (some z)) H2
/-- o[i] op= e -/
def tAugS (to ti te : TE) (tget : V → V → Hp → VK → Prop) (tip : TIp) (tset : TSet) : TS := fun D σ H => to σ H fun o H1 => ti σ H1 fun i H2 => tget o i H2 fun x H3 => te σ H3 fun y H4 => tip x y H4 fun z H5 => tset o i z H5 fun H6 => D.nx σ H6
/-- o[i], by values -/
def PGet (X : Cx) (t : V → V → Hp → VK → Prop) : Prop :=
  ∀ (pins : List (Addr × Obj)) (s : Shared) (σ : St) (H : Hp) (o i : V) (ov iv : Value) (Q : VK), Inv X pins σ H s → RelV o ov → RelV i iv → t o i H Q →
    wpAny (model X.prog X.w) X.A (getItem ov iv) (EP X pins σ Q) X.xe s
/-- ints -/
def ipI (f : Int → Int → Int) : TIp := fun x y H Q => ∃ i j, x = .int i ∧ y = .int j ∧ Q (.int (f i j)) H
end

/-! ### while -/
section
variable {X : Cx} {pos : Pos}
/-- the invariant W with its measure -/
def tWhile (c : TT) (tb : TS) : TS := fun D σ H => ∃ W : Nat → St → Hp → Prop, (∃ m, W m σ H) ∧ ∀ m σ H, W m σ H →
  c σ H fun b H1 => if b = true then ∃ N : St → Hp → Prop, (∀ σ' H', N σ' H' → ∃ m', m' < m ∧ W m' σ' H') ∧ tb { D with nx := N, ct := N, bk := D.nx } σ H1 else D.nx σ H1
theorem ps_while {c : Expr} {body : List Stmt} {tc : TT} {tb : TS} (hp : PassesOwn (model X.prog X.w) X.A X.env X.xe) (hc : PT X c tc) (hb : PSs X body tb) : PS X (.While c body [] pos) (tWhile tc tb) := by
  intro pins s σ H D I h
  obtain ⟨W, ⟨m0, w0⟩, turn⟩ := h
  refine wpAny_While (codeAny_whileLoop (fun n s' => ∃ σ' H', Inv X pins σ' H' s' ∧ W n σ' H') ?_ m0 ⟨σ, H, I, w0⟩)
  rintro n s1 ⟨σ1, H1, I1, w1⟩
  refine wpAny_passesOwn hp (thn (hc pins s1 σ1 H1 _ I1 (turn n σ1 H1 w1)) fun b s2 ⟨H2, I2, q2⟩ => ?_)
  cases b with
  | true =>
    obtain ⟨N, hN, q2⟩ := q2
    rw [if_pos rfl]
    refine wpAny_passesOwn hp (thn (hb pins s2 σ1 H2 _ I2 q2) fun f s3 q3 => ?_)
    cases f with
    | next =>
      obtain ⟨σ3, H3, I3, n3⟩ := q3
      obtain ⟨m', hm, w3⟩ := hN σ3 H3 n3
      exact ⟨m', hm, σ3, H3, I3, w3⟩
    | cont =>
      obtain ⟨σ3, H3, I3, n3⟩ := q3
      obtain ⟨m', hm, w3⟩ := hN σ3 H3 n3
      exact ⟨m', hm, σ3, H3, I3, w3⟩
    | brk => exact q3
    | ret v => exact q3
  | false =>
    rw [if_neg Bool.false_ne_true]
    exact wpAny_execs_nil ⟨σ1, H2, I2, q2⟩
end

/-! ### what a loop or a comprehension walks -/
/-- at turn i: it yields x (the heap may grow), or it stops -/
structure It where
  go : Nat → Hp → Prop
  yld : Nat → Hp → V → Hp → Prop
  stop : Nat → Hp → Prop
/-- the iterator's own objects may turn: they are not the frame's, not pinned, younger than the entry (or a comprehension's own) -/
def FpOk (X : Cx) (pins : List (Addr × Obj)) (H : Hp) (b : Addr) : Prop :=
  H b = none ∧ b ≠ X.env.locals ∧ b ∉ X.fs ∧ (b ∈ X.ex ∨ X.s₀.heap.objs.size ≤ b) ∧ (∀ x c, X.env.cells.lookup x = some c → c ≠ b) ∧ ∀ p ∈ X.pn ++ pins, p.1 ≠ b
theorem Inv.fpOk {X : Cx} {pins : List (Addr × Obj)} {σ : St} {H H' : Hp} {s : Shared} {b : Addr} (I : Inv X pins σ H s) (hb : s.heap.objs.size ≤ b) (hn : H' b = none) : FpOk X pins H' b := by
  refine ⟨hn, Nat.ne_of_gt (Nat.lt_of_lt_of_le I.lt hb), I.nofs hb, .inr (Nat.le_trans I.sz hb), fun x c e z => ?_, fun p hp z => ?_⟩
  · obtain ⟨v, q⟩ := I.cell x c e
    exact absurd (Nat.lt_of_lt_of_le q.lt (by rw [z]; exact hb)) (Nat.lt_irrefl _)
  · exact absurd (Nat.lt_of_lt_of_le (Heap.lt_size (I.pin p hp).1) (by rw [z]; exact hb)) (Nat.lt_irrefl _)
structure Turn (P : Program) (w : World) (K : PySem.W.Frag) (tg : Expr) (J : It) (fp : List Addr) (it : Addr) (tn : Nat → Heap → Prop) : Prop where
  mem : it ∈ fp
  obj : ∀ i h, tn i h → ∀ b ∈ fp, ∃ o, h.get? b = some o ∧ ∀ v, o.data ≠ .cell v
  keep : ∀ i h h', tn i h → (∀ b ∈ fp, ∀ o, h.get? b = some o → h'.get? b = some o) → tn i h'
  item : ∀ (X : Cx), X.prog = P → X.w = w → X.K = K → X.calm = true → ∀ (i : Nat) (pins : List (Addr × Obj)) (s : Shared) (σ : St) (H : Hp) (E : Value → Shared → Prop), Inv X pins σ H s → (∀ b ∈ fp, FpOk X pins H b) → tn i s.heap → J.go i H →
    wpAny (model P w) X.A (pyNext (.ref it)) (fun r s1 => ∃ u, r = some u ∧
      wpAny (model P w) X.A (letOwnedTupleGo tg (.ref it) u) (fun _ s2 => ∃ x H', Inv X pins σ H' s2 ∧ RelV x u ∧ J.yld i H x H' ∧ tn (i + 1) s2.heap ∧ ∀ b ∈ fp, H' b = none) E s1) E s
  done : ∀ (X : Cx), X.prog = P → X.w = w → X.K = K → X.calm = true → ∀ (i : Nat) (pins : List (Addr × Obj)) (s : Shared) (σ : St) (H : Hp) (E : Value → Shared → Prop), Inv X pins σ H s → (∀ b ∈ fp, FpOk X pins H b) → tn i s.heap → J.stop i H →
    wpAny (model P w) X.A (pyNext (.ref it)) (fun r s1 => r = none ∧ Inv X pins σ H s1) E s
  self : ∀ (A : Around) (i : Nat) (s : Shared) (Q : Value → Shared → Prop) (E : Value → Shared → Prop), tn i s.heap → Q (.ref it) s → wpAny (model P w) A (pyIter (.ref it)) Q E s
abbrev TI := St → Hp → (It → Hp → Prop) → Prop
/-- an iterator has come -/
def PIE (X : Cx) (pins : List (Addr × Obj)) (σ : St) (tg : Expr) (R : It → Hp → Prop) (itv : Value) (s2 : Shared) : Prop :=
  ∃ (it : Addr) (fp : List Addr) (tn : Nat → Heap → Prop) (J : It) (H' : Hp), itv = .ref it ∧ Inv X pins σ H' s2 ∧ Turn X.prog X.w X.K tg J fp it tn ∧ tn 0 s2.heap ∧ (∀ b ∈ fp, FpOk X pins H' b) ∧ R J H'
def PI (X : Cx) (tg iter : Expr) (wi : TI) : Prop :=
  ∀ (pins : List (Addr × Obj)) (s : Shared) (σ : St) (H : Hp) (R : It → Hp → Prop), Inv X pins σ H s → wi σ H R →
    wpAny (model X.prog X.w) X.A (eval iter X.env) (fun v s1 => wpAny (model X.prog X.w) X.A (pyIter v) (PIE X pins σ tg R) X.xe s1) X.xe s

/-- the step ahead of the store is nothing for an iterator that keeps no tuple -/
theorem go_of {M : Model} {A : Around} {E : Value → Shared → Prop} {s : Shared} {tg : Expr} {it : Addr} {u : Value} {o : Obj} {n : String} {vs : Array Value} {Q : Unit → Shared → Prop} (ho : s.heap.get? it = some o) (hc : o.cls = .type n) (hd : o.data = .fields vs)
    (hn : ["enumerate", "zip", "dict_itemiterator", "dict_reverseitemiterator", "odict_iterator", "itertools.zip_longest", "itertools.pairwise"].contains n = false) (hQ : Q () s) : wpAny M A (letOwnedTupleGo tg (.ref it) u) Q E s := by
  unfold letOwnedTupleGo
  cases tg <;> first
    | exact wpAny_pure hQ
    | (cases u <;> first
        | exact wpAny_pure hQ
        | (refine wpAny_bind (wpAny_load ho ?_)
           rw [hc, hd]
           show wpAny M A (if (["enumerate", "zip", "dict_itemiterator", "dict_reverseitemiterator", "odict_iterator", "itertools.zip_longest", "itertools.pairwise"].contains n && vs[0]? == some (rawInt _)) = true then _ else _) Q E s
           rw [if_neg (by intro h; rw [hn, Bool.false_and] at h; cases h)]
           exact wpAny_pure hQ))

/-- the list at a, as it stands at each turn (a loop may append to it) -/
def Itl (K : PySem.W.Frag) (a : Addr) : It :=
  ⟨fun i H => ∃ xs x, SqL K H a xs ∧ xs[i]? = some x, fun i H x H' => H' = H ∧ ∀ xs, SqL K H a xs → xs[i]? = some x, fun i H => ∃ xs, SqL K H a xs ∧ xs.length ≤ i⟩
def Itt (K : PySem.W.Frag) (a : Addr) : It :=
  ⟨fun i H => ∃ xs x, SqT K H a xs ∧ xs[i]? = some x, fun i H x H' => H' = H ∧ ∀ xs, SqT K H a xs → xs[i]? = some x, fun i H => ∃ xs, SqT K H a xs ∧ xs.length ≤ i⟩
/-- lo, lo + 1, .. (n of them) -/
def Itr (lo : Int) (n : Nat) : It := ⟨fun i _ => i < n, fun i H x H' => H' = H ∧ x = .int (lo + i), fun i _ => n ≤ i⟩
theorem turn_list {P : Program} {w : World} {K : PySem.W.Frag} {tg : Expr} (a it : Addr) : Turn P w K tg (Itl K a) [it] it (fun i h => h.IsListIter it a i) where
  mem := by simp
  obj := fun i h st b hb => by
    have e : b = it := by simpa using hb
    subst e
    obtain ⟨o, e, c, d⟩ := st
    exact ⟨o, e, fun v z => by rw [d] at z; cases z⟩
  keep := fun i h h' st k => st.at fun o e => k it (by simp) o e
  item := by
    intro X hP hw hK hc i pins s σ H E I hf st hg
    subst hP hw hK
    obtain ⟨xs, x, hq, hx⟩ := hg
    obtain ⟨its, rv, p, hz⟩ := I.list hq
    obtain ⟨u, hu, ru⟩ := rv.get hx
    obtain ⟨f0, f1, f2, f3, f4, f5⟩ := hf it (by simp)
    refine wpAny_pyNext_list_item st p.isList (x := u) (by simpa using hu) fun h' st' sb => ?_
    have I1 : Inv X pins σ H { s with heap := h' } := I.turned (t' := s.toks) (fun b o hb e => (sb.2 b hb).trans e) f0 f1 f3 f4 f5
    obtain ⟨o, e, c, d⟩ := id st'
    exact ⟨u, rfl, go_of (s := { s with heap := h' }) e c d (by decide) ⟨x, H, I1, ru, ⟨rfl, fun ys hy => by rw [I.list_inj hy hq]; exact hx⟩, st', fun b hb => (hf b hb).1⟩⟩
  done := by
    intro X hP hw hK hc i pins s σ H E I hf st hg
    subst hP hw hK
    obtain ⟨xs, hq, hx⟩ := hg
    obtain ⟨its, rv, p, hz⟩ := I.list hq
    obtain ⟨f0, f1, f2, f3, f4, f5⟩ := hf it (by simp)
    have hl := rv.length
    exact wpAny_pyNext_list_end (I.ok.hd hc) st p.isList (by simp; omega) fun h' eb => ⟨rfl, I.turned (t' := s.toks) (fun b o hb e => eb b o hb e) f0 f1 f3 f4 f5⟩
  self := fun _ _ _ _ _ st h => wpAny_pyIter_listiter st h
theorem turn_range {P : Program} {w : World} {K : PySem.W.Frag} {tg : Expr} (it : Addr) (lo : Int) (n : Nat) : Turn P w K tg (Itr lo n) [it] it (fun i h => IsRangeIter h it (lo + (i : Nat) * 1) ((n : Int) - (i : Nat)) 1) where
  mem := by simp
  obj := fun i h st b hb => by
    have e : b = it := by simpa using hb
    subst e
    exact ⟨_, st, fun v z => by
      have z' : Data.fields _ = Data.cell v := z
      cases z'⟩
  keep := fun i h h' st k => k it (by simp) _ st
  item := by
    intro X hP hw hK hc i pins s σ H E I hf st hg
    subst hP hw hK
    obtain ⟨f0, f1, f2, f3, f4, f5⟩ := hf it (by simp)
    have W := Walks.range (prog := X.prog) (w := X.w) (I.ok.hd hc) it lo 1 n
    refine W.item i s _ _ hg st fun v h' tk hv st' kk => ?_
    obtain ⟨t, rfl⟩ := hv
    have I1 : Inv X pins σ H { s with heap := h', toks := tk } := I.turned (fun b o hb e => kk b o (by simpa using hb) e) f0 f1 f3 f4 f5
    refine ⟨_, rfl, go_of (s := { s with heap := h', toks := tk }) (n := "range_iterator") st' rfl rfl (by decide) ⟨.int (lo + i), H, I1, ⟨t, ?_⟩, ⟨rfl, rfl⟩, st', fun b hb => (hf b hb).1⟩⟩
    rw [Int.mul_one]
  done := by
    intro X hP hw hK hc i pins s σ H E I hf st hg
    subst hP hw hK
    obtain ⟨f0, f1, f2, f3, f4, f5⟩ := hf it (by simp)
    exact wpAny_pyNext_range_end (I.ok.hd hc) st (by have : n ≤ i := hg; omega) fun h' eb => ⟨rfl, I.turned (t' := s.toks) (fun b o hb e => eb b o hb e) f0 f1 f3 f4 f5⟩
  self := fun _ _ _ _ _ st h => wpAny_pyIter_rangeiter st h
end L2

namespace L2
open PySem PySem.Spec PyProof.Rows
section
variable {X : Cx} {tg : Expr}
def iList (K : PySem.W.Frag) (tl : TE) : TI := fun σ H R => tl σ H fun x H1 => ∃ a, x = .ref a ∧ (∃ xs, SqL K H1 a xs) ∧ R (Itl K a) H1
def iTup (K : PySem.W.Frag) (tl : TE) : TI := fun σ H R => tl σ H fun x H1 => ∃ a, x = .ref a ∧ (∃ xs, SqT K H1 a xs) ∧ R (Itt K a) H1
theorem pi_list {l : Expr} {tl : TE} (hl : PE X l tl) : PI X tg l (iList X.K tl) := by
  intro pins s σ H R I h
  refine thn (hl pins s σ H _ I h) fun v s1 ⟨x, H1, I1, r1, q1⟩ => ?_
  obtain ⟨a, e, ⟨xs, hq⟩, q⟩ := q1
  subst e
  cases r1
  obtain ⟨its, rv, p, hz⟩ := I1.list hq
  refine wpAny_pyIter_list p.isList ?_
  refine ⟨s1.heap.objs.size, [s1.heap.objs.size], _, _, H1, rfl, I1.kept (t' := s1.toks) fun b o e => Heap.get?_push_of_some _ e, turn_list a _, ⟨_, Heap.get?_push_size _ rfl, rfl, rfl⟩, fun b hb => ?_, q⟩
  have e : b = s1.heap.objs.size := by simpa using hb
  subst e
  exact I1.fpOk (Nat.le_refl _) (I1.hok.fresh (Nat.le_refl _))
/-- a range object just made, walked -/
theorem range_it {pins : List (Addr × Obj)} {σ : St} {H : Hp} {s : Shared} {R : It → Hp → Prop} {E : Value → Shared → Prop} {lo hi : Int} {t u v : Tok} {tk : Nat} (I : Inv X pins σ H s) (h1 : -(2 ^ 62) ≤ lo) (h2 : lo < 2 ^ 62) (h3 : -(2 ^ 62) ≤ hi) (h4 : hi < 2 ^ 62)
    (q : R (Itr lo (hi - lo).toNat) H) : wpAny (model X.prog X.w) X.A (pyIter (.ref s.heap.objs.size)) (PIE X pins σ tg R) E { s with heap := s.heap.push { cls := .type "range", data := .fields #[.int lo t, .int hi u, .int 1 v] }, toks := tk } := by
  refine wpAny_pyIter_range (IsRange.new ..) (small_one h1 h2 h3 h4) ?_
  have I1 : Inv X pins σ H { s with heap := s.heap.push { cls := .type "range", data := .fields #[.int lo t, .int hi u, .int 1 v] }, toks := tk } := I.kept fun b o e => Heap.get?_push_of_some _ e
  refine ⟨(s.heap.push { cls := .type "range", data := .fields #[.int lo t, .int hi u, .int 1 v] }).objs.size, [(s.heap.push { cls := .type "range", data := .fields #[.int lo t, .int hi u, .int 1 v] }).objs.size], _, _, H, rfl,
    I1.kept (t' := tk) fun b o e => Heap.get?_push_of_some _ e, turn_range _ lo (hi - lo).toNat, ?_, fun b hb => ?_, q⟩
  · have e1 : lo + ((0 : Nat) : Int) * 1 = lo := by simp
    have e2 : (((hi - lo).toNat : Nat) : Int) - ((0 : Nat) : Int) = Builtin.Range.rangeSize lo hi 1 := by rw [rangeSize_one]; split <;> omega
    show IsRangeIter _ _ (lo + ((0 : Nat) : Int) * 1) ((((hi - lo).toNat : Nat) : Int) - ((0 : Nat) : Int)) 1
    rw [e1, e2]
    exact Heap.get?_push_size _ rfl
  · have e : b = (s.heap.push { cls := .type "range", data := .fields #[.int lo t, .int hi u, .int 1 v] }).objs.size := by simpa using hb
    subst e
    exact I1.fpOk (Nat.le_refl _) (I1.hok.fresh (Nat.le_refl _))
def iRng1 (ta : TA) : TI := fun σ H R => ta σ H fun vs H1 => ∃ j : Int, vs = [.int j] ∧ -(2 ^ 62) ≤ j ∧ j < 2 ^ 62 ∧ R (Itr 0 j.toNat) H1
def iRng2 (ta : TA) : TI := fun σ H R => ta σ H fun vs H1 => ∃ i j : Int, vs = [.int i, .int j] ∧ (-(2 ^ 62) ≤ i ∧ i < 2 ^ 62 ∧ -(2 ^ 62) ≤ j ∧ j < 2 ^ 62) ∧ R (Itr i (j - i).toNat) H1
theorem pi_range1 {a : Expr} {ta : TA} {p pos : Pos} (hg : Gl X "range") (hm : X.mg "range" = none) (ha : PA X [a] ta) (hs : starEach [a] X.env = [(false, eval a X.env)] := by rfl) : PI X tg (.Call (.Name "range" p) [a] [] pos) (iRng1 ta) := by
  intro pins s σ H R I h
  refine Call_ (ld_blt I hg hm boot_range (PyProof.Rows.callWith_type1 (thn (ha pos pins s σ H _ I h) fun us s1 ⟨vs, H1, I1, r1, q1⟩ => ?_) hs rfl))
  obtain ⟨j, e, q1, q2, q⟩ := q1
  subst e
  cases r1 with
  | cons r rr =>
    cases rr
    obtain ⟨t, rfl⟩ := r
    exact call_range_1 (range_it I1 (by omega) (by omega) q1 q2 (by simpa using q))
theorem pi_range2 {a b : Expr} {ta : TA} {p pos : Pos} (hg : Gl X "range") (hm : X.mg "range" = none) (ha : PA X [a, b] ta) (hs : starEach [a, b] X.env = [(false, eval a X.env), (false, eval b X.env)] := by rfl) (hs2 : starEach [b] X.env = [(false, eval b X.env)] := by rfl) :
    PI X tg (.Call (.Name "range" p) [a, b] [] pos) (iRng2 ta) := by
  intro pins s σ H R I h
  refine Call_ (ld_blt I hg hm boot_range (PyProof.Rows.callWith_type1 (thn (ha pos pins s σ H _ I h) fun us s1 ⟨vs, H1, I1, r1, q1⟩ => ?_) (by rw [hs, hs2]) (by rw [hs2]; rfl)))
  obtain ⟨i, j, e, ⟨q1, q2, q3, q4⟩, q⟩ := q1
  subst e
  cases r1 with
  | cons r rr =>
    cases rr with
    | cons r' rr =>
      cases rr
      obtain ⟨t, rfl⟩ := r
      obtain ⟨t', rfl⟩ := r'
      exact call_range_2 (range_it I1 q1 q2 q3 q4 q)

/-! ### for -/
/-- W: the invariant by the turn and a measure; N: what the body is to reach -/
def tFor (wi : TI) (g : TG) (tb : TS) : TS := fun D σ H => wi σ H fun J H1 => ∃ W : Nat → Nat → St → Hp → Prop, (∃ m, W 0 m σ H1) ∧ ∀ i m σ H, W i m σ H →
  (J.stop i H ∧ D.nx σ H) ∨ (J.go i H ∧ ∃ N : St → Hp → Prop, (∀ σ' H', N σ' H' → ∃ m', m' < m ∧ W (i + 1) m' σ' H') ∧ ∀ x H', J.yld i H x H' → g x σ H' fun σ2 H2 => tb { D with nx := N, ct := N, bk := D.nx } σ2 H2)
/-- the records at fp as they stand -/
def pinsAt (fp : List Addr) (h : Heap) : List (Addr × Obj) := fp.filterMap fun b => (h.get? b).map fun o => (b, o)
theorem mem_pinsAt {fp : List Addr} {h : Heap} {b : Addr} {o : Obj} (hb : b ∈ fp) (e : h.get? b = some o) : (b, o) ∈ pinsAt fp h := List.mem_filterMap.mpr ⟨b, hb, by rw [e]; rfl⟩
theorem of_pinsAt {fp : List Addr} {h : Heap} {p : Addr × Obj} (hp : p ∈ pinsAt fp h) : p.1 ∈ fp ∧ h.get? p.1 = some p.2 := by
  obtain ⟨b, hb, e⟩ := List.mem_filterMap.mp hp
  cases q : h.get? b with
  | none => rw [q] at e; cases e
  | some o =>
    rw [q] at e
    have e' : (b, o) = p := Option.some.inj e
    subst e'
    exact ⟨hb, q⟩
theorem Inv.pinned {pins : List (Addr × Obj)} {σ : St} {H : Hp} {s : Shared} {fp : List Addr} (I : Inv X pins σ H s) (hf : ∀ b ∈ fp, FpOk X pins H b) (ho : ∀ b ∈ fp, ∃ o, s.heap.get? b = some o ∧ ∀ v, o.data ≠ .cell v) : Inv X (pins ++ pinsAt fp s.heap) σ H s :=
  I.pins_of fun p hp => (List.mem_append.mp hp).elim (fun z => I.pin p (List.mem_append_right _ z)) fun z => by
    obtain ⟨hb, e⟩ := of_pinsAt z
    obtain ⟨f0, f1, f2, _⟩ := hf p.1 hb
    obtain ⟨o, e', d⟩ := ho p.1 hb
    rw [e] at e'; cases e'
    exact ⟨e, f0, f1, f2, d⟩
theorem Inv.unpinned {pins pl : List (Addr × Obj)} {σ : St} {H : Hp} {s : Shared} (I : Inv X (pins ++ pl) σ H s) : Inv X pins σ H s := I.pins_of fun p hp => I.pin p (List.mem_append_right _ (List.mem_append_left _ hp))
theorem ps_for {iter : Expr} {body : List Stmt} {wi : TI} {g : TG} {tb : TS} {pos : Pos} (hp : PassesOwn (model X.prog X.w) X.A X.env X.xe) (hc : X.calm = true) (hi : PI X tg iter wi) (hg : PG X tg g) (hb : PSs X body tb)
    (hs : ∀ x, foldedSetIterable iter X.env x = pure x := by intro _; rfl) : PS X (.For tg iter body [] pos) (tFor wi g tb) := by
  intro pins s σ H D I h
  refine wpAny_For (thn (hi pins s σ H _ I h) fun v s1 h1 => thn h1 fun itv s2 h2 => ?_) hs
  obtain ⟨it, fp, tn, J, H2, e, I2, T, st2, f2, W, ⟨m0, w0⟩, turn⟩ := h2
  subst e
  -- what stays true of the iterator's objects through the loop
  have stat : ∀ {H' : Hp}, (∀ b ∈ fp, H' b = none) → ∀ b ∈ fp, FpOk X pins H' b := fun hn b hb => ⟨hn b hb, (f2 b hb).2⟩
  refine codeAny_forLoop_any (fun n s' => ∃ i σ' H', Inv X pins σ' H' s' ∧ tn i s'.heap ∧ (∀ b ∈ fp, H' b = none) ∧ W i n σ' H') ?_ m0 ⟨0, σ, H2, I2, st2, fun b hb => (f2 b hb).1, w0⟩
  rintro n s3 ⟨i, σ3, H3, I3, st3, fr3, w3⟩
  rcases turn i n σ3 H3 w3 with ⟨stop, qn⟩ | ⟨go, N, hN, step⟩
  · refine wpAny_passesOwn hp (thn (T.done X rfl rfl rfl hc i pins s3 σ3 H3 X.xe I3 (stat fr3) st3 stop) fun r s4 ⟨hr, I4⟩ => ?_)
    subst hr
    exact wpAny_execs_nil ⟨σ3, H3, I4, qn⟩
  · refine wpAny_passesOwn hp (thn (T.item X rfl rfl rfl hc i pins s3 σ3 H3 X.xe I3 (stat fr3) st3 go) fun r s4 ⟨u, hr, h4⟩ => ?_)
    subst hr
    refine wpAny_passesOwn hp (thn h4 fun _ s5 ⟨x, H5, I5, r5, y5, st5, fr5⟩ => ?_)
    have I5' := I5.pinned (stat fr5) (T.obj _ _ st5)
    refine wpAny_passesOwn hp (thn (hg _ s5 σ3 H5 x u _ I5' r5 (step x H5 y5)) fun _ s6 ⟨σ6, H6, I6, q6⟩ => ?_)
    refine wpAny_passesOwn hp (thn (hb _ s6 σ6 H6 _ I6 q6) fun f s7 q7 => ?_)
    have again : ∀ {σ7 : St} {H7 : Hp}, Inv X (pins ++ pinsAt fp s5.heap) σ7 H7 s7 → N σ7 H7 → ∃ m, m < n ∧ ∃ i σ' H', Inv X pins σ' H' s7 ∧ tn i s7.heap ∧ (∀ b ∈ fp, H' b = none) ∧ W i m σ' H' := fun {σ7 H7} I7 n7 => by
      obtain ⟨m', hm, w7⟩ := hN σ7 H7 n7
      refine ⟨m', hm, i + 1, σ7, H7, I7.unpinned, T.keep _ _ _ st5 fun b hb o e => (I7.pin (b, o) (List.mem_append_right _ (List.mem_append_right _ (mem_pinsAt hb e)))).1, fun b hb => ?_, w7⟩
      obtain ⟨o, e, d⟩ := T.obj _ _ st5 b hb
      exact (I7.pin (b, o) (List.mem_append_right _ (List.mem_append_right _ (mem_pinsAt hb e)))).2.1
    cases f with
    | next => obtain ⟨σ7, H7, I7, n7⟩ := q7; exact again I7 n7
    | cont => obtain ⟨σ7, H7, I7, n7⟩ := q7; exact again I7 n7
    | brk => obtain ⟨σ7, H7, I7, q7⟩ := q7; exact ⟨σ7, H7, I7.unpinned, q7⟩
    | ret v => obtain ⟨x7, σ7, H7, I7, r7, q7⟩ := q7; exact ⟨x7, σ7, H7, I7.unpinned, r7, q7⟩
end

/-! ### the forms one uses -/
/-- over a list that the body leaves as it is -/
theorem for_list {K : PySem.W.Frag} {a : Addr} {xs : List V} {g : TG} {tb : TS} {D : Ends} {σ : St} {H : Hp} (Pv : Nat → St → Hp → Prop) (h0 : Pv 0 σ H) (hl : ∀ i σ H, i ≤ xs.length → Pv i σ H → SqL K H a xs)
    (hs : ∀ i x σ H, xs[i]? = some x → Pv i σ H → g x σ H fun σ2 H2 => tb { D with nx := Pv (i + 1), ct := Pv (i + 1), bk := D.nx } σ2 H2) (hd : ∀ σ H, Pv xs.length σ H → D.nx σ H) :
    ∃ W : Nat → Nat → St → Hp → Prop, (∃ m, W 0 m σ H) ∧ ∀ i m σ H, W i m σ H →
      ((Itl K a).stop i H ∧ D.nx σ H) ∨ ((Itl K a).go i H ∧ ∃ N : St → Hp → Prop, (∀ σ' H', N σ' H' → ∃ m', m' < m ∧ W (i + 1) m' σ' H') ∧ ∀ x H', (Itl K a).yld i H x H' → g x σ H' fun σ2 H2 => tb { D with nx := N, ct := N, bk := D.nx } σ2 H2) := by
  refine ⟨fun i m σ H => m = xs.length - i ∧ i ≤ xs.length ∧ Pv i σ H, ⟨xs.length, by simp, Nat.zero_le _, h0⟩, ?_⟩
  rintro i m σ H ⟨rfl, hi, p⟩
  have q := hl i σ H hi p
  by_cases hlt : i < xs.length
  · refine .inr ⟨⟨xs, xs[i], q, by simp [hlt]⟩, Pv (i + 1), fun σ' H' p' => ⟨xs.length - (i + 1), by omega, rfl, hlt, p'⟩, fun x H' y => ?_⟩
    obtain ⟨e, y⟩ := y
    subst e
    exact hs i x σ _ (y xs q) p
  · have e : i = xs.length := by omega
    subst e
    exact .inl ⟨⟨xs, q, Nat.le_refl _⟩, hd σ H p⟩
theorem for_range {lo : Int} {n : Nat} {g : TG} {tb : TS} {D : Ends} {σ : St} {H : Hp} (Pv : Nat → St → Hp → Prop) (h0 : Pv 0 σ H)
    (hs : ∀ i σ H, i < n → Pv i σ H → g (.int (lo + i)) σ H fun σ2 H2 => tb { D with nx := Pv (i + 1), ct := Pv (i + 1), bk := D.nx } σ2 H2) (hd : ∀ σ H, Pv n σ H → D.nx σ H) :
    ∃ W : Nat → Nat → St → Hp → Prop, (∃ m, W 0 m σ H) ∧ ∀ i m σ H, W i m σ H →
      ((Itr lo n).stop i H ∧ D.nx σ H) ∨ ((Itr lo n).go i H ∧ ∃ N : St → Hp → Prop, (∀ σ' H', N σ' H' → ∃ m', m' < m ∧ W (i + 1) m' σ' H') ∧ ∀ x H', (Itr lo n).yld i H x H' → g x σ H' fun σ2 H2 => tb { D with nx := N, ct := N, bk := D.nx } σ2 H2) := by
  refine ⟨fun i m σ H => m = n - i ∧ i ≤ n ∧ Pv i σ H, ⟨n, by simp, Nat.zero_le _, h0⟩, ?_⟩
  rintro i m σ H ⟨rfl, hi, p⟩
  by_cases hlt : i < n
  · refine .inr ⟨hlt, Pv (i + 1), fun σ' H' p' => ⟨n - (i + 1), by omega, rfl, hlt, p'⟩, fun x H' y => ?_⟩
    obtain ⟨e, y⟩ := y
    subst e y
    exact hs i σ _ hlt p
  · have e : i = n := by omega
    subst e
    exact .inl ⟨Nat.le_refl _, hd σ H p⟩
end L2

namespace L2
open PySem PySem.Spec PyProof.Rows

abbrev R2 := V → V → Hp → VK → Prop
/-- a two-place operation on values: f is binaryOp op, inplaceOp op or compareOp op -/
def OpR (X : Cx) (f : Value → Value → Sem Value) (r : R2) : Prop :=
  ∀ (pins : List (Addr × Obj)) (s : Shared) (σ : St) (H : Hp) (x y : V) (v u : Value) (Q : VK), Inv X pins σ H s → RelV x v → RelV y u → r x y H Q →
    wpAny (model X.prog X.w) X.A (f v u) (EP X pins σ Q) X.xe s
/-- a one-place operation -/
def UnR (X : Cx) (f : Value → Sem Value) (r : V → Hp → VK → Prop) : Prop :=
  ∀ (pins : List (Addr × Obj)) (s : Shared) (σ : St) (H : Hp) (x : V) (v : Value) (Q : VK), Inv X pins σ H s → RelV x v → r x H Q →
    wpAny (model X.prog X.w) X.A (f v) (EP X pins σ Q) X.xe s
/-- a call of a value that is known (a builtin, a type) with values -/
def CallR (X : Cx) (f : Value) (r : List V → Hp → VK → Prop) : Prop :=
  ∀ (pins : List (Addr × Obj)) (s : Shared) (σ : St) (H : Hp) (xs : List V) (us : List Value) (Q : VK), Inv X pins σ H s → Vals xs us → r xs H Q →
    wpAny (model X.prog X.w) X.A (call f us) (EP X pins σ Q) X.xe s
/-- a value's truth -/
def TruR (X : Cx) (r : V → Hp → (Bool → Hp → Prop) → Prop) : Prop :=
  ∀ (pins : List (Addr × Obj)) (s : Shared) (σ : St) (H : Hp) (x : V) (v : Value) (Q : Bool → Hp → Prop), Inv X pins σ H s → RelV x v → r x H Q →
    wpAny (model X.prog X.w) X.A (truthy v) (TP X pins σ Q) X.xe s

def tOp (r : R2) (ta tb : TE) : TE := fun σ H Q => ta σ H fun x H1 => tb σ H1 fun y H2 => r x y H2 Q
def tUn (r : V → Hp → VK → Prop) (ta : TE) : TE := fun σ H Q => ta σ H fun x H1 => r x H1 Q
/-- ints in, under C, and a value out -/
def rI (C : Int → Int → Prop) (g : Int → Int → V) : R2 := fun x y H Q => ∃ i j, x = .int i ∧ y = .int j ∧ C i j ∧ Q (g i j) H
def rI0 (g : Int → Int → V) : R2 := fun x y H Q => ∃ i j, x = .int i ∧ y = .int j ∧ Q (g i j) H
def rU (g : Int → V) : V → Hp → VK → Prop := fun x H Q => ∃ i, x = .int i ∧ Q (g i) H

section
variable {X : Cx} {a b c : Expr} {ta tb tc : TE} {pos : Pos}

theorem binT (ha : PE X a ta) (hb : PE X b tb) {pins : List (Addr × Obj)} {s : Shared} {σ : St} {H : Hp} {R : V → V → Hp → Prop} (I : Inv X pins σ H s)
    (h : ta σ H fun x H1 => tb σ H1 fun y H2 => R x y H2) {Q : Value → Shared → Prop} {f : Value → Value → Sem Value}
    (hf : ∀ v u s2 x y H2, Inv X pins σ H2 s2 → RelV x v → RelV y u → R x y H2 → wpAny (model X.prog X.w) X.A (f v u) Q X.xe s2) :
    wpAny (model X.prog X.w) X.A (eval a X.env) (fun v s₁ => wpAny (model X.prog X.w) X.A (eval b X.env) (fun u s₂ => wpAny (model X.prog X.w) X.A (f v u) Q X.xe s₂) X.xe s₁) X.xe s := by
  refine thn (ha pins s σ H _ I h) fun v s1 ⟨x, H1, I1, r1, q1⟩ => ?_
  refine thn (hb pins s1 σ H1 _ I1 q1) fun u s2 ⟨y, H2, I2, r2, q2⟩ => ?_
  exact hf v u s2 x y H2 I2 r1 r2 q2

theorem pe_op {op : Operator} {r : R2} (ho : OpR X (binaryOp op) r) (ha : PE X a ta) (hb : PE X b tb) : PE X (.BinOp a op b pos) (tOp r ta tb) := by
  intro pins s σ H Q I h
  exact wpAny_BinOp (binT ha hb I h fun v u s2 x y H2 I2 rx ry q => ho pins s2 σ H2 x y v u Q I2 rx ry q)
theorem pe_un {op : UnaryOp} {r : V → Hp → VK → Prop} (ho : UnR X (unaryOp op) r) (ha : PE X a ta) : PE X (.UnaryOp op a pos) (tUn r ta) := by
  intro pins s σ H Q I h
  exact UnaryOp_ (thn (ha pins s σ H _ I h) fun v s1 ⟨x, H1, I1, r1, q1⟩ => ho pins s1 σ H1 x v Q I1 r1 q1)
/-! ### ints -/
theorem opI {f : Value → Value → Sem Value} {C : Int → Int → Prop} {g : Int → Int → Int}
    (rule : ∀ (i j : Int) (t u : Tok) (s : Shared) (Q : Value → Shared → Prop) (E : Value → Shared → Prop), C i j → Q (.int (g i j) s.toks) { s with toks := s.toks + 1 } → wpAny (model X.prog X.w) X.A (f (.int i t) (.int j u)) Q E s) :
    OpR X f (rI C fun i j => .int (g i j)) := by
  intro pins s σ H x y v u Q I rx ry h
  obtain ⟨i, j, rfl, rfl, hc, q⟩ := h
  obtain ⟨t, rfl⟩ := rx
  obtain ⟨t', rfl⟩ := ry
  exact rule i j t t' s _ _ hc ⟨.int (g i j), H, I.tok _, ⟨_, rfl⟩, q⟩
theorem opI0 {f : Value → Value → Sem Value} {g : Int → Int → Int}
    (rule : ∀ (i j : Int) (t u : Tok) (s : Shared) (Q : Value → Shared → Prop) (E : Value → Shared → Prop), Q (.int (g i j) s.toks) { s with toks := s.toks + 1 } → wpAny (model X.prog X.w) X.A (f (.int i t) (.int j u)) Q E s) :
    OpR X f (rI0 fun i j => .int (g i j)) := by
  intro pins s σ H x y v u Q I rx ry h
  obtain ⟨i, j, rfl, rfl, q⟩ := h
  obtain ⟨t, rfl⟩ := rx
  obtain ⟨t', rfl⟩ := ry
  exact rule i j t t' s _ _ ⟨.int (g i j), H, I.tok _, ⟨_, rfl⟩, q⟩
theorem opB0 {f : Value → Value → Sem Value} {g : Int → Int → Bool}
    (rule : ∀ (i j : Int) (t u : Tok) (s : Shared) (Q : Value → Shared → Prop) (E : Value → Shared → Prop), Q (.bool (g i j)) s → wpAny (model X.prog X.w) X.A (f (.int i t) (.int j u)) Q E s) :
    OpR X f (rI0 fun i j => .bl (g i j)) := by
  intro pins s σ H x y v u Q I rx ry h
  obtain ⟨i, j, rfl, rfl, q⟩ := h
  obtain ⟨t, rfl⟩ := rx
  obtain ⟨t', rfl⟩ := ry
  exact rule i j t t' s _ _ ⟨.bl (g i j), H, I, rfl, q⟩

def CDiv (i j : Int) : Prop := 0 < j ∧ j < 1073741824
def CDivN (i j : Int) : Prop := j ≠ 0 ∧ j.natAbs < 1073741824
def CPow (i j : Int) : Prop := 0 ≤ j ∧ j ≤ 1000000 ∧ i.natAbs < 2 ^ 64
def CMul (i j : Int) : Prop := (-(2 ^ 64) < i ∧ i < 2 ^ 64) ∨ (-(2 ^ 64) < j ∧ j < 2 ^ 64)
theorem CMul.ok {i j : Int} (h : CMul i j) : IntMulOk i j := by
  rcases h with ⟨h1, h2⟩ | ⟨h1, h2⟩
  · exact .of_left (intBits_le_64 h1 h2)
  · exact .of_right (intBits_le_64 h1 h2)
theorem two_pow_nn (k : Nat) : (0 : Int) ≤ 2 ^ k := by
  rw [two_pow_cast]
  exact Int.natCast_nonneg _

theorem op_add : OpR X (binaryOp .Add) (rI0 fun i j => .int (i + j)) := opI0 fun _ _ _ _ _ _ _ q => add_int q
theorem op_sub : OpR X (binaryOp .Sub) (rI0 fun i j => .int (i - j)) := opI0 fun _ _ _ _ _ _ _ q => sub_int q
theorem op_mul : OpR X (binaryOp .Mult) (rI CMul fun i j => .int (i * j)) := opI fun _ _ _ _ _ _ _ hc q => mul_int q hc.ok
/-- // by a positive divisor -/
theorem op_fdiv : OpR X (binaryOp .FloorDiv) (rI CDiv fun i j => .int (i / j)) := opI fun i j _ _ _ _ _ hc q => by
  have h1 : (0 : Int) < j := hc.1
  have h2 : j < 1073741824 := hc.2
  exact floordiv_int (by omega) (by rw [Int.fdiv_eq_ediv_of_nonneg i (by omega)]; exact q) (.inl (PyProof.noPylong_small (by omega)))
/-- % by a positive divisor of any size -/
theorem op_mod : OpR X (binaryOp .Mod) (rI (fun _ j => 0 < j) fun i j => .int (i % j)) := opI fun i j _ _ _ _ _ hc q => by
  have h1 : (0 : Int) < j := hc
  exact mod_int' (by omega) (by rw [Int.fmod_eq_emod_of_nonneg i (by omega)]; exact q)
theorem op_pow : OpR X (binaryOp .Pow) (rI CPow fun i j => .int (i ^ j.toNat)) := opI fun _ _ _ _ _ _ _ hc q => pow_int_small hc.1 hc.2.1 hc.2.2 q
theorem op_shr : OpR X (binaryOp .RShift) (rI (fun _ j => 0 ≤ j) fun i j => .int (i / 2 ^ j.toNat)) := opI fun i j _ _ _ _ _ hc q =>
  rshift_int hc (by rw [Int.fdiv_eq_ediv_of_nonneg i (two_pow_nn _)]; exact q)
theorem op_and : OpR X (binaryOp .BitAnd) (rI0 fun i j => .int (Builtin.bitAnd i j)) := opI0 fun _ _ _ _ _ _ _ q => and_int q
theorem unI {f : Value → Sem Value} {g : Int → Int}
    (rule : ∀ (i : Int) (t : Tok) (s : Shared) (Q : Value → Shared → Prop) (E : Value → Shared → Prop), Q (.int (g i) s.toks) { s with toks := s.toks + 1 } → wpAny (model X.prog X.w) X.A (f (.int i t)) Q E s) :
    UnR X f (rU fun i => .int (g i)) := by
  intro pins s σ H x v Q I rx h
  obtain ⟨i, rfl, q⟩ := h
  obtain ⟨t, rfl⟩ := rx
  exact rule i t s _ _ ⟨.int (g i), H, I.tok _, ⟨_, rfl⟩, q⟩
theorem un_neg : UnR X (unaryOp .USub) (rU fun i => .int (-i)) := unI fun _ _ _ _ _ q => neg_int q
/-! ### bools among ints: n += (a < b) -/
end

/-! ### comparisons -/
/-- the scalars that == tells apart as data does -/
def scal : V → V → Bool
  | .non, .non => true | .non, .int _ => true | .int _, .non => true | .non, .bl _ => true | .bl _, .non => true | .non, .str _ => true | .str _, .non => true
  | .int _, .int _ => true | .bl _, .bl _ => true | .str _, .str _ => true | .byt _, .byt _ => true
  | .int _, .str _ => true | .str _, .int _ => true | .bl _, .str _ => true | .str _, .bl _ => true
  | _, _ => false
def rEq : R2 := fun x y H Q => scal x y = true ∧ Q (.bl (decide (x = y))) H
def rNe : R2 := fun x y H Q => scal x y = true ∧ Q (.bl (!decide (x = y))) H

theorem dec_int {i j : Int} : decide (V.int i = V.int j) = (i == j) := by
  rw [Bool.eq_iff_iff]
  simp
theorem dec_bl {i j : Bool} : decide (V.bl i = V.bl j) = (i == j) := by
  rw [Bool.eq_iff_iff]
  simp
theorem dec_str {i j : Str} : decide (V.str i = V.str j) = (i == j) := by
  rw [Bool.eq_iff_iff]
  simp
theorem dec_byt {i j : Array UInt8} : decide (V.byt i = V.byt j) = (i.toList == j.toList) := by
  rw [Bool.eq_iff_iff]
  cases i
  cases j
  simp

section
variable {X : Cx} {a b c : Expr} {ta tb tc : TE} {pos : Pos}
theorem fin_bl {pins : List (Addr × Obj)} {σ : St} {H : Hp} {s : Shared} {Q : VK} {k k' : Bool} (I : Inv X pins σ H s) (q : Q (.bl k) H) (e : k = k') : EP X pins σ Q (.bool k') s := by
  subst e
  exact ⟨.bl k, H, I, rfl, q⟩
theorem op_eq : OpR X (compareOp .Eq) rEq := by
  intro pins s σ H x y v u Q I rx ry h
  obtain ⟨hs, q⟩ := h
  cases x with
  | non =>
    cases rx
    cases y with
    | non => cases ry; exact PySem.EqNone.eq_none_none (fin_bl I q (by simp))
    | bl j => cases ry; exact PySem.EqNone.eq_none_bool (fin_bl I q (by simp))
    | int j => obtain ⟨t', rfl⟩ := ry; exact PySem.EqNone.eq_none_int (fin_bl I q (by simp))
    | str j => obtain ⟨t', rfl⟩ := ry; exact PySem.EqNone.eq_none_str (fin_bl I q (by simp))
    | _ => exact absurd (show false = true from hs) Bool.false_ne_true
  | bl i =>
    cases rx
    cases y with
    | non => cases ry; exact PySem.EqNone.eq_bool_none (fin_bl I q (by simp))
    | bl j => cases ry; exact eq_bool (fin_bl I q dec_bl)
    | str j => obtain ⟨t', rfl⟩ := ry; exact PySem.EqMixed.eq_bool_str (fin_bl I q (by simp))
    | _ => exact absurd (show false = true from hs) Bool.false_ne_true
  | int i =>
    obtain ⟨t, rfl⟩ := rx
    cases y with
    | non => cases ry; exact PySem.EqNone.eq_int_none (fin_bl I q (by simp))
    | int j => obtain ⟨t', rfl⟩ := ry; exact eq_int (fin_bl I q dec_int)
    | str j => obtain ⟨t', rfl⟩ := ry; exact PySem.EqMixed.eq_int_str (fin_bl I q (by simp))
    | _ => exact absurd (show false = true from hs) Bool.false_ne_true
  | str i =>
    obtain ⟨t, rfl⟩ := rx
    cases y with
    | non => cases ry; exact PySem.EqNone.eq_str_none (fin_bl I q (by simp))
    | bl j => cases ry; exact PySem.EqMixed.eq_str_bool (fin_bl I q (by simp))
    | int j => obtain ⟨t', rfl⟩ := ry; exact PySem.EqMixed.eq_str_int (fin_bl I q (by simp))
    | str j => obtain ⟨t', rfl⟩ := ry; exact eq_str (fin_bl I q dec_str)
    | _ => exact absurd (show false = true from hs) Bool.false_ne_true
  | byt i =>
    obtain ⟨t, rfl⟩ := rx
    cases y with
    | byt j => obtain ⟨t', rfl⟩ := ry; exact PySem.W.eq_bytes (fin_bl I q dec_byt)
    | _ => exact absurd (show false = true from hs) Bool.false_ne_true
  | _ => cases y <;> exact absurd (show false = true from hs) Bool.false_ne_true
theorem op_ne : OpR X (compareOp .NotEq) rNe := by
  intro pins s σ H x y v u Q I rx ry h
  obtain ⟨hs, q⟩ := h
  cases x with
  | non =>
    cases rx
    cases y with
    | non => cases ry; exact PySem.EqNone.ne_none_none (fin_bl I q (by simp))
    | bl j => cases ry; exact PySem.EqNone.ne_none_bool (fin_bl I q (by simp))
    | int j => obtain ⟨t', rfl⟩ := ry; exact PySem.EqNone.ne_none_int (fin_bl I q (by simp))
    | str j => obtain ⟨t', rfl⟩ := ry; exact PySem.EqNone.ne_none_str (fin_bl I q (by simp))
    | _ => exact absurd (show false = true from hs) Bool.false_ne_true
  | bl i =>
    cases rx
    cases y with
    | non => cases ry; exact PySem.EqNone.ne_bool_none (fin_bl I q (by simp))
    | bl j => cases ry; exact ne_bool (fin_bl I q (congrArg not dec_bl))
    | str j => obtain ⟨t', rfl⟩ := ry; exact PySem.EqMixed.ne_bool_str (fin_bl I q (by simp))
    | _ => exact absurd (show false = true from hs) Bool.false_ne_true
  | int i =>
    obtain ⟨t, rfl⟩ := rx
    cases y with
    | non => cases ry; exact PySem.EqNone.ne_int_none (fin_bl I q (by simp))
    | int j => obtain ⟨t', rfl⟩ := ry; exact ne_int (fin_bl I q (congrArg not dec_int))
    | str j => obtain ⟨t', rfl⟩ := ry; exact PySem.EqMixed.ne_int_str (fin_bl I q (by simp))
    | _ => exact absurd (show false = true from hs) Bool.false_ne_true
  | str i =>
    obtain ⟨t, rfl⟩ := rx
    cases y with
    | non => cases ry; exact PySem.EqNone.ne_str_none (fin_bl I q (by simp))
    | bl j => cases ry; exact PySem.EqMixed.ne_str_bool (fin_bl I q (by simp))
    | int j => obtain ⟨t', rfl⟩ := ry; exact PySem.EqMixed.ne_str_int (fin_bl I q (by simp))
    | str j => obtain ⟨t', rfl⟩ := ry; exact ne_str (fin_bl I q (congrArg not dec_str))
    | _ => exact absurd (show false = true from hs) Bool.false_ne_true
  | byt i =>
    obtain ⟨t, rfl⟩ := rx
    cases y with
    | byt j => obtain ⟨t', rfl⟩ := ry; exact PySem.W.ne_bytes (fin_bl I q (congrArg not dec_byt))
    | _ => exact absurd (show false = true from hs) Bool.false_ne_true
  | _ => cases y <;> exact absurd (show false = true from hs) Bool.false_ne_true

theorem op_lt : OpR X (compareOp .Lt) (rI0 fun i j => .bl (decide (i < j))) := opB0 fun _ _ _ _ _ _ _ q => lt_int q
theorem op_le : OpR X (compareOp .LtE) (rI0 fun i j => .bl (decide (i ≤ j))) := opB0 fun _ _ _ _ _ _ _ q => le_int q
theorem op_gt : OpR X (compareOp .Gt) (rI0 fun i j => .bl (decide (j < i))) := opB0 fun _ _ _ _ _ _ _ q => gt_int q
theorem op_ge : OpR X (compareOp .GtE) (rI0 fun i j => .bl (decide (j ≤ i))) := opB0 fun _ _ _ _ _ _ _ q => ge_int q
/-- is None, is not None: the right side a value none -/
theorem op_isN : OpR X (compareOp .Is) (fun x y H Q => y = .non ∧ Q (.bl (decide (x = .non))) H) := by
  intro pins s σ H x y v u Q I rx ry h
  obtain ⟨rfl, q⟩ := h
  cases ry
  refine is_none_gen (fin_bl I q ?_)
  cases x <;> first
    | (cases rx; rfl)
    | (obtain ⟨t, rfl⟩ := rx; rfl)
/-- is, is not of two objects that are tracked lists or instances -/
def isObj : HO → Bool
  | .lst _ => true
  | .ins _ _ _ => true
  | _ => false
theorem nomark (b : Expr) {op : CmpOp} (h : op ≠ .In := by decide) (h2 : op ≠ .NotIn := by decide) : behindInMarks op b = false := by
  have e1 : (op == CmpOp.In) = false := by cases op <;> first | rfl | exact absurd rfl h
  have e2 : (op == CmpOp.NotIn) = false := by cases op <;> first | rfl | exact absurd rfl h2
  cases b <;> simp [behindInMarks, e1, e2]
/-- a comparison as a value; hm: nomark b, or (for in, not in) by with_unfolding_all rfl -/
theorem pe_cmpR {op : CmpOp} {r : R2} (ho : OpR X (compareOp op) r) (ha : PE X a ta) (hb : PE X b tb) (hm : behindInMarks op b = false) : PE X (.Compare a [op] [b] pos) (tOp r ta tb) := by
  intro pins s σ H Q I h
  exact wpAny_Compare1 (binT ha hb I h fun v u s2 x y H2 I2 rx ry q => ho pins s2 σ H2 x y v u Q I2 rx ry q) hm
/-- a reading of a value as a test -/
def tTest (t : TE) : TT := fun σ H Q => t σ H fun x H' => ∃ k, x = .bl k ∧ Q k H'
theorem pt_cmpR {op : CmpOp} {r : R2} (ho : OpR X (compareOp op) r) (ha : PE X a ta) (hb : PE X b tb) (hm : behindInMarks op b = false) : PT X (.Compare a [op] [b] pos) (tTest (tOp r ta tb)) := by
  intro pins s σ H Q I h
  refine wpAny_isTrue_Compare1 (thn (ha pins s σ H _ I h) fun v s1 ⟨x, H1, I1, r1, q1⟩ => thn (hb pins s1 σ H1 _ I1 q1) fun u s2 ⟨y, H2, I2, r2, q2⟩ =>
    thn (ho pins s2 σ H2 x y v u _ I2 r1 r2 q2) fun c s3 ⟨z, H3, I3, r3, k, e, q3⟩ => ?_) hm
  subst e
  cases r3
  exact wpAny_truthy_bool ⟨H3, I3, q3⟩
/-- a op1 b op2 c -/
def tChain (r r' : R2) (ta tb tc : TE) : TE := fun σ H Q => ta σ H fun x H1 => tb σ H1 fun y H2 => r x y H2 fun z H3 => ∃ k, z = .bl k ∧
  (if k = true then tc σ H3 fun w' H4 => r' y w' H4 Q else Q (.bl false) H3)
theorem pe_chain {op op' : CmpOp} {r r' : R2} (ho : OpR X (compareOp op) r) (ho' : OpR X (compareOp op') r') (ha : PE X a ta) (hb : PE X b tb) (hc : PE X c tc)
    (hm : lastMarks [op, op'] [b, c] = false := by with_unfolding_all rfl) : PE X (.Compare a [op, op'] [b, c] pos) (tChain r r' ta tb tc) := by
  intro pins s σ H Q I h
  refine Compare_chain (thn (ha pins s σ H _ I h) fun v s1 ⟨x, H1, I1, r1, q1⟩ => chain_link (thn (hb pins s1 σ H1 _ I1 q1) fun u s2 ⟨y, H2, I2, r2, q2⟩ =>
    thn (ho pins s2 σ H2 x y v u _ I2 r1 r2 q2) fun d s3 ⟨z, H3, I3, r3, k, e, q3⟩ => ?_)) hm
  subst e
  cases r3
  refine wpAny_truthy_bool ?_
  cases k with
  | false => exact ite_ff ⟨.bl false, H3, I3, rfl, q3⟩
  | true => exact ite_tt (chain_last (thn (hc pins s3 σ H3 _ I3 q3) fun w' s4 ⟨z', H4, I4, r4, q4⟩ => ho' pins s4 σ H4 y z' u w' Q I4 r2 r4 q4))
/-! ### truth -/
/-- a value's truth by the abstract heap -/
def TruV (K : PySem.W.Frag) (x : V) (H : Hp) (k : Bool) : Prop :=
  match x with
  | .non => k = false
  | .bl b => k = b
  | .int i => k = (i != 0)
  | .str y => y.length ≤ sizeLine ∧ k = ((y.length : Int) != 0)
  | .byt y => y.size ≤ sizeLine ∧ k = ((y.size : Int) != 0)
  | .ref p => (∃ xs, SqL K H p xs ∧ k = !xs.isEmpty) ∨ (∃ xs, SqT K H p xs ∧ k = !xs.isEmpty) ∨ ∃ kvs, H p = some (.dK kvs) ∧ k = !kvs.isEmpty
  | _ => False
theorem line63 : (sizeLine : Nat) < 2 ^ 63 := by rw [sizeLine_eq]; decide
/-! ### strs and bytes -/
theorem op_add_str : OpR X (binaryOp .Add) (fun x y H Q => ∃ i j, x = .str i ∧ y = .str j ∧ i.length + j.length ≤ sizeLine ∧ Q (.str (i ++ j)) H) := by
  intro pins s σ H x y v u Q I rx ry h
  obtain ⟨i, j, rfl, rfl, hz, q⟩ := h
  obtain ⟨t, rfl⟩ := rx
  obtain ⟨t', rfl⟩ := ry
  exact add_str (fun t' tk => ⟨.str (i ++ j), H, I.tok _, ⟨_, rfl⟩, q⟩) hz
def PlainIxT (b : Expr) : Prop := ∀ o i, subscripted b false o i = operate [o, i] (getItem o i)
/-! ### scalar builtins, by CallR -/
theorem vals1 {x : V} {us : List Value} (r : Vals [x] us) : ∃ u, us = [u] ∧ RelV x u := by
  cases r with
  | cons r1 r2 => cases r2; exact ⟨_, rfl, r1⟩
theorem vals2 {x y : V} {us : List Value} (r : Vals [x, y] us) : ∃ u w', us = [u, w'] ∧ RelV x u ∧ RelV y w' := by
  cases r with
  | cons r1 r2 =>
    cases r2 with
    | cons r3 r4 => cases r4; exact ⟨_, _, rfl, r1, r3⟩
theorem call_max2 (hc : X.calm = true) : CallR X (.builtin "max") (fun xs H Q => ∃ i j, xs = [.int i, .int j] ∧ Q (.int (if j > i then j else i)) H) := by
  intro pins s σ H xs us Q I r h
  obtain ⟨i, j, rfl, q⟩ := h
  obtain ⟨u, w', rfl, ⟨t, rfl⟩, ⟨t', rfl⟩⟩ := vals2 r
  refine max_two_ints (I.ok.hd hc) fun h' tk k => ⟨_, H, I.kept k, ?_, q⟩
  by_cases hj : j > i
  · rw [if_pos hj, if_pos hj]; exact ⟨_, rfl⟩
  · rw [if_neg hj, if_neg hj]; exact ⟨_, rfl⟩
theorem call_min2 (hc : X.calm = true) : CallR X (.builtin "min") (fun xs H Q => ∃ i j, xs = [.int i, .int j] ∧ Q (.int (if j < i then j else i)) H) := by
  intro pins s σ H xs us Q I r h
  obtain ⟨i, j, rfl, q⟩ := h
  obtain ⟨u, w', rfl, ⟨t, rfl⟩, ⟨t', rfl⟩⟩ := vals2 r
  refine min_two_ints (I.ok.hd hc) fun h' tk k => ⟨_, H, I.kept k, ?_, q⟩
  by_cases hj : j < i
  · rw [if_pos hj, if_pos hj]; exact ⟨_, rfl⟩
  · rw [if_neg hj, if_neg hj]; exact ⟨_, rfl⟩
theorem call_int1 : CallR X (.type "int") (fun xs H Q => (∃ i, xs = [.int i] ∧ Q (.int i) H) ∨ ∃ k, xs = [.bl k] ∧ Q (.int (if k then 1 else 0)) H) := by
  intro pins s σ H xs us Q I r h
  rcases h with ⟨i, rfl, q⟩ | ⟨k, rfl, q⟩
  · obtain ⟨u, rfl, t, rfl⟩ := vals1 r
    exact call_int_int ⟨.int i, H, I, ⟨_, rfl⟩, q⟩
  · obtain ⟨u, rfl, r1⟩ := vals1 r
    cases r1
    exact call_int_bool ⟨.int (if k then 1 else 0), H, I.tok _, ⟨_, rfl⟩, q⟩
/-- len of a str, a bytes, a list, a tuple -/
def LenV (K : PySem.W.Frag) (x : V) (H : Hp) (n : Nat) : Prop :=
  match x with
  | .str y => y.length ≤ sizeLine ∧ n = y.length
  | .byt y => y.size ≤ sizeLine ∧ n = y.size
  | .ref p => (∃ xs, SqL K H p xs ∧ n = xs.length) ∨ ∃ xs, SqT K H p xs ∧ n = xs.length
  | _ => False
end
end L2

namespace L2
open PySem PySem.Spec PyProof.Rows

/-! ### an instance, its attributes a map -/
structure ObjM (h : Heap) (x dx C : Addr) (mA : Str → Option Value) : Prop where
  obj : h.get? x = some (PySem.W.instObj C dx)
  ns : h.Ns1 dx mA
  ne : dx ≠ x

theorem lookIn_ns {h : Heap} {dx : Addr} {mA : Str → Option Value} (n : h.Ns1 dx mA) : ∃ od, h.get? dx = some od ∧ ∀ name, PySem.W.lookIn name od = some (mA name) := by
  obtain ⟨o, es, ep, ho, hd, hk, _, hm⟩ := n
  refine ⟨o, ho, fun name => ?_⟩
  have e := hm name
  unfold nsFind findBy at e
  rw [← Array.find?_toList] at e
  unfold PySem.W.lookIn
  rw [hd]
  dsimp only
  split
  · rename_i y q
    rw [q] at e
    exact congrArg some e
  · rename_i q
    rw [q] at e
    have a : es.toList.any (·.refKey) = false := by
      rw [List.any_eq_false]
      intro y hy
      obtain ⟨z, t, hkey⟩ := hk y (Array.mem_toList_iff.mp hy)
      simp [DictEntry.refKey, hkey]
    have a' : ¬ es.toList.any (·.refKey) = true := by rw [a]; exact Bool.false_ne_true
    rw [if_neg a']
    exact congrArg some e

theorem ObjM.look {h : Heap} {x dx C : Addr} {mA : Str → Option Value} (I : ObjM h x dx C mA) : ∃ od, PySem.W.InstAt h x (PySem.W.instObj C dx) C (some od) ∧ ∀ name, PySem.W.lookIn name od = some (mA name) :=
  let ⟨od, ho, hl⟩ := lookIn_ns I.ns
  ⟨od, ⟨I.obj, rfl, rfl, ho⟩, hl⟩

section
variable {prog : Program} {w : World} {A : Around} {E : Value → Shared → Prop} {s : Shared} {K : PySem.W.Frag} {x dx C f : Addr} {mA : Str → Option Value} {name : Str} {v : Value}

end

/-! ### the attributes as a list of pairs -/
def putF (f : Str) (v : V) : List (Str × V) → List (Str × V)
  | [] => [(f, v)]
  | (g, x) :: r => if g = f then (g, v) :: r else (g, x) :: putF f v r
theorem RelO.some_of {v : V} {o : Option Value} (r : RelO (some v) o) : ∃ u, o = some u ∧ RelV v u := by
  cases o with
  | none => exact (show False from r).elim
  | some u => exact ⟨u, rfl, r⟩
section
variable {P : Program} {w : World} {H H' : Hp} {h h' : Heap} {a C dx : Addr} {fs fs' : List (Str × V)}
theorem ins_get (hok : HOk P w H h) (e : H a = some (.ins C dx fs)) : ∃ mA, ObjM h a dx C mA ∧ (∀ f, RelO (fs.lookup f) (mA f)) ∧ PySem.Within mA (fs.map (·.1)) ∧ fs.length ≤ 1000 ∧ H dx = some (.own a) := by
  obtain ⟨d, z, ne, ob, mA, n, r, q⟩ := (show ObjOk P w H h a (.ins C dx fs) from hok a _ e)
  exact ⟨mA, ⟨ob, n, ne⟩, r, q, z, d⟩
end

/-! ### what of the text a class must have -/
structure Cls (K : PySem.W.Frag) (C : Addr) : Prop where
  pg : PySem.W.plainGet K C Str.empty = true
  hd : PySem.W.hasDictIn K C = true
  po : PySem.W.plainOver K C = true
  sa : PySem.W.findIn K (.ref C) "__setattr__" = some (some (.builtin "object.__setattr__"))
theorem Cls.get {K : PySem.W.Frag} {C : Addr} (c : Cls K C) (f : Str) : PySem.W.plainGet K C f = true := c.pg
/-- no class of it has the name -/
def NoAttr (K : PySem.W.Frag) (C : Addr) (f : Str) : Prop := PySem.W.findIn K (.ref C) f = some none
/-- a constant of the class -/
structure Con (K : PySem.W.Frag) (C : Addr) (f : Str) (v : V) (u : Value) : Prop where
  at_ : PySem.W.findIn K (.ref C) f = some (some u)
  rel : RelV v u
  get : PySem.W.specialIn K u "__get__" = some none
  cp : PySem.W.copiedNames.contains f = false
/-- a method: a plain def of the class or of one above it -/
structure Meth (K : PySem.W.Frag) (C : Addr) (m : Str) (f : Addr) : Prop where
  at_ : PySem.W.findIn K (.ref C) m = some (some (.ref f))
  fn : PySem.W.isFn K (.ref f) = true
  kp : PySem.W.keepIn K (.ref f) = true

section
variable {X : Cx} {pins : List (Addr × Obj)} {σ : St} {H : Hp} {s : Shared} {a C dx : Addr} {fs : List (Str × V)} {f : Str} {v : V} {A : Around} {E : Value → Shared → Prop}

end

/-! ### readings and rules -/
/-- e.f, an attribute of the instance -/
def tFld (K : PySem.W.Frag) (ta : TE) (f : Str) : TE := fun σ H Q => ta σ H fun x H1 => ∃ a C dx fs v, x = .ref a ∧ H1 a = some (.ins C dx fs) ∧ Cls K C ∧ NoAttr K C f ∧ fs.lookup f = some v ∧ Q v H1
/-- e.f, a constant of the class -/
def tCon (K : PySem.W.Frag) (ta : TE) (f : Str) : TE := fun σ H Q => ta σ H fun x H1 => ∃ a C dx fs v u, x = .ref a ∧ H1 a = some (.ins C dx fs) ∧ Cls K C ∧ Con K C f v u ∧ fs.lookup f = none ∧ Q v H1
/-- e.f = value -/
def sFld (K : PySem.W.Frag) (ta tv : TE) (f : Str) : TS := fun D σ H => tv σ H fun y H1 => ta σ H1 fun x H2 => ∃ a C dx fs, x = .ref a ∧ H2 a = some (.ins C dx fs) ∧ Cls K C ∧ NoAttr K C f ∧ fs.length < 1000 ∧
  D.nx σ (upd H2 a (.ins C dx (putF f y fs)))
/-- an augmented operator on two values -/
def InOp (X : Cx) (op : Operator) (rd : V → V → Hp → VK → Prop) : Prop :=
  ∀ (pins : List (Addr × Obj)) (s : Shared) (σ : St) (H : Hp) (x y : V) (u v : Value) (Q : VK), Inv X pins σ H s → RelV x u → RelV y v → rd x y H Q → wpAny (model X.prog X.w) X.A (inplaceOp op u v) (EP X pins σ Q) X.xe s
/-- e.f op= value -/
def sFldAug (K : PySem.W.Frag) (ta tv : TE) (rd : V → V → Hp → VK → Prop) (f : Str) : TS := fun D σ H => ta σ H fun x H1 => ∃ a C dx fs v, x = .ref a ∧ H1 a = some (.ins C dx fs) ∧ Cls K C ∧ NoAttr K C f ∧ fs.lookup f = some v ∧
  tv σ H1 fun y H2 => rd v y H2 fun z H3 => ∃ dx' fs', H3 a = some (.ins C dx' fs') ∧ fs'.length < 1000 ∧ D.nx σ (upd H3 a (.ins C dx' (putF f z fs')))

section
variable {X : Cx} {o e value : Expr} {f : Str} {pos pos' tpos : Pos} {ta tv : TE}
def rAdd : V → V → Hp → VK → Prop := fun x y H Q => ∃ i j, x = .int i ∧ y = .int j ∧ Q (.int (i + j)) H
def rSub : V → V → Hp → VK → Prop := fun x y H Q => ∃ i j, x = .int i ∧ y = .int j ∧ Q (.int (i - j)) H
end

/-! ### isinstance -/
section
variable {X : Cx} {pins : List (Addr × Obj)} {σ : St} {H : Hp} {s : Shared} {A : Around} {E : Value → Shared → Prop} {Q : Value → Shared → Prop} {c : Value} {b : Bool}
/-- the type of a value, as the fragment's deciders take it; for an instance its class -/
inductive TyOf (K : PySem.W.Frag) (H : Hp) : V → Value → Prop where
  | non : TyOf K H .non (.type "NoneType")
  | bl (x : Bool) : TyOf K H (.bl x) (.type "bool")
  | int (i : Int) : TyOf K H (.int i) (.type "int")
  | str (x : Str) : TyOf K H (.str x) (.type "str")
  | flt (x : UInt64) : TyOf K H (.flt x) (.type "float")
  | lst {a : Addr} {xs : List V} (e : H a = some (.lst xs)) : TyOf K H (.ref a) (.type "list")
  | frz {a : Addr} {o : Obj} {xs : List V} (e : H a = some (.frz o (.lst xs))) : TyOf K H (.ref a) (.type "list")
  | tup {a : Addr} {xs : List V} (e : H a = some (.tup xs)) : TyOf K H (.ref a) (.type "tuple")
  | dK {a : Addr} {kvs : List (Key × V)} (e : H a = some (.dK kvs)) : TyOf K H (.ref a) (.type "dict")
  | dT {a : Addr} {kvs : List (List Key × V)} (e : H a = some (.dT kvs)) : TyOf K H (.ref a) (.type "dict")
  | ins {a C dx : Addr} {fs : List (Str × V)} (e : H a = some (.ins C dx fs)) (cl : Cls K C) (ha : PySem.W.findIn K (.ref C) "__class__" = some (some (.builtin "object.__class__")))
      (hn : PySem.W.specialIn K (.builtin "object.__class__") "__get__" = some (some (.builtin "getset_descriptor.__get__"))) (htk : PySem.W.takesIn K (.builtin "object.__class__") = some true)
      (hm : PySem.W.mroIn K C (.type "object") = some true) : TyOf K H (.ref a) (.ref C)
/-- isinstance(x, c) for one class c, a built-in or an own one: kitOne's answer -/
theorem isinst_ok {x : V} {u t : Value} (I : Inv X pins σ H s) (rx : RelV x u) (ty : TyOf X.K H x t) (e : PySem.W.kitOne X.K t c = some b) (h : ∀ tk, Q (.bool b) { s with toks := tk }) :
    wpAny (model X.prog X.w) A (call (.builtin "isinstance") [u, c]) Q E s := by
  cases ty with
  | non => cases (show u = Value.none from rx); exact PySem.W.kia_one PySem.W.kitx_none I.kIn True.intro e (fun z => nomatch z) h
  | bl y => cases (show u = Value.bool y from rx); exact PySem.W.kia_one PySem.W.kitx_bool I.kIn True.intro e (fun z => nomatch z) h
  | int i => obtain ⟨t, q⟩ := (show ∃ t, u = Value.int i t from rx); cases q; exact PySem.W.kia_one PySem.W.kitx_int I.kIn True.intro e (fun z => nomatch z) h
  | str y => obtain ⟨t, q⟩ := (show ∃ t, u = Value.str y t from rx); cases q; exact PySem.W.kia_one PySem.W.kitx_str I.kIn True.intro e (fun z => nomatch z) h
  | flt y => obtain ⟨t, q⟩ := (show ∃ t, u = Value.float y t from rx); cases q; exact PySem.W.kia_one PySem.W.kitx_float I.kIn True.intro e (fun z => nomatch z) h
  | @lst a xs ea =>
    cases (show u = Value.ref a from rx)
    obtain ⟨_, _, n, _, h1⟩ := (show ObjOk X.prog X.w H s.heap a (.lst xs) from I.hok a _ ea)
    exact PySem.W.kia_one PySem.W.kitx_list I.kIn ⟨_, h1, rfl⟩ e (fun z => nomatch z) h
  | @frz a ob xs ea =>
    cases (show u = Value.ref a from rx)
    obtain ⟨_, _, _, n, _, h1⟩ := (show ObjOk X.prog X.w H s.heap a (.frz ob (.lst xs)) from I.hok a _ ea)
    exact PySem.W.kia_one PySem.W.kitx_list I.kIn ⟨_, h1, rfl⟩ e (fun z => nomatch z) h
  | @tup a xs ea =>
    cases (show u = Value.ref a from rx)
    obtain ⟨_, _, _, p⟩ := (show ObjOk X.prog X.w H s.heap a (.tup xs) from I.hok a _ ea)
    obtain ⟨o, h1, h2, _⟩ := p
    exact PySem.W.kia_one PySem.W.kitx_tuple I.kIn ⟨o, h1, h2⟩ e (fun z => nomatch z) h
  | @dK a kvs ea =>
    cases (show u = Value.ref a from rx)
    obtain ⟨_, _, vs, _, p⟩ := (show ObjOk X.prog X.w H s.heap a (.dK kvs) from I.hok a _ ea)
    obtain ⟨o, es, ep, h1, h2, _⟩ := p
    exact PySem.W.kia_one PySem.W.kitx_dict I.kIn ⟨o, h1, h2.1⟩ e (fun z => nomatch z) h
  | @dT a kvs ea =>
    cases (show u = Value.ref a from rx)
    obtain ⟨_, _, xs, _, o, es, ep, h1, h2, _⟩ := (show ObjOk X.prog X.w H s.heap a (.dT kvs) from I.hok a _ ea)
    exact PySem.W.kia_one PySem.W.kitx_dict I.kIn ⟨o, h1, h2.1⟩ e (fun z => nomatch z) h
  | @ins a C dx fs ea cl ha hn htk hm =>
    cases (show u = Value.ref a from rx)
    obtain ⟨mA, O, _⟩ := ins_get I.hok ea
    obtain ⟨od, J, _⟩ := O.look
    exact PySem.W.kia_one (PySem.W.kitx_own (cl.get _) cl.hd ha hn htk hm) I.kIn J e (fun z => nomatch z) h
end
end L2

namespace L2
open PySem PySem.Spec PyProof.Rows

/-! ### room -/
structure Room (k : Nat) (A : Around) : Prop where
  hd : A.handled = none
  dp : A.depth + 3 * k + 5 < recursionLimit
  un : A.units + 16 * k + 200 < cLine
theorem Room.mono {j k : Nat} {A : Around} (r : Room k A) (h : j ≤ k) : Room j A := ⟨r.hd, by have := r.dp; omega, by have := r.un; omega⟩
theorem Room.deeper {k : Nat} {A : Around} (r : Room (k + 1) A) (env : Env) : Room k (A.deeper env) :=
  ⟨r.hd, by have := r.dp; show A.depth + 1 + 3 * k + 5 < _; omega, by have := r.un; show A.units + 3 + 16 * k + 200 < _; omega⟩
theorem Room.depth {k : Nat} {A : Around} (r : Room k A) : A.depth < recursionLimit := by have := r.dp; omega
theorem Room.units {k : Nat} {A : Around} (r : Room k A) : A.units + 64 < cLine := by have := r.un; omega
/-! ### argument lists and displays -/
def tNil : TA := fun _ H Q => Q [] H
def tCons (ta : TE) (tr : TA) : TA := fun σ H Q => ta σ H fun x H1 => tr σ H1 fun xs H2 => Q (x :: xs) H2
section
variable {X : Cx} {e : Expr} {es : List Expr} {te : TE} {t : TA} {pos : Pos}
theorem pa_nil : PA X [] tNil := fun _ _ _ _ H Q I h => Calls.spliced_nil ⟨[], H, I, .nil, h⟩
theorem pa_cons (ha : PE X e te) (hr : PA X es t) (hs : starEach (e :: es) X.env = (false, eval e X.env) :: starEach es X.env := by rfl) : PA X (e :: es) (tCons te t) := by
  intro pos pins s σ H Q I h
  rw [hs]
  show wpAny _ _ (spliced ((false, eval e X.env) :: backTo pos (starEach es X.env))) _ _ s
  refine Calls.spliced_cons (thn (ha pins s σ H _ I h) fun u s1 ⟨x, H1, I1, r1, q1⟩ => ?_)
  exact thn (hr pos pins s1 σ H1 _ I1 q1) fun us s2 ⟨xs, H2, I2, r2, q2⟩ => ⟨x :: xs, H2, I2, .cons r1 r2, q2⟩

/-- a tuple, a list of written items -/
def tTup (t : TA) : TE := fun σ H Q => t σ H fun xs H1 => xs.length ≤ sizeLine ∧ ∀ p, H1 p = none → Q (.ref p) (upd H1 p (.tup xs))
def tLst (t : TA) : TE := fun σ H Q => t σ H fun xs H1 => xs.length ≤ sizeLine ∧ ∀ p, H1 p = none → Q (.ref p) (upd H1 p (.lst xs))
theorem pe_tup {x1} (h : PA X es t) : PE X (.Tuple es x1 pos) (tTup t) := by
  intro pins s σ H Q I hq
  refine wpAny_Tuple_spliced (thn (h pos pins s σ H _ I hq) fun us s1 ⟨xs, H1, I1, r, z, q⟩ => ⟨by rw [← r.length]; exact z, ?_⟩)
  have hf : H1 s1.heap.objs.size = none := I1.hok.fresh (Nat.le_refl _)
  refine ⟨.ref s1.heap.objs.size, upd H1 s1.heap.objs.size (.tup xs), I1.laid (t' := s1.toks) (fun b u e => Heap.get?_push_of_some _ e) (Nat.le_refl _) ?_, rfl, q _ hf⟩
  exact ⟨z, us, r, ⟨_, Heap.get?_push_size _ rfl, rfl, _, rfl⟩⟩
theorem pe_lst (h : PA X es t) : PE X (.List es pos) (tLst t) := by
  intro pins s σ H Q I hq
  refine wpAny_List_spliced (thn (h pos pins s σ H _ I hq) fun us s1 ⟨xs, H1, I1, r, z, q⟩ => ⟨by rw [← r.length]; exact z, ?_⟩)
  have hf : H1 s1.heap.objs.size = none := I1.hok.fresh (Nat.le_refl _)
  refine ⟨.ref s1.heap.objs.size, upd H1 s1.heap.objs.size (.lst xs), I1.laid (t' := s1.toks) (fun b u e => Heap.get?_push_of_some _ e) (Nat.le_refl _) ?_, rfl, q _ hf⟩
  exact ⟨z, us, 0, r, Heap.get?_push_size _ rfl⟩
end

/-! ### what a def promises -/
/-- a def's promise: the bound arguments in the parameters' order, the heap, the wanted end, the wanted exception -/
abbrev Sp := List V → Hp → VK → XK → Prop
/-- how an exception lies behind a call (file 08 gives it): the callers' frames, abstract heap and state ahead of the call, the wish, the exception, the state -/
abbrev CXT := List Env → Hp → Shared → XK → Value → Shared → Prop

/-- the state at a call -/
structure Env0 (P : Program) (w : World) (K : PySem.W.Frag) (mg : Str → Option Value) (base : Heap) (A : Around) (outer : List Env) (s : Shared) (H : Hp) : Prop where
  frames : A.frames = some outer
  mod : Mod K mg base
  bs : ∀ b o, base.get? b = some o → s.heap.get? b = some o ∧ H b = none
  bsz : base.objs.size ≤ s.heap.objs.size
  funs : s.heap.FunFrames base outer
  frf : ∀ b ∈ frs outer, H b = none
  hok : HOk P w H s.heap
  bare : AllBare s.gens
/-- a call's end -/
def CE (outer : List Env) (P : Program) (w : World) (H : Hp) (s : Shared) (Q : VK) (u : Value) (s' : Shared) : Prop :=
  ∃ v H', s'.os = s.os ∧ AllBare s'.gens ∧ Un (frs outer) [] H H' s.heap s'.heap ∧ HOk P w H' s'.heap ∧ RelV v u ∧ Q v H'
def CR (CX : CXT) (outer : List Env) (P : Program) (w : World) (H : Hp) (s : Shared) (Q : VK) (E : XK) (r : Result) (s' : Shared) : Prop :=
  match r with
  | .ok (.ret u) => CE outer P w H s Q u s'
  | .ok _ => False
  | .error e => CX outer H s E e s'
structure FnOk (P : Program) (w : World) (K : PySem.W.Frag) (mg : Str → Option Value) (base : Heap) (CX : CXT) (k : Nat) (f : Addr) (fd : FuncData) (ps : List Str) (sp : Sp) : Prop where
  len : ∀ vs H Q E, sp vs H Q E → vs.length = ps.length
  run : ∀ (A : Around) (outer : List Env) (s : Shared) (H : Hp) (args : Args) (us : List Value) (vs : List V) (Q : VK) (E : XK), Room k A → Env0 P w K mg base A outer s H → BindsTo s fd args (ps.zip us) → Vals vs us → sp vs H Q E →
    codeAny (model P w) A (.call (.ref f) args) (CR CX outer P w H s Q E) s
theorem FnOk.mono {P : Program} {w : World} {K : PySem.W.Frag} {mg : Str → Option Value} {base : Heap} {CX : CXT} {j k : Nat} {f : Addr} {fd : FuncData} {ps : List Str} {sp : Sp} (F : FnOk P w K mg base CX j f fd ps sp) (h : j ≤ k) :
    FnOk P w K mg base CX k f fd ps sp := ⟨F.len, fun A outer s H args us vs Q E hr => F.run A outer s H args us vs Q E (hr.mono h)⟩
section
variable {X : Cx} {pins : List (Addr × Obj)} {σ : St} {H : Hp} {s s' : Shared}
/-- from a body: what a callee wants -/
theorem Inv.env0 (I : Inv X pins σ H s) : Env0 X.prog X.w X.K X.mg X.base X.A X.stack s H :=
  ⟨I.ok.frames, I.ok.mod, I.bs, Nat.le_trans I.ok.bsz I.sz, I.stack, I.stkFree, I.hok, I.bare⟩
/-- behind a call -/
theorem Inv.after {Q : VK} {u : Value} (I : Inv X pins σ H s) (h : CE X.stack X.prog X.w H s Q u s') : EP X pins σ Q u s' := by
  obtain ⟨v, H', os, bare, un, hok, r, q⟩ := h
  obtain ⟨hh, g, d, t, os'⟩ := s'
  obtain rfl : os' = s.os := os
  exact ⟨v, H', I.call (h' := hh) (g' := g) (d' := d) (t' := t) (ch := []) un hok bare (fun b z => absurd z (by simp)), r, q⟩
end

/-! ### calls -/
/-- f(..): the written arguments, then the defaults dvs; E: what is wanted of an exception -/
def tCall (sp : Sp) (dvs : List V) (E : XK) (t : TA) : TE := fun σ H Q => t σ H fun vs H1 => sp (vs ++ dvs) H1 Q E
/-- o.m(..) of an instance of the class at C -/
def tMeth (C : Addr) (m : Str) (sp : Sp) (dvs : List V) (E : XK) (ta : TE) (t : TA) : TE := fun σ H Q => ta σ H fun x H1 => ∃ a dx fs, x = .ref a ∧ H1 a = some (.ins C dx fs) ∧ fs.lookup m = none ∧
  t σ H1 fun vs H2 => sp (x :: (vs ++ dvs)) H2 Q E
/-- C(..): a new instance and its dict, then __init__ -/
def tMake (C : Addr) (sp : Sp) (dvs : List V) (E : XK) (t : TA) : TE := fun σ H Q => t σ H fun vs H1 => ∀ x dx, H1 x = none → H1 dx = none → dx ≠ x →
  sp (.ref x :: (vs ++ dvs)) (upd (upd H1 dx (.own x)) x (.ins C dx [])) (fun v H2 => v = .non ∧ Q (.ref x) H2) E

/-- how the parameters are bound: us the positional arguments, kw the keywords' values by name, ds the defaults that fill up -/
def Binds (K : PySem.W.Frag) (fd : FuncData) (ps : List Str) (ds : List Value) : Prop :=
  ∀ (s : Shared) (us : List Value), K.In s.heap → (us ++ ds).length = ps.length → BindsTo s fd ⟨us, []⟩ (ps.zip (us ++ ds))
/-- every parameter is given -/
theorem Binds.all {K : PySem.W.Frag} {fd : FuncData} {ps : List Str} (h : ∀ us : List Value, us.length = ps.length → bindArgs fd ⟨us, []⟩ = pure (ps.zip us)) : Binds K fd ps [] := fun s us _ hl => by
  rw [List.append_nil] at hl ⊢
  exact .of_eq (h us hl)

/-- an exception of a callee reaches what this body wants of exceptions -/
def Passes (CX : CXT) (X : Cx) (E : XK) : Prop := ∀ (pins : List (Addr × Obj)) (σ : St) (H : Hp) (s : Shared) (e : Value) (s' : Shared), Inv X pins σ H s → CX X.stack H s E e s' → X.xe e s'

section
variable {X : Cx} {CX : CXT} {k : Nat} {f C : Addr} {fd : FuncData} {ps : List Str} {sp : Sp} {dvs : List V} {ds : List Value} {E : XK} {x m : Str} {p pos apos : Pos} {e o : Expr} {es : List Expr} {ta : TE} {t : TA}

/-- the callee runs -/
theorem run_fn {pins : List (Addr × Obj)} {σ : St} {H : Hp} {s : Shared} {Q : VK} {us : List Value} {vs : List V} (F : FnOk X.prog X.w X.K X.mg X.base CX k f fd ps sp) (hr : Room k X.A) (hb : Binds X.K fd ps ds) (hd : Vals dvs ds) (hx : Passes CX X E)
    (I : Inv X pins σ H s) (r : Vals vs us) (h : sp (vs ++ dvs) H Q E) : wpAny (model X.prog X.w) X.A (call (.ref f) us) (EP X pins σ Q) X.xe s := by
  have r2 : Vals (vs ++ dvs) (us ++ ds) := r.append hd
  have hl : (us ++ ds).length = ps.length := by rw [← r2.length]; exact F.len _ _ _ _ h
  refine wpAny_call (codeAny_mono (F.run X.A X.stack s H ⟨us, []⟩ (us ++ ds) (vs ++ dvs) Q E hr I.env0 (hb s us I.kIn hl) r2 h) fun r s' hq => ?_)
  cases r with
  | error e => exact hx pins σ H s e s' I hq
  | ok fl =>
    cases fl with
    | ret u => exact I.after hq
    | next => exact False.elim hq
    | brk => exact False.elim hq
    | cont => exact False.elim hq

theorem pe_call (F : FnOk X.prog X.w X.K X.mg X.base CX k f fd ps sp) (hr : Room k X.A) (hg : Gl X x) (hm : X.mg x = some (.ref f)) (hk : PySem.W.keepIn X.K (.ref f) = true) (hb : Binds X.K fd ps ds) (hd : Vals dvs ds) (hx : Passes CX X E)
    (ha : PA X (e :: es) t) (hdb : (x == ("__debug__" : Str)) = false := by decide) (he : starEach (e :: es) X.env = (false, eval e X.env) :: starEach es X.env := by rfl) (hpl : (backTo pos (starEach es X.env)).any (·.1) = false := by rfl) :
    PE X (.Call (.Name x p) (e :: es) [] pos) (tCall sp dvs E t) := by
  intro pins s σ H Q I h
  refine wpAny_Call_Name_kw (ld_glob I hg hm ?_ hdb)
  refine PySem.W.callWith_K (h₀ := X.base) I.ok.mod.kin hk (thn (ha pos pins s σ H _ I h) fun us s1 ⟨vs, H1, I1, r, q⟩ => ⟨I1.kIn, ?_⟩) he hpl
  exact run_fn F hr hb hd hx I1 r q
/-- what a class must have to be made -/
structure Mk (K : PySem.W.Frag) (C f : Addr) : Prop where
  makes : PySem.W.makesIn K C = true
  init : PySem.W.findIn K (.ref C) "__init__" = some (some (.ref f))
  fn : PySem.W.isFn K (.ref f) = true
  kp : PySem.W.keepIn K (.ref C) = true

end

/-! ### keywords -/
/-- the values of the keywords, from the left -/
def PK (X : Cx) (kws : List Keyword) (t : TA) : Prop :=
  ∀ (pos : Pos) (pins : List (Addr × Obj)) (s : Shared) (σ : St) (H : Hp) (Q : List V → Hp → Prop), Inv X pins σ H s → t σ H Q → wpAny (model X.prog X.w) X.A (evalAll ((backToKw pos (keywordEach kws X.env)).map (·.2))) (AP X pins σ Q) X.xe s
section
variable {X : Cx} {CX : CXT} {k : Nat} {f C : Addr} {fd : FuncData} {ps ks : List Str} {sp : Sp} {E : XK} {x m : Str} {p pos apos kpos : Pos} {e o : Expr} {es : List Expr} {kws : List Keyword} {te ta : TE} {t tk : TA} {nm : Option Str}
/-- how a call with keywords binds: g puts the positional values us and the keywords' values ws (names ks) in the parameters' order, defaults among them -/
structure KBinds (K : PySem.W.Frag) (fd : FuncData) (ps ks : List Str) (g : List Value → List Value → List Value) (gV : List V → List V → List V) : Prop where
  to : ∀ (s : Shared) (us ws : List Value), K.In s.heap → (g us ws).length = ps.length → BindsTo s fd ⟨us, ks.zip ws⟩ (ps.zip (g us ws))
  rel : ∀ {vs : List V} {us : List Value} {zs : List V} {ws : List Value}, Vals vs us → Vals zs ws → Vals (gV vs zs) (g us ws)
def tCallK (sp : Sp) (gV : List V → List V → List V) (E : XK) (t tk : TA) : TE := fun σ H Q => t σ H fun vs H1 => tk σ H1 fun zs H2 => sp (gV vs zs) H2 Q E
variable {g : List Value → List Value → List Value} {gV : List V → List V → List V}
end

/-! ### a def's body keeps its promise -/
/-- names: the parameters first -/
structure FnScope (N P : List Str) (sc : Scope) : Prop where
  kind : sc.kind = .function
  co : sc.isCoroutine = false
  gen : sc.isGenerator = false
  nd : N.Nodup
  pre : N.take P.length = P
  par : ∀ x ∈ P, sc.names.lookup x = some .local ∨ sc.names.lookup x = some .cell
  nofree : ∀ y ∈ sc.names, y.2 ≠ .free

theorem bindL_out {kindOf : Str → Option NameKind} {x : Str} : ∀ {binds : List (Str × Value)} {m : Str → Option Value}, (∀ v, (x, v) ∉ binds) → bindL kindOf binds m x = m x
  | [], _, _ => rfl
  | (n, v) :: r, m, h => by
    unfold bindL
    rw [bindL_out fun w hw => h w (List.mem_cons_of_mem _ hw)]
    split
    · have : x ≠ n := by rintro rfl; exact h v List.mem_cons_self
      simp [this]
    · rfl
theorem bindC_out {kindOf : Str → Option NameKind} {x : Str} : ∀ {binds : List (Str × Value)} {m : Str → Option Value}, (∀ v, (x, v) ∉ binds) → bindC kindOf binds m x = m x
  | [], _, _ => rfl
  | (n, v) :: r, m, h => by
    unfold bindC
    rw [bindC_out fun w hw => h w (List.mem_cons_of_mem _ hw)]
    split
    · rfl
    · have : x ≠ n := by rintro rfl; exact h v List.mem_cons_self
      simp [this]
theorem bindL_get {kindOf : Str → Option NameKind} {x : Str} {v : Value} : ∀ {P : List Str} {vs : List Value} {i : Nat} {m : Str → Option Value}, P.Nodup → P[i]? = some x → vs[i]? = some v → kindOf x = some .local →
    bindL kindOf (P.zip vs) m x = some v
  | [], _, _, _, _, h, _, _ => by simp at h
  | _ :: _, [], _, _, _, _, h, _ => by simp at h
  | p :: P, w :: vs, 0, m, nd, h1, h2, hk => by
    simp at h1 h2; subst h1; subst h2
    show bindL kindOf ((p, w) :: P.zip vs) m p = _
    unfold bindL
    rw [bindL_out fun v hv => (List.nodup_cons.mp nd).1 (List.of_mem_zip hv).1, if_pos hk]
    simp
  | p :: P, w :: vs, i + 1, m, nd, h1, h2, hk => by
    show bindL kindOf ((p, w) :: P.zip vs) m x = _
    unfold bindL
    exact bindL_get (i := i) (List.nodup_cons.mp nd).2 (by simpa using h1) (by simpa using h2) hk
theorem bindC_get {kindOf : Str → Option NameKind} {x : Str} {v : Value} : ∀ {P : List Str} {vs : List Value} {i : Nat} {m : Str → Option Value}, P.Nodup → P[i]? = some x → vs[i]? = some v → kindOf x ≠ some .local →
    bindC kindOf (P.zip vs) m x = some v
  | [], _, _, _, _, h, _, _ => by simp at h
  | _ :: _, [], _, _, _, _, h, _ => by simp at h
  | p :: P, w :: vs, 0, m, nd, h1, h2, hk => by
    simp at h1 h2; subst h1; subst h2
    show bindC kindOf ((p, w) :: P.zip vs) m p = _
    unfold bindC
    rw [bindC_out fun v hv => (List.nodup_cons.mp nd).1 (List.of_mem_zip hv).1, if_neg hk]
    simp
  | p :: P, w :: vs, i + 1, m, nd, h1, h2, hk => by
    show bindC kindOf ((p, w) :: P.zip vs) m x = _
    unfold bindC
    exact bindC_get (i := i) (List.nodup_cons.mp nd).2 (by simpa using h1) (by simpa using h2) hk

/-- the names' values at the entry -/
def start (N : List Str) (vs : List V) : St := vs.map some ++ List.replicate (N.length - vs.length) none

/-- the context of a def's body, at its entry; an exception leaves the frame, then lies as CX says -/
def cxOf (CX : CXT) (P : Program) (w : World) (K : PySem.W.Frag) (mg : Str → Option Value) (base : Heap) (N : List Str) (qual : Str) (scope : Scope) (f : Addr) (cd : Value) (A : Around) (outer : List Env) (s : Shared) (H : Hp) (E : XK) : Cx where
  prog := P
  w := w
  K := K
  mg := mg
  base := base
  A := A.deeper (envOfC qual scope s.heap.objs.size f cd)
  N := N
  s₀ := s
  H₀ := H
  env := envOfC qual scope s.heap.objs.size f cd
  outer := outer
  stack := envOfC qual scope s.heap.objs.size f cd :: outer
  ex := []
  calm := true
  fn := fun _ => true
  pn := []
  xe := fun e s' => wpAny (model P w) (A.deeper (envOfC qual scope s.heap.objs.size f cd)) (leaving (envOfC qual scope s.heap.objs.size f cd) e) (fun _ s'' => CX outer H s E e s'') (fun e' s'' => CX outer H s E e' s'') s'

theorem cell_has {sc : Scope} {n : Nat} {x : Str} (h : sc.names.lookup x = some .cell) : ∃ c, (cellsFrom n sc.names []).lookup x = some c := by
  have q := PySem.W.cellsFrom_some sc.names n [] (.inl h)
  exact Option.isSome_iff_exists.mp q

theorem inv_start {CX : CXT} {P : Program} {w : World} {K : PySem.W.Frag} {mg : Str → Option Value} {base : Heap} {N ps : List Str} {qual : Str} {scope : Scope} {f : Addr} {cd : Value} {A : Around} {outer : List Env} {s s1 : Shared} {H : Hp} {E : XK} {us : List Value} {vs : List V}
    (S : FnScope N ps scope) (hd : A.handled = none) (e0 : Env0 P w K mg base A outer s H) (hl : vs.length = ps.length) (r : Vals vs us)
    (x : InCallC s s.heap.objs.size (bindL (envOfC qual scope s.heap.objs.size f cd).kindOf (ps.zip us) fun _ => none) (cellsFrom (s.heap.objs.size + 1) scope.names []) (bindC (envOfC qual scope s.heap.objs.size f cd).kindOf (ps.zip us) fun _ => none) s1) :
    Inv (cxOf CX P w K mg base N qual scope f cd A outer s H E) [] (start N vs) H s1 := by
  have hpl : ps.length ≤ N.length := by have := congrArg List.length S.pre; rw [List.length_take] at this; omega
  obtain ⟨h1, tk, rfl, hk⟩ := x.done
  have noA : ∀ b : Addr, b ∉ (cxOf CX P w K mg base N qual scope f cd A outer s H E).ex := fun b z => absurd (show b ∈ ([] : List Addr) from z) (by simp)
  refine ⟨⟨e0.mod, S.kind, rfl, rfl, Nat.le_refl _, fun y z c h1 h2 => ?_, fun y hy => ?_, fun y c _ h => ?_, fun _ => hd, Around.frames_deeper e0.frames, .inr ⟨rfl, rfl⟩, fun b z => absurd z (noA b), e0.bs, e0.bsz, fun b _ _ => noA b, fun b z => absurd z (noA b), e0.funs, e0.frf⟩,
    rfl, e0.bare, Un.kept hk, ⟨_, x.toInCall.ns, fun i y v h1 h2 h3 => ?_⟩, fun y c h => ⟨_, x.cell y c h⟩, e0.hok.fresh (Nat.le_refl _), fun y c h => ?_, fun p hp => absurd (show p ∈ ([] : List (Addr × Obj)) from hp) (by simp), e0.hok.kept hk, ?_⟩
  · exact name_of_addr x.apart (PySem.mem_of_lookup h1) (PySem.mem_of_lookup h2)
  · have hy : scope.names.lookup y = some .cell ∨ scope.names.lookup y = some .free := hy
    rcases hy with hy | hy
    · exact cell_has hy
    · exact absurd rfl (S.nofree _ (PySem.mem_of_lookup hy))
  · exact Nat.le_of_lt (x.above y c (PySem.mem_of_lookup h))
  · have hi : i < vs.length := by
      unfold start at h2
      by_cases hi : i < vs.length
      · exact hi
      · rw [List.getElem?_append_right (by simpa using hi)] at h2
        rw [List.getElem?_replicate] at h2
        split at h2 <;> cases h2
    have ha : vs[i]? = some v := by
      unfold start at h2
      rw [List.getElem?_append_left (by simpa using hi), List.getElem?_map] at h2
      cases e : vs[i]? with
      | none => rw [e] at h2; cases h2
      | some a => rw [e] at h2; cases h2; rfl
    obtain ⟨u, hu, rv⟩ := r.get ha
    have hp : ps[i]? = some y := by
      rw [← S.pre, List.getElem?_take_of_lt (by omega)]; exact h1
    have ndP : ps.Nodup := by rw [← S.pre]; exact S.nd.sublist (List.take_sublist _ _)
    refine ⟨u, rv, ?_⟩
    rcases S.par y (List.mem_of_getElem? hp) with k | k
    · exact .inl ⟨k, bindL_get ndP hp hu k⟩
    · obtain ⟨c, e⟩ := cell_has (n := s.heap.objs.size + 1) k
      refine .inr ⟨.inl k, c, e, ?_⟩
      have q := x.cell y c e
      rw [bindC_get ndP hp hu (by show scope.names.lookup y ≠ _; rw [k]; decide)] at q
      exact q
  · exact e0.hok.fresh (Nat.le_of_lt (x.above y c (PySem.mem_of_lookup h)))
  · unfold start
    show _ = N.length
    rw [List.length_append, List.length_map, List.length_replicate]
    omega

/-- THE RULE: a def (or a method) of the text, by its body. The body's reading t is chosen for each entry; it is run at the parameters' values -/
theorem fn_of {CX : CXT} {P : Program} {w : World} {K : PySem.W.Frag} {mg : Str → Option Value} {base : Heap} {k : Nat} {f : Addr} {name qual : Str} {params : Arguments} {body : List Stmt} {scope : Scope} {dV kV doc pm cdv ct oc : Value} {an od : Option Addr}
    {osl : Array (Option Value)} {N ps : List Str} {sp : Sp} (lk : K.lookup f = some ⟨oc, od, .func (PySem.W.fnOf name qual params body scope dV kV doc pm an cdv ct), osl⟩) (hcd : PySem.W.codeIn K cdv qual = true) (S : FnScope N ps scope)
    (len : ∀ vs H Q E, sp vs H Q E → vs.length = ps.length)
    (hbody : ∀ (A : Around) (outer : List Env) (s : Shared) (H : Hp) (vs : List V) (Q : VK) (E : XK), Room k (A.deeper (envOfC qual scope s.heap.objs.size f cdv)) → sp vs H Q E →
      ∃ t, PSs (cxOf CX P w K mg base N qual scope f cdv A outer s H E) body t ∧ t { nx := fun _ H' => Q .non H', rt := Q } (start N vs) H) :
    FnOk P w K mg base CX (k + 1) f (PySem.W.fnOf name qual params body scope dV kV doc pm an cdv ct) ps sp := by
  refine ⟨len, fun A outer s H args us vs Q E hr e0 hb r hsp => ?_⟩
  have hl := len _ _ _ _ hsp
  have KX : K.In s.heap := e0.mod.kin.keeps fun b o e => (e0.bs b o e).1
  have lim : s.heap.NoLimit := e0.mod.nolimit.keeps fun b o e => (e0.bs b o e).1
  have hkind : ∀ y ∈ ps.zip us, scope.names.lookup y.1 = some .local ∨ (scope.names.lookup y.1 = some .cell ∧ ((cellsFrom (s.heap.objs.size + 1) scope.names []).lookup y.1).isSome = true) := fun ⟨n, v⟩ hy => by
    rcases S.par n (List.of_mem_zip hy).1 with q | q
    · exact .inl q
    · exact .inr ⟨q, PySem.W.cellsFrom_some _ _ _ (.inl q)⟩
  refine codeAny_call_function hr.depth (KX _ _ lk) rfl S.co S.gen rfl (PySem.W.codeRec_of KX hcd) (hb _ _ _ _ ?_)
  refine wpAny_newFunctionEnv_cells S.kind hkind fun env he s1 x => ?_
  subst he
  refine ⟨lim.keeps x.toInCall.keep, codeAny_func ?_⟩
  obtain ⟨t, ht, hq⟩ := hbody A outer s H vs Q E (hr.deeper _) hsp
  have I : Inv (cxOf CX P w K mg base N qual scope f cdv A outer s H E) [] (start N vs) H s1 := inv_start S hr.hd e0 hl r x
  refine wpAny_mono (ht [] s1 (start N vs) H _ I hq) (fun fl s' hs => ?_) fun e s' hs => hs
  have fin : ∀ {σ' : St} {H' : Hp} {v : V} {u : Value}, Inv (cxOf CX P w K mg base N qual scope f cdv A outer s H E) [] σ' H' s' → RelV v u → Q v H' → CE outer P w H s Q u s' :=
    fun {σ' H' v u} J rv q => ⟨v, H', J.os, J.bare, J.base, J.hok, rv, q⟩
  cases fl with
  | ret u =>
    obtain ⟨v, σ', H', J, rv, q⟩ := hs
    exact fin J rv q
  | next =>
    obtain ⟨σ', H', J, q⟩ := hs
    exact fin (v := V.non) (u := Value.none) J rfl q
  | brk =>
    obtain ⟨_, _, _, q⟩ := hs
    exact False.elim q
  | cont =>
    obtain ⟨_, _, _, q⟩ := hs
    exact False.elim q
end L2

namespace L2
open PySem PySem.Spec PyProof.Rows
section
variable {X : Cx} {x : Str} {p pos : Pos} {e : Expr} {es : List Expr} {t : TA} {id T : String} {r : List V → Hp → VK → Prop}

def tCB (r : List V → Hp → VK → Prop) (t : TA) : TE := fun σ H Q => t σ H fun vs H1 => r vs H1 Q
/-- f(e, ..), f a built-in function -/
theorem pe_callB (hc : CallR X (.builtin id) r) (hg : Gl X x) (hm : X.mg x = none) (hv : bootBuiltins x = some (.builtin id)) (ha : PA X (e :: es) t) (hn : x ≠ "__name__" := by decide) (hdb : (x == ("__debug__" : Str)) = false := by decide)
    (he : starEach (e :: es) X.env = (false, eval e X.env) :: starEach es X.env := by rfl) (hpl : (backTo pos (starEach es X.env)).any (·.1) = false := by rfl) : PE X (.Call (.Name x p) (e :: es) [] pos) (tCB r t) := by
  intro pins s σ H Q I h
  refine wpAny_Call_Name_kw (ld_blt I hg hm hv ?_ hn hdb)
  exact PyProof.Rows.callWith_builtin1 (thn (ha pos pins s σ H _ I h) fun us s1 ⟨vs, H1, I1, r1, q1⟩ => hc pins s1 σ H1 vs us Q I1 r1 q1) he hpl
/-- T(e, ..), T a built-in type -/
theorem pe_callTy (hc : CallR X (.type T) r) (hg : Gl X x) (hm : X.mg x = none) (hv : bootBuiltins x = some (.type T)) (ha : PA X (e :: es) t) (hn : x ≠ "__name__" := by decide) (hdb : (x == ("__debug__" : Str)) = false := by decide)
    (he : starEach (e :: es) X.env = (false, eval e X.env) :: starEach es X.env := by rfl) (hpl : (backTo pos (starEach es X.env)).any (·.1) = false := by rfl) : PE X (.Call (.Name x p) (e :: es) [] pos) (tCB r t) := by
  intro pins s σ H Q I h
  refine wpAny_Call_Name_kw (ld_blt I hg hm hv ?_ hn hdb)
  exact PyProof.Rows.callWith_type1 (thn (ha pos pins s σ H _ I h) fun us s1 ⟨vs, H1, I1, r1, q1⟩ => hc pins s1 σ H1 vs us Q I1 r1 q1) he hpl
end
end L2

namespace HT
open PySem PyProof.Rows

/-- t < u of tuples of ints -/
def lexLt : List Int → List Int → Bool
  | [], [] => false
  | [], _ :: _ => true
  | _ :: _, [] => false
  | x :: xs, y :: ys => if x = y then lexLt xs ys else decide (x < y)
section
open PySem.SeqAt
open PySem.AutoSeq1 (wpAny_loadPart')
open PySem.MeetsSeq PySem.MeetsSeq2 PySem.MeetsSeq3

end

section
variable {prog : Program} {w : World} {A : Around} {E : Value → Shared → Prop} {s : Shared}

/-- t + u, t not empty -/
theorem cat_tup {t b : Addr} {vs ws : List Value} {Q : Value → Shared → Prop} (ht : IsTup s.heap t vs.toArray) (hb : IsTup s.heap b ws.toArray) (hv : vs ≠ [])
    (h1 : ws = [] → Q (.ref t) s) (h2 : ws ≠ [] → Q (.ref s.heap.objs.size) { s with heap := s.heap.push { cls := .type "tuple", data := .seq (vs ++ ws).toArray } })
    (hsz : vs.length + ws.length ≤ sizeLine) : wpAny (model prog w) A (binaryOp .Add (.ref t) (.ref b)) Q E s := by
  obtain ⟨⟨cls, dd, data, sl⟩, ho, hc, n, hd⟩ := id ht
  obtain ⟨⟨cls2, dd2, data2, sl2⟩, ho2, hc2, n2, hd2⟩ := id hb
  simp only at hc hd hc2 hd2
  subst hc hd hc2 hd2
  have e : vs.toArray ++ ws.toArray = (vs ++ ws).toArray := by simp
  by_cases hw : ws = []
  · exact concat_meets ⟨_, ho, rfl⟩ ⟨_, ho2, rfl⟩ noFill_tuple_add seq_tuple_add PySem.F.slot_tuple_add PySem.F.entry_tuple_add (PySem.F.args_tuple_add_2 _ _)
      (tuple_addW1 t b vs.toArray ws.toArray n n2 dd dd2 sl sl2 (by simpa using hv) (by simp [hw])) ⟨ho, ho2, h1 hw⟩
  · refine concat_meets ⟨_, ho, rfl⟩ ⟨_, ho2, rfl⟩ noFill_tuple_add seq_tuple_add PySem.F.slot_tuple_add PySem.F.entry_tuple_add (PySem.F.args_tuple_add_2 _ _)
      (tuple_addW2 t b vs.toArray ws.toArray n n2 dd dd2 sl sl2 (by simpa using hv) (by simpa using hw) (by rw [List.size_toArray, List.size_toArray]; exact hsz)) ⟨ho, ho2, ?_⟩
    rw [e]
    exact h2 hw

/-! ### t[a:b], not the whole -/
/-- a slice's bound as a place among n (d where it is left out) -/
def sIx (n d : Nat) : Option Int → Nat
  | none => d
  | some v => if v < 0 then (v + (n : Int)).toNat else min v.toNat n
theorem sIx_le (n d : Nat) (hd : d ≤ n) (o : Option Int) : sIx n d o ≤ n := by
  cases o with
  | none => exact hd
  | some v =>
    show (if v < 0 then (v + (n : Int)).toNat else min v.toNat n) ≤ n
    by_cases hv : v < 0
    · rw [if_pos hv]; omega
    · rw [if_neg hv]; exact Nat.min_le_right _ _
theorem clip_eq (v : Int) (n d : Nat) : (if v < 0 then max (v + (n : Int)) 0 else min v (n : Int)) = ((sIx n d (some v) : Nat) : Int) := by
  show (if v < 0 then max (v + (n : Int)) 0 else min v (n : Int)) = (((if v < 0 then (v + (n : Int)).toNat else min v.toNat n) : Nat) : Int)
  by_cases hv : v < 0
  · simp only [if_pos hv]; omega
  · simp only [if_neg hv]; omega
theorem adjust_gen (lo hi : Option Int) (n : Nat) : Builtin.Slice.sliceAdjust lo hi 1 (n : Int) = (((sIx n 0 lo : Nat) : Int), ((sIx n n hi : Nat) : Int)) := by
  have h1 : ¬ ((1 : Int) < 0) := by omega
  unfold Builtin.Slice.sliceAdjust
  simp only [h1, if_false]
  refine Prod.ext ?_ ?_
  · cases lo with
    | none => rfl
    | some v => exact clip_eq v n 0
  · cases hi with
    | none => rfl
    | some v => exact clip_eq v n n
theorem places_gen (i j : Nat) : Builtin.Slice.slicePlaces (i : Int) (j : Int) 1 = j - i := by
  unfold Builtin.Slice.slicePlaces
  have h1 : (1 : Int) > 0 := by omega
  simp only [h1, if_true, Int.ediv_one]
  split <;> omega
theorem slicePart_ {v : Value} {o : Option Int} {Q : Option Int → Shared → Prop} (p : IsPart v o) (h : Q o s) : wpAny (model prog w) A (Builtin.Slice.slicePartIndex v) Q E s := by
  cases p with
  | none => exact slicePart_none h
  | int i t => exact slicePart_int h
theorem sliceApplied_gen {sl : Addr} {vl vu : Value} {lo hi : Option Int} {n : Nat} {Q : Int × Int × Nat → Shared → Prop} (hs : s.heap.IsSliceOf sl vl vu .none) (pl : IsPart vl lo) (pu : IsPart vu hi)
    (h : Q (((sIx n 0 lo : Nat) : Int), 1, sIx n n hi - sIx n 0 lo) s) : wpAny (model prog w) A (Builtin.Slice.sliceApplied (.ref sl) (pure (n : Int))) Q E s := by
  obtain ⟨os, hos, hcs, hds⟩ := id hs
  unfold Builtin.Slice.sliceApplied Builtin.Slice.sliceFields
  refine wpAny_bind (wpAny_bind (wpAny_field hos hds (x := vl) rfl (wpAny_bind (wpAny_field hos hds (x := vu) rfl (wpAny_bind (wpAny_field hos hds (x := .none) rfl (wpAny_pure ?_)))))))
  refine wpAny_bind (slicePart_none ?_)
  show wpAny _ _ (if ((1 : Int) == 0) = true then _ else _) _ _ s
  rw [if_neg (by decide)]
  refine wpAny_bind (slicePart_ pl (wpAny_bind (slicePart_ pu (wpAny_bind (wpAny_pure ?_)))))
  show wpAny _ _ (match Builtin.Slice.sliceAdjust lo hi 1 (n : Int) with | (lo, hi) => pure (lo, (1 : Int), Builtin.Slice.slicePlaces lo hi 1)) _ _ s
  rw [adjust_gen lo hi n]
  show wpAny _ _ (pure (((sIx n 0 lo : Nat) : Int), (1 : Int), Builtin.Slice.slicePlaces ((sIx n 0 lo : Nat) : Int) ((sIx n n hi : Nat) : Int) 1)) _ _ s
  rw [places_gen]
  exact wpAny_pure h
theorem pick_gen (xs : Array Value) (i k : Nat) : ((List.range k).filterMap fun (m : Nat) => xs[((i : Int) + (m : Int) * 1).toNat]?).toArray = ((xs.toList.drop i).take k).toArray := by
  have e : (fun (m : Nat) => xs[((i : Int) + (m : Int) * 1).toNat]?) = fun m => xs[i + m]? := by
    funext m
    have : ((i : Int) + (m : Int) * 1).toNat = i + m := by omega
    rw [this]
  rw [e]
  have := pick_run xs i k
  rw [List.filterMap_map] at this
  have e2 : ((fun x => xs[x]?) ∘ fun x => i + x) = fun m => xs[i + m]? := rfl
  rw [e2] at this
  rw [this]

theorem getItem_tuple_cut {t sl : Addr} {items : Array Value} {vl vu : Value} {lo hi : Option Int} {Q : Value → Shared → Prop} (ht : IsTup s.heap t items) (hs : s.heap.IsSliceOf sl vl vu .none) (pl : IsPart vl lo) (pu : IsPart vu hi)
    (hw : ¬ (sIx items.size 0 lo = 0 ∧ sIx items.size items.size hi = items.size))
    (h : Q (.ref s.heap.objs.size) { s with heap := s.heap.push { cls := .type "tuple", data := .seq ((items.toList.drop (sIx items.size 0 lo)).take (sIx items.size items.size hi - sIx items.size 0 lo)).toArray } })
    (hsz : items.size ≤ sizeLine) : wpAny (model prog w) A (getItem (.ref t) (.ref sl)) Q E s := by
  have htake : sizeOk (.seq ((items.toList.drop (sIx items.size 0 lo)).take (sIx items.size items.size hi - sIx items.size 0 lo)).toArray) := by
    show ((items.toList.drop (sIx items.size 0 lo)).take (sIx items.size items.size hi - sIx items.size 0 lo)).toArray.size ≤ sizeLine
    rw [List.size_toArray, List.length_take, List.length_drop, Array.length_toList]
    omega
  have hj : sIx items.size items.size hi ≤ items.size := sIx_le _ _ (Nat.le_refl _) hi
  obtain ⟨os, hos, hcs, hds⟩ := id hs
  have hTs : s.TypeIs (.ref sl) "slice" := ⟨os, hos, hcs⟩
  unfold getItem
  try with_reducible refine wpAny_holding ?_
  first | refine wpAny_bind (wpAny_pure ?_) | skip
  refine wpAny_bind (wpAny_sequenceKey ht.typeIs (by decide) ?_)
  refine wpAny_bind (wpAny_callSpecial?_slot (name := Str.ofString "__getitem__") ht.typeIs PyProof.Rows.slot_tuple_getitem
    (wpAny_call_entry PyProof.Rows.slot_tuple_getitem ht.typeIs entry_tuple_getitem ?_ (args_tuple_getitem _ _)))
  show wpAny _ _ (Builtin.Tuple.tupleItemsOf (.ref t) >>= _) _ _ s
  refine wpAny_bind (tupleItemsOf_ ht ?_)
  refine wpAny_bind (wpAny_typeOf hTs ?_)
  rw [if_pos (by decide)]
  refine wpAny_bind (sliceApplied_gen hs pl pu ?_)
  have hno : ¬ ((((sIx items.size 0 lo : Nat) : Int) == 0 && (1 : Int) == 1 && (sIx items.size items.size hi - sIx items.size 0 lo) == items.size) = true) := by
    intro q
    rw [Bool.and_eq_true, Bool.and_eq_true] at q
    have q1 : ((sIx items.size 0 lo : Nat) : Int) = 0 := eq_of_beq q.1.1
    have q2 : sIx items.size items.size hi - sIx items.size 0 lo = items.size := eq_of_beq q.2
    exact hw ⟨by omega, by omega⟩
  show wpAny _ _ (if (((sIx items.size 0 lo : Nat) : Int) == 0 && (1 : Int) == 1 && (sIx items.size items.size hi - sIx items.size 0 lo) == items.size) = true then _ else _) _ _ s
  rw [if_neg hno, pick_gen]
  first
    | exact wpAny_bind (m := Builtin.Tuple.tupleExact _) (wpAny_newObj_type (wpAny_pure ⟨_, rfl, wpAny_pure h⟩) htake)
    | exact wpAny_bind (m := Builtin.Tuple.tupleExact _) (wpAny_newObj_type (wpAny_bind (wpAny_pure (wpAny_pure ⟨_, rfl, wpAny_pure h⟩))) htake)
    | exact wpAny_bind (wpAny_bind (m := Builtin.Tuple.tupleExact _) (wpAny_newObj_type (wpAny_pure (wpAny_pure ⟨_, rfl, wpAny_pure h⟩)) htake))
    | exact wpAny_bind (wpAny_bind (m := Builtin.Tuple.tupleExact _) (wpAny_newObj_type (wpAny_pure ⟨_, rfl, wpAny_pure h⟩) htake))
end
end HT

namespace L2
open PySem PySem.Spec PyProof.Rows

/-! ### the parts of a slice -/
abbrev TO := St → Hp → (Option Int → Hp → Prop) → Prop
/-- a slice's part (left out, or an int) -/
def PO (X : Cx) (e : Option Expr) (t : TO) : Prop :=
  ∀ (pins : List (Addr × Obj)) (s : Shared) (σ : St) (H : Hp) (Q : Option Int → Hp → Prop), Inv X pins σ H s → t σ H Q →
    wpAny (model X.prog X.w) X.A (evalPart e X.env) (fun u s' => ∃ o H', Inv X pins σ H' s' ∧ IsPart u o ∧ Q o H') X.xe s
def tNoPart : TO := fun _ H Q => Q none H
def tPart (t : TE) : TO := fun σ H Q => t σ H fun x H1 => ∃ i, x = .int i ∧ Q (some i) H1

section
variable {X : Cx} {e : Expr} {te : TE} {lo hi : Option Expr} {tl th : TO} {pos p2 : Pos}

theorem po_none : PO X none tNoPart := by
  intro pins s σ H Q I h
  rw [evalPart_none]
  exact wpAny_pure ⟨none, H, I, .none, h⟩
theorem po_some (h : PE X e te) : PO X (some e) (tPart te) := by
  intro pins s σ H Q I hw
  rw [evalPart_some]
  refine thn (h pins s σ H _ I hw) fun u s1 ⟨x, H1, I1, r1, q1⟩ => ?_
  obtain ⟨i, rfl, q⟩ := q1
  obtain ⟨t, rfl⟩ := r1
  exact ⟨some i, H1, I1, .int i t, q⟩

/-- what a slice of a value is, by values: the slice object stands at sl -/
def SlR (X : Cx) (r : V → Option Int → Option Int → Hp → VK → Prop) : Prop :=
  ∀ (pins : List (Addr × Obj)) (s : Shared) (σ : St) (H : Hp) (x : V) (v vl vu : Value) (lo hi : Option Int) (sl : Addr) (Q : VK), Inv X pins σ H s → RelV x v → s.heap.IsSliceOf sl vl vu .none → IsPart vl lo → IsPart vu hi → r x lo hi H Q →
    ∃ T id, typeLookup (.type T) "__getitem__" = pure (some (.builtin id)) ∧ s.TypeIs v T ∧ wpAny (model X.prog X.w) X.A (getItem v (.ref sl)) (EP X pins σ Q) X.xe s
def tSl (r : V → Option Int → Option Int → Hp → VK → Prop) (te : TE) (tl th : TO) : TE := fun σ H Q => te σ H fun x H1 => tl σ H1 fun l H2 => th σ H2 fun u H3 => r x l u H3 Q
/-- a[lo:hi], any a -/
theorem pe_slice {r : V → Option Int → Option Int → Hp → VK → Prop} (hr : SlR X r) (he : PE X e te) (hl : PO X lo tl) (hu : PO X hi th) : PE X (.Subscript e (.Slice lo hi none p2) pos) (tSl r te tl th) := by
  intro pins s σ H Q I h
  refine Subscript_ (thn (he pins s σ H _ I h) fun v s1 ⟨x, H1, I1, r1, q1⟩ => ?_)
  refine wpAny_Slice (thn (hl pins s1 σ H1 _ I1 q1) fun vl s2 ⟨l, H2, I2, pl, q2⟩ => thn (hu pins s2 σ H2 _ I2 q2) fun vu s3 ⟨u, H3, I3, pu, q3⟩ => ?_)
  rw [evalPart_none]
  refine wpAny_pure ?_
  have I4 : Inv X pins σ H3 { s3 with heap := s3.heap.push { cls := .type "slice", data := .fields #[vl, vu, .none] } } := I3.kept (t' := s3.toks) fun b ob q => Heap.get?_push_of_some _ q
  obtain ⟨T, id, hT, ht, hg⟩ := hr pins { s3 with heap := s3.heap.push { cls := .type "slice", data := .fields #[vl, vu, .none] } } σ H3 x v vl vu l u s3.heap.objs.size Q I4 r1 (Heap.IsSliceOf.new ..) pl pu q3
  show wpAny (model X.prog X.w) X.A (subscriptTail e (.Slice lo hi none p2) v (.ref s3.heap.objs.size)) (EP X pins σ Q) X.xe { s3 with heap := s3.heap.push { cls := .type "slice", data := .fields #[vl, vu, .none] } }
  exact tail_any (ops := [.ref s3.heap.objs.size, v]) ht hT hg (by with_unfolding_all rfl)

/-- the items of xs[lo:hi] -/
def cutV (xs : List V) (lo hi : Option Int) : List V := (xs.drop (HT.sIx xs.length 0 lo)).take (HT.sIx xs.length xs.length hi - HT.sIx xs.length 0 lo)
theorem cutV_length (xs : List V) (lo hi : Option Int) : (cutV xs lo hi).length ≤ xs.length := by
  unfold cutV
  rw [List.length_take, List.length_drop]
  omega
/-- t[lo:hi], not the whole of it (the whole would be t itself) -/
def rSlT (K : PySem.W.Frag) : V → Option Int → Option Int → Hp → VK → Prop := fun x lo hi H Q => ∃ a xs, x = .ref a ∧ SqT K H a xs ∧
  ¬ (HT.sIx xs.length 0 lo = 0 ∧ HT.sIx xs.length xs.length hi = xs.length) ∧ ∀ p, H p = none → Q (.ref p) (upd H p (.tup (cutV xs lo hi)))
theorem sl_tup : SlR X (rSlT X.K) := by
  intro pins s σ H x v vl vu lo hi sl Q I rx hs pl pu h
  obtain ⟨a, xs, rfl, hx, hw, q⟩ := h
  cases rx
  obtain ⟨its, r, ht, hz⟩ := I.tuple hx
  have hlen : its.toArray.size = xs.length := by rw [List.size_toArray]; exact r.length.symm
  refine ⟨"tuple", _, PyProof.Rows.slot_tuple_getitem.lookup, ht.typeIs, ?_⟩
  refine HT.getItem_tuple_cut ht hs pl pu (by rw [hlen]; exact hw) ?_ (by rw [hlen]; exact hz)
  rw [hlen]
  refine ⟨.ref s.heap.objs.size, _, I.laid (t' := s.toks) (o := .tup (cutV xs lo hi)) (fun b ob q => Heap.get?_push_of_some _ q) (Nat.le_refl _) ?_, rfl, q _ (I.hok.fresh (Nat.le_refl _))⟩
  exact ⟨Nat.le_trans (cutV_length xs lo hi) hz, _, (r.drop (HT.sIx xs.length 0 lo)).take (HT.sIx xs.length xs.length hi - HT.sIx xs.length 0 lo), IsTup.new _ _⟩

/-! ### t < u, t + u -/
def rLtT (K : PySem.W.Frag) : R2 := fun x y H Q => ∃ a b ns ms, x = .ref a ∧ y = .ref b ∧ SqT K H a (ns.map V.int) ∧ SqT K H b (ms.map V.int) ∧ Q (.bl (HT.lexLt ns ms)) H
/-- t + u, t not empty: u empty gives t itself -/
def rCatT (K : PySem.W.Frag) : R2 := fun x y H Q => ∃ a b xs ys, x = .ref a ∧ y = .ref b ∧ SqT K H a xs ∧ SqT K H b ys ∧ xs ≠ [] ∧ xs.length + ys.length ≤ sizeLine ∧
  (ys = [] → Q (.ref a) H) ∧ (ys ≠ [] → ∀ p, H p = none → Q (.ref p) (upd H p (.tup (xs ++ ys))))
theorem Vals.nil_iff {xs : List V} {us : List Value} (r : Vals xs us) : us = [] ↔ xs = [] := by
  cases r with
  | nil => simp
  | cons _ _ => simp
theorem op_catT : OpR X (binaryOp .Add) (rCatT X.K) := by
  intro pins s σ H x y v u Q I rx ry h
  obtain ⟨a, b, xs, ys, rfl, rfl, ha, hb, hx, hz, q1, q2⟩ := h
  cases rx
  cases ry
  obtain ⟨its, r1, p1, _⟩ := I.tuple ha
  obtain ⟨its2, r2, p2, _⟩ := I.tuple hb
  refine HT.cat_tup p1 p2 (fun z => hx (r1.nil_iff.mp z)) (fun z => ⟨.ref a, H, I, rfl, q1 (r2.nil_iff.mp z)⟩) (fun z => ?_) (by rw [← r1.length, ← r2.length]; exact hz)
  refine ⟨.ref s.heap.objs.size, _, I.laid (t' := s.toks) (o := .tup (xs ++ ys)) (fun b ob q => Heap.get?_push_of_some _ q) (Nat.le_refl _) ?_, rfl, q2 (fun w => z (r2.nil_iff.mpr w)) _ (I.hok.fresh (Nat.le_refl _))⟩
  exact ⟨by rw [List.length_append]; exact hz, _, r1.append r2, IsTup.new _ _⟩
end
end L2

namespace L2
open PySem PySem.Spec PyProof.Rows

/-! ### places -/
/-- the place that an index of any sign means -/
def ixN (n : Nat) (i : Int) : Option Nat := if 0 ≤ i then (if i < n then some i.toNat else none) else if -(n : Int) ≤ i then some (i + n).toNat else none
def atI {α : Type} (xs : List α) (i : Int) : Option α := (ixN xs.length i).bind fun j => xs[j]?
theorem ixN_seq {n : Nat} {i : Int} {j : Nat} (h : ixN n i = some j) : seqIndex? i n = some j ∧ j < n ∧ -(n : Int) ≤ i ∧ i < n := by
  unfold ixN at h
  by_cases h0 : 0 ≤ i
  · rw [if_pos h0] at h
    by_cases h1 : i < n
    · rw [if_pos h1] at h
      have e : i.toNat = j := Option.some.inj h
      exact ⟨by rw [seqIndex_of h0 h1, e], by omega, by omega, h1⟩
    · rw [if_neg h1] at h; cases h
  · rw [if_neg h0] at h
    by_cases h1 : -(n : Int) ≤ i
    · rw [if_pos h1] at h
      have e : (i + n).toNat = j := Option.some.inj h
      exact ⟨by rw [seqIndex_neg (by omega) h1, e], by omega, h1, by omega⟩
    · rw [if_neg h1] at h; cases h
theorem atI_get {α : Type} {xs : List α} {i : Int} {v : α} (h : atI xs i = some v) : ∃ j, seqIndex? i xs.length = some j ∧ xs[j]? = some v ∧ j < xs.length ∧ -(xs.length : Int) ≤ i ∧ i < xs.length := by
  unfold atI at h
  cases e : ixN xs.length i with
  | none => rw [e] at h; cases h
  | some j =>
    rw [e] at h
    obtain ⟨h1, h2, h3, h4⟩ := ixN_seq e
    exact ⟨j, h1, h, h2, h3, h4⟩
theorem atI_nat {α : Type} {xs : List α} {j : Nat} {v : α} (h : xs[j]? = some v) : atI xs (j : Int) = some v := by
  have hj : j < xs.length := (List.getElem?_eq_some_iff.mp h).1
  have e : ixN xs.length (j : Int) = some j := by
    unfold ixN
    rw [if_pos (by omega), if_pos (by omega)]; simp
  unfold atI; rw [e]; exact h
/-! ### what may be subscripted -/
/-- what stands as an index of a plain subscript -/
def PlainIx (b : Expr) : Prop := ∀ o i, subscripted b false o i = operate [o, i] (getItem o i)
/-- a subscript by values -/
def IxR (X : Cx) (r : R2) : Prop :=
  ∀ (value slice : Expr) (pins : List (Addr × Obj)) (s : Shared) (σ : St) (H : Hp) (x y : V) (v u : Value) (Q : VK), Inv X pins σ H s → RelV x v → RelV y u → r x y H Q →
    subscripted slice false v u = operate [v, u] (getItem v u) → wpAny (model X.prog X.w) X.A (subscriptTail value slice v u) (EP X pins σ Q) X.xe s
/-- a call of a builtin's method by values: the receiver, the arguments -/
def MtR (X : Cx) (id : String) (r : V → List V → Hp → VK → Prop) : Prop :=
  ∀ (pins : List (Addr × Obj)) (s : Shared) (σ : St) (H : Hp) (x : V) (xs : List V) (v : Value) (us : List Value) (Q : VK), Inv X pins σ H s → RelV x v → Vals xs us → r x xs H Q →
    wpAny (model X.prog X.w) X.A (call (.builtin id) (v :: us)) (EP X pins σ Q) X.xe s
section
variable {X : Cx} {a b : Expr} {ta tb : TE} {pos : Pos}
/-- a[b] -/
theorem pe_ix {r : R2} (hr : IxR X r) (ha : PE X a ta) (hb : PE X b tb) (hs : PlainIx b) : PE X (.Subscript a b pos) (tOp r ta tb) := by
  intro pins s σ H Q I h
  exact Subscript_ (binT ha hb I h fun v u s2 x y H2 I2 rx ry q => hr a b pins s2 σ H2 x y v u Q I2 rx ry q (hs _ _))

def rIxL (K : PySem.W.Frag) : R2 := fun x y H Q => ∃ p xs i v, x = .ref p ∧ y = .int i ∧ SqL K H p xs ∧ atI xs i = some v ∧ Q v H
def rIxT (K : PySem.W.Frag) : R2 := fun x y H Q => ∃ p xs i v, x = .ref p ∧ y = .int i ∧ SqT K H p xs ∧ atI xs i = some v ∧ Q v H
def rIxS : R2 := fun x y H Q => ∃ z i c, x = .str z ∧ y = .int i ∧ z.length ≤ sizeLine ∧ atI z.cps.toList i = some c ∧ Q (.str ⟨#[c]⟩) H
theorem ix_list : IxR X (rIxL X.K) := by
  intro value slice pins s σ H x y v u Q I rx ry h hs
  obtain ⟨p, xs, i, z, rfl, rfl, hq, he, q⟩ := h
  cases rx
  obtain ⟨t, rfl⟩ := ry
  obtain ⟨its, r, pl, hz⟩ := I.list hq
  obtain ⟨j, h1, h2, h3, h4, h5⟩ := atI_get he
  obtain ⟨w, ew, rw'⟩ := r.get h2
  have hl := r.length
  have hn := line63
  have fin : EP X pins σ Q w s := ⟨z, H, I, rw', q⟩
  by_cases h0 : 0 ≤ i
  · have hj : i.toNat = j := by
      rw [seqIndex_of h0 h5] at h1
      exact Option.some.inj h1
    exact item_listR pl.isList h0 (by omega) (by rw [hj]; simpa using ew) fin hs
  · have hj : (i + (its.toArray.size : Int)).toNat = j := by
      rw [seqIndex_neg (by omega) h4] at h1
      rw [List.size_toArray, ← hl]
      exact Option.some.inj h1
    exact subscriptTail_builtinR (x := w) pl.isList.typeIs slot_list_getitem.lookup
      (wpAny_getItem_list_neg (Q := fun r s' => r = w ∧ EP X pins σ Q r s') pl.isList (by omega) (by rw [List.size_toArray] <;> omega) (by omega) (by rw [hj]; simpa using ew) ⟨rfl, fin⟩) hs
theorem ix_tup : IxR X (rIxT X.K) := by
  intro value slice pins s σ H x y v u Q I rx ry h hs
  obtain ⟨p, xs, i, z, rfl, rfl, hq, he, q⟩ := h
  cases rx
  obtain ⟨t, rfl⟩ := ry
  obtain ⟨its, r, pl, hz⟩ := I.tuple hq
  obtain ⟨j, h1, h2, h3, h4, h5⟩ := atI_get he
  obtain ⟨w, ew, rw'⟩ := r.get h2
  have hl := r.length
  have hn := line63
  have fin : EP X pins σ Q w s := ⟨z, H, I, rw', q⟩
  exact subscriptTail_builtinR (x := w) pl.typeIs slot_tuple_getitem.lookup
    (getItem_tuple (j := j) (Q := fun r s' => r = w ∧ EP X pins σ Q r s') pl (by omega) (by omega) (by rw [List.size_toArray, ← hl]; exact h1) (by simpa using ew) ⟨rfl, fin⟩) hs
theorem ix_str : IxR X rIxS := by
  intro value slice pins s σ H x y v u Q I rx ry h hs
  obtain ⟨z, i, c, rfl, rfl, hz, he, q⟩ := h
  obtain ⟨t, rfl⟩ := rx
  obtain ⟨t', rfl⟩ := ry
  obtain ⟨j, h1, h2, h3, h4, h5⟩ := atI_get he
  have hl : z.cps.toList.length = z.length := by simp [Str.length]
  rw [hl] at h1 h4 h5
  have hn := line63
  exact tail_any (typeIs_str s z t) slot_str_getitem.lookup (getItem_str (c := c) (by
    have e1 : decide (i < -(2 ^ 63 : Int)) = false := decide_eq_false (by omega)
    have e2 : decide (i ≥ 2 ^ 63) = false := decide_eq_false (by omega)
    rw [e1, e2, Bool.or_false]) (by rw [h1]; simpa using h2) ⟨.str ⟨#[c]⟩, H, I.tok _, ⟨_, rfl⟩, q⟩) hs
/-- list, tuple or str -/
def rIx (K : PySem.W.Frag) : R2 := fun x y H Q => rIxL K x y H Q ∨ rIxT K x y H Q ∨ rIxS x y H Q
/-! ### xs[i] = v, any sign -/
def rSetL : V → V → V → Hp → (Hp → Prop) → Prop := fun o i v H Q => ∃ p xs k j, o = .ref p ∧ i = .int k ∧ H p = some (.lst xs) ∧ ixN xs.length k = some j ∧ Q (upd H p (.lst (xs.set j v)))
/-! ### slices -/
theorem slice_bounds (lo hi : Option Int) (n : Nat) : (sliceBounds lo hi none n).1 = ((HT.sIx n 0 lo : Nat) : Int) ∧ (sliceBounds lo hi none n).2.1 = ((HT.sIx n n hi : Nat) : Int) ∧ (sliceBounds lo hi none n).2.2 = 1 := by
  refine ⟨?_, ?_, rfl⟩
  · cases lo with
    | none => simp [sliceBounds, HT.sIx]
    | some i =>
      simp only [sliceBounds, HT.sIx, Option.getD_none, show (1 : Int) > 0 by decide, if_true]
      by_cases h : i < 0
      · simp only [h, if_true] <;> omega
      · simp only [h, if_false] <;> omega
  · cases hi with
    | none => simp [sliceBounds, HT.sIx]
    | some i =>
      simp only [sliceBounds, HT.sIx, Option.getD_none, show (1 : Int) > 0 by decide, if_true]
      by_cases h : i < 0
      · simp only [h, if_true] <;> omega
      · simp only [h, if_false] <;> omega
theorem slicePick_cut (its : List Value) (lo hi : Option Int) : slicePick its.toArray lo hi none = ((its.drop (HT.sIx its.length 0 lo)).take (HT.sIx its.length its.length hi - HT.sIx its.length 0 lo)).toArray := by
  obtain ⟨h1, h2, h3⟩ := slice_bounds lo hi its.toArray.size
  unfold slicePick
  rw [h1, h2, h3]
  simp only [sliceRange_one, pick_run, List.size_toArray] <;> rfl
/-- xs[lo:hi] of a list: a new list -/
def rSlL (K : PySem.W.Frag) : V → Option Int → Option Int → Hp → VK → Prop := fun x lo hi H Q => ∃ a xs, x = .ref a ∧ SqL K H a xs ∧ ∀ p, H p = none → Q (.ref p) (upd H p (.lst (cutV xs lo hi)))
theorem sl_list : SlR X (rSlL X.K) := by
  intro pins s σ H x v vl vu lo hi sl Q I rx hs pl pu h
  obtain ⟨a, xs, rfl, hx, q⟩ := h
  cases rx
  obtain ⟨its, r, ht, hz⟩ := I.list hx
  have hlen := r.length
  refine ⟨"list", _, slot_list_getitem.lookup, ht.isList.typeIs, ?_⟩
  refine wpAny_getItem_list_slice ht.isList hs pl pu .none (by simp) ?_ (by rw [List.size_toArray] <;> omega)
  rw [slicePick_cut, ← hlen]
  refine ⟨.ref s.heap.objs.size, _, I.laid (t' := s.toks) (o := .lst (cutV xs lo hi)) (fun b ob q => Heap.get?_push_of_some _ q) (Nat.le_refl _) ?_, rfl, q _ (I.hok.fresh (Nat.le_refl _))⟩
  exact ⟨Nat.le_trans (cutV_length xs lo hi) hz, _, 0, (r.drop (HT.sIx xs.length 0 lo)).take (HT.sIx xs.length xs.length hi - HT.sIx xs.length 0 lo), Heap.get?_push_size _ rfl⟩

/-! ### in, not in: flat items -/
def flatV : V → Bool
  | .non => true
  | .bl _ => true
  | .int _ => true
  | .str _ => true
  | _ => false
/-- == of flat values -/
def eqV : V → V → Bool
  | .non, .non => true
  | .bl a, .bl b => a == b
  | .bl a, .int b => (if a then 1 else 0) == b
  | .int a, .bl b => a == (if b then 1 else 0)
  | .int a, .int b => a == b
  | .str a, .str b => a == b
  | _, _ => false
theorem eqAt_V {A : Around} {s : Shared} {y x : V} {u v : Value} (ry : RelV y u) (rx : RelV x v) (fy : flatV y = true) (fx : flatV x = true) : SeqAt.EqAt A s u v (eqV y x) := by
  cases y with
  | non =>
    cases ry
    cases x with
    | non => cases rx; exact SeqAt.EqAt.same _
    | bl b => cases rx; exact SeqAt.EqAt.none_bool b
    | int b => obtain ⟨t, rfl⟩ := rx; exact SeqAt.EqAt.none_int b t
    | str b => obtain ⟨t, rfl⟩ := rx; exact SeqAt.EqAt.none_str b t
    | _ => exact absurd (show false = true from fx) Bool.false_ne_true
  | bl a =>
    cases ry
    cases x with
    | non => cases rx; exact SeqAt.EqAt.bool_none a
    | bl b => cases rx; exact SeqAt.EqAt.bool_bool a b
    | int b => obtain ⟨t, rfl⟩ := rx; exact SeqAt.EqAt.bool_int a b t
    | str b => obtain ⟨t, rfl⟩ := rx; exact SeqAt.EqAt.bool_str a b t
    | _ => exact absurd (show false = true from fx) Bool.false_ne_true
  | int a =>
    obtain ⟨t', rfl⟩ := ry
    cases x with
    | non => cases rx; exact SeqAt.EqAt.int_none a t'
    | bl b => cases rx; exact SeqAt.EqAt.int_bool a t' b
    | int b => obtain ⟨t, rfl⟩ := rx; exact SeqAt.EqAt.int_int a t' b t
    | str b => obtain ⟨t, rfl⟩ := rx; exact SeqAt.EqAt.int_str a t' b t
    | _ => exact absurd (show false = true from fx) Bool.false_ne_true
  | str a =>
    obtain ⟨t', rfl⟩ := ry
    cases x with
    | non => cases rx; exact SeqAt.EqAt.str_none a t'
    | bl b => cases rx; exact SeqAt.EqAt.str_bool a t' b
    | int b => obtain ⟨t, rfl⟩ := rx; exact SeqAt.EqAt.str_int a t' b t
    | str b => obtain ⟨t, rfl⟩ := rx; exact SeqAt.EqAt.str_str a t' b t
    | _ => exact absurd (show false = true from fx) Bool.false_ne_true
  | _ => exact absurd (show false = true from fy) Bool.false_ne_true
/-- the items' answers, read off the values (a value's own answer does not lean on its token) -/
def eqU (x : V) (u : Value) : Bool := match u with
  | .none => eqV .non x
  | .bool b => eqV (.bl b) x
  | .int i _ => eqV (.int i) x
  | .str z _ => eqV (.str z) x
  | _ => false
theorem eqU_of {x y : V} {u : Value} (r : RelV y u) (f : flatV y = true) : eqU x u = eqV y x := by
  cases y with
  | non => cases r; rfl
  | bl b => cases r; rfl
  | int i => obtain ⟨t, rfl⟩ := r; rfl
  | str z => obtain ⟨t, rfl⟩ := r; rfl
  | _ => exact absurd (show false = true from f) Bool.false_ne_true
theorem any_eqU {x : V} : ∀ {xs : List V} {us : List Value}, Vals xs us → xs.all flatV = true → us.any (eqU x) = xs.any fun y => eqV y x
  | _, _, .nil, _ => rfl
  | y :: xs, u :: us, .cons r t, f => by
    rw [List.all_cons, Bool.and_eq_true] at f
    rw [List.any_cons, List.any_cons, eqU_of r f.1, any_eqU t f.2]
theorem mem_eqAt {A : Around} {s : Shared} {x : V} {v : Value} (rx : RelV x v) (fx : flatV x = true) : ∀ {xs : List V} {us : List Value}, Vals xs us → xs.all flatV = true → ∀ u ∈ us, SeqAt.EqAt A s u v (eqU x u)
  | _, _, .nil, _ => fun u hu => by cases hu
  | y :: xs, u :: us, .cons r t, f => fun u' hu => by
    rw [List.all_cons, Bool.and_eq_true] at f
    rcases List.mem_cons.mp hu with rfl | hu
    · rw [eqU_of r f.1]; exact eqAt_V r rx f.1 fx
    · exact mem_eqAt rx fx t f.2 u' hu
def inV (x : V) (xs : List V) : Bool := xs.any fun y => eqV y x
/-- x in a list or tuple of flat items -/
def rIn (K : PySem.W.Frag) (neg : Bool) : R2 := fun x y H Q => ∃ p xs, y = .ref p ∧ (SqL K H p xs ∨ SqT K H p xs) ∧ flatV x = true ∧ xs.all flatV = true ∧ Q (.bl (if neg then !inV x xs else inV x xs)) H
theorem op_in_seq : OpR X (compareOp .In) (rIn X.K false) := by
  intro pins s σ H x y v u Q I rx ry h
  obtain ⟨p, xs, rfl, hq, fx, fs, q⟩ := h
  cases ry
  rcases hq with hq | hq
  · obtain ⟨its, r, pl, hz⟩ := I.list hq
    refine SeqAt.in_listAt (eqU x) pl.isList (fun w hw => mem_eqAt rx fx r fs w (by simpa using hw)) ⟨.bl _, H, I, rfl, ?_⟩
    rw [show its.toArray.any (eqU x) = its.any (eqU x) by simp, any_eqU r fs]
    exact q
  · obtain ⟨its, r, pl, hz⟩ := I.tuple hq
    refine SeqAt.in_tupleAt (eqU x) pl (fun w hw => mem_eqAt rx fx r fs w (by simpa using hw)) ⟨.bl _, H, I, rfl, ?_⟩
    rw [show its.toArray.any (eqU x) = its.any (eqU x) by simp, any_eqU r fs]
    exact q
theorem op_notIn_seq : OpR X (compareOp .NotIn) (rIn X.K true) := by
  intro pins s σ H x y v u Q I rx ry h
  obtain ⟨p, xs, rfl, hq, fx, fs, q⟩ := h
  cases ry
  rcases hq with hq | hq
  · obtain ⟨its, r, pl, hz⟩ := I.list hq
    refine SeqAt.notIn_listAt (eqU x) pl.isList (fun w hw => mem_eqAt rx fx r fs w (by simpa using hw)) ⟨.bl _, H, I, rfl, ?_⟩
    rw [show its.toArray.any (eqU x) = its.any (eqU x) by simp, any_eqU r fs]
    exact q
  · obtain ⟨its, r, pl, hz⟩ := I.tuple hq
    refine SeqAt.notIn_tupleAt (eqU x) pl (fun w hw => mem_eqAt rx fx r fs w (by simpa using hw)) ⟨.bl _, H, I, rfl, ?_⟩
    rw [show its.toArray.any (eqU x) = its.any (eqU x) by simp, any_eqU r fs]
    exact q
/-! ### len, list(x), tuple(x) of any list or tuple that is read -/
theorem call_len_seq : CallR X (.builtin "len") (fun xs H Q => ∃ p ys, xs = [.ref p] ∧ (SqL X.K H p ys ∨ SqT X.K H p ys) ∧ Q (.int ys.length) H) := by
  intro pins s σ H xs us Q I r h
  obtain ⟨p, ys, rfl, hq, q⟩ := h
  obtain ⟨u, rfl, rx⟩ := vals1 r
  cases rx
  have hn := line63
  rcases hq with hq | hq
  · obtain ⟨its, r', pl, hz⟩ := I.list hq
    have hlen := r'.length
    exact Calls.call_len_list pl.isList (by simp only [List.size_toArray] <;> omega) ⟨.int ys.length, H, I.tok _, ⟨s.toks + 1, by rw [List.size_toArray, hlen]⟩, q⟩
  · obtain ⟨its, r', pl, hz⟩ := I.tuple hq
    have hlen := r'.length
    exact len_tuple pl (by simp only [List.size_toArray] <;> omega) ⟨.int ys.length, H, I.tok _, ⟨s.toks + 1, by rw [List.size_toArray, hlen]⟩, q⟩
theorem call_len_str : CallR X (.builtin "len") (fun xs H Q => ∃ z, xs = [.str z] ∧ z.length ≤ sizeLine ∧ Q (.int z.length) H) := by
  intro pins s σ H xs us Q I r h
  obtain ⟨z, rfl, hz, q⟩ := h
  obtain ⟨u, rfl, t, rfl⟩ := vals1 r
  have hn := line63
  exact len_str (by omega) ⟨.int z.length, H, I.tok _, ⟨_, rfl⟩, q⟩
theorem call_tuple_of : CallR X (.type "tuple") (fun xs H Q => ∃ p ys, xs = [.ref p] ∧ ((SqL X.K H p ys ∧ ∀ l, H l = none → Q (.ref l) (upd H l (.tup ys))) ∨ (SqT X.K H p ys ∧ Q (.ref p) H))) := by
  intro pins s σ H xs us Q I r h
  obtain ⟨p, ys, rfl, h⟩ := h
  obtain ⟨u, rfl, rx⟩ := vals1 r
  cases rx
  rcases h with ⟨hq, q⟩ | ⟨hq, q⟩
  · obtain ⟨its, r', pl, hz⟩ := I.list hq
    have hlen := r'.length
    refine call_tuple_list pl.isList (fun h' kp => ?_) (by simp only [List.size_toArray] <;> omega)
    have I1 : Inv X pins σ H { s with heap := h' } := I.kept (t' := s.toks) kp
    have I2 : Inv X pins σ (upd H h'.objs.size (.tup ys)) { s with heap := h'.push { cls := .type "tuple", data := .seq its.toArray } } :=
      I1.laid (t' := s.toks) (fun b o e => Heap.get?_push_of_some _ e) (Nat.le_refl _) (show ObjOk X.prog X.w _ _ _ (.tup ys) from ⟨hz, its, r', IsTup.new _ _⟩)
    exact ⟨.ref h'.objs.size, _, I2, rfl, q _ (I1.hok.fresh (Nat.le_refl _))⟩
  · obtain ⟨its, r', pl, hz⟩ := I.tuple hq
    exact call_tuple_same pl ⟨.ref p, H, I, rfl, q⟩

/-! ### the call of a builtin's method: o.m(..) -/
/-- the value is of that builtin type -/
def tyV (K : PySem.W.Frag) (T : String) (x : V) (H : Hp) : Prop := match x with
  | .str _ => T = "str"
  | .int _ => T = "int"
  | .ref p => (T = "list" ∧ ∃ xs, SqL K H p xs) ∨ (T = "tuple" ∧ ∃ o, K.lookup p = some o ∧ o.cls = .type "tuple" ∧ o.dict = none) ∨
      (T = "dict" ∧ ((∃ kvs, H p = some (.dK kvs)) ∨ ∃ kvs, H p = some (.dT kvs))) ∨ (T = "set" ∧ ∃ S n, H p = some (.set S n))
  | _ => False
theorem tyV_is {pins : List (Addr × Obj)} {σ : St} {H : Hp} {s : Shared} {T : String} {x : V} {v : Value} (I : Inv X pins σ H s) (r : RelV x v) (ty : tyV X.K T x H) :
    s.TypeIs v T ∧ ∀ a, v = .ref a → ∃ ob, s.heap.get? a = some ob ∧ ob.dict = none := by
  cases x with
  | str z =>
    obtain ⟨t, rfl⟩ := r
    cases (show T = "str" from ty)
    exact ⟨typeIs_str s z t, fun _ e => nomatch e⟩
  | int i =>
    obtain ⟨t, rfl⟩ := r
    cases (show T = "int" from ty)
    exact ⟨typeIs_int s i t, fun _ e => nomatch e⟩
  | ref p =>
    cases r
    rcases ty with ⟨rfl, xs, hq⟩ | ⟨rfl, o, hk, hc, hd⟩ | ⟨rfl, hk⟩ | ⟨rfl, S, n, hk⟩
    · obtain ⟨its, _, pl, _⟩ := I.list hq
      refine ⟨pl.isList.typeIs, fun a e => ?_⟩
      cases e
      obtain ⟨o, n, e, c, hd, _⟩ := pl
      exact ⟨o, e, hd⟩
    · refine ⟨⟨o, I.kIn p o hk, hc⟩, fun a e => ?_⟩
      cases e
      exact ⟨o, I.kIn _ o hk, hd⟩
    · have z : ∃ o, s.heap.get? p = some o ∧ o.ExactDict := by
        rcases hk with ⟨kvs, hk⟩ | ⟨kvs, hk⟩
        · obtain ⟨_, _, _, _, o, _, _, e, ex, _⟩ := I.hok p _ hk
          exact ⟨o, e, ex⟩
        · obtain ⟨_, _, _, _, o, _, _, e, ex, _⟩ := I.hok p _ hk
          exact ⟨o, e, ex⟩
      obtain ⟨o, e, ex⟩ := z
      refine ⟨⟨o, e, ex.1⟩, fun a e2 => ?_⟩
      cases e2
      exact ⟨o, e, ex.2.1⟩
    · obtain ⟨o, _, _, _, e, ex, _⟩ := I.hok p _ hk
      refine ⟨⟨o, e, ex.1⟩, fun a e2 => ?_⟩
      cases e2
      exact ⟨o, e, ex.2.1⟩
  | _ => exact False.elim ty
def tBM0 (K : PySem.W.Frag) (T : String) (r : V → List V → Hp → VK → Prop) (to : TE) : TE := fun σ H Q => to σ H fun x H1 => tyV K T x H1 ∧ r x [] H1 Q
def tBM (K : PySem.W.Frag) (T : String) (r : V → List V → Hp → VK → Prop) (to : TE) (t : TA) : TE := fun σ H Q => to σ H fun x H1 => tyV K T x H1 ∧ t σ H1 fun xs H2 => r x xs H2 Q
variable {o e : Expr} {es : List Expr} {to : TE} {t : TA} {name : Str} {apos cpos : Pos} {T id : String} {r : V → List V → Hp → VK → Prop}
theorem pe_bm (pa : PlainAttrs T) (slot : Slot T name id) (hty : typeOf (.builtin id) = pure (.type "method_descriptor")) (hm : MtR X id r) (ho : PE X o to) (ha : PA X (e :: es) t)
    (hbase : attributeBase o name X.env (eval o X.env) = eval o X.env := by rfl)
    (hfew : ((backTo cpos (starEach (e :: es) X.env)).all (fun x => !x.1) && (backToKw cpos (keywordEach [] X.env)).all (fun x => x.1.isSome)
      && decide ((e :: es).length + ([] : List Keyword).length + (if ([] : List Keyword).isEmpty then 0 else 1) < 30)) = true := by rfl)
    (hline : (apos.endLine == cpos.line) = true := by rfl) (hs : starEach (e :: es) X.env = (false, eval e X.env) :: starEach es X.env := by rfl) (hplain : (backTo cpos (starEach es X.env)).any (·.1) = false := by rfl) :
    PE X (.Call (.Attribute o name apos) (e :: es) [] cpos) (tBM X.K T r to t) := by
  intro pins s σ H Q I h
  refine wpAny_Call_method_late hbase hfew hline rfl (thn (ho pins s σ H _ I h) fun v s1 ⟨x, H1, I1, r1, ty, q1⟩ => ?_)
  obtain ⟨h1, h2⟩ := tyV_is I1 r1 ty
  refine ⟨T, id, pa, slot, hty, h1, h2, ?_⟩
  have hA := ha cpos pins s1 σ H1 _ I1 q1
  rw [hs] at hA ⊢
  refine Calls.callWith_builtin (by show (false || (backTo cpos (starEach es X.env)).any (·.1)) = false; rw [hplain] <;> rfl) (Calls.evalArgs_plain ?_)
  exact thn hA fun us s2 ⟨vs, H2, I2, r2, q2⟩ => hm pins s2 σ H2 x vs v us Q I2 r1 r2 q2
/- xs.append(e), list.index on a module's tuple .. are MtR facts of 06m -/
end
end L2

namespace L2
open PySem PySem.Spec PyProof.Rows

def MtM (X : Cx) (id : String) (r : V → List V → Hp → VK → Prop) : Prop :=
  ∀ (pins : List (Addr × Obj)) (s : Shared) (σ : St) (H : Hp) (x : V) (xs : List V) (v : Value) (us : List Value) (Q : VK), Inv X pins σ H s → RelV x v → Vals xs us → r x xs H Q →
    wpAny (model X.prog X.w) X.A (call (.builtin id) (v :: us)) (EP X pins σ Q) X.xe s

/-! ### lists of values -/
theorem Vals.one : ∀ {x : V} {us : List Value}, Vals [x] us → ∃ u, us = [u] ∧ RelV x u
  | _, _, .cons r .nil => ⟨_, rfl, r⟩
section
variable {X : Cx} {pins : List (Addr × Obj)} {σ : St} {H : Hp} {s : Shared} {l b : Addr} {xs ys zs : List V}

/-! ### the two steps: a tracked list is rewritten, a new list is laid -/
theorem Inv.lset {its its' : List Value} {n : Nat} {f : Array Value → Array Value} {t' : Nat} (I : Inv X pins σ H s) (hH : H l = some (.lst xs))
    (e : s.heap.get? l = some { cls := .type "list", data := .seq its.toArray n }) (hf : f its.toArray = its'.toArray) (hv : Vals ys its') (hz : ys.length ≤ sizeLine) :
    Inv X pins σ (upd H l (.lst ys)) { s with heap := s.heap.update l (Obj.mapSeq f), toks := t' } := by
  have q := PySem.IsL.update e f
  rw [hf] at q
  refine I.write (x := l) (e := l) (by rw [hH]; exact trivial) (.inl rfl) (fun b' u hb hu => (Heap.get?_update_other s.heap (Obj.mapSeq f) (Ne.symm hb)).trans hu) ⟨_, q⟩ ?_
  exact ⟨hz, its', _, hv, q⟩
theorem Inv.lnew {its : List Value} {t' : Nat} (I : Inv X pins σ H s) (hv : Vals ys its) (hz : ys.length ≤ sizeLine) :
    Inv X pins σ (upd H s.heap.objs.size (.lst ys)) { s with heap := s.heap.push { cls := .type "list", data := .seq its.toArray }, toks := t' } :=
  I.laid (fun _ _ q => Heap.get?_push_of_some _ q) (Nat.le_refl _) ⟨hz, its, 0, hv, Heap.get?_push_size _ rfl⟩
theorem Inv.fresh (I : Inv X pins σ H s) : H s.heap.objs.size = none := I.hok.fresh (Nat.le_refl _)
theorem Inv.lstM (I : Inv X pins σ H s) (hH : H l = some (.lst xs)) : xs.length ≤ sizeLine ∧ ∃ (its : List Value) (n : Nat), Vals xs its ∧ xs.length = its.length ∧ s.heap.get? l = some { cls := .type "list", data := .seq its.toArray n } := by
  obtain ⟨z, its, n, r, e⟩ := I.hok l _ hH
  exact ⟨z, its, n, r, r.length, e⟩

end

section
variable {X : Cx}

/-! ### methods -/
def rAppend : V → List V → Hp → VK → Prop := fun x vs H Q => ∃ l xs y, x = .ref l ∧ vs = [y] ∧ H l = some (.lst xs) ∧ xs.length < sizeLine ∧ Q .non (upd H l (.lst (xs ++ [y])))
theorem mt_append : MtM X "list.append" rAppend := by
  intro pins s σ H x vs v us Q I rx rv h
  obtain ⟨l, xs, y, rfl, rfl, hH, hz, q⟩ := h
  cases rx
  obtain ⟨u, rfl, ru⟩ := rv.one
  obtain ⟨z, its, n, r, hl, e⟩ := I.lstM hH
  refine call_meets F.slot_list_append ⟨_, e, rfl⟩ F.entry_list_append (F.args_list_append_2 _ _) (PySem.list_append l its.toArray n u (by rw [List.size_toArray]; omega)) ⟨e, ?_⟩
  refine ⟨.non, _, I.lset (its' := its ++ [u]) hH e (by simp) (r.append (.cons ru .nil)) ?_, rfl, q⟩
  rw [List.length_append, List.length_singleton]
  omega

def rExtend : V → List V → Hp → VK → Prop := fun x vs H Q => ∃ l b xs zs, x = .ref l ∧ vs = [.ref b] ∧ H l = some (.lst xs) ∧ H b = some (.lst zs) ∧ xs.length + zs.length ≤ sizeLine ∧ Q .non (upd H l (.lst (xs ++ zs)))
def rPop : V → List V → Hp → VK → Prop := fun x vs H Q => ∃ l xs y, x = .ref l ∧ vs = [] ∧ H l = some (.lst xs) ∧ xs[xs.length - 1]? = some y ∧ Q y (upd H l (.lst xs.dropLast))
def rPopAt : V → List V → Hp → VK → Prop := fun x vs H Q => ∃ l xs i k y, x = .ref l ∧ vs = [.int i] ∧ H l = some (.lst xs) ∧ -(2 ^ 63) ≤ i ∧ i < 2 ^ 63 ∧ seqIndex? i xs.length = some k ∧ xs[k]? = some y ∧ Q y (upd H l (.lst (xs.eraseIdx k)))
def rReverse : V → List V → Hp → VK → Prop := fun x vs H Q => ∃ l xs, x = .ref l ∧ vs = [] ∧ H l = some (.lst xs) ∧ Q .non (upd H l (.lst xs.reverse))
def rClear : V → List V → Hp → VK → Prop := fun x vs H Q => ∃ l xs, x = .ref l ∧ vs = [] ∧ H l = some (.lst xs) ∧ Q .non (upd H l (.lst []))
/-! ### list + list, list += list, list * int -/
def rCat : R2 := fun x y H Q => ∃ l b xs zs, x = .ref l ∧ y = .ref b ∧ H l = some (.lst xs) ∧ H b = some (.lst zs) ∧ xs.length + zs.length ≤ sizeLine ∧ ∀ p, H p = none → Q (.ref p) (upd H p (.lst (xs ++ zs)))
theorem op_cat : OpR X (binaryOp .Add) rCat := by
  intro pins s σ H x y v u Q I rx ry h
  obtain ⟨l, b, xs, zs, rfl, rfl, hH, hB, hz, q⟩ := h
  cases rx
  cases ry
  obtain ⟨z, its, n, r, hl, e⟩ := I.lstM hH
  obtain ⟨z2, its2, n2, r2, hl2, e2⟩ := I.lstM hB
  refine PySem.P.add_list e e2 ?_ (by rw [List.size_toArray, List.size_toArray]; omega)
  have ea : its.toArray ++ its2.toArray = (its ++ its2).toArray := by simp
  rw [ea]
  exact ⟨.ref _, _, I.lnew (t' := s.toks) (r.append r2) (by rw [List.length_append]; omega), rfl, q _ I.fresh⟩
/-- a list times an int (a negative one is nothing) -/
def rRep : R2 := fun x y H Q => ∃ l k xs, x = .ref l ∧ y = .int k ∧ H l = some (.lst xs) ∧ -(2 ^ 63) ≤ k ∧ k < 2 ^ 63 ∧ xs.length * k.toNat ≤ sizeLine ∧
  ∀ p, H p = none → Q (.ref p) (upd H p (.lst (List.replicate k.toNat xs).flatten))
/-! ### del xs[i] -/
end

/-! ### xs[a:b] = ys -/
section
variable {prog : Program} {w : World} {A : Around} {E : Value → Shared → Prop} {s : Shared}
end

section
variable {X : Cx}
end
end L2

namespace Att
open PySem PySem.W PySem.Calls PyProof.Rows

/-! ### the script -/
theorem ints_of_wellAll {P : Params} {h : Heap} : ∀ (ns : List Int) (vs : List Value), WellAll P h vs (ns.map WData.int) → IntsAre vs ns := by
  intro ns
  induction ns with
  | nil =>
    intro vs w
    rw [List.map_nil] at w
    cases w
    exact .nil
  | cons n ns ih =>
    intro vs w
    rw [List.map_cons] at w
    cases w with
    | cons a b =>
      cases a
      exact .cons _ _ (ih _ b)

theorem script_of {l : OpenLaw} {n : Nat} (hn : l.most = some n) {P : Params} {h : Heap} {args : List WData} {vals : List Value}
    (hpre : l.row.toRowW.claim.pre args = true) (hwl : WellAll P h vals args) :
    ∃ a vs ns, vals = [Value.ref a] ∧ args = [WData.list (ns.map WData.int)] ∧ h.get? a = some { cls := .type "list", data := .seq vs.toArray } ∧ IntsAre vs ns ∧ ns.length ≤ n := by
  have hsh : WShape.hasAll [] args [.list .int] = true := (pre_splitW hpre).1
  have hc : l.pre.holds [] { args := args } = true := (pre_splitW hpre).2
  obtain ⟨d, r, rfl, h1, h2⟩ := hasAllW_cons hsh
  obtain rfl := hasAllW_nil h2
  obtain ⟨xs, rfl, h3⟩ := hasW_list h1
  obtain ⟨ns, rfl⟩ := items_int h3
  have hlen : ns.length ≤ n := by
    unfold OpenLaw.pre at hc
    have h4 : (WTm.not (.lt (.lit (.int (n : Int))) (.len (.arg 0)))).holds [] { args := [.list (ns.map .int)] } = true := by
      have h4 := (holds_andW hc).1
      rw [hn] at h4
      exact h4
    have h5 := condW_of h4 (w_not (w_lt w_lit (w_len_list (w_arg rfl))))
    rw [List.length_map] at h5
    refine Nat.le_of_not_lt fun q => ?_
    have q' : (n : Int) < ((ns.length : Nat) : Int) := by omega
    first
      | (rw [decide_eq_true q'] at h5; exact absurd h5 (by decide))
      | (simp at h5; omega)
  cases hwl with
  | cons w1 w2 =>
    cases w2
    cases w1 with
    | list ho hall => exact ⟨_, _, ns, rfl, rfl, ho, ints_of_wellAll ns _ hall, hlen⟩

theorem post_true (l : OpenLaw) (args : List WData) : l.row.toRowW.claim.post args (.bool true) args = true :=
  postW_of (r := l.row.toRowW) (X := (true == true))
    (show WShape.has [] (.bool true) .bool = true by first | rfl | decide | simp [WShape.has, WShape.arms, WShape.armsAll])
    (show (WTm.eq .res (.lit (.bool true))).value [] { args := args, res := some (.bool true), after := args } = some (.bool (true == true)) from w_eq_bool (w_res rfl) w_lit) rfl

/-! ### the attachment: holds_open's last premise (the goal 'hc' behind k_head) from a wpAny of the law's body -/
/-- the same from a codeAny of the CALL (for a layer whose function contracts speak of calls) -/
theorem attach_call {l : OpenLaw} {n : Nat} {q : Program} {loose : List Str} {XP : (Str → Option Value) → Heap → Prop} {YP : World → Heap → Prop} {d : DefRec}
    (hn : l.most = some n) (hdf : d.params.defaults = [])
    (call : ∀ (w : World) (s₀ s₁ : Shared) (mg mb : Str → Option Value) (fa : Addr) (o : Obj) (pm cd doc : Value) (a : Addr) (vs : List Value) (ns : List Int),
      Ground q loose [] XP w s₀ mg mb s₁.heap → YP w s₁.heap →
      s₁.heap.get? fa = some o → o.data = .func (docDef d.name d.params d.body d.scope pm cd doc) → s₁.heap.CodeRec cd d.name → mg d.name = some (.ref fa) →
      s₁.heap.get? a = some { cls := .type "list", data := .seq vs.toArray } → IntsAre vs ns → ns.length ≤ n → s₁.gens = #[] →
      codeAny (model l.prog w) callerA (.call (.ref fa) ⟨[.ref a], []⟩) (fun r s' => r = .ok (.ret (.bool true)) ∧ OldK s₁.heap s'.heap ∧ s'.os = s₁.os ∧ AllBare s'.gens) s₁) :
    WalkO q loose XP YP l.row.toRowW d [] (fun f vs => PySem.call f vs) := by
  intro w s₀ s₁ mg mb G Y fa o pm cd doc dV kV ho hd hcd hD hmg hg args vals as hpre hlay hrd hwl hlo
  obtain rfl : dV = .none := Dflts.none hD hdf
  obtain rfl : kV = .none := Dflts.noKw hD
  obtain ⟨a, vs, ns, rfl, rfl, hobj, hints, hlen⟩ := script_of hn hpre hwl
  refine enter_call (codeAny_mono (call w s₀ s₁ mg mb fa o pm cd doc a vs ns G Y ho (fd_plain hd) hcd hmg hobj hints hlen hg) fun r s' hq => ?_)
  obtain ⟨rfl, h2, h3, h4⟩ := hq
  exact ⟨.inl ⟨.bool true, .bool true, [], rfl, fun _ => rfl, .bool true, post_true l _, fun _ => ⟨List.Pairwise.nil, fun _ hm => (nomatch hm)⟩⟩, h2, h3, h4⟩

/-! ### rules over ANY heap (no ledger) from facts about the written part K: the library's own take a ledger (News) for what they write -/
section
variable {prog : Program} {w : World} {A : Around} {E : Value → Shared → Prop} {s : Shared} {K : Frag}

/-! the whole heap as the ledger: makes every rule that writes through a ledger a rule over any heap -/
def noObjs (h : Heap) : Heap := { h with objs := #[] }
def ledger (h : Heap) (L d : Addr) : List (Addr × Obj) := (List.range h.objs.size).filterMap fun a => if a = L ∨ a = d then none else (h.get? a).map fun o => (a, o)
end
end Att

namespace L2
open PySem PySem.Spec PyProof.Rows

theorem vals_ints : ∀ {vs : List Value} {ns : List Int}, IntsAre vs ns → Vals (ns.map V.int) vs
  | _, _, .nil => .nil
  | _, _, .cons n t h => .cons ⟨t, rfl⟩ (vals_ints h)

/-- nothing is tracked but the script, known to the object (or it is an object of the module) -/
def Only (H : Hp) : Prop := ∀ b, H b = none ∨ ∃ o xs, H b = some (.frz o (.lst xs))

/-- THE HEAD: the law's promise, at the heap behind the top. F, the promise of the law's def, may use that base is part of the heap (so K.In base, base.Ns mainGlobals mg stand in Mod) -/
theorem law_call {P : Program} {w : World} {K : PySem.W.Frag} {mg mb : Str → Option Value} {CX : CXT} {k : Nat} {fa a : Addr} {fd : FuncData} {x : Str} {sp : Sp} {s₁ : Shared} {vs : List Value} {ns : List Int}
    (KX : K.In s₁.heap) (hns : s₁.heap.Ns mainGlobals mg) (hb : s₁.heap.Ns builtinsNs mb) (hbb : ∀ x : Str, x ≠ "__name__" → mb x = bootBuiltins x) (hlim : s₁.heap.NoLimit) (hg : s₁.gens = #[])
    (ha : s₁.heap.get? a = some { cls := .type "list", data := .seq vs.toArray }) (hi : IntsAre vs ns) (hl : ns.length ≤ sizeLine) (hr : Room k callerA)
    (F : ∀ base : Heap, K.In base → base.Ns mainGlobals mg → FnOk P w K mg base CX k fa fd [x] sp) (hbind : ∀ (s : Shared) (u : Value), BindsTo s fd ⟨[u], []⟩ [(x, u)])
    (hsp : ∀ H : Hp, Only H → SqL K H a (ns.map V.int) → sp [.ref a] H (fun v _ => v = .bl true) fun _ _ _ => False)
    (hCX : ∀ H e s', CX [] H s₁ (fun _ _ _ => False) e s' → False) :
    codeAny (model P w) callerA (.call (.ref fa) ⟨[.ref a], []⟩) (fun r s' => r = .ok (.ret (.bool true)) ∧ OldK s₁.heap s'.heap ∧ s'.os = s₁.os ∧ AllBare s'.gens) s₁ := by
  have rv := vals_ints hi
  have lenV := hi.length
  -- from an abstract heap in which nothing but the script may be tracked
  have core : ∀ H : Hp, Only H → SqL K H a (ns.map V.int) → HOk P w H s₁.heap → (∀ b, H b ≠ none → b = a) → (H a ≠ none → K.lookup a = none) →
      codeAny (model P w) callerA (.call (.ref fa) ⟨[.ref a], []⟩) (fun r s' => r = .ok (.ret (.bool true)) ∧ OldK s₁.heap s'.heap ∧ s'.os = s₁.os ∧ AllBare s'.gens) s₁ := by
    intro H hO hS hok hA hK
    have base_of : ∀ {b : Addr} {o : Obj}, s₁.heap.get? b = some o → H b = none → (hidT s₁.heap H).get? b = some o := fun e n => hidT_get e n
    have noA : ∀ {b : Addr} {o : Obj} {es : Array DictEntry} {ep : Nat}, s₁.heap.get? b = some o → o.data = .dict es ep → H b = none := fun {b o es ep} e d => by
      cases q : H b with
      | none => rfl
      | some u =>
        have e' : b = a := hA b (by rw [q]; simp)
        subst e'
        rw [ha] at e; cases e
        have d' : Data.seq vs.toArray _ = Data.dict es ep := d
        cases d'
    have nsK : ∀ {b : Addr} {m : Str → Option Value}, s₁.heap.Ns b m → (hidT s₁.heap H).Ns b m := fun {b m} ⟨o, es, ep, e, d, r⟩ => ⟨o, es, ep, base_of e (noA e d), d, r⟩
    have hKb : K.In (hidT s₁.heap H) := fun b o e => base_of (KX b o e) (by
      cases q : H b with
      | none => rfl
      | some u =>
        have e' : b = a := hA b (by rw [q]; simp)
        subst e'
        rw [hK (by rw [q]; simp)] at e; cases e)
    have hM : Mod K mg (hidT s₁.heap H) := ⟨hKb, nsK hns, ⟨mb, nsK hb, hbb⟩, let ⟨mc, h1, h2⟩ := hlim; ⟨mc, nsK h1, h2⟩⟩
    have e0 : Env0 P w K mg (hidT s₁.heap H) callerA [] s₁ H := ⟨rfl, hM, fun b o e => of_hidT e, Nat.le_of_eq (hidT_size _ _), trivial, fun b hb => absurd (show b ∈ ([] : List Addr) from hb) (by simp), hok, .of_eq hg⟩
    refine codeAny_mono ((F _ hKb (nsK hns)).run callerA [] s₁ H ⟨[.ref a], []⟩ [.ref a] [.ref a] _ _ hr e0 (hbind s₁ (.ref a)) (.cons rfl .nil) (hsp H hO hS)) fun r s' h => ?_
    cases r with
    | error e => exact (hCX H e s' h).elim
    | ok fl =>
      cases fl with
      | next => exact False.elim h
      | brk => exact False.elim h
      | cont => exact False.elim h
      | ret u =>
        obtain ⟨v, H', os, bare, un, hok', r', q⟩ := h
        have q' : v = .bl true := q
        subst q'
        obtain rfl : u = Value.bool true := r'
        refine ⟨rfl, OldK.of_keep fun b o e => ?_, os, bare⟩
        cases q : H b with
        | none => exact un.keep b o e q (by intro z; exact absurd (show b ∈ ([] : List Addr) from z) (by simp)) (by simp)
        | some u =>
          rcases hO b with z | ⟨ob, xs, z⟩
          · rw [q] at z; cases z
          · have z2 := un.frzs b ob _ z
            obtain ⟨e1, _⟩ := hok b _ z
            obtain ⟨e2, _⟩ := hok' b _ z2
            rw [e] at e1; cases e1
            exact e2
  cases hk : K.lookup a with
  | some o =>
    -- the script is one of the module's own objects
    have e := KX a o hk
    rw [ha] at e
    cases e
    refine core (fun _ => none) (fun _ => .inl rfl) (.inr ⟨_, vs.toArray, _, hk, rfl, rfl, rfl, by rw [List.size_toArray, lenV]; exact hl, by simpa using rv⟩) (fun b u z => by have z' : (none : Option HO) = some u := z; cases z') (fun b z => absurd rfl z) fun z => absurd rfl z
  | none =>
    refine core (fun b => if b = a then some (.frz { cls := .type "list", data := .seq vs.toArray } (.lst (ns.map V.int))) else none) (fun b => ?_) (.inl (.inr ⟨{ cls := .type "list", data := .seq vs.toArray }, if_pos rfl⟩)) (fun b u z => ?_) (fun b z => ?_) fun _ => hk
    · by_cases hb : b = a
      · exact .inr ⟨_, _, if_pos hb⟩
      · exact .inl (if_neg hb)
    · by_cases hb : b = a
      · have z' := (if_pos hb).symm.trans z
        cases z'
        subst hb
        exact ⟨ha, by rw [List.length_map]; exact hl, vs, _, rv, ha⟩
      · have z' := (if_neg hb).symm.trans z
        cases z'
    · by_cases hb : b = a
      · exact hb
      · exact absurd (if_neg hb) z
end L2

namespace L2
open PySem PySem.Spec PyProof.Rows

abbrev KOf {K : PySem.W.Frag} {h : Heap} (_ : K.In h) : PySem.W.Frag := K

/-- the goal that k_head leaves (case hc), from the law's promise. F gives the function object fd (K's own) once, then the promise over every base -/
theorem walk_of {l : PySem.W.OpenLaw} {n k : Nat} {q : Program} {loose : List Str} {XP : (Str → Option Value) → Heap → Prop} {YP : World → Heap → Prop} {d : DefRec} {K : Params → PySem.W.Frag} {CX : World → CXT} {sp : World → Sp} {x : Str}
    (hn : l.most = some n) (hn2 : n ≤ sizeLine) (hdf : d.params.defaults = []) (hr : Room k callerA)
    (hY : ∀ (w : World) (h : Heap), YP w h → (K w.params).In h)
    (F : ∀ (w : World) (mg : Str → Option Value) (fa : Addr) (h : Heap), (K w.params).In h → h.Ns mainGlobals mg → mg d.name = some (.ref fa) →
      ∃ fd : FuncData, (∀ (s : Shared) (u : Value), BindsTo s fd ⟨[u], []⟩ [(x, u)]) ∧
        ∀ base : Heap, (K w.params).In base → base.Ns mainGlobals mg → FnOk l.prog w (K w.params) mg base (CX w) k fa fd [x] (sp w))
    (hsp : ∀ (w : World) (H : Hp) (a : Addr) (ns : List Int), ns.length ≤ n → Only H → SqL (K w.params) H a (ns.map V.int) → sp w [.ref a] H (fun v _ => v = .bl true) fun _ _ _ => False)
    (hCX : ∀ (w : World) (H : Hp) (s : Shared) (e : Value) (s' : Shared), CX w [] H s (fun _ _ _ => False) e s' → False) :
    PySem.W.WalkO q loose XP YP l.row.toRowW d [] (fun f vs => PySem.call f vs) := by
  refine Att.attach_call hn hdf fun w s₀ s₁ mg mb fa o pm cd doc a vs ns G Y ho hd hcd hmg hobj hints hlen hg => ?_
  have KX := hY w _ Y
  obtain ⟨fd, hb, hF⟩ := F w mg fa _ KX G.T.g hmg
  exact law_call KX G.T.g G.T.b G.T.builtins G.T.nolimit hg hobj hints (Nat.le_trans hlen hn2) hr hF hb (fun H hO hS => hsp w H a ns hlen hO hS) fun H e s' => hCX w H s₁ e s'
end L2

/- THE LAST THEOREM (shape; LID, My.* are yours):
   My.Adr: a structure of the addresses that your layer names (classes, functions); My.Txt K t: a structure (Prop) of the equations over K;
   My.txt_mk : {K} {implicit addresses ..} (e1 : nsIn K mainGlobals "law" = some (some (.ref f))) (e2 : K.lookup f = some ⟨oc, od, .func (fnOf "law" "law" params body scope dV kV doc pm an cdv ct), sl⟩) (e3 : codeIn K cdv "law" = true) .. : ∃ t, My.Txt K t

set_option maxRecDepth 100000 in
set_option maxHeartbeats 0 in
theorem PySem.Challenge.cw_LID_holds : PySem.Challenge.rw_LID.Holds := by
  w_on; o_law; k_head; (case hw => w_witness2)
  k_fill
  refine L2.walk_of (l := PySem.Challenge.rw_LID) (n := 63) (k := 40) (x := "script") (CX := fun w => ..) (sp := fun _ => My.sp_law) rfl (by decide) rfl ⟨rfl, by decide, by decide⟩ (fun w h Y => PySem.W.kIn_of Y) ?F ?S ?C
  case F =>
    intro w mg fa h KX G hmg
    have T : ∃ t, My.Txt (L2.KOf KX) t := by
      dsimp only [L2.KOf]                          -- K must stand as «<heap const> w.params» for k_is
      refine' My.txt_mk ?e1 ?e2 ?e3 ..
      (case e1 => PySem.W.k_is)                    -- in the order: a name -> its address -> its object -> its parts
      (case e2 => PySem.W.k_is)
      ..
    obtain ⟨t, T⟩ := T
    have e0 := hmg.symm.trans (PySem.W.mg_of KX G T.law)
    cases e0                                       -- fa is the law's own address
    exact ⟨_, fun s u => .of_eq rfl, fun base kb nb => My.law_fn T kb nb⟩     -- if «.of_eq rfl» comes too early: refine' ⟨_, ?b, fun base kb nb => My.law_fn T kb nb⟩; exact fun s u => .of_eq rfl
  case S => exact fun w H a ns hl hO hS => ..
  case C => exact ..
(the tactic k_is has no namespace: write k_is) -/

/-! SHORT WORDS over the layer: a def of the text, its body, what a loop and a test want. -/
namespace L2
open PySem PySem.Spec PyProof.Rows

/-! ### the text by places -/
/-- the j-th statement of a class's body -/
def inClass (s : Stmt) (j : Nat) : Stmt := match s with
  | .ClassDef _ _ _ body _ _ _ _ _ _ _ => body.getD j (.Pass ⟨0, 0, 0, 0⟩)
  | _ => .Pass ⟨0, 0, 0, 0⟩
def defArgs (s : Stmt) : Arguments := match s with
  | .FunctionDef _ a _ _ _ _ _ _ _ _ => a
  | _ => { posonlyargs := [], args := [], vararg := none, kwonlyargs := [], kw_defaults := [], kwarg := none, defaults := [] }
def defBody (s : Stmt) : List Stmt := match s with
  | .FunctionDef _ _ b _ _ _ _ _ _ _ => b
  | _ => []
def defScope (s : Stmt) : Scope := match s with
  | .FunctionDef _ _ _ _ _ _ sc _ _ _ => sc
  | _ => { kind := .function, names := [], isGenerator := false, isCoroutine := false }

/-! ### no exception leaves a def -/
abbrev CX0 : CXT := fun _ _ _ _ _ _ => False
abbrev E0 : XK := fun _ _ _ => False
theorem pass0 {X : Cx} : Passes CX0 X E0 := fun _ _ _ _ _ _ _ h => h.elim

/-! ### a def (or method) of the text as it stands behind the top -/
structure Fun (K : PySem.W.Frag) (x qual : Str) (st : Stmt) (f : Addr) (fd : FuncData) : Prop where
  ex : ∃ (oc : Value) (od : Option Addr) (kV doc pm : Value) (an : Option Addr) (cdv ct : Value) (osl : Array (Option Value)),
    fd = PySem.W.fnOf x qual (defArgs st) (defBody st) (defScope st) .none kV doc pm an cdv ct ∧ K.lookup f = some ⟨oc, od, .func fd, osl⟩ ∧ PySem.W.codeIn K cdv qual = true
  kp : PySem.W.keepIn K (.ref f) = true
section
variable {P : Program} {w : World} {K : PySem.W.Frag} {mg : Str → Option Value} {base : Heap}
/-- THE RULE for a def: its body as a term of rules, and the reading of that term -/
theorem Fun.ok {x qual : Str} {st : Stmt} {f : Addr} {fd : FuncData} {N ps : List Str} {k : Nat} {sp : Sp} (F : Fun K x qual st f fd) (S : FnScope N ps (defScope st)) (len : ∀ vs H Q E, sp vs H Q E → vs.length = ps.length)
    (hbody : ∀ (cdv : Value) (A : Around) (outer : List Env) (s : Shared) (H : Hp) (vs : List V) (Q : VK) (E : XK), Room k (A.deeper (envOfC qual (defScope st) s.heap.objs.size f cdv)) → sp vs H Q E →
      ∃ t, PSs (cxOf CX0 P w K mg base N qual (defScope st) f cdv A outer s H E).nox (defBody st) t ∧ t { nx := fun _ H' => Q .non H', rt := Q } (start N vs) H) : FnOk P w K mg base CX0 (k + 1) f fd ps sp := by
  obtain ⟨oc, od, kV, doc, pm, an, cdv, ct, osl, rfl, lk, hcd⟩ := F.ex
  refine fn_of lk hcd S len fun A outer s H vs Q E hr hsp => ?_
  obtain ⟨t, h, q⟩ := hbody cdv A outer s H vs Q E hr hsp
  exact ⟨t, h.nox, q⟩
/-- how its arguments bind (no defaults): h is «fun _ _ _ _ _ _ us hl => match us, hl with | [_, _], _ => rfl», one _ a parameter -/
theorem Fun.binds {x qual : Str} {st : Stmt} {f : Addr} {fd : FuncData} {ps : List Str} (F : Fun K x qual st f fd)
    (h : ∀ (kV doc pm : Value) (an : Option Addr) (cdv ct : Value) (us : List Value), us.length = ps.length → bindArgs (PySem.W.fnOf x qual (defArgs st) (defBody st) (defScope st) .none kV doc pm an cdv ct) ⟨us, []⟩ = pure (ps.zip us)) : Binds K fd ps [] := by
  obtain ⟨oc, od, kV, doc, pm, an, cdv, ct, osl, rfl, lk, hcd⟩ := F.ex
  exact .all (h kV doc pm an cdv ct)
theorem fun_mk {x qual : Str} {st : Stmt} {f : Addr} {oc : Value} {od an : Option Addr} {osl : Array (Option Value)} {kV doc pm cdv ct : Value} (l : K.lookup f = some ⟨oc, od, .func (PySem.W.fnOf x qual (defArgs st) (defBody st) (defScope st) .none kV doc pm an cdv ct), osl⟩)
    (c : PySem.W.codeIn K cdv qual = true) (k : PySem.W.keepIn K (.ref f) = true) : Fun K x qual st f (PySem.W.fnOf x qual (defArgs st) (defBody st) (defScope st) .none kV doc pm an cdv ct) := ⟨⟨oc, od, kV, doc, pm, an, cdv, ct, osl, rfl, l, c⟩, k⟩
end
theorem small1000 {n : Nat} (h : n ≤ 1000) : n < sizeLine := Nat.lt_of_le_of_lt h (by decide)

/-! ### expressions in short: the name that stands in the i-th slot -/
section
variable {X : Cx}
theorem pv (i : Nat) {x : Str} {pos : Pos} (hN : X.N[i]? = some x := by rfl) (hv : Vis X.env.scope x := by first | exact Or.inl rfl | exact Or.inr (Or.inl rfl) | exact Or.inr (Or.inr rfl)) (hd : (x == ("__debug__" : Str)) = false := by decide)
    (hcd : (x == ("__classdict__" : Str)) = false := by decide) : PE X (.Name x pos) (tVar i) := pe_var hN hv hd hcd
end

/-! ### tests -/
theorem ite2 {c A B : Prop} [Decidable c] (h1 : c → A) (h2 : ¬ c → B) : if c then A else B := by
  by_cases h : c
  · rw [if_pos h]
    exact h1 h
  · rw [if_neg h]
    exact h2 h
/-! ### heaps -/
/-- all that was tracked is as it was -/
def Same (H H' : Hp) : Prop := ∀ b o, H b = some o → H' b = some o
theorem Same.refl (H : Hp) : Same H H := fun _ _ h => h
theorem Same.trans {H H1 H2 : Hp} (a : Same H H1) (b : Same H1 H2) : Same H H2 := fun c o h => b c o (a c o h)
theorem Same.free {H H' : Hp} (e : Same H H') {l : Addr} (h : H' l = Option.none) : H l = Option.none := by
  cases q : H l with
  | none => rfl
  | some o =>
    rw [e l o q] at h
    cases h
theorem Same.seq {K : PySem.W.Frag} {H H' : Hp} {a : Addr} {xs : List V} (e : Same H H') (h : SqL K H a xs) : SqL K H' a xs := by
  rcases h with (h | ⟨o, h⟩) | h
  · exact .inl (.inl (e _ _ h))
  · exact .inl (.inr ⟨o, e _ _ h⟩)
  · exact .inr h

end L2

set_option maxHeartbeats 4000000
namespace L2
open PySem PySem.Spec PyProof.Rows

/-! ### list comprehensions of one clause, within the hand layer -/
section
variable {X : Cx} {pins : List (Addr × Obj)} {σ : St} {H : Hp} {s : Shared} {a : Addr} {o : HO}
theorem HOk.adopt {P : Program} {w : World} {h : Heap} (x : HOk P w H h) (hn : H a = none) (new : ObjOk P w (upd H a o) h a o) : HOk P w (upd H a o) h := fun b u e => by
  by_cases hb : b = a
  · subst hb; rw [upd_same] at e; cases e; exact new
  · rw [upd_ne hb] at e
    exact (x b u e).stay (fun c v _ q => q) (fun c q => by rw [upd_ne (ne_of_none q hn)]; exact q) fun c xs q => by rw [upd_ne (ne_of_none q hn)]; exact q
/-- an object that was not tracked is tracked from here on -/
theorem Inv.adopt (I : Inv X pins σ H s) (f : FpOk X pins H a) (new : ObjOk X.prog X.w (upd H a o) s.heap a o) : Inv X pins σ (upd H a o) s := by
  obtain ⟨hn, hL, hfs, hex, hc, hp⟩ := f
  refine ⟨I.ok, I.os, I.bare, ⟨I.base.keep, I.base.slot, fun b ob e n hx => ?_, I.base.there, fun b xs e => ?_, fun b ob u e => ?_, fun b ps e => ?_⟩, I.loc, I.cell, by rw [upd_ne (Ne.symm hL)]; exact I.free, fun x c e => by rw [upd_ne (hc x c e)]; exact I.freeC x c e, fun p q => ?_, HOk.adopt I.hok hn new, I.len⟩
  · have nb : b ≠ a := fun z => by
      rcases hex with z' | z'
      · exact hx (z ▸ z')
      · exact absurd (Heap.lt_size e) (by rw [z]; exact Nat.not_lt.mpr z')
    rw [upd_ne nb]
    exact I.base.free b ob e n hx
  · have q := I.base.tups b xs e
    rw [upd_ne (ne_of_none q hn)]
    exact q
  · have q := I.base.frzs b ob u e
    rw [upd_ne (ne_of_none q hn)]
    exact q
  · obtain ⟨m, q⟩ := I.base.tbls b ps e
    exact ⟨m, by rw [upd_ne (ne_of_none q hn)]; exact q⟩
  · obtain ⟨e, n, r⟩ := I.pin p q
    exact ⟨e, by rw [upd_ne (hp p q)]; exact n, r⟩
end

/-! the closure of the block -/
theorem forIn_yield_fold {α β : Type} {f : α → β → Sem (ForInStep β)} {g : α → β → β} : ∀ (l : List α) (c : β), (∀ x ∈ l, ∀ c, f x c = pure (.yield (g x c))) → forIn l c f = pure (l.foldl (fun c x => g x c) c)
  | [], _, _ => rfl
  | x :: l, c, h => by
    rw [List.forIn_cons, h x List.mem_cons_self, pure_bind]
    exact forIn_yield_fold l (g x c) fun y hy => h y (List.mem_cons_of_mem _ hy)
def clG (env : Env) (x : Str × NameKind) (c : List (Str × Addr)) : List (Str × Addr) := if (x.2 == NameKind.free) = true then (x.1, (env.cells.lookup x.1).getD 0) :: c else c
def clOf (env : Env) (scope : Scope) : List (Str × Addr) := scope.names.foldl (fun c x => clG env x c) []
theorem closure_eq {env : Env} {scope : Scope} (h : ∀ y ∈ scope.names, y.2 = .free → ∃ c, env.cells.lookup y.1 = some c) : closureFor scope env = pure (clOf env scope) := by
  simp only [closureFor]
  rw [forIn_yield_fold (g := clG env) scope.names [] (fun x hx c => by
    obtain ⟨n, k⟩ := x
    unfold clG
    by_cases hk : (k == NameKind.free) = true
    · obtain ⟨a, ha⟩ := h _ hx (by simpa using hk)
      have ha' : env.cells.lookup n = some a := ha
      simp only [hk, if_true, cellOf, ha', pure_bind, Option.getD_some]
    · have hk' : (k == NameKind.free) = false := Bool.eq_false_iff.mpr hk
      simp only [hk', Bool.false_eq_true, if_false])]
  rfl
theorem clG_look {env : Env} : ∀ (l : List (Str × NameKind)) (cs : List (Str × Addr)), (∀ y ∈ l, y.2 = .free → ∃ c, env.cells.lookup y.1 = some c) → (∀ y c, cs.lookup y = some c → env.cells.lookup y = some c) →
    (∀ y c, (l.foldl (fun c x => clG env x c) cs).lookup y = some c → env.cells.lookup y = some c) ∧ ∀ y, ((cs.lookup y).isSome = true ∨ (y, NameKind.free) ∈ l) → ((l.foldl (fun c x => clG env x c) cs).lookup y).isSome = true
  | [], cs, _, h => ⟨h, fun y hy => hy.elim id fun z => absurd z (by simp)⟩
  | (n, k) :: l, cs, hf, h => by
    have hf' : ∀ y ∈ l, y.2 = .free → ∃ c, env.cells.lookup y.1 = some c := fun y hy => hf y (List.mem_cons_of_mem _ hy)
    rw [List.foldl_cons]
    by_cases hk : k = .free
    · subst hk
      obtain ⟨a, ha⟩ := hf (n, .free) List.mem_cons_self rfl
      have ha' : env.cells.lookup n = some a := ha
      have e : clG env (n, .free) cs = (n, a) :: cs := by
        unfold clG
        rw [if_pos (by rfl)]
        show (n, (env.cells.lookup n).getD 0) :: cs = _
        rw [ha']
        rfl
      rw [e]
      have ih := clG_look l ((n, a) :: cs) hf' (fun y c hy => by
        rw [List.lookup_cons] at hy
        cases hb : y == n with
        | true =>
          rw [hb] at hy
          rw [eq_of_beq hb]
          exact ha'.trans hy
        | false =>
          rw [hb] at hy
          exact h y c hy)
      refine ⟨ih.1, fun y hy => ih.2 y ?_⟩
      rcases hy with hy | hy
      · left
        rw [List.lookup_cons]
        cases y == n with
        | true => rfl
        | false => exact hy
      · rcases List.mem_cons.mp hy with hy | hy
        · left
          rw [(Prod.mk.inj hy).1, List.lookup_cons]
          simp
        · exact .inr hy
    · have e : clG env (n, k) cs = cs := by
        unfold clG
        rw [if_neg (by simpa using hk)]
      rw [e]
      have ih := clG_look l cs hf' h
      refine ⟨ih.1, fun y hy => ih.2 y ?_⟩
      rcases hy with hy | hy
      · exact .inl hy
      · rcases List.mem_cons.mp hy with hy | hy
        · exact absurd (Prod.mk.inj hy).2.symm hk
        · exact .inr hy
theorem lookup_relabel_free {env : Env} : ∀ {names : List (Str × NameKind)} {x : Str}, names.lookup x = some .free →
    (names.map fun (n, k) => if (k == NameKind.free && env.scope.kind == .function && env.kindOf n == some .cell) then (n, NameKind.cell) else (n, k)).lookup x ≠ some .local
  | [], _, h => by simp at h
  | (n, k) :: r, x, h => by
    have ih := @lookup_relabel_free env r x
    show List.lookup x ((if (k == NameKind.free && env.scope.kind == .function && env.kindOf n == some .cell) = true then (n, NameKind.cell) else (n, k)) :: _) ≠ _
    cases hx : x == n with
    | true =>
      simp only [List.lookup_cons, hx] at h
      cases h
      split
      · simp [List.lookup_cons, hx]
      · simp [List.lookup_cons, hx]
    | false =>
      simp only [List.lookup_cons, hx] at h
      by_cases hc : (k == NameKind.free && env.scope.kind == .function && env.kindOf n == some .cell) = true
      · rw [if_pos hc]; simp only [List.lookup_cons, hx]; exact ih h
      · rw [if_neg hc]; simp only [List.lookup_cons, hx]; exact ih h
theorem free_of_relabel {env : Env} {scope : Scope} {y : Str} (nc : ∀ z ∈ scope.names, z.2 ≠ .cell) (h : (relabel scope env).names.lookup y = some .cell ∨ (relabel scope env).names.lookup y = some .free) : (y, NameKind.free) ∈ scope.names := by
  have go : ∀ k, (k = NameKind.cell ∨ k = NameKind.free) → (relabel scope env).names.lookup y = some k → (y, NameKind.free) ∈ scope.names := fun k hk e => by
    have m := PySem.mem_of_lookup e
    obtain ⟨⟨n, k'⟩, hm, e'⟩ := List.mem_map.mp m
    by_cases hc : (k' == NameKind.free && env.scope.kind == .function && env.kindOf n == some .cell) = true
    · have e2 : (n, NameKind.cell) = (y, k) := by
        rw [← e']
        show _ = (if (k' == NameKind.free && env.scope.kind == .function && env.kindOf n == some .cell) = true then (n, NameKind.cell) else (n, k'))
        rw [if_pos hc]
      have hk' : k' = .free := by
        simp only [Bool.and_eq_true, beq_iff_eq] at hc
        exact hc.1.1
      rw [← (Prod.mk.inj e2).1, ← hk']
      exact hm
    · have e2 : (n, k') = (y, k) := by
        rw [← e']
        show _ = (if (k' == NameKind.free && env.scope.kind == .function && env.kindOf n == some .cell) = true then (n, NameKind.cell) else (n, k'))
        rw [if_neg hc]
      rcases hk with hk | hk
      · exact absurd ((Prod.mk.inj e2).2.trans hk) (nc _ hm)
      · rw [← (Prod.mk.inj e2).1, ← hk, ← (Prod.mk.inj e2).2]
        exact hm
  rcases h with h | h
  · exact go _ (.inl rfl) h
  · exact go _ (.inr rfl) h

/-! the block's own context -/
def cxComp (X : Cx) (N : List Str) (scope : Scope) (C : Addr) (s : Shared) (H : Hp) (ex : List Addr) (pn : List (Addr × Obj)) (E : Value → Shared → Prop) : Cx where
  prog := X.prog
  w := X.w
  K := X.K
  mg := X.mg
  base := X.base
  A := X.A
  N := N
  s₀ := s
  H₀ := H
  env := compEnvC scope (clOf X.env scope) C X.env
  outer := X.stack
  stack := X.stack
  ex := ex
  fn := fun _ => false
  calm := X.calm
  pn := pn
  xe := E
/-- what is read off the text: osc, N the scope and the names around; caps: the names (with their places around) that the block sees -/
structure CompSc (osc : Scope) (N : List Str) (scope : Scope) (x : Str) (caps : List (Nat × Str)) : Prop where
  kind : scope.kind = .function
  hx : scope.names.lookup x = some .local
  ncell : ∀ y ∈ scope.names, y.2 ≠ .cell
  nloc : ∀ y ∈ scope.names, y.2 = .local → scope.names.lookup y.1 = some .local
  free : ∀ y ∈ scope.names, y.2 = .free → osc.names.lookup y.1 = some .cell ∨ osc.names.lookup y.1 = some .free
  cap : ∀ p ∈ caps, N[p.1]? = some p.2 ∧ scope.names.lookup p.2 = some .free
  nd : (x :: caps.map (·.2)).Nodup
def capS (caps : List (Nat × Str)) (σ : St) : St := caps.map fun p => (σ[p.1]?).getD none
def PIfs (X : Cx) (ifs : List Expr) (tc : TT) : Prop :=
  ∀ (pins : List (Addr × Obj)) (s : Shared) (σ : St) (H : Hp) (Q : Bool → Hp → Prop), Inv X pins σ H s → tc σ H Q →
    wpAny (model X.prog X.w) X.A (forIn ifs true fun c r => if r = true then do let ok ← isTrue c X.env (eval c X.env); pure (ForInStep.yield ok) else pure (ForInStep.yield r)) (TP X pins σ Q) X.xe s
def tYes : TT := fun _ H Q => Q true H
theorem pifs_nil {X : Cx} : PIfs X [] tYes := fun _ _ _ H _ I h => by
  simp only [List.forIn_nil]
  exact wpAny_pure ⟨H, I, h⟩
theorem pifs_one {X : Cx} {c : Expr} {tc : TT} (h : PT X c tc) : PIfs X [c] tc := by
  intro pins s σ H Q I hq
  simp only [List.forIn_cons, List.forIn_nil, if_true]
  exact wpAny_bind (wpAny_bind (wpAny_mono (h pins s σ H Q I hq) (fun b s' hb => wpAny_pure (wpAny_pure hb)) fun _ _ x => x))
/-- the block's reading: W, what holds ahead of turn i with a measure m and the items acc so far; Z, what is wanted behind -/
def tCompW (J : It) (cs : St) (tc : TT) (te : TE) (H1 : Hp) (Z : List V → Hp → Prop) : Prop :=
  ∃ W : Nat → Nat → List V → Hp → Prop, (∃ m, W 0 m [] H1) ∧ ∀ i m acc H, W i m acc H →
    (J.stop i H ∧ Z acc H) ∨ (J.go i H ∧ ∃ N : List V → Hp → Prop, (∀ a H', N a H' → ∃ m', m' < m ∧ W (i + 1) m' a H') ∧
      ∀ x H', J.yld i H x H' → tc (some x :: cs) H' fun b H2 => if b = true then te (some x :: cs) H2 fun v H3 => acc.length < sizeLine ∧ N (acc ++ [v]) H3 else N acc H2)
def tComp (wi : TI) (caps : List (Nat × Str)) (tc : TT) (te : TE) : TE := fun σ H Q => wi σ H fun J H1 => tCompW J (capS caps σ) tc te H1 fun acc H2 => ∀ p, H2 p = none → Q (.ref p) (upd H2 p (.lst acc))

/-! the loop -/
theorem comp_loop {X : Cx} {elt iter : Expr} {x : Str} {ns : List Str} {px pos : Pos} {ifs : List Expr} {scope : Scope} {it D : Addr} {fp : List Addr} {tn : Nat → Heap → Prop} {J : It} {tc : TT} {te : TE} {Z : List V → Hp → Prop} {R : Result → Shared → Prop}
    {cs : St} {o : Option V} {H : Hp} {s : Shared} (hc : X.calm = true) (hN : X.N = x :: ns) (nd : X.N.Nodup) (hx : X.env.scope.names.lookup x = some .local) (I : Inv X [] (o :: cs) H s) (T : Turn X.prog X.w X.K (.Name x px) J fp it tn) (st : tn 0 s.heap) (hf : ∀ b ∈ fp, FpOk X [] H b)
    (hD : FpOk X [] H D) (hDf : D ∉ fp) (pl : s.heap.PlainList D #[]) (hifs : PIfs X ifs tc) (helt : PE X elt te) (hW : tCompW J cs tc te H Z) (hxe : X.xe = notedBy (model X.prog X.w) X.A X.env fun e s' => R (.error e) s')
    (hR : ∀ (s' : Shared) (H' : Hp) (acc : List V) (its : List Value) (o' : Option V), Inv X [] (o' :: cs) H' s' → s'.heap.PlainList D its.toArray → Vals acc its → acc.length ≤ sizeLine → H' D = none → Z acc H' → R (.ok .next) s') :
    codeAny (model X.prog X.w) X.A (.compLoop (.ListComp elt [⟨.Name x px, iter, ifs, 0⟩] scope pos) 0 (.ref it) (.ref D) X.env) R s := by
  obtain ⟨W, ⟨m0, w0⟩, turn⟩ := hW
  refine codeAny_compLoop_tests (fun n s' => ∃ (i : Nat) (acc : List V) (its : List Value) (H' : Hp) (o' : Option V), Inv X [] (o' :: cs) H' s' ∧ tn i s'.heap ∧ (∀ b ∈ fp, H' b = none) ∧ H' D = none ∧ s'.heap.PlainList D its.toArray ∧ Vals acc its ∧ acc.length ≤ sizeLine ∧ W i n acc H') ?_ m0
    ⟨0, [], [], H, o, I, st, fun b hb => (hf b hb).1, hD.1, pl, .nil, Nat.zero_le _, w0⟩
  rintro n s3 ⟨i, acc, its, H3, o3, I3, st3, fr3, hD3, ⟨nD, gD⟩, va, hl, w3⟩
  rw [← hxe]
  -- the list is pinned through the turn
  have I4 : Inv X [(D, { cls := .type "list", data := .seq its.toArray nD })] (o3 :: cs) H3 s3 := I3.pins_of fun p hp => by
    obtain rfl : p = (D, { cls := .type "list", data := .seq its.toArray nD }) := by simpa using hp
    exact ⟨gD, hD3, hD.2.1, hD.2.2.1, fun v z => by cases (show Data.seq its.toArray nD = Data.cell v from z)⟩
  have stat : ∀ {H' : Hp}, (∀ b ∈ fp, H' b = none) → ∀ b ∈ fp, FpOk X [(D, { cls := .type "list", data := .seq its.toArray nD })] H' b := fun hn b hb => by
    obtain ⟨_, f1, f2, f3, f4, f5⟩ := hf b hb
    refine ⟨hn b hb, f1, f2, f3, f4, fun p hp => ?_⟩
    rcases List.mem_append.mp hp with z | z
    · exact f5 p (List.mem_append_left _ z)
    · obtain rfl : p = (D, { cls := .type "list", data := .seq its.toArray nD }) := by simpa using z
      exact fun e => hDf (by rw [show D = b from e]; exact hb)
  rcases turn i n acc H3 w3 with ⟨stop, z⟩ | ⟨go, N, hNn, step⟩
  · refine thn (T.done X rfl rfl rfl hc i _ s3 (o3 :: cs) H3 X.xe I4 (stat fr3) st3 stop) fun r s4 ⟨hr, I5⟩ => ?_
    subst hr
    exact hR s4 H3 acc its o3 (I5.pins_of fun p hp => absurd hp (by simp)) ⟨nD, (I5.pin _ (List.mem_append_right _ (List.mem_singleton.mpr rfl))).1⟩ va hl hD3 z
  · refine thn (T.item X rfl rfl rfl hc i _ s3 (o3 :: cs) H3 X.xe I4 (stat fr3) st3 go) fun r s4 ⟨u, hr, h4⟩ => ?_
    subst hr
    have e0 : (letOwnedTupleGo (.Name x px) (.ref it) u >>= fun _ => assign (.Name x px) X.env u) = assign (.Name x px) X.env u := rfl
    show wpAny _ _ (assign (.Name x px) X.env u) _ _ s4
    rw [← e0]
    refine wpAny_bind (thn h4 fun _ s5 ⟨xv, H5, I5, r5, y5, st5, fr5⟩ => ?_)
    have I5' := I5.pinned (stat fr5) (T.obj _ _ st5)
    refine wpAny_assign_Name (store_ok (i := 0) I5' nd (by rw [hN] <;> rfl) (.inl hx) r5 (fun s6 I6 => ?_) (.inr hx))
    have I6' : Inv X ([(D, { cls := .type "list", data := .seq its.toArray nD })] ++ pinsAt fp s5.heap) (some xv :: cs) H5 s6 := I6
    -- what stays of the iterator and of the list, at any later state of the turn
    have later : ∀ {σ' : St} {H' : Hp} {s' : Shared}, Inv X ([(D, { cls := .type "list", data := .seq its.toArray nD })] ++ pinsAt fp s5.heap) σ' H' s' →
        Inv X [] σ' H' s' ∧ tn (i + 1) s'.heap ∧ (∀ b ∈ fp, H' b = none) ∧ H' D = none ∧ s'.heap.get? D = some { cls := .type "list", data := .seq its.toArray nD } := fun {σ' H' s'} J' => by
      have pD := J'.pin (D, { cls := .type "list", data := .seq its.toArray nD }) (List.mem_append_right _ (List.mem_append_left _ (List.mem_singleton.mpr rfl)))
      refine ⟨J'.pins_of fun p hp => absurd hp (by simp), T.keep _ _ _ st5 fun b hb ob e => (J'.pin (b, ob) (List.mem_append_right _ (List.mem_append_right _ (mem_pinsAt hb e)))).1, fun b hb => ?_, pD.2.1, pD.1⟩
      obtain ⟨ob, e, _⟩ := T.obj _ _ st5 b hb
      exact (J'.pin (b, ob) (List.mem_append_right _ (List.mem_append_right _ (mem_pinsAt hb e)))).2.1
    refine thn (hifs _ s6 (some xv :: cs) H5 _ I6' (step xv H5 y5)) fun b s7 ⟨H7, I7, q7⟩ => ?_
    cases b with
    | false =>
      obtain ⟨m', hm, w7⟩ : ∃ m', m' < n ∧ W (i + 1) m' acc H7 := hNn acc H7 q7
      obtain ⟨l1, l2, l3, l4, l5⟩ := later I7
      exact ⟨m', hm, i + 1, acc, its, H7, some xv, l1, l2, l3, l4, ⟨nD, l5⟩, va, hl, w7⟩
    | true =>
      have q7' : te (some xv :: cs) H7 fun v H3 => acc.length < sizeLine ∧ N (acc ++ [v]) H3 := q7
      show wpAny _ _ (eval elt X.env) _ _ s7
      refine thn (helt _ s7 (some xv :: cs) H7 _ I7 q7') fun u8 s8 ⟨v, H8, I8, r8, hlt, n8⟩ => ?_
      obtain ⟨m', hm, w8⟩ := hNn _ _ n8
      obtain ⟨l1, l2, l3, l4, l5⟩ := later I8
      have hlen := va.length
      refine wpAny_list_append_plain (hsz := by simp only [List.size_toArray]; omega) ⟨nD, l5⟩ fun h9 pl9 sb9 => ?_
      refine ⟨m', hm, i + 1, acc ++ [v], its ++ [u8], H8, some xv, l1.turned (t' := s8.toks) (fun b ob hb e => (sb9.2 b hb).trans e) l4 hD.2.1 hD.2.2.2.1 hD.2.2.2.2.1 hD.2.2.2.2.2, ?_, l3, l4, by simpa using pl9, va.append (.cons r8 .nil), ?_, w8⟩
      · exact T.keep _ _ _ l2 fun b hb ob e => (sb9.2 b (fun z => hDf (z ▸ hb))).trans e
      · rw [List.length_append, List.length_singleton]
        omega

/-! the block -/
section
variable {X : Cx} {elt iter : Expr} {x : Str} {px pos : Pos} {ifs : List Expr} {scope : Scope} {caps : List (Nat × Str)} {wi : TI} {tc : TT} {te : TE}
theorem Inv.stkNo {pins : List (Addr × Obj)} {σ : St} {H : Hp} {s : Shared} {b : Addr} (I : Inv X pins σ H s) (h1 : b ≠ X.env.locals) (h2 : b ∉ X.fs) : b ∉ frs X.stack := fun z => (List.mem_cons.mp (I.stkSub b z)).elim h1 h2
theorem comp_block {pins : List (Addr × Obj)} {σ : St} {H : Hp} {s : Shared} {E : Value → Shared → Prop} {it : Addr} {fp : List Addr} {tn : Nat → Heap → Prop} {J : It} {Z : List V → Hp → Prop} {RR : Value → Addr → Result → Shared → Prop}
    (hc : X.calm = true) (S : CompSc X.env.scope X.N scope x caps) (I : Inv X pins σ H s) (T : Turn X.prog X.w X.K (.Name x px) J fp it tn) (st : tn 0 s.heap) (hf : ∀ b ∈ fp, FpOk X pins H b)
    (hifs : ∀ C s H ex pn E, PIfs (cxComp X (x :: caps.map (·.2)) scope C s H ex pn E) ifs tc) (helt : ∀ C s H ex pn E, PE (cxComp X (x :: caps.map (·.2)) scope C s H ex pn E) elt te)
    (hW : tCompW J (capS caps σ) tc te H Z)
    (hRR : ∀ (s' : Shared) (H' : Hp) (acc : List V) (its : List Value) (D C : Addr) (m : Str → Option Value), Inv X pins σ H' s' → s'.heap.PlainList D its.toArray → Vals acc its → acc.length ≤ sizeLine → FpOk X pins H' D → FpOk X pins H' C → D ≠ C → s'.heap.Ns C m → Z acc H' → RR (.ref D) C (.ok .next) s') :
    wpAny (model X.prog X.w) X.A (newList []) (fun acc s₃ => wpAny (model X.prog X.w) X.A (newFunctionEnv scope X.env.globals (clOf X.env scope) [] X.env.qual none .none (some X.env)) (fun cenv s₄ =>
      codeAny (model X.prog X.w) X.A (.compStart (.ListComp elt [⟨.Name x px, iter, ifs, 0⟩] scope pos) 0 (.ref it) acc { cenv with scope := relabel scope X.env }) (RR acc cenv.locals) s₄) E s₃) E s := by
  refine wpAny_newObj_type (wpAny_newFunctionEnv S.ncell (by intro y hy; simp at hy) (fun h₁ hns₁ hsb₁ => ?_) S.kind)
  dsimp only at hns₁ hsb₁ ⊢
  have hI3 : Inv X pins σ H { s with heap := s.heap.push { cls := .type "list", dict := none, data := .seq ([] : List Value).toArray } } := I.kept (t' := s.toks) fun b u e => Heap.get?_push_of_some _ e
  have gD3 : (s.heap.push { cls := .type "list", dict := none, data := .seq ([] : List Value).toArray }).get? s.heap.objs.size = some { cls := .type "list", dict := none, data := .seq ([] : List Value).toArray } := Heap.get?_push_size _ rfl
  have hz3 : (s.heap.push { cls := .type "list", dict := none, data := .seq ([] : List Value).toArray }).objs.size = s.heap.objs.size + 1 := Heap.size_push _ _
  generalize hH3 : s.heap.push { cls := .type "list", dict := none, data := .seq ([] : List Value).toArray } = h3 at hns₁ hsb₁ hI3 gD3 hz3 ⊢
  have k3 : ∀ b u, s.heap.get? b = some u → h3.get? b = some u := fun b u e => hH3 ▸ Heap.get?_push_of_some _ e
  have k31 : ∀ b u, h3.get? b = some u → h₁.get? b = some u := fun b u e => (hsb₁.2 b (Nat.ne_of_lt (Heap.lt_size e))).trans (Heap.get?_push_of_some _ e)
  have k1 : ∀ b u, s.heap.get? b = some u → h₁.get? b = some u := fun b u e => k31 b u (k3 b u e)
  have hDC : s.heap.objs.size ≠ h3.objs.size := by rw [hz3]; exact Nat.ne_of_lt (Nat.lt_succ_self _)
  have fD : FpOk X pins H s.heap.objs.size := I.fpOk (Nat.le_refl _) (I.hok.fresh (Nat.le_refl _))
  have fC : FpOk X pins H h3.objs.size := I.fpOk (by rw [hz3]; exact Nat.le_succ _) (I.hok.fresh (by rw [hz3]; exact Nat.le_succ _))
  have lfp : ∀ b ∈ fp, b < s.heap.objs.size := fun b hb => let ⟨_, e, _⟩ := T.obj _ _ st b hb; Heap.lt_size e
  have hDf : s.heap.objs.size ∉ fp := fun z => Nat.lt_irrefl _ (lfp _ z)
  -- the closure's cells are cells around
  have hfree : ∀ y ∈ scope.names, y.2 = .free → ∃ c, X.env.cells.lookup y.1 = some c := fun y hy e => I.ok.has y.1 (S.free y hy e)
  obtain ⟨sub, has⟩ := clG_look scope.names [] hfree (fun y c e => by simp at e)
  have sub' : ∀ y c, (clOf X.env scope).lookup y = some c → X.env.cells.lookup y = some c := sub
  have has' : ∀ y, (y, NameKind.free) ∈ scope.names → ∃ c, (clOf X.env scope).lookup y = some c := fun y hy => Option.isSome_iff_exists.mp (has y (.inr hy))
  have inj : ∀ b ∈ s.heap.objs.size :: fp, FpOk X pins H b := fun b hb => (List.mem_cons.mp hb).elim (fun z => z ▸ fD) (hf b)
  have ltC : ∀ b ∈ s.heap.objs.size :: fp, b ≠ h3.objs.size := fun b hb => (List.mem_cons.mp hb).elim (fun z => z ▸ hDC) fun z => Nat.ne_of_lt (by rw [hz3]; exact Nat.lt_succ_of_lt (lfp b z))
  have I1 : Inv (cxComp X (x :: caps.map (·.2)) scope h3.objs.size { s with heap := h3 } H (s.heap.objs.size :: fp) (X.pn ++ pins)
      (notedBy (model X.prog X.w) X.A (compEnvC scope (clOf X.env scope) h3.objs.size X.env) fun e s' => RR (.ref s.heap.objs.size) h3.objs.size (.error e) s')) [] (none :: capS caps σ) H { s with heap := h₁, toks := s.toks + ([] : List (Str × Value)).length } := by
    refine ⟨⟨I.ok.mod, S.kind, I.ok.glob, I.ok.blt, Nat.le_refl _, fun y z c e1 e2 => I.ok.inj y z c (sub' _ _ e1) (sub' _ _ e2), fun y hy => has' y (free_of_relabel S.ncell hy), fun y c e => (nomatch e), I.ok.hd, I.ok.frames, .inl rfl, fun b hb => ⟨ltC b hb, fun y c e => (inj b hb).2.2.2.2.1 y c (sub' y c e)⟩,
        fun b ob e => ⟨k3 b ob (I.bs b ob e).1, (I.bs b ob e).2⟩, ?_, fun b ob e z => ?_, fun b hb => I.stkNo (inj b hb).2.1 (inj b hb).2.2.1, ?_, I.stkFree⟩,
      rfl, I.bare, Un.kept k31, ⟨_, hns₁, fun i y v e1 e2 e3 => ?_⟩, fun y c e => ?_, fC.1, fun y c e => I.freeC y c (sub' y c e), fun p hp => ?_, I.hok.kept k1, ?_⟩
    · exact Nat.le_trans I.ok.bsz (Nat.le_trans I.sz (by show s.heap.objs.size ≤ h3.objs.size; rw [hz3]; exact Nat.le_succ _))
    · rcases (inj b z).2.2.2.1 with w1 | w1
      · exact I.ok.noex b ob e w1
      · exact absurd (Nat.lt_of_lt_of_le (Heap.lt_size e) I.ok.bsz) (Nat.not_lt.mpr w1)
    · exact Heap.FunFrames.of_keeps (fun b ob e _ => ⟨ob, k3 b ob e, rfl⟩) I.stack
    · cases i with
      | zero => cases e2
      | succ i =>
        have e1' : (caps.map (·.2))[i]? = some y := e1
        have e2' : (capS caps σ)[i]? = some (some v) := e2
        unfold capS at e2'
        rw [List.getElem?_map] at e1' e2'
        cases ep : caps[i]? with
        | none => rw [ep] at e1'; cases e1'
        | some p =>
          rw [ep] at e1' e2'
          obtain rfl : p.2 = y := Option.some.inj e1'
          have e2'' : (σ[p.1]?).getD none = some v := Option.some.inj e2'
          have hσ : σ[p.1]? = some (some v) := by
            cases es : σ[p.1]? with
            | none => rw [es] at e2''; cases e2''
            | some w1 => rw [es] at e2''; exact congrArg some e2''
          obtain ⟨cN, cF⟩ := S.cap p (List.mem_of_getElem? ep)
          have mF : (p.2, NameKind.free) ∈ scope.names := PySem.mem_of_lookup cF
          have oF := S.free _ mF rfl
          obtain ⟨m, hn, hlook⟩ := I.loc
          obtain ⟨u, ru, lk⟩ := hlook p.1 p.2 v cN hσ (.inr oF)
          refine ⟨u, ru, .inr ⟨?_, ?_⟩⟩
          · rcases e3 with z | z
            · exact absurd z (lookup_relabel_free cF)
            · exact z
          · obtain ⟨c, ec⟩ := has' p.2 mF
            refine ⟨c, ec, ?_⟩
            rcases lk with ⟨z, _⟩ | ⟨_, c', ec', ob, ho, hd⟩
            · have z' : X.env.scope.names.lookup p.2 = some .local := z
              rw [z'] at oF
              rcases oF with q | q <;> cases q
            · have ee := (sub' _ _ ec).symm.trans ec'
              cases ee
              exact ⟨ob, k1 _ _ ho, hd⟩
    · obtain ⟨v, ob, ho, hd⟩ := I.cell y c (sub' y c e)
      exact ⟨v, ob, k1 _ _ ho, hd⟩
    · have hp' : p ∈ X.pn ++ pins := by
        rcases List.mem_append.mp hp with z | z
        · exact z
        · exact absurd z (by simp)
      obtain ⟨e, n, ne, nf, d⟩ := I.pin p hp'
      refine ⟨k1 _ _ e, n, Nat.ne_of_lt ?_, I.stkNo ne nf, d⟩
      show p.1 < h3.objs.size
      rw [hz3]
      exact Nat.lt_succ_of_lt (Heap.lt_size e)
    · show (none :: capS caps σ).length = (x :: caps.map (·.2)).length
      simp [capS]
  have hf1 : ∀ b ∈ s.heap.objs.size :: fp, FpOk (cxComp X (x :: caps.map (·.2)) scope h3.objs.size { s with heap := h3 } H (s.heap.objs.size :: fp) (X.pn ++ pins)
      (notedBy (model X.prog X.w) X.A (compEnvC scope (clOf X.env scope) h3.objs.size X.env) fun e s' => RR (.ref s.heap.objs.size) h3.objs.size (.error e) s')) [] H b := fun b hb => by
    obtain ⟨f0, f1, f2, f3, f4, f5⟩ := inj b hb
    refine ⟨f0, ltC b hb, I.stkNo f1 f2, .inl hb, fun y c e => f4 y c (sub' y c e), fun p hp => f5 p ?_⟩
    rcases List.mem_append.mp hp with z | z
    · exact z
    · exact absurd z (by simp)
  have st1 : tn 0 h₁ := T.keep _ _ _ st fun b _ ob e => k1 b ob e
  have loop : codeAny (model X.prog X.w) X.A (.compLoop (.ListComp elt [⟨.Name x px, iter, ifs, 0⟩] scope pos) 0 (.ref it) (.ref s.heap.objs.size) (compEnvC scope (clOf X.env scope) h3.objs.size X.env)) (RR (.ref s.heap.objs.size) h3.objs.size) { s with heap := h₁, toks := s.toks + ([] : List (Str × Value)).length } := by
    refine comp_loop (X := cxComp X (x :: caps.map (·.2)) scope h3.objs.size { s with heap := h3 } H (s.heap.objs.size :: fp) (X.pn ++ pins) (notedBy (model X.prog X.w) X.A (compEnvC scope (clOf X.env scope) h3.objs.size X.env) fun e s' => RR (.ref s.heap.objs.size) h3.objs.size (.error e) s'))
      hc rfl S.nd (lookup_relabel_local S.hx) I1 T st1 (fun b hb => hf1 b (List.mem_cons_of_mem _ hb)) (hf1 _ List.mem_cons_self) hDf ⟨0, k31 _ _ gD3⟩ (hifs _ _ _ _ _ _) (helt _ _ _ _ _ _) hW rfl ?_
    intro s' H' acc its o' J1 plD va hlen nD z
    have u1 : Un (frs X.stack) (s.heap.objs.size :: fp) H H' h3 s'.heap := J1.base
    have J2 : Inv X pins σ H' s' := Inv.call' (s := { s with heap := h3 }) hI3 J1.os u1 J1.hok J1.bare fun b hb => by
      obtain ⟨_, f1, _, f3, f4, f5⟩ := inj b hb
      exact ⟨f3, f1, f4, f5⟩
    obtain ⟨m, hn, _⟩ := J1.loc
    exact hRR s' H' acc its _ _ m J2 plD va hlen ⟨nD, fD.2⟩ ⟨J1.free, fC.2⟩ hDC hn z
  exact codeAny_compStart_list loop (T.self _ 0 _ _ _ st1 loop)

theorem pe_comp (hc : X.calm = true) (S : CompSc X.env.scope X.N scope x caps) (hi : PI X (.Name x px) iter wi)
    (hifs : ∀ C s H ex pn E, PIfs (cxComp X (x :: caps.map (·.2)) scope C s H ex pn E) ifs tc) (helt : ∀ C s H ex pn E, PE (cxComp X (x :: caps.map (·.2)) scope C s H ex pn E) elt te)
    (hs : ∀ x, foldedSetIterable iter X.env x = pure x := by intro _; rfl) : PE X (.ListComp elt [⟨.Name x px, iter, ifs, 0⟩] scope pos) (tComp wi caps tc te) := by
  intro pins s σ H Q I h
  have hfree : ∀ y ∈ scope.names, y.2 = .free → ∃ c, X.env.cells.lookup y.1 = some c := fun y hy e => I.ok.has y.1 (S.free y hy e)
  rw [eval_ListComp]
  refine wpAny_comprehension_free (use := none) rfl hs (closure_eq hfree) S.kind S.nloc (thn (hi pins s σ H _ I h) fun v s1 h1 => thn h1 fun itv s2 h2 => ?_)
  obtain ⟨it, fp, tn, J, H2, e, I2, T, st2, f2, hW⟩ := h2
  subst e
  refine comp_block (RR := fun acc C => compPost (model X.prog X.w) X.A X.xe none (EP X pins σ Q) acc C) hc S I2 T st2 f2 hifs helt hW ?_
  intro s' H' acc its D C m J2 plD va hlen fD fC hDC hn z
  obtain ⟨nD, gD⟩ := plD
  refine ⟨m, hn, fun h'' sb => ?_⟩
  have J3 : Inv X pins σ H' { s' with heap := h'' } := J2.turned (t' := s'.toks) (fun b ob hb e => (sb.2 b hb).trans e) fC.1 fC.2.1 fC.2.2.2.1 fC.2.2.2.2.1 fC.2.2.2.2.2
  exact ⟨.ref D, upd H' D (.lst acc), J3.adopt fD ⟨hlen, its, nD, va, (sb.2 D hDC).trans gD⟩, rfl, z D fD.1⟩
/-- name = [..] where the store is the comprehension's own last step -/
theorem ps_setC {i : Nat} {y : Str} {py spos : Pos} (hc : X.calm = true) (hN : X.N.Nodup) (hi' : X.N[i]? = some y) (hy : Loc X.env.scope y) (S : CompSc X.env.scope X.N scope x caps) (hi : PI X (.Name x px) iter wi)
    (hifs : ∀ C s H ex pn E, PIfs (cxComp X (x :: caps.map (·.2)) scope C s H ex pn E) ifs tc) (helt : ∀ C s H ex pn E, PE (cxComp X (x :: caps.map (·.2)) scope C s H ex pn E) elt te)
    (hsw : swapsWith (.ListComp elt [⟨.Name x px, iter, ifs, 0⟩] scope pos) (some (.Name y py)) spos.line X.env = pure true := by rfl) (hs : ∀ x, foldedSetIterable iter X.env x = pure x := by intro _; rfl)
    (hfn : X.fn y = true ∨ X.env.scope.names.lookup y = some .local := by first | exact .inl rfl | exact .inr rfl | assumption) : PS X (.Assign [.Name y py] (.ListComp elt [⟨.Name x px, iter, ifs, 0⟩] scope pos) spos) (tAsg (tComp wi caps tc te) (gName i)) := by
  intro pins s σ H D0 I h
  have hfree : ∀ y ∈ scope.names, y.2 = .free → ∃ c, X.env.cells.lookup y.1 = some c := fun y hy e => I.ok.has y.1 (S.free y hy e)
  rw [exec_Assign_Name_used _ _ _ _ hsw]
  refine wpAny_bind (wpAny_standAt (wpAny_bind ?_))
  show wpAny _ _ (do let _ ← comprehension (.ListComp elt [⟨.Name x px, iter, ifs, 0⟩] scope pos) scope X.env _ (newList []) false (eval iter X.env) (some (assign (.Name y py) X.env))) _ _ s
  refine wpAny_bind (wpAny_mono (wpAny_comprehension_free (use := some (assign (.Name y py) X.env)) (Q := fun _ s' => SP X pins D0 .next s') rfl hs (closure_eq hfree) S.kind S.nloc
    (thn (hi pins s σ H _ I h) fun v s1 h1 => thn h1 fun itv s2 h2 => ?_)) (fun _ s' hq => wpAny_pure (wpAny_pure hq)) fun _ _ e => e)
  obtain ⟨it, fp, tn, J, H2, e, I2, T, st2, f2, hW⟩ := h2
  subst e
  refine comp_block (RR := fun acc C => compPost (model X.prog X.w) X.A X.xe (some (assign (.Name y py) X.env)) (fun _ s' => SP X pins D0 .next s') acc C) hc S I2 T st2 f2 hifs helt hW ?_
  intro s' H' acc its D C m J2 plD va hlen fD fC hDC hn z
  obtain ⟨nD, gD⟩ := plD
  have J3 : Inv X pins σ (upd H' D (.lst acc)) s' := J2.adopt fD ⟨hlen, its, nD, va, gD⟩
  show wpAny _ _ (assign (.Name y py) X.env (.ref D)) _ _ s'
  refine wpAny_assign_Name (store_ok2 J3 hN hi' hy (show RelV (.ref D) (.ref D) from rfl) (fun s4 J4 ⟨a, sa, ha⟩ => ?_) hfn)
  have hCa : C ≠ a := by
    rcases ha with q | q
    · rw [q]; exact fC.2.1
    · exact (fC.2.2.2.2.1 y a q).symm
  refine ⟨m, hn.sameBut sa hCa, fun h'' sb => ?_⟩
  exact ⟨_, _, J4.turned (t' := s4.toks) (fun b ob hb e => (sb.2 b hb).trans e) (by rw [upd_ne (Ne.symm hDC)]; exact fC.1) fC.2.1 fC.2.2.2.1 fC.2.2.2.2.1 fC.2.2.2.2.2, z D fD.1⟩
end
end L2

namespace L2
open PySem PySem.Spec PyProof.Rows

/-! ### the forms of a comprehension one uses -/
theorem comp_of {J : It} {cs : St} {tc : TT} {te : TE} {H1 : Hp} {Z : List V → Hp → Prop} (n : Nat) (Pv : Nat → List V → Hp → Prop) (h0 : Pv 0 [] H1) (hd : ∀ acc H, Pv n acc H → J.stop n H ∧ Z acc H)
    (hs : ∀ i acc H, i < n → Pv i acc H → J.go i H ∧ ∀ x H', J.yld i H x H' → tc (some x :: cs) H' fun b H2 => if b = true then te (some x :: cs) H2 fun v H3 => acc.length < sizeLine ∧ Pv (i + 1) (acc ++ [v]) H3 else Pv (i + 1) acc H2) :
    tCompW J cs tc te H1 Z := by
  refine ⟨fun i m acc H => m = n - i ∧ i ≤ n ∧ Pv i acc H, ⟨n, by simp, Nat.zero_le _, h0⟩, ?_⟩
  rintro i m acc H ⟨rfl, hi, p⟩
  by_cases hlt : i < n
  · obtain ⟨g, y⟩ := hs i acc H hlt p
    exact .inr ⟨g, Pv (i + 1), fun a H' q => ⟨n - (i + 1), by omega, rfl, hlt, q⟩, y⟩
  · have e : i = n := by omega
    subst e
    exact .inl (hd acc H p)
theorem comp_range {lo : Int} {n : Nat} {cs : St} {tc : TT} {te : TE} {H1 : Hp} {Z : List V → Hp → Prop} (Pv : Nat → List V → Hp → Prop) (h0 : Pv 0 [] H1)
    (hs : ∀ i acc H, i < n → Pv i acc H → tc (some (.int (lo + i)) :: cs) H fun b H2 => if b = true then te (some (.int (lo + i)) :: cs) H2 fun v H3 => acc.length < sizeLine ∧ Pv (i + 1) (acc ++ [v]) H3 else Pv (i + 1) acc H2)
    (hd : ∀ acc H, Pv n acc H → Z acc H) : tCompW (Itr lo n) cs tc te H1 Z :=
  comp_of n Pv h0 (fun acc H p => ⟨Nat.le_refl _, hd acc H p⟩) fun i acc H hi p => ⟨hi, fun x H' y => by
    obtain ⟨e, y⟩ := y
    subst e y
    exact hs i acc _ hi p⟩
theorem comp_list {K : PySem.W.Frag} {a : Addr} {xs : List V} {cs : St} {tc : TT} {te : TE} {H1 : Hp} {Z : List V → Hp → Prop} (Pv : Nat → List V → Hp → Prop) (h0 : Pv 0 [] H1) (hl : ∀ i acc H, Pv i acc H → SqL K H a xs)
    (hs : ∀ i x acc H, xs[i]? = some x → Pv i acc H → tc (some x :: cs) H fun b H2 => if b = true then te (some x :: cs) H2 fun v H3 => acc.length < sizeLine ∧ Pv (i + 1) (acc ++ [v]) H3 else Pv (i + 1) acc H2)
    (hd : ∀ acc H, Pv xs.length acc H → Z acc H) : tCompW (Itl K a) cs tc te H1 Z :=
  comp_of xs.length Pv h0 (fun acc H p => ⟨⟨xs, hl _ _ _ p, Nat.le_refl _⟩, hd acc H p⟩) fun i acc H hi p => ⟨⟨xs, xs[i], hl _ _ _ p, by simp [hi]⟩, fun x H' y => by
    obtain ⟨e, y⟩ := y
    subst e
    exact hs i x acc _ (y xs (hl _ _ _ p)) p⟩
/-! ### a text walked sign by sign -/
def Its (z : Str) : It := ⟨fun i _ => i < z.cps.size, fun i H x H' => H' = H ∧ ∃ c, z.cps[i]? = some c ∧ x = .str ⟨#[c]⟩, fun i _ => z.cps.size ≤ i⟩
section
variable {X : Cx} {tg : Expr}
def iStr (tl : TE) : TI := fun σ H R => tl σ H fun x H1 => ∃ z, x = .str z ∧ R (Its z) H1
end
/-! ### texts: find, join, slices; truths: is, all -/
section
variable {X : Cx}
theorem sl_str : SlR X (fun x lo hi H Q => ∃ z, x = .str z ∧ z.length ≤ sizeLine ∧ Q (.str (Txt.slice z lo hi)) H) := by
  intro pins s σ H x v vl vu lo hi sl Q I rx hs pl pu h
  obtain ⟨z, rfl, hz, q⟩ := h
  obtain ⟨t, rfl⟩ := rx
  have fin : ∀ (l u : Option (Int × Tok)), s.heap.IsSlice sl l u none → l.map (·.1) = lo → u.map (·.1) = hi → wpAny (model X.prog X.w) X.A (getItem (.str z t) (.ref sl)) (EP X pins σ Q) X.xe s := fun l u h1 h2 h3 => by
    subst h2 h3
    exact wpAny_getItem_str_slice (l := l) (u := u) (st := none) h1 rfl (post_val_or_str ⟨Nat.le_trans (Txt.slice_le z _ _) hz, fun t' k => ⟨.str _, H, I.tok _, ⟨_, rfl⟩, q⟩⟩)
  refine ⟨"str", _, F.slot_str_getitem.lookup, typeIs_str _ _ _, ?_⟩
  cases pl with
  | none =>
    cases pu with
    | none => exact fin none none hs rfl rfl
    | int j uj => exact fin none (some (j, uj)) hs rfl rfl
  | int i ui =>
    cases pu with
    | none => exact fin (some (i, ui)) none hs rfl rfl
    | int j uj => exact fin (some (i, ui)) (some (j, uj)) hs rfl rfl
end
end L2
namespace L2
open PySem PySem.Spec PyProof.Rows
section
variable {X : Cx} {a b c : Expr} {ta tb : TE} {pos : Pos}
/-- a op1 b op2 k of ints, k a constant: one truth -/
def tChI (p p' : Int → Int → Bool) (k : Int) (ta tb : TE) : TE := fun σ H Q => ta σ H fun x H1 => tb σ H1 fun y H2 => ∃ i j, x = .int i ∧ y = .int j ∧ Q (.bl (p i j && p' j k)) H2
end
theorem atI_some {α : Type} {xs : List α} {i : Int} (h0 : 0 ≤ i) (h1 : i < (xs.length : Int)) : ∃ v ∈ xs, atI xs i = some v := by
  have hk : i.toNat < xs.length := by omega
  have e : xs[i.toNat]? = some xs[i.toNat] := List.getElem?_eq_getElem hk
  refine ⟨xs[i.toNat], List.getElem_mem hk, ?_⟩
  have q := atI_nat e
  rw [Int.toNat_of_nonneg h0] at q
  exact q
theorem atI_int {ns : List Int} {i : Int} (h0 : 0 ≤ i) (h1 : i < (ns.length : Int)) : ∃ v : Int, atI (ns.map V.int) i = some (.int v) := by
  obtain ⟨v, hv, e⟩ := atI_some (xs := ns.map V.int) h0 (by rw [List.length_map]; exact h1)
  obtain ⟨n, _, rfl⟩ := List.mem_map.mp hv
  exact ⟨n, e⟩
theorem small_le {n : Nat} (h : n ≤ 1000) : n ≤ sizeLine := Nat.le_of_lt (small1000 h)
theorem mask31 (x : Int) : Builtin.bitAnd x 2147483647 = x % 2147483648 := PySem.W.kbt_mask x 31
theorem maskB (x : Int) : 0 ≤ Builtin.bitAnd x 2147483647 ∧ Builtin.bitAnd x 2147483647 < 2147483648 := by
  rw [mask31]
  omega
end L2
namespace L2
open PySem PySem.Spec PyProof.Rows
section
variable {X : Cx} {st : Stmt} {rest : List Stmt} {t u : TS}
/-- a word M between a statement and what follows: both ways through the statement meet there -/
def tCut (t u : TS) : TS := fun D σ H => ∃ M : St → Hp → Prop, t { D with nx := M } σ H ∧ ∀ σ' H', M σ' H' → u D σ' H'
theorem pss_cut (h1 : PS X st t) (h2 : PSs X rest u) : PSs X (st :: rest) (tCut t u) := by
  intro pins s σ H D I h
  obtain ⟨M, h, hM⟩ := h
  refine wpAny_execs_cons (thn (h1 pins s σ H { D with nx := M } I h) fun f s1 q => ?_)
  cases f with
  | next =>
    obtain ⟨σ', H', I', q⟩ := q
    exact h2 pins s1 σ' H' D I' (hM σ' H' q)
  | ret v => exact q
  | brk => exact q
  | cont => exact q
end
theorem same_new {H : Hp} {p : Addr} (h : H p = none) (o : HO) : Same H (upd H p o) := fun b u q => by rw [upd_ne (ne_of_none q h)]; exact q
end L2
namespace L2
open PySem PySem.Spec PyProof.Rows
/-- a word M behind an expression (a test): its ways meet there -/
def tCutE (t : TE) : TE := fun σ H Q => ∃ M : VK, t σ H M ∧ ∀ v H', M v H' → Q v H'
theorem pe_cut {X : Cx} {e : Expr} {t : TE} (h : PE X e t) : PE X e (tCutE t) := by
  intro pins s σ H Q I ⟨M, hM, hQ⟩
  exact thn (h pins s σ H M I hM) fun u s' ⟨v, H', I', r, m⟩ => ⟨v, H', I', r, hQ v H' m⟩
def tCutT (t : TT) : TT := fun σ H Q => ∃ M : Bool → Hp → Prop, t σ H M ∧ ∀ b H', M b H' → Q b H'
theorem pt_cut {X : Cx} {e : Expr} {t : TT} (h : PT X e t) : PT X e (tCutT t) := by
  intro pins s σ H Q I ⟨M, hM, hQ⟩
  exact thn (h pins s σ H M I hM) fun b s' ⟨H', I', m⟩ => ⟨H', I', hQ b H' m⟩
end L2

namespace L2
open PySem PySem.Spec PyProof.Rows
/-! isinstance with a type of Python's own -/
section
variable {X : Cx}
theorem call_isinst : CallR X (.builtin "isinstance") (fun xs H Q => ∃ (x : V) (T : String) (t : Value) (b : Bool), xs = [x, .ty T] ∧ TyOf X.K H x t ∧ PySem.W.kitOne X.K t (.type T) = some b ∧ Q (.bl b) H) := by
  intro pins s σ H xs us Q I r h
  obtain ⟨x, T, t, b, rfl, ty, e, q⟩ := h
  obtain ⟨u, w', rfl, r1, r2⟩ := vals2 r
  cases (show w' = Value.type T from r2)
  exact isinst_ok I r1 ty e fun tk => ⟨.bl b, H, I.tok tk, rfl, q⟩
theorem kit_ii (K : PySem.W.Frag) : PySem.W.kitOne K (.type "int") (.type "int") = some true := by rfl
theorem kit_ib (K : PySem.W.Frag) : PySem.W.kitOne K (.type "int") (.type "bool") = some false := by rfl
end
end L2

namespace L2
open PySem
theorem ifT {c : Bool} {A B : Prop} (h : c = true) (a : A) : if c = true then A else B := by rw [if_pos h]; exact a
theorem ifF {c : Bool} {A B : Prop} (h : c = false) (b : B) : if c = true then A else B := by rw [if_neg (by rw [h]; decide)]; exact b
end L2

namespace Gds
open PySem L2
/-! guards as a datum of our own, and how the heap bears them -/
inductive Gd where
  | yes
  | is (b n : Int)
  | under (b n : Int)
  | inn (r : Int)
  | neg (g : Gd)
  | both (g h : Gd)
  | either (g h : Gd)
def Gd.ht : Gd → Nat
  | .yes => 1
  | .is _ _ => 1
  | .under _ _ => 1
  | .inn _ => 1
  | .neg g => g.ht + 1
  | .both g h => 1 + max g.ht h.ht
  | .either g h => 1 + max g.ht h.ht
theorem Gd.ht_pos : ∀ g : Gd, 1 ≤ g.ht
  | .yes => Nat.le_refl _
  | .is _ _ => Nat.le_refl _
  | .under _ _ => Nat.le_refl _
  | .inn _ => Nat.le_refl _
  | .neg _ => Nat.succ_le_succ (Nat.zero_le _)
  | .both _ _ => Nat.le_add_right _ _
  | .either _ _ => Nat.le_add_right _ _
def at0 (bx : List Int) (b : Int) : Int := bx.getD b.toNat 0
def Gd.holds (op bx : List Int) : Gd → Bool
  | .yes => true
  | .is b n => decide (V.int (at0 bx b) = V.int n)
  | .under b n => decide (at0 bx b < n)
  | .inn r => inV (.int r) (op.map V.int)
  | .neg g => !(g.holds op bx)
  | .both g h => g.holds op bx && h.holds op bx
  | .either g h => g.holds op bx || h.holds op bx
def Gd.ok (nb : Nat) : Gd → Prop
  | .yes => True
  | .is b _ => 0 ≤ b ∧ b < (nb : Int)
  | .under b _ => 0 ≤ b ∧ b < (nb : Int)
  | .inn _ => True
  | .neg g => g.ok nb
  | .both g h => g.ok nb ∧ h.ok nb
  | .either g h => g.ok nb ∧ h.ok nb
/-- tuples stay -/
def KeepT (H H' : Hp) : Prop := ∀ b xs, H b = some (.tup xs) → H' b = some (.tup xs)
theorem KeepT.trans {H H1 H2 : Hp} (a : KeepT H H1) (b : KeepT H1 H2) : KeepT H H2 := fun c xs h => b c xs (a c xs h)
theorem KeepT.of {H H' : Hp} (s : Same H H') : KeepT H H' := fun b xs h => s b _ h
theorem KeepT.lst {H : Hp} {p : Addr} {xs : List V} (h : H p = some (.lst xs)) (o : HO) : KeepT H (upd H p o) := fun b ys e => by
  rw [upd_ne (ne_of e h (by intro z; cases z))]
  exact e
theorem KeepT.new {H : Hp} {p : Addr} (h : H p = none) (o : HO) : KeepT H (upd H p o) := .of (same_new h o)
theorem same_upd {H H' : Hp} {p : Addr} (hp : H p = none) (s : Same H H') (o : HO) : Same H (upd H' p o) := fun b u e => by
  rw [upd_ne (ne_of_none e hp)]
  exact s b u e
inductive GdIn (H : Hp) : V → Gd → Prop where
  | yes {a : Addr} : H a = some (.tup [.str "yes"]) → GdIn H (.ref a) .yes
  | is {a : Addr} {b n : Int} : H a = some (.tup [.str "is", .int b, .int n]) → GdIn H (.ref a) (.is b n)
  | under {a : Addr} {b n : Int} : H a = some (.tup [.str "under", .int b, .int n]) → GdIn H (.ref a) (.under b n)
  | inn {a : Addr} {r : Int} : H a = some (.tup [.str "in", .int r]) → GdIn H (.ref a) (.inn r)
  | neg {a : Addr} {v : V} {g : Gd} : H a = some (.tup [.str "not", v]) → GdIn H v g → GdIn H (.ref a) (.neg g)
  | both {a : Addr} {v u : V} {g h : Gd} : H a = some (.tup [.str "both", v, u]) → GdIn H v g → GdIn H u h → GdIn H (.ref a) (.both g h)
  | either {a : Addr} {v u : V} {g h : Gd} : H a = some (.tup [.str "either", v, u]) → GdIn H v g → GdIn H u h → GdIn H (.ref a) (.either g h)
theorem GdIn.mono {H H' : Hp} {v : V} {g : Gd} (x : GdIn H v g) (k : KeepT H H') : GdIn H' v g := by
  induction x with
  | yes e => exact .yes (k _ _ e)
  | is e => exact .is (k _ _ e)
  | under e => exact .under (k _ _ e)
  | inn e => exact .inn (k _ _ e)
  | neg e _ i => exact .neg (k _ _ e) i
  | both e _ _ i j => exact .both (k _ _ e) i j
  | either e _ _ i j => exact .either (k _ _ e) i j
theorem strNe {x y : Str} {A B : Prop} (h : ¬ x = y) (b : B) : if decide (V.str x = V.str y) = true then A else B := by
  rw [if_neg]
  · exact b
  · intro z
    have z' := of_decide_eq_true z
    injection z' with z''
    exact h z''
theorem strEq {x : Str} {A B : Prop} (a : A) : if decide (V.str x = V.str x) = true then A else B := by
  rw [if_pos (decide_eq_true rfl)]
  exact a
theorem at0_at {bx : List Int} {b : Int} (h0 : 0 ≤ b) (h1 : b < (bx.length : Int)) : atI (bx.map V.int) b = some (.int (at0 bx b)) := by
  have hk : b.toNat < bx.length := by omega
  have e : (bx.map V.int)[b.toNat]? = some (.int (at0 bx b)) := by
    rw [List.getElem?_map, List.getElem?_eq_getElem hk]
    unfold at0
    rw [List.getD_eq_getElem?_getD, List.getElem?_eq_getElem hk]
    rfl
  have q := atI_nat e
  rw [Int.toNat_of_nonneg h0] at q
  exact q
theorem ints_flat (op : List Int) : (op.map V.int).all flatV = true := by
  rw [List.all_eq_true]
  intro x hx
  obtain ⟨n, _, rfl⟩ := List.mem_map.mp hx
  rfl
end Gds

namespace L2
open PySem PySem.Spec PyProof.Rows

/-! ### lists of pairs as tables -/
section
variable {κ : Type} [DecidableEq κ]
def valV (kvs : List (κ × V)) (k : κ) : Option V := (kvs.find? fun kv => decide (kv.1 = k)).map (·.2)
/-- in its place, or at the end -/
def putK (kvs : List (κ × V)) (k : κ) (v : V) : List (κ × V) :=
  if (kvs.any fun kv => decide (kv.1 = k)) = true then kvs.map (fun kv => if kv.1 = k then (kv.1, v) else kv) else kvs ++ [(k, v)]
def dropK (kvs : List (κ × V)) (k : κ) : List (κ × V) := kvs.filter fun kv => decide (kv.1 ≠ k)

theorem valV_pos {p : κ × V} {r : List (κ × V)} {k : κ} (e : p.1 = k) : valV (p :: r) k = some p.2 := by simp [valV, List.find?_cons, e]
theorem valV_neg {p : κ × V} {r : List (κ × V)} {k : κ} (e : ¬ p.1 = k) : valV (p :: r) k = valV r k := by simp [valV, List.find?_cons, e]
theorem valV_any (k : κ) : ∀ kvs : List (κ × V), (kvs.any fun kv => decide (kv.1 = k)) = (valV kvs k).isSome
  | [] => rfl
  | p :: r => by
    rw [List.any_cons]
    by_cases e : p.1 = k
    · simp only [valV_pos e, decide_eq_true e, Bool.true_or, Option.isSome_some]
    · rw [valV_neg e, decide_eq_false e, Bool.false_or]; exact valV_any k r
theorem valV_map (k j : κ) (y : V) : ∀ kvs : List (κ × V), valV (kvs.map fun kv => if kv.1 = k then (kv.1, y) else kv) j = (valV kvs j).map fun x => if j = k then y else x
  | [] => rfl
  | p :: r => by
    have ih := valV_map k j y r
    rw [List.map_cons]
    by_cases h : p.1 = k
    · rw [if_pos h]
      by_cases e : p.1 = j
      · rw [valV_pos (p := (p.1, y)) e, valV_pos e, Option.map_some, if_pos (e.symm.trans h)]
      · rw [valV_neg (p := (p.1, y)) e, valV_neg e, ih]
    · rw [if_neg h]
      by_cases e : p.1 = j
      · rw [valV_pos (p := p) e, valV_pos e, Option.map_some, if_neg (fun z => h (e.trans z))]
      · rw [valV_neg (p := p) e, valV_neg e, ih]
theorem valV_snoc (k j : κ) (y : V) : ∀ kvs : List (κ × V), valV kvs k = none → valV (kvs ++ [(k, y)]) j = if j = k then some y else valV kvs j
  | [], _ => by
    by_cases e : k = j
    · rw [if_pos e.symm]; exact valV_pos (p := (k, y)) e
    · rw [if_neg (fun z => e z.symm)]; exact valV_neg (p := (k, y)) e
  | p :: r, hn => by
    rw [List.cons_append]
    have hk : ¬ p.1 = k := fun z => by rw [valV_pos z] at hn; cases hn
    rw [valV_neg hk] at hn
    have ih := valV_snoc k j y r hn
    by_cases e : p.1 = j
    · rw [valV_pos e, valV_pos e, if_neg (fun z => hk (e.trans z))]
    · rw [valV_neg e, valV_neg e, ih]
theorem valV_put (kvs : List (κ × V)) (k j : κ) (y : V) : valV (putK kvs k y) j = if j = k then some y else valV kvs j := by
  unfold putK
  by_cases a : (kvs.any fun kv => decide (kv.1 = k)) = true
  · rw [if_pos a, valV_map]
    rw [valV_any] at a
    by_cases e : j = k
    · obtain ⟨x, hx⟩ := Option.isSome_iff_exists.mp a
      rw [if_pos e, e, hx, Option.map_some, if_pos rfl]
    · rw [if_neg e]
      cases valV kvs j with
      | none => rfl
      | some x => rw [Option.map_some, if_neg e]
  · rw [if_neg a]
    refine valV_snoc k j y kvs ?_
    rw [valV_any] at a
    cases q : valV kvs k with
    | none => rfl
    | some x => rw [q] at a; exact (a rfl).elim
theorem length_putK (kvs : List (κ × V)) (k : κ) (v : V) : (putK kvs k v).length ≤ kvs.length + 1 := by
  unfold putK
  split
  · rw [List.length_map]; omega
  · rw [List.length_append, List.length_cons, List.length_nil]; omega
theorem putK_new {kvs : List (κ × V)} {k : κ} (v : V) (h : valV kvs k = none) : putK kvs k v = kvs ++ [(k, v)] := by
  unfold putK
  rw [valV_any, h]
  exact if_neg (by decide)

theorem RelO.isSome_eq {o : Option V} {u : Option Value} (r : RelO o u) : o.isSome = u.isSome := by
  cases o with
  | none => cases u with
    | none => rfl
    | some _ => exact (show False from r).elim
  | some _ => cases u with
    | none => exact (show False from r).elim
    | some _ => rfl
/-- raw tables of the same keys -/
theorem KV.val {kvs : List (κ × V)} {vs : List (κ × Value)} (r : KV kvs vs) (k : κ) : RelO (valV kvs k) (valueAt vs k) := by
  unfold KV at r
  induction r with
  | nil => exact True.intro
  | @cons p q ps qs h t ih =>
    obtain ⟨h1, h2⟩ := h
    by_cases e : p.1 = k
    · have e' : q.1 = k := h1.symm.trans e
      have b : valueAt (q :: qs) k = some q.2 := by simp [valueAt, List.find?_cons, e']
      rw [valV_pos e, b]; exact h2
    · have e' : ¬ q.1 = k := fun z => e (h1.trans z)
      have b : valueAt (q :: qs) k = valueAt qs k := by simp [valueAt, List.find?_cons, e']
      rw [valV_neg e, b]; exact ih
theorem KV.any {kvs : List (κ × V)} {vs : List (κ × Value)} (r : KV kvs vs) (k : κ) : (kvs.any fun kv => decide (kv.1 = k)) = vs.any fun kv => decide (kv.1 = k) := by
  unfold KV at r
  induction r with
  | nil => rfl
  | cons h t ih => rw [List.any_cons, List.any_cons, ih, h.1]
theorem KV.repl {kvs : List (κ × V)} {vs : List (κ × Value)} (r : KV kvs vs) (k : κ) {y : V} {u : Value} (ry : RelV y u) :
    KV (kvs.map fun kv => if kv.1 = k then (kv.1, y) else kv) (vs.map fun kv => if kv.1 = k then (kv.1, u) else kv) := by
  unfold KV at r ⊢
  induction r with
  | nil => exact .nil
  | @cons p q ps qs h t ih =>
    rw [List.map_cons, List.map_cons]
    refine .cons ?_ ih
    obtain ⟨h1, h2⟩ := h
    by_cases e : p.1 = k
    · rw [if_pos e, if_pos (h1.symm.trans e)]; exact ⟨h1, ry⟩
    · rw [if_neg e, if_neg (fun z => e (h1.trans z))]; exact ⟨h1, h2⟩
theorem KV.put {kvs : List (κ × V)} {vs : List (κ × Value)} (r : KV kvs vs) (k : κ) {y : V} {u : Value} (ry : RelV y u) : KV (putK kvs k y) (stored vs k u) := by
  unfold putK stored
  rw [r.any k]
  by_cases e : (vs.any fun kv => decide (kv.1 = k)) = true
  · rw [if_pos e, if_pos e]; exact r.repl k ry
  · rw [if_neg e, if_neg e]; exact Paired.snoc r ⟨rfl, ry⟩
theorem KV.keys {kvs : List (κ × V)} {vs : List (κ × Value)} (r : KV kvs vs) : kvs.map (·.1) = vs.map (·.1) := by
  unfold KV at r
  induction r with
  | nil => rfl
  | cons h t ih => rw [List.map_cons, List.map_cons, ih, h.1]
theorem KV.length {kvs : List (κ × V)} {vs : List (κ × Value)} (r : KV kvs vs) : kvs.length = vs.length := Paired.length r
end


/-! ### a tracked dict, its keys ints and texts or tuples of these -/
theorem kV_is {P : Program} {w : World} {k : Key} {u : Value} (r : RelV (kV k) u) : (mixKind P w).is k u = true := by
  cases k with
  | inl i => obtain ⟨t, e⟩ := (show ∃ t, u = Value.int i t from r); subst e; exact mixKind_int P w i t
  | inr x => obtain ⟨t, e⟩ := (show ∃ t, u = Value.str x t from r); subst e; exact mixKind_str P w x t
theorem items_are {P : Program} {w : World} : ∀ {ks : List Key} {us : List Value}, Vals (ks.map kV) us → ItemsAre (mixKind P w) ks us
  | [], _, r => by rw [List.map_nil] at r; cases r; exact .nil
  | k :: ks, _, r => by
    rw [List.map_cons] at r
    cases r with
    | cons h t => exact .cons (kV_is h) (items_are t)

/-- raw entries of a dict with tuple keys -/
abbrev KT (H : Hp) : List (List Key × V) → List (List Key × Addr × Value) → Prop := Paired fun p q => p.1 = q.1 ∧ H q.2.1 = some (.tup (p.1.map kV)) ∧ RelV p.2 q.2.2
theorem KT.val {H : Hp} {kvs : List (List Key × V)} {xs : List (List Key × Addr × Value)} (r : KT H kvs xs) (k : List Key) : RelO (valV kvs k) ((atKey xs k).map (·.2)) := by
  induction r with
  | nil => exact True.intro
  | @cons p q ps qs h t ih =>
    obtain ⟨h1, _, h2⟩ := h
    by_cases e : p.1 = k
    · have e' : q.1 = k := h1.symm.trans e
      have b : atKey (q :: qs) k = some q.2 := by simp [atKey, List.find?_cons, e']
      rw [valV_pos e, b]; exact h2
    · have e' : ¬ q.1 = k := fun z => e (h1.trans z)
      have b : atKey (q :: qs) k = atKey qs k := by simp [atKey, List.find?_cons, e']
      rw [valV_neg e, b]; exact ih
theorem KT.repl {H : Hp} {kvs : List (List Key × V)} {xs : List (List Key × Addr × Value)} (r : KT H kvs xs) (k : List Key) {y : V} {u : Value} (ry : RelV y u) :
    KT H (kvs.map fun kv => if kv.1 = k then (kv.1, y) else kv) (xs.map (putAt k u)) := by
  induction r with
  | nil => exact .nil
  | @cons p q ps qs h t ih =>
    rw [List.map_cons, List.map_cons]
    refine .cons ?_ ih
    obtain ⟨h1, h2, h3⟩ := h
    unfold putAt
    by_cases e : p.1 = k
    · rw [if_pos e, if_pos (h1.symm.trans e)]; exact ⟨h1, h2, ry⟩
    · rw [if_neg e, if_neg (fun z => e (h1.trans z))]; exact ⟨h1, h2, h3⟩
theorem KT.put {H : Hp} {kvs : List (List Key × V)} {xs : List (List Key × Addr × Value)} (r : KT H kvs xs) (k : List Key) {b : Addr} {y : V} {u : Value} (hb : H b = some (.tup (k.map kV))) (ry : RelV y u) :
    KT H (putK kvs k y) (storedH xs k b u) := by
  have e : (kvs.any fun kv => decide (kv.1 = k)) = (atKey xs k).isSome := by
    rw [valV_any, (r.val k).isSome_eq, Option.isSome_map]
  unfold putK storedH
  rw [e]
  by_cases q : (atKey xs k).isSome = true
  · rw [if_pos q, if_pos q]; exact r.repl k ry
  · rw [if_neg q, if_neg q]; exact Paired.snoc r ⟨rfl, hb, ry⟩
theorem KT.keeps {H H' : Hp} {kvs : List (List Key × V)} {xs : List (List Key × Addr × Value)} (r : KT H kvs xs) (ht : ∀ b ys, H b = some (.tup ys) → H' b = some (.tup ys)) : KT H' kvs xs :=
  Paired.mapP r fun _ _ z => ⟨z.1, ht _ _ z.2.1, z.2.2⟩

section
variable {P : Program} {w : World} {H : Hp} {h : Heap} {a : Addr}
theorem rd_of {u : HO} (ok : HOk P w H h) (e : Rd H a u) : ObjOk P w H h a u := e.ok ok
theorem dk_rd {kvs : List (Key × V)} (ok : HOk P w H h) (e : Rd H a (.dK kvs)) : kvs.length ≤ sizeLine ∧ (a == sysModules) = false ∧ ∃ vs, KV kvs vs ∧ h.DictOf (mixKind P w) a vs :=
  show ObjOk P w H h a (.dK kvs) from rd_of ok e
theorem dk_of {kvs : List (Key × V)} (ok : HOk P w H h) (e : H a = some (.dK kvs)) : kvs.length ≤ sizeLine ∧ (a == sysModules) = false ∧ ∃ vs, KV kvs vs ∧ h.DictOf (mixKind P w) a vs := dk_rd ok (.inl e)
/-- a tracked tuple of ints and texts is a key -/
theorem key_of {ks : List Key} (ok : HOk P w H h) (e : H a = some (.tup (ks.map kV))) : (tupleKind (mixKind P w)).is h ks a := by
  obtain ⟨_, its, r, o, h1, h2, n, h3⟩ := (show ObjOk P w H h a (.tup (ks.map kV)) from ok a _ e)
  exact ⟨o, its.toArray, n, h1, h2, h3, by simpa using items_are r⟩
theorem dt_rd {kvs : List (List Key × V)} (ok : HOk P w H h) (e : Rd H a (.dT kvs)) : kvs.length ≤ sizeLine ∧ (a == sysModules) = false ∧
    ∃ xs, KT H kvs xs ∧ h.DictOfH (tupleKind (mixKind P w)) a xs := by
  obtain ⟨z, y, xs, r, o, es, ep, h1, h2, h3, h4, h5⟩ := (show ObjOk P w H h a (.dT kvs) from rd_of ok e)
  refine ⟨z, y, xs, r, o, es, ep, h1, h2, h3, h4, fun x hx => ?_, h5⟩
  have all : ∀ {l : List (List Key × V)} {m : List (List Key × Addr × Value)}, KT H l m → ∀ x ∈ m, (tupleKind (mixKind P w)).is h x.1 x.2.1 := by
    intro l m q
    induction q with
    | nil => intro x hx; exact nomatch hx
    | @cons p q ps qs hq t ih =>
      intro x hx
      rcases List.mem_cons.mp hx with e | hx
      · subst e
        exact key_of ok (by rw [← hq.1]; exact hq.2.1)
      · exact ih x hx
  exact all r x hx
theorem dt_of {kvs : List (List Key × V)} (ok : HOk P w H h) (e : H a = some (.dT kvs)) : kvs.length ≤ sizeLine ∧ (a == sysModules) = false ∧
    ∃ xs, KT H kvs xs ∧ h.DictOfH (tupleKind (mixKind P w)) a xs := dt_rd ok (.inl e)
end

/-- what the dict at a holds at the key y -/
def DGet (H : Hp) (a : Addr) (y : V) (r : Option V) : Prop :=
  (∃ kvs k, Rd H a (.dK kvs) ∧ y = kV k ∧ r = valV kvs k) ∨ ∃ kvs k b, Rd H a (.dT kvs) ∧ y = .ref b ∧ H b = some (.tup (k.map kV)) ∧ r = valV kvs k
/-- the heap behind a[y] = v -/
def DPut (H : Hp) (a : Addr) (y v : V) (H' : Hp) : Prop :=
  (∃ kvs k, H a = some (.dK kvs) ∧ y = kV k ∧ kvs.length < sizeLine ∧ H' = upd H a (.dK (putK kvs k v))) ∨
  ∃ kvs k b, H a = some (.dT kvs) ∧ y = .ref b ∧ H b = some (.tup (k.map kV)) ∧ kvs.length < sizeLine ∧ H' = upd H a (.dT (putK kvs k v))
theorem DGet.k {H : Hp} {a : Addr} {kvs : List (Key × V)} {k : Key} (e : H a = some (.dK kvs)) : DGet H a (kV k) (valV kvs k) := .inl ⟨kvs, k, .inl e, rfl, rfl⟩
theorem DPut.k {H : Hp} {a : Addr} {kvs : List (Key × V)} {k : Key} {v : V} (e : H a = some (.dK kvs)) (hl : kvs.length < sizeLine) : DPut H a (kV k) v (upd H a (.dK (putK kvs k v))) := .inl ⟨kvs, k, e, rfl, hl, rfl⟩
section
variable {X : Cx} {pins : List (Addr × Obj)} {σ : St} {H : Hp} {s : Shared} {a : Addr} {y v : V} {u r : Value} {o : Option V} {A : Around} {E : Value → Shared → Prop}

theorem Inv.big (I : Inv X pins σ H s) : sysModules < s.heap.objs.size := by
  have h : mainGlobals < s.heap.objs.size := (I.mod.glob.keeps I.bk).lt
  exact Nat.lt_trans (by decide) h

/-- d[y], there -/
theorem d_getItem {Q : Value → Shared → Prop} (hu : A.units + 1 < cLine) (I : Inv X pins σ H s) (g : DGet H a y (some v)) (ry : RelV y u) (h : ∀ w' s', Inv X pins σ H s' → RelV v w' → Q w' s') :
    wpAny (model X.prog X.w) A (getItem (.ref a) u) Q E s := by
  rcases g with ⟨kvs, k, e, ey, l⟩ | ⟨kvs, k, b, e, ey, eb, l⟩
  · subst ey
    obtain ⟨z, hd, vs, rel, dd⟩ := dk_rd I.hok e
    obtain ⟨w', hw, rw'⟩ := RelO.some_of (v := v) (o := valueAt vs k) (by rw [l]; exact rel.val k)
    exact wpAny_getItem_of (kV_is ry) dd.mapOf hw (h w' _ (I.tok _) rw')
  · subst ey
    cases (show u = Value.ref b from ry)
    obtain ⟨z, hd, xs, rel, dd⟩ := dt_rd I.hok e
    obtain ⟨w', hw, rw'⟩ := RelO.some_of (v := v) (o := (atKey xs k).map (·.2)) (by rw [l]; exact rel.val k)
    obtain ⟨p, hp, hp2⟩ := Option.map_eq_some_iff.mp hw
    refine wpAny_getItem_heap (tupleKind_room_in1 hu) (key_of I.hok eb) dd hp ?_
    rw [hp2]
    exact h w' _ (I.tok _) rw'
theorem d_notIn {Q : Value → Shared → Prop} (hu : A.units + 1 < cLine) (I : Inv X pins σ H s) (g : DGet H a y o) (ry : RelV y u) (h : ∀ s', Inv X pins σ H s' → Q (.bool (!o.isSome)) s') :
    wpAny (model X.prog X.w) A (compareOp .NotIn u (.ref a)) Q E s := by
  rcases g with ⟨kvs, k, e, ey, l⟩ | ⟨kvs, k, b, e, ey, eb, l⟩
  · subst ey
    obtain ⟨z, hd, vs, rel, dd⟩ := dk_rd I.hok e
    refine wpAny_notIn_of (kV_is ry) hd dd.mapOf ?_
    rw [← (rel.val k).isSome_eq, ← l]
    exact h _ (I.tok _)
  · subst ey
    cases (show u = Value.ref b from ry)
    obtain ⟨z, hd, xs, rel, dd⟩ := dt_rd I.hok e
    refine wpAny_notIn_heap (tupleKind_room_in1 hu) (key_of I.hok eb) hd dd ?_
    have q := (rel.val k).isSome_eq
    rw [Option.isSome_map] at q
    rw [← q, ← l]
    exact h _ (I.tok _)
/-- a dict's object is replaced -/
theorem d_write {h' : Heap} {t' : Nat} {ob : HO} (I : Inv X pins σ H s) (mu : Mut (H a)) (hs : Heap.SameBut a s.heap h') (he : ∃ q, h'.get? a = some q) (new : ObjOk X.prog X.w (upd H a ob) h' a ob) :
    Inv X pins σ (upd H a ob) { s with heap := h', toks := t' } :=
  I.write (x := a) (e := a) mu (.inl rfl) (fun b q hb z => (hs.2 b hb).trans z) he new
theorem dk_new {P : Program} {w : World} {H' : Hp} {h' : Heap} {kvs : List (Key × V)} {vs : List (Key × Value)} (z : kvs.length ≤ sizeLine) (hd : (a == sysModules) = false) (rel : KV kvs vs) (dd : h'.DictOf (mixKind P w) a vs) :
    ObjOk P w H' h' a (.dK kvs) := ⟨z, hd, vs, rel, dd⟩
/-- d[y] = v -/
theorem d_setItem {H' : Hp} {Q : Unit → Shared → Prop} (hu : A.units + 1 < cLine) (I : Inv X pins σ H s) (g : DPut H a y v H') (ry : RelV y u) (rv : RelV v r) (h : ∀ s', Inv X pins σ H' s' → Q () s') :
    wpAny (model X.prog X.w) A (setItem (.ref a) u r) Q E s := by
  rcases g with ⟨kvs, k, e, ey, l, eH⟩ | ⟨kvs, k, b, e, ey, eb, l, eH⟩
  · subst ey eH
    obtain ⟨z, hd, vs, rel, dd⟩ := dk_of I.hok e
    have hz : vs.length ≤ sizeLine := by rw [← rel.length]; exact z
    have hl : (putK kvs k v).length ≤ sizeLine := by have := length_putK kvs k v; omega
    refine wpAny_setItem_pairs (hsz := hz) (kV_is ry) dd fun h' dd' hs => h _ ?_
    have he : ∃ q, h'.get? a = some q := let ⟨q, _, _, hq, _⟩ := dd'; ⟨q, hq⟩
    exact d_write I (by rw [e]; exact True.intro) hs he (dk_new hl hd (rel.put k rv) dd')
  · subst ey eH
    cases (show u = Value.ref b from ry)
    obtain ⟨z, hd, xs, rel, dd⟩ := dt_of I.hok e
    have hz : xs.length ≤ sizeLine := by rw [← Paired.length rel]; exact z
    have hl : (putK kvs k v).length ≤ sizeLine := by have := length_putK kvs k v; omega
    refine wpAny_setItem_heap (hsz := hz) (tupleKind_room_in1 hu) (key_of I.hok eb) dd fun h' dd' hs => h _ ?_
    obtain ⟨q, es, ep, hq, h2, h3, h4, _, h5⟩ := dd'
    refine d_write I (by rw [e]; exact True.intro) hs ⟨q, hq⟩ ⟨hl, hd, _, (rel.put k eb rv).keeps fun c ys ec => ?_, q, es, ep, hq, h2, h3, h4, h5⟩
    rw [upd_ne (ne_of ec e (fun z => nomatch z))]
    exact ec
end

section
variable {X : Cx} {pins : List (Addr × Obj)} {σ : St} {H : Hp} {s : Shared} {a : Addr} {kvs : List (Key × V)} {k : Key} {u : Value} {A : Around} {E : Value → Shared → Prop}
end


/-! ### readings and rules -/
/-- the element of a subscription, not a slice -/
def NoSl (i : Expr) : Prop := ∀ ov iv, subscripted i false ov iv = operate [ov, iv] (getItem ov iv)
theorem subD_of {prog : Program} {w : World} {A : Around} {E : Value → Shared → Prop} {s : Shared} {env : Env} {value slice : Expr} {pos : Pos} {T id : String} {Q : Value → Shared → Prop}
    (hl : typeLookup (.type T) "__getitem__" = pure (some (.builtin id))) (hs : NoSl slice)
    (h : wpAny (model prog w) A (eval value env) (fun o s₁ => wpAny (model prog w) A (eval slice env) (fun i s₂ => s₂.TypeIs o T ∧ wpAny (model prog w) A (getItem o i) Q E s₂) E s₁) E s) :
    wpAny (model prog w) A (eval (.Subscript value slice pos) env) Q E s := by
  refine Subscript_ (wpAny_mono h (fun o s₁ h₁ => wpAny_mono h₁ (fun i s₂ h₂ => ?_) fun _ _ x => x) fun _ _ x => x)
  obtain ⟨hT, h₂⟩ := h₂
  unfold subscriptTail
  refine wpAny_bind ?_
  rw [getitemInPython_of_ne hT.not_modules]
  refine wpAny_bind (wpAny_specialOf hT hl ?_)
  have fin : wpAny (model prog w) A (subscripted slice false o i) (fun r s₃ => wpAny (model prog w) A (letTemporaryGo value o r >>= fun _ => pure r) Q E s₃) E s₂ := by
    rw [hs o i]
    exact wpAny_operating (wpAny_mono h₂ (fun r s₃ h₃ => wpAny_bind (wpAny_letTemporaryGo (wpAny_pure h₃))) fun _ _ x => x)
  first
    | exact wpAny_pure (wpAny_bind fin)
    | exact wpAny_bind (wpAny_pure (wpAny_bind fin))
    | exact wpAny_bind fin

theorem dict_typeIs {X : Cx} {pins : List (Addr × Obj)} {σ : St} {H : Hp} {s : Shared} {a : Addr} {y : V} {o : Option V} (I : Inv X pins σ H s) (g : DGet H a y o) : s.TypeIs (.ref a) "dict" := by
  rcases g with ⟨kvs, k, e, _, _⟩ | ⟨kvs, k, b, e, _, _, _⟩
  · obtain ⟨_, _, vs, _, dd⟩ := dk_rd I.hok e
    exact dd.typeIs
  · obtain ⟨_, _, xs, _, dd⟩ := dt_rd I.hok e
    exact dd.typeIs
/-- d[y] -/
def tDGet (td ty : TE) : TE := fun σ H Q => td σ H fun x H1 => ty σ H1 fun y H2 => ∃ a v, x = .ref a ∧ DGet H2 a y (some v) ∧ Q v H2
/-- y in d, y not in d -/
def tDIn (ty td : TE) : TE := fun σ H Q => ty σ H fun y H1 => td σ H1 fun x H2 => ∃ a o, x = .ref a ∧ DGet H2 a y o ∧ Q (.bl o.isSome) H2
def tDNotIn (ty td : TE) : TE := fun σ H Q => ty σ H fun y H1 => td σ H1 fun x H2 => ∃ a o, x = .ref a ∧ DGet H2 a y o ∧ Q (.bl (!o.isSome)) H2
/-- d[y] = v -/
def sDPut (td ty tv : TE) : TS := fun D σ H => tv σ H fun v H1 => td σ H1 fun x H2 => ty σ H2 fun y H3 => ∃ a H4, x = .ref a ∧ DPut H3 a y v H4 ∧ D.nx σ H4
/-- d[y] op= v -/
def sDAug (td ty tv : TE) (rd : V → V → Hp → VK → Prop) : TS := fun D σ H => td σ H fun x H1 => ty σ H1 fun y H2 => ∃ a v, x = .ref a ∧ DGet H2 a y (some v) ∧
  tv σ H2 fun y2 H3 => rd v y2 H3 fun z H4 => ∃ H5, DPut H4 a y z H5 ∧ D.nx σ H5
/-- del d[y] -/
def sDDel (td ty : TE) : TS := fun D σ H => td σ H fun x H1 => ty σ H1 fun y H2 => ∃ a kvs k, x = .ref a ∧ H2 a = some (.dK kvs) ∧ y = kV k ∧ (valV kvs k).isSome = true ∧ D.nx σ (upd H2 a (.dK (dropK kvs k)))

section
variable {X : Cx} {o i e value : Expr} {pos pos' tpos : Pos} {td ty tv : TE}
theorem pe_dget (hu : X.A.units + 1 < cLine) (ho : PE X o td) (hi : PE X i ty) (hs : NoSl i) : PE X (.Subscript o i pos) (tDGet td ty) := by
  intro pins s σ H Q I h
  refine subD_of PySem.F.slot_dict_getitem.lookup hs (thn (ho pins s σ H _ I h) fun u s1 ⟨x, H1, I1, rx, q1⟩ => thn (hi pins s1 σ H1 _ I1 q1) fun iv s2 ⟨y, H2, I2, ry, a, v, ex, g, q2⟩ => ?_)
  subst ex
  obtain rfl : u = Value.ref a := rx
  exact ⟨dict_typeIs I2 g, d_getItem hu I2 g ry fun w' s3 I3 rw' => ⟨v, H2, I3, rw', q2⟩⟩
theorem pc_dnotin (hu : X.A.units + 1 < cLine) (hi : PE X i ty) (ho : PE X o td) : PC X .NotIn i o (tDNotIn ty td) := by
  intro pins s σ H Q I h
  refine thn (hi pins s σ H _ I h) fun iv s1 ⟨y, H1, I1, ry, q1⟩ => thn (ho pins s1 σ H1 _ I1 q1) fun u s2 ⟨x, H2, I2, rx, a, ov, ex, g, q2⟩ => ?_
  subst ex
  obtain rfl : u = Value.ref a := rx
  exact d_notIn hu I2 g ry fun s3 I3 => ⟨.bl (!ov.isSome), H2, I3, rfl, q2⟩
theorem ps_dput (hu : X.A.units + 1 < cLine) (ho : PE X o td) (hi : PE X i ty) (hv : PE X value tv) (hs : swapsWith value (some (.Subscript o i pos')) pos.line X.env = pure false) :
    PS X (.Assign [.Subscript o i pos'] value pos) (sDPut td ty tv) := by
  intro pins s σ H D I h
  refine wpAny_Assign_Subscript (thn (hv pins s σ H _ I h) fun r s1 ⟨v, H1, I1, rv, q1⟩ => thn (ho pins s1 σ H1 _ I1 q1) fun u s2 ⟨x, H2, I2, rx, q2⟩ => thn (hi pins s2 σ H2 _ I2 q2) fun iv s3 ⟨y, H3, I3, ry, a, H4, ex, g, q3⟩ => ?_) hs
  subst ex
  obtain rfl : u = Value.ref a := rx
  exact d_setItem hu I3 g ry rv fun s4 I4 => ⟨σ, H4, I4, q3⟩
end


/-! ### displays -/
theorem dk_empty {P : Program} {w : World} {H : Hp} (h : Heap) (hb : sysModules < h.objs.size) : ObjOk P w H (h.push { cls := .type "dict", data := .dict #[] }) h.objs.size (.dK []) :=
  ⟨Nat.zero_le _, beq_eq_false_iff_ne.mpr (Ne.symm (Nat.ne_of_lt hb)), [], .nil, Heap.DictOf.new h⟩
/-- {}, to be a dict of the kind that is wanted -/
def tDNewK : TE := fun _ H Q => ∀ p, H p = none → Q (.ref p) (upd H p (.dK []))
def tDNewT : TE := fun _ H Q => ∀ p, H p = none → Q (.ref p) (upd H p (.dT []))
section
variable {X : Cx} {pos : Pos}
theorem pe_dnewK : PE X (.Dict [] [] pos) tDNewK := fun pins s σ H Q I h =>
  wpAny_Dict_empty ⟨.ref s.heap.objs.size, _, I.laid (a := s.heap.objs.size) (o := .dK []) (t' := s.toks) (fun _ _ q => Heap.get?_push_of_some _ q) (Nat.le_refl _) (dk_empty s.heap I.big), rfl, h _ (I.hok.fresh (Nat.le_refl _))⟩
end

/-- the pairs of a display, from the left -/
def tPairs : List (TE × TE) → St → Hp → (List (V × V) → Hp → Prop) → Prop
  | [], _, H, Q => Q [] H
  | (tk, tv) :: r, σ, H, Q => tk σ H fun x H1 => tv σ H1 fun y H2 => tPairs r σ H2 fun ps H3 => Q ((x, y) :: ps) H3
abbrev VV : List (V × V) → List (Value × Value) → Prop := Paired fun p q => RelV p.1 q.1 ∧ RelV p.2 q.2
def PPs (X : Cx) (pos : Pos) (keys : List (Option Expr)) (values : List Expr) (trs : List (TE × TE)) : Prop :=
  ∀ (pins : List (Addr × Obj)) (s : Shared) (σ : St) (H : Hp) (Q : List (V × V) → Hp → Prop), Inv X pins σ H s → tPairs trs σ H Q →
    wpAny (model X.prog X.w) X.A (evalPairs (pairTrees keys values X.env pos)) (fun vs s' => ∃ ps H', Inv X pins σ H' s' ∧ VV ps vs ∧ Q ps H') X.xe s
def mergeK (kvs more : List (Key × V)) : List (Key × V) := more.foldl (fun acc kv => putK acc kv.1 kv.2) kvs
/-- {k: v, ..} with keys ints and texts; the new dict stands empty while the pairs are made -/
def tDisp (trs : List (TE × TE)) : TE := fun σ H Q => ∀ p, H p = none → tPairs trs σ (upd H p (.dK [])) fun ps H2 => H2 p = some (.dK []) ∧ ∃ kvs : List (Key × V), ps = kvs.map (fun kv => (kV kv.1, kv.2)) ∧ kvs.length ≤ 15 ∧ Q (.ref p) (upd H2 p (.dK (mergeK [] kvs)))
/-! ### methods -/
/-- a method call o.m(e) of a built-in, with one argument: what must be seen of the text -/
structure M1 (X : Cx) (o : Expr) (m : Str) (apos : Pos) (e : Expr) (cpos : Pos) : Prop where
  base : attributeBase o m X.env (eval o X.env) = eval o X.env
  few : ((backTo cpos (starEach [e] X.env)).all (fun x => !x.1) && (backToKw cpos (keywordEach [] X.env)).all (fun x => x.1.isSome)
    && decide (([e] : List Expr).length + ([] : List Keyword).length + (if ([] : List Keyword).isEmpty then 0 else 1) < 30)) = true
  line : (apos.endLine == cpos.line) = true
  trees : backTo cpos (starEach [e] X.env) = [(false, eval e X.env)]
structure M2 (X : Cx) (o : Expr) (m : Str) (apos : Pos) (e f : Expr) (cpos : Pos) : Prop where
  base : attributeBase o m X.env (eval o X.env) = eval o X.env
  few : ((backTo cpos (starEach [e, f] X.env)).all (fun x => !x.1) && (backToKw cpos (keywordEach [] X.env)).all (fun x => x.1.isSome)
    && decide (([e, f] : List Expr).length + ([] : List Keyword).length + (if ([] : List Keyword).isEmpty then 0 else 1) < 30)) = true
  line : (apos.endLine == cpos.line) = true
  trees : backTo cpos (starEach [e, f] X.env) = [(false, eval e X.env), (false, eval f X.env)]

/-- a is a dict, whatever its keys -/
def IsD (H : Hp) (a : Addr) : Prop := (∃ kvs, Rd H a (.dK kvs)) ∨ ∃ kvs, Rd H a (.dT kvs)
section
variable {X : Cx} {pins : List (Addr × Obj)} {σ : St} {H : Hp} {s : Shared} {a : Addr} {y d : V} {u r : Value} {o : Option V} {A : Around} {E : Value → Shared → Prop}
end

def tDGet1 (td ty : TE) : TE := fun σ H Q => td σ H fun x H1 => ∃ a, x = .ref a ∧ IsD H1 a ∧ ty σ H1 fun y H2 => ∃ o, DGet H2 a y o ∧ Q (o.getD .non) H2
def tDGet2 (td ty tx : TE) : TE := fun σ H Q => td σ H fun x H1 => ∃ a, x = .ref a ∧ IsD H1 a ∧ ty σ H1 fun y H2 => tx σ H2 fun z H3 => ∃ o, DGet H3 a y o ∧ Q (o.getD z) H3
/-- d.pop(k): there; d.pop(k, x): there or not -/
def tDPop1 (td ty : TE) : TE := fun σ H Q => td σ H fun x H1 => ∃ a, x = .ref a ∧ IsD H1 a ∧ ty σ H1 fun y H2 => ∃ kvs k v, H2 a = some (.dK kvs) ∧ y = kV k ∧ valV kvs k = some v ∧ Q v (upd H2 a (.dK (dropK kvs k)))
def tDPop2 (td ty tx : TE) : TE := fun σ H Q => td σ H fun x H1 => ∃ a, x = .ref a ∧ IsD H1 a ∧ ty σ H1 fun y H2 => tx σ H2 fun z H3 => ∃ kvs k, H3 a = some (.dK kvs) ∧ y = kV k ∧
  (∀ v, valV kvs k = some v → Q v (upd H3 a (.dK (dropK kvs k)))) ∧ (valV kvs k = none → Q z H3)
section
variable {X : Cx} {o e f : Expr} {apos cpos : Pos} {td ty tx : TE}
end

/-! ### dict(d): a copy -/
section
variable {X : Cx} {pins : List (Addr × Obj)} {σ : St} {H : Hp} {s : Shared} {a : Addr} {kvs : List (Key × V)} {A : Around} {E : Value → Shared → Prop}
end


section
variable {X : Cx} {pins : List (Addr × Obj)} {σ : St} {H : Hp} {s : Shared} {a : Addr} {y : V} {u : Value} {A : Around} {E : Value → Shared → Prop}
end
end L2
namespace L2
open PySem
/-! two tuples of the same flat items are not unlike -/
section
variable {X : Cx}
end
end L2

namespace L2
open PySem
/-! two lists of the same flat items are alike -/
section
variable {X : Cx}
end
end L2

namespace So
open PySem PyProof.Rows
set_option maxRecDepth 100000
section
variable {prog : Program} {w : World} {A : Around} {E : Value → Shared → Prop} {s : Shared}
end
end So
namespace L2
open PySem PySem.Spec PyProof.Rows
section
variable {X : Cx}
/-- sorted(a), a a list or a tuple of fewer than 64 ints -/
def rSorted (K : PySem.W.Frag) (le : Int → Int → Prop) : List V → Hp → VK → Prop := fun xs H Q => ∃ (p : Addr) (ns : List Int), xs = [.ref p] ∧ (SqL K H p (ns.map V.int) ∨ SqT K H p (ns.map V.int)) ∧ ns.length < 64 ∧ ∀ (q : Addr) (rs : List Int), H q = none → rs.Perm ns → rs.Pairwise le → Q (.ref q) (upd H q (.lst (rs.map V.int)))
/-- sorted(a, reverse=True) -/
def tSortR (K : PySem.W.Frag) (t : TA) : TE := fun σ H Q => t σ H fun vs H1 => rSorted K (· ≥ ·) vs H1 Q
end
/-! a sorted row of the numbers of rooms -/
end L2

namespace So
open PySem PyProof.Rows
set_option maxRecDepth 100000
theorem hasLenD : typeLookup (.type "dict") "__len__" = pure (some (.builtin "dict.__len__")) := by rw [typeLookup_type, builtinLookup_eq_fast]; kernel_rfl
theorem ints_at_all : ∀ {vs : List Value} {ns : List Int}, vs.length = ns.length → (∀ (i : Nat) (n : Int), ns[i]? = some n → ∃ t, vs[i]? = some (Value.int n t)) → IntsAre vs ns
  | [], [], _, _ => .nil
  | [], n :: ns, h, _ => by simp at h
  | v :: vs, [], h, _ => by simp at h
  | v :: vs, n :: ns, h, k => by
    obtain ⟨t, ht⟩ := k 0 n rfl
    have e : v = Value.int n t := by simpa using ht
    subst e
    exact .cons n t (ints_at_all (by simpa using h) fun i m hi => by simpa using k (i + 1) m (by simpa using hi))
section
variable {prog : Program} {w : World} {A : Around} {E : Value → Shared → Prop} {s : Shared} {a : Addr}
/-- the keys of a dict of int keys, collected -/
theorem collectDict {kvs : List (L2.Key × Value)} {ns : List Int} {Q : List Value → Shared → Prop} (hh : A.handled = none) (hd : (a == sysModules) = false) (hD : s.heap.DictOf (L2.mixKind prog w) a kvs) (hk : kvs.map (·.1) = ns.map Sum.inl) (hn : ns.length ≤ 1000)
    (fin : ∀ (h' : Heap) (vs : List Value) (tk : Nat), IntsAre vs ns → (∀ b o, s.heap.get? b = some o → h'.get? b = some o) → Q vs { s with heap := h', toks := tk }) :
    wpAny (model prog w) A (collect (.ref a)) Q E s := by
  have lk : kvs.length = ns.length := by
    have := congrArg List.length hk
    simpa using this
  obtain ⟨o, es, ep, ho, rest⟩ := hD
  have hc := rest.1
  have la : a < s.heap.objs.size := Heap.lt_size ho
  have hA : s.heap.DictAt (L2.mixKind prog w) a kvs ep := ⟨o, es, ho, rest⟩
  unfold collect; refine wpAny_bind (wpAny_runValue (codeAny_builtin F.entry_proto_collect ?_)); rw [Around.under_plainId F.plain_proto_collect _]
  show wpAny _ A.in1 (newList [] >>= fun l => again (.builtin "list.__iadd__" ⟨[l, .ref a], []⟩)) _ _ s; refine wpAny_bind (wpAny_newObj_type ?_)
  refine wpAny_pure ⟨plainId_quiet F.plain_list_iadd _, codeAny_builtin F.entry_list_iadd ?_⟩; rw [Around.under_plainId F.plain_list_iadd _]
  have g0 : (s.heap.push { cls := .type "list", data := .seq ([] : List Value).toArray }).get? s.heap.objs.size = some { cls := .type "list", data := .seq ([] : List Value).toArray } := Heap.get?_push_size s.heap rfl
  have other : Builtin.List.listSameRef (.ref s.heap.objs.size) (.ref a) = false := by simp [Builtin.List.listSameRef]; exact Nat.ne_of_gt la
  have hA1 := hA.at' (h' := s.heap.push { cls := .type "list", data := .seq ([] : List Value).toArray }) fun o e => Heap.get?_push_of_some _ e
  have ty1 : Shared.TypeIs { s with heap := s.heap.push { cls := .type "list", data := .seq ([] : List Value).toArray } } (.ref a) "dict" := hA1.dictOf.typeIs
  show wpAny _ A.in1 (Builtin.List.listExtendWith (.ref s.heap.objs.size) (.ref a) (.ref s.heap.objs.size)) _ _ _; unfold Builtin.List.listExtendWith
  refine wpAny_bind (wpAny_typeOf ty1 ?_); rw [if_neg (by rw [other]; decide)]
  refine wpAny_bind (wpAny_pyIter_dict hd hA1 ?_)
  generalize eo : ({ cls := .type "dict_keyiterator", data := .fields #[.ref a, .int 0 0, .int kvs.length 0, .int ep 0] } : Obj) = oi
  generalize eh : (s.heap.push { cls := .type "list", data := .seq ([] : List Value).toArray }).push oi = h2
  have sz1 : (s.heap.push { cls := .type "list", data := .seq ([] : List Value).toArray }).objs.size = s.heap.objs.size + 1 := Heap.size_push _ _
  have keep2 : ∀ b ob, (s.heap.push { cls := .type "list", data := .seq ([] : List Value).toArray }).get? b = some ob → h2.get? b = some ob := fun b ob e => by
    rw [← eh]
    exact Heap.get?_push_of_some _ e
  have gI : h2.get? (s.heap.push { cls := .type "list", data := .seq ([] : List Value).toArray }).objs.size = some oi := by
    rw [← eh, ← eo]
    exact Heap.get?_push_size _ rfl
  rw [show (s.heap.push { cls := .type "list", data := .seq ([] : List Value).toArray }).objs.size = s.heap.objs.size + 1 from sz1] at gI ⊢
  have g2 := keep2 _ _ g0
  have hA2 := hA1.at' (h' := h2) fun o e => keep2 _ _ e
  have ty2 : Shared.TypeIs { s with heap := h2 } (.ref a) "dict" := hA2.dictOf.typeIs
  refine wpAny_bind (wpAny_holding ?_); unfold Builtin.List.listLengthHint
  refine wpAny_bind (wpAny_specialOf ty2 hasLenD ?_)
  (generalize hid : ("dict.__len__" : String) = id0; (fail_if_success (clear hid id0)); wp_delta; rw [show splitId id0 = some ("dict", "__len__") from by subst hid; decide +kernel])
  refine wpAny_bind (wpAny_isInstance (b := true) ty2 (by rw [isSubtype_type]; kernel_rfl) ?_)
  subst hid
  show wpAny _ A.in1 (typeOf (.ref a) >>= _) _ _ _
  refine wpAny_bind (wpAny_typeOf ty2 ?_)
  refine wpAny_pure ?_
  rw [if_pos (by decide)]
  refine wpAny_bind (wpAny_rule (wpAny_bind ?_))
  show wpAny _ A.in1 (updateSeq s.heap.objs.size (·.push .none) >>= fun _ => updateSeq s.heap.objs.size (·.pop)) _ _ _; refine wpAny_bind (wpAny_updateSeq g2 rfl ?_)
  have g3 := Heap.get?_update_self (Obj.mapSeq (·.push Value.none)) g2 rfl
  refine wpAny_updateSeq g3 rfl ?_
  have g4 := Heap.get?_update_self (Obj.mapSeq (·.pop)) g3 rfl
  have keep4 : ∀ b ob, b ≠ s.heap.objs.size → h2.get? b = some ob → ((h2.update s.heap.objs.size (Obj.mapSeq (·.push Value.none))).update s.heap.objs.size (Obj.mapSeq (·.pop))).get? b = some ob := fun b ob hb e => (Heap.get?_update_other _ _ (Ne.symm hb)).trans ((Heap.get?_update_other _ _ (Ne.symm hb)).trans e)
  have newF : s.heap.objs.size ∉ [s.heap.objs.size + 1, a] := by
    simp only [List.mem_cons, List.not_mem_nil, or_false, not_or]
    exact ⟨by omega, Nat.ne_of_gt la⟩
  have W := (Walks.dictKeys (prog := prog) (w := w) (knd := L2.mixKind prog w) (A := A.in1) (by simp [hh]) (s.heap.objs.size + 1) a (Nat.ne_of_lt (Nat.lt_succ_of_lt la)) kvs ep).toS
  have it2 : h2.IsKeyIter (s.heap.objs.size + 1) a 0 kvs.length ep := ⟨oi, gI, by rw [← eo], by rw [← eo]; rfl⟩
  have st4 := W.frame 0 { s with heap := h2 } ((h2.update s.heap.objs.size (Obj.mapSeq (·.push Value.none))).update s.heap.objs.size (Obj.mapSeq (·.pop))) s.toks ⟨it2, hA2⟩ (Nat.le_refl _) fun b hb ob e => keep4 b ob (fun z => newF (z ▸ hb)) e
  refine wpAny_pure ⟨plainId_quiet F.plain_extend_loop _, codeAny_extend_loopS W (by rw [lk, sizeLine_eq]; omega) _ newF _ kvs.length 0 _ _ _ rfl (Nat.zero_le _) st4 g4 (ItemsOf.nil _) fun s' acc' c' hm hS' hacc => ?_⟩
  show wpAny _ A (load s.heap.objs.size >>= _) _ _ s'; refine wpAny_bind (wpAny_load hS' ?_)
  have e1 : s'.gens = s.gens := hm.gens
  have e2 : s'.drawn = s.drawn := hm.drawn
  have e3 : s'.os = s.os := hm.os
  obtain ⟨h', g', d', tk', os'⟩ := s'
  have e1' : g' = s.gens := e1
  have e2' : d' = s.drawn := e2
  have e3' : os' = s.os := e3
  subst e1' e2' e3'
  refine wpAny_pure ?_
  refine fin h' acc'.toList tk' (ints_at_all (by rw [Array.length_toList, hacc.1, lk]) fun i n hi => ?_) fun b ob e => ?_
  · have li : i < acc'.size := by
      have := (List.getElem?_eq_some_iff.mp hi).1
      rw [hacc.1, lk]
      exact this
    obtain ⟨k, x, hx, his⟩ := hacc.2 i acc'[i] (by simp [li])
    have hk' : (kvs.map (·.1))[i]? = some k := by rw [List.getElem?_map, hx]; rfl
    rw [hk, List.getElem?_map, hi] at hk'
    have ek : Sum.inl n = k := Option.some.inj hk'
    subst ek
    obtain ⟨tk, e5⟩ := Value.isInt_shape (k := n) (v := acc'[i]) his
    exact ⟨tk, by simp [li, e5]⟩
  · have lb : b < s.heap.objs.size := Heap.lt_size e
    refine hm.heap b ob ?_ (keep4 b ob (Nat.ne_of_lt lb) (keep2 b ob (Heap.get?_push_of_some _ e)))
    simp only [List.mem_cons, List.not_mem_nil, or_false, not_or]
    exact ⟨Nat.ne_of_lt lb, Nat.ne_of_lt (Nat.lt_succ_of_lt lb)⟩
theorem sortedDict {kvs : List (L2.Key × Value)} {ns : List Int} {Q : Value → Shared → Prop} (hh : A.handled = none) (hd : (a == sysModules) = false) (hD : s.heap.DictOf (L2.mixKind prog w) a kvs) (hk : kvs.map (·.1) = ns.map Sum.inl) (h64 : ns.length < 64)
    (fin : ∀ (h1 h' : Heap) (tk : Nat) (q : Addr) (out : Array Value) (rs : List Int) (e : Nat), IntsAre out.toList rs → rs.Perm ns → rs.Pairwise (· ≤ ·) → h1.objs.size ≤ q → h'.get? q = some (seqObj "list" out e) → (∀ b o, s.heap.get? b = some o → h1.get? b = some o) → (∀ b o, h1.get? b = some o → h'.get? b = some o) → Q (.ref q) { s with heap := h', toks := tk }) :
    wpAny (model prog w) A (call (.builtin "sorted") [.ref a]) Q E s := by
  refine Calls.call_function_entry kind_sorted plain_sorted entry_sorted (args_sorted1 _) ?_
  unfold Builtin.«sorted»
  refine wpAny_bind (m := checkCount "sorted" 1 1 _) (wpAny_pure ?_)
  refine wpAny_bind (collectDict (by first | exact hh | simp [hh]) hd hD hk (by omega) fun h1 vs tk i1 k1 => ?_)
  have hl := i1.length
  refine wpAny_bind (wpAny_newList ?_ (by rw [hl, sizeLine_eq]; omega))
  have g1 : (h1.push (seqObj "list" vs.toArray 0)).get? h1.objs.size = some (seqObj "list" vs.toArray 0) := Heap.get?_push_size _ rfl
  refine wpAny_bind (wpAny_holding (wpAny_call_entry slot_list_sort ⟨_, g1, rfl⟩ entry_list_sort (list_sort_tree (s := { s with heap := h1.push (seqObj "list" vs.toArray 0), toks := tk }) g1 i1 (by omega) fun out ns' a1 a2 a3 => ⟨_, rfl, ?_⟩) (args_list_sort _)))
  obtain ⟨e, he⟩ := sortedHeap_at (out := out) g1
  refine wpAny_pure ⟨_, rfl, fin h1 _ tk h1.objs.size out ns' e a1 a2 a3 (Nat.le_refl _) he k1 fun b ob hb => ?_⟩
  have lb : b < h1.objs.size := Heap.lt_size hb
  rw [sortedHeap_old (Nat.ne_of_lt lb) (by rw [Heap.size_push]; exact Nat.lt_succ_of_lt lb)]
  exact Heap.get?_push_of_some _ hb
end
end So
namespace L2
open PySem PySem.Spec PyProof.Rows
section
variable {X : Cx}
/-- sorted(d), d a dict with fewer than 64 int keys -/
def rSortedD : List V → Hp → VK → Prop := fun xs H Q => ∃ (p : Addr) (kvs : List (Key × V)) (ns : List Int), xs = [.ref p] ∧ H p = some (.dK kvs) ∧ kvs.map (·.1) = ns.map Sum.inl ∧ ns.length < 64 ∧ ∀ (q : Addr) (rs : List Int), H q = none → ns.Nodup → rs.Perm ns → rs.Pairwise (· ≤ ·) → Q (.ref q) (upd H q (.lst (rs.map V.int)))
theorem call_sortedD (hca : X.calm = true) : CallR X (.builtin "sorted") rSortedD := by
  intro pins s σ H xs us Q I r h
  obtain ⟨p, kvs, ns, rfl, hq, hk, h64, q⟩ := h
  obtain ⟨u, rfl, rx⟩ := vals1 r
  cases rx
  obtain ⟨z, hd, vs, rel, dd⟩ := dk_of I.hok hq
  have hk' : vs.map (·.1) = ns.map Sum.inl := by rw [← rel.keys, hk]
  have nd : ns.Nodup := by
    obtain ⟨ep, hA⟩ := dd.dictAt
    have h1 := hA.nodup
    rw [hk'] at h1
    exact (List.pairwise_map.mp h1).imp fun z e => z (by rw [e])
  refine So.sortedDict (I.ok.hd hca) hd dd hk' h64 fun h1 h' tk q' out rs e i1 i2 i3 i4 i5 i6 i7 => ?_
  have J : Inv X pins σ H { s with heap := h1 } := I.kept (t' := s.toks) i6
  have lr := i2.length_eq
  have i5' : h'.get? q' = some { cls := .type "list", data := .seq out.toList.toArray e } := by
    rw [i5]
  exact ⟨.ref q', _, J.laid (h' := h') (t' := tk) (o := .lst (rs.map V.int)) i7 i4 ⟨by rw [List.length_map]; exact small_le (by omega), out.toList, e, vals_ints i1, i5'⟩, rfl, q q' rs (J.hok.fresh i4) nd i2 i3⟩
end
end L2

namespace PySem
open Sem (wp)
open AutoSeq1 (wpAny_loadPart')
set_option maxRecDepth 100000
/-! enumerate over a tuple -/
section
variable {prog : Program} {w : World} {A : Around} {E : Value → Shared → Prop} {s : Shared}
theorem nextTup_item {q tt : Addr} {i : Nat} {vs : Array Value} {x : Value} {Q : Value → Shared → Prop} (g : s.heap.IsTupleIter q tt i) (gt : s.heap.IsTuple tt vs) (gx : vs[i]? = some x)
    (hQ : ∀ h', h'.IsTupleIter q tt (i + 1) → Heap.SameBut q s.heap h' → Q x { s with heap := h' }) : wpAny (model prog w) A (Builtin.SmallTypes.nextOf (.ref q)) Q E s := by
  obtain ⟨ob, go, gc, gd⟩ := id g
  obtain ⟨ot, got, _, nt, gdt⟩ := gt
  unfold Builtin.SmallTypes.nextOf
  refine wpAny_bind (wpAny_callSpecial?_slot (name := Str.ofString "__next__") g.typeIs F.slot_tuple_iterator_next (wpAny_call_entry F.slot_tuple_iterator_next g.typeIs F.entry_tuple_iterator_next ?_ (F.args_tuple_iterator_next_1 _)))
  show wpAny _ _ (field (.ref q) 0 >>= _) _ _ s
  refine wpAny_bind (wpAny_field go gd (x := .ref tt) rfl ?_)
  show wpAny _ _ (if (Value.ref tt == Value.none) = true then _ else _) _ _ s
  rw [if_neg (show ¬ ((Value.ref tt == Value.none) = true) from Bool.false_ne_true)]
  show wpAny _ _ (field (.ref q) 1 >>= _) _ _ s
  refine wpAny_bind (wpAny_field go gd (x := .int i 0) rfl ?_)
  show wpAny _ _ (seqItems? (.ref tt) >>= _) _ _ s
  refine wpAny_bind (wpAny_seqItems got gdt ?_)
  simp only [Int.toNat_natCast, gx]
  refine wpAny_bind (wpAny_setField go gd (by simp) (wpAny_pure ⟨x, rfl, wpAny_pure (hQ _ ?_ (Heap.SameBut.update ..))⟩))
  exact ⟨_, Heap.get?_update_self _ go (Obj.isFreed_of_fields (Obj.data_mapFields gd _)), (Obj.cls_mapFields ..).trans gc, by rw [Obj.data_mapFields gd]; simp [rawInt]⟩
theorem nextTup_end {q tt : Addr} {i : Nat} {vs : Array Value} {Q : Value → Shared → Prop} (hh : A.handled = none) (g : s.heap.IsTupleIter q tt i) (gt : s.heap.IsTuple tt vs) (gx : vs[i]? = none)
    (hE : ∀ h' e, Heap.ExtBut q s.heap h' → (∃ o, h'.get? e = some o ∧ o.cls = .type "StopIteration") → E (.ref e) { s with heap := h' }) : wpAny (model prog w) A (Builtin.SmallTypes.nextOf (.ref q)) Q E s := by
  obtain ⟨ob, go, gc, gd⟩ := id g
  obtain ⟨ot, got, _, nt, gdt⟩ := gt
  unfold Builtin.SmallTypes.nextOf
  refine wpAny_bind (wpAny_callSpecial?_slot (name := Str.ofString "__next__") g.typeIs F.slot_tuple_iterator_next (wpAny_call_entry F.slot_tuple_iterator_next g.typeIs F.entry_tuple_iterator_next ?_ (F.args_tuple_iterator_next_1 _)))
  show wpAny _ _ (field (.ref q) 0 >>= _) _ _ s
  refine wpAny_bind (wpAny_field go gd (x := .ref tt) rfl ?_)
  show wpAny _ _ (if (Value.ref tt == Value.none) = true then _ else _) _ _ s
  rw [if_neg (show ¬ ((Value.ref tt == Value.none) = true) from Bool.false_ne_true)]
  show wpAny _ _ (field (.ref q) 1 >>= _) _ _ s
  refine wpAny_bind (wpAny_field go gd (x := .int i 0) rfl ?_)
  show wpAny _ _ (seqItems? (.ref tt) >>= _) _ _ s
  refine wpAny_bind (wpAny_seqItems got gdt ?_)
  simp only [Int.toNat_natCast, gx]
  refine wpAny_bind (wpAny_rule (wpAny_bind (wpAny_setField go gd (by simp) ?_)))
  show wpAny _ _ ((newExc (.type "StopIteration") []) >>= _) _ _ _
  refine wpAny_bind ?_
  simp only [newExc, newTuple]
  refine (wpAny_bind (wpAny_newObj_type ?_ (by size_fits)))
  refine (wpAny_bind (m := firstArgMember _ _) (wpAny_of_eq (a := Value.none) (by first | rfl | (simp only [firstArgMember]; rfl)) ?_))
  refine (wpAny_newObj_type ?_ (by size_fits))
  simp only [raiseNew]
  refine wpAny_bind (wpAny_handled ?_)
  (first | rw [show A.in1.handled = none from hh] | rw [hh])
  refine (wpAny_bind (wpAny_pure (wpAny_throw ?_)))
  exact (hE _ _ (((Heap.SameBut.update ..).extBut.push _).push _) ⟨_, Heap.get?_push_size _ rfl, rfl⟩)
end
theorem drawsTup {prog : Program} {w : World} {A : Around} (hh : A.handled = none) (q tt : Addr) (hne : tt ≠ q) (vs : Array Value) :
    Draws prog w A q [q, tt] vs.size (fun i v => vs[i]? = some v) (fun i h => h.IsTupleIter q tt i ∧ h.IsTuple tt vs) where
  live := fun _ _ st => let ⟨o, ho, _⟩ := st.1; ⟨o, ho⟩
  frame := fun _ _ _ st hk => ⟨st.1.at fun o e => hk q (by simp) o e, st.2.at fun o e => hk tt (by simp) o e⟩
  item := fun i s Q E hi st hQ => by
    refine nextTup_item st.1 st.2 (x := vs[i]) (by simp [hi]) fun h' hit' hs' => ?_
    exact hQ _ h' s.toks (by simp [hi]) ⟨hit', st.2.extBut hs'.extBut hne⟩ hs'
  done := fun s Q E st hE => nextTup_end hh st.1 st.2 (by simp) hE
theorem enumNewT (l : Addr) (vs : Array Value) (n : Nat) (dct : Option Addr) (sl : Array (Option Value)) :
    Meets (Builtin.«enumerate.__new__» ⟨[.type "enumerate", .ref l], []⟩) (fun _ R s => s.heap.get? l = some { cls := .type "tuple", dict := dct, data := .seq vs n, slots := sl } ∧
      R (.ok (.ret (.ref (s.heap.push { cls := .type "tuple_iterator", data := .fields #[.ref l, .int 0 0] }).objs.size)))
        { s with heap := (s.heap.push { cls := .type "tuple_iterator", data := .fields #[.ref l, .int 0 0] }).push { cls := .type "enumerate", data := .fields #[.none, .bool false, .ref s.heap.objs.size, rawInt 0, .none, .none] } }) :=
  .of_wp fun prog w A R s h => by
    obtain ⟨hp, g, d, tk, os⟩ := s
    obtain ⟨hl, h⟩ := h
    have hsub := sub_enumerate
    have hL : Heap.IsTuple (Shared.heap ⟨hp, g, d, tk, os⟩) l vs := ⟨_, hl, rfl, n, rfl⟩
    wp_walk using wpAny_loadPart' hl
    refine wpAny_stack_any fun st => wpAny_pure ?_
    split
    · rename_i c _ _ _ _ _
      cases (c == Value.type "enumerate")
      · wp_walk using wpAny_loadPart' hl, wpAny_pyIter_tuple hL
        exact ⟨_, rfl, h⟩
      · wp_walk using wpAny_loadPart' hl, wpAny_pyIter_tuple hL
        exact ⟨_, rfl, h⟩
    · wp_walk using wpAny_loadPart' hl, wpAny_pyIter_tuple hL
      exact ⟨_, rfl, h⟩
theorem callEnumT {prog : Program} {w : World} {A : Around} {E : Value → Shared → Prop} {s : Shared} {l : Addr} {vs : Array Value} {Q : Value → Shared → Prop} (hL : s.heap.IsTuple l vs)
    (h : ∀ h', IsEnum h' (s.heap.objs.size + 1) s.heap.objs.size 0 .none → h'.IsTupleIter s.heap.objs.size l 0 → h'.objs.size = s.heap.objs.size + 2 →
      (∀ b o, s.heap.get? b = some o → h'.get? b = some o) → Q (.ref (s.heap.objs.size + 1)) { s with heap := h' }) :
    wpAny (model prog w) A (call (.type "enumerate") [.ref l]) Q E s := by
  obtain ⟨⟨c, dct, dt, sl⟩, hl, hc, n, hd⟩ := hL
  replace hc : c = .type "tuple" := hc
  replace hd : dt = .seq vs n := hd
  subst hc hd
  refine callType_new F.called_enumerate (by decide) (F.typeCall_enumerate_1 _) (F.newCall_enumerate_1 _) (fun obj => F.args_object_init_2 obj _) F.entry_enumerate_new (enumNewT l vs n dct sl) ⟨hl, ?_⟩
  have hz : (s.heap.push { cls := .type "tuple_iterator", data := .fields #[.ref l, .int 0 0] }).objs.size = s.heap.objs.size + 1 := Heap.size_push ..
  show _ ∧ _
  rw [hz]
  have he : IsEnum ((s.heap.push { cls := .type "tuple_iterator", data := .fields #[.ref l, .int 0 0] }).push
      { cls := .type "enumerate", data := .fields #[.none, .bool false, .ref s.heap.objs.size, rawInt 0, .none, .none] }) (s.heap.objs.size + 1) s.heap.objs.size 0 .none := by
    have := Heap.get?_push_size (s.heap.push { cls := .type "tuple_iterator", data := .fields #[.ref l, .int 0 0] })
      (o := { cls := .type "enumerate", data := .fields #[.none, .bool false, .ref s.heap.objs.size, rawInt 0, .none, .none] }) rfl
    rw [hz] at this
    exact this
  exact ⟨⟨_, he, rfl⟩, h _ he ⟨_, Heap.get?_push_of_some _ (Heap.get?_push_size _ rfl), rfl, rfl⟩ (by rw [Heap.size_push, hz]) fun b o x => Heap.get?_push_of_some _ (Heap.get?_push_of_some _ x)⟩
theorem enumEndT {prog : Program} {w : World} {A : Around} {E : Value → Shared → Prop} {s : Shared} {e q tt : Addr} {vs : Array Value} {i : Nat} {j : Int} {old : Value} {Q : Option Value → Shared → Prop} (hh : A.handled = none) (he : IsEnum s.heap e q j old) (g : s.heap.IsTupleIter q tt i) (gt : s.heap.IsTuple tt vs) (gx : vs[i]? = none)
    (hQ : ∀ h', Heap.ExtBut q s.heap h' → Q none { s with heap := h' }) : wpAny (model prog w) A (pyNext (.ref e)) Q E s := by
  have hT : s.TypeIs (.ref e) "enumerate" := ⟨_, he, rfl⟩
  unfold pyNext
  refine wpAny_bind (wpAny_attempt (wpAny_callSpecial?_slot (name := Str.ofString "__next__") hT F.slot_enumerate_next (wpAny_call_entry F.slot_enumerate_next hT F.entry_enumerate_next ?_ (F.args_enumerate_next_1 _))))
  show wpAny _ _ (field (.ref e) 2 >>= _) _ _ _
  refine wpAny_bind (wpAny_field he rfl (x := .ref q) rfl ?_)
  refine wpAny_bind (nextTup_end (A := A.in1) hh g gt gx fun h' x he' hx' => ?_)
  obtain ⟨o, ho, hc⟩ := hx'
  refine (wpAny_bind (wpAny_isInstance (T := "StopIteration") (b := true) ⟨o, ho, hc⟩ isSubtype_stop ?_))
  exact wpAny_pure (hQ _ he')
end PySem
namespace L2
open PySem PySem.Spec PyProof.Rows
section
variable {X : Cx} {pins : List (Addr × Obj)} {σ : St} {H : Hp} {s : Shared} {h' : Heap}
/-- several untracked records of ours have turned -/
theorem Inv.turnedL {t' : Nat} {ts : List Addr} (I : Inv X pins σ H s) (k : ∀ b o, b ∉ ts → s.heap.get? b = some o → h'.get? b = some o) (hf : ∀ b ∈ ts, FpOk X pins H b) : Inv X pins σ H { s with heap := h', toks := t' } := by
  have nit : ∀ b u, H b = some u → b ∉ ts := fun b u e z => by
    rw [(hf b z).1] at e
    cases e
  refine I.step (g' := s.gens) (d' := s.drawn) (ch := ts) (fun b hb => ?_) (fun b o _ _ hc e _ => k b o hc e) (fun b o _ _ hc e _ => ⟨o.slots, k b o hc e⟩) (fun _ _ _ _ n => n) (fun b o hc e => ⟨o, k b o hc e⟩) (fun _ _ e => e) (fun _ _ _ e => e) (fun b ps e => ⟨#[], by rw [e]; simp⟩) (fun m hm => ?_) (fun b u e => ?_) I.bare
  · obtain ⟨f0, f1, f2, f3, f4, f5⟩ := hf b hb
    exact ⟨f3, f1, f4, f5⟩
  · obtain ⟨o, es, ep, ho, r⟩ := hm
    exact ⟨o, es, ep, k _ o (fun z => (hf _ z).2.1 rfl) ho, r⟩
  · refine (I.hok b u e).stay (fun c v hc q => k c v ?_ q) (fun _ q => q) fun _ _ q => q
    rcases hc with z | z
    · rw [z]
      exact nit b u e
    · exact nit c _ z
end
/-- number and item of a tuple, at each turn in a new pair -/
def Ite (K : PySem.W.Frag) (a : Addr) : It :=
  ⟨fun i H => ∃ xs x, SqT K H a xs ∧ xs[i]? = some x, fun i H v H' => ∃ (t : Addr) (x : V), v = .ref t ∧ H t = none ∧ (∀ xs, SqT K H a xs → xs[i]? = some x) ∧ H' = upd H t (.tup [.int (i : Int), x]), fun i H => ∃ xs, SqT K H a xs ∧ xs.length ≤ i⟩
theorem turn_enum {P : Program} {w : World} {K : PySem.W.Frag} {es : List Expr} {k : Nat} {pos : Pos} (a e q : Addr) : Turn P w K (.Tuple es k pos) (Ite K a) [e, q] e (fun i h => (∃ old, IsEnum h e q (i : Nat) old) ∧ h.IsTupleIter q a i) where
  mem := by simp
  obj := fun i h st b hb => by
    obtain ⟨⟨old, he⟩, o, ho, hc, hd⟩ := st
    rcases List.mem_cons.mp hb with rfl | hb
    · refine ⟨_, he, fun v z => ?_⟩
      have z2 : Data.fields _ = Data.cell v := z
      cases z2
    · rw [List.mem_singleton.mp hb]
      exact ⟨o, ho, fun v z => by rw [hd] at z; cases z⟩
  keep := fun i h h' st k => by
    obtain ⟨⟨old, he⟩, hq⟩ := st
    exact ⟨⟨old, k e (by simp) _ he⟩, hq.at fun o z => k q (by simp) o z⟩
  item := by
    intro X hP hw hK hc i pins s σ H E I hf st hg
    subst hP hw hK
    obtain ⟨xs, x, hq, hx⟩ := hg
    obtain ⟨its, rv, p, hz⟩ := I.tuple hq
    obtain ⟨u, hu, ru⟩ := rv.get hx
    obtain ⟨⟨old, he⟩, hit⟩ := st
    have pt : s.heap.IsTuple a its.toArray := p
    have naq : a ≠ q := fun z => by
      obtain ⟨o1, g1, c1, _⟩ := pt
      obtain ⟨o2, g2, c2, _⟩ := hit
      rw [z, g2] at g1
      cases g1
      rw [c2] at c1
      injection c1 with c1
      exact absurd c1 (by decide)
    have neq : e ≠ q := fun z => by
      obtain ⟨o2, g2, c2, _⟩ := hit
      rw [← z] at g2
      have g3 := g2.symm.trans he
      cases g3
      have c3 : Value.type "enumerate" = Value.type "tuple_iterator" := c2
      injection c3 with c3
      exact absurd c3 (by decide)
    have nea : e ≠ a := fun z => by
      obtain ⟨o1, g1, c1, _⟩ := pt
      rw [← z] at g1
      have g3 := g1.symm.trans he
      cases g3
      have c3 : Value.type "enumerate" = Value.type "tuple" := c1
      injection c3 with c3
      exact absurd c3 (by decide)
    have D := drawsTup (prog := X.prog) (w := X.w) (A := X.A.in1) (I.ok.hd hc) q a naq its.toArray
    have hlt : i < its.toArray.size := by
      have := (List.getElem?_eq_some_iff.mp hu).1
      simpa using this
    have hnew : H s.heap.objs.size = none := I.hok.fresh (Nat.le_refl _)
    refine wpAny_pyNext_enum_itemD D he ⟨hit, pt⟩ hlt neq (by simp [neq, nea]) fun y h1 tk hy ho hs1 hT hsz hk => ?_
    obtain rfl : y = u := by
      rw [List.getElem?_toArray, hu] at hy
      exact (Option.some.inj hy).symm
    refine ⟨_, rfl, wpAny_letOwnedTupleGo_enum ho fun h2 he2 sb => ?_⟩
    have nse : s.heap.objs.size ≠ e := Nat.ne_of_gt (Heap.lt_size he)
    have nsq : s.heap.objs.size ≠ q := by
      obtain ⟨o2, g2, _⟩ := hit
      exact Nat.ne_of_gt (Heap.lt_size g2)
    have kk : ∀ b o, b ∉ [e, q] → s.heap.get? b = some o → h2.get? b = some o := fun b o hb g => by
      have b1 : b ≠ e := fun z => hb (by simp [z])
      have b2 : b ≠ q := fun z => hb (by simp [z])
      exact (sb.2 b b1).trans (hk b o b1 b2 g)
    have I1 : Inv X pins σ H { s with heap := h2, toks := tk + 1 } := I.turnedL kk hf
    have I2 : Inv X pins σ (upd H s.heap.objs.size (.tup [.int (i : Int), x])) { s with heap := h2, toks := tk + 1 } := by
      refine Inv.adopt I1 (I.fpOk (Nat.le_refl _) hnew) ⟨by show 2 ≤ sizeLine; decide, [.int i tk, y], .cons ⟨tk, rfl⟩ (.cons ru .nil), ?_⟩
      exact ⟨_, (sb.2 _ nse).trans hT, rfl, _, rfl⟩
    refine ⟨.ref s.heap.objs.size, _, I2, rfl, ⟨_, x, rfl, hnew, fun ys hy => by rw [I.tuple_inj hy hq]; exact hx, rfl⟩, ⟨⟨y, by have := he2; simpa using this⟩, hs1.1.at fun o g => (sb.2 q (Ne.symm neq)).trans g⟩, fun b hb => ?_⟩
    have nb : b ≠ s.heap.objs.size := by
      rcases List.mem_cons.mp hb with rfl | hb
      · exact Ne.symm nse
      · rw [List.mem_singleton.mp hb]
        exact Ne.symm nsq
    rw [upd_ne nb]
    exact (hf b hb).1
  done := by
    intro X hP hw hK hc i pins s σ H E I hf st hg
    subst hP hw hK
    obtain ⟨xs, hq, hx⟩ := hg
    obtain ⟨its, rv, p, hz⟩ := I.tuple hq
    obtain ⟨⟨old, he⟩, hit⟩ := st
    have pt : s.heap.IsTuple a its.toArray := p
    have hl := rv.length
    have hnone : its.toArray[i]? = none := by simp; omega
    refine enumEndT (I.ok.hd hc) he hit pt hnone fun h2 eb => ⟨rfl, ?_⟩
    exact I.turnedL (t' := s.toks) (fun b o hb g => eb b o (fun z => hb (by simp [z])) g) hf
  self := fun _ _ _ _ _ st h => by
    obtain ⟨⟨old, he⟩, _⟩ := st
    exact wpAny_pyIter_enum he h
section
variable {X : Cx} {es : List Expr} {k : Nat} {tpos : Pos}
def iEnum (K : PySem.W.Frag) (ta : TA) : TI := fun σ H R => ta σ H fun vs H1 => ∃ a, vs = [.ref a] ∧ (∃ xs, SqT K H1 a xs) ∧ R (Ite K a) H1
theorem pi_enum {l : Expr} {ta : TA} {p pos : Pos} (hg : Gl X "enumerate") (hm : X.mg "enumerate" = none) (ha : PA X [l] ta) (hs : starEach [l] X.env = [(false, eval l X.env)] := by rfl) : PI X (.Tuple es k tpos) (.Call (.Name "enumerate" p) [l] [] pos) (iEnum X.K ta) := by
  intro pins s σ H R I h
  refine Call_ (ld_blt I hg hm boot_enumerate (PyProof.Rows.callWith_type1 (thn (ha pos pins s σ H _ I h) fun us s1 ⟨vs, H1, I1, r1, q1⟩ => ?_) hs rfl))
  obtain ⟨a, e, ⟨xs, hq⟩, q⟩ := q1
  subst e
  cases r1 with
  | cons r rr =>
    cases rr
    cases r
    obtain ⟨its, rv, p, hz⟩ := I1.tuple hq
    refine callEnumT (show s1.heap.IsTuple a its.toArray from p) fun h' he hit hsz hk => ?_
    refine wpAny_pyIter_enum he ?_
    have I2 : Inv X pins σ H1 { s1 with heap := h' } := I1.kept (t' := s1.toks) hk
    refine ⟨s1.heap.objs.size + 1, [s1.heap.objs.size + 1, s1.heap.objs.size], _, _, H1, rfl, I2, turn_enum a _ _, ⟨⟨.none, by simpa using he⟩, hit⟩, fun b hb => ?_, q⟩
    rcases List.mem_cons.mp hb with rfl | hb
    · exact I1.fpOk (Nat.le_succ _) (I1.hok.fresh (Nat.le_succ _))
    · rw [List.mem_singleton.mp hb]
      exact I1.fpOk (Nat.le_refl _) (I1.hok.fresh (Nat.le_refl _))
end
theorem for_enum {K : PySem.W.Frag} {a : Addr} {xs : List V} {g : TG} {tb : TS} {D : Ends} {σ : St} {H : Hp} (Pv : Nat → St → Hp → Prop) (h0 : Pv 0 σ H) (hl : ∀ i σ H, i ≤ xs.length → Pv i σ H → SqT K H a xs)
    (hs : ∀ i x σ H t, xs[i]? = some x → Pv i σ H → H t = none → g (.ref t) σ (upd H t (.tup [.int (i : Int), x])) fun σ2 H2 => tb { D with nx := Pv (i + 1), ct := Pv (i + 1), bk := D.nx } σ2 H2) (hd : ∀ σ H, Pv xs.length σ H → D.nx σ H) :
    ∃ W : Nat → Nat → St → Hp → Prop, (∃ m, W 0 m σ H) ∧ ∀ i m σ H, W i m σ H →
      ((Ite K a).stop i H ∧ D.nx σ H) ∨ ((Ite K a).go i H ∧ ∃ N : St → Hp → Prop, (∀ σ' H', N σ' H' → ∃ m', m' < m ∧ W (i + 1) m' σ' H') ∧ ∀ x H', (Ite K a).yld i H x H' → g x σ H' fun σ2 H2 => tb { D with nx := N, ct := N, bk := D.nx } σ2 H2) := by
  refine ⟨fun i m σ H => m + i = xs.length ∧ Pv i σ H, ⟨xs.length, rfl, h0⟩, ?_⟩
  rintro i m σ H ⟨hm, p⟩
  have hq := hl i σ H (by omega) p
  by_cases hlt : i < xs.length
  · refine .inr ⟨⟨xs, xs[i], hq, by simp [hlt]⟩, Pv (i + 1), fun σ' H' p' => ⟨m - 1, by omega, by omega, p'⟩, fun v H' y => ?_⟩
    obtain ⟨t, x, rfl, ht, hx, rfl⟩ := y
    exact hs i x σ H t (hx xs hq) p ht
  · obtain rfl : i = xs.length := by omega
    exact .inl ⟨⟨xs, hq, Nat.le_refl _⟩, hd σ H p⟩
end L2

namespace L2
open PySem PySem.Spec PyProof.Rows
section
variable {X : Cx}
theorem range_any (n : Nat) (f : Nat → Bool) (bs : List Bool) (hl : bs.length = n) (hf : ∀ i b, bs[i]? = some b → f i = b) : (List.range n).any f = bs.any id := by
  rw [Bool.eq_iff_iff, List.any_eq_true, List.any_eq_true]
  constructor
  · rintro ⟨i, hi, h⟩
    have hi' : i < bs.length := by rw [hl]; exact List.mem_range.mp hi
    rw [hf i _ (List.getElem?_eq_getElem hi')] at h
    exact ⟨_, List.getElem_mem hi', h⟩
  · rintro ⟨b, hb, h⟩
    obtain ⟨i, e⟩ := List.mem_iff_getElem?.mp hb
    have hi := (List.getElem?_eq_some_iff.mp e).1
    exact ⟨i, List.mem_range.mpr (by omega), by rw [hf i b e]; exact h⟩
/-- any(bs), bs a list of truths -/
theorem call_anyB (hc : X.calm = true) : CallR X (.builtin "any") (fun xs H Q => ∃ (p : Addr) (bs : List Bool), xs = [.ref p] ∧ SqL X.K H p (bs.map V.bl) ∧ Q (.bl (bs.any id)) H) := by
  intro pins s σ H xs us Q I r h
  obtain ⟨p, bs, rfl, hq, q⟩ := h
  obtain ⟨u, rfl, rx⟩ := vals1 r
  cases rx
  obtain ⟨its, rv, pl, hz⟩ := I.list hq
  have hlen := rv.length
  rw [List.length_map] at hlen
  have hlt : p < s.heap.objs.size := by
    obtain ⟨o, ho, _⟩ := pl.isList
    exact Heap.lt_size ho
  refine call_any_walk (wpAny_pyIter_list pl.isList ?_)
  refine ⟨s.heap.objs.size, [s.heap.objs.size, p], [s.heap.objs.size], its.toArray.size, fun i v => its.toArray[i]? = some v, fun i h => h.IsListIter s.heap.objs.size p i ∧ h.IsList p its.toArray, fun i => (bs[i]?).getD true, rfl,
    Walks.list (A := X.A.in1) (I.ok.hd hc) _ _ (Nat.ne_of_lt hlt) _, ⟨⟨_, Heap.get?_push_size _ rfl, rfl, rfl⟩, pl.isList.at fun o e => Heap.get?_push_of_some _ e⟩, ?_, ?_⟩
  · intro i v s' Q' E' hv hQ'
    have hi : i < bs.length := by
      have := (Array.getElem?_eq_some_iff.mp hv).1
      simp only [List.size_toArray] at this
      omega
    have e : bs[i]? = some bs[i] := List.getElem?_eq_getElem hi
    obtain ⟨u, hu, ru⟩ := rv.get (i := i) (x := V.bl bs[i]) (by rw [List.getElem?_map, e]; rfl)
    have hv' : its[i]? = some v := by simpa using hv
    rw [hu] at hv'
    cases hv'
    cases ru
    have hQ2 : Q' ((bs[i]?).getD true) s' := hQ'
    rw [e] at hQ2
    exact wpAny_truthy_bool hQ2
  · intro h' tk k
    refine ⟨.bl (bs.any id), H, I.kept (t' := tk) (h' := h') fun b u e => k b u (fun z => ?_) (Heap.get?_push_of_some _ e), ?_, q⟩
    · have z' : b = s.heap.objs.size := by simpa using z
      exact absurd (Heap.lt_size e) (by rw [z']; exact Nat.lt_irrefl _)
    · show Value.bool _ = Value.bool _
      rw [range_any its.toArray.size _ bs (by simp only [List.size_toArray]; exact hlen) fun i b e => by rw [e]; rfl]
end
end L2

namespace L2
open PySem
/-! a row of written constants, at once -/
def conE : Expr → Option V
  | .Constant (.int i) _ _ => some (.int i)
  | .Constant (.str z) _ _ => some (.str z)
  | .UnaryOp .USub (.Constant (.int i) _ _) _ => some (.int (-i))
  | _ => none
def conEs : List Expr → Option (List V)
  | [] => some []
  | e :: es => match conE e, conEs es with
    | some v, some vs => some (v :: vs)
    | _, _ => none
section
variable {X : Cx}
theorem con_ok {e : Expr} {v : V} (h : conE e = some v) : PE X e (fun _ H Q => Q v H) ∧ ∀ es, starEach (e :: es) X.env = (false, eval e X.env) :: starEach es X.env := by
  unfold conE at h
  split at h
  · cases h
    exact ⟨pe_int, fun _ => rfl⟩
  · cases h
    exact ⟨pe_str, fun _ => rfl⟩
  · cases h
    refine ⟨fun pins s σ H Q I h => ?_, fun _ => rfl⟩
    exact (pe_un un_neg pe_int) pins s σ H Q I ⟨_, rfl, h⟩
  · cases h
theorem pa_consts : ∀ {es : List Expr} {vs : List V}, conEs es = some vs → PA X es (fun _ H Q => Q vs H)
  | [], vs, h => by
    cases h
    exact pa_nil
  | e :: es, vs, h => by
    unfold conEs at h
    split at h
    · rename_i v vs' h1 h2
      cases h
      obtain ⟨a, b⟩ := con_ok (X := X) h1
      exact pa_cons a (pa_consts h2) (b es)
    · cases h
end
/-! closed-up forms of the layer's readings, whose insides the unifier does not open -/
structure RE (X : Cx) (e : Expr) (t : TE) : Prop where
  p : PE X e t
structure RS (X : Cx) (st : Stmt) (t : TS) : Prop where
  p : PS X st t
structure RSs (X : Cx) (st : List Stmt) (t : TS) : Prop where
  p : PSs X st t
structure RA (X : Cx) (es : List Expr) (t : TA) : Prop where
  p : PA X es t
section
variable {X : Cx} {e a b c : Expr} {es : List Expr} {te ta tb : TE} {tc : TT} {tr : TA} {pos : Pos} {st : Stmt} {ss rest : List Stmt} {t u : TS}
theorem r_one (h : RS X st t) : RSs X [st] t := ⟨pss_one h.p⟩
theorem r_cons (h : RS X st t) (h2 : RSs X rest u) : RSs X (st :: rest) (tSeq t u) := ⟨pss_cons h.p h2.p⟩
theorem r_cut (h : RS X st t) (h2 : RSs X rest u) : RSs X (st :: rest) (tCut t u) := ⟨pss_cut h.p h2.p⟩
theorem r_st (h : PS X st t) : RS X st t := ⟨h⟩
theorem r_set {i : Nat} {x : Str} {pos' : Pos} (hN : X.N.Nodup) (hi : X.N[i]? = some x) (hx : Loc X.env.scope x) (he : RE X e te) (hs : swapsWith e (some (.Name x pos')) pos.line X.env = pure false := by rfl) (hf : X.fn x = true ∨ X.env.scope.names.lookup x = some .local := by first | exact .inl rfl | exact .inr rfl | assumption) : RS X (.Assign [.Name x pos'] e pos) (tAsg te (gName i)) := ⟨ps_set hN hi hx he.p hs hf⟩
theorem r_ixL (ha : RE X a ta) (hb : PE X b tb) (hs : PlainIx b) : RE X (.Subscript a b pos) (tOp (rIxL X.K) ta tb) := ⟨pe_ix ix_list ha.p hb hs⟩
theorem r_lst (h : RA X es tr) : RE X (.List es pos) (tLst tr) := ⟨pe_lst h.p⟩
theorem ra_con {vs : List V} (h : conEs es = some vs) : RA X es (fun _ H Q => Q vs H) := ⟨pa_consts h⟩
end
end L2

namespace L2
open PySem PyProof.Rows
/-! a def whose scope is given as a datum: a big body is walked but once -/
theorem okS {P : Program} {w : World} {K : PySem.W.Frag} {mg : Str → Option Value} {base : Heap} {x qual : Str} {st : Stmt} {f : Addr} {fd : FuncData} {N ps : List Str} {k : Nat} {sp : Sp} (sc : Scope) (hsc : defScope st = sc) (F : Fun K x qual st f fd) (S : FnScope N ps sc) (len : ∀ vs H Q E, sp vs H Q E → vs.length = ps.length)
    (hbody : ∀ (cdv : Value) (A : Around) (outer : List Env) (s : Shared) (H : Hp) (vs : List V) (Q : VK) (E : XK), Room k (A.deeper (envOfC qual sc s.heap.objs.size f cdv)) → sp vs H Q E →
      ∃ t, PSs (cxOf CX0 P w K mg base N qual sc f cdv A outer s H E).nox (defBody st) t ∧ t { nx := fun _ H' => Q .non H', rt := Q } (start N vs) H) : FnOk P w K mg base CX0 (k + 1) f fd ps sp := by
  subst hsc
  exact F.ok S len hbody
end L2

namespace Tr
/-! rooms by their depths: parents, kids, the chain of rooms above; plain mathematics -/
def parGo (ds : List Int) (d : Int) : Nat → Option Nat
  | 0 => none
  | j + 1 => if ds.getD j 0 < d then some j else parGo ds d j
def par (ds : List Int) (k : Nat) : Option Nat := parGo ds (ds.getD k 0) k
theorem parGo_some {ds : List Int} {d : Int} : ∀ {k j : Nat}, j < k → ds.getD j 0 < d → (∀ i, j < i → i < k → d ≤ ds.getD i 0) → parGo ds d k = some j
  | 0, j, h, _, _ => by omega
  | k + 1, j, h, hd, ha => by
    unfold parGo
    by_cases e : j = k
    · subst e
      rw [if_pos hd]
    · have := ha k (by omega) (by omega)
      rw [if_neg (by omega)]
      exact parGo_some (by omega) hd fun i h1 h2 => ha i h1 (by omega)
theorem parGo_lt {ds : List Int} {d : Int} : ∀ {k j : Nat}, parGo ds d k = some j → j < k ∧ ds.getD j 0 < d ∧ ∀ i, j < i → i < k → d ≤ ds.getD i 0
  | 0, j, h => by cases h
  | k + 1, j, h => by
    unfold parGo at h
    split at h
    · cases h
      exact ⟨by omega, by assumption, fun i h1 h2 => by omega⟩
    · rename_i hn
      obtain ⟨a, b, c⟩ := parGo_lt h
      refine ⟨by omega, b, fun i h1 h2 => ?_⟩
      by_cases e : i = k
      · subst e
        omega
      · exact c i h1 (by omega)
theorem par_lt {ds : List Int} {k j : Nat} (h : par ds k = some j) : j < k := (parGo_lt h).1
/-- the depths as they may stand -/
structure Good (ds : List Int) : Prop where
  pos : 0 < ds.length
  first : ds.getD 0 0 = 0
  next : ∀ k, k + 1 < ds.length → 1 ≤ ds.getD (k + 1) 0 ∧ ds.getD (k + 1) 0 ≤ ds.getD k 0 + 1
theorem Good.nonneg {ds : List Int} (g : Good ds) : ∀ k, k < ds.length → 0 ≤ ds.getD k 0
  | 0, _ => by rw [g.first]; exact Int.le_refl _
  | k + 1, h => by have := g.next k h; omega
theorem Good.snoc {ds : List Int} {v : Int} (g : Good ds) (h1 : 1 ≤ v) (h2 : v ≤ ds.getD (ds.length - 1) 0 + 1) : Good (ds ++ [v]) := by
  have hp := g.pos
  have old : ∀ k, k < ds.length → (ds ++ [v]).getD k 0 = ds.getD k 0 := fun k hk => by
    rw [List.getD_eq_getElem?_getD, List.getD_eq_getElem?_getD, List.getElem?_append_left hk]
  have new : (ds ++ [v]).getD ds.length 0 = v := by
    rw [List.getD_eq_getElem?_getD, List.getElem?_append_right (Nat.le_refl _)]
    simp
  refine ⟨by simp, by rw [old 0 hp]; exact g.first, fun k hk => ?_⟩
  rw [List.length_append, List.length_singleton] at hk
  by_cases e : k + 1 < ds.length
  · rw [old _ e, old k (by omega)]
    exact g.next k e
  · have e' : k + 1 = ds.length := by omega
    rw [old k (by omega), e', new, show k = ds.length - 1 by omega]
    exact ⟨h1, h2⟩
theorem Good.one : Good [0] := ⟨by decide, rfl, fun k h => by simp at h⟩
/-- what stands above, a row of rooms each the parent of the next; behind room k -/
structure Above (ds : List Int) (k : Nat) (s : List Nat) : Prop where
  len : (s.length : Int) = ds.getD k 0 + 1
  top : s[(ds.getD k 0).toNat]? = some k
  le : ∀ (i v : Nat), s[i]? = some v → v ≤ k ∧ ds.getD v 0 = (i : Int) ∧ ∀ j, v < j → j ≤ k → (i : Int) < ds.getD j 0
/-- the rooms whose parent this is -/
def kidsTo (ds : List Int) (r n : Nat) : List Nat := (List.range n).filter fun j => par ds j == some r
def kids (ds : List Int) (r : Nat) : List Nat := kidsTo ds r ds.length
/-! the chain of rooms above a room -/
def upF (ds : List Int) : Nat → Nat → List Nat
  | 0, _ => []
  | f + 1, k => match par ds k with
    | none => []
    | some j => j :: upF ds f j
def ups (ds : List Int) (k : Nat) : List Nat := upF ds k k
theorem upF_more (ds : List Int) : ∀ (f k : Nat), k ≤ f → upF ds f k = upF ds k k
  | f, 0, _ => by
    cases f with
    | zero => rfl
    | succ f => rfl
  | 0, k + 1, h => by omega
  | f + 1, k + 1, h => by
    show (match par ds (k + 1) with | none => [] | some j => j :: upF ds f j) = (match par ds (k + 1) with | none => [] | some j => j :: upF ds k j)
    cases e : par ds (k + 1) with
    | none => rfl
    | some j =>
      have hj := par_lt e
      show j :: upF ds f j = j :: upF ds k j
      rw [upF_more ds f j (by omega), upF_more ds k j (by omega)]
theorem ups_none {ds : List Int} {k : Nat} (h : par ds k = none) : ups ds k = [] := by
  unfold ups
  cases k with
  | zero => rfl
  | succ k =>
    show (match par ds (k + 1) with | none => [] | some j => j :: upF ds k j) = []
    rw [h]
theorem ups_some {ds : List Int} {k j : Nat} (h : par ds k = some j) : ups ds k = j :: ups ds j := by
  have hj := par_lt h
  unfold ups
  cases k with
  | zero => omega
  | succ k =>
    show (match par ds (k + 1) with | none => [] | some j => j :: upF ds k j) = _
    rw [h]
    show j :: upF ds k j = _
    rw [upF_more ds k j (by omega)]
theorem ups_lt {ds : List Int} : ∀ {k v : Nat}, v ∈ ups ds k → v < k := by
  intro k
  induction k using Nat.strongRecOn with
  | ind k ih =>
    intro v hv
    cases e : par ds k with
    | none =>
      rw [ups_none e] at hv
      cases hv
    | some j =>
      have hj := par_lt e
      rw [ups_some e] at hv
      rcases List.mem_cons.mp hv with rfl | h
      · exact hj
      · have := ih j hj h
        omega
/-- the deepest room of a sort in which both lie -/
def hall (ds : List Int) (isOne : Nat → Bool) (a b : Nat) : Option Nat := (ups ds a).find? fun x => (ups ds b).contains x && isOne x
/-- a room lies in another one -/
def liesIn (ds : List Int) (a b : Nat) : Bool := (ups ds a).contains b
end Tr

namespace Tr
/-! where the rooms that lie in a room end -/
structure EndOf (ds : List Int) (k e : Nat) : Prop where
  lt : k < e
  le : e ≤ ds.length
  ins : ∀ j, k < j → j < e → ds.getD k 0 < ds.getD j 0
  out : e < ds.length → ds.getD e 0 ≤ ds.getD k 0
theorem parGo_no {ds : List Int} {d : Int} : ∀ {k : Nat}, parGo ds d k = none → ∀ i, i < k → d ≤ ds.getD i 0
  | 0, _, i, h => by omega
  | k + 1, e, i, h => by
    unfold parGo at e
    split at e
    · cases e
    · rename_i hn
      by_cases q : i = k
      · subst q
        omega
      · exact parGo_no e i (by omega)
theorem par_iff {ds : List Int} {k j : Nat} : par ds j = some k ↔ k < j ∧ ds.getD k 0 < ds.getD j 0 ∧ ∀ i, k < i → i < j → ds.getD j 0 ≤ ds.getD i 0 :=
  ⟨fun h => parGo_lt h, fun ⟨a, b, c⟩ => parGo_some a b c⟩
theorem mem_ups {ds : List Int} : ∀ (a b : Nat), b ∈ ups ds a ↔ b < a ∧ ∀ j, b < j → j ≤ a → ds.getD b 0 < ds.getD j 0 := by
  intro a
  induction a using Nat.strongRecOn with
  | ind a ih =>
    intro b
    cases e : par ds a with
    | none =>
      rw [ups_none e]
      refine ⟨fun z => (by cases z), fun ⟨h1, h2⟩ => ?_⟩
      have := parGo_no e b h1
      have := h2 a h1 (Nat.le_refl _)
      omega
    | some p =>
      obtain ⟨hp, hd, ha⟩ := par_iff.mp e
      rw [ups_some e, List.mem_cons, ih p hp b]
      constructor
      · rintro (rfl | ⟨h1, h2⟩)
        · refine ⟨hp, fun j j1 j2 => ?_⟩
          by_cases q : j = a
          · rw [q]
            exact hd
          · have := ha j j1 (by omega)
            omega
        · refine ⟨by omega, fun j j1 j2 => ?_⟩
          by_cases q : j ≤ p
          · exact h2 j j1 q
          · have z := h2 p h1 (Nat.le_refl _)
            by_cases q2 : j = a
            · rw [q2]
              omega
            · have := ha j (by omega) (by omega)
              omega
      · rintro ⟨h1, h2⟩
        by_cases q : b = p
        · exact .inl q
        · right
          have z := h2 a h1 (Nat.le_refl _)
          by_cases q2 : p < b
          · have := ha b q2 h1
            omega
          · exact ⟨by omega, fun j j1 j2 => h2 j j1 (by omega)⟩
theorem lies_end {ds : List Int} {a b e : Nat} (h : EndOf ds b e) (ha : a < ds.length) : liesIn ds a b = (decide (b < a) && decide (a < e)) := by
  unfold liesIn
  rw [Bool.eq_iff_iff, List.contains_iff_mem, mem_ups, Bool.and_eq_true, decide_eq_true_iff, decide_eq_true_iff]
  constructor
  · rintro ⟨h1, h2⟩
    refine ⟨h1, ?_⟩
    by_cases q : a < e
    · exact q
    · have := h2 e h.lt (by omega)
      have := h.out (by omega)
      omega
  · rintro ⟨h1, h2⟩
    exact ⟨h1, fun j j1 j2 => h.ins j j1 (by omega)⟩
end Tr

namespace Rms
open PySem L2 Gds
/-! rooms as a datum of our own -/
structure Rm where
  nm : Str
  kind : Str
  depth : Int
  keeps : Str
  lamp : Str
  ins : V
  outs : V
def RmIn (H : Hp) (v : V) (r : Rm) : Prop := ∃ a : Addr, v = .ref a ∧ H a = some (.tup [.str r.nm, .str r.kind, .int r.depth, .str r.keeps, .str r.lamp, r.ins, r.outs])
inductive RmsIn (H : Hp) : List V → List Rm → Prop where
  | nil : RmsIn H [] []
  | cons {v : V} {r : Rm} {vs : List V} {rs : List Rm} : RmIn H v r → RmsIn H vs rs → RmsIn H (v :: vs) (r :: rs)
theorem RmIn.mono {H H' : Hp} {v : V} {r : Rm} (x : RmIn H v r) (k : KeepT H H') : RmIn H' v r := by
  obtain ⟨a, e, h⟩ := x
  exact ⟨a, e, k _ _ h⟩
theorem RmsIn.mono {H H' : Hp} {vs : List V} {rs : List Rm} (x : RmsIn H vs rs) (k : KeepT H H') : RmsIn H' vs rs := by
  induction x with
  | nil => exact .nil
  | cons h _ ih => exact .cons (h.mono k) ih
theorem RmsIn.length {H : Hp} {vs : List V} {rs : List Rm} (x : RmsIn H vs rs) : vs.length = rs.length := by
  induction x with
  | nil => rfl
  | cons _ _ ih => rw [List.length_cons, List.length_cons, ih]
theorem RmsIn.snoc {H : Hp} {vs : List V} {rs : List Rm} {v : V} {r : Rm} (x : RmsIn H vs rs) (y : RmIn H v r) : RmsIn H (vs ++ [v]) (rs ++ [r]) := by
  induction x with
  | nil => exact .cons y .nil
  | cons h _ ih => exact .cons h ih
theorem RmsIn.get {H : Hp} {vs : List V} {rs : List Rm} (x : RmsIn H vs rs) : ∀ {k : Nat} {r : Rm}, rs[k]? = some r → ∃ v, vs[k]? = some v ∧ RmIn H v r := by
  induction x with
  | nil => intro k r h; simp at h
  | cons h _ ih =>
    intro k r e
    cases k with
    | zero =>
      simp at e
      subst e
      exact ⟨_, rfl, h⟩
    | succ k => exact ih (by simpa using e)
/-- the rooms of a chart, a tuple -/
def Rooms (H : Hp) (t : Addr) (rs : List Rm) : Prop := ∃ vs, H t = some (.tup vs) ∧ RmsIn H vs rs
theorem Rooms.mono {H H' : Hp} {t : Addr} {rs : List Rm} (x : Rooms H t rs) (k : KeepT H H') : Rooms H' t rs := by
  obtain ⟨vs, h, r⟩ := x
  exact ⟨vs, k _ _ h, r.mono k⟩
def depths (rs : List Rm) : List Int := rs.map (·.depth)
theorem depths_len (rs : List Rm) : (depths rs).length = rs.length := List.length_map _
theorem depths_at {rs : List Rm} {k : Nat} {r : Rm} (h : rs[k]? = some r) : (depths rs).getD k 0 = r.depth := by
  unfold depths
  rw [List.getD_eq_getElem?_getD, List.getElem?_map, h]
  rfl
/-- the k-th room's own tuple -/
theorem Rooms.at {H : Hp} {t : Addr} {rs : List Rm} (x : Rooms H t rs) {k : Nat} (h : k < rs.length) : ∃ (vs : List V) (a : Addr) (r : Rm), H t = some (.tup vs) ∧ vs.length = rs.length ∧ rs[k]? = some r ∧ atI vs ((k : Nat) : Int) = some (.ref a) ∧ H a = some (.tup [.str r.nm, .str r.kind, .int r.depth, .str r.keeps, .str r.lamp, r.ins, r.outs]) := by
  obtain ⟨vs, hv, hr⟩ := x
  have e : rs[k]? = some rs[k] := List.getElem?_eq_getElem h
  obtain ⟨v, h1, a, rfl, h2⟩ := hr.get e
  exact ⟨vs, a, rs[k], hv, hr.length, e, atI_nat h1, h2⟩
/-- kinds that go with the depths -/
def Fit (rs : List Rm) : Prop := ∀ (k : Nat) (r : Rm), rs[k]? = some r → if k + 1 < rs.length ∧ (depths rs).getD k 0 < (depths rs).getD (k + 1) 0 then (r.kind = "one" ∨ r.kind = "all") else r.kind = "plain"
end Rms

namespace L2
open PySem
/-! items of a display whose kind is plain at sight: the rest is not looked at -/
section
variable {X : Cx} {es : List Expr} {te : TE} {t : TA}
end
end L2

namespace L2
open PySem PySem.Spec PyProof.Rows
section
variable {X : Cx} {a b c : Expr} {ta tb tc : TE} {pos : Pos}
/-- a op1 b op2 c of ints, c a calm expression: one truth -/
def tChV (p p' : Int → Int → Bool) (ta tb tc : TE) : TE := fun σ H Q => ta σ H fun x H1 => tb σ H1 fun y H2 => ∃ i j k, x = .int i ∧ y = .int j ∧ tc σ H2 (fun z H3 => z = .int k ∧ H3 = H2) ∧ Q (.bl (p i j && p' j k)) H2
theorem pt_chV {op op' : CmpOp} {p p' : Int → Int → Bool} (ho : OpR X (compareOp op) (rI0 fun i j => .bl (p i j))) (ho' : OpR X (compareOp op') (rI0 fun i j => .bl (p' i j))) (ha : PE X a ta) (hb : PE X b tb) (hc : PE X c tc)
    (hm : lastMarks [op, op'] [b, c] = false := by with_unfolding_all rfl) : PT X (.Compare a [op, op'] [b, c] pos) (tTest (tChV p p' ta tb tc)) := by
  intro pins s σ H Q I h
  refine isTrue_chain (thn (ha pins s σ H _ I h) fun v s1 ⟨x, H1, I1, r1, q1⟩ => test_link (thn (hb pins s1 σ H1 _ I1 q1) fun u s2 ⟨y, H2, I2, r2, q2⟩ => ?_)) hm
  obtain ⟨i, j, k, rfl, rfl, tq, kk, ek, q⟩ := q2
  cases ek
  refine thn (ho pins s2 σ H2 _ _ v u (fun z H3 => z = .bl (p i j) ∧ H3 = H2) I2 r1 r2 ⟨i, j, rfl, rfl, rfl, rfl⟩) fun d s3 ⟨z, H3, I3, r3, e1, e2⟩ => ?_
  subst e1 e2
  cases r3
  refine wpAny_truthy_bool ?_
  cases e : p i j with
  | false =>
    rw [e, Bool.false_and] at q
    exact ite_ff ⟨_, I3, q⟩
  | true =>
    rw [e, Bool.true_and] at q
    refine ite_tt (test_last (thn (hc pins s3 σ _ _ I3 tq) fun w' s4 ⟨z', H4, I4, r4, e3, e4⟩ => ?_))
    subst e3 e4
    refine thn (ho' pins s4 σ _ _ _ u w' (fun z H5 => z = .bl (p' j k) ∧ H5 = H4) I4 r2 r4 ⟨j, k, rfl, rfl, rfl, rfl⟩) fun d' s5 ⟨z2, H5, I5, r5, e5, e6⟩ => ?_
    subst e5 e6
    cases r5
    exact wpAny_truthy_bool ⟨_, I5, q⟩
end
theorem itB {c : Bool} {A B : Prop} (h1 : c = true → A) (h2 : c = false → B) : if c = true then A else B := by
  cases c with
  | true =>
    rw [if_pos rfl]
    exact h1 rfl
  | false =>
    rw [if_neg Bool.false_ne_true]
    exact h2 rfl
end L2

namespace Mix
open PySem L2
def top (i : Nat) : Stmt := PySem.Challenge.pw_nesthall_k22_inner_and_outer.main.body.getD i (.Pass ⟨0, 0, 0, 0⟩)
abbrev sHolds : Stmt := top 1
abbrev sEndOf : Stmt := top 3
abbrev sLiesIn : Stmt := top 4
abbrev sAnswers : Stmt := top 6
abbrev sOutdone : Stmt := top 7
abbrev sChosen : Stmt := top 8
abbrev sCell : Stmt := top 10
abbrev sMixed : Stmt := top 11
abbrev s_L_name : Stmt := top 12
abbrev s_L_deed : Stmt := top 13
abbrev s_L_deeds : Stmt := top 14
abbrev s_L_guard : Stmt := top 15
abbrev s_L_depths : Stmt := top 16
abbrev sRooms : Stmt := top 17
abbrev s_L_doors : Stmt := top 18
abbrev s_L_chart : Stmt := top 19
abbrev s_L_opened : Stmt := top 20
abbrev s_L_stand : Stmt := top 21
abbrev sWhole : Stmt := top 22
abbrev sLies : Stmt := top 23
abbrev s_L_rooms_of : Stmt := top 24
abbrev s_L_met : Stmt := top 25
abbrev sLawF : Stmt := top 26
abbrev sNear : Str := "_law_near"
end Mix

namespace Mix
open PySem L2
/-! the cell of a script and the mixed draw: the same two defs stand in every law -/
def spCell (K : PySem.W.Frag) : Sp := fun vs H Q _ => ∃ (a : Addr) (ns : List Int) (k : Int), vs = [.ref a, .int k] ∧ SqL K H a (ns.map V.int) ∧ ns.length ≤ 63 ∧ ∀ v : Int, Q (.int v) H
def spMixed (K : PySem.W.Frag) : Sp := fun vs H Q _ => ∃ (a : Addr) (ns : List Int) (k salt : Int), vs = [.ref a, .int k, .int salt] ∧ SqL K H a (ns.map V.int) ∧ ns.length ≤ 63 ∧ (0 ≤ k ∧ k ≤ 1000000) ∧ (0 ≤ salt ∧ salt ≤ 1000) ∧
  ∀ r : Int, 0 ≤ r → r < 2147483648 → Q (.int r) H
section
variable {P : Program} {w : World} {K : PySem.W.Frag} {mg : Str → Option Value} {base : Heap}
theorem scC : FnScope ["_law_script", "_law_k"] ["_law_script", "_law_k"] (defScope sCell) := ⟨rfl, rfl, rfl, by decide +kernel, rfl, by decide +kernel, by decide +kernel⟩
theorem ok_cell {f : Addr} {fd : FuncData} (F : Fun K "_law_cell_at" "_law_cell_at" sCell f fd) (ml : mg "len" = none) : FnOk P w K mg base CX0 1 f fd ["_law_script", "_law_k"] (spCell K) := by
  refine F.ok scC (fun vs H Q E h => ?_) (fun cdv A outer s H vs Q E hr h => ?_)
  · obtain ⟨a, ns, k, rfl, _⟩ := h
    rfl
  obtain ⟨a, ns, k, rfl, hS, h63, q⟩ := h
  refine ⟨_, pss_cons (ps_if (pt_cmpR op_eq (pe_callB call_len_seq rfl ml PySem.boot_len (pa_cons (pv 0) pa_nil)) pe_int (nomark _)) (pss_one (ps_ret pe_int)) pss_nil)
    (pss_one (ps_ret (pe_ix ix_list (pv 0) (pe_op op_mod (pv 1) (pe_callB call_len_seq rfl ml PySem.boot_len (pa_cons (pv 0) pa_nil))) (fun _ _ => rfl)))), ?_⟩
  have hl : (ns.map V.int).length = ns.length := List.length_map _
  refine ⟨_, rfl, a, _, rfl, .inl hS, rfl, _, rfl, ?_⟩
  refine ite2 (fun c => ?_) (fun c => ?_)
  · exact q 0
  · have c' : ¬ V.int (((ns.map V.int).length : Nat) : Int) = V.int 0 := of_decide_eq_false (Bool.eq_false_iff.mpr c)
    have hp : (0 : Int) < (((ns.map V.int).length : Nat) : Int) := by
      rw [hl] at c' ⊢
      have : ns.length ≠ 0 := fun z => c' (by rw [z]; rfl)
      omega
    obtain ⟨v, hv⟩ := atI_int (ns := ns) (i := k % (((ns.map V.int).length : Nat) : Int)) (Int.emod_nonneg _ (by omega)) (by have := Int.emod_lt_of_pos k hp; rw [hl] at this ⊢; exact this)
    exact ⟨_, rfl, _, rfl, _, rfl, a, _, rfl, .inl hS, _, _, rfl, rfl, hp, a, _, _, _, rfl, rfl, hS, hv, q v⟩
theorem scM : FnScope ["_law_script", "_law_k", "_law_salt", "_law_cell", "_law_lap", sNear] ["_law_script", "_law_k", "_law_salt"] (defScope sMixed) := ⟨rfl, rfl, rfl, by decide +kernel, rfl, by decide +kernel, by decide +kernel⟩
theorem mulIn {i j : Int} (h0 : 0 ≤ i) (h1 : i < 18446744073709551616) : CMul i j := .inl ⟨by omega, by omega⟩
theorem ok_mixed {f g : Addr} {fd gd : FuncData} (F : Fun K "_law_mixed" "_law_mixed" sMixed f fd) (G : FnOk P w K mg base CX0 1 g gd ["_law_script", "_law_k"] (spCell K)) (bG : Binds K gd ["_law_script", "_law_k"] []) (kG : PySem.W.keepIn K (.ref g) = true) (mG : mg "_law_cell_at" = some (.ref g))
    (ml : mg "len" = none) (mm : mg "max" = none) : FnOk P w K mg base CX0 2 f fd ["_law_script", "_law_k", "_law_salt"] (spMixed K) := by
  refine F.ok scM (fun vs H Q E h => ?_) (fun cdv A outer s H vs Q E hr h => ?_)
  · obtain ⟨a, ns, k, salt, rfl, _⟩ := h
    rfl
  obtain ⟨a, ns, k, salt, rfl, hS, h63, hk, hs, q⟩ := h
  refine ⟨_, pss_cons (ps_set (i := 3) scM.nd rfl (Or.inl rfl) (pe_call G hr rfl mG kG bG .nil pass0 (pa_cons (pv 0) (pa_cons (pv 1) pa_nil))))
    (pss_cons (ps_set (i := 4) scM.nd rfl (Or.inl rfl) (pe_op op_fdiv (pv 1) (pe_callB (call_max2 rfl) rfl mm PyProof.Rows.boot_max (pa_cons pe_int (pa_cons (pe_callB call_len_seq rfl ml PySem.boot_len (pa_cons (pv 0) pa_nil)) pa_nil)))))
    (pss_cons (ps_set (i := 5) scM.nd rfl (Or.inl rfl) (pe_op op_add (pe_op op_add (pe_op op_add (pe_op op_and (pv 3) pe_int) (pe_op op_mul (pe_op op_mul pe_int (pv 1)) (pv 1))) (pe_op op_mul (pe_op op_mul pe_int (pv 2)) (pv 2))) pe_int))
    (pss_cons (ps_set (i := 5) scM.nd rfl (Or.inl rfl) (pe_op op_mod (pe_op op_mul (pv 5) pe_int) pe_int))
    (pss_cons (ps_set (i := 5) scM.nd rfl (Or.inl rfl) (pe_op op_mod (pe_op op_mul (pv 5) (pv 5)) pe_int))
    (pss_one (ps_ret (pe_op op_and (pe_op op_add (pe_op op_shr (pv 3) (pe_op op_mul pe_int (pe_op op_add (pv 2) (pe_op op_mul pe_int (pv 4))))) (pv 5)) pe_int))))))), ?_⟩
  have hl : (ns.map V.int).length = ns.length := List.length_map _
  refine ⟨_, rfl, _, rfl, a, ns, k, rfl, hS, h63, fun v => ?_⟩
  -- lap
  refine ⟨_, rfl, _, rfl, a, _, rfl, .inl hS, _, _, rfl, _, _, rfl, rfl, ?_⟩
  have hM : 0 < (if (((ns.map V.int).length : Nat) : Int) > 1 then (((ns.map V.int).length : Nat) : Int) else 1) ∧ (if (((ns.map V.int).length : Nat) : Int) > 1 then (((ns.map V.int).length : Nat) : Int) else 1) < 1073741824 := by
    rw [hl]
    split <;> omega
  refine ⟨hM, ?_⟩
  have hlap : 0 ≤ k / (if (((ns.map V.int).length : Nat) : Int) > 1 then (((ns.map V.int).length : Nat) : Int) else 1) := Int.ediv_nonneg hk.1 (Int.le_of_lt hM.1)
  -- near
  refine ⟨_, rfl, _, _, rfl, rfl, _, rfl, _, _, rfl, rfl, mulIn (by decide) (by decide), _, rfl, _, _, rfl, rfl, mulIn (by omega) (by omega), _, _, rfl, rfl, _, rfl, _, _, rfl, rfl, mulIn (by decide) (by decide), _, rfl, _, _, rfl, rfl, mulIn (by omega) (by omega), _, _, rfl, rfl, _, _, rfl, rfl, ?_⟩
  refine ⟨_, rfl, _, _, rfl, rfl, .inr ⟨by decide, by decide⟩, _, _, rfl, rfl, (by show (0 : Int) < 2147483647; decide), ?_⟩
  have b1 := Int.emod_nonneg ((Builtin.bitAnd v 2147483647 + 1009 * k * k + 7919 * salt * salt + 12) * 48271) (show (2147483647 : Int) ≠ 0 by decide)
  have b2 := Int.emod_lt_of_pos ((Builtin.bitAnd v 2147483647 + 1009 * k * k + 7919 * salt * salt + 12) * 48271) (show (0 : Int) < 2147483647 by decide)
  refine ⟨_, rfl, _, rfl, _, _, rfl, rfl, mulIn b1 (Int.lt_trans b2 (by decide)), _, _, rfl, rfl, (by show (0 : Int) < 2147483629; decide), ?_⟩
  refine ⟨_, rfl, _, rfl, _, rfl, _, _, rfl, rfl, mulIn (by decide) (by decide), _, _, rfl, rfl, _, _, rfl, rfl, mulIn (by decide) (by decide), _, _, rfl, rfl, ?_, _, rfl, _, _, rfl, rfl, _, _, rfl, rfl, ?_⟩
  · have nn : ∀ lap : Int, 0 ≤ lap → 0 ≤ 31 * (salt + 128 * lap) := fun lap h => by omega
    exact nn _ hlap
  · exact q _ (maskB _).1 (maskB _).2
end
end Mix

namespace Mix
open PySem L2
/-! is it a whole number: the same def in many laws -/
def spWhole : Sp := fun vs H Q _ => ∃ n : Int, vs = [.int n] ∧ Q (.bl true) H
theorem kit_ll (K : PySem.W.Frag) : PySem.W.kitOne K (.type "list") (.type "list") = some true := by rfl
section
variable {P : Program} {w : World} {K : PySem.W.Frag} {mg : Str → Option Value} {base : Heap}
theorem sc_law_whole : FnScope ["_law_found"] ["_law_found"] (defScope sWhole) := ⟨rfl, rfl, rfl, by decide +kernel, rfl, by decide +kernel, by decide +kernel⟩
theorem ok_whole {f : Addr} {fd : FuncData} (F : Fun K "_law_whole" "_law_whole" sWhole f fd) (m_isinstance : mg "isinstance" = none) (m_int : mg "int" = none) (m_bool : mg "bool" = none) : FnOk P w K mg base CX0 1 f fd ["_law_found"] spWhole := by
  refine F.ok sc_law_whole (fun vs H Q E h => ?_) (fun cdv A outer s H vs Q E hr h => ?_)
  · obtain ⟨n, rfl, _⟩ := h
    rfl
  obtain ⟨n, rfl, q⟩ := h
  refine ⟨_, (pss_one (ps_ret (pe_and (pe_callB call_isinst rfl m_isinstance PyProof.Rows.boot_isinstance (pa_cons (pv 0) (pa_cons (pe_bltn (v := .ty "int") rfl m_int PyProof.Rows.boot_int rfl) pa_nil))) (pe_one (pe_not (pe_callB call_isinst rfl m_isinstance PyProof.Rows.boot_isinstance (pa_cons (pv 0) (pa_cons (pe_bltn (v := .ty "bool") rfl m_bool PyProof.Rows.boot_bool rfl) pa_nil)))))))), ?_⟩
  refine ⟨_, rfl, _, "int", _, true, rfl, .int n, kit_ii K, _, rfl, ifT rfl ?_⟩
  exact ⟨_, rfl, _, "bool", _, false, rfl, .int n, kit_ib K, _, rfl, q⟩
end
end Mix

namespace Mix
open PySem L2 Gds
/-! rows of numbers, where no parents stand in the law -/
def pV : Option Nat → V
  | none => .non
  | some j => .int (j : Int)
def natsV (s : List Nat) : List V := s.map fun j : Nat => V.int (j : Int)
theorem cut_take (xs : List V) {d : Int} (h : 0 ≤ d) : cutV xs none (some d) = xs.take d.toNat := by
  show (xs.drop 0).take ((if d < 0 then (d + (xs.length : Int)).toNat else min d.toNat xs.length) - 0) = _
  rw [if_neg (by omega), List.drop_zero, Nat.sub_zero, List.take_eq_take_iff]
  omega
end Mix

namespace Mix
open PySem L2 Gds Rms
/-! openings: small facts -/
theorem nats_flat (os : List Nat) : (natsV os).all flatV = true := by
  rw [List.all_eq_true]
  intro x hx
  obtain ⟨n, _, rfl⟩ := List.mem_map.mp hx
  rfl
theorem nats_in {os : List Nat} {j : Int} (h : inV (.int j) (natsV os) = true) : ∃ o ∈ os, (o : Int) = j := by
  unfold inV natsV at h
  rw [List.any_map, List.any_eq_true] at h
  obtain ⟨o, ho, e⟩ := h
  exact ⟨o, ho, by simpa [eqV] using e⟩
theorem natsV_at {os : List Nat} {i : Int} (h0 : 0 ≤ i) (h1 : i < (os.length : Int)) : ∃ o ∈ os, atI (natsV os) i = some (.int (o : Int)) := by
  obtain ⟨v, hv, e⟩ := atI_some (xs := natsV os) (i := i) h0 (by unfold natsV; rw [List.length_map]; exact h1)
  obtain ⟨o, ho, rfl⟩ := List.mem_map.mp hv
  exact ⟨o, ho, e⟩
theorem natsV_len (os : List Nat) : (natsV os).length = os.length := List.length_map _
theorem natsV_app (os : List Nat) (k : Nat) : natsV os ++ [.int (k : Int)] = natsV (os ++ [k]) := by
  unfold natsV
  rw [List.map_append]
  rfl
end Mix

namespace Prg
open PySem L2 Mix Gds Rms
/-! rows of the numbers of rooms -/
theorem filter_succ {os : List Nat} {f : Nat → Bool} {i o : Nat} (h : os[i]? = some o) : (os.take (i + 1)).filter f = (os.take i).filter f ++ (if f o = true then [o] else []) := by
  rw [List.take_add_one, h, List.filter_append]
  congr 1
  show [o].filter f = _
  rw [List.filter_cons]
  split <;> rfl
theorem natsV_get {os : List Nat} {i : Nat} {x : V} (h : (natsV os)[i]? = some x) : ∃ hi : i < os.length, x = .int ((os[i] : Nat) : Int) := by
  have hi : i < os.length := by
    have := (List.getElem?_eq_some_iff.mp h).1
    rw [natsV_len] at this
    exact this
  refine ⟨hi, ?_⟩
  unfold natsV at h
  rw [List.getElem?_map, List.getElem?_eq_getElem hi] at h
  exact (Option.some.inj h).symm
end Prg

namespace K02
open PySem L2 Mix Gds
abbrev sHolds : Stmt := Mix.top 1
abbrev sBoxes : Stmt := Mix.top 5
abbrev sNearF : Stmt := Mix.top 6
abbrev sLeaf : Stmt := Mix.top 7
abbrev sPile : Stmt := Mix.top 8
abbrev sLaw : Stmt := Mix.top 9
def spHolds (n : Nat) : Sp := fun vs H Q _ => ∃ (vg : V) (o b : Addr) (g : Gd) (op bx : List Int), vs = [vg, .ref o, .ref b] ∧ GdIn H vg g ∧ H o = some (.tup (op.map V.int)) ∧ H b = some (.tup (bx.map V.int)) ∧ g.ok bx.length ∧ g.ht ≤ n ∧ Q (.bl (g.holds op bx)) H
section
variable {P : Program} {w : World} {K : PySem.W.Frag} {mg : Str → Option Value} {base : Heap}
theorem sc_holds : FnScope ["guard", "opening", "boxes", "kind"] ["guard", "opening", "boxes"] (defScope sHolds) := ⟨rfl, rfl, rfl, by decide +kernel, rfl, by decide +kernel, by decide +kernel⟩
theorem ok_holds {n : Nat} {f : Addr} {fd : FuncData} (F : Fun K "holds" "holds" sHolds f fd) (G_holds : FnOk P w K mg base CX0 n f fd ["guard", "opening", "boxes"] (spHolds n)) (b_holds : Binds K fd ["guard", "opening", "boxes"] []) (k_holds : PySem.W.keepIn K (.ref f) = true) (m_holds : mg "holds" = some (.ref f)) :
    FnOk P w K mg base CX0 (n + 1) f fd ["guard", "opening", "boxes"] (spHolds (n + 1)) := by
  refine F.ok sc_holds (fun vs H Q E h => ?_) (fun cdv A outer s H vs Q E hr h => ?_)
  · obtain ⟨vg, o, b, g, op, bx, rfl, _⟩ := h
    rfl
  obtain ⟨vg, o, b, g, op, bx, rfl, hg, ho, hb, hok, hht, q⟩ := h
  refine ⟨_, (pss_cons (ps_set (i := 3) sc_holds.nd rfl (Or.inl rfl) (pe_ix ix_tup (pv 0) pe_int (fun _ _ => rfl)))
    (pss_cons (ps_if (pt_cmpR op_eq (pv 3) pe_str (nomark _))
      (pss_one (ps_ret pe_bl))
      pss_nil)
    (pss_cons (ps_if (pt_cmpR op_eq (pv 3) pe_str (nomark _))
      (pss_one (ps_ret (pe_cmpR op_eq (pe_ix ix_tup (pv 2) (pe_ix ix_tup (pv 0) pe_int (fun _ _ => rfl)) (fun _ _ => rfl)) (pe_ix ix_tup (pv 0) pe_int (fun _ _ => rfl)) (nomark _))))
      pss_nil)
    (pss_cons (ps_if (pt_cmpR op_eq (pv 3) pe_str (nomark _))
      (pss_one (ps_ret (pe_cmpR op_lt (pe_ix ix_tup (pv 2) (pe_ix ix_tup (pv 0) pe_int (fun _ _ => rfl)) (fun _ _ => rfl)) (pe_ix ix_tup (pv 0) pe_int (fun _ _ => rfl)) (nomark _))))
      pss_nil)
    (pss_cons (ps_if (pt_cmpR op_eq (pv 3) pe_str (nomark _))
      (pss_one (ps_ret (pe_cmpR op_in_seq (pe_ix ix_tup (pv 0) pe_int (fun _ _ => rfl)) (pv 1) rfl)))
      pss_nil)
    (pss_cons (ps_if (pt_cmpR op_eq (pv 3) pe_str (nomark _))
      (pss_one (ps_ret (pe_not (pe_call G_holds hr rfl m_holds k_holds b_holds .nil pass0 (pa_cons (pe_ix ix_tup (pv 0) pe_int (fun _ _ => rfl)) (pa_cons (pv 1) (pa_cons (pv 2) pa_nil)))))))
      pss_nil)
    (pss_cons (ps_if (pt_cmpR op_eq (pv 3) pe_str (nomark _))
      (pss_one (ps_ret (pe_and (pe_call G_holds hr rfl m_holds k_holds b_holds .nil pass0 (pa_cons (pe_ix ix_tup (pv 0) pe_int (fun _ _ => rfl)) (pa_cons (pv 1) (pa_cons (pv 2) pa_nil)))) (pe_one (pe_call G_holds hr rfl m_holds k_holds b_holds .nil pass0 (pa_cons (pe_ix ix_tup (pv 0) pe_int (fun _ _ => rfl)) (pa_cons (pv 1) (pa_cons (pv 2) pa_nil))))))))
      pss_nil)
    (pss_one (ps_ret (pe_or (pe_call G_holds hr rfl m_holds k_holds b_holds .nil pass0 (pa_cons (pe_ix ix_tup (pv 0) pe_int (fun _ _ => rfl)) (pa_cons (pv 1) (pa_cons (pv 2) pa_nil)))) (pe_one (pe_call G_holds hr rfl m_holds k_holds b_holds .nil pass0 (pa_cons (pe_ix ix_tup (pv 0) pe_int (fun _ _ => rfl)) (pa_cons (pv 1) (pa_cons (pv 2) pa_nil))))))))))))))), ?_⟩
  cases hg with
  | @yes a e =>
    exact ⟨_, rfl, a, _, _, _, rfl, rfl, SqT.of e, rfl, _, rfl, rfl, _, rfl, strEq q⟩
  | @is a c m e =>
    refine ⟨_, rfl, a, _, _, _, rfl, rfl, SqT.of e, rfl, _, rfl, rfl, _, rfl, strNe (by decide +kernel) ⟨_, rfl, rfl, _, rfl, strEq ?_⟩⟩
    exact ⟨_, rfl, _, rfl, a, _, _, _, rfl, rfl, SqT.of e, rfl, b, _, _, _, rfl, rfl, SqT.of hb, at0_at hok.1 hok.2, _, rfl, a, _, _, _, rfl, rfl, SqT.of e, rfl, rfl, q⟩
  | @under a c m e =>
    refine ⟨_, rfl, a, _, _, _, rfl, rfl, SqT.of e, rfl, _, rfl, rfl, _, rfl, strNe (by decide +kernel) ⟨_, rfl, rfl, _, rfl, strNe (by decide +kernel) ⟨_, rfl, rfl, _, rfl, strEq ?_⟩⟩⟩
    exact ⟨_, rfl, _, rfl, a, _, _, _, rfl, rfl, SqT.of e, rfl, b, _, _, _, rfl, rfl, SqT.of hb, at0_at hok.1 hok.2, _, rfl, a, _, _, _, rfl, rfl, SqT.of e, rfl, _, _, rfl, rfl, q⟩
  | @inn a r e =>
    refine ⟨_, rfl, a, _, _, _, rfl, rfl, SqT.of e, rfl, _, rfl, rfl, _, rfl, strNe (by decide +kernel) ⟨_, rfl, rfl, _, rfl, strNe (by decide +kernel) ⟨_, rfl, rfl, _, rfl, strNe (by decide +kernel) ⟨_, rfl, rfl, _, rfl, strEq ?_⟩⟩⟩⟩
    exact ⟨_, rfl, a, _, _, _, rfl, rfl, SqT.of e, rfl, _, rfl, o, _, rfl, .inr (SqT.of ho), rfl, ints_flat op, q⟩
  | @neg a v g e hg =>
    have h1 : g.ht + 1 ≤ n + 1 := hht
    refine ⟨_, rfl, a, _, _, _, rfl, rfl, SqT.of e, rfl, _, rfl, rfl, _, rfl, strNe (by decide +kernel) ⟨_, rfl, rfl, _, rfl, strNe (by decide +kernel) ⟨_, rfl, rfl, _, rfl, strNe (by decide +kernel) ⟨_, rfl, rfl, _, rfl, strNe (by decide +kernel) ⟨_, rfl, rfl, _, rfl, strEq ?_⟩⟩⟩⟩⟩
    exact ⟨_, rfl, a, _, _, _, rfl, rfl, SqT.of e, rfl, _, rfl, _, rfl, v, o, b, g, op, bx, rfl, hg, ho, hb, hok, by omega, _, rfl, q⟩
  | @both a v u g h e hg hh =>
    have h1 : 1 + max g.ht h.ht ≤ n + 1 := hht
    refine ⟨_, rfl, a, _, _, _, rfl, rfl, SqT.of e, rfl, _, rfl, rfl, _, rfl, strNe (by decide +kernel) ⟨_, rfl, rfl, _, rfl, strNe (by decide +kernel) ⟨_, rfl, rfl, _, rfl, strNe (by decide +kernel) ⟨_, rfl, rfl, _, rfl, strNe (by decide +kernel) ⟨_, rfl, rfl, _, rfl, strNe (by decide +kernel) ⟨_, rfl, rfl, _, rfl, strEq ?_⟩⟩⟩⟩⟩⟩
    refine ⟨_, rfl, a, _, _, _, rfl, rfl, SqT.of e, rfl, _, rfl, _, rfl, v, o, b, g, op, bx, rfl, hg, ho, hb, hok.1, by omega, _, rfl, ?_⟩
    have q' : Q (.bl (g.holds op bx && h.holds op bx)) H := q
    refine ite2 (fun c => ?_) (fun c => ?_)
    · rw [c, Bool.true_and] at q'
      exact ⟨_, rfl, a, _, _, _, rfl, rfl, SqT.of e, rfl, _, rfl, _, rfl, u, o, b, h, op, bx, rfl, hh, ho, hb, hok.2, by omega, q'⟩
    · rw [Bool.eq_false_iff.mpr c, Bool.false_and] at q'
      exact q'
  | @either a v u g h e hg hh =>
    have h1 : 1 + max g.ht h.ht ≤ n + 1 := hht
    refine ⟨_, rfl, a, _, _, _, rfl, rfl, SqT.of e, rfl, _, rfl, rfl, _, rfl, strNe (by decide +kernel) ⟨_, rfl, rfl, _, rfl, strNe (by decide +kernel) ⟨_, rfl, rfl, _, rfl, strNe (by decide +kernel) ⟨_, rfl, rfl, _, rfl, strNe (by decide +kernel) ⟨_, rfl, rfl, _, rfl, strNe (by decide +kernel) ⟨_, rfl, rfl, _, rfl, strNe (by decide +kernel) ?_⟩⟩⟩⟩⟩⟩
    refine ⟨_, rfl, a, _, _, _, rfl, rfl, SqT.of e, rfl, _, rfl, _, rfl, v, o, b, g, op, bx, rfl, hg, ho, hb, hok.1, by omega, _, rfl, ?_⟩
    have q' : Q (.bl (g.holds op bx || h.holds op bx)) H := q
    refine ite2 (fun c => ?_) (fun c => ?_)
    · rw [c, Bool.true_or] at q'
      exact q'
    · rw [Bool.eq_false_iff.mpr c, Bool.false_or] at q'
      exact ⟨_, rfl, a, _, _, _, rfl, rfl, SqT.of e, rfl, _, rfl, _, rfl, u, o, b, h, op, bx, rfl, hh, ho, hb, hok.2, by omega, q'⟩
theorem none_holds {f : Addr} {fd : FuncData} : FnOk P w K mg base CX0 0 f fd ["guard", "opening", "boxes"] (spHolds 0) := by
  have no : ∀ vs H Q E, ¬ spHolds 0 vs H Q E := fun vs H Q E h => by
    obtain ⟨vg, o, b, g, op, bx, _, _, _, _, _, h2, _⟩ := h
    have := g.ht_pos
    omega
  exact ⟨fun vs H Q E h => absurd h (no vs H Q E), fun A outer s H args us vs Q E _ _ _ _ h => absurd h (no vs H Q E)⟩
theorem all_holds {f : Addr} {fd : FuncData} (F : Fun K "holds" "holds" sHolds f fd) (b_holds : Binds K fd ["guard", "opening", "boxes"] []) (m_holds : mg "holds" = some (.ref f)) : ∀ n : Nat, FnOk P w K mg base CX0 n f fd ["guard", "opening", "boxes"] (spHolds n)
  | 0 => none_holds
  | n + 1 => ok_holds F (all_holds F b_holds m_holds n) b_holds F.kp m_holds
end
end K02

namespace Ans
open PySem L2 Mix Gds
/-! which door a room answers by -/
inductive Al {α : Type} (R : V → α → Prop) : List V → List α → Prop where
  | nil : Al R [] []
  | cons {v : V} {r : α} {vs : List V} {rs : List α} : R v r → Al R vs rs → Al R (v :: vs) (r :: rs)
theorem Al.mono {α : Type} {R R' : V → α → Prop} {vs : List V} {rs : List α} (x : Al R vs rs) (k : ∀ v r, R v r → R' v r) : Al R' vs rs := by
  induction x with
  | nil => exact .nil
  | cons h _ ih => exact .cons (k _ _ h) ih
theorem Al.length {α : Type} {R : V → α → Prop} {vs : List V} {rs : List α} (x : Al R vs rs) : vs.length = rs.length := by
  induction x with
  | nil => rfl
  | cons _ _ ih => rw [List.length_cons, List.length_cons, ih]
theorem Al.snoc {α : Type} {R : V → α → Prop} {vs : List V} {rs : List α} {v : V} {r : α} (x : Al R vs rs) (y : R v r) : Al R (vs ++ [v]) (rs ++ [r]) := by
  induction x with
  | nil => exact .cons y .nil
  | cons h _ ih => exact .cons h ih
theorem Al.get {α : Type} {R : V → α → Prop} {vs : List V} {rs : List α} (x : Al R vs rs) : ∀ {k : Nat} {r : α}, rs[k]? = some r → ∃ v, vs[k]? = some v ∧ R v r := by
  induction x with
  | nil => intro k r h; simp at h
  | cons h _ ih =>
    intro k r e
    cases k with
    | zero =>
      simp at e
      subst e
      exact ⟨_, rfl, h⟩
    | succ k => exact ih (by simpa using e)
structure Dg where
  room : Int
  ev : Int
  g : Gd
def DgIn (H : Hp) (v : V) (d : Dg) : Prop := ∃ (a : Addr) (gv x3 x4 x5 : V), v = .ref a ∧ H a = some (.tup [.int d.room, .int d.ev, gv, x3, x4, x5]) ∧ GdIn H gv d.g
theorem DgIn.mono {H H' : Hp} {v : V} {d : Dg} (x : DgIn H v d) (k : KeepT H H') : DgIn H' v d := by
  obtain ⟨a, gv, x3, x4, x5, e, h, g⟩ := x
  exact ⟨a, gv, x3, x4, x5, e, k _ _ h, g.mono k⟩
def hit (op bx : List Int) (room ev : Int) (d : Dg) : Bool := decide (V.int d.room = V.int room) && (decide (V.int d.ev = V.int ev) && d.g.holds op bx)
def fst (op bx : List Int) (room ev : Int) : List Dg → Nat → Option Nat
  | [], _ => none
  | d :: r, b => if hit op bx room ev d = true then some b else fst op bx room ev r (b + 1)
theorem fst_snoc (op bx : List Int) (room ev : Int) (d : Dg) : ∀ (ds : List Dg) (b : Nat), fst op bx room ev (ds ++ [d]) b = match fst op bx room ev ds b with
    | some k => some k
    | none => if hit op bx room ev d = true then some (b + ds.length) else none
  | [], b => by
    show (if hit op bx room ev d = true then some b else none) = _
    rfl
  | x :: ds, b => by
    show (if hit op bx room ev x = true then some b else fst op bx room ev (ds ++ [d]) (b + 1)) = match (if hit op bx room ev x = true then some b else fst op bx room ev ds (b + 1)) with
      | some k => some k
      | none => if hit op bx room ev d = true then some (b + (ds.length + 1)) else none
    by_cases h : hit op bx room ev x = true
    · rw [if_pos h, if_pos h]
    · rw [if_neg h, if_neg h, fst_snoc op bx room ev d ds (b + 1), show b + 1 + ds.length = b + (ds.length + 1) by omega]
def ansOf (op bx : List Int) (ds : List Dg) (room ev : Int) : Option Nat := if inV (.int room) (op.map V.int) = true then fst op bx room ev ds 0 else none
theorem ans_snoc (op bx : List Int) (ds : List Dg) (d : Dg) (room ev : Int) : ansOf op bx (ds ++ [d]) room ev = if inV (.int room) (op.map V.int) = true ∧ ansOf op bx ds room ev = none ∧ hit op bx room ev d = true then some ds.length else ansOf op bx ds room ev := by
  unfold ansOf
  by_cases h : inV (.int room) (op.map V.int) = true
  · rw [if_pos h, if_pos h, fst_snoc, Nat.zero_add]
    cases fst op bx room ev ds 0 with
    | some k =>
      show some k = if _ then _ else some k
      rw [if_neg (fun z => by cases z.2.1)]
    | none =>
      show (if hit op bx room ev d = true then some ds.length else none) = if (inV (.int room) (op.map V.int) = true ∧ (none : Option Nat) = none ∧ hit op bx room ev d = true) then some ds.length else none
      by_cases y : hit op bx room ev d = true
      · rw [if_pos y, if_pos ⟨h, rfl, y⟩]
      · rw [if_neg y, if_neg (fun z => y z.2.2)]
  · rw [if_neg h, if_neg h, if_neg (fun z => h z.1)]
theorem ints_flat (os : List Int) : (os.map V.int).all flatV = true := by
  rw [List.all_eq_true]
  intro x hx
  obtain ⟨n, _, rfl⟩ := List.mem_map.mp hx
  rfl
def oV : Option Nat → V
  | none => .non
  | some j => .int (j : Int)
def spAnswers (n : Nat) : Sp := fun vs H Q _ => ∃ (pc pst pd o b : Addr) (op bx : List Int) (ds : List Dg) (dv : List V) (x0 x1 x2 x3 x4 x5 x : V) (ev : Int), vs = [.ref pc, .ref pst, .int ev] ∧ H pc = some (.tup [x0, x1, x2, x3, x4, x5, .ref pd]) ∧ H pd = some (.tup dv) ∧ Al (DgIn H) dv ds ∧ H pst = some (.tup [.ref o, .ref b, x]) ∧ H o = some (.tup (op.map V.int)) ∧ H b = some (.tup (bx.map V.int)) ∧ (∀ d ∈ ds, d.g.ok bx.length ∧ d.g.ht ≤ n) ∧ ds.length ≤ 1000 ∧
  ∀ (p : Addr) (kvs : List (Key × V)) (H' : Hp), Same H H' → H' p = some (.dK kvs) → (∀ r : Int, valV kvs (Sum.inl r) = (ansOf op bx ds r ev).map fun k : Nat => V.int (k : Int)) → (∃ ks : List Int, kvs.map (·.1) = ks.map Sum.inl ∧ ks.length ≤ ds.length) → H p = none → Q (.ref p) H'
section
variable {P : Program} {w : World} {K : PySem.W.Frag} {mg : Str → Option Value} {base : Heap}
theorem sc_answers : FnScope ["chart", "stand", "event", "opening", "by_room", "number", "door", "room"] ["chart", "stand", "event"] (defScope sAnswers) := ⟨rfl, rfl, rfl, by decide +kernel, rfl, by decide +kernel, by decide +kernel⟩
theorem ok_answers {n : Nat} {f gh : Addr} {fd dh : FuncData} (F : Fun K "answers" "answers" sAnswers f fd) (G_holds : FnOk P w K mg base CX0 n gh dh ["guard", "opening", "boxes"] (K02.spHolds n)) (b_holds : Binds K dh ["guard", "opening", "boxes"] []) (k_holds : PySem.W.keepIn K (.ref gh) = true) (m_holds : mg "holds" = some (.ref gh))
    (m_enumerate : mg "enumerate" = none) : FnOk P w K mg base CX0 (n + 1) f fd ["chart", "stand", "event"] (spAnswers n) := by
  refine F.ok sc_answers (fun vs H Q E h => ?_) (fun cdv A outer s H vs Q E hr h => ?_)
  · obtain ⟨pc, pst, pd, o, b, op, bx, ds, dv, x0, x1, x2, x3, x4, x5, x, ev, rfl, _⟩ := h
    rfl
  obtain ⟨pc, pst, pd, o, b, op, bx, ds, dv, x0, x1, x2, x3, x4, x5, x, ev, rfl, hpc, hpd, hds, hst, ho, hb, hok, l1000, q⟩ := h
  have hu := Nat.lt_of_le_of_lt (Nat.add_le_add_left (show 1 ≤ 64 by decide) _) hr.units
  refine ⟨_, (pss_cons (ps_set (i := 3) sc_answers.nd rfl (Or.inl rfl) (pe_ix ix_tup (pv 1) pe_int (fun _ _ => rfl)))
    (pss_cons (ps_set (i := 4) sc_answers.nd rfl (Or.inl rfl) pe_dnewK)
    (pss_cut (ps_for PassesOwn.never rfl (pi_enum rfl m_enumerate (pa_cons (pe_ix ix_tup (pv 0) pe_int (fun _ _ => rfl)) pa_nil)) (pg_tup rfl (pgs_cons (pg_name (i := 5) sc_answers.nd rfl (Or.inl rfl)) (pgs_cons (pg_name (i := 6) sc_answers.nd rfl (Or.inl rfl)) pgs_nil)))
      (pss_cons (ps_set (i := 7) sc_answers.nd rfl (Or.inl rfl) (pe_ix ix_tup (pv 6) pe_int (fun _ _ => rfl)))
      (pss_one (ps_if (pt_cut (PW.pt (pw_and (pt_cmpR op_eq (pe_ix ix_tup (pv 6) pe_int (fun _ _ => rfl)) (pv 2) (nomark _)) (pw_and (pt_cmpR op_in_seq (pv 7) (pv 3) rfl) (pw_and (pt_cmp (pc_dnotin hu (pv 7) (pv 4))) (pw_and1 (pt_val (pe_call G_holds hr rfl m_holds k_holds b_holds .nil pass0 (pa_cons (pe_ix ix_tup (pv 6) pe_int (fun _ _ => rfl)) (pa_cons (pv 3) (pa_cons (pe_ix ix_tup (pv 1) pe_int (fun _ _ => rfl)) pa_nil)))))))))))
        (pss_one (ps_dput hu (pv 4) (pv 7) (pv 5) rfl))
        pss_nil))))
    (pss_one (ps_ret (pv 4)))))), ?_⟩
  have ldv := hds.length
  refine ⟨_, rfl, pst, _, _, _, rfl, rfl, SqT.of hst, rfl, fun pb hpb => ?_⟩
  have s1 := same_new hpb (.dK [])
  refine ⟨fun σ' H' => ∃ kvs : List (Key × V), Same H H' ∧ H' pb = some (.dK kvs) ∧ (∀ r : Int, valV kvs (Sum.inl r) = (ansOf op bx ds r ev).map fun k : Nat => V.int (k : Int)) ∧ (∃ ks : List Int, kvs.map (·.1) = ks.map Sum.inl ∧ ks.length ≤ ds.length) ∧ ∃ o5 o6 o7 : Option V, σ' = [some (.ref pc), some (.ref pst), some (.int ev), some (.ref o), some (.ref pb), o5, o6, o7], ?_, ?_⟩
  · refine ⟨_, rfl, pc, _, _, _, rfl, rfl, SqT.of (s1 _ _ hpc), rfl, pd, rfl, ⟨_, SqT.of (s1 _ _ hpd)⟩, ?_⟩
    refine for_enum (K := K) (a := pd) (xs := dv) (fun i σ' H' => ∃ kvs : List (Key × V), Same H H' ∧ H' pb = some (.dK kvs) ∧ (∃ ks : List Int, kvs.map (·.1) = ks.map Sum.inl ∧ ks.length ≤ i) ∧ (∀ r : Int, valV kvs (Sum.inl r) = (ansOf op bx (ds.take i) r ev).map fun k : Nat => V.int (k : Int)) ∧ ∃ o5 o6 o7 : Option V, σ' = [some (.ref pc), some (.ref pst), some (.int ev), some (.ref o), some (.ref pb), o5, o6, o7])
      ⟨[], s1, upd_same, ⟨[], rfl, Nat.le_refl _⟩, (fun r => by
        unfold ansOf
        rw [List.take_zero]
        split <;> rfl), _, _, _, rfl⟩ (fun i σ' H' _ ⟨_, s', _⟩ => SqT.of (s' _ _ hpd)) ?_ ?_
    · rintro i x' σ' H3 t1 hx ⟨kvs, s3, h3, ⟨ks, hks, lks⟩, hv3, o5, o6, o7, rfl⟩ ht1
      have l3 : kvs.length ≤ i := by
        have := congrArg List.length hks
        rw [List.length_map, List.length_map] at this
        omega
      have hi : i < ds.length := by
        have := (List.getElem?_eq_some_iff.mp hx).1
        omega
      have ed := List.getElem?_eq_getElem hi
      obtain ⟨v, hv, ad, gv, y3, y4, y5, rfl, had, hgd⟩ := hds.get ed
      rw [hv] at hx
      obtain rfl := Option.some.inj hx
      have hgk := hok _ (List.getElem_mem hi)
      generalize hdd : ds[i] = d at had hgd hgk ed
      have et : ds.take (i + 1) = ds.take i ++ [d] := by
        rw [List.take_add_one, ed]
        rfl
      have elt : (ds.take i).length = i := by
        rw [List.length_take]
        omega
      have s4 := s3.trans (same_new ht1 (.tup [.int (i : Int), .ref ad]))
      have h4 := (same_new ht1 (.tup [.int (i : Int), .ref ad])) _ _ h3
      refine ⟨t1, _, rfl, SqT.of upd_same, rfl, _, _, rfl, _, _, rfl, rfl, ?_⟩
      generalize upd H3 t1 (.tup [.int (i : Int), .ref ad]) = H4 at s4 h4 ⊢
      refine ⟨_, rfl, ad, _, _, _, rfl, rfl, SqT.of (s4 _ _ had), rfl, ?_⟩
      refine ⟨fun c H' => H' = H4 ∧ c = (decide (V.int d.ev = V.int ev) && (inV (.int d.room) (op.map V.int) && (!(valV kvs (Sum.inl d.room)).isSome && d.g.holds op bx))), ?_, ?_⟩
      · refine ⟨_, rfl, ad, _, _, _, rfl, rfl, SqT.of (s4 _ _ had), rfl, _, rfl, rfl, _, rfl, itB (fun c1 => ?_) (fun c1 => ⟨rfl, ?_⟩)⟩
        · have c1 : decide (V.int d.ev = V.int ev) = true := c1
          rw [c1, Bool.true_and]
          refine ⟨_, rfl, _, rfl, o, _, rfl, .inr (SqT.of (s4 _ _ ho)), rfl, ints_flat op, _, rfl, itB (fun c2 => ?_) (fun c2 => ⟨rfl, ?_⟩)⟩
          · have c2 : inV (.int d.room) (op.map V.int) = true := c2
            rw [c2, Bool.true_and]
            refine ⟨_, rfl, _, rfl, pb, _, rfl, DGet.k (k := Sum.inl d.room) h4, _, rfl, itB (fun c3 => ?_) (fun c3 => ⟨rfl, ?_⟩)⟩
            · rw [c3, Bool.true_and]
              exact ⟨_, rfl, ad, _, _, _, rfl, rfl, SqT.of (s4 _ _ had), rfl, _, rfl, _, rfl, pst, _, _, _, rfl, rfl, SqT.of (s4 _ _ hst), rfl, gv, o, b, d.g, op, bx, rfl, hgd.mono (KeepT.of s4), s4 _ _ ho, s4 _ _ hb, hgk.1, hgk.2, _, rfl, rfl, rfl⟩
            · rw [c3]
              rfl
          · have c2 : inV (.int d.room) (op.map V.int) = false := c2
            rw [c2]
            rfl
        · have c1 : decide (V.int d.ev = V.int ev) = false := c1
          rw [c1]
          rfl
      rintro c H5 ⟨rfl, hc⟩
      refine itB (fun c1 => ?_) (fun c1 => ?_)
      · rw [c1] at hc
        have hc' := hc.symm
        simp only [Bool.and_eq_true, Bool.not_eq_true'] at hc'
        obtain ⟨e1, e2, e3, e4⟩ := hc'
        have e5 : ansOf op bx (ds.take i) d.room ev = none := by
          have := hv3 d.room
          cases z : ansOf op bx (ds.take i) d.room ev with
          | none => rfl
          | some k =>
            rw [z] at this
            rw [this] at e3
            cases e3
        refine ⟨_, rfl, _, rfl, _, rfl, pb, _, rfl, DPut.k (k := Sum.inl d.room) h4 (small1000 (by omega)), putK kvs (Sum.inl d.room) (.int (i : Int)), same_upd hpb s4 _, upd_same, ⟨ks ++ [d.room], by rw [putK_new _ (by have := hv3 d.room; rw [e5] at this; exact this), List.map_append, List.map_append, hks]; rfl, by rw [List.length_append]; simp; omega⟩, fun r => ?_, _, _, _, rfl⟩
        rw [valV_put, et, ans_snoc, elt]
        by_cases z : (Sum.inl r : Key) = Sum.inl d.room
        · have z' : r = d.room := by injection z
          subst z'
          rw [if_pos rfl, if_pos ⟨e2, e5, by
            unfold hit
            rw [decide_eq_true rfl, e1, e4]
            rfl⟩]
          rfl
        · rw [if_neg z, if_neg (fun y => z (by
            have y2 := y.2.2
            unfold hit at y2
            simp only [Bool.and_eq_true] at y2
            have y3 := of_decide_eq_true y2.1
            injection y3 with y4
            rw [y4]))]
          exact hv3 r
      · rw [c1] at hc
        refine ⟨kvs, s4, h4, ⟨ks, hks, by omega⟩, fun r => ?_, _, _, _, rfl⟩
        rw [et, ans_snoc, if_neg (fun y => ?_)]
        · exact hv3 r
        · obtain ⟨y1, y2, y3⟩ := y
          unfold hit at y3
          simp only [Bool.and_eq_true] at y3
          obtain ⟨z1, z2, z3⟩ := y3
          have z4 := of_decide_eq_true z1
          injection z4 with z5
          subst z5
          have := hv3 d.room
          rw [y2] at this
          rw [z2, y1, this, z3] at hc
          cases hc
    · rintro σ' H3 ⟨kvs, s3, h3, ⟨ks, hks, lks⟩, hv3, r⟩
      rw [List.take_of_length_le (by omega)] at hv3
      exact ⟨kvs, s3, h3, hv3, ⟨ks, hks, by omega⟩, r⟩
  rintro σ' H3 ⟨kvs, s3, h3, hv3, hks, o5, o6, o7, rfl⟩
  exact ⟨_, rfl, q pb kvs H3 s3 h3 hv3 hks hpb⟩
end
end Ans

namespace Prg
open PySem L2 Mix Gds Rms
def spEnd : Sp := fun vs H Q _ => ∃ (t : Addr) (rs : List Rm) (k : Nat), vs = [.ref t, .int (k : Int)] ∧ Rooms H t rs ∧ rs.length ≤ 40 ∧ k < rs.length ∧ ∀ e : Nat, Tr.EndOf (depths rs) k e → Q (.int (e : Int)) H
section
variable {P : Program} {w : World} {K : PySem.W.Frag} {mg : Str → Option Value} {base : Heap}
theorem sc_end_of : FnScope ["rooms", "room", "depth", "other"] ["rooms", "room"] (defScope sEndOf) := ⟨rfl, rfl, rfl, by decide +kernel, rfl, by decide +kernel, by decide +kernel⟩
theorem ok_end {f : Addr} {fd : FuncData} (F : Fun K "end_of" "end_of" sEndOf f fd) (m_range : mg "range" = none) (m_len : mg "len" = none) : FnOk P w K mg base CX0 1 f fd ["rooms", "room"] spEnd := by
  refine F.ok sc_end_of (fun vs H Q E h => ?_) (fun cdv A outer s H vs Q E hr h => ?_)
  · obtain ⟨t, rs, k, rfl, _⟩ := h
    rfl
  obtain ⟨t, rs, k, rfl, hR, h40, hk, q⟩ := h
  refine ⟨_, (pss_cons (ps_set (i := 2) sc_end_of.nd rfl (Or.inl rfl) (pe_ix ix_tup (pe_ix ix_tup (pv 0) (pv 1) (fun _ _ => rfl)) pe_int (fun _ _ => rfl)))
    (pss_cut (ps_for PassesOwn.never rfl (pi_range2 rfl m_range (pa_cons (pe_op op_add (pv 1) pe_int) (pa_cons (pe_callB call_len_seq rfl m_len PySem.boot_len (pa_cons (pv 0) pa_nil)) pa_nil))) (pg_name (i := 3) sc_end_of.nd rfl (Or.inl rfl))
      (pss_one (ps_if (pt_cmpR op_le (pe_ix ix_tup (pe_ix ix_tup (pv 0) (pv 3) (fun _ _ => rfl)) pe_int (fun _ _ => rfl)) (pv 2) (nomark _))
        (pss_one (ps_ret (pv 3)))
        pss_nil)))
    (pss_one (ps_ret (pe_callB call_len_seq rfl m_len PySem.boot_len (pa_cons (pv 0) pa_nil)))))), ?_⟩
  obtain ⟨vs, a, r, ht, hl, hr0, hat, ha⟩ := hR.at hk
  have ed := depths_at hr0
  have dl := depths_len rs
  refine ⟨_, rfl, _, rfl, t, vs, _, _, rfl, rfl, SqT.of ht, hat, a, _, _, _, rfl, rfl, SqT.of ha, rfl, ?_⟩
  refine ⟨fun σ' H' => H' = H ∧ Tr.EndOf (depths rs) k rs.length ∧ ∃ o3 : Option V, σ' = [some (.ref t), some (.int (k : Int)), some (.int r.depth), o3], ?_, ?_⟩
  · refine ⟨_, rfl, _, _, rfl, rfl, _, rfl, t, _, rfl, .inr (SqT.of ht), _, _, rfl, ⟨by omega, by omega, by omega, by omega⟩, ?_⟩
    refine for_range (fun i σ' H' => H' = H ∧ (∀ j, k < j → j < k + 1 + i → (depths rs).getD k 0 < (depths rs).getD j 0) ∧ ∃ o3 : Option V, σ' = [some (.ref t), some (.int (k : Int)), some (.int r.depth), o3]) ⟨rfl, fun j j1 j2 => by omega, none, rfl⟩ ?_ ?_
    · rintro i σ' H' hi ⟨rfl, hin, o3, rfl⟩
      have hj : k + 1 + i < rs.length := by omega
      obtain ⟨vs2, a2, r2, ht2, hl2, hr2, hat2, ha2⟩ := hR.at hj
      rw [ht] at ht2
      cases ht2
      have ed2 := depths_at hr2
      have ej : (k : Int) + 1 + (i : Int) = ((k + 1 + i : Nat) : Int) := by omega
      refine ⟨_, rfl, _, rfl, t, vs, _, _, rfl, rfl, SqT.of ht, (by rw [ej]; exact hat2), a2, _, _, _, rfl, rfl, SqT.of ha2, rfl, _, rfl, _, _, rfl, rfl, _, rfl, ?_⟩
      refine ite2 (fun c => ?_) (fun c => ?_)
      · have c' := of_decide_eq_true c
        refine ⟨_, rfl, ?_⟩
        have z := q (k + 1 + i) ⟨by omega, by omega, hin, fun _ => by rw [ed2, ed]; exact c'⟩
        rw [← ej] at z
        exact z
      · have c' : ¬ r2.depth ≤ r.depth := fun z => c (decide_eq_true z)
        refine ⟨rfl, fun j j1 j2 => ?_, _, rfl⟩
        by_cases y : j = k + 1 + i
        · rw [y, ed2, ed]
          omega
        · exact hin j j1 (by omega)
    · rintro σ' H' ⟨rfl, hin, o3, rfl⟩
      exact ⟨rfl, ⟨hk, by omega, fun j j1 j2 => hin j j1 (by omega), fun z => by omega⟩, o3, rfl⟩
  rintro σ' H' ⟨rfl, he, o3, rfl⟩
  refine ⟨_, rfl, t, _, rfl, .inr (SqT.of ht), ?_⟩
  have z := q _ he
  rw [← hl] at z
  exact z
end
end Prg

namespace Prg
open PySem L2 Mix Gds Rms
def spLies : Sp := fun vs H Q _ => ∃ (t : Addr) (rs : List Rm) (one other : Nat), vs = [.ref t, .int (one : Int), .int (other : Int)] ∧ Rooms H t rs ∧ Tr.Good (depths rs) ∧ rs.length ≤ 40 ∧ one < rs.length ∧ other < rs.length ∧ ∀ H', Same H H' → Q (.bl (Tr.liesIn (depths rs) one other)) H'
section
variable {P : Program} {w : World} {K : PySem.W.Frag} {mg : Str → Option Value} {base : Heap}
theorem sc_lies_in : FnScope ["rooms", "one", "other"] ["rooms", "one", "other"] (defScope sLiesIn) := ⟨rfl, rfl, rfl, by decide +kernel, rfl, by decide +kernel, by decide +kernel⟩
theorem ok_lies {n : Nat} {f ge : Addr} {fd de : FuncData} (F : Fun K "lies_in" "lies_in" sLiesIn f fd) (G_end_of : FnOk P w K mg base CX0 n ge de ["rooms", "room"] spEnd) (b_end_of : Binds K de ["rooms", "room"] []) (k_end_of : PySem.W.keepIn K (.ref ge) = true) (m_end_of : mg "end_of" = some (.ref ge)) :
    FnOk P w K mg base CX0 (n + 1) f fd ["rooms", "one", "other"] spLies := by
  refine F.ok sc_lies_in (fun vs H Q E h => ?_) (fun cdv A outer s H vs Q E hr h => ?_)
  · obtain ⟨t, rs, one, other, rfl, _⟩ := h
    rfl
  obtain ⟨t, rs, one, other, rfl, hR, good, h40, h1, h2, q⟩ := h
  have q' := q H (Same.refl _)
  have dl := depths_len rs
  refine ⟨_, (pss_one (ps_ret (pe_chain op_lt op_lt (pv 2) (pv 1) (pe_call G_end_of hr rfl m_end_of k_end_of b_end_of .nil pass0 (pa_cons (pv 0) (pa_cons (pv 2) pa_nil)))))), ?_⟩
  refine ⟨_, rfl, _, rfl, _, _, rfl, rfl, _, rfl, ?_⟩
  refine ite2 (fun c => ?_) (fun c => ?_)
  · have c' := of_decide_eq_true c
    refine ⟨_, rfl, _, rfl, t, rs, other, rfl, hR, h40, h2, fun e he => ⟨_, _, rfl, rfl, ?_⟩⟩
    rw [Tr.lies_end he (by omega), decide_eq_true (show other < one by omega), Bool.true_and] at q'
    have e2 : decide (one < e) = decide ((one : Int) < (e : Int)) := decide_eq_decide.mpr (by omega)
    rw [e2] at q'
    exact q'
  · have c' : ¬ (other : Int) < (one : Int) := fun z => c (decide_eq_true z)
    have e1 : Tr.liesIn (depths rs) one other = false := by
      unfold Tr.liesIn
      rw [Bool.eq_false_iff]
      intro z
      have := Tr.ups_lt (List.contains_iff_mem.mp z)
      omega
    rw [e1] at q'
    exact q'
end
end Prg

namespace Ans
open PySem L2 Mix Gds Rms
/-! which doors are chosen -/
theorem rise_uniqueI : ∀ (a b : List Int), a.Pairwise (· < ·) → b.Pairwise (· < ·) → (∀ k, k ∈ a ↔ k ∈ b) → a = b
  | [], [], _, _, _ => rfl
  | [], y :: b, _, _, h => absurd ((h y).mpr List.mem_cons_self) (by simp)
  | x :: a, [], _, _, h => absurd ((h x).mp List.mem_cons_self) (by simp)
  | x :: a, y :: b, ha, hb, h => by
    obtain ⟨a1, a2⟩ := List.pairwise_cons.mp ha
    obtain ⟨b1, b2⟩ := List.pairwise_cons.mp hb
    have e : x = y := by
      rcases List.mem_cons.mp ((h x).mp List.mem_cons_self) with e | h1
      · exact e
      · rcases List.mem_cons.mp ((h y).mpr List.mem_cons_self) with e | h2
        · exact e.symm
        · have := a1 y h2
          have := b1 x h1
          omega
    subst e
    congr 1
    refine rise_uniqueI a b a2 b2 fun k => ?_
    have hk := h k
    rw [List.mem_cons, List.mem_cons] at hk
    constructor
    · intro z
      rcases hk.mp (.inr z) with e | z'
      · subst e
        have := a1 k z
        omega
      · exact z'
    · intro z
      rcases hk.mpr (.inr z) with e | z'
      · subst e
        have := b1 k z
        omega
      · exact z'
def inter (os : List Nat) : List Int := os.map fun j : Nat => (j : Int)
theorem inter_V (os : List Nat) : (inter os).map V.int = natsV os := by
  unfold inter natsV
  rw [List.map_map]
  rfl
theorem natsV_app' (a b : List Nat) : natsV a ++ natsV b = natsV (a ++ b) := (List.map_append ..).symm
def answ (os : List Nat) (bx : List Int) (ds : List Dg) (ev : Int) : List Nat := os.filter fun r => (ansOf (inter os) bx ds (r : Int) ev).isSome
def outd (inn : Bool) (dp : List Int) (room : Nat) (ots : List Nat) : Bool := ots.any fun o => if inn = true then Tr.liesIn dp o room else Tr.liesIn dp room o
def chosenOf (inn : Bool) (dp : List Int) (os : List Nat) (bx : List Int) (ds : List Dg) (ev : Int) : List Nat :=
  ((answ os bx ds ev).filter fun r => !outd inn dp r (answ os bx ds ev)).map fun r : Nat => (ansOf (inter os) bx ds (r : Int) ev).getD 0
def innB (od : Str) : Bool := decide (V.str od = V.str ("inner" : Str))
def spOutdone : Sp := fun vs H Q _ => ∃ (pc t pl : Addr) (od : Str) (x1 x2 x3 x4 x6 : V) (rs : List Rm) (room : Nat) (ots : List Nat), vs = [.ref pc, .int (room : Int), .ref pl] ∧ H pc = some (.tup [.str od, x1, x2, x3, x4, .ref t, x6]) ∧ Rooms H t rs ∧ Tr.Good (depths rs) ∧ rs.length ≤ 40 ∧ room < rs.length ∧ H pl = some (.lst (natsV ots)) ∧ (∀ o ∈ ots, o < rs.length) ∧ ots.length ≤ 1000 ∧
  ∀ H' : Hp, Same H H' → Q (.bl (outd (innB od) (depths rs) room ots)) H'
def spChosen (n : Nat) : Sp := fun vs H Q _ => ∃ (pc pst t pd o b : Addr) (od : Str) (os : List Nat) (bx : List Int) (rs : List Rm) (ds : List Dg) (dv : List V) (x1 x2 x3 x4 x : V) (ev : Int), vs = [.ref pc, .ref pst, .int ev] ∧ H pc = some (.tup [.str od, x1, x2, x3, x4, .ref t, .ref pd]) ∧ Rooms H t rs ∧ Tr.Good (depths rs) ∧ rs.length ≤ 40 ∧ H pd = some (.tup dv) ∧ Al (DgIn H) dv ds ∧ H pst = some (.tup [.ref o, .ref b, x]) ∧ H o = some (.tup (natsV os)) ∧ (∀ o ∈ os, o < rs.length) ∧ os.Pairwise (· < ·) ∧ H b = some (.tup (bx.map V.int)) ∧ (∀ d ∈ ds, d.g.ok bx.length ∧ d.g.ht ≤ n) ∧ ds.length ≤ 63 ∧
  ∀ (p : Addr) (H' : Hp), Same H H' → H p = none → H' p = some (.lst (natsV (chosenOf (innB od) (depths rs) os bx ds ev))) → Q (.ref p) H'
section
variable {P : Program} {w : World} {K : PySem.W.Frag} {mg : Str → Option Value} {base : Heap}
theorem sc_is_outdone : FnScope ["chart", "room", "others", "rooms"] ["chart", "room", "others"] (defScope sOutdone) := ⟨rfl, rfl, rfl, by decide +kernel, rfl, by decide +kernel, by decide +kernel⟩
theorem ok_outdone {n : Nat} {f gl : Addr} {fd dl : FuncData} (F : Fun K "is_outdone" "is_outdone" sOutdone f fd) (G_lies_in : FnOk P w K mg base CX0 n gl dl ["rooms", "one", "other"] Prg.spLies) (b_lies_in : Binds K dl ["rooms", "one", "other"] []) (k_lies_in : PySem.W.keepIn K (.ref gl) = true) (m_lies_in : mg "lies_in" = some (.ref gl)) (m_any : mg "any" = none) :
    FnOk P w K mg base CX0 (n + 1) f fd ["chart", "room", "others"] spOutdone := by
  refine F.ok sc_is_outdone (fun vs H Q E h => ?_) (fun cdv A outer s H vs Q E hr h => ?_)
  · obtain ⟨pc, t, pl, od, x1, x2, x3, x4, x6, rs, room, ots, rfl, _⟩ := h
    rfl
  obtain ⟨pc, t, pl, od, x1, x2, x3, x4, x6, rs, room, ots, rfl, hpc, hR, good, h40, hroom, hpl, hots, lots, q⟩ := h
  refine ⟨_, (pss_cons (ps_set (i := 3) sc_is_outdone.nd rfl (Or.inr rfl) (pe_ix ix_tup (pv 0) pe_int (fun _ _ => rfl)))
    (pss_cons (ps_if (pt_cmpR op_eq (pe_ix ix_tup (pv 0) pe_int (fun _ _ => rfl)) pe_str (nomark _))
      (pss_one (ps_ret (pe_callB (call_anyB rfl) rfl m_any PyProof.Rows.boot_any (pa_cons (pe_comp (caps := [(3, "rooms"), (1, "room")]) rfl (show CompSc (defScope sOutdone) ["chart", "room", "others", "rooms"] _ _ _ from ⟨rfl, rfl, by decide +kernel, by decide +kernel, by decide +kernel, by decide +kernel, by decide +kernel⟩) (pi_list (pv 2)) (fun _ _ _ _ _ _ => pifs_nil) (fun _ _ _ _ _ _ => (pe_call G_lies_in hr rfl m_lies_in k_lies_in b_lies_in .nil pass0 (pa_cons (pv 1) (pa_cons (pv 0) (pa_cons (pv 2) pa_nil)))))) pa_nil))))
      pss_nil)
    (pss_one (ps_ret (pe_callB (call_anyB rfl) rfl m_any PyProof.Rows.boot_any (pa_cons (pe_comp (caps := [(3, "rooms"), (1, "room")]) rfl (show CompSc (defScope sOutdone) ["chart", "room", "others", "rooms"] _ _ _ from ⟨rfl, rfl, by decide +kernel, by decide +kernel, by decide +kernel, by decide +kernel, by decide +kernel⟩) (pi_list (pv 2)) (fun _ _ _ _ _ _ => pifs_nil) (fun _ _ _ _ _ _ => (pe_call G_lies_in hr rfl m_lies_in k_lies_in b_lies_in .nil pass0 (pa_cons (pv 1) (pa_cons (pv 2) (pa_cons (pv 0) pa_nil)))))) pa_nil)))))), ?_⟩
  refine ⟨_, rfl, pc, _, _, _, rfl, rfl, SqT.of hpc, rfl, ?_⟩
  refine ⟨_, rfl, pc, _, _, _, rfl, rfl, SqT.of hpc, rfl, rfl, _, rfl, ?_⟩
  have go : ∀ (fl : Nat → Bool) (H' : Hp) (p : Addr), Same H H' → (∀ o ∈ ots, fl o = if innB od = true then Tr.liesIn (depths rs) o room else Tr.liesIn (depths rs) room o) → Q (.bl ((ots.map fl).any id)) H' := fun fl H' p s' hfl => by
    have e : (ots.map fl).any id = outd (innB od) (depths rs) room ots := by
      unfold outd
      rw [List.any_map, Bool.eq_iff_iff, List.any_eq_true, List.any_eq_true]
      exact ⟨fun ⟨o, a, b⟩ => ⟨o, a, (hfl o a) ▸ b⟩, fun ⟨o, a, b⟩ => ⟨o, a, show fl o = true from (hfl o a).trans b⟩⟩
    rw [e]
    exact q H' s'
  refine itB (fun c => ?_) (fun c => ?_)
  · have ci : innB od = true := c
    refine ⟨_, rfl, pl, rfl, ⟨_, SqL.of hpl⟩, ?_⟩
    refine comp_list (K := K) (a := pl) (xs := natsV ots) (fun i acc H' => Same H H' ∧ acc = ((ots.take i).map fun o : Nat => Tr.liesIn (depths rs) o room).map V.bl) ⟨Same.refl _, rfl⟩ (fun i acc H' ⟨e, _⟩ => SqL.of (e _ _ hpl)) (fun i x acc H' hx ⟨e1, e2⟩ => ?_) (fun acc H' ⟨e1, e2⟩ p hp => ?_)
    · subst e2
      obtain ⟨hi, rfl⟩ := Prg.natsV_get hx
      refine ⟨_, rfl, _, rfl, _, rfl, t, rs, ots[i], room, rfl, hR.mono (KeepT.of e1), good, h40, hots _ (List.getElem_mem hi), hroom, fun H2 s2 => ⟨small1000 (by rw [List.length_map, List.length_map, List.length_take]; omega), e1.trans s2, ?_⟩⟩
      rw [List.take_add_one, List.getElem?_eq_getElem hi, List.map_append, List.map_append]
      rfl
    · subst e2
      rw [List.take_of_length_le (by rw [natsV_len]; exact Nat.le_refl _)]
      exact ⟨p, _, rfl, SqL.of upd_same, go _ _ p (e1.trans (same_new hp _)) fun o _ => by rw [if_pos ci]⟩
  · have ci : innB od = false := c
    refine ⟨_, rfl, pl, rfl, ⟨_, SqL.of hpl⟩, ?_⟩
    refine comp_list (K := K) (a := pl) (xs := natsV ots) (fun i acc H' => Same H H' ∧ acc = ((ots.take i).map fun o : Nat => Tr.liesIn (depths rs) room o).map V.bl) ⟨Same.refl _, rfl⟩ (fun i acc H' ⟨e, _⟩ => SqL.of (e _ _ hpl)) (fun i x acc H' hx ⟨e1, e2⟩ => ?_) (fun acc H' ⟨e1, e2⟩ p hp => ?_)
    · subst e2
      obtain ⟨hi, rfl⟩ := Prg.natsV_get hx
      refine ⟨_, rfl, _, rfl, _, rfl, t, rs, room, ots[i], rfl, hR.mono (KeepT.of e1), good, h40, hroom, hots _ (List.getElem_mem hi), fun H2 s2 => ⟨small1000 (by rw [List.length_map, List.length_map, List.length_take]; omega), e1.trans s2, ?_⟩⟩
      rw [List.take_add_one, List.getElem?_eq_getElem hi, List.map_append, List.map_append]
      rfl
    · subst e2
      rw [List.take_of_length_le (by rw [natsV_len]; exact Nat.le_refl _)]
      exact ⟨p, _, rfl, SqL.of upd_same, go _ _ p (e1.trans (same_new hp _)) fun o _ => by rw [ci]; rfl⟩
theorem sc_chosen : FnScope ["chart", "stand", "event", "by_room", "answering"] ["chart", "stand", "event"] (defScope sChosen) := ⟨rfl, rfl, rfl, by decide +kernel, rfl, by decide +kernel, by decide +kernel⟩
theorem ok_chosen {n m : Nat} {f ga go : Addr} {fd da do' : FuncData} (F : Fun K "chosen" "chosen" sChosen f fd) (G_answers : FnOk P w K mg base CX0 m ga da ["chart", "stand", "event"] (spAnswers n)) (b_answers : Binds K da ["chart", "stand", "event"] []) (k_answers : PySem.W.keepIn K (.ref ga) = true) (m_answers : mg "answers" = some (.ref ga))
    (G_is_outdone : FnOk P w K mg base CX0 m go do' ["chart", "room", "others"] spOutdone) (b_is_outdone : Binds K do' ["chart", "room", "others"] []) (k_is_outdone : PySem.W.keepIn K (.ref go) = true) (m_is_outdone : mg "is_outdone" = some (.ref go)) (m_sorted : mg "sorted" = none) :
    FnOk P w K mg base CX0 (m + 1) f fd ["chart", "stand", "event"] (spChosen n) := by
  refine F.ok sc_chosen (fun vs H Q E h => ?_) (fun cdv A outer s H vs Q E hr h => ?_)
  · obtain ⟨pc, pst, t, pd, o, b, od, os, bx, rs, ds, dv, x1, x2, x3, x4, x, ev, rfl, _⟩ := h
    rfl
  obtain ⟨pc, pst, t, pd, o, b, od, os, bx, rs, ds, dv, x1, x2, x3, x4, x, ev, rfl, hpc, hR, good, h40, hpd, hds, hst, ho, hos, inc, hb, hok, l63, q⟩ := h
  have hu := Nat.lt_of_le_of_lt (Nat.add_le_add_left (show 1 ≤ 64 by decide) _) hr.units
  refine ⟨_, (pss_cons (ps_set (i := 3) sc_chosen.nd rfl (Or.inr rfl) (pe_call G_answers hr rfl m_answers k_answers b_answers .nil pass0 (pa_cons (pv 0) (pa_cons (pv 1) (pa_cons (pv 2) pa_nil)))))
    (pss_cons (ps_set (i := 4) sc_chosen.nd rfl (Or.inr rfl) (pe_callB (call_sortedD rfl) rfl m_sorted PyProof.Rows.boot_sorted (pa_cons (pv 3) pa_nil)))
    (pss_one (ps_ret (pe_comp (caps := [(0, "chart"), (4, "answering"), (3, "by_room")]) rfl (show CompSc (defScope sChosen) ["chart", "stand", "event", "by_room", "answering"] _ _ _ from ⟨rfl, rfl, by decide +kernel, by decide +kernel, by decide +kernel, by decide +kernel, by decide +kernel⟩) (pi_list (pv 4)) (fun _ _ _ _ _ _ => pifs_one (pt_not (pt_val (pe_call G_is_outdone hr rfl m_is_outdone k_is_outdone b_is_outdone .nil pass0 (pa_cons (pv 1) (pa_cons (pv 0) (pa_cons (pv 2) pa_nil))))))) (fun _ _ _ _ _ _ => (pe_dget hu (pv 3) (pv 0) (fun _ _ => rfl)))))))), ?_⟩
  refine ⟨_, rfl, _, rfl, _, rfl, pc, pst, pd, o, b, inter os, bx, ds, dv, _, _, _, _, _, _, _, ev, rfl, hpc, hpd, hds, hst, (by rw [inter_V]; exact ho), hb, hok, by omega, fun pb kvs H1 s1 h1 hv ⟨ks, hks, lks⟩ npb => ?_⟩
  refine ⟨_, rfl, pb, kvs, ks, rfl, h1, hks, by omega, fun pq zs npq nd perm srt => ?_⟩
  have mk : ∀ k : Int, k ∈ ks ↔ (ansOf (inter os) bx ds k ev).isSome = true := fun k => by
    have e1 : (valV kvs (Sum.inl k)).isSome = (ansOf (inter os) bx ds k ev).isSome := by
      rw [hv k]
      cases ansOf (inter os) bx ds k ev <;> rfl
    rw [← e1, ← valV_any, List.any_eq_true]
    constructor
    · intro z
      have : (Sum.inl k : Key) ∈ kvs.map (·.1) := by rw [hks]; exact List.mem_map.mpr ⟨k, z, rfl⟩
      obtain ⟨kv, hkv, e⟩ := List.mem_map.mp this
      exact ⟨kv, hkv, decide_eq_true e⟩
    · rintro ⟨kv, hkv, e⟩
      have : (Sum.inl k : Key) ∈ kvs.map (·.1) := List.mem_map.mpr ⟨kv, hkv, of_decide_eq_true e⟩
      rw [hks] at this
      obtain ⟨j, hj, e⟩ := List.mem_map.mp this
      injection e with e
      exact e ▸ hj
  have ez : zs = inter (answ os bx ds ev) := by
    refine rise_uniqueI _ _ ((srt.and (perm.nodup_iff.mpr nd)).imp fun ⟨z1, z2⟩ => by omega) (List.pairwise_map.mpr ((inc.filter _).imp fun z => by omega)) fun k => ?_
    rw [perm.mem_iff, mk k]
    constructor
    · intro z
      have hin : inV (.int k) ((inter os).map V.int) = true := by
        unfold ansOf at z
        by_cases y : inV (.int k) ((inter os).map V.int) = true
        · exact y
        · rw [if_neg y] at z
          cases z
      rw [inter_V] at hin
      obtain ⟨j, hj, rfl⟩ := nats_in hin
      exact List.mem_map.mpr ⟨j, List.mem_filter.mpr ⟨hj, z⟩, rfl⟩
    · intro z
      obtain ⟨j, hj, rfl⟩ := List.mem_map.mp z
      exact (List.mem_filter.mp hj).2
  subst ez
  rw [inter_V]
  have la : (answ os bx ds ev).length ≤ 63 := by
    have := perm.length_eq
    unfold inter at this
    rw [List.length_map] at this
    omega
  have hA : ∀ r ∈ answ os bx ds ev, r < rs.length ∧ (ansOf (inter os) bx ds (r : Int) ev).isSome = true := fun r hr' => ⟨hos r (List.mem_filter.mp hr').1, (List.mem_filter.mp hr').2⟩
  have s2 := s1.trans (same_new npq (.lst (natsV (answ os bx ds ev))))
  have h2 : upd H1 pq (.lst (natsV (answ os bx ds ev))) pq = some (.lst (natsV (answ os bx ds ev))) := upd_same
  have hb2 := (same_new npq (.lst (natsV (answ os bx ds ev)))) _ _ h1
  generalize upd H1 pq (.lst (natsV (answ os bx ds ev))) = H2 at s2 h2 hb2 ⊢
  refine ⟨_, rfl, pq, rfl, ⟨_, SqL.of h2⟩, ?_⟩
  refine comp_list (K := K) (a := pq) (xs := natsV (answ os bx ds ev)) (fun i acc H' => Same H2 H' ∧ acc = natsV ((((answ os bx ds ev).take i).filter fun r => !outd (innB od) (depths rs) r (answ os bx ds ev)).map fun r : Nat => (ansOf (inter os) bx ds (r : Int) ev).getD 0)) ⟨Same.refl _, rfl⟩ (fun i acc H' ⟨e, _⟩ => SqL.of (e _ _ h2)) (fun i y acc H' hy ⟨e1, e2⟩ => ?_) (fun acc H' ⟨e1, e2⟩ p hp => ?_)
  · subst e2
    obtain ⟨hi, rfl⟩ := Prg.natsV_get hy
    have hm := hA _ (List.getElem_mem hi)
    have et := Prg.filter_succ (f := fun r => !outd (innB od) (depths rs) r (answ os bx ds ev)) (List.getElem?_eq_getElem hi)
    generalize (answ os bx ds ev)[i] = r at hm et
    have lt' : (natsV ((((answ os bx ds ev).take i).filter fun r => !outd (innB od) (depths rs) r (answ os bx ds ev)).map fun r : Nat => (ansOf (inter os) bx ds (r : Int) ev).getD 0)).length ≤ 63 := by
      rw [natsV_len, List.length_map]
      have := List.length_filter_le (fun r => !outd (innB od) (depths rs) r (answ os bx ds ev)) ((answ os bx ds ev).take i)
      rw [List.length_take] at this
      omega
    have s3 := s2.trans e1
    refine ⟨_, rfl, _, rfl, _, rfl, pc, t, pq, od, _, _, _, _, _, rs, r, answ os bx ds ev, rfl, s3 _ _ hpc, hR.mono (KeepT.of s3), good, h40, hm.1, e1 _ _ h2, (fun o ho => (hA o ho).1), by omega, fun H4 s4 => ?_⟩
    refine ⟨_, rfl, ?_⟩
    rw [et]
    refine itB (fun c => ?_) (fun c => ?_)
    · have c' : (!outd (innB od) (depths rs) r (answ os bx ds ev)) = true := c
      obtain ⟨k, hk⟩ := Option.isSome_iff_exists.mp hm.2
      have hv' := hv (r : Int)
      rw [hk] at hv'
      have g := DGet.k (k := Sum.inl (r : Int)) ((e1.trans s4) _ _ hb2)
      rw [hv'] at g
      refine ⟨_, rfl, _, rfl, pb, _, rfl, g, small1000 (by omega), e1.trans s4, ?_⟩
      rw [if_pos c', List.map_append, ← natsV_app']
      show _ = _ ++ natsV [(ansOf (inter os) bx ds (r : Int) ev).getD 0]
      rw [hk]
      rfl
    · have c' : ¬ (!outd (innB od) (depths rs) r (answ os bx ds ev)) = true := fun z => by
        have c : (!outd (innB od) (depths rs) r (answ os bx ds ev)) = false := c
        rw [c] at z
        cases z
      rw [if_neg c', List.append_nil]
      exact ⟨e1.trans s4, rfl⟩
  · subst e2
    rw [List.take_of_length_le (by rw [natsV_len]; exact Nat.le_refl _)]
    exact q p _ (s2.trans (e1.trans (same_new hp _))) ((s2.trans e1).free hp) upd_same
end
end Ans

namespace Ans
open PySem L2 Mix Gds Rms
/-! a law's own word on lying in, by the depths: the same def in eight laws -/
def spLLies : Sp := fun vs H Q _ => ∃ (t : Addr) (rs : List Rm) (a b : Int) (one other : Nat), vs = [.ref t, .int a, .int b] ∧ a = (one : Int) ∧ b = (other : Int) ∧ Rooms H t rs ∧ rs.length ≤ 1000 ∧ one < rs.length ∧ other < rs.length ∧ Q (.bl (Tr.liesIn (depths rs) one other)) H
theorem lies_iff {ds : List Int} {a b : Nat} : Tr.liesIn ds a b = true ↔ b < a ∧ ∀ j, b < j → j ≤ a → ds.getD b 0 < ds.getD j 0 := by
  unfold Tr.liesIn
  rw [List.contains_iff_mem]
  exact Tr.mem_ups a b
section
variable {P : Program} {w : World} {K : PySem.W.Frag} {mg : Str → Option Value} {base : Heap}
theorem sc_law_lies : FnScope ["_law_rooms_here", "_law_one", "_law_other", "_law_k"] ["_law_rooms_here", "_law_one", "_law_other"] (defScope sLies) := ⟨rfl, rfl, rfl, by decide +kernel, rfl, by decide +kernel, by decide +kernel⟩
theorem ok_llies {f : Addr} {fd : FuncData} (F : Fun K "_law_lies" "_law_lies" sLies f fd) (m_range : mg "range" = none) : FnOk P w K mg base CX0 1 f fd ["_law_rooms_here", "_law_one", "_law_other"] spLLies := by
  refine F.ok sc_law_lies (fun vs H Q E h => ?_) (fun cdv A outer s H vs Q E hr h => ?_)
  · obtain ⟨t, rs, a, b, one, other, rfl, _⟩ := h
    rfl
  obtain ⟨t, rs, a, b, one, other, rfl, rfl, rfl, hR, h1000, h1, h2, q⟩ := h
  refine ⟨_, (pss_cons (ps_if (pt_cmpR op_ge (pv 2) (pv 1) (nomark _))
      (pss_one (ps_ret pe_bl))
      pss_nil)
    (pss_cut (ps_for PassesOwn.never rfl (pi_range2 rfl m_range (pa_cons (pe_op op_add (pv 2) pe_int) (pa_cons (pe_op op_add (pv 1) pe_int) pa_nil))) (pg_name (i := 3) sc_law_lies.nd rfl (Or.inl rfl))
      (pss_one (ps_if (pt_cmpR op_le (pe_ix ix_tup (pe_ix ix_tup (pv 0) (pv 3) (fun _ _ => rfl)) pe_int (fun _ _ => rfl)) (pe_ix ix_tup (pe_ix ix_tup (pv 0) (pv 2) (fun _ _ => rfl)) pe_int (fun _ _ => rfl)) (nomark _))
        (pss_one (ps_ret pe_bl))
        pss_nil)))
    (pss_one (ps_ret pe_bl)))), ?_⟩
  refine ⟨_, rfl, _, rfl, _, _, rfl, rfl, _, rfl, ite2 (fun c => ?_) (fun c => ?_)⟩
  · have c' := of_decide_eq_true c
    have e : Tr.liesIn (depths rs) one other = false := by
      rw [Bool.eq_false_iff]
      intro z
      have := (lies_iff.mp z).1
      omega
    rw [e] at q
    exact q
  have c' : other < one := by
    have : ¬ (other : Int) ≥ (one : Int) := fun z => c (decide_eq_true z)
    omega
  obtain ⟨vs, a, r, ht, hl, hr0, hat, ha⟩ := hR.at h2
  have ed := depths_at hr0
  refine ⟨fun σ' H' => H' = H ∧ (∀ j, other < j → j ≤ one → (depths rs).getD other 0 < (depths rs).getD j 0), ?_, ?_⟩
  · refine ⟨_, rfl, _, _, rfl, rfl, _, rfl, _, _, rfl, rfl, _, _, rfl, ⟨by omega, by omega, by omega, by omega⟩, ?_⟩
    refine for_range (fun i σ' H' => H' = H ∧ (∀ j, other < j → j < other + 1 + i → (depths rs).getD other 0 < (depths rs).getD j 0) ∧ ∃ o3 : Option V, σ' = [some (.ref t), some (.int (one : Int)), some (.int (other : Int)), o3]) ⟨rfl, fun j j1 j2 => by omega, none, rfl⟩ ?_ ?_
    · rintro i σ' H' hi ⟨rfl, hin, o3, rfl⟩
      have hj : other + 1 + i < rs.length := by omega
      obtain ⟨vs2, a2, r2, ht2, hl2, hr2, hat2, ha2⟩ := hR.at hj
      rw [ht] at ht2
      cases ht2
      have ed2 := depths_at hr2
      have ej : (other : Int) + 1 + (i : Int) = ((other + 1 + i : Nat) : Int) := by omega
      refine ⟨_, rfl, _, rfl, t, vs, _, _, rfl, rfl, SqT.of ht, (by rw [ej]; exact hat2), a2, _, _, _, rfl, rfl, SqT.of ha2, rfl, _, rfl, _, rfl, t, vs, _, _, rfl, rfl, SqT.of ht, hat, a, _, _, _, rfl, rfl, SqT.of ha, rfl, _, _, rfl, rfl, _, rfl, ?_⟩
      refine ite2 (fun c => ?_) (fun c => ?_)
      · have c2 := of_decide_eq_true c
        have e : Tr.liesIn (depths rs) one other = false := by
          rw [Bool.eq_false_iff]
          intro z
          have := (lies_iff.mp z).2 (other + 1 + i) (by omega) (by omega)
          rw [ed, ed2] at this
          omega
        rw [e] at q
        exact q
      · have c2 : ¬ r2.depth ≤ r.depth := fun z => c (decide_eq_true z)
        refine ⟨rfl, fun j j1 j2 => ?_, _, rfl⟩
        by_cases y : j = other + 1 + i
        · rw [y, ed2, ed]
          omega
        · exact hin j j1 (by omega)
    · rintro σ' H' ⟨rfl, hin, o3, rfl⟩
      exact ⟨rfl, fun j j1 j2 => hin j j1 (by omega)⟩
  rintro σ' H' ⟨rfl, hin⟩
  rw [lies_iff.mpr ⟨c', hin⟩] at q
  exact q
end
end Ans

namespace Chr
open PySem L2 Mix Gds Rms
/-! charts by the cells: names, deeds, guards, depths (what they hold is not looked at) -/
theorem str_at {zs : List Str} {i : Int} (h0 : 0 ≤ i) (h1 : i < (zs.length : Int)) : ∃ z ∈ zs, atI (zs.map V.str) i = some (.str z) := by
  obtain ⟨v, hv, e⟩ := atI_some (xs := zs.map V.str) (i := i) h0 (by rw [List.length_map]; exact h1)
  obtain ⟨z, hz, rfl⟩ := List.mem_map.mp hv
  exact ⟨z, hz, e⟩
def spName : Sp := fun vs H Q _ => ∃ k n : Int, vs = [.int k, .int n] ∧ ∀ (z : Str) (H' : Hp), Same H H' → Q (.str z) H'
def SizesIn (H : Hp) (ps : Addr) (sz : List Int) : Prop := H ps = some (.lst (sz.map V.int)) ∧ (∀ z ∈ sz, 0 < z) ∧ sz.length ≤ 6
theorem SizesIn.mono {H H' : Hp} {ps : Addr} {sz : List Int} (h : SizesIn H ps sz) (s : Same H H') : SizesIn H' ps sz := ⟨s _ _ h.1, h.2⟩
def spDeed : Sp := fun vs H Q _ => ∃ (n e : Int) (ps : Addr) (sz : List Int), vs = [.int n, .ref ps, .int e] ∧ 0 ≤ n ∧ n < 2147483648 ∧ SizesIn H ps sz ∧ ∀ (v : V) (H' : Hp), Same H H' → Q v H'
def spDeeds (K : PySem.W.Frag) : Sp := fun vs H Q _ => ∃ (a ps : Addr) (ns sz : List Int) (k salt e : Int), vs = [.ref a, .int k, .int salt, .ref ps, .int e] ∧ SqL K H a (ns.map V.int) ∧ ns.length ≤ 63 ∧ (0 ≤ k ∧ k ≤ 1000) ∧ (0 ≤ salt ∧ salt ≤ 100) ∧ SizesIn H ps sz ∧ ∀ (v : V) (H' : Hp), Same H H' → Q v H'
def spGuard (h : Nat) : Sp := fun vs H Q _ => ∃ (n r hi : Int) (nb : Nat), vs = [.int n, .int r, .int (nb : Int), .int hi] ∧ 0 < r ∧ 1 ≤ hi ∧ hi ≤ (h : Int) ∧ ∀ (v : V) (g : Gd) (H' : Hp), Same H H' → GdIn H' v g → g.ok nb → (g.ht : Int) ≤ hi → Q v H'
section
variable {P : Program} {w : World} {K : PySem.W.Frag} {mg : Str → Option Value} {base : Heap}
theorem sc_law_name : FnScope ["_law_k", "_law_number", "_law_rest", "_law_at"] ["_law_k", "_law_number"] (defScope s_L_name) := ⟨rfl, rfl, rfl, by decide +kernel, rfl, by decide +kernel, by decide +kernel⟩
theorem ok_name {f : Addr} {fd : FuncData} (F : Fun K "_law_name" "_law_name" s_L_name f fd) (m_len : mg "len" = none) : FnOk P w K mg base CX0 1 f fd ["_law_k", "_law_number"] spName := by
  refine F.ok sc_law_name (fun vs H Q E h => ?_) (fun cdv A outer s H vs Q E hr h => ?_)
  · obtain ⟨k, n, rfl, _⟩ := h
    rfl
  obtain ⟨k, n, rfl, q⟩ := h
  refine ⟨_, (pss_cons (ps_set (i := 2) sc_law_name.nd rfl (Or.inl rfl) (pe_ix ix_list (pe_lst (pa_cons pe_str (pa_cons pe_str (pa_cons pe_str (pa_cons pe_str pa_nil))))) (pe_op op_mod (pv 1) pe_int) (fun _ _ => rfl)))
    (pss_cons (ps_set (i := 3) sc_law_name.nd rfl (Or.inl rfl) (pe_cut (pe_op op_mod (pe_op op_fdiv (pv 1) pe_int) (pe_op op_add (pe_callB call_len_str rfl m_len PySem.boot_len (pa_cons (pv 2) pa_nil)) pe_int))))
    (pss_one (ps_ret (pe_op op_add_str (pe_op op_add_str (pe_slice sl_str (pv 2) po_none (po_some (pv 3))) (pe_ix ix_str pe_str (pe_op op_mod (pv 0) pe_int) (fun _ _ => rfl))) (pe_slice sl_str (pv 2) (po_some (pv 3)) po_none)))))), ?_⟩
  obtain ⟨z, hz, hat⟩ := str_at (zs := [("" : Str), "hall", "quiet", "aaaaaaaaaaa"]) (i := n % 4) (by omega) (by show _ < (4 : Int); omega)
  have lz : z.length ≤ 11 := by
    simp only [List.mem_cons, List.not_mem_nil, or_false] at hz
    rcases hz with rfl | rfl | rfl | rfl <;> decide +kernel
  have hz' : z.length ≤ sizeLine := small_le (by omega)
  have sl : ∀ (lo hi : Option Int), (Txt.slice z lo hi).length ≤ 11 := fun lo hi => Nat.le_trans (Txt.slice_le z lo hi) lz
  refine ⟨small_le (by show 4 ≤ 1000; decide), fun p hp => ⟨_, rfl, _, _, rfl, rfl, (by show (0 : Int) < 4; decide), p, _, _, _, rfl, rfl, SqL.of upd_same, hat, ?_⟩⟩
  have s1 := same_new hp (.lst [V.str "", V.str "hall", V.str "quiet", V.str "aaaaaaaaaaa"])
  refine ⟨fun v H' => Same H H' ∧ ∃ t : Int, v = .int t, ?_, ?_⟩
  · exact ⟨_, rfl, _, _, rfl, rfl, ⟨by decide, by decide⟩, _, rfl, z, rfl, hz', _, _, rfl, rfl, _, _, rfl, rfl, (by show (0 : Int) < (z.length : Int) + 1; omega), s1, _, rfl⟩
  rintro _ H2 ⟨s2, t, rfl⟩
  obtain ⟨c1, _, h1⟩ := atI_some (xs := ("abcdefghijklmnopqrstuvwxyz" : Str).cps.toList) (i := k % 26) (by omega) (by show k % 26 < 26; omega)
  have la : ∀ x y : Str, (x ++ y).length = x.length + y.length := fun x y => by
    show (x.cps ++ y.cps).size = _
    rw [Array.size_append]
    rfl
  have lo : ∀ c : Nat, (⟨#[c]⟩ : Str).length = 1 := fun c => rfl
  have l1 := sl none (some t)
  have l2 := sl (some t) none
  exact ⟨_, rfl, _, rfl, _, rfl, z, rfl, hz', _, rfl, _, _, rfl, rfl, (by show (0 : Int) < 26; decide), _, _, c1, rfl, rfl, small_le (by decide +kernel), h1, _, _, rfl, rfl, small_le (by rw [lo]; omega), _, rfl, _, rfl, _, rfl, z, rfl, hz', _, _, rfl, rfl, small_le (by rw [la, lo]; omega), q _ H2 s2⟩
theorem sc_law_deed : FnScope ["_law_number", "_law_sizes", "_law_events", "_law_way", "_law_rest", "_law_b"] ["_law_number", "_law_sizes", "_law_events"] (defScope s_L_deed) := ⟨rfl, rfl, rfl, by decide +kernel, rfl, by decide +kernel, by decide +kernel⟩
theorem ok_deed {f gn : Addr} {fd dn : FuncData} (F : Fun K "_law_deed" "_law_deed" s_L_deed f fd) (G_law_name : FnOk P w K mg base CX0 1 gn dn ["_law_k", "_law_number"] spName) (b_law_name : Binds K dn ["_law_k", "_law_number"] []) (k_law_name : PySem.W.keepIn K (.ref gn) = true) (m_law_name : mg "_law_name" = some (.ref gn))
    (m_len : mg "len" = none) : FnOk P w K mg base CX0 2 f fd ["_law_number", "_law_sizes", "_law_events"] spDeed := by
  refine F.ok sc_law_deed (fun vs H Q E h => ?_) (fun cdv A outer s H vs Q E hr h => ?_)
  · obtain ⟨n, e, ps, sz, rfl, _⟩ := h
    rfl
  obtain ⟨n, e, ps, sz, rfl, n0, n1, hsz, q⟩ := h
  refine ⟨_, (pss_cons (ps_set (i := 3) sc_law_deed.nd rfl (Or.inl rfl) (pe_ix ix_list (pe_lst (pa_cons pe_int (pa_cons pe_int (pa_cons pe_int (pa_cons pe_int (pa_cons pe_int pa_nil)))))) (pe_op op_mod (pv 0) pe_int) (fun _ _ => rfl)))
    (pss_cons (ps_set (i := 4) sc_law_deed.nd rfl (Or.inl rfl) (pe_op op_fdiv (pv 0) pe_int))
    (pss_cons (ps_if (pt_cut (PW.pt (pw_and (pt_cmpR op_eq (pv 3) pe_int (nomark _)) (pw_and1 (pt_cmpR op_gt (pv 2) pe_int (nomark _))))))
      (pss_one (ps_ret (pe_tup (pa_cons pe_str (pa_cons (pe_op op_mod (pv 4) (pv 2)) pa_nil)))))
      pss_nil)
    (pss_cons (ps_if (pt_cut (PW.pt (pw_and (pt_cmpR op_eq (pv 3) pe_int (nomark _)) (pw_and1 (pt_cmpR op_gt (pe_callB call_len_seq rfl m_len PySem.boot_len (pa_cons (pv 1) pa_nil)) pe_int (nomark _))))))
      (pss_cons (ps_set (i := 5) sc_law_deed.nd rfl (Or.inl rfl) (pe_op op_mod (pv 4) (pe_callB call_len_seq rfl m_len PySem.boot_len (pa_cons (pv 1) pa_nil))))
      (pss_one (ps_ret (pe_tup (pa_cons pe_str (pa_cons (pv 5) (pa_cons (pe_op op_mod (pe_op op_fdiv (pv 4) pe_int) (pe_ix ix_list (pv 1) (pv 5) (fun _ _ => rfl))) pa_nil)))))))
      pss_nil)
    (pss_cons (ps_if (pt_cut (PW.pt (pw_and (pt_cmpR op_eq (pv 3) pe_int (nomark _)) (pw_and (pt_cmpR op_gt (pe_callB call_len_seq rfl m_len PySem.boot_len (pa_cons (pv 1) pa_nil)) pe_int (nomark _)) (pw_and1 (pt_cmpR op_eq (pe_op op_mod (pe_op op_fdiv (pv 4) pe_int) pe_int) pe_int (nomark _)))))))
      (pss_one (ps_ret (pe_tup (pa_cons pe_str (pa_cons (pe_op op_mod (pv 4) (pe_callB call_len_seq rfl m_len PySem.boot_len (pa_cons (pv 1) pa_nil))) (pa_cons (pe_op op_mul (pe_op op_add (pe_op op_mul (pv 4) (pe_op op_pow pe_int pe_int)) (pv 4)) (pe_op op_sub pe_int (pe_op op_mul pe_int (pe_op op_mod (pe_op op_fdiv (pv 4) pe_int) pe_int)))) pa_nil))))))
      pss_nil)
    (pss_cons (ps_if (pt_cut (PW.pt (pw_and (pt_cmpR op_eq (pv 3) pe_int (nomark _)) (pw_and1 (pt_cmpR op_gt (pe_callB call_len_seq rfl m_len PySem.boot_len (pa_cons (pv 1) pa_nil)) pe_int (nomark _))))))
      (pss_one (ps_ret (pe_tup (pa_cons pe_str (pa_cons (pe_op op_mod (pv 4) (pe_callB call_len_seq rfl m_len PySem.boot_len (pa_cons (pv 1) pa_nil))) (pa_cons (pe_op op_sub (pe_op op_mod (pe_op op_fdiv (pv 4) pe_int) pe_int) pe_int) pa_nil))))))
      pss_nil)
    (pss_cons (ps_if (pt_cmpR op_eq (pe_op op_mod (pv 4) pe_int) pe_int (nomark _))
      (pss_one (ps_ret (pe_tup (pa_cons pe_str (pa_cons pe_str pa_nil)))))
      pss_nil)
    (pss_one (ps_ret (pe_tup (pa_cons pe_str (pa_cons (pe_call G_law_name hr rfl m_law_name k_law_name b_law_name .nil pass0 (pa_cons (pe_op op_mod (pe_op op_fdiv (pv 4) pe_int) pe_int) (pa_cons (pe_op op_fdiv (pv 4) pe_int) pa_nil))) pa_nil)))))))))))), ?_⟩
  obtain ⟨v, hat⟩ := atI_int (ns := [0, 1, 1, 2, 3]) (i := n % 5) (by omega) (by show _ < (5 : Int); omega)
  have hl : (sz.map V.int).length = sz.length := List.length_map _
  refine ⟨small_le (by show 5 ≤ 1000; decide), fun p0 hp0 => ⟨_, rfl, _, _, rfl, rfl, (by show (0 : Int) < 5; decide), p0, _, _, _, rfl, rfl, SqL.of upd_same, hat, ?_⟩⟩
  have s1 := same_new hp0 (.lst [V.int 0, V.int 1, V.int 1, V.int 2, V.int 3])
  have hz1 := hsz.mono s1
  generalize upd H p0 (.lst [V.int 0, V.int 1, V.int 1, V.int 2, V.int 3]) = H1 at s1 hz1 ⊢
  refine ⟨_, rfl, _, _, rfl, rfl, ⟨by decide, by decide⟩, ?_⟩
  have r0 : 0 ≤ n / 5 := by omega
  have r1 : n / 5 < 2147483648 := by omega
  refine ⟨fun c H' => H' = H1 ∧ (c = true → 0 < e), ?_, ?_⟩
  · refine ⟨_, rfl, rfl, _, rfl, ?_⟩
    refine itB (fun c => ?_) (fun c => ⟨rfl, fun z => (by cases z)⟩)
    exact ⟨_, rfl, _, _, rfl, rfl, _, rfl, rfl, fun z => of_decide_eq_true z⟩
  rintro c1 H' ⟨rfl, hc1⟩
  refine itB (fun c => ?_) (fun c => ?_)
  · have he := hc1 c
    exact ⟨_, rfl, _, rfl, _, _, rfl, rfl, (by show (0 : Int) < e; exact he), small_le (by show 2 ≤ 1000; decide), fun p hp => q _ _ (s1.trans (same_new hp _))⟩
  refine ⟨fun c H2 => H2 = H' ∧ (c = true → 0 < sz.length), ?_, ?_⟩
  · exact ⟨_, rfl, rfl, _, rfl, itB (fun c => ⟨_, rfl, ps, _, rfl, .inl (SqL.of hz1.1), _, _, rfl, rfl, _, rfl, rfl, fun z => (by have := of_decide_eq_true z; rw [hl] at this; omega)⟩) (fun c => ⟨rfl, fun z => (by cases z)⟩)⟩
  rintro c2 H2 ⟨rfl, hc2⟩
  refine itB (fun c => ?_) (fun c => ?_)
  · have he := hc2 c
    have h0 := Int.emod_nonneg (n / 5) (show (((sz.map V.int).length : Nat) : Int) ≠ 0 by omega)
    have h1 := Int.emod_lt_of_pos (n / 5) (show (0 : Int) < (((sz.map V.int).length : Nat) : Int) by omega)
    obtain ⟨vz, hvz, hatz⟩ := atI_some (xs := sz.map V.int) (i := n / 5 % (((sz.map V.int).length : Nat) : Int)) h0 h1
    obtain ⟨z, hzm, rfl⟩ := List.mem_map.mp hvz
    refine ⟨_, rfl, _, rfl, ps, _, rfl, .inl (SqL.of hz1.1), _, _, rfl, rfl, (by show (0 : Int) < (((sz.map V.int).length : Nat) : Int); omega), ?_⟩
    exact ⟨_, rfl, _, rfl, _, _, rfl, rfl, ⟨by decide, by decide⟩, _, rfl, _, rfl, ps, _, _, _, rfl, rfl, SqL.of hz1.1, hatz, _, _, rfl, rfl, (by show (0 : Int) < z; exact hz1.2.1 z hzm), small_le (by show 3 ≤ 1000; decide), fun p hp => q _ _ (s1.trans (same_new hp _))⟩
  refine ⟨fun c H3 => H3 = H2 ∧ (c = true → 0 < sz.length), ?_, ?_⟩
  · refine ⟨_, rfl, rfl, _, rfl, itB (fun c => ?_) (fun c => ⟨rfl, fun z => (by cases z)⟩)⟩
    refine ⟨_, rfl, ps, _, rfl, .inl (SqL.of hz1.1), _, _, rfl, rfl, _, rfl, itB (fun c => ?_) (fun c => ⟨rfl, fun z => (by cases z)⟩)⟩
    · have := of_decide_eq_true c
      rw [hl] at this
      exact ⟨_, rfl, _, _, rfl, rfl, ⟨by decide, by decide⟩, _, _, rfl, rfl, (by show (0 : Int) < 5; decide), rfl, _, rfl, rfl, fun _ => by omega⟩
  rintro c3 H3 ⟨rfl, hc3⟩
  refine itB (fun c => ?_) (fun c => ?_)
  · have he := hc3 c
    exact ⟨_, rfl, _, rfl, ps, _, rfl, .inl (SqL.of hz1.1), _, _, rfl, rfl, (by show (0 : Int) < (((sz.map V.int).length : Nat) : Int); omega), _, rfl, _, _, rfl, rfl, ⟨by decide, by decide, by decide⟩, _, _, rfl, rfl, .inl ⟨by omega, by omega⟩, _, rfl, _, _, rfl, rfl, _, rfl, _, _, rfl, rfl, ⟨by decide, by decide⟩, _, _, rfl, rfl, (by show (0 : Int) < 2; decide), _, _, rfl, rfl, .inl ⟨by decide, by decide⟩, _, _, rfl, rfl, _, _, rfl, rfl, .inr ⟨by omega, by omega⟩, small_le (by show 3 ≤ 1000; decide), fun p hp => q _ _ (s1.trans (same_new hp _))⟩
  refine ⟨fun c H4 => H4 = H3 ∧ (c = true → 0 < sz.length), ?_, ?_⟩
  · exact ⟨_, rfl, rfl, _, rfl, itB (fun c => ⟨_, rfl, ps, _, rfl, .inl (SqL.of hz1.1), _, _, rfl, rfl, _, rfl, rfl, fun z => (by have := of_decide_eq_true z; rw [hl] at this; omega)⟩) (fun c => ⟨rfl, fun z => (by cases z)⟩)⟩
  rintro c4 H4 ⟨rfl, hc4⟩
  refine itB (fun c => ?_) (fun c => ?_)
  · have he := hc4 c
    exact ⟨_, rfl, _, rfl, ps, _, rfl, .inl (SqL.of hz1.1), _, _, rfl, rfl, (by show (0 : Int) < (((sz.map V.int).length : Nat) : Int); omega), _, rfl, _, _, rfl, rfl, ⟨by decide, by decide⟩, _, _, rfl, rfl, (by show (0 : Int) < 9; decide), _, _, rfl, rfl, small_le (by show 3 ≤ 1000; decide), fun p hp => q _ _ (s1.trans (same_new hp _))⟩
  refine ⟨_, rfl, _, _, rfl, rfl, (by show (0 : Int) < 2; decide), rfl, _, rfl, itB (fun c => ?_) (fun c => ?_)⟩
  · exact ⟨small_le (by show 2 ≤ 1000; decide), fun p hp => q _ _ (s1.trans (same_new hp _))⟩
  · exact ⟨_, rfl, _, _, rfl, rfl, ⟨by decide, by decide⟩, _, _, rfl, rfl, (by show (0 : Int) < 3; decide), _, rfl, _, _, rfl, rfl, ⟨by decide, by decide⟩, _, _, rfl, fun z H5 s5 => ⟨small_le (by show 2 ≤ 1000; decide), fun p hp => q _ _ ((s1.trans s5).trans (same_new hp _))⟩⟩
theorem sc_law_deeds : FnScope ["_law_script", "_law_k", "_law_salt", "_law_sizes", "_law_events", "_law_number", "_law_many", "_law_deeds_here", "_law_j"] ["_law_script", "_law_k", "_law_salt", "_law_sizes", "_law_events"] (defScope s_L_deeds) := ⟨rfl, rfl, rfl, by decide +kernel, rfl, by decide +kernel, by decide +kernel⟩
theorem ok_deeds {f gm gd : Addr} {fd dm dd : FuncData} (F : Fun K "_law_deeds" "_law_deeds" s_L_deeds f fd)
    (G_law_mixed : FnOk P w K mg base CX0 2 gm dm ["_law_script", "_law_k", "_law_salt"] (spMixed K)) (b_law_mixed : Binds K dm ["_law_script", "_law_k", "_law_salt"] []) (k_law_mixed : PySem.W.keepIn K (.ref gm) = true) (m_law_mixed : mg "_law_mixed" = some (.ref gm))
    (G_law_deed : FnOk P w K mg base CX0 2 gd dd ["_law_number", "_law_sizes", "_law_events"] spDeed) (b_law_deed : Binds K dd ["_law_number", "_law_sizes", "_law_events"] []) (k_law_deed : PySem.W.keepIn K (.ref gd) = true) (m_law_deed : mg "_law_deed" = some (.ref gd))
    (m_range : mg "range" = none) (m_tuple : mg "tuple" = none) : FnOk P w K mg base CX0 3 f fd ["_law_script", "_law_k", "_law_salt", "_law_sizes", "_law_events"] (spDeeds K) := by
  refine F.ok sc_law_deeds (fun vs H Q E h => ?_) (fun cdv A outer s H vs Q E hr h => ?_)
  · obtain ⟨a, ps, ns, sz, k, salt, e, rfl, _⟩ := h
    rfl
  obtain ⟨a, ps, ns, sz, k, salt, e, rfl, hS, h63, ⟨k0, k1⟩, ⟨t0, t1⟩, hsz, q⟩ := h
  refine ⟨_, (pss_cons (ps_set (i := 5) sc_law_deeds.nd rfl (Or.inl rfl) (pe_call G_law_mixed hr rfl m_law_mixed k_law_mixed b_law_mixed .nil pass0 (pa_cons (pv 0) (pa_cons (pv 1) (pa_cons (pv 2) pa_nil)))))
    (pss_cons (ps_set (i := 6) sc_law_deeds.nd rfl (Or.inl rfl) (pe_ix ix_list (pe_lst (pa_cons pe_int (pa_cons pe_int (pa_cons pe_int (pa_cons pe_int (pa_cons pe_int (pa_cons pe_int (pa_cons pe_int (pa_cons pe_int pa_nil))))))))) (pe_op op_mod (pv 5) pe_int) (fun _ _ => rfl)))
    (pss_cons (ps_set (i := 7) sc_law_deeds.nd rfl (Or.inl rfl) (pe_lst pa_nil))
    (pss_cut (ps_for PassesOwn.never rfl (pi_range1 rfl m_range (pa_cons (pv 6) pa_nil)) (pg_name (i := 8) sc_law_deeds.nd rfl (Or.inl rfl))
      (pss_one (ps_expr (pe_bm PySem.F.plainAttrs_list PySem.F.slot_list_append PySem.F.type_list_append mt_append (pv 7) (pa_cons (pe_call G_law_deed hr rfl m_law_deed k_law_deed b_law_deed .nil pass0 (pa_cons (pe_call G_law_mixed hr rfl m_law_mixed k_law_mixed b_law_mixed .nil pass0 (pa_cons (pv 0) (pa_cons (pv 1) (pa_cons (pe_op op_add (pe_op op_add (pv 2) pe_int) (pv 8)) pa_nil)))) (pa_cons (pv 3) (pa_cons (pv 4) pa_nil)))) pa_nil)))))
    (pss_one (ps_ret (pe_callTy call_tuple_of rfl m_tuple PyProof.Rows.boot_tuple (pa_cons (pv 7) pa_nil)))))))), ?_⟩
  refine ⟨_, rfl, _, rfl, _, rfl, a, ns, _, _, rfl, hS, h63, ⟨by omega, by omega⟩, ⟨by omega, by omega⟩, fun x x0 x1 => ?_⟩
  obtain ⟨m, hm, hat⟩ : ∃ m : Nat, m ≤ 3 ∧ atI [V.int 0, V.int 0, V.int 1, V.int 1, V.int 1, V.int 2, V.int 2, V.int 3] (x % 8) = some (.int (m : Int)) := by
    obtain ⟨o, ho, e⟩ := natsV_at (os := [0, 0, 1, 1, 1, 2, 2, 3]) (i := x % 8) (by omega) (by show _ < (8 : Int); omega)
    refine ⟨o, ?_, e⟩
    simp only [List.mem_cons, List.not_mem_nil, or_false] at ho
    omega
  refine ⟨small_le (by show 8 ≤ 1000; decide), fun p0 hp0 => ⟨_, rfl, _, _, rfl, rfl, (by show (0 : Int) < 8; decide), p0, _, _, _, rfl, rfl, SqL.of upd_same, hat, ?_⟩⟩
  have s1 := same_new hp0 (.lst [V.int 0, V.int 0, V.int 1, V.int 1, V.int 1, V.int 2, V.int 2, V.int 3])
  generalize upd H p0 (.lst [V.int 0, V.int 0, V.int 1, V.int 1, V.int 1, V.int 2, V.int 2, V.int 3]) = H1 at s1 ⊢
  refine ⟨Nat.zero_le _, fun pd hpd => ?_⟩
  have npd : H pd = none := s1.free hpd
  have s2 := s1.trans (same_new hpd (.lst []))
  refine ⟨fun σ' H' => ∃ xs : List V, Same H H' ∧ H' pd = some (.lst xs) ∧ ∃ o8 : Option V, σ' = [some (.ref a), some (.int k), some (.int salt), some (.ref ps), some (.int e), some (.int x), some (.int (m : Int)), some (.ref pd), o8], ?_, ?_⟩
  · refine ⟨_, rfl, _, rfl, by omega, by omega, ?_⟩
    refine for_range (fun i σ' H' => ∃ xs : List V, Same H H' ∧ H' pd = some (.lst xs) ∧ xs.length ≤ i ∧ ∃ o8 : Option V, σ' = [some (.ref a), some (.int k), some (.int salt), some (.ref ps), some (.int e), some (.int x), some (.int (m : Int)), some (.ref pd), o8])
      ⟨[], s2, upd_same, Nat.le_refl _, _, rfl⟩ ?_ (fun σ' H' ⟨xs, s3, h3, _, r⟩ => ⟨xs, s3, h3, r⟩)
    rintro i σ' H3 hi ⟨xs, s3, h3, lx, o8, rfl⟩
    refine ⟨_, rfl, .inl ⟨rfl, _, SqL.of h3⟩, _, rfl, _, rfl, _, rfl, _, _, rfl, rfl, _, rfl, _, _, rfl, rfl, a, ns, _, _, rfl, s3.seq hS, h63, ⟨by omega, by omega⟩, ⟨by omega, by omega⟩, fun y y0 y1 => ?_⟩
    refine ⟨_, rfl, _, rfl, y, e, ps, sz, rfl, y0, y1, hsz.mono s3, fun v H4 s4 => ?_⟩
    exact ⟨pd, _, _, rfl, rfl, s4 _ _ h3, small1000 (by omega), xs ++ [v], same_upd npd (s3.trans s4) _, upd_same, by rw [List.length_append, List.length_singleton]; omega, _, rfl⟩
  rintro σ' H3 ⟨xs, s3, h3, o8, rfl⟩
  exact ⟨_, rfl, pd, _, rfl, .inl ⟨SqL.of h3, fun p hp => q _ _ (s3.trans (same_new hp _))⟩⟩
theorem sc_law_guard : FnScope ["_law_number", "_law_rooms_here", "_law_boxes", "_law_high", "_law_way", "_law_rest"] ["_law_number", "_law_rooms_here", "_law_boxes", "_law_high"] (defScope s_L_guard) := ⟨rfl, rfl, rfl, by decide +kernel, rfl, by decide +kernel, by decide +kernel⟩
theorem ok_guard {n : Nat} {f : Addr} {fd : FuncData} (F : Fun K "_law_guard" "_law_guard" s_L_guard f fd) (G_law_guard : FnOk P w K mg base CX0 n f fd ["_law_number", "_law_rooms_here", "_law_boxes", "_law_high"] (spGuard n)) (b_law_guard : Binds K fd ["_law_number", "_law_rooms_here", "_law_boxes", "_law_high"] []) (k_law_guard : PySem.W.keepIn K (.ref f) = true) (m_law_guard : mg "_law_guard" = some (.ref f)) :
    FnOk P w K mg base CX0 (n + 1) f fd ["_law_number", "_law_rooms_here", "_law_boxes", "_law_high"] (spGuard (n + 1)) := by
  refine F.ok sc_law_guard (fun vs H Q E h => ?_) (fun cdv A outer s H vs Q E hr h => ?_)
  · obtain ⟨m, r, hi, b, rfl, _⟩ := h
    rfl
  obtain ⟨m, r, hi, b, rfl, r0, h1, h2, q⟩ := h
  refine ⟨_, (pss_cons (ps_set (i := 4) sc_law_guard.nd rfl (Or.inl rfl) (pe_op op_mod (pv 0) pe_int))
    (pss_cons (ps_set (i := 5) sc_law_guard.nd rfl (Or.inl rfl) (pe_op op_fdiv (pv 0) pe_int))
    (pss_cons (ps_if (pt_cut (PW.pt (pw_and (pt_cmpR op_gt (pv 3) pe_int (nomark _)) (pw_and1 (pt_cmpR op_eq (pv 4) pe_int (nomark _))))))
      (pss_one (ps_ret (pe_tup (pa_cons pe_str (pa_cons (pe_call G_law_guard hr rfl m_law_guard k_law_guard b_law_guard .nil pass0 (pa_cons (pv 5) (pa_cons (pv 1) (pa_cons (pv 2) (pa_cons (pe_op op_sub (pv 3) pe_int) pa_nil))))) pa_nil)))))
      pss_nil)
    (pss_cons (ps_if (pt_cut (PW.pt (pw_and (pt_cmpR op_gt (pv 3) pe_int (nomark _)) (pw_and1 (pt_cmpR op_eq (pv 4) pe_int (nomark _))))))
      (pss_one (ps_ret (pe_tup (pa_cons pe_str (pa_cons (pe_call G_law_guard hr rfl m_law_guard k_law_guard b_law_guard .nil pass0 (pa_cons (pv 5) (pa_cons (pv 1) (pa_cons (pv 2) (pa_cons (pe_op op_sub (pv 3) pe_int) pa_nil))))) (pa_cons (pe_call G_law_guard hr rfl m_law_guard k_law_guard b_law_guard .nil pass0 (pa_cons (pe_op op_fdiv (pv 5) pe_int) (pa_cons (pv 1) (pa_cons (pv 2) (pa_cons (pe_op op_sub (pv 3) pe_int) pa_nil))))) pa_nil))))))
      pss_nil)
    (pss_cons (ps_if (pt_cut (PW.pt (pw_and (pt_cmpR op_gt (pv 3) pe_int (nomark _)) (pw_and1 (pt_cmpR op_eq (pv 4) pe_int (nomark _))))))
      (pss_one (ps_ret (pe_tup (pa_cons pe_str (pa_cons (pe_call G_law_guard hr rfl m_law_guard k_law_guard b_law_guard .nil pass0 (pa_cons (pv 5) (pa_cons (pv 1) (pa_cons (pv 2) (pa_cons (pe_op op_sub (pv 3) pe_int) pa_nil))))) (pa_cons (pe_call G_law_guard hr rfl m_law_guard k_law_guard b_law_guard .nil pass0 (pa_cons (pe_op op_fdiv (pv 5) pe_int) (pa_cons (pv 1) (pa_cons (pv 2) (pa_cons (pe_op op_sub (pv 3) pe_int) pa_nil))))) pa_nil))))))
      pss_nil)
    (pss_cons (ps_if (pt_cut (PW.pt (pw_or (pt_cmpR op_eq (pv 4) pe_int (nomark _)) (pw_or1 (pt_cmpR op_eq (pv 4) pe_int (nomark _))))))
      (pss_one (ps_ret (pe_tup (pa_cons pe_str (pa_cons (pe_op op_mod (pv 5) (pv 1)) pa_nil)))))
      pss_nil)
    (pss_cons (ps_if (pt_cut (PW.pt (pw_and (pt_cmpR op_eq (pv 4) pe_int (nomark _)) (pw_and1 (pt_cmpR op_gt (pv 2) pe_int (nomark _))))))
      (pss_one (ps_ret (pe_tup (pa_cons pe_str (pa_cons (pe_op op_mod (pv 5) (pv 2)) (pa_cons (pe_op op_mod (pe_op op_fdiv (pv 5) pe_int) pe_int) pa_nil))))))
      pss_nil)
    (pss_cons (ps_if (pt_cut (PW.pt (pw_and (pt_cmpR op_eq (pv 4) pe_int (nomark _)) (pw_and1 (pt_cmpR op_gt (pv 2) pe_int (nomark _))))))
      (pss_one (ps_ret (pe_tup (pa_cons pe_str (pa_cons (pe_op op_mod (pv 5) (pv 2)) (pa_cons (pe_op op_mod (pe_op op_fdiv (pv 5) pe_int) pe_int) pa_nil))))))
      pss_nil)
    (pss_one (ps_ret (pe_tup (pa_cons pe_str pa_nil)))))))))))), ?_⟩
  refine ⟨_, rfl, _, _, rfl, rfl, (by show (0 : Int) < 9; decide), ?_⟩
  refine ⟨_, rfl, _, _, rfl, rfl, ⟨by decide, by decide⟩, ?_⟩
  refine ⟨fun c H' => H' = H ∧ (c = true → 1 < hi), ?_, ?_⟩
  · refine ⟨_, rfl, _, _, rfl, rfl, _, rfl, itB (fun c => ?_) (fun c => ⟨rfl, fun z => (by cases z)⟩)⟩
    exact ⟨_, rfl, rfl, _, rfl, rfl, fun _ => of_decide_eq_true c⟩
  rintro c1 H ⟨rfl, hc1⟩
  refine itB (fun c => ?_) (fun c => ?_)
  · have hh := hc1 c
    exact ⟨_, rfl, _, rfl, _, rfl, _, rfl, _, _, rfl, rfl, _, _, _, _, rfl, r0, by omega, by omega, fun v g H2 s2 hg gok ght => ⟨small_le (by show 2 ≤ 1000; decide), fun p hp => q _ (.neg g) _ (s2.trans (same_new hp _)) (.neg upd_same (hg.mono (KeepT.new hp _))) gok (by show ((g.ht + 1 : Nat) : Int) ≤ hi; omega)⟩⟩
  refine ⟨fun c H' => H' = H ∧ (c = true → 1 < hi), ?_, ?_⟩
  · refine ⟨_, rfl, _, _, rfl, rfl, _, rfl, itB (fun c => ?_) (fun c => ⟨rfl, fun z => (by cases z)⟩)⟩
    exact ⟨_, rfl, rfl, _, rfl, rfl, fun _ => of_decide_eq_true c⟩
  rintro c2 H ⟨rfl, hc2⟩
  refine itB (fun c => ?_) (fun c => ?_)
  · have hh := hc2 c
    exact ⟨_, rfl, _, rfl, _, rfl, _, rfl, _, _, rfl, rfl, _, _, _, _, rfl, r0, by omega, by omega, fun v g H2 s2 hg gok ght => ⟨_, rfl, _, _, rfl, rfl, ⟨by decide, by decide⟩, _, rfl, _, rfl, _, rfl, _, _, rfl, rfl, _, _, _, _, rfl, r0, by omega, by omega, fun v3 g3 H3 s3 hg3 gok3 ght3 => ⟨small_le (by show 3 ≤ 1000; decide), fun p hp => q _ (.both g g3) _ ((s2.trans s3).trans (same_new hp _)) (.both upd_same (hg.mono (KeepT.of (s3.trans (same_new hp _)))) (hg3.mono (KeepT.new hp _))) ⟨gok, gok3⟩ (by show ((1 + max g.ht g3.ht : Nat) : Int) ≤ hi; omega)⟩⟩⟩
  refine ⟨fun c H' => H' = H ∧ (c = true → 1 < hi), ?_, ?_⟩
  · refine ⟨_, rfl, _, _, rfl, rfl, _, rfl, itB (fun c => ?_) (fun c => ⟨rfl, fun z => (by cases z)⟩)⟩
    exact ⟨_, rfl, rfl, _, rfl, rfl, fun _ => of_decide_eq_true c⟩
  rintro c3 H ⟨rfl, hc3⟩
  refine itB (fun c => ?_) (fun c => ?_)
  · have hh := hc3 c
    exact ⟨_, rfl, _, rfl, _, rfl, _, rfl, _, _, rfl, rfl, _, _, _, _, rfl, r0, by omega, by omega, fun v g H2 s2 hg gok ght => ⟨_, rfl, _, _, rfl, rfl, ⟨by decide, by decide⟩, _, rfl, _, rfl, _, rfl, _, _, rfl, rfl, _, _, _, _, rfl, r0, by omega, by omega, fun v3 g3 H3 s3 hg3 gok3 ght3 => ⟨small_le (by show 3 ≤ 1000; decide), fun p hp => q _ (.either g g3) _ ((s2.trans s3).trans (same_new hp _)) (.either upd_same (hg.mono (KeepT.of (s3.trans (same_new hp _)))) (hg3.mono (KeepT.new hp _))) ⟨gok, gok3⟩ (by show ((1 + max g.ht g3.ht : Nat) : Int) ≤ hi; omega)⟩⟩⟩
  refine ⟨fun c H' => H' = H, ?_, ?_⟩
  · exact ⟨_, rfl, rfl, _, rfl, itB (fun c => rfl) (fun c => ⟨_, rfl, rfl, _, rfl, rfl⟩)⟩
  rintro c4 H rfl
  refine itB (fun c => ?_) (fun c => ?_)
  · exact ⟨_, rfl, _, rfl, _, _, rfl, rfl, (by show (0 : Int) < r; exact r0), small_le (by show 2 ≤ 1000; decide), fun p hp => q _ (.inn _) _ (same_new hp _) (.inn upd_same) trivial (by show (1 : Int) ≤ hi; omega)⟩
  refine ⟨fun c H' => H' = H ∧ (c = true → 0 < (b : Int)), ?_, ?_⟩
  · refine ⟨_, rfl, rfl, _, rfl, itB (fun c => ⟨_, rfl, _, _, rfl, rfl, _, rfl, rfl, fun z => of_decide_eq_true z⟩) (fun c => ⟨rfl, fun z => (by cases z)⟩)⟩
  rintro c5 H ⟨rfl, hc5⟩
  refine itB (fun c => ?_) (fun c => ?_)
  · have hh := hc5 c
    exact ⟨_, rfl, _, rfl, _, _, rfl, rfl, (by show (0 : Int) < (b : Int); exact hh), _, rfl, _, _, rfl, rfl, ⟨by decide, by decide⟩, _, _, rfl, rfl, (by show (0 : Int) < 4; decide), small_le (by show 3 ≤ 1000; decide), fun p hp => q _ (.is _ _) _ (same_new hp _) (.is upd_same) ⟨Int.emod_nonneg _ (by omega), Int.emod_lt_of_pos _ hh⟩ (by show (1 : Int) ≤ hi; omega)⟩
  refine ⟨fun c H' => H' = H ∧ (c = true → 0 < (b : Int)), ?_, ?_⟩
  · refine ⟨_, rfl, rfl, _, rfl, itB (fun c => ⟨_, rfl, _, _, rfl, rfl, _, rfl, rfl, fun z => of_decide_eq_true z⟩) (fun c => ⟨rfl, fun z => (by cases z)⟩)⟩
  rintro c6 H ⟨rfl, hc6⟩
  refine itB (fun c => ?_) (fun c => ?_)
  · have hh := hc6 c
    exact ⟨_, rfl, _, rfl, _, _, rfl, rfl, (by show (0 : Int) < (b : Int); exact hh), _, rfl, _, _, rfl, rfl, ⟨by decide, by decide⟩, _, _, rfl, rfl, (by show (0 : Int) < 5; decide), small_le (by show 3 ≤ 1000; decide), fun p hp => q _ (.under _ _) _ (same_new hp _) (.under upd_same) ⟨Int.emod_nonneg _ (by omega), Int.emod_lt_of_pos _ hh⟩ (by show (1 : Int) ≤ hi; omega)⟩
  exact ⟨small_le (by show 1 ≤ 1000; decide), fun p hp => q _ .yes _ (same_new hp _) (.yes upd_same) trivial (by show (1 : Int) ≤ hi; omega)⟩
theorem none_guard {f : Addr} {fd : FuncData} : FnOk P w K mg base CX0 0 f fd ["_law_number", "_law_rooms_here", "_law_boxes", "_law_high"] (spGuard 0) := by
  have no : ∀ vs H Q E, ¬ spGuard 0 vs H Q E := fun vs H Q E h => by
    obtain ⟨m, r, hi, b, _, _, h1, h2, _⟩ := h
    omega
  exact ⟨fun vs H Q E h => absurd h (no vs H Q E), fun A outer s H args us vs Q E _ _ _ _ h => absurd h (no vs H Q E)⟩
theorem all_guard {f : Addr} {fd : FuncData} (F : Fun K "_law_guard" "_law_guard" s_L_guard f fd) (b_law_guard : Binds K fd ["_law_number", "_law_rooms_here", "_law_boxes", "_law_high"] []) (m_law_guard : mg "_law_guard" = some (.ref f)) : ∀ n : Nat, FnOk P w K mg base CX0 n f fd ["_law_number", "_law_rooms_here", "_law_boxes", "_law_high"] (spGuard n)
  | 0 => none_guard
  | n + 1 => ok_guard F (all_guard F b_law_guard m_law_guard n) b_law_guard F.kp m_law_guard
end
end Chr

namespace Chr
open PySem L2 Mix Gds Rms
/-! charts by the cells: depths, rooms -/
theorem last_at {ds : List Int} {k : Nat} (h : k < ds.length) : atI (ds.map V.int) ((k : Nat) : Int) = some (.int (ds.getD k 0)) := by
  refine atI_nat ?_
  rw [List.getElem?_map, List.getElem?_eq_getElem h, List.getD_eq_getElem?_getD, List.getElem?_eq_getElem h]
  rfl
def Low (ds : List Int) : Prop := ∀ k, k < ds.length → ds.getD k 0 ≤ 4
theorem Low.snoc {ds : List Int} {v : Int} (h : Low ds) (hv : v ≤ 4) : Low (ds ++ [v]) := fun k hk => by
  rw [List.getD_eq_getElem?_getD]
  by_cases e : k < ds.length
  · rw [List.getElem?_append_left e, ← List.getD_eq_getElem?_getD]
    exact h k e
  · have : k = ds.length := by
      rw [List.length_append, List.length_singleton] at hk
      omega
    subst this
    rw [List.getElem?_append_right (Nat.le_refl _), Nat.sub_self]
    exact hv
def spDepths (K : PySem.W.Frag) : Sp := fun vs H Q _ => ∃ (a : Addr) (ns : List Int) (m : Nat), vs = [.ref a, .int (m : Int)] ∧ SqL K H a (ns.map V.int) ∧ ns.length ≤ 63 ∧ 1 ≤ m ∧ m ≤ 12 ∧
  ∀ (p : Addr) (ds : List Int) (H' : Hp), Same H H' → H p = none → H' p = some (.lst (ds.map V.int)) → Tr.Good ds → Low ds → ds.length = m → Q (.ref p) H'
section
variable {P : Program} {w : World} {K : PySem.W.Frag} {mg : Str → Option Value} {base : Heap}
theorem sc_law_depths : FnScope ["_law_script", "_law_many", "_law_depths_here", "_law_k"] ["_law_script", "_law_many"] (defScope s_L_depths) := ⟨rfl, rfl, rfl, by decide +kernel, rfl, by decide +kernel, by decide +kernel⟩
theorem ok_depths {f gm : Addr} {fd dm : FuncData} (F : Fun K "_law_depths" "_law_depths" s_L_depths f fd) (G_law_mixed : FnOk P w K mg base CX0 2 gm dm ["_law_script", "_law_k", "_law_salt"] (spMixed K)) (b_law_mixed : Binds K dm ["_law_script", "_law_k", "_law_salt"] []) (k_law_mixed : PySem.W.keepIn K (.ref gm) = true) (m_law_mixed : mg "_law_mixed" = some (.ref gm))
    (m_range : mg "range" = none) (m_min : mg "min" = none) : FnOk P w K mg base CX0 3 f fd ["_law_script", "_law_many"] (spDepths K) := by
  refine F.ok sc_law_depths (fun vs H Q E h => ?_) (fun cdv A outer s H vs Q E hr h => ?_)
  · obtain ⟨a, ns, m, rfl, _⟩ := h
    rfl
  obtain ⟨a, ns, m, rfl, hS, h63, m1, m12, q⟩ := h
  refine ⟨_, (pss_cons (ps_set (i := 2) sc_law_depths.nd rfl (Or.inl rfl) (pe_lst (pa_cons pe_int pa_nil)))
    (pss_cut (ps_for PassesOwn.never rfl (pi_range2 rfl m_range (pa_cons pe_int (pa_cons (pv 1) pa_nil))) (pg_name (i := 3) sc_law_depths.nd rfl (Or.inl rfl))
      (pss_one (ps_expr (pe_bm PySem.F.plainAttrs_list PySem.F.slot_list_append PySem.F.type_list_append mt_append (pv 2) (pa_cons (pe_op op_add pe_int (pe_op op_mod (pe_call G_law_mixed hr rfl m_law_mixed k_law_mixed b_law_mixed .nil pass0 (pa_cons (pv 0) (pa_cons (pe_op op_add pe_int (pv 3)) (pa_cons pe_int pa_nil)))) (pe_op op_add (pe_callB (call_min2 rfl) rfl m_min PyProof.Rows.boot_min (pa_cons (pe_ix ix_list (pv 2) (pe_op op_sub (pv 3) pe_int) (fun _ _ => rfl)) (pa_cons pe_int pa_nil))) pe_int))) pa_nil)))))
    (pss_one (ps_ret (pv 2))))), ?_⟩
  refine ⟨small_le (by show 1 ≤ 1000; decide), fun pd hpd => ?_⟩
  refine ⟨fun σ' H' => ∃ dl : List Int, Same H H' ∧ H' pd = some (.lst (dl.map V.int)) ∧ Tr.Good dl ∧ Low dl ∧ dl.length = m ∧ ∃ o3 : Option V, σ' = [some (.ref a), some (.int (m : Int)), some (.ref pd), o3], ?_, ?_⟩
  · refine ⟨_, rfl, 1, (m : Int), rfl, ⟨by decide, by decide, by omega, by omega⟩, ?_⟩
    refine for_range (fun i σ' H' => ∃ dl : List Int, Same H H' ∧ H' pd = some (.lst (dl.map V.int)) ∧ Tr.Good dl ∧ Low dl ∧ dl.length = i + 1 ∧ ∃ o3 : Option V, σ' = [some (.ref a), some (.int (m : Int)), some (.ref pd), o3])
      ⟨[0], same_new hpd _, upd_same, .one, (fun k hk => by have : k = 0 := by simpa using hk
                                                            subst this
                                                            decide), rfl, none, rfl⟩ ?_ ?_
    · rintro i σ' H2 hi ⟨dl, s2, h2, good, low, hl, o3, rfl⟩
      have gn := good.nonneg i (by omega)
      have hat : atI (dl.map V.int) (1 + (i : Int) - 1) = some (.int (dl.getD i 0)) := by
        rw [show (1 + (i : Int)) - 1 = (i : Int) by omega]
        exact last_at (by omega)
      refine ⟨_, rfl, .inl ⟨rfl, _, SqL.of h2⟩, _, rfl, _, rfl, _, _, rfl, rfl, a, ns, _, _, rfl, s2.seq hS, h63, ⟨by omega, by omega⟩, ⟨by decide, by decide⟩, fun y y0 y1 => ?_⟩
      have tp : 0 ≤ (if (3 : Int) < dl.getD i 0 then 3 else dl.getD i 0) ∧ (if (3 : Int) < dl.getD i 0 then 3 else dl.getD i 0) ≤ dl.getD i 0 ∧ (if (3 : Int) < dl.getD i 0 then 3 else dl.getD i 0) ≤ 3 := by split <;> omega
      have hy0 := Int.emod_nonneg y (show (if (3 : Int) < dl.getD i 0 then 3 else dl.getD i 0) + 1 ≠ 0 by omega)
      have hy1 := Int.emod_lt_of_pos y (show 0 < (if (3 : Int) < dl.getD i 0 then 3 else dl.getD i 0) + 1 by omega)
      refine ⟨_, rfl, _, rfl, _, _, rfl, rfl, pd, _, _, _, rfl, rfl, SqL.of h2, hat, _, _, rfl, _, _, rfl, rfl, _, _, rfl, rfl, (by show (0 : Int) < (if (3 : Int) < dl.getD i 0 then 3 else dl.getD i 0) + 1; omega), _, _, rfl, rfl, pd, _, _, rfl, rfl, h2, small1000 (by rw [List.length_map]; omega), ?_⟩
      refine ⟨dl ++ [1 + y % ((if (3 : Int) < dl.getD i 0 then 3 else dl.getD i 0) + 1)], same_upd hpd s2 _, ?_, good.snoc (by omega) (by rw [hl, Nat.add_sub_cancel]; omega), low.snoc (by omega), by simp [hl], _, rfl⟩
      rw [upd_same, List.map_append]
      rfl
    · rintro σ' H2 ⟨dl, s2, h2, good, low, hl, o3, rfl⟩
      exact ⟨dl, s2, h2, good, low, by omega, o3, rfl⟩
  rintro σ' H2 ⟨dl, s2, h2, good, low, hl, o3, rfl⟩
  exact ⟨_, rfl, q pd dl H2 s2 hpd h2 good low hl⟩
def spRooms (K : PySem.W.Frag) : Sp := fun vs H Q _ => ∃ (a pd ps : Addr) (ns ds sz : List Int) (e : Int), vs = [.ref a, .ref pd, .ref ps, .int e] ∧ SqL K H a (ns.map V.int) ∧ ns.length ≤ 63 ∧ H pd = some (.lst (ds.map V.int)) ∧ ds.length ≤ 12 ∧ SizesIn H ps sz ∧
  ∀ (t : Addr) (rs : List Rm) (H' : Hp), Same H H' → Rooms H' t rs → depths rs = ds → Fit rs → Q (.ref t) H'
theorem sc_law_rooms : FnScope ["_law_script", "_law_depths_here", "_law_sizes", "_law_events", "_law_rooms_here", "_law_k", "_law_number", "_law_kind", "_law_keeps", "_law_lamp", "_law_ins", "_law_outs"] ["_law_script", "_law_depths_here", "_law_sizes", "_law_events"] (defScope sRooms) := ⟨rfl, rfl, rfl, by decide +kernel, rfl, by decide +kernel, by decide +kernel⟩
theorem ok_rooms {f gm gn gd gc : Addr} {fd dm dn dd dc : FuncData} (F : Fun K "_law_rooms" "_law_rooms" sRooms f fd) (G_law_mixed : FnOk P w K mg base CX0 3 gm dm ["_law_script", "_law_k", "_law_salt"] (spMixed K)) (b_law_mixed : Binds K dm ["_law_script", "_law_k", "_law_salt"] []) (k_law_mixed : PySem.W.keepIn K (.ref gm) = true) (m_law_mixed : mg "_law_mixed" = some (.ref gm))
    (G_law_name : FnOk P w K mg base CX0 3 gn dn ["_law_k", "_law_number"] spName) (b_law_name : Binds K dn ["_law_k", "_law_number"] []) (k_law_name : PySem.W.keepIn K (.ref gn) = true) (m_law_name : mg "_law_name" = some (.ref gn))
    (G_law_deeds : FnOk P w K mg base CX0 3 gd dd ["_law_script", "_law_k", "_law_salt", "_law_sizes", "_law_events"] (spDeeds K)) (b_law_deeds : Binds K dd ["_law_script", "_law_k", "_law_salt", "_law_sizes", "_law_events"] []) (k_law_deeds : PySem.W.keepIn K (.ref gd) = true) (m_law_deeds : mg "_law_deeds" = some (.ref gd))
    (G_law_cell_at : FnOk P w K mg base CX0 3 gc dc ["_law_script", "_law_k"] (spCell K)) (b_law_cell_at : Binds K dc ["_law_script", "_law_k"] []) (k_law_cell_at : PySem.W.keepIn K (.ref gc) = true) (m_law_cell_at : mg "_law_cell_at" = some (.ref gc))
    (m_range : mg "range" = none) (m_len : mg "len" = none) (m_tuple : mg "tuple" = none) : FnOk P w K mg base CX0 4 f fd ["_law_script", "_law_depths_here", "_law_sizes", "_law_events"] (spRooms K) := by
  refine F.ok sc_law_rooms (fun vs H Q E h => ?_) (fun cdv A outer s H vs Q E hr h => ?_)
  · obtain ⟨a, pd, ps, ns, ds, sz, e, rfl, _⟩ := h
    rfl
  obtain ⟨a, pd, ps, ns, ds, sz, e, rfl, hS, h63, hd, h40, hsz, q⟩ := h
  refine ⟨_, (pss_cons (ps_set (i := 4) sc_law_rooms.nd rfl (Or.inl rfl) (pe_lst pa_nil))
    (pss_cut (ps_for PassesOwn.never rfl (pi_range1 rfl m_range (pa_cons (pe_callB call_len_seq rfl m_len PySem.boot_len (pa_cons (pv 1) pa_nil)) pa_nil)) (pg_name (i := 5) sc_law_rooms.nd rfl (Or.inl rfl))
      (pss_cons (ps_set (i := 6) sc_law_rooms.nd rfl (Or.inl rfl) (pe_call G_law_mixed hr rfl m_law_mixed k_law_mixed b_law_mixed .nil pass0 (pa_cons (pv 0) (pa_cons (pe_op op_add pe_int (pv 5)) (pa_cons pe_int pa_nil)))))
      (pss_cons (ps_set (i := 7) sc_law_rooms.nd rfl (Or.inl rfl) pe_str)
      (pss_cons (ps_set (i := 8) sc_law_rooms.nd rfl (Or.inl rfl) pe_str)
      (pss_cut (ps_if (pt_cut (PW.pt (pw_and (pt_cmpR op_lt (pe_op op_add (pv 5) pe_int) (pe_callB call_len_seq rfl m_len PySem.boot_len (pa_cons (pv 1) pa_nil)) (nomark _)) (pw_and1 (pt_cmpR op_gt (pe_ix ix_list (pv 1) (pe_op op_add (pv 5) pe_int) (fun _ _ => rfl)) (pe_ix ix_list (pv 1) (pv 5) (fun _ _ => rfl)) (nomark _))))))
        (pss_cons (ps_set (i := 7) sc_law_rooms.nd rfl (Or.inl rfl) (pe_ix ix_list (pe_lst (pa_cons pe_str (pa_cons pe_str (pa_cons pe_str pa_nil)))) (pe_op op_mod (pv 6) pe_int) (fun _ _ => rfl)))
        (pss_one (ps_set (i := 8) sc_law_rooms.nd rfl (Or.inl rfl) (pe_ix ix_list (pe_lst (pa_cons pe_str (pa_cons pe_str (pa_cons pe_str pa_nil)))) (pe_op op_mod (pe_op op_fdiv (pv 6) pe_int) pe_int) (fun _ _ => rfl)))))
        pss_nil)
      (pss_cut (ps_if (pt_cut (PW.pt (pw_and (pt_cmpR op_eq (pv 7) pe_str (nomark _)) (pw_and1 (pt_cmpR op_eq (pv 8) pe_str (nomark _))))))
        (pss_one (ps_set (i := 8) sc_law_rooms.nd rfl (Or.inl rfl) pe_str))
        pss_nil)
      (pss_cons (ps_set (i := 9) sc_law_rooms.nd rfl (Or.inl rfl) pe_str)
      (pss_cut (ps_if (pt_cmpR op_eq (pe_op op_mod (pe_op op_fdiv (pv 6) pe_int) pe_int) pe_int (nomark _))
        (pss_one (ps_set (i := 9) sc_law_rooms.nd rfl (Or.inl rfl) (pe_call G_law_name hr rfl m_law_name k_law_name b_law_name .nil pass0 (pa_cons (pe_op op_mod (pe_op op_fdiv (pv 6) pe_int) pe_int) (pa_cons (pe_op op_fdiv (pv 6) pe_int) pa_nil)))))
        pss_nil)
      (pss_cons (ps_set (i := 10) sc_law_rooms.nd rfl (Or.inl rfl) (pe_call G_law_deeds hr rfl m_law_deeds k_law_deeds b_law_deeds .nil pass0 (pa_cons (pv 0) (pa_cons (pe_op op_add pe_int (pv 5)) (pa_cons pe_int (pa_cons (pv 2) (pa_cons (pv 3) pa_nil)))))))
      (pss_cons (ps_set (i := 11) sc_law_rooms.nd rfl (Or.inl rfl) (pe_call G_law_deeds hr rfl m_law_deeds k_law_deeds b_law_deeds .nil pass0 (pa_cons (pv 0) (pa_cons (pe_op op_add pe_int (pv 5)) (pa_cons pe_int (pa_cons (pv 2) (pa_cons (pv 3) pa_nil)))))))
      (pss_one (ps_expr (pe_bm PySem.F.plainAttrs_list PySem.F.slot_list_append PySem.F.type_list_append mt_append (pv 4) (pa_cons (pe_tup (pa_cons (pe_call G_law_name hr rfl m_law_name k_law_name b_law_name .nil pass0 (pa_cons (pv 5) (pa_cons (pe_op op_mod (pe_call G_law_cell_at hr rfl m_law_cell_at k_law_cell_at b_law_cell_at .nil pass0 (pa_cons (pv 0) (pa_cons pe_int pa_nil))) pe_int) pa_nil))) (pa_cons (pv 7) (pa_cons (pe_ix ix_list (pv 1) (pv 5) (fun _ _ => rfl)) (pa_cons (pv 8) (pa_cons (pv 9) (pa_cons (pv 10) (pa_cons (pv 11) pa_nil)))))))) pa_nil))))))))))))))
    (pss_one (ps_ret (pe_callTy call_tuple_of rfl m_tuple PyProof.Rows.boot_tuple (pa_cons (pv 4) pa_nil)))))), ?_⟩
  have lds : (ds.map V.int).length = ds.length := List.length_map _
  refine ⟨Nat.zero_le _, fun pr hpr => ?_⟩
  have s1 := same_new hpr (.lst [])
  refine ⟨fun σ' H' => ∃ (vs : List V) (rs : List Rm), Same H H' ∧ H' pr = some (.lst vs) ∧ RmsIn H' vs rs ∧ depths rs = ds ∧ Fit rs ∧ ∃ o5 o6 o7 o8 o9 o10 o11 : Option V, σ' = [some (.ref a), some (.ref pd), some (.ref ps), some (.int e), some (.ref pr), o5, o6, o7, o8, o9, o10, o11], ?_, ?_⟩
  · refine ⟨_, rfl, pd, _, rfl, .inl (SqL.of (s1 _ _ hd)), _, rfl, by omega, by rw [lds]; omega, ?_⟩
    refine for_range (fun i σ' H' => ∃ (vs : List V) (rs : List Rm), Same H H' ∧ H' pr = some (.lst vs) ∧ RmsIn H' vs rs ∧ depths rs = ds.take i ∧ rs.length = i ∧ (∀ (k : Nat) (x : Rm), rs[k]? = some x → if k + 1 < ds.length ∧ ds.getD k 0 < ds.getD (k + 1) 0 then (x.kind = "one" ∨ x.kind = "all") else x.kind = "plain") ∧
      ∃ o5 o6 o7 o8 o9 o10 o11 : Option V, σ' = [some (.ref a), some (.ref pd), some (.ref ps), some (.int e), some (.ref pr), o5, o6, o7, o8, o9, o10, o11]) ⟨[], [], s1, upd_same, .nil, rfl, rfl, (fun k x h => by simp at h), none, none, none, none, none, none, none, rfl⟩ ?_ ?_
    · rintro i σ' H3 hi ⟨vs, rs, s3, h3, hI, hdep, hlen, hkd, o5, o6, o7, o8, o9, o10, o11, rfl⟩
      have hi' : i < ds.length := by
        simp only [List.length_map, Int.toNat_natCast] at hi
        exact hi
      have hd3 := s3 _ _ hd
      have hat : atI (ds.map V.int) (0 + (i : Int)) = some (.int (ds.getD i 0)) := by
        rw [Int.zero_add]
        exact last_at hi'
      refine ⟨_, rfl, _, rfl, _, _, rfl, rfl, a, ns, _, _, rfl, s3.seq hS, h63, ⟨by omega, by omega⟩, ⟨by decide, by decide⟩, fun x x0 x1 => ?_⟩
      refine ⟨fun σ' H4 => Same H3 H4 ∧ ∃ kd kp : Str, (if i + 1 < ds.length ∧ ds.getD i 0 < ds.getD (i + 1) 0 then (kd = "one" ∨ kd = "all") else kd = "plain") ∧ σ' = [some (.ref a), some (.ref pd), some (.ref ps), some (.int e), some (.ref pr), some (.int (0 + (i : Int))), some (.int x), some (.str kd), some (.str kp), o9, o10, o11], ?_, ?_⟩
      · refine ⟨fun c H4 => H4 = H3 ∧ c = decide (i + 1 < ds.length ∧ ds.getD i 0 < ds.getD (i + 1) 0), ?_, ?_⟩
        · refine ⟨_, rfl, _, _, rfl, rfl, _, rfl, pd, _, rfl, .inl (SqL.of hd3), _, _, rfl, rfl, _, rfl, ?_⟩
          refine ite2 (fun c => ?_) (fun c => ⟨rfl, ?_⟩)
          · have c' : (0 : Int) + (i : Int) + 1 < (((ds.map V.int).length : Nat) : Int) := of_decide_eq_true c
            rw [lds] at c'
            have hat2 : atI (ds.map V.int) (0 + (i : Int) + 1) = some (.int (ds.getD (i + 1) 0)) := by
              rw [show (0 : Int) + (i : Int) + 1 = ((i + 1 : Nat) : Int) by omega]
              exact last_at (by omega)
            refine ⟨_, rfl, _, rfl, _, _, rfl, rfl, pd, _, _, _, rfl, rfl, SqL.of hd3, hat2, _, rfl, _, rfl, pd, _, _, _, rfl, rfl, SqL.of hd3, hat, _, _, rfl, rfl, _, rfl, rfl, ?_⟩
            have e : i + 1 < ds.length := by omega
            simp [e]
          · have c' : ¬ (0 : Int) + (i : Int) + 1 < (((ds.map V.int).length : Nat) : Int) := fun z => c (decide_eq_true z)
            rw [lds] at c'
            have e : ¬ i + 1 < ds.length := by omega
            simp [e]
        rintro c H4 ⟨rfl, hc⟩
        refine ite2 (fun c1 => ?_) (fun c1 => ?_)
        · rw [c1] at hc
          have hc' := of_decide_eq_true hc.symm
          obtain ⟨kd, hkm, hk1⟩ := str_at (zs := [("one" : Str), "one", "all"]) (i := x % 3) (by omega) (by show _ < (3 : Int); omega)
          obtain ⟨kp, hpm, hk2⟩ := str_at (zs := [("" : Str), "near", "deep"]) (i := x / 3 % 3) (by omega) (by show _ < (3 : Int); omega)
          refine ⟨small_le (by show 3 ≤ 1000; decide), fun p5 hp5 => ?_⟩
          have s5 := same_new hp5 (.lst [V.str "one", V.str "one", V.str "all"])
          refine ⟨_, rfl, _, _, rfl, rfl, (by show (0 : Int) < 3; decide), p5, _, _, _, rfl, rfl, SqL.of upd_same, hk1, ?_⟩
          refine ⟨small_le (by show 3 ≤ 1000; decide), fun p6 hp6 => ?_⟩
          have s6 := s5.trans (same_new hp6 (.lst [V.str "", V.str "near", V.str "deep"]))
          refine ⟨_, rfl, _, _, rfl, rfl, ⟨by decide, by decide⟩, _, _, rfl, rfl, (by show (0 : Int) < 3; decide), p6, _, _, _, rfl, rfl, SqL.of upd_same, hk2, s6, kd, kp, (by
            rw [if_pos hc']
            simp only [List.mem_cons, List.not_mem_nil, or_false] at hkm
            rcases hkm with h | h | h
            · exact .inl h
            · exact .inl h
            · exact .inr h), rfl⟩
        · rw [Bool.eq_false_iff.mpr c1] at hc
          have hc' := of_decide_eq_false hc.symm
          exact ⟨Same.refl _, _, _, (by rw [if_neg hc']), rfl⟩
      rintro σ5 H5 ⟨s4, kd, kp0, hkd4, rfl⟩
      refine ⟨fun σ' H6 => H6 = H5 ∧ ∃ kp : Str, σ' = [some (.ref a), some (.ref pd), some (.ref ps), some (.int e), some (.ref pr), some (.int (0 + (i : Int))), some (.int x), some (.str kd), some (.str kp), o9, o10, o11], ?_, ?_⟩
      · refine ⟨fun c H6 => H6 = H5, ?_, ?_⟩
        · exact ⟨_, rfl, rfl, _, rfl, itB (fun c => ⟨_, rfl, rfl, _, rfl, rfl⟩) (fun c => rfl)⟩
        rintro c H6 rfl
        exact itB (fun c => ⟨rfl, _, rfl⟩) (fun c => ⟨rfl, _, rfl⟩)
      rintro σ6 H6 ⟨rfl, kp, rfl⟩
      refine ⟨fun σ' H7 => Same H6 H7 ∧ ∃ lp : Str, σ' = [some (.ref a), some (.ref pd), some (.ref ps), some (.int e), some (.ref pr), some (.int (0 + (i : Int))), some (.int x), some (.str kd), some (.str kp), some (.str lp), o10, o11], ?_, ?_⟩
      · refine ⟨_, rfl, _, _, rfl, rfl, ⟨by decide, by decide⟩, _, _, rfl, rfl, (by show (0 : Int) < 3; decide), rfl, _, rfl, itB (fun c => ?_) (fun c => ⟨Same.refl _, _, rfl⟩)⟩
        exact ⟨_, rfl, _, _, rfl, rfl, ⟨by decide, by decide⟩, _, _, rfl, rfl, (by show (0 : Int) < 3; decide), _, rfl, _, _, rfl, rfl, ⟨by decide, by decide⟩, _, _, rfl, fun z H7 s7 => ⟨s7, z, rfl⟩⟩
      rintro σ7 H7 ⟨s7, lp, rfl⟩
      have s37 := (s3.trans s4).trans s7
      refine ⟨_, rfl, _, rfl, _, _, rfl, rfl, _, rfl, _, rfl, a, ps, ns, sz, _, _, _, rfl, s37.seq hS, h63, ⟨by omega, by omega⟩, ⟨by decide, by decide⟩, hsz.mono s37, fun vi H8 s8 => ?_⟩
      have s38 := s37.trans s8
      refine ⟨_, rfl, _, rfl, _, _, rfl, rfl, _, rfl, _, rfl, a, ps, ns, sz, _, _, _, rfl, s38.seq hS, h63, ⟨by omega, by omega⟩, ⟨by decide, by decide⟩, hsz.mono s38, fun vo H9 s9 => ?_⟩
      have s39 := s38.trans s9
      have h9 := ((s4.trans s7).trans (s8.trans s9)) _ _ h3
      refine ⟨_, rfl, .inl ⟨rfl, _, SqL.of h9⟩, _, rfl, _, rfl, a, ns, _, rfl, s39.seq hS, h63, fun cv => ?_⟩
      refine ⟨_, _, rfl, rfl, (by show (0 : Int) < 997; decide), _, _, rfl, fun y H10 s10 => ?_⟩
      have t10 := ((s4.trans s7).trans (s8.trans s9)).trans s10
      have h10 := t10 _ _ h3
      refine ⟨_, rfl, _, rfl, _, rfl, pd, _, _, _, rfl, rfl, SqL.of (t10 _ _ hd3), hat, _, rfl, _, rfl, _, rfl, _, rfl, small_le (by show 7 ≤ 1000; decide), fun p7 hp7 => ?_⟩
      have u3 := same_new hp7 (.tup [.str y, .str kd, .int (ds.getD i 0), .str kp, .str lp, vi, vo])
      have h7 := u3 _ _ h10
      have lv := hI.length
      have kl := KeepT.lst h7 (.lst (vs ++ [.ref p7]))
      refine ⟨pr, _, _, rfl, rfl, h7, small1000 (by omega), vs ++ [.ref p7], rs ++ [⟨y, kd, ds.getD i 0, kp, lp, vi, vo⟩], same_upd hpr ((s3.trans t10).trans u3) _, upd_same, RmsIn.snoc (hI.mono ((KeepT.of (t10.trans u3)).trans kl)) ⟨p7, rfl, kl _ _ upd_same⟩, ?_, by simp [hlen], fun k x hx => ?_, _, _, _, _, _, _, _, rfl⟩
      · unfold depths at hdep ⊢
        rw [List.map_append, hdep, List.take_add_one, List.getElem?_eq_getElem hi', List.getD_eq_getElem?_getD, List.getElem?_eq_getElem hi']
        rfl
      · by_cases hk : k < rs.length
        · rw [List.getElem?_append_left hk] at hx
          exact hkd k x hx
        · have hk' : k = rs.length := by
            have := (List.getElem?_eq_some_iff.mp hx).1
            simp only [List.length_append, List.length_singleton] at this
            omega
          subst hk'
          rw [List.getElem?_append_right (Nat.le_refl _)] at hx
          simp at hx
          subst hx
          rw [hlen]
          exact hkd4
    · rintro σ' H3 ⟨vs, rs, s3, h3, hI, hdep, hlen, hkd, r⟩
      have e : (((ds.map V.int).length : Nat) : Int).toNat = ds.length := by simp
      rw [e] at hdep hlen
      rw [List.take_of_length_le (Nat.le_refl _)] at hdep
      refine ⟨vs, rs, s3, h3, hI, hdep, fun k x hx => ?_, r⟩
      rw [hdep, hlen]
      exact hkd k x hx
  rintro σ' H3 ⟨vs, rs, s3, h3, hI, hdep, hfit, o5, o6, o7, o8, o9, o10, o11, rfl⟩
  refine ⟨_, rfl, pr, _, rfl, .inl ⟨SqL.of h3, fun t ht => ?_⟩⟩
  exact q t rs _ (s3.trans (same_new ht _)) ⟨vs, upd_same, hI.mono (KeepT.new ht _)⟩ hdep hfit
end
end Chr

namespace Chr
open PySem L2 Mix Gds Rms Ans
/-! charts by the cells: doors -/
def gV : Option Int → V
  | none => .non
  | some j => .int j
structure Dr where
  room : Int
  ev : Int
  guard : V
  g : Gd
  deeds : V
  way : Str
  goal : Option Int
def DrIn (H : Hp) (v : V) (d : Dr) : Prop := ∃ a : Addr, v = .ref a ∧ H a = some (.tup [.int d.room, .int d.ev, d.guard, d.deeds, .str d.way, gV d.goal]) ∧ GdIn H d.guard d.g
theorem DrIn.mono {H H' : Hp} {v : V} {r : Dr} (x : DrIn H v r) (k : KeepT H H') : DrIn H' v r := by
  obtain ⟨a, e, h, g⟩ := x
  exact ⟨a, e, k _ _ h, g.mono k⟩
def Doors (H : Hp) (t : Addr) (ds : List Dr) : Prop := ∃ vs, H t = some (.tup vs) ∧ Al (DrIn H) vs ds
theorem Doors.mono {H H' : Hp} {t : Addr} {ds : List Dr} (x : Doors H t ds) (k : KeepT H H') : Doors H' t ds := by
  obtain ⟨vs, h, r⟩ := x
  exact ⟨vs, k _ _ h, r.mono fun _ _ z => z.mono k⟩
def WayFit (n : Nat) (wy : Str) (g : Option Int) : Prop := (wy = ("stay" : Str) ∧ g = none) ∨ ((wy = ("to" : Str) ∨ wy = ("back" : Str)) ∧ ∃ j : Int, g = some j ∧ 0 ≤ j ∧ j < (n : Int))
def DrFit (n nb : Nat) (e : Int) (d : Dr) : Prop := (0 ≤ d.room ∧ d.room < (n : Int)) ∧ (0 ≤ d.ev ∧ d.ev < e) ∧ WayFit n d.way d.goal ∧ d.g.ok nb ∧ d.g.ht ≤ 3
def spDoors (K : PySem.W.Frag) : Sp := fun vs H Q _ => ∃ (a t ps : Addr) (ns sz : List Int) (rs : List Rm) (m : Nat) (e : Int), vs = [.ref a, .int (m : Int), .ref t, .ref ps, .int e] ∧ SqL K H a (ns.map V.int) ∧ ns.length ≤ 63 ∧ m ≤ 12 ∧ Rooms H t rs ∧ 1 ≤ rs.length ∧ rs.length ≤ 12 ∧ SizesIn H ps sz ∧ 0 ≤ e ∧
  ∀ (p : Addr) (ds : List Dr) (H' : Hp), Same H H' → Doors H' p ds → (∀ d ∈ ds, DrFit rs.length sz.length e d) → ds.length ≤ 12 → Q (.ref p) H'
section
variable {P : Program} {w : World} {K : PySem.W.Frag} {mg : Str → Option Value} {base : Heap}
theorem sc_law_doors : FnScope ["_law_script", "_law_many", "_law_rooms_here", "_law_sizes", "_law_events", "_law_doors_here", "_law_k", "_law_number", "_law_goal", "_law_way", "_law_keepers", "_law_guard_here", "_law_deeds_here"] ["_law_script", "_law_many", "_law_rooms_here", "_law_sizes", "_law_events"] (defScope s_L_doors) := ⟨rfl, rfl, rfl, by decide +kernel, rfl, by decide +kernel, by decide +kernel⟩
theorem ok_doors {f gm gg gd : Addr} {fd dm dg dd : FuncData} (F : Fun K "_law_doors" "_law_doors" s_L_doors f fd) (G_law_mixed : FnOk P w K mg base CX0 3 gm dm ["_law_script", "_law_k", "_law_salt"] (spMixed K)) (b_law_mixed : Binds K dm ["_law_script", "_law_k", "_law_salt"] []) (k_law_mixed : PySem.W.keepIn K (.ref gm) = true) (m_law_mixed : mg "_law_mixed" = some (.ref gm))
    (G_law_guard : FnOk P w K mg base CX0 3 gg dg ["_law_number", "_law_rooms_here", "_law_boxes", "_law_high"] (spGuard 3)) (b_law_guard : Binds K dg ["_law_number", "_law_rooms_here", "_law_boxes", "_law_high"] []) (k_law_guard : PySem.W.keepIn K (.ref gg) = true) (m_law_guard : mg "_law_guard" = some (.ref gg))
    (G_law_deeds : FnOk P w K mg base CX0 3 gd dd ["_law_script", "_law_k", "_law_salt", "_law_sizes", "_law_events"] (spDeeds K)) (b_law_deeds : Binds K dd ["_law_script", "_law_k", "_law_salt", "_law_sizes", "_law_events"] []) (k_law_deeds : PySem.W.keepIn K (.ref gd) = true) (m_law_deeds : mg "_law_deeds" = some (.ref gd))
    (m_range : mg "range" = none) (m_len : mg "len" = none) (m_tuple : mg "tuple" = none) (m_int : mg "int" = none) : FnOk P w K mg base CX0 4 f fd ["_law_script", "_law_many", "_law_rooms_here", "_law_sizes", "_law_events"] (spDoors K) := by
  refine F.ok sc_law_doors (fun vs H Q E h => ?_) (fun cdv A outer s H vs Q E hr h => ?_)
  · obtain ⟨a, t, ps, ns, sz, rs, m, e, rfl, _⟩ := h
    rfl
  obtain ⟨a, t, ps, ns, sz, rs, m, e, rfl, hS, h63, m12, hR, l1, l12, hsz, e0, q⟩ := h
  refine ⟨_, (pss_cons (ps_set (i := 5) sc_law_doors.nd rfl (Or.inl rfl) (pe_lst pa_nil))
    (pss_cut (ps_for PassesOwn.never rfl (pi_range1 rfl m_range (pa_cons (pe_op op_mul (pv 1) (pe_callTy call_int1 rfl m_int PyProof.Rows.boot_int (pa_cons (pe_cmpR op_gt (pv 4) pe_int (nomark _)) pa_nil))) pa_nil)) (pg_name (i := 6) sc_law_doors.nd rfl (Or.inl rfl))
      (pss_cons (ps_set (i := 7) sc_law_doors.nd rfl (Or.inl rfl) (pe_call G_law_mixed hr rfl m_law_mixed k_law_mixed b_law_mixed .nil pass0 (pa_cons (pv 0) (pa_cons (pe_op op_add pe_int (pv 6)) (pa_cons pe_int pa_nil)))))
      (pss_cons (ps_set (i := 8) sc_law_doors.nd rfl (Or.inl rfl) (pe_op op_mod (pe_op op_fdiv (pv 7) pe_int) (pe_callB call_len_seq rfl m_len PySem.boot_len (pa_cons (pv 2) pa_nil))))
      (pss_cons (ps_set (i := 9) sc_law_doors.nd rfl (Or.inl rfl) (pe_ix ix_list (pe_lst (pa_cons pe_str (pa_cons pe_str (pa_cons pe_str (pa_cons pe_str (pa_cons pe_str pa_nil)))))) (pe_op op_mod (pv 7) pe_int) (fun _ _ => rfl)))
      (pss_cons (ps_setC (i := 10) (caps := [(2, "_law_rooms_here")]) rfl sc_law_doors.nd rfl (Or.inl rfl) (show CompSc (defScope s_L_doors) ["_law_script", "_law_many", "_law_rooms_here", "_law_sizes", "_law_events", "_law_doors_here", "_law_k", "_law_number", "_law_goal", "_law_way", "_law_keepers", "_law_guard_here", "_law_deeds_here"] _ _ _ from ⟨rfl, rfl, by decide +kernel, by decide +kernel, by decide +kernel, by decide +kernel, by decide +kernel⟩) (pi_range1 rfl m_range (pa_cons (pe_callB call_len_seq rfl m_len PySem.boot_len (pa_cons (pv 2) pa_nil)) pa_nil)) (fun _ _ _ _ _ _ => pifs_one (pt_cmpR op_ne (pe_ix (r := rIxT K) ix_tup (pe_ix (r := rIxT K) ix_tup (pv 1) (pv 0) (fun _ _ => rfl)) pe_int (fun _ _ => rfl)) pe_str (nomark _))) (fun _ _ _ _ _ _ => (pv 0)))
      (pss_cut (ps_if (pt_cut (PW.pt (pw_and (pt_cmpR op_eq (pv 9) pe_str (nomark _)) (pw_and1 (pt_cmpR op_eq (pe_callB call_len_seq rfl m_len PySem.boot_len (pa_cons (pv 10) pa_nil)) pe_int (nomark _))))))
        (pss_one (ps_set (i := 9) sc_law_doors.nd rfl (Or.inl rfl) pe_str))
        pss_nil)
      (pss_cut (ps_if (pt_cmpR op_eq (pv 9) pe_str (nomark _))
        (pss_one (ps_set (i := 8) sc_law_doors.nd rfl (Or.inl rfl) (pe_ix ix_list (pv 10) (pe_op op_mod (pv 8) (pe_callB call_len_seq rfl m_len PySem.boot_len (pa_cons (pv 10) pa_nil))) (fun _ _ => rfl))))
        pss_nil)
      (pss_cut (ps_if (pt_cmpR op_eq (pv 9) pe_str (nomark _))
        (pss_one (ps_set (i := 8) sc_law_doors.nd rfl (Or.inl rfl) pe_non))
        pss_nil)
      (pss_cons (ps_set (i := 11) sc_law_doors.nd rfl (Or.inl rfl) (pe_tup (pa_cons pe_str pa_nil)))
      (pss_cut (ps_if (pt_cmpR op_eq (pe_op op_mod (pe_op op_fdiv (pv 7) pe_int) pe_int) pe_int (nomark _))
        (pss_one (ps_set (i := 11) sc_law_doors.nd rfl (Or.inl rfl) (pe_call G_law_guard hr rfl m_law_guard k_law_guard b_law_guard .nil pass0 (pa_cons (pe_call G_law_mixed hr rfl m_law_mixed k_law_mixed b_law_mixed .nil pass0 (pa_cons (pv 0) (pa_cons (pe_op op_add pe_int (pv 6)) (pa_cons pe_int pa_nil)))) (pa_cons (pe_callB call_len_seq rfl m_len PySem.boot_len (pa_cons (pv 2) pa_nil)) (pa_cons (pe_callB call_len_seq rfl m_len PySem.boot_len (pa_cons (pv 3) pa_nil)) (pa_cons pe_int pa_nil)))))))
        pss_nil)
      (pss_cons (ps_set (i := 12) sc_law_doors.nd rfl (Or.inl rfl) (pe_call G_law_deeds hr rfl m_law_deeds k_law_deeds b_law_deeds .nil pass0 (pa_cons (pv 0) (pa_cons (pe_op op_add pe_int (pv 6)) (pa_cons pe_int (pa_cons (pv 3) (pa_cons (pv 4) pa_nil)))))))
      (pss_one (ps_expr (pe_bm PySem.F.plainAttrs_list PySem.F.slot_list_append PySem.F.type_list_append mt_append (pv 5) (pa_cons (pe_tup (pa_cons (pe_op op_mod (pe_call G_law_mixed hr rfl m_law_mixed k_law_mixed b_law_mixed .nil pass0 (pa_cons (pv 0) (pa_cons (pe_op op_add pe_int (pv 6)) (pa_cons pe_int pa_nil)))) (pe_callB call_len_seq rfl m_len PySem.boot_len (pa_cons (pv 2) pa_nil))) (pa_cons (pe_op op_mod (pe_op op_mod (pe_op op_fdiv (pv 7) pe_int) pe_int) (pv 4)) (pa_cons (pv 11) (pa_cons (pv 12) (pa_cons (pv 9) (pa_cons (pv 8) pa_nil))))))) pa_nil)))))))))))))))
    (pss_one (ps_ret (pe_callTy call_tuple_of rfl m_tuple PyProof.Rows.boot_tuple (pa_cons (pv 5) pa_nil)))))), ?_⟩
  obtain ⟨rv, htr, hrs⟩ := hR
  have lrv := hrs.length
  refine ⟨Nat.zero_le _, fun pr hpr => ?_⟩
  have s1 := same_new hpr (.lst [])
  refine ⟨fun σ' H' => ∃ (vs : List V) (ds : List Dr), Same H H' ∧ H' pr = some (.lst vs) ∧ Al (DrIn H') vs ds ∧ (∀ d ∈ ds, DrFit rs.length sz.length e d) ∧ ds.length ≤ 12 ∧ ∃ o6 o7 o8 o9 o10 o11 o12 : Option V, σ' = [some (.ref a), some (.int (m : Int)), some (.ref t), some (.ref ps), some (.int e), some (.ref pr), o6, o7, o8, o9, o10, o11, o12], ?_, ?_⟩
  · have hN : ((m : Int) * (if decide (0 < e) = true then 1 else 0)).toNat ≤ m ∧ (0 < ((m : Int) * (if decide (0 < e) = true then 1 else 0)).toNat → 0 < e) ∧ ((m : Int) * (if decide (0 < e) = true then 1 else 0)) ≤ 12 ∧ 0 ≤ ((m : Int) * (if decide (0 < e) = true then 1 else 0)) := by
      by_cases c : 0 < e
      · rw [if_pos (decide_eq_true c)]
        exact ⟨by omega, fun _ => c, by omega, by omega⟩
      · rw [if_neg (by rw [decide_eq_false c]; exact Bool.false_ne_true)]
        exact ⟨by omega, fun z => by omega, by omega, by omega⟩
    refine ⟨_, rfl, _, rfl, _, _, rfl, rfl, .inr ⟨_, rfl, _, _, rfl, rfl, mulIn (by omega) (by omega), _, rfl, by omega, ?_, ?_⟩⟩
    · exact Int.lt_of_le_of_lt hN.2.2.1 (by decide)
    refine for_range (fun i σ' H' => ∃ (vs : List V) (ds : List Dr), Same H H' ∧ H' pr = some (.lst vs) ∧ Al (DrIn H') vs ds ∧ (∀ d ∈ ds, DrFit rs.length sz.length e d) ∧ ds.length = i ∧ ∃ o6 o7 o8 o9 o10 o11 o12 : Option V, σ' = [some (.ref a), some (.int (m : Int)), some (.ref t), some (.ref ps), some (.int e), some (.ref pr), o6, o7, o8, o9, o10, o11, o12])
      ⟨[], [], s1, upd_same, .nil, (fun d h => by cases h), rfl, none, none, none, none, none, none, none, rfl⟩ ?_ (fun σ' H' ⟨vs, ds, h1, h2, h3, h4, h5, h6⟩ => ⟨vs, ds, h1, h2, h3, h4, by have := hN.1; omega, h6⟩)
    rintro i σ' H3 hi ⟨vs, ds, s3, h3, hA, hfit, hlen, o6, o7, o8, o9, o10, o11, o12, rfl⟩
    have him : i < 12 := by
      have := hN.1
      omega
    have ep : 0 < e := hN.2.1 (by omega)
    refine ⟨_, rfl, _, rfl, _, _, rfl, rfl, a, ns, _, _, rfl, s3.seq hS, h63, ⟨by omega, by omega⟩, ⟨by decide, by decide⟩, fun x x0 x1 => ?_⟩
    have lp : (0 : Int) < ((rv.length : Nat) : Int) := by omega
    have g00 := Int.emod_nonneg (x / 15) (show ((rv.length : Nat) : Int) ≠ 0 by omega)
    have g01 := Int.emod_lt_of_pos (x / 15) lp
    refine ⟨_, rfl, _, _, rfl, rfl, ⟨by decide, by decide⟩, _, rfl, t, _, rfl, .inr (SqT.of (s3 _ _ htr)), _, _, rfl, rfl, lp, ?_⟩
    obtain ⟨w0, hw0, hatw⟩ := str_at (zs := [("to" : Str), "to", "back", "back", "stay"]) (i := x % 5) (by omega) (by show _ < (5 : Int); omega)
    refine ⟨small_le (by show 5 ≤ 1000; decide), fun p5 hp5 => ⟨_, rfl, _, _, rfl, rfl, (by show (0 : Int) < 5; decide), p5, _, _, _, rfl, rfl, SqL.of upd_same, hatw, ?_⟩⟩
    have s5 := same_new hp5 (.lst [V.str "to", V.str "to", V.str "back", V.str "back", V.str "stay"])
    generalize hH5 : upd H3 p5 (.lst [V.str "to", V.str "to", V.str "back", V.str "back", V.str "stay"]) = H5 at s5 ⊢
    have s35 := s3.trans s5
    refine ⟨_, rfl, t, _, rfl, .inr (SqT.of (s35 _ _ htr)), _, rfl, by omega, by omega, ?_⟩
    refine comp_range (fun i' acc H' => H' = H5 ∧ ∃ js : List Nat, acc = natsV js ∧ js.length ≤ i' ∧ (∀ j ∈ js, j < rs.length)) ⟨rfl, [], rfl, Nat.le_refl _, fun j z => by cases z⟩ (fun i' acc H' hi2 ⟨e1, js, e2, e3, e4⟩ => ?_) (fun acc H' ⟨e1, js, e2, e3, e4⟩ p2 hp2 => ?_)
    · subst e1 e2
      have hj : i' < rs.length := by omega
      obtain ⟨v2, hv2, a2, rfl, ha2⟩ := hrs.get (List.getElem?_eq_getElem hj)
      have hat2 : atI rv (0 + (i' : Int)) = some (.ref a2) := by
        rw [Int.zero_add]
        exact atI_nat hv2
      refine ⟨_, rfl, _, rfl, t, _, _, _, rfl, rfl, SqT.of (s35 _ _ htr), hat2, a2, _, _, _, rfl, rfl, SqT.of (s35 _ _ ha2), rfl, rfl, _, rfl, ?_⟩
      refine itB (fun c => ?_) (fun c => ⟨rfl, js, rfl, by omega, e4⟩)
      refine ⟨_, rfl, small1000 (by rw [natsV_len]; omega), rfl, js ++ [i'], ?_, by simp; omega, fun j z => ?_⟩
      · rw [← natsV_app, Int.zero_add]
      · rcases List.mem_append.mp z with z | z
        · exact e4 j z
        · rw [List.mem_singleton.mp z]
          exact hj
    subst e1 e2
    have s6 := same_new hp2 (.lst (natsV js))
    have h6 : upd H' p2 (.lst (natsV js)) p2 = some (.lst (natsV js)) := upd_same
    generalize hH6 : upd H' p2 (.lst (natsV js)) = H6 at s6 h6 ⊢
    have s36 := s35.trans s6
    have ln := natsV_len js
    refine ⟨fun σ' H' => H' = H6 ∧ ∃ wy : Str, (wy = "to" ∨ wy = "back" ∨ wy = "stay") ∧ (wy = "back" → js ≠ []) ∧ σ' = [some (.ref a), some (.int (m : Int)), some (.ref t), some (.ref ps), some (.int e), some (.ref pr), some (.int (0 + (i : Int))), some (.int x), some (.int (x / 15 % ((rv.length : Nat) : Int))), some (.str wy), some (.ref p2), o11, o12], ?_, ?_⟩
    · refine ⟨fun c H' => H' = H6 ∧ (c = false → w0 = "back" → js ≠ []), ?_, ?_⟩
      · refine ⟨_, rfl, rfl, _, rfl, itB (fun c => ?_) (fun c => ⟨rfl, fun _ z => ?_⟩)⟩
        · exact ⟨_, rfl, p2, _, rfl, .inl (SqL.of h6), rfl, _, rfl, rfl, fun z _ z2 => by
            subst z2
            exact of_decide_eq_false z rfl⟩
        · exact absurd (by rw [z]) (of_decide_eq_false c)
      rintro c H' ⟨rfl, hc⟩
      refine itB (fun c => ?_) (fun c => ?_)
      · exact ⟨rfl, _, .inl rfl, fun z => absurd z (by decide), rfl⟩
      · refine ⟨rfl, w0, ?_, hc c, rfl⟩
        simp only [List.mem_cons, List.not_mem_nil, or_false] at hw0
        rcases hw0 with h | h | h | h | h
        · exact .inl h
        · exact .inl h
        · exact .inr (.inl h)
        · exact .inr (.inl h)
        · exact .inr (.inr h)
    rintro σ7 H7 ⟨rfl, wy, hwy, hne, rfl⟩
    refine ⟨fun σ' H' => H' = H7 ∧ ∃ g : Int, 0 ≤ g ∧ g < (rs.length : Int) ∧ σ' = [some (.ref a), some (.int (m : Int)), some (.ref t), some (.ref ps), some (.int e), some (.ref pr), some (.int (0 + (i : Int))), some (.int x), some (.int g), some (.str wy), some (.ref p2), o11, o12], ?_, ?_⟩
    · refine ⟨_, rfl, rfl, _, rfl, itB (fun c => ?_) (fun c => ⟨rfl, _, g00, by omega, rfl⟩)⟩
      have c' : V.str wy = V.str "back" := of_decide_eq_true c
      have wb : wy = "back" := by injection c'
      have ljs : 0 < js.length := List.length_pos_iff.mpr (hne wb)
      obtain ⟨pk, hpm, hpk⟩ := natsV_at (os := js) (i := (x / 15 % ((rv.length : Nat) : Int)) % (((natsV js).length : Nat) : Int)) (Int.emod_nonneg _ (by omega)) (by
          have := Int.emod_lt_of_pos (x / 15 % ((rv.length : Nat) : Int)) (show (0 : Int) < (((natsV js).length : Nat) : Int) by omega)
          omega)
      refine ⟨_, rfl, _, rfl, _, rfl, p2, _, rfl, .inl (SqL.of h6), _, _, rfl, rfl, (by show (0 : Int) < (((natsV js).length : Nat) : Int); omega), p2, _, _, _, rfl, rfl, SqL.of h6, hpk, rfl, _, by omega, ?_, rfl⟩
      have := e4 pk hpm
      omega
    rintro σ8 H8 ⟨rfl, g, g0, g1, rfl⟩
    refine ⟨fun σ' H' => H' = H8 ∧ ∃ gv : Option Int, WayFit rs.length wy gv ∧ σ' = [some (.ref a), some (.int (m : Int)), some (.ref t), some (.ref ps), some (.int e), some (.ref pr), some (.int (0 + (i : Int))), some (.int x), some (gV gv), some (.str wy), some (.ref p2), o11, o12], ?_, ?_⟩
    · refine ⟨_, rfl, rfl, _, rfl, itB (fun c => ?_) (fun c => ?_)⟩
      · have c' : V.str wy = V.str "stay" := of_decide_eq_true c
        exact ⟨rfl, none, .inl ⟨by injection c', rfl⟩, rfl⟩
      · refine ⟨rfl, some g, .inr ⟨?_, g, rfl, g0, g1⟩, rfl⟩
        rcases hwy with h | h | h
        · exact .inl h
        · exact .inr h
        · exact absurd (by rw [h]) (of_decide_eq_false c)
    rintro σ9 H9 ⟨rfl, gv, hgv, rfl⟩
    refine ⟨small_le (by show 1 ≤ 1000; decide), fun p9 hp9 => ?_⟩
    have s9 := same_new hp9 (.tup [V.str "yes"])
    have g9 : GdIn (upd H9 p9 (.tup [V.str "yes"])) (.ref p9) .yes := .yes upd_same
    generalize hH10 : upd H9 p9 (.tup [V.str "yes"]) = H10 at s9 g9 ⊢
    have s39 := s36.trans s9
    refine ⟨fun σ' H' => Same H10 H' ∧ ∃ (gd : V) (g : Gd), GdIn H' gd g ∧ g.ok sz.length ∧ g.ht ≤ 3 ∧ σ' = [some (.ref a), some (.int (m : Int)), some (.ref t), some (.ref ps), some (.int e), some (.ref pr), some (.int (0 + (i : Int))), some (.int x), some (gV gv), some (.str wy), some (.ref p2), some gd, o12], ?_, ?_⟩
    · refine ⟨_, rfl, _, _, rfl, rfl, ⟨by decide, by decide⟩, _, _, rfl, rfl, (by show (0 : Int) < 2; decide), rfl, _, rfl, itB (fun c => ?_) (fun c => ⟨Same.refl _, _, _, g9, trivial, (by show 1 ≤ 3; decide), rfl⟩)⟩
      refine ⟨_, rfl, _, rfl, _, _, rfl, rfl, a, ns, _, _, rfl, s39.seq hS, h63, ⟨by omega, by omega⟩, ⟨by decide, by decide⟩, fun y y0 y1 => ?_⟩
      exact ⟨_, rfl, t, _, rfl, .inr (SqT.of (s39 _ _ htr)), _, rfl, ps, _, rfl, .inl (SqL.of (hsz.mono s39).1), _, _, _, sz.length, (by rw [List.length_map]; rfl), lp, by decide, by decide, fun v g H' s' hg gok ght => ⟨s', v, g, hg, gok, (by omega), rfl⟩⟩
    rintro σ10 H11 ⟨s10, gd, gg, hgd, gok, ght, rfl⟩
    have s311 := s39.trans s10
    refine ⟨_, rfl, _, rfl, _, _, rfl, rfl, _, rfl, _, rfl, a, ps, ns, sz, _, _, _, rfl, s311.seq hS, h63, ⟨by omega, by omega⟩, ⟨by decide, by decide⟩, hsz.mono s311, fun vd H12 s12 => ?_⟩
    have t12 : Same H3 H12 := (((s5.trans s6).trans s9).trans s10).trans s12
    have s312 := s3.trans t12
    have h12 := t12 _ _ h3
    refine ⟨_, rfl, .inl ⟨rfl, _, SqL.of h12⟩, _, rfl, _, rfl, _, _, rfl, rfl, a, ns, _, _, rfl, s312.seq hS, h63, ⟨by omega, by omega⟩, ⟨by decide, by decide⟩, fun y y0 y1 => ?_⟩
    refine ⟨_, rfl, t, _, rfl, .inr (SqT.of (s312 _ _ htr)), _, _, rfl, rfl, lp, ?_⟩
    refine ⟨_, rfl, _, _, rfl, rfl, ⟨by decide, by decide⟩, _, _, rfl, rfl, (by show (0 : Int) < 3; decide), _, rfl, _, _, rfl, rfl, (by show (0 : Int) < e; exact ep), _, rfl, _, rfl, _, rfl, _, rfl, small_le (by show 6 ≤ 1000; decide), fun p13 hp13 => ?_⟩
    have u13 := same_new hp13 (.tup [.int (y % ((rv.length : Nat) : Int)), .int (x / 5 % 3 % e), gd, vd, .str wy, gV gv])
    have h13 := u13 _ _ h12
    have lv := hA.length
    have kl := KeepT.lst h13 (.lst (vs ++ [.ref p13]))
    refine ⟨pr, _, _, rfl, rfl, h13, small1000 (by omega), vs ++ [.ref p13], ds ++ [⟨y % ((rv.length : Nat) : Int), x / 5 % 3 % e, gd, gg, vd, wy, gv⟩], same_upd hpr (s312.trans u13) _, upd_same, Al.snoc (hA.mono fun _ _ z => z.mono ((KeepT.of (t12.trans u13)).trans kl)) ⟨p13, rfl, kl _ _ upd_same, hgd.mono ((KeepT.of (s12.trans u13)).trans kl)⟩, fun d hd => ?_, by simp [hlen], _, _, _, _, _, _, _, rfl⟩
    rcases List.mem_append.mp hd with hd | hd
    · exact hfit d hd
    · rw [List.mem_singleton.mp hd]
      have y2 := Int.emod_nonneg y (show ((rv.length : Nat) : Int) ≠ 0 by omega)
      have y3 := Int.emod_lt_of_pos y lp
      have e2 := Int.emod_nonneg (x / 5 % 3) (show e ≠ 0 by omega)
      have e3 := Int.emod_lt_of_pos (x / 5 % 3) ep
      exact ⟨⟨y2, by show y % ((rv.length : Nat) : Int) < (rs.length : Int); omega⟩, ⟨e2, e3⟩, hgv, gok, ght⟩
  rintro σ' H3 ⟨vs, ds, s3, h3, hA, hfit, hlen, o6, o7, o8, o9, o10, o11, o12, rfl⟩
  refine ⟨_, rfl, pr, _, rfl, .inl ⟨SqL.of h3, fun p hp => ?_⟩⟩
  exact q p ds _ (s3.trans (same_new hp _)) ⟨vs, upd_same, hA.mono fun _ _ z => z.mono (KeepT.new hp _)⟩ hfit hlen
end
end Chr

namespace Chr
open PySem L2 Mix Gds Rms Ans
/-! charts by the cells: the chart -/
theorem int_at {zs : List Int} {i : Int} (h0 : 0 ≤ i) (h1 : i < (zs.length : Int)) : ∃ z ∈ zs, atI (zs.map V.int) i = some (.int z) := by
  obtain ⟨v, hv, e⟩ := atI_some (xs := zs.map V.int) (i := i) h0 (by rw [List.length_map]; exact h1)
  obtain ⟨z, hz, rfl⟩ := List.mem_map.mp hv
  exact ⟨z, hz, e⟩
def BxIn (H : Hp) (v : V) (z : Int) : Prop := ∃ (a : Addr) (nm : Str) (st : Int), v = .ref a ∧ H a = some (.tup [.str nm, .int z, .int st])
theorem BxIn.mono {H H' : Hp} {v : V} {r : Int} (x : BxIn H v r) (k : KeepT H H') : BxIn H' v r := by
  obtain ⟨a, nm, st, e, h⟩ := x
  exact ⟨a, nm, st, e, k _ _ h⟩
def Boxes (H : Hp) (t : Addr) (sz : List Int) : Prop := ∃ vs, H t = some (.tup vs) ∧ Al (BxIn H) vs sz
theorem Boxes.mono {H H' : Hp} {t : Addr} {sz : List Int} (x : Boxes H t sz) (k : KeepT H H') : Boxes H' t sz := by
  obtain ⟨vs, h, r⟩ := x
  exact ⟨vs, k _ _ h, r.mono fun _ _ z => z.mono k⟩
def Chart (H : Hp) (p : Addr) (sz : List Int) (rs : List Rm) (ds : List Dr) : Prop := ∃ (od : Str) (lt tn : Int) (pb pn pt pd : Addr), H p = some (.tup [.str od, .int lt, .int tn, .ref pb, .ref pn, .ref pt, .ref pd]) ∧ Boxes H pb sz ∧ Rooms H pt rs ∧ Doors H pd ds ∧ ∃ nv : List V, H pn = some (.tup nv) ∧ nv.length ≤ 8
theorem Chart.mono {H H' : Hp} {p : Addr} {sz : List Int} {rs : List Rm} {ds : List Dr} (x : Chart H p sz rs ds) (k : KeepT H H') : Chart H' p sz rs ds := by
  obtain ⟨od, lt, tn, pb, pn, pt, pd, h, b, r, d, nv, hn, ln⟩ := x
  exact ⟨od, lt, tn, pb, pn, pt, pd, k _ _ h, b.mono k, r.mono k, d.mono k, nv, k _ _ hn, ln⟩
structure ChartOk (sz : List Int) (rs : List Rm) (ds : List Dr) (e : Int) : Prop where
  good : Tr.Good (depths rs)
  low : Low (depths rs)
  fit : Fit rs
  l1 : 1 ≤ rs.length
  l12 : rs.length ≤ 10
  pos : ∀ z ∈ sz, 0 < z
  l6 : sz.length ≤ 6
  dfit : ∀ d ∈ ds, DrFit rs.length sz.length e d
  d12 : ds.length ≤ 12
def spChart (K : PySem.W.Frag) : Sp := fun vs H Q _ => ∃ (a : Addr) (ns : List Int), vs = [.ref a] ∧ SqL K H a (ns.map V.int) ∧ ns.length ≤ 63 ∧
  ∀ (p : Addr) (sz : List Int) (rs : List Rm) (ds : List Dr) (e : Int) (H' : Hp), Same H H' → Chart H' p sz rs ds → ChartOk sz rs ds e → Q (.ref p) H'
section
variable {P : Program} {w : World} {K : PySem.W.Frag} {mg : Str → Option Value} {base : Heap}
abbrev chSc : Scope := ⟨.function, [("_law_script", .cell), ("_law_many", .local), ("_law_events", .local), ("_law_boxes", .local), ("_law_k", .local), ("_law_size", .local), ("_law_sizes", .local), ("_law_names", .local), ("_law_rooms_here", .local), ("_law_count", .local), ("_law_doors_here", .local), ("_law_order", .local), ("_law_letters", .local), ("_law_turns", .local), ("_law_mixed", .globalImplicit), ("range", .globalImplicit), ("_law_cell_at", .globalImplicit), ("_law_name", .globalImplicit), ("tuple", .globalImplicit), ("_law_rooms", .globalImplicit), ("_law_depths", .globalImplicit), ("_law_doors", .globalImplicit)], false, false, (defScope s_L_chart).more⟩
theorem chSc_eq : defScope s_L_chart = chSc := by rfl
theorem sc_law_chart : FnScope ["_law_script", "_law_many", "_law_events", "_law_boxes", "_law_k", "_law_size", "_law_sizes", "_law_names", "_law_rooms_here", "_law_count", "_law_doors_here", "_law_order", "_law_letters", "_law_turns"] ["_law_script"] chSc := ⟨rfl, rfl, rfl, by decide +kernel, rfl, by decide +kernel, by decide +kernel⟩
theorem ok_chart {n : Nat} {f gm gc gn ge gr gd : Addr} {fd dm dc dn de dr dd : FuncData} (F : Fun K "_law_chart" "_law_chart" s_L_chart f fd) (G_law_mixed : FnOk P w K mg base CX0 n gm dm ["_law_script", "_law_k", "_law_salt"] (spMixed K)) (b_law_mixed : Binds K dm ["_law_script", "_law_k", "_law_salt"] []) (k_law_mixed : PySem.W.keepIn K (.ref gm) = true) (m_law_mixed : mg "_law_mixed" = some (.ref gm))
    (G_law_cell_at : FnOk P w K mg base CX0 n gc dc ["_law_script", "_law_k"] (spCell K)) (b_law_cell_at : Binds K dc ["_law_script", "_law_k"] []) (k_law_cell_at : PySem.W.keepIn K (.ref gc) = true) (m_law_cell_at : mg "_law_cell_at" = some (.ref gc))
    (G_law_name : FnOk P w K mg base CX0 n gn dn ["_law_k", "_law_number"] spName) (b_law_name : Binds K dn ["_law_k", "_law_number"] []) (k_law_name : PySem.W.keepIn K (.ref gn) = true) (m_law_name : mg "_law_name" = some (.ref gn))
    (G_law_depths : FnOk P w K mg base CX0 n ge de ["_law_script", "_law_many"] (spDepths K)) (b_law_depths : Binds K de ["_law_script", "_law_many"] []) (k_law_depths : PySem.W.keepIn K (.ref ge) = true) (m_law_depths : mg "_law_depths" = some (.ref ge))
    (G_law_rooms : FnOk P w K mg base CX0 n gr dr ["_law_script", "_law_depths_here", "_law_sizes", "_law_events"] (spRooms K)) (b_law_rooms : Binds K dr ["_law_script", "_law_depths_here", "_law_sizes", "_law_events"] []) (k_law_rooms : PySem.W.keepIn K (.ref gr) = true) (m_law_rooms : mg "_law_rooms" = some (.ref gr))
    (G_law_doors : FnOk P w K mg base CX0 n gd dd ["_law_script", "_law_many", "_law_rooms_here", "_law_sizes", "_law_events"] (spDoors K)) (b_law_doors : Binds K dd ["_law_script", "_law_many", "_law_rooms_here", "_law_sizes", "_law_events"] []) (k_law_doors : PySem.W.keepIn K (.ref gd) = true) (m_law_doors : mg "_law_doors" = some (.ref gd))
    (m_range : mg "range" = none) (m_tuple : mg "tuple" = none) : FnOk P w K mg base CX0 (n + 1) f fd ["_law_script"] (spChart K) := by
  refine okS chSc chSc_eq F sc_law_chart (fun vs H Q E h => ?_) (fun cdv A outer s H vs Q E hr h => ?_)
  · obtain ⟨a, ns, rfl, _⟩ := h
    rfl
  obtain ⟨a, ns, rfl, hS, h63, q⟩ := h
  refine ⟨_, RSs.p (r_cons (r_st (ps_set (i := 1) sc_law_chart.nd rfl (Or.inl rfl) (pe_op op_add pe_int (pe_op op_fdiv (pe_op op_add (pe_op op_mul (pe_op op_mod (pe_call G_law_mixed hr rfl m_law_mixed k_law_mixed b_law_mixed .nil pass0 (pa_cons (pv 0) (pa_cons pe_int (pa_cons pe_int pa_nil)))) pe_int) pe_int) pe_int) pe_int))))
    (r_cons (r_set (i := 2) sc_law_chart.nd rfl (Or.inl rfl) (r_ixL (r_lst (ra_con (vs := [.int 0, .int 1, .int 1, .int 2, .int 2, .int 2, .int 3, .int 3]) (by rfl))) (pe_op op_mod (pe_call G_law_mixed hr rfl m_law_mixed k_law_mixed b_law_mixed .nil pass0 (pa_cons (pv 0) (pa_cons pe_int (pa_cons pe_int pa_nil)))) pe_int) (fun _ _ => rfl)))
    (r_cons (r_st (ps_set (i := 3) sc_law_chart.nd rfl (Or.inl rfl) (pe_lst pa_nil)))
    (r_cut (r_st (ps_for PassesOwn.never rfl (pi_range1 rfl m_range (pa_cons (pe_op op_mod (pe_call G_law_mixed hr rfl m_law_mixed k_law_mixed b_law_mixed .nil pass0 (pa_cons (pv 0) (pa_cons pe_int (pa_cons pe_int pa_nil)))) pe_int) pa_nil)) (pg_name (i := 4) sc_law_chart.nd rfl (Or.inl rfl))
      (pss_cons (ps_set (i := 5) sc_law_chart.nd rfl (Or.inl rfl) (pe_op op_add pe_int (pe_op op_mod (pe_call G_law_mixed hr rfl m_law_mixed k_law_mixed b_law_mixed .nil pass0 (pa_cons (pv 0) (pa_cons pe_int (pa_cons (pe_op op_add pe_int (pv 4)) pa_nil)))) pe_int)))
      (pss_cut (ps_if (pt_cmpR op_eq (pe_op op_mod (pe_call G_law_mixed hr rfl m_law_mixed k_law_mixed b_law_mixed .nil pass0 (pa_cons (pv 0) (pa_cons pe_int (pa_cons (pe_op op_add pe_int (pv 4)) pa_nil)))) pe_int) pe_int (nomark _))
        (pss_one (ps_set (i := 5) sc_law_chart.nd rfl (Or.inl rfl) (pe_op op_add pe_int (pe_op op_mod (pe_call G_law_cell_at hr rfl m_law_cell_at k_law_cell_at b_law_cell_at .nil pass0 (pa_cons (pv 0) (pa_cons pe_int pa_nil))) (pe_op op_pow pe_int pe_int)))))
        pss_nil)
      (pss_one (ps_expr (pe_bm PySem.F.plainAttrs_list PySem.F.slot_list_append PySem.F.type_list_append mt_append (pv 3) (pa_cons (pe_tup (pa_cons (pe_call G_law_name hr rfl m_law_name k_law_name b_law_name .nil pass0 (pa_cons (pv 4) (pa_cons (pe_op op_mod (pe_call G_law_cell_at hr rfl m_law_cell_at k_law_cell_at b_law_cell_at .nil pass0 (pa_cons (pv 0) (pa_cons pe_int pa_nil))) pe_int) pa_nil))) (pa_cons (pv 5) (pa_cons (pe_op op_mod (pe_call G_law_mixed hr rfl m_law_mixed k_law_mixed b_law_mixed .nil pass0 (pa_cons (pv 0) (pa_cons pe_int (pa_cons (pe_op op_add pe_int (pv 4)) pa_nil)))) (pv 5)) pa_nil)))) pa_nil))))))))
    (r_cons (r_st (ps_setC (i := 6) (caps := []) rfl sc_law_chart.nd rfl (Or.inl rfl) (show CompSc chSc ["_law_script", "_law_many", "_law_events", "_law_boxes", "_law_k", "_law_size", "_law_sizes", "_law_names", "_law_rooms_here", "_law_count", "_law_doors_here", "_law_order", "_law_letters", "_law_turns"] _ _ _ from ⟨rfl, rfl, by decide +kernel, by decide +kernel, by decide +kernel, by decide +kernel, by decide +kernel⟩) (pi_list (pv 3)) (fun _ _ _ _ _ _ => pifs_nil) (fun _ _ _ _ _ _ => (pe_ix (r := rIxT K) ix_tup (pv 0) pe_int (fun _ _ => rfl)))))
    (r_cons (r_st (ps_set (i := 7) sc_law_chart.nd rfl (Or.inl rfl) (pe_callTy call_tuple_of rfl m_tuple PyProof.Rows.boot_tuple (pa_cons (pe_comp (caps := [(0, "_law_script")]) rfl (show CompSc chSc ["_law_script", "_law_many", "_law_events", "_law_boxes", "_law_k", "_law_size", "_law_sizes", "_law_names", "_law_rooms_here", "_law_count", "_law_doors_here", "_law_order", "_law_letters", "_law_turns"] _ _ _ from ⟨rfl, rfl, by decide +kernel, by decide +kernel, by decide +kernel, by decide +kernel, by decide +kernel⟩) (pi_range1 rfl m_range (pa_cons (pv 2) pa_nil)) (fun _ _ _ _ _ _ => pifs_nil) (fun _ _ _ _ _ _ => (pe_call G_law_name hr rfl m_law_name k_law_name b_law_name .nil pass0 (pa_cons (pv 0) (pa_cons (pe_op op_mod (pe_call G_law_cell_at hr rfl m_law_cell_at k_law_cell_at b_law_cell_at .nil pass0 (pa_cons (pv 1) (pa_cons pe_int pa_nil))) pe_int) pa_nil))))) pa_nil))))
    (r_cons (r_st (ps_set (i := 8) sc_law_chart.nd rfl (Or.inl rfl) (pe_call G_law_rooms hr rfl m_law_rooms k_law_rooms b_law_rooms .nil pass0 (pa_cons (pv 0) (pa_cons (pe_call G_law_depths hr rfl m_law_depths k_law_depths b_law_depths .nil pass0 (pa_cons (pv 0) (pa_cons (pv 1) pa_nil))) (pa_cons (pv 6) (pa_cons (pv 2) pa_nil)))))))
    (r_cons (r_set (i := 9) sc_law_chart.nd rfl (Or.inl rfl) (r_ixL (r_lst (ra_con (vs := [.int 4, .int 5, .int 6, .int 7, .int 8, .int 9, .int 10, .int 6, .int 7, .int 8, .int 2, .int 0]) (by rfl))) (pe_op op_mod (pe_call G_law_mixed hr rfl m_law_mixed k_law_mixed b_law_mixed .nil pass0 (pa_cons (pv 0) (pa_cons pe_int (pa_cons pe_int pa_nil)))) pe_int) (fun _ _ => rfl)))
    (r_cons (r_st (ps_set (i := 10) sc_law_chart.nd rfl (Or.inl rfl) (pe_call G_law_doors hr rfl m_law_doors k_law_doors b_law_doors .nil pass0 (pa_cons (pv 0) (pa_cons (pv 9) (pa_cons (pv 8) (pa_cons (pv 6) (pa_cons (pv 2) pa_nil))))))))
    (r_cons (r_set (i := 11) sc_law_chart.nd rfl (Or.inl rfl) (r_ixL (r_lst (ra_con (vs := [.str "inner", .str "outer"]) (by rfl))) (pe_op op_mod (pe_call G_law_mixed hr rfl m_law_mixed k_law_mixed b_law_mixed .nil pass0 (pa_cons (pv 0) (pa_cons pe_int (pa_cons pe_int pa_nil)))) pe_int) (fun _ _ => rfl)))
    (r_cons (r_set (i := 12) sc_law_chart.nd rfl (Or.inl rfl) (r_ixL (r_lst (ra_con (vs := [.int 0, .int 1, .int 2, .int 3, .int 2, .int 4, .int 3, .int 5]) (by rfl))) (pe_op op_mod (pe_call G_law_mixed hr rfl m_law_mixed k_law_mixed b_law_mixed .nil pass0 (pa_cons (pv 0) (pa_cons pe_int (pa_cons pe_int pa_nil)))) pe_int) (fun _ _ => rfl)))
    (r_cons (r_set (i := 13) sc_law_chart.nd rfl (Or.inl rfl) (r_ixL (r_lst (ra_con (vs := [.int 1, .int 2, .int 3, .int 4, .int 3, .int 4, .int 2, .int 4]) (by rfl))) (pe_op op_mod (pe_call G_law_mixed hr rfl m_law_mixed k_law_mixed b_law_mixed .nil pass0 (pa_cons (pv 0) (pa_cons pe_int (pa_cons pe_int pa_nil)))) pe_int) (fun _ _ => rfl)))
    (r_one (r_st (ps_ret (pe_tup (pa_cons (pv 11) (pa_cons (pv 12) (pa_cons (pv 13) (pa_cons (pe_callTy call_tuple_of rfl m_tuple PyProof.Rows.boot_tuple (pa_cons (pv 3) pa_nil)) (pa_cons (pv 7) (pa_cons (pv 8) (pa_cons (pv 10) pa_nil))))))))))))))))))))))), ?_⟩
  refine ⟨_, rfl, a, ns, _, _, rfl, hS, h63, ⟨by decide, by decide⟩, ⟨by decide, by decide⟩, fun x x0 x1 => ⟨_, _, rfl, rfl, (by show (0 : Int) < 16; decide), _, _, rfl, rfl, mulIn (by omega) (by omega), _, _, rfl, rfl, _, _, rfl, rfl, ⟨by decide, by decide⟩, _, _, rfl, rfl, ?_⟩⟩
  obtain ⟨m, hm, m1, m10⟩ : ∃ m : Nat, 1 + (x % 16 * 9 + 14) / 16 = (m : Int) ∧ 1 ≤ m ∧ m ≤ 10 := ⟨(1 + (x % 16 * 9 + 14) / 16).toNat, by omega, by omega, by omega⟩
  refine ⟨small_le (by show 8 ≤ 1000; decide), fun p1 hp1 => ?_⟩
  have s1 := same_new hp1 (.lst [V.int 0, V.int 1, V.int 1, V.int 2, V.int 2, V.int 2, V.int 3, V.int 3])
  refine ⟨_, rfl, a, ns, _, _, rfl, s1.seq hS, h63, ⟨by decide, by decide⟩, ⟨by decide, by decide⟩, fun x2 x20 x21 => ?_⟩
  obtain ⟨e, he, hat1⟩ := int_at (zs := [0, 1, 1, 2, 2, 2, 3, 3]) (i := x2 % 8) (by omega) (by show _ < (8 : Int); omega)
  have e03 : 0 ≤ e ∧ e ≤ 3 := by
    simp only [List.mem_cons, List.not_mem_nil, or_false] at he
    omega
  refine ⟨_, _, rfl, rfl, (by show (0 : Int) < 8; decide), p1, _, _, _, rfl, rfl, SqL.of upd_same, hat1, ?_⟩
  generalize upd H p1 (.lst [V.int 0, V.int 1, V.int 1, V.int 2, V.int 2, V.int 2, V.int 3, V.int 3]) = H1 at s1 ⊢
  refine ⟨Nat.zero_le _, fun pb hpb => ?_⟩
  have npb : H pb = none := s1.free hpb
  have s2 := s1.trans (same_new hpb (.lst []))
  refine ⟨fun σ' H' => ∃ (vs : List V) (sz : List Int), Same H H' ∧ H' pb = some (.lst vs) ∧ Al (BxIn H') vs sz ∧ (∀ z ∈ sz, 0 < z) ∧ sz.length ≤ 6 ∧ ∃ o4 o5 : Option V, σ' = [some (.ref a), some (.int (1 + (x % 16 * 9 + 14) / 16)), some (.int e), some (.ref pb), o4, o5, none, none, none, none, none, none, none, none], ?_, ?_⟩
  · refine ⟨_, rfl, a, ns, _, _, rfl, s2.seq hS, h63, ⟨by decide, by decide⟩, ⟨by decide, by decide⟩, fun x3 x30 x31 => ⟨_, _, rfl, rfl, (by show (0 : Int) < 3; decide), _, rfl, by omega, by omega, ?_⟩⟩
    refine for_range (fun i σ' H' => ∃ (vs : List V) (sz : List Int), Same H H' ∧ H' pb = some (.lst vs) ∧ Al (BxIn H') vs sz ∧ (∀ z ∈ sz, 0 < z) ∧ sz.length = i ∧ ∃ o4 o5 : Option V, σ' = [some (.ref a), some (.int (1 + (x % 16 * 9 + 14) / 16)), some (.int e), some (.ref pb), o4, o5, none, none, none, none, none, none, none, none])
      ⟨[], [], s2, upd_same, .nil, (fun d h => by cases h), rfl, none, none, rfl⟩ ?_ (fun σ' H' ⟨vs, sz, h1, h2, h3, h4, h5, h6⟩ => ⟨vs, sz, h1, h2, h3, h4, by omega, h6⟩)
    rintro i σ' H3 hi ⟨vs, sz, s3, h3, hA, hpos, hlen, o4, o5, rfl⟩
    have hi3 : i < 3 := by omega
    refine ⟨_, rfl, _, rfl, _, _, rfl, rfl, a, ns, _, _, rfl, s3.seq hS, h63, ⟨by decide, by decide⟩, ⟨by omega, by omega⟩, fun y y0 y1 => ⟨_, _, rfl, rfl, (by show (0 : Int) < 3; decide), _, _, rfl, rfl, ?_⟩⟩
    refine ⟨fun σ' H' => H' = H3 ∧ ∃ z : Int, 0 < z ∧ σ' = [some (.ref a), some (.int (1 + (x % 16 * 9 + 14) / 16)), some (.int e), some (.ref pb), some (.int (0 + (i : Int))), some (.int z), none, none, none, none, none, none, none, none], ?_, ?_⟩
    · refine ⟨_, rfl, _, rfl, _, _, rfl, rfl, a, ns, _, _, rfl, s3.seq hS, h63, ⟨by decide, by decide⟩, ⟨by omega, by omega⟩, fun y2 y20 y21 => ⟨_, _, rfl, rfl, (by show (0 : Int) < 6; decide), rfl, _, rfl, itB (fun c => ?_) (fun c => ⟨rfl, 1 + y % 3, by omega, rfl⟩)⟩⟩
      refine ⟨_, rfl, a, ns, _, rfl, s3.seq hS, h63, fun v => ⟨_, _, rfl, rfl, ⟨by decide, by decide, by decide⟩, _, _, rfl, rfl, (by show (0 : Int) < 10 ^ 30; decide), _, _, rfl, rfl, rfl, 1 + v % 10 ^ 30, ?_, rfl⟩⟩
      have := Int.emod_nonneg v (show (10 : Int) ^ 30 ≠ 0 by decide)
      omega
    rintro σ4 H4 ⟨rfl, z, z0, rfl⟩
    refine ⟨_, rfl, .inl ⟨rfl, _, SqL.of h3⟩, _, rfl, _, rfl, a, ns, _, rfl, s3.seq hS, h63, fun cv => ⟨_, _, rfl, rfl, (by show (0 : Int) < 991; decide), _, _, rfl, fun nm H5 s5 => ?_⟩⟩
    have s35 := s3.trans s5
    refine ⟨_, rfl, _, rfl, _, rfl, _, _, rfl, rfl, a, ns, _, _, rfl, s35.seq hS, h63, ⟨by decide, by decide⟩, ⟨by omega, by omega⟩, fun y3 y30 y31 => ?_⟩
    refine ⟨_, rfl, _, _, rfl, rfl, (by show (0 : Int) < z; exact z0), small_le (by show 3 ≤ 1000; decide), fun p6 hp6 => ?_⟩
    have u6 := same_new hp6 (.tup [.str nm, .int z, .int (y3 % z)])
    have h6 := u6 _ _ (s5 _ _ h3)
    have lv := hA.length
    have kl := KeepT.lst h6 (.lst (vs ++ [.ref p6]))
    refine ⟨pb, _, _, rfl, rfl, h6, small1000 (by omega), vs ++ [.ref p6], sz ++ [z], same_upd npb (s35.trans u6) _, upd_same, Al.snoc (hA.mono fun _ _ b => b.mono ((KeepT.of (s5.trans u6)).trans kl)) ⟨p6, nm, _, rfl, kl _ _ upd_same⟩, fun d hd => ?_, by simp [hlen], _, _, rfl⟩
    rcases List.mem_append.mp hd with hd | hd
    · exact hpos d hd
    · rw [List.mem_singleton.mp hd]
      exact z0
  rintro σ5 H5 ⟨vs, sz, s5, h5, hA, hpos, l6, o4, o5, rfl⟩
  have lv := hA.length
  refine ⟨_, rfl, pb, rfl, ⟨_, SqL.of h5⟩, ?_⟩
  refine comp_list (K := K) (a := pb) (xs := vs) (fun i acc H' => H' = H5 ∧ acc = (sz.take i).map V.int) ⟨rfl, rfl⟩ (fun i acc H' ⟨e, _⟩ => by subst e; exact SqL.of h5) (fun i y acc H' hx ⟨e1, e2⟩ => ?_) (fun acc H' ⟨e1, e2⟩ ps hps => ?_)
  · subst e1 e2
    have hi : i < sz.length := by
      have := (List.getElem?_eq_some_iff.mp hx).1
      omega
    have er := List.getElem?_eq_getElem hi
    obtain ⟨v, hv, a2, nm, st, rfl, ha2⟩ := hA.get er
    rw [hv] at hx
    obtain rfl := Option.some.inj hx
    refine ⟨_, rfl, a2, _, _, _, rfl, rfl, SqT.of ha2, rfl, small1000 (by rw [List.length_map, List.length_take]; omega), rfl, ?_⟩
    rw [List.take_add_one, er, List.map_append]
    rfl
  subst e1 e2
  rw [show sz.take vs.length = sz from List.take_of_length_le (by omega)]
  have s6 := same_new hps (.lst (sz.map V.int))
  have h6 : (upd H' ps (.lst (sz.map V.int))) ps = some (.lst (sz.map V.int)) := upd_same
  generalize upd H' ps (.lst (sz.map V.int)) = H6 at s6 h6 ⊢
  have s56 := s5.trans s6
  have hsz : SizesIn H6 ps sz := ⟨h6, hpos, l6⟩
  refine ⟨_, rfl, _, rfl, by omega, by omega, ?_⟩
  refine comp_range (fun i acc H' => Same H6 H' ∧ acc.length = i) ⟨Same.refl _, rfl⟩ (fun i acc H' hi ⟨e1, e2⟩ => ?_) (fun acc Hn ⟨e1, e2⟩ pl hpl => ?_)
  · refine ⟨_, rfl, _, rfl, a, ns, _, rfl, (s56.trans e1).seq hS, h63, fun cv => ⟨_, _, rfl, rfl, (by show (0 : Int) < 983; decide), _, _, rfl, fun z H'' s'' => ⟨small1000 (by omega), e1.trans s'', by simp [e2]⟩⟩⟩
  have s7 := e1.trans (same_new hpl (.lst acc))
  refine ⟨pl, _, rfl, .inl ⟨SqL.of upd_same, fun pn hpn => ?_⟩⟩
  have s8 := s7.trans (same_new hpn (.tup acc))
  have h8n : upd (upd Hn pl (.lst acc)) pn (.tup acc) pn = some (.tup acc) := upd_same
  have lacc : acc.length ≤ 8 := by omega
  generalize upd (upd Hn pl (.lst acc)) pn (.tup acc) = H8 at s8 h8n ⊢
  have s58 := s56.trans s8
  refine ⟨_, rfl, _, rfl, _, rfl, a, ns, m, (by show [V.ref a, V.int (1 + (x % 16 * 9 + 14) / 16)] = [V.ref a, V.int (m : Int)]; rw [hm]), s58.seq hS, h63, m1, by omega, fun pd dl H9 s9 npd hpd good low ldl => ?_⟩
  have s59 := s58.trans s9
  refine ⟨_, rfl, _, rfl, a, pd, ps, ns, dl, sz, e, rfl, s59.seq hS, h63, hpd, by omega, hsz.mono (s8.trans s9), fun t rs H10 s10 hR edp fit => ?_⟩
  have s510 := s59.trans s10
  have ld := depths_len rs
  have lr : rs.length = m := by rw [← ld, edp, ldl]
  rw [← edp] at good low
  refine ⟨small_le (by show 12 ≤ 1000; decide), fun p11 hp11 => ?_⟩
  have s11 := same_new hp11 (.lst [V.int 4, V.int 5, V.int 6, V.int 7, V.int 8, V.int 9, V.int 10, V.int 6, V.int 7, V.int 8, V.int 2, V.int 0])
  refine ⟨_, rfl, a, ns, _, _, rfl, (s510.trans s11).seq hS, h63, ⟨by decide, by decide⟩, ⟨by decide, by decide⟩, fun y2 y20 y21 => ?_⟩
  obtain ⟨ct, hct, hat2⟩ := int_at (zs := [4, 5, 6, 7, 8, 9, 10, 6, 7, 8, 2, 0]) (i := y2 % 12) (by omega) (by show _ < (12 : Int); omega)
  obtain ⟨c, rfl, c12⟩ : ∃ c : Nat, ct = (c : Int) ∧ c ≤ 12 := by
    simp only [List.mem_cons, List.not_mem_nil, or_false] at hct
    exact ⟨ct.toNat, by omega, by omega⟩
  refine ⟨_, _, rfl, rfl, (by show (0 : Int) < 12; decide), p11, _, _, _, rfl, rfl, SqL.of upd_same, hat2, ?_⟩
  generalize upd H10 p11 (.lst [V.int 4, V.int 5, V.int 6, V.int 7, V.int 8, V.int 9, V.int 10, V.int 6, V.int 7, V.int 8, V.int 2, V.int 0]) = H11 at s11 ⊢
  have s511 := s510.trans s11
  refine ⟨_, rfl, _, rfl, _, rfl, _, rfl, _, rfl, a, t, ps, ns, sz, rs, c, e, rfl, s511.seq hS, h63, c12, hR.mono (KeepT.of s11), by omega, by omega, hsz.mono (((s8.trans s9).trans s10).trans s11), e03.1, fun pdo ds H12 s12 hD dfit d12 => ?_⟩
  have s512 := s511.trans s12
  refine ⟨small_le (by show 2 ≤ 1000; decide), fun p13 hp13 => ?_⟩
  have s13 := same_new hp13 (.lst [V.str "inner", V.str "outer"])
  refine ⟨_, rfl, a, ns, _, _, rfl, (s512.trans s13).seq hS, h63, ⟨by decide, by decide⟩, ⟨by decide, by decide⟩, fun y3 y30 y31 => ?_⟩
  obtain ⟨od, _, hat3⟩ := str_at (zs := [("inner" : Str), "outer"]) (i := y3 % 2) (by omega) (by show _ < (2 : Int); omega)
  refine ⟨_, _, rfl, rfl, (by show (0 : Int) < 2; decide), p13, _, _, _, rfl, rfl, SqL.of upd_same, hat3, ?_⟩
  generalize upd H12 p13 (.lst [V.str "inner", V.str "outer"]) = H13 at s13 ⊢
  refine ⟨small_le (by show 8 ≤ 1000; decide), fun p14 hp14 => ?_⟩
  have s14 := s13.trans (same_new hp14 (.lst [V.int 0, V.int 1, V.int 2, V.int 3, V.int 2, V.int 4, V.int 3, V.int 5]))
  refine ⟨_, rfl, a, ns, _, _, rfl, (s512.trans s14).seq hS, h63, ⟨by decide, by decide⟩, ⟨by decide, by decide⟩, fun y4 y40 y41 => ?_⟩
  obtain ⟨lt, _, hat4⟩ := int_at (zs := [0, 1, 2, 3, 2, 4, 3, 5]) (i := y4 % 8) (by omega) (by show _ < (8 : Int); omega)
  refine ⟨_, _, rfl, rfl, (by show (0 : Int) < 8; decide), p14, _, _, _, rfl, rfl, SqL.of upd_same, hat4, ?_⟩
  generalize upd H13 p14 (.lst [V.int 0, V.int 1, V.int 2, V.int 3, V.int 2, V.int 4, V.int 3, V.int 5]) = H14 at s14 ⊢
  refine ⟨small_le (by show 8 ≤ 1000; decide), fun p15 hp15 => ?_⟩
  have s15 := s14.trans (same_new hp15 (.lst [V.int 1, V.int 2, V.int 3, V.int 4, V.int 3, V.int 4, V.int 2, V.int 4]))
  refine ⟨_, rfl, a, ns, _, _, rfl, (s512.trans s15).seq hS, h63, ⟨by decide, by decide⟩, ⟨by decide, by decide⟩, fun y5 y50 y51 => ?_⟩
  obtain ⟨tn, _, hat5⟩ := int_at (zs := [1, 2, 3, 4, 3, 4, 2, 4]) (i := y5 % 8) (by omega) (by show _ < (8 : Int); omega)
  refine ⟨_, _, rfl, rfl, (by show (0 : Int) < 8; decide), p15, _, _, _, rfl, rfl, SqL.of upd_same, hat5, ?_⟩
  generalize upd H14 p15 (.lst [V.int 1, V.int 2, V.int 3, V.int 4, V.int 3, V.int 4, V.int 2, V.int 4]) = H15 at s15 ⊢
  have t515 : Same H' H15 := ((((((s6.trans s8).trans s9).trans s10).trans s11).trans s12)).trans s15
  refine ⟨_, rfl, _, rfl, _, rfl, _, rfl, pb, _, rfl, .inl ⟨SqL.of (t515 _ _ h5), fun pbx hpbx => ?_⟩⟩
  have s16 := same_new hpbx (.tup vs)
  have hB : Boxes (upd H15 pbx (.tup vs)) pbx sz := ⟨vs, upd_same, hA.mono fun _ _ b => b.mono (KeepT.of (t515.trans s16))⟩
  generalize upd H15 pbx (.tup vs) = H16 at s16 hB ⊢
  refine ⟨_, rfl, _, rfl, _, rfl, small_le (by show 7 ≤ 1000; decide), fun pc hpc => ?_⟩
  have s17 := same_new hpc (.tup [.str od, .int lt, .int tn, .ref pbx, .ref pn, .ref t, .ref pdo])
  have s1217 := (s15.trans s16).trans s17
  have s1017 := ((s11.trans s12)).trans s1217
  exact q pc sz rs ds e _ (s512.trans s1217) ⟨od, lt, tn, pbx, pn, t, pdo, upd_same, hB.mono (KeepT.of s17), hR.mono (KeepT.of s1017), hD.mono (KeepT.of s1217), acc, ((s9.trans s10).trans s1017) _ _ h8n, lacc⟩ ⟨good, low, fit, by omega, by omega, hpos, l6, dfit, d12⟩
end
end Chr

namespace Chr
open PySem L2 Mix Gds Rms
/-! charts by the cells: an opening of a room -/
def bnd : Nat → Nat
  | 0 => 0
  | n + 1 => 1 + 10 * bnd n
structure RoomsOk (rs : List Rm) : Prop where
  good : Tr.Good (depths rs)
  low : Low (depths rs)
  fit : Fit rs
  l10 : rs.length ≤ 10
theorem natsV_get' {os : List Nat} {i : Nat} {x : V} (h : (natsV os)[i]? = some x) : ∃ hi : i < os.length, x = .int ((os[i] : Nat) : Int) := by
  have hi : i < os.length := by
    have := (List.getElem?_eq_some_iff.mp h).1
    rw [natsV_len] at this
    exact this
  refine ⟨hi, ?_⟩
  unfold natsV at h
  rw [List.getElem?_map, List.getElem?_eq_getElem hi] at h
  exact (Option.some.inj h).symm
/-- the one lies in the other, by depths -/
def Lin (ds : List Int) (o r : Nat) : Prop := ∀ i, r < i → i ≤ o → ds.getD r 0 < ds.getD i 0
theorem Lin.trans {ds : List Int} {a b c : Nat} (h : Lin ds a b) (k : Lin ds b c) (hc : c < b) : Lin ds a c := fun i i1 i2 => by
  by_cases z : i ≤ b
  · exact k i i1 z
  · have h1 := h i (by omega) i2
    have h2 := k b hc (Nat.le_refl _)
    omega
def spOpened (K : PySem.W.Frag) (n : Nat) : Sp := fun vs H Q _ => ∃ (t a : Addr) (ns : List Int) (rs : List Rm) (room : Nat) (at' : Int), vs = [.ref t, .int (room : Int), .ref a, .int at'] ∧ Rooms H t rs ∧ RoomsOk rs ∧ room < rs.length ∧ 5 ≤ (depths rs).getD room 0 + (n : Int) ∧ n ≤ 5 ∧ SqL K H a (ns.map V.int) ∧ ns.length ≤ 63 ∧ (0 ≤ at' ∧ at' ≤ 100000) ∧
  ∀ (p : Addr) (os : List Nat) (H' : Hp), Same H H' → H' p = some (.lst (natsV (room :: os))) → (∀ o ∈ os, room < o ∧ o < rs.length ∧ Lin (depths rs) o room) → os.length + 1 ≤ bnd n → os.Pairwise (· < ·) → Q (.ref p) H'
theorem bnd_le {n : Nat} (h : n ≤ 5) : bnd n ≤ 11111 := by
  have : n = 0 ∨ n = 1 ∨ n = 2 ∨ n = 3 ∨ n = 4 ∨ n = 5 := by omega
  rcases this with rfl | rfl | rfl | rfl | rfl | rfl <;> decide
section
variable {P : Program} {w : World} {K : PySem.W.Frag} {mg : Str → Option Value} {base : Heap}
theorem sc_law_opened : FnScope ["_law_rooms_here", "_law_room", "_law_script", "_law_at", "_law_opened_here", "_law_inside", "_law_k", "_law_kid"] ["_law_rooms_here", "_law_room", "_law_script", "_law_at"] (defScope s_L_opened) := ⟨rfl, rfl, rfl, by decide +kernel, rfl, by decide +kernel, by decide +kernel⟩
theorem ok_opened {n : Nat} {f gm : Addr} {fd dm : FuncData} (F : Fun K "_law_opened" "_law_opened" s_L_opened f fd) (G_law_mixed : FnOk P w K mg base CX0 (n + 2) gm dm ["_law_script", "_law_k", "_law_salt"] (spMixed K)) (b_law_mixed : Binds K dm ["_law_script", "_law_k", "_law_salt"] []) (k_law_mixed : PySem.W.keepIn K (.ref gm) = true) (m_law_mixed : mg "_law_mixed" = some (.ref gm))
    (G_law_opened : FnOk P w K mg base CX0 (n + 2) f fd ["_law_rooms_here", "_law_room", "_law_script", "_law_at"] (spOpened K n)) (b_law_opened : Binds K fd ["_law_rooms_here", "_law_room", "_law_script", "_law_at"] []) (k_law_opened : PySem.W.keepIn K (.ref f) = true) (m_law_opened : mg "_law_opened" = some (.ref f))
    (m_len : mg "len" = none) : FnOk P w K mg base CX0 (n + 3) f fd ["_law_rooms_here", "_law_room", "_law_script", "_law_at"] (spOpened K (n + 1)) := by
  refine F.ok sc_law_opened (fun vs H Q E h => ?_) (fun cdv A outer s H vs Q E hr h => ?_)
  · obtain ⟨t, a, ns, rs, room, at', rfl, _⟩ := h
    rfl
  obtain ⟨t, a, ns, rs, room, at', rfl, hR, ok, rl, fuel, n5, hS, h63, ⟨a0, a1⟩, q⟩ := h
  refine ⟨_, (pss_cons (ps_set (i := 4) sc_law_opened.nd rfl (Or.inl rfl) (pe_lst (pa_cons (pv 1) pa_nil)))
    (pss_cons (ps_if (pt_cmpR op_eq (pe_ix ix_tup (pe_ix ix_tup (pv 0) (pv 1) (fun _ _ => rfl)) pe_int (fun _ _ => rfl)) pe_str (nomark _))
      (pss_one (ps_ret (pv 4)))
      pss_nil)
    (pss_cons (ps_set (i := 5) sc_law_opened.nd rfl (Or.inl rfl) (pe_lst pa_nil))
    (pss_cons (ps_set (i := 6) sc_law_opened.nd rfl (Or.inl rfl) (pe_op op_add (pv 1) pe_int))
    (pss_cut (ps_while PassesOwn.never (PW.pt (pw_and (pt_cmpR op_lt (pv 6) (pe_callB call_len_seq rfl m_len PySem.boot_len (pa_cons (pv 0) pa_nil)) (nomark _)) (pw_and1 (pt_cmpR op_gt (pe_ix ix_tup (pe_ix ix_tup (pv 0) (pv 6) (fun _ _ => rfl)) pe_int (fun _ _ => rfl)) (pe_ix ix_tup (pe_ix ix_tup (pv 0) (pv 1) (fun _ _ => rfl)) pe_int (fun _ _ => rfl)) (nomark _)))))
      (pss_cut (ps_if (pt_cmpR op_eq (pe_ix ix_tup (pe_ix ix_tup (pv 0) (pv 6) (fun _ _ => rfl)) pe_int (fun _ _ => rfl)) (pe_op op_add (pe_ix ix_tup (pe_ix ix_tup (pv 0) (pv 1) (fun _ _ => rfl)) pe_int (fun _ _ => rfl)) pe_int) (nomark _))
        (pss_one (ps_expr (pe_bm PySem.F.plainAttrs_list PySem.F.slot_list_append PySem.F.type_list_append mt_append (pv 5) (pa_cons (pv 6) pa_nil))))
        pss_nil)
      (pss_one (ps_set (i := 6) sc_law_opened.nd rfl (Or.inl rfl) (pe_op op_add (pv 6) pe_int)))))
    (pss_cut (ps_if (pt_cmpR op_eq (pe_ix ix_tup (pe_ix ix_tup (pv 0) (pv 1) (fun _ _ => rfl)) pe_int (fun _ _ => rfl)) pe_str (nomark _))
      (pss_one (ps_set (i := 5) sc_law_opened.nd rfl (Or.inl rfl) (pe_lst (pa_cons (pe_ix ix_list (pv 5) (pe_op op_mod (pe_call G_law_mixed hr rfl m_law_mixed k_law_mixed b_law_mixed .nil pass0 (pa_cons (pv 2) (pa_cons (pe_op op_add (pv 3) (pv 1)) (pa_cons pe_int pa_nil)))) (pe_callB call_len_seq rfl m_len PySem.boot_len (pa_cons (pv 5) pa_nil))) (fun _ _ => rfl)) pa_nil))))
      pss_nil)
    (pss_cut (ps_for PassesOwn.never rfl (pi_list (pv 5)) (pg_name (i := 7) sc_law_opened.nd rfl (Or.inl rfl))
      (pss_one (ps_set (i := 4) sc_law_opened.nd rfl (Or.inl rfl) (pe_op op_cat (pv 4) (pe_call G_law_opened hr rfl m_law_opened k_law_opened b_law_opened .nil pass0 (pa_cons (pv 0) (pa_cons (pv 7) (pa_cons (pv 2) (pa_cons (pv 3) pa_nil)))))))))
    (pss_one (ps_ret (pv 4)))))))))), ?_⟩
  obtain ⟨rv, htr, hrs⟩ := id hR
  have lrv := hrs.length
  have l10 := ok.l10
  have ld := depths_len rs
  obtain ⟨vr, hvr, ar, rfl, har⟩ := hrs.get (List.getElem?_eq_getElem rl)
  have er := List.getElem?_eq_getElem rl
  have dr := depths_at er
  generalize hrr : rs[room] = r at har er dr
  have hatr : atI rv (room : Int) = some (.ref ar) := atI_nat hvr
  refine ⟨_, rfl, small_le (by show 1 ≤ 1000; decide), fun po hpo => ?_⟩
  have s1 := same_new hpo (.lst [V.int (room : Int)])
  have h1 : upd H po (.lst [V.int (room : Int)]) po = some (.lst [V.int (room : Int)]) := upd_same
  generalize upd H po (.lst [V.int (room : Int)]) = H1 at s1 h1 ⊢
  refine ⟨_, rfl, _, rfl, t, rv, _, _, rfl, rfl, SqT.of (s1 _ _ htr), hatr, ar, _, _, _, rfl, rfl, SqT.of (s1 _ _ har), rfl, rfl, _, rfl, itB (fun c => ?_) (fun c => ?_)⟩
  · exact ⟨_, rfl, q po [] H1 s1 h1 (fun o h => by cases h) (by show 0 + 1 ≤ 1 + 10 * bnd n; omega) List.Pairwise.nil⟩
  have np : r.kind ≠ "plain" := fun z => of_decide_eq_false c (by rw [z])
  have hf := ok.fit room r er
  have hk1 : room + 1 < rs.length ∧ (depths rs).getD room 0 < (depths rs).getD (room + 1) 0 := by
    by_cases z : room + 1 < rs.length ∧ (depths rs).getD room 0 < (depths rs).getD (room + 1) 0
    · exact z
    · rw [if_neg z] at hf
      exact absurd hf np
  have hg := ok.good.next room (by omega)
  refine ⟨Nat.zero_le _, fun pi hpi => ?_⟩
  have npi : H pi = none := s1.free hpi
  have s2 := s1.trans (same_new hpi (.lst []))
  have h2 := (same_new hpi (.lst [])) _ _ h1
  refine ⟨_, rfl, _, _, rfl, rfl, ?_⟩
  refine ⟨fun σ' H' => ∃ js : List Nat, Same H H' ∧ H' po = some (.lst [V.int (room : Int)]) ∧ H' pi = some (.lst (natsV js)) ∧ js.length ≤ 10 ∧ (∀ j ∈ js, room < j ∧ j < rs.length ∧ (depths rs).getD j 0 = (depths rs).getD room 0 + 1 ∧ Lin (depths rs) j room) ∧ js.Pairwise (· < ·) ∧ js ≠ [] ∧ ∃ o6 : Option V, σ' = [some (.ref t), some (.int (room : Int)), some (.ref a), some (.int at'), some (.ref po), some (.ref pi), o6, none], ?_, ?_⟩
  · refine ⟨fun m σ' H' => ∃ (k : Nat) (js : List Nat), m = rs.length - k ∧ room + 1 ≤ k ∧ k ≤ rs.length ∧ Same H H' ∧ H' po = some (.lst [V.int (room : Int)]) ∧ H' pi = some (.lst (natsV js)) ∧ js.length + room + 1 ≤ k ∧ (∀ j ∈ js, room < j ∧ j < rs.length ∧ (depths rs).getD j 0 = (depths rs).getD room 0 + 1 ∧ Lin (depths rs) j room) ∧ js.Pairwise (· < ·) ∧ (∀ j ∈ js, j < k) ∧ (∀ i, room < i → i < k → (depths rs).getD room 0 < (depths rs).getD i 0) ∧ (room + 1 < k → js ≠ []) ∧ σ' = [some (.ref t), some (.int (room : Int)), some (.ref a), some (.int at'), some (.ref po), some (.ref pi), some (.int (k : Int)), none],
      ⟨_, room + 1, [], rfl, Nat.le_refl _, by omega, s2, h2, upd_same, (by show 0 + room + 1 ≤ room + 1; omega), (fun j h => by cases h), List.Pairwise.nil, (fun j h => by cases h), (fun i i1 i2 => by omega), (fun z => by omega), rfl⟩, ?_⟩
    rintro m σ' H' ⟨k, js, rfl, k1, k2, s3, h3, h3i, lj, hj, hinc, hjk, hdp, hne, rfl⟩
    refine ⟨_, rfl, _, rfl, t, _, rfl, .inr (SqT.of (s3 _ _ htr)), _, _, rfl, rfl, _, rfl, itB (fun c => ?_) (fun c => ifF rfl ?_)⟩
    · have c1 : (k : Int) < ((rv.length : Nat) : Int) := of_decide_eq_true c
      have hk : k < rs.length := by omega
      obtain ⟨vk, hvk, ak, rfl, hak⟩ := hrs.get (List.getElem?_eq_getElem hk)
      have ek := List.getElem?_eq_getElem hk
      have dk := depths_at ek
      generalize hrk : rs[k] = rk at hak ek dk
      have hatk : atI rv (k : Int) = some (.ref ak) := atI_nat hvk
      refine ⟨_, rfl, _, rfl, t, rv, _, _, rfl, rfl, SqT.of (s3 _ _ htr), hatk, ak, _, _, _, rfl, rfl, SqT.of (s3 _ _ hak), rfl, _, rfl, _, rfl, t, rv, _, _, rfl, rfl, SqT.of (s3 _ _ htr), hatr, ar, _, _, _, rfl, rfl, SqT.of (s3 _ _ har), rfl, _, _, rfl, rfl, _, rfl, itB (fun c2 => ?_) (fun c2 => ?_)⟩
      · have c3 : r.depth < rk.depth := of_decide_eq_true c2
        refine ⟨fun σ' H2 => ∃ js' : List Nat, Same H H2 ∧ H2 po = some (.lst [V.int (room : Int)]) ∧ H2 pi = some (.lst (natsV js')) ∧ js'.length + room + 1 ≤ k + 1 ∧ (∀ j ∈ js', room < j ∧ j < rs.length ∧ (depths rs).getD j 0 = (depths rs).getD room 0 + 1 ∧ Lin (depths rs) j room) ∧ js'.Pairwise (· < ·) ∧ (∀ j ∈ js', j < k + 1) ∧ js' ≠ [] ∧ σ' = [some (.ref t), some (.int (room : Int)), some (.ref a), some (.int at'), some (.ref po), some (.ref pi), some (.int ((k : Int) + 1)), none], ?_, ?_⟩
        · rintro σ' H2 ⟨js', s4, h4, h4i, lj', hj', hinc', hjk', hne', rfl⟩
          refine ⟨rs.length - (k + 1), by omega, k + 1, js', rfl, by omega, by omega, s4, h4, h4i, lj', hj', hinc', hjk', fun i i1 i2 => ?_, fun _ => hne', rfl⟩
          by_cases z : i = k
          · rw [z, dk, dr]
            exact c3
          · exact hdp i i1 (by omega)
        refine ⟨fun σ' H2 => ∃ js' : List Nat, Same H H2 ∧ H2 po = some (.lst [V.int (room : Int)]) ∧ H2 pi = some (.lst (natsV js')) ∧ js'.length + room + 1 ≤ k + 1 ∧ (∀ j ∈ js', room < j ∧ j < rs.length ∧ (depths rs).getD j 0 = (depths rs).getD room 0 + 1 ∧ Lin (depths rs) j room) ∧ js'.Pairwise (· < ·) ∧ (∀ j ∈ js', j < k + 1) ∧ js' ≠ [] ∧ σ' = [some (.ref t), some (.int (room : Int)), some (.ref a), some (.int at'), some (.ref po), some (.ref pi), some (.int (k : Int)), none], ?_, ?_⟩
        · refine ⟨_, rfl, _, rfl, t, rv, _, _, rfl, rfl, SqT.of (s3 _ _ htr), hatk, ak, _, _, _, rfl, rfl, SqT.of (s3 _ _ hak), rfl, _, rfl, _, rfl, t, rv, _, _, rfl, rfl, SqT.of (s3 _ _ htr), hatr, ar, _, _, _, rfl, rfl, SqT.of (s3 _ _ har), rfl, _, _, rfl, rfl, rfl, _, rfl, itB (fun c4 => ?_) (fun c4 => ?_)⟩
          · have c5 : V.int rk.depth = V.int (r.depth + 1) := of_decide_eq_true c4
            have c6 : rk.depth = r.depth + 1 := by injection c5
            refine ⟨_, rfl, .inl ⟨rfl, _, SqL.of h3i⟩, _, rfl, pi, _, _, rfl, rfl, h3i, small1000 (by rw [natsV_len]; omega), js ++ [k], same_upd npi s3 _, ?_, ?_, by simp; omega, fun j z => ?_, List.pairwise_append.mpr ⟨hinc, List.pairwise_singleton _ _, fun x hx y hy => by rw [List.mem_singleton.mp hy]; exact hjk x hx⟩, (fun j z => ?_), by simp, rfl⟩
            · rw [upd_ne (ne_of_none h1 hpi)]
              exact h3
            · rw [upd_same, natsV_app]
            · rcases List.mem_append.mp z with z | z
              · exact hj j z
              · rw [List.mem_singleton.mp z, dk, dr]
                refine ⟨by omega, hk, c6, fun i i1 i2 => ?_⟩
                by_cases y : i = k
                · rw [y, dk, dr]
                  exact c3
                · exact hdp i i1 (by omega)
            · rcases List.mem_append.mp z with z | z
              · have := hjk j z
                omega
              · rw [List.mem_singleton.mp z]
                omega
          · refine ⟨js, s3, h3, h3i, by omega, hj, hinc, (fun j z => by have := hjk j z; omega), ?_, rfl⟩
            by_cases z : room + 1 < k
            · exact hne z
            · exfalso
              have zk : k = room + 1 := by omega
              subst zk
              rw [dk, dr] at hg hk1
              exact of_decide_eq_false c4 (by rw [show rk.depth = r.depth + 1 by omega])
        rintro σ4 H4 ⟨js', s4, h4, h4i, lj', hj', hinc', hjk', hne', rfl⟩
        exact ⟨_, rfl, _, _, rfl, rfl, js', s4, h4, h4i, lj', hj', hinc', hjk', hne', rfl⟩
      · refine ⟨js, s3, h3, h3i, by omega, hj, hinc, ?_, _, rfl⟩
        by_cases z : room + 1 < k
        · exact hne z
        · exfalso
          have zk : k = room + 1 := by omega
          subst zk
          rw [dk, dr] at hk1
          exact of_decide_eq_false c2 hk1.2
    · have c1 : ¬ (k : Int) < ((rv.length : Nat) : Int) := of_decide_eq_false c
      exact ⟨js, s3, h3, h3i, by omega, hj, hinc, hne (by omega), _, rfl⟩
  rintro σ3 H3 ⟨js, s3, h3, h3i, lj, hj, hinc, hne, o6, rfl⟩
  have ljs : 0 < js.length := List.length_pos_iff.mpr hne
  have ln := natsV_len js
  refine ⟨fun σ' H' => ∃ (pj : Addr) (js : List Nat), Same H H' ∧ H' po = some (.lst [V.int (room : Int)]) ∧ H' pj = some (.lst (natsV js)) ∧ js.length ≤ 10 ∧ (∀ j ∈ js, room < j ∧ j < rs.length ∧ (depths rs).getD j 0 = (depths rs).getD room 0 + 1 ∧ Lin (depths rs) j room) ∧ js.Pairwise (· < ·) ∧ σ' = [some (.ref t), some (.int (room : Int)), some (.ref a), some (.int at'), some (.ref po), some (.ref pj), o6, none], ?_, ?_⟩
  · refine ⟨_, rfl, _, rfl, t, rv, _, _, rfl, rfl, SqT.of (s3 _ _ htr), hatr, ar, _, _, _, rfl, rfl, SqT.of (s3 _ _ har), rfl, rfl, _, rfl, itB (fun c => ?_) (fun c => ⟨pi, js, s3, h3, h3i, lj, hj, hinc, rfl⟩)⟩
    refine ⟨_, rfl, _, rfl, _, rfl, _, rfl, _, _, rfl, rfl, a, ns, _, _, rfl, s3.seq hS, h63, ⟨by omega, by omega⟩, ⟨by decide, by decide⟩, fun y y0 y1 => ?_⟩
    obtain ⟨pk, hpm, hpk⟩ := natsV_at (os := js) (i := y % (((natsV js).length : Nat) : Int)) (Int.emod_nonneg _ (by omega)) (by
      have := Int.emod_lt_of_pos y (show (0 : Int) < (((natsV js).length : Nat) : Int) by omega)
      omega)
    refine ⟨_, rfl, pi, _, rfl, .inl (SqL.of h3i), _, _, rfl, rfl, (by show (0 : Int) < (((natsV js).length : Nat) : Int); omega), pi, _, _, _, rfl, rfl, SqL.of h3i, hpk, small_le (by show 1 ≤ 1000; decide), fun p hp => ?_⟩
    have s4 := same_new hp (.lst [V.int (pk : Int)])
    refine ⟨p, [pk], s3.trans s4, s4 _ _ h3, upd_same, (by show 1 ≤ 10; decide), fun j z => ?_, List.pairwise_singleton _ _, rfl⟩
    rw [List.mem_singleton.mp z]
    exact hj pk hpm
  rintro σ4 H4 ⟨pj, ks, s4, h4, h4j, lk, hk, kinc, rfl⟩
  refine ⟨fun σ' H' => ∃ (pc : Addr) (os : List Nat), Same H H' ∧ H' pc = some (.lst (natsV (room :: os))) ∧ (∀ o ∈ os, room < o ∧ o < rs.length ∧ Lin (depths rs) o room) ∧ os.length + 1 ≤ bnd (n + 1) ∧ os.Pairwise (· < ·) ∧ ∃ o5 o7 : Option V, σ' = [some (.ref t), some (.int (room : Int)), some (.ref a), some (.int at'), some (.ref pc), o5, o6, o7], ?_, ?_⟩
  · refine ⟨_, rfl, pj, rfl, ⟨_, SqL.of h4j⟩, ?_⟩
    refine for_list (K := K) (a := pj) (xs := natsV ks) (fun i σ' H' => ∃ (pc : Addr) (os : List Nat), Same H4 H' ∧ H' pc = some (.lst (natsV (room :: os))) ∧ (∀ o ∈ os, room < o ∧ o < rs.length ∧ Lin (depths rs) o room) ∧ os.length ≤ i * bnd n ∧ os.Pairwise (· < ·) ∧ (∀ o ∈ os, ∀ (m : Nat) (y : Nat), i ≤ m → ks[m]? = some y → o < y) ∧ ∃ o7 : Option V, σ' = [some (.ref t), some (.int (room : Int)), some (.ref a), some (.int at'), some (.ref pc), some (.ref pj), o6, o7])
      ⟨po, [], Same.refl _, h4, (fun o h => by cases h), Nat.zero_le _, List.Pairwise.nil, (fun o h => by cases h), _, rfl⟩ (fun i σ' H' _ ⟨pc, os, s, _⟩ => SqL.of (s _ _ h4j)) ?_ ?_
    · rintro i x σ' H5 hx ⟨pc, os, s5, h5, hos, los, oinc, obel, o7, rfl⟩
      obtain ⟨hi, rfl⟩ := natsV_get' hx
      obtain ⟨kd1, kd2, kd3, kd4⟩ := hk _ (List.getElem_mem hi)
      have s45 := s4.trans s5
      have fuel' : 5 ≤ (depths rs).getD ks[i] 0 + (n : Int) := by
        rw [kd3]
        omega
      refine ⟨_, rfl, _, rfl, _, rfl, _, rfl, _, rfl, t, a, ns, rs, ks[i], at', rfl, hR.mono (KeepT.of s45), ok, kd2, fuel', by omega, s45.seq hS, h63, ⟨a0, a1⟩, fun p' os' H6 s6 h6 hos' los' inc' => ?_⟩
      have hb : bnd n ≤ 11111 := bnd_le (by omega)
      have h10 : i * bnd n ≤ 10 * 11111 := Nat.mul_le_mul (by omega) hb
      refine ⟨pc, p', _, _, rfl, rfl, s6 _ _ h5, h6, ?_, fun p hp => ⟨p, os ++ ks[i] :: os', (s5.trans s6).trans (same_new hp _), ?_, fun o ho => ?_, ?_, ?_, fun o ho m y hm hy => ?_, _, rfl⟩⟩
      · rw [natsV_len, natsV_len, List.length_cons, List.length_cons]
        show _ ≤ 16777216
        omega
      · rw [upd_same]
        unfold natsV
        rw [← List.map_append]
        rfl
      · rcases List.mem_append.mp ho with z | z
        · exact hos o z
        · rcases List.mem_cons.mp z with z | z
          · rw [z]
            exact ⟨kd1, kd2, kd4⟩
          · obtain ⟨z1, z2, z3⟩ := hos' o z
            exact ⟨by omega, z2, z3.trans kd4 kd1⟩
      · rw [List.length_append, List.length_cons, Nat.succ_mul]
        omega
      · refine List.pairwise_append.mpr ⟨oinc, List.pairwise_cons.mpr ⟨fun y hy => (hos' y hy).1, inc'⟩, fun u hu v hv => ?_⟩
        have u1 := obel u hu i ks[i] (Nat.le_refl _) (List.getElem?_eq_getElem hi)
        rcases List.mem_cons.mp hv with z | z
        · rw [z]
          exact u1
        · have := (hos' v z).1
          omega
      · obtain ⟨hm', em⟩ := List.getElem?_eq_some_iff.mp hy
        rcases List.mem_append.mp ho with z | z
        · exact obel o z m y (by omega) hy
        · have lt1 : ks[i] < y := by
            rw [← em]
            exact List.pairwise_iff_getElem.mp kinc i m hi hm' (by omega)
          have dy : (depths rs).getD y 0 = (depths rs).getD room 0 + 1 := by
            rw [← em]
            exact (hk _ (List.getElem_mem hm')).2.2.1
          rcases List.mem_cons.mp z with z | z
          · rw [z]
            exact lt1
          · by_cases w : o < y
            · exact w
            · have := (hos' o z).2.2 y lt1 (by omega)
              omega
    · rintro σ' H5 ⟨pc, os, s5, h5, hos, los, oinc, obel, o7, rfl⟩
      refine ⟨pc, os, s4.trans s5, h5, hos, ?_, oinc, _, _, rfl⟩
      have h10 : (natsV ks).length * bnd n ≤ 10 * bnd n := Nat.mul_le_mul_right _ (by rw [natsV_len]; exact lk)
      show os.length + 1 ≤ 1 + 10 * bnd n
      omega
  rintro σ5 H5 ⟨pc, os, s5, h5, hos, los, oinc, o5, o7, rfl⟩
  exact ⟨_, rfl, q pc os H5 s5 h5 hos los oinc⟩
theorem none_opened {f : Addr} {fd : FuncData} : FnOk P w K mg base CX0 2 f fd ["_law_rooms_here", "_law_room", "_law_script", "_law_at"] (spOpened K 0) := by
  have no : ∀ vs H Q E, ¬ spOpened K 0 vs H Q E := fun vs H Q E h => by
    obtain ⟨t, a, ns, rs, room, at', rfl, hR, ok, rl, fuel, _⟩ := h
    have := ok.low room (by rw [depths_len]; exact rl)
    omega
  exact ⟨fun vs H Q E h => absurd h (no vs H Q E), fun A outer s H args us vs Q E _ _ _ _ h => absurd h (no vs H Q E)⟩
theorem all_opened {f gm : Addr} {fd dm : FuncData} (F : Fun K "_law_opened" "_law_opened" s_L_opened f fd) (G_law_mixed : FnOk P w K mg base CX0 2 gm dm ["_law_script", "_law_k", "_law_salt"] (spMixed K)) (b_law_mixed : Binds K dm ["_law_script", "_law_k", "_law_salt"] []) (k_law_mixed : PySem.W.keepIn K (.ref gm) = true) (m_law_mixed : mg "_law_mixed" = some (.ref gm))
    (b_law_opened : Binds K fd ["_law_rooms_here", "_law_room", "_law_script", "_law_at"] []) (m_law_opened : mg "_law_opened" = some (.ref f)) (m_len : mg "len" = none) : ∀ n : Nat, FnOk P w K mg base CX0 (n + 2) f fd ["_law_rooms_here", "_law_room", "_law_script", "_law_at"] (spOpened K n)
  | 0 => none_opened
  | n + 1 => ok_opened F (G_law_mixed.mono (by omega)) b_law_mixed k_law_mixed m_law_mixed (all_opened F G_law_mixed b_law_mixed k_law_mixed m_law_mixed b_law_opened m_law_opened m_len n) b_law_opened F.kp m_law_opened m_len
end
end Chr

namespace Chr
open PySem L2 Mix Gds Rms Ans
/-! charts by the cells: a stand -/
theorem cut_tail (x : V) (xs : List V) : cutV (x :: xs) (some 1) none = xs := by
  show (List.drop (if (1 : Int) < 0 then ((1 : Int) + ((x :: xs).length : Int)).toNat else min (1 : Int).toNat (x :: xs).length) (x :: xs)).take ((x :: xs).length - (if (1 : Int) < 0 then ((1 : Int) + ((x :: xs).length : Int)).toNat else min (1 : Int).toNat (x :: xs).length)) = xs
  rw [if_neg (by decide)]
  have e : min (1 : Int).toNat (x :: xs).length = 1 := by
    rw [List.length_cons]
    show min 1 (xs.length + 1) = 1
    omega
  rw [e]
  exact List.take_of_length_le (by simp)
def RwIn (H : Hp) (v : V) (js : List Nat) : Prop := ∃ a : Addr, v = .ref a ∧ H a = some (.tup (natsV js))
theorem RwIn.mono {H H' : Hp} {v : V} {r : List Nat} (x : RwIn H v r) (k : KeepT H H') : RwIn H' v r := by
  obtain ⟨a, e, h⟩ := x
  exact ⟨a, e, k _ _ h⟩
def Kept (H : Hp) (t : Addr) (ks : List (List Nat)) : Prop := ∃ vs, H t = some (.tup vs) ∧ Al (RwIn H) vs ks
theorem Kept.mono {H H' : Hp} {t : Addr} {ks : List (List Nat)} (x : Kept H t ks) (k : KeepT H H') : Kept H' t ks := by
  obtain ⟨vs, h, r⟩ := x
  exact ⟨vs, k _ _ h, r.mono fun _ _ z => z.mono k⟩
def Rw (n i : Nat) (js : List Nat) : Prop := (∀ j ∈ js, i < j ∧ j < n) ∧ js.length ≤ 11111
theorem ChartOk.rooms {sz : List Int} {rs : List Rm} {ds : List Dr} {e : Int} (h : ChartOk sz rs ds e) : RoomsOk rs := ⟨h.good, h.low, h.fit, h.l12⟩
def spStand (K : PySem.W.Frag) : Sp := fun vs H Q _ => ∃ (pc a : Addr) (ns sz : List Int) (rs : List Rm) (ds : List Dr) (e at' : Int), vs = [.ref pc, .ref a, .int at'] ∧ Chart H pc sz rs ds ∧ ChartOk sz rs ds e ∧ SqL K H a (ns.map V.int) ∧ ns.length ≤ 63 ∧ (0 ≤ at' ∧ at' ≤ 1000) ∧
  ∀ (p po ph pk : Addr) (ks : List (List Nat)) (os : List Nat) (bx : List Int) (H' : Hp), Same H H' → H' p = some (.tup [.ref po, .ref ph, .ref pk]) → H' po = some (.tup (natsV os)) → (∀ o ∈ os, o < rs.length) → os.Pairwise (· < ·) → H' ph = some (.tup (bx.map V.int)) → bx.length = sz.length → Kept H' pk ks → ks.length = rs.length → (∀ (i : Nat) (js : List Nat), ks[i]? = some js → Rw rs.length i js) → Q (.ref p) H'
theorem small_rw {n : Nat} (h : n ≤ 11111) : n < sizeLine := Nat.lt_of_le_of_lt h (by show 11111 < 16777216; decide)
section
variable {P : Program} {w : World} {K : PySem.W.Frag} {mg : Str → Option Value} {base : Heap}
theorem sc_law_stand : FnScope ["_law_chart_here", "_law_script", "_law_at", "_law_rooms_here", "_law_kept", "_law_k", "_law_row", "_law_held"] ["_law_chart_here", "_law_script", "_law_at"] (defScope s_L_stand) := ⟨rfl, rfl, rfl, by decide +kernel, rfl, by decide +kernel, by decide +kernel⟩
theorem ok_stand {f gm go : Addr} {fd dm do' : FuncData} (F : Fun K "_law_stand" "_law_stand" s_L_stand f fd) (G_law_mixed : FnOk P w K mg base CX0 7 gm dm ["_law_script", "_law_k", "_law_salt"] (spMixed K)) (b_law_mixed : Binds K dm ["_law_script", "_law_k", "_law_salt"] []) (k_law_mixed : PySem.W.keepIn K (.ref gm) = true) (m_law_mixed : mg "_law_mixed" = some (.ref gm))
    (G_law_opened : FnOk P w K mg base CX0 7 go do' ["_law_rooms_here", "_law_room", "_law_script", "_law_at"] (spOpened K 5)) (b_law_opened : Binds K do' ["_law_rooms_here", "_law_room", "_law_script", "_law_at"] []) (k_law_opened : PySem.W.keepIn K (.ref go) = true) (m_law_opened : mg "_law_opened" = some (.ref go))
    (m_range : mg "range" = none) (m_len : mg "len" = none) (m_tuple : mg "tuple" = none) : FnOk P w K mg base CX0 8 f fd ["_law_chart_here", "_law_script", "_law_at"] (spStand K) := by
  refine F.ok sc_law_stand (fun vs H Q E h => ?_) (fun cdv A outer s H vs Q E hr h => ?_)
  · obtain ⟨pc, a, ns, sz, rs, ds, e, at', rfl, _⟩ := h
    rfl
  obtain ⟨pc, a, ns, sz, rs, ds, e, at', rfl, hC, ok, hS, h63, ⟨a0, a1⟩, q⟩ := h
  refine ⟨_, (pss_cons (ps_set (i := 3) sc_law_stand.nd rfl (Or.inr rfl) (pe_ix ix_tup (pv 0) pe_int (fun _ _ => rfl)))
    (pss_cons (ps_set (i := 4) sc_law_stand.nd rfl (Or.inl rfl) (pe_lst pa_nil))
    (pss_cut (ps_for PassesOwn.never rfl (pi_range1 rfl m_range (pa_cons (pe_callB call_len_seq rfl m_len PySem.boot_len (pa_cons (pv 3) pa_nil)) pa_nil)) (pg_name (i := 5) sc_law_stand.nd rfl (Or.inl rfl))
      (pss_cons (ps_set (i := 6) sc_law_stand.nd rfl (Or.inl rfl) (pe_slice sl_list (pe_call G_law_opened hr rfl m_law_opened k_law_opened b_law_opened .nil pass0 (pa_cons (pv 3) (pa_cons (pv 5) (pa_cons (pv 1) (pa_cons (pe_op op_add (pv 2) (pe_op op_mul pe_int (pv 5))) pa_nil))))) (po_some pe_int) po_none))
      (pss_cut (ps_if (pt_cut (PW.pt (pw_or (pt_cmpR op_eq (pe_ix ix_tup (pe_ix ix_tup (pv 3) (pv 5) (fun _ _ => rfl)) pe_int (fun _ _ => rfl)) pe_str (nomark _)) (pw_or1 (pt_cmpR op_eq (pe_op op_mod (pe_call G_law_mixed hr rfl m_law_mixed k_law_mixed b_law_mixed .nil pass0 (pa_cons (pv 1) (pa_cons (pe_op op_add (pv 2) (pv 5)) (pa_cons pe_int pa_nil)))) pe_int) pe_int (nomark _))))))
        (pss_one (ps_set (i := 6) sc_law_stand.nd rfl (Or.inl rfl) (pe_lst pa_nil)))
        pss_nil)
      (pss_cut (ps_if (pt_cmpR op_eq (pe_ix ix_tup (pe_ix ix_tup (pv 3) (pv 5) (fun _ _ => rfl)) pe_int (fun _ _ => rfl)) pe_str (nomark _))
        (pss_one (ps_set (i := 6) sc_law_stand.nd rfl (Or.inl rfl) (pe_slice sl_list (pv 6) po_none (po_some pe_int))))
        pss_nil)
      (pss_cut (ps_if (pt_cmpR op_eq (pe_ix ix_tup (pe_ix ix_tup (pv 3) (pv 5) (fun _ _ => rfl)) pe_int (fun _ _ => rfl)) pe_str (nomark _))
        (pss_one (ps_setC (i := 6) (caps := [(3, "_law_rooms_here")]) rfl sc_law_stand.nd rfl (Or.inl rfl) (show CompSc (defScope s_L_stand) ["_law_chart_here", "_law_script", "_law_at", "_law_rooms_here", "_law_kept", "_law_k", "_law_row", "_law_held"] _ _ _ from ⟨rfl, rfl, by decide +kernel, by decide +kernel, by decide +kernel, by decide +kernel, by decide +kernel⟩) (pi_list (pv 6)) (fun _ _ _ _ _ _ => pifs_one (pt_cmpR op_eq (pe_ix (r := rIxT K) ix_tup (pe_ix (r := rIxT K) ix_tup (pv 1) (pv 0) (fun _ _ => rfl)) pe_int (fun _ _ => rfl)) pe_str (nomark _))) (fun _ _ _ _ _ _ => (pv 0))))
        pss_nil)
      (pss_one (ps_expr (pe_bm PySem.F.plainAttrs_list PySem.F.slot_list_append PySem.F.type_list_append mt_append (pv 4) (pa_cons (pe_callTy call_tuple_of rfl m_tuple PyProof.Rows.boot_tuple (pa_cons (pv 6) pa_nil)) pa_nil)))))))))
    (pss_cons (ps_set (i := 7) sc_law_stand.nd rfl (Or.inl rfl) (pe_lst pa_nil))
    (pss_cut (ps_for PassesOwn.never rfl (pi_range1 rfl m_range (pa_cons (pe_callB call_len_seq rfl m_len PySem.boot_len (pa_cons (pe_ix ix_tup (pv 0) pe_int (fun _ _ => rfl)) pa_nil)) pa_nil)) (pg_name (i := 5) sc_law_stand.nd rfl (Or.inl rfl))
      (pss_one (ps_expr (pe_bm PySem.F.plainAttrs_list PySem.F.slot_list_append PySem.F.type_list_append mt_append (pv 7) (pa_cons (pe_op op_mod (pe_call G_law_mixed hr rfl m_law_mixed k_law_mixed b_law_mixed .nil pass0 (pa_cons (pv 1) (pa_cons (pe_op op_add (pv 2) (pv 5)) (pa_cons pe_int pa_nil)))) (pe_ix ix_tup (pe_ix ix_tup (pe_ix ix_tup (pv 0) pe_int (fun _ _ => rfl)) (pv 5) (fun _ _ => rfl)) pe_int (fun _ _ => rfl))) pa_nil)))))
    (pss_one (ps_ret (pe_tup (pa_cons (pe_callTy call_tuple_of rfl m_tuple PyProof.Rows.boot_tuple (pa_cons (pe_call G_law_opened hr rfl m_law_opened k_law_opened b_law_opened .nil pass0 (pa_cons (pv 3) (pa_cons pe_int (pa_cons (pv 1) (pa_cons (pe_op op_add (pv 2) pe_int) pa_nil))))) pa_nil)) (pa_cons (pe_callTy call_tuple_of rfl m_tuple PyProof.Rows.boot_tuple (pa_cons (pv 7) pa_nil)) (pa_cons (pe_callTy call_tuple_of rfl m_tuple PyProof.Rows.boot_tuple (pa_cons (pv 4) pa_nil)) pa_nil))))))))))), ?_⟩
  obtain ⟨od, lt, tn, pb, pn, pt, pd, hpc, ⟨bv, hpb, hbx⟩, hR, hD, _⟩ := hC
  obtain ⟨rv, htr, hrs⟩ := id hR
  have lrv := hrs.length
  have lbv := hbx.length
  have l10 := ok.l12
  have l6 := ok.l6
  have rok := ok.rooms
  have dn : ∀ k, k < rs.length → 0 ≤ (depths rs).getD k 0 := fun k hk => ok.good.nonneg k (by rw [depths_len]; exact hk)
  refine ⟨_, rfl, pc, _, _, _, rfl, rfl, SqT.of hpc, rfl, ?_⟩
  refine ⟨Nat.zero_le _, fun pk hpk => ?_⟩
  have s1 := same_new hpk (.lst [])
  refine ⟨fun σ' H' => ∃ (vs : List V) (ks : List (List Nat)), Same H H' ∧ H' pk = some (.lst vs) ∧ Al (RwIn H') vs ks ∧ ks.length = rs.length ∧ (∀ (i : Nat) (js : List Nat), ks[i]? = some js → Rw rs.length i js) ∧ ∃ o5 o6 : Option V, σ' = [some (.ref pc), some (.ref a), some (.int at'), some (.ref pt), some (.ref pk), o5, o6, none], ?_, ?_⟩
  · refine ⟨_, rfl, pt, _, rfl, .inr (SqT.of (s1 _ _ htr)), _, rfl, by omega, by omega, ?_⟩
    refine for_range (fun i σ' H' => ∃ (vs : List V) (ks : List (List Nat)), Same H H' ∧ H' pk = some (.lst vs) ∧ Al (RwIn H') vs ks ∧ ks.length = i ∧ (∀ (i : Nat) (js : List Nat), ks[i]? = some js → Rw rs.length i js) ∧ ∃ o5 o6 : Option V, σ' = [some (.ref pc), some (.ref a), some (.int at'), some (.ref pt), some (.ref pk), o5, o6, none])
      ⟨[], [], s1, upd_same, .nil, rfl, (fun i js h => by simp at h), none, none, rfl⟩ ?_ (fun σ' H' ⟨vs, ks, h1, h2, h3, h4, h5, h6⟩ => ⟨vs, ks, h1, h2, h3, by simp at h4; omega, h5, h6⟩)
    rintro i σ' H3 hi ⟨vs, ks, s3, h3, hA, hlen, hks, o5, o6, rfl⟩
    have hi' : i < rs.length := by
      simp at hi
      omega
    obtain ⟨vr, hvr, ar, rfl, har⟩ := hrs.get (List.getElem?_eq_getElem hi')
    generalize hrr : rs[i] = r at har
    have hatr : atI rv (0 + (i : Int)) = some (.ref ar) := by
      rw [Int.zero_add]
      exact atI_nat hvr
    have dn' := dn i hi'
    refine ⟨_, rfl, _, rfl, _, rfl, _, rfl, _, rfl, _, _, rfl, rfl, mulIn (by decide) (by decide), _, _, rfl, rfl, pt, a, ns, rs, i, at' + 7 * (i : Int), (by show [V.ref pt, V.int (0 + (i : Int)), V.ref a, V.int (at' + 7 * (0 + (i : Int)))] = _; rw [Int.zero_add]), hR.mono (KeepT.of s3), rok, hi', by omega, Nat.le_refl _, s3.seq hS, h63, ⟨by omega, by omega⟩, fun p4 os H4 s4 h4 hos los _ => ?_⟩
    refine ⟨_, rfl, p4, _, rfl, SqL.of h4, fun p5 hp5 => ?_⟩
    have hcut : cutV (natsV (i :: os)) (some 1) none = natsV os := cut_tail _ _
    rw [hcut]
    have s5 := s4.trans (same_new hp5 (.lst (natsV os)))
    have h5 : upd H4 p5 (.lst (natsV os)) p5 = some (.lst (natsV os)) := upd_same
    generalize upd H4 p5 (.lst (natsV os)) = H5 at s5 h5 ⊢
    have lb : bnd 5 = 11111 := by decide
    have rw5 : Rw rs.length i os := ⟨fun o ho => ⟨(hos o ho).1, (hos o ho).2.1⟩, by omega⟩
    have keep : ∀ (pr : Addr) (js : List Nat) (H' : Hp), Same H3 H' → H' pr = some (.lst (natsV js)) → Rw rs.length i js → ∃ (pr' : Addr) (js' : List Nat), Same H3 H' ∧ H' pr' = some (.lst (natsV js')) ∧ Rw rs.length i js' ∧ ([some (.ref pc), some (.ref a), some (.int at'), some (.ref pt), some (.ref pk), some (.int (0 + (i : Int))), some (.ref pr), none] : St) = [some (.ref pc), some (.ref a), some (.int at'), some (.ref pt), some (.ref pk), some (.int (0 + (i : Int))), some (.ref pr'), none] := fun pr js H' h1 h2 h3 => ⟨pr, js, h1, h2, h3, rfl⟩
    refine ⟨fun σ' H' => ∃ (pr : Addr) (js : List Nat), Same H3 H' ∧ H' pr = some (.lst (natsV js)) ∧ Rw rs.length i js ∧ σ' = [some (.ref pc), some (.ref a), some (.int at'), some (.ref pt), some (.ref pk), some (.int (0 + (i : Int))), some (.ref pr), none], ?_, ?_⟩
    · refine ⟨fun c H' => H' = H5, ?_, ?_⟩
      · refine ⟨_, rfl, _, rfl, pt, rv, _, _, rfl, rfl, SqT.of ((s3.trans s5) _ _ htr), hatr, ar, _, _, _, rfl, rfl, SqT.of ((s3.trans s5) _ _ har), rfl, rfl, _, rfl, itB (fun c => rfl) (fun c => ?_)⟩
        exact ⟨_, rfl, _, rfl, _, rfl, _, _, rfl, rfl, a, ns, _, _, rfl, (s3.trans s5).seq hS, h63, ⟨by omega, by omega⟩, ⟨by decide, by decide⟩, fun y y0 y1 => ⟨_, _, rfl, rfl, (by show (0 : Int) < 3; decide), rfl, _, rfl, rfl⟩⟩
      rintro c H' rfl
      refine itB (fun c => ?_) (fun c => keep p5 os _ s5 h5 rw5)
      exact ⟨Nat.zero_le _, fun p hp => keep p [] _ (s5.trans (same_new hp _)) upd_same ⟨(fun j h => by cases h), Nat.zero_le _⟩⟩
    rintro σ6 H6 ⟨p6, j6, s6, h6, rw6, rfl⟩
    refine ⟨fun σ' H' => ∃ (pr : Addr) (js : List Nat), Same H3 H' ∧ H' pr = some (.lst (natsV js)) ∧ Rw rs.length i js ∧ σ' = [some (.ref pc), some (.ref a), some (.int at'), some (.ref pt), some (.ref pk), some (.int (0 + (i : Int))), some (.ref pr), none], ?_, ?_⟩
    · refine ⟨_, rfl, _, rfl, pt, rv, _, _, rfl, rfl, SqT.of ((s3.trans s6) _ _ htr), hatr, ar, _, _, _, rfl, rfl, SqT.of ((s3.trans s6) _ _ har), rfl, rfl, _, rfl, itB (fun c => ?_) (fun c => keep p6 j6 _ s6 h6 rw6)⟩
      refine ⟨_, rfl, _, rfl, p6, _, rfl, SqL.of h6, fun p hp => ?_⟩
      have hc : cutV (natsV j6) none (some 1) = natsV (j6.take 1) := by
        rw [cut_take _ (by decide)]
        exact List.map_take.symm
      rw [hc]
      exact keep p _ _ (s6.trans (same_new hp _)) upd_same ⟨fun j h => rw6.1 j (List.mem_of_mem_take h), Nat.le_trans (List.length_take_le _ _) (by omega)⟩
    rintro σ7 H7 ⟨p7, j7, s7, h7, rw7, rfl⟩
    refine ⟨fun σ' H' => ∃ (pr : Addr) (js : List Nat), Same H3 H' ∧ H' pr = some (.lst (natsV js)) ∧ Rw rs.length i js ∧ σ' = [some (.ref pc), some (.ref a), some (.int at'), some (.ref pt), some (.ref pk), some (.int (0 + (i : Int))), some (.ref pr), none], ?_, ?_⟩
    · refine ⟨_, rfl, _, rfl, pt, rv, _, _, rfl, rfl, SqT.of ((s3.trans s7) _ _ htr), hatr, ar, _, _, _, rfl, rfl, SqT.of ((s3.trans s7) _ _ har), rfl, rfl, _, rfl, itB (fun c => ?_) (fun c => keep p7 j7 _ s7 h7 rw7)⟩
      refine ⟨_, rfl, p7, rfl, ⟨_, SqL.of h7⟩, ?_⟩
      have l7 := natsV_len j7
      refine comp_list (K := K) (a := p7) (xs := natsV j7) (fun i' acc H' => H' = H7 ∧ ∃ js : List Nat, acc = natsV js ∧ js.length ≤ i' ∧ i' ≤ j7.length ∧ ∀ j ∈ js, j ∈ j7) ⟨rfl, [], rfl, Nat.le_refl _, Nat.zero_le _, fun j h => by cases h⟩ (fun i acc H' ⟨e, _⟩ => by subst e; exact SqL.of h7) (fun i' x acc H' hx ⟨e1, js, e2, e3, e4, e5⟩ => ?_) (fun acc H' ⟨e1, js, e2, e3, e4, e5⟩ p hp => ?_)
      · subst e1 e2
        obtain ⟨hi2, rfl⟩ := natsV_get' hx
        have hm := List.getElem_mem hi2
        have hj := (rw7.1 _ hm).2
        obtain ⟨v2, hv2, a2, rfl, ha2⟩ := hrs.get (List.getElem?_eq_getElem hj)
        refine ⟨_, rfl, _, rfl, pt, rv, _, _, rfl, rfl, SqT.of ((s3.trans s7) _ _ htr), atI_nat hv2, a2, _, _, _, rfl, rfl, SqT.of ((s3.trans s7) _ _ ha2), rfl, rfl, _, rfl, itB (fun c => ?_) (fun c => ⟨rfl, js, rfl, by omega, by omega, e5⟩)⟩
        have l711 := rw7.2
        refine ⟨_, rfl, small_rw (by rw [natsV_len]; omega), rfl, js ++ [j7[i']], (natsV_app _ _), by simp; omega, by omega, fun j z => ?_⟩
        rcases List.mem_append.mp z with z | z
        · exact e5 j z
        · rw [List.mem_singleton.mp z]
          exact hm
      subst e1 e2
      have l711 := rw7.2
      exact keep p js _ (s7.trans (same_new hp _)) upd_same ⟨fun j h => rw7.1 j (e5 j h), by omega⟩
    rintro σ8 H8 ⟨p8, j8, s8, h8, rw8, rfl⟩
    have h8k := s8 _ _ h3
    refine ⟨_, rfl, .inl ⟨rfl, _, SqL.of h8k⟩, _, rfl, p8, _, rfl, .inl ⟨SqL.of h8, fun p9 hp9 => ?_⟩⟩
    have u9 := same_new hp9 (.tup (natsV j8))
    have h9 := u9 _ _ h8k
    have lv := hA.length
    have kl := KeepT.lst h9 (.lst (vs ++ [.ref p9]))
    refine ⟨pk, _, _, rfl, rfl, h9, small1000 (by omega), vs ++ [.ref p9], ks ++ [j8], same_upd hpk ((s3.trans s8).trans u9) _, upd_same, Al.snoc (hA.mono fun _ _ z => z.mono ((KeepT.of (s8.trans u9)).trans kl)) ⟨p9, rfl, kl _ _ upd_same⟩, by simp [hlen], fun k js hk => ?_, _, _, rfl⟩
    by_cases z : k < ks.length
    · rw [List.getElem?_append_left z] at hk
      exact hks k js hk
    · have zk : k = ks.length := by
        have := (List.getElem?_eq_some_iff.mp hk).1
        simp only [List.length_append, List.length_singleton] at this
        omega
      subst zk
      rw [List.getElem?_append_right (Nat.le_refl _)] at hk
      simp at hk
      subst hk
      rw [hlen]
      exact rw8
  rintro σ3 H3 ⟨vs, ks, s3, h3, hA, hlen, hks, o5, o6, rfl⟩
  refine ⟨Nat.zero_le _, fun ph hph => ?_⟩
  have nph : H ph = none := s3.free hph
  have s4 := same_new hph (.lst [])
  refine ⟨fun σ' H' => ∃ (xs : List Int), Same H3 H' ∧ H' ph = some (.lst (xs.map V.int)) ∧ xs.length = sz.length ∧ ∃ o5 o6 : Option V, σ' = [some (.ref pc), some (.ref a), some (.int at'), some (.ref pt), some (.ref pk), o5, o6, some (.ref ph)], ?_, ?_⟩
  · refine ⟨_, rfl, pc, _, _, _, rfl, rfl, SqT.of ((s3.trans s4) _ _ hpc), rfl, pb, _, rfl, .inr (SqT.of ((s3.trans s4) _ _ hpb)), _, rfl, by omega, by omega, ?_⟩
    refine for_range (fun i σ' H' => ∃ (xs : List Int), Same H3 H' ∧ H' ph = some (.lst (xs.map V.int)) ∧ xs.length = i ∧ ∃ o5 o6 : Option V, σ' = [some (.ref pc), some (.ref a), some (.int at'), some (.ref pt), some (.ref pk), o5, o6, some (.ref ph)])
      ⟨[], s4, upd_same, rfl, _, _, rfl⟩ ?_ (fun σ' H' ⟨xs, h1, h2, h3, h4⟩ => ⟨xs, h1, h2, by simp at h3; omega, h4⟩)
    rintro i σ' H5 hi ⟨xs, s5, h5, lx, p5, p6, rfl⟩
    have hi' : i < sz.length := by
      simp at hi
      omega
    obtain ⟨vb, hvb, ab, nm, st, rfl, hab⟩ := hbx.get (List.getElem?_eq_getElem hi')
    have zp := ok.pos _ (List.getElem_mem hi')
    have hatb : atI bv (0 + (i : Int)) = some (.ref ab) := by
      rw [Int.zero_add]
      exact atI_nat hvb
    have s35 := s3.trans s5
    refine ⟨_, rfl, .inl ⟨rfl, _, SqL.of h5⟩, _, rfl, _, rfl, _, rfl, _, _, rfl, rfl, a, ns, _, _, rfl, s35.seq hS, h63, ⟨by omega, by omega⟩, ⟨by decide, by decide⟩, fun y y0 y1 => ?_⟩
    exact ⟨_, rfl, pc, _, _, _, rfl, rfl, SqT.of (s35 _ _ hpc), rfl, _, rfl, pb, bv, _, _, rfl, rfl, SqT.of (s35 _ _ hpb), hatb, ab, _, _, _, rfl, rfl, SqT.of (s35 _ _ hab), rfl, _, _, rfl, rfl, zp, ph, _, _, rfl, rfl, h5, small1000 (by rw [List.length_map]; omega), xs ++ [_], same_upd hph s5 _, (by rw [upd_same, List.map_append]; rfl), by simp [lx], _, _, rfl⟩
  rintro σ5 H5 ⟨xs, s5, h5, lxs, p5, p6, rfl⟩
  have s35 := s3.trans s5
  have dn0 := dn 0 ok.l1
  refine ⟨_, rfl, _, rfl, _, rfl, _, _, rfl, rfl, pt, a, ns, rs, 0, at' + 90, rfl, hR.mono (KeepT.of s35), rok, ok.l1, by omega, Nat.le_refl _, s35.seq hS, h63, ⟨by omega, by omega⟩, fun p7 os H7 s7 h7 hos los inc => ?_⟩
  refine ⟨p7, _, rfl, .inl ⟨SqL.of h7, fun p8 hp8 => ?_⟩⟩
  have s8 := s7.trans (same_new hp8 (.tup (natsV (0 :: os))))
  have h88 : upd H7 p8 (.tup (natsV (0 :: os))) p8 = some (.tup (natsV (0 :: os))) := upd_same
  generalize upd H7 p8 (.tup (natsV (0 :: os))) = H8 at s8 h88 ⊢
  refine ⟨_, rfl, ph, _, rfl, .inl ⟨SqL.of (s8 _ _ h5), fun p9 hp9 => ?_⟩⟩
  have v9 := same_new hp9 (.tup (xs.map V.int))
  have s9 := s8.trans (same_new hp9 (.tup (xs.map V.int)))
  have h99 : upd H8 p9 (.tup (xs.map V.int)) p9 = some (.tup (xs.map V.int)) := upd_same
  generalize upd H8 p9 (.tup (xs.map V.int)) = H9 at s9 v9 h99 ⊢
  have h9k := (s5.trans s9) _ _ h3
  refine ⟨_, rfl, pk, _, rfl, .inl ⟨SqL.of h9k, fun p10 hp10 => ?_⟩⟩
  have u10 := same_new hp10 (.tup vs)
  have k10 : Kept (upd H9 p10 (.tup vs)) p10 ks := ⟨vs, upd_same, hA.mono fun _ _ z => z.mono (KeepT.of ((s5.trans s9).trans u10))⟩
  generalize upd H9 p10 (.tup vs) = H10 at u10 k10 ⊢
  refine ⟨small_le (by show 3 ≤ 1000; decide), fun p11 hp11 => ?_⟩
  have u11 := u10.trans (same_new hp11 (.tup [.ref p8, .ref p9, .ref p10]))
  exact q p11 p8 p9 p10 ks (0 :: os) xs _ (((s35.trans s9).trans u10).trans (same_new hp11 _)) upd_same (u11 _ _ (v9 _ _ h88)) (fun o ho => by rcases List.mem_cons.mp ho with z | z; (rw [z]; exact ok.l1); exact (hos o z).2.1) (List.pairwise_cons.mpr ⟨fun o ho => (hos o ho).1, inc⟩) (u11 _ _ h99) lxs (k10.mono (KeepT.of (same_new hp11 _))) hlen hks
end
end Chr

namespace Ans
open PySem L2 Mix Gds Rms
/-! k22: the rooms of the doors that are chosen -/
theorem fst_hit {op bx : List Int} {r ev : Int} : ∀ {ds : List Dg} {b k : Nat}, fst op bx r ev ds b = some k → b ≤ k ∧ ∃ d, ds[k - b]? = some d ∧ hit op bx r ev d = true
  | [], b, k, h => by cases h
  | x :: ds, b, k, h => by
    have h : (if hit op bx r ev x = true then some b else fst op bx r ev ds (b + 1)) = some k := h
    by_cases c : hit op bx r ev x = true
    · rw [if_pos c] at h
      cases h
      exact ⟨Nat.le_refl _, x, by rw [Nat.sub_self]; rfl, c⟩
    · rw [if_neg c] at h
      obtain ⟨h1, d, h2, h3⟩ := fst_hit h
      refine ⟨by omega, d, ?_, h3⟩
      rw [show k - b = (k - (b + 1)) + 1 by omega, List.getElem?_cons_succ]
      exact h2
theorem ans_door {os : List Nat} {bx : List Int} {ds : List Dg} {ev : Int} {r k : Nat} (h : ansOf (inter os) bx ds (r : Int) ev = some k) : ∃ d, ds[k]? = some d ∧ d.room = (r : Int) ∧ d.ev = ev := by
  unfold ansOf at h
  by_cases c : inV (.int (r : Int)) ((inter os).map V.int) = true
  · rw [if_pos c] at h
    obtain ⟨_, d, h1, h2⟩ := fst_hit h
    unfold hit at h2
    simp only [Bool.and_eq_true] at h2
    have h3 := of_decide_eq_true h2.1
    have h4 := of_decide_eq_true h2.2.1
    exact ⟨d, h1, by injection h3, by injection h4⟩
  · rw [if_neg c] at h
    cases h
theorem in_nats {os : List Nat} {r : Nat} (h : r ∈ os) : inV (.int (r : Int)) (natsV os) = true := by
  unfold inV natsV
  rw [List.any_map, List.any_eq_true]
  exact ⟨r, h, by simp [eqV]⟩
theorem nat_at {os : List Nat} {i : Nat} {z : Int} (hz : z = (i : Int)) (hi : i < os.length) : atI (natsV os) z = some (.int ((os[i] : Nat) : Int)) := by
  subst hz
  refine atI_nat ?_
  unfold natsV
  rw [List.getElem?_map, List.getElem?_eq_getElem hi]
  rfl
def chRooms (inn : Bool) (dp : List Int) (os : List Nat) (bx : List Int) (ds : List Dg) (ev : Int) : List Nat := (answ os bx ds ev).filter fun r => !outd inn dp r (answ os bx ds ev)
theorem ch_sub {inn : Bool} {dp : List Int} {os : List Nat} {bx : List Int} {ds : List Dg} {ev : Int} {r : Nat} (h : r ∈ chRooms inn dp os bx ds ev) : r ∈ answ os bx ds ev ∧ outd inn dp r (answ os bx ds ev) = false := by
  obtain ⟨h1, h2⟩ := List.mem_filter.mp h
  exact ⟨h1, by simpa using h2⟩
theorem ch_apart {inn : Bool} {dp : List Int} {os : List Nat} {bx : List Int} {ds : List Dg} {ev : Int} {r u : Nat} (hr : r ∈ chRooms inn dp os bx ds ev) (hu : u ∈ chRooms inn dp os bx ds ev) : Tr.liesIn dp r u = false := by
  rw [Bool.eq_false_iff]
  intro z
  obtain ⟨r1, r2⟩ := ch_sub hr
  obtain ⟨u1, u2⟩ := ch_sub hu
  unfold outd at r2 u2
  rw [List.any_eq_false] at r2 u2
  cases inn with
  | true => exact u2 r r1 (by rw [if_pos rfl]; exact z)
  | false => exact r2 u u1 (by rw [if_neg (by decide)]; exact z)
theorem lies_trans {dp : List Int} {a b c : Nat} (h : Tr.liesIn dp a b = true) (k : Tr.liesIn dp b c = true) : Tr.liesIn dp a c = true := by
  obtain ⟨h1, h2⟩ := lies_iff.mp h
  obtain ⟨k1, k2⟩ := lies_iff.mp k
  refine lies_iff.mpr ⟨by omega, fun j j1 j2 => ?_⟩
  by_cases z : j ≤ b
  · exact k2 j j1 z
  · have := h2 j (by omega) j2
    have := k2 b k1 (Nat.le_refl _)
    omega
theorem top_of {dp : List Int} (AA : List Nat) : ∀ (n r : Nat), r ≤ n → r ∈ AA → ∃ o ∈ AA, (r = o ∨ Tr.liesIn dp r o = true) ∧ ∀ x ∈ AA, Tr.liesIn dp o x = false
  | n, r, hn, hr => by
    by_cases c : ∃ x ∈ AA, Tr.liesIn dp r x = true
    · obtain ⟨x, hx, hl⟩ := c
      have lt := (lies_iff.mp hl).1
      cases n with
      | zero => omega
      | succ n =>
        obtain ⟨o, h1, h2, h3⟩ := top_of AA n x (by omega) hx
        refine ⟨o, h1, .inr ?_, h3⟩
        rcases h2 with rfl | h2
        · exact hl
        · exact lies_trans hl h2
    · exact ⟨r, hr, .inl rfl, fun x hx => by
        rw [Bool.eq_false_iff]
        exact fun z => c ⟨x, hx, z⟩⟩
theorem deep_of {dp : List Int} (AA : List Nat) (N : Nat) (hN : ∀ x ∈ AA, x < N) : ∀ (n r : Nat), N ≤ r + n → r ∈ AA → ∃ o ∈ AA, (r = o ∨ Tr.liesIn dp o r = true) ∧ ∀ x ∈ AA, Tr.liesIn dp x o = false
  | n, r, hn, hr => by
    by_cases c : ∃ x ∈ AA, Tr.liesIn dp x r = true
    · obtain ⟨x, hx, hl⟩ := c
      have lt := (lies_iff.mp hl).1
      have xn := hN x hx
      cases n with
      | zero => omega
      | succ n =>
        obtain ⟨o, h1, h2, h3⟩ := deep_of AA N hN n x (by omega) hx
        refine ⟨o, h1, .inr ?_, h3⟩
        rcases h2 with rfl | h2
        · exact hl
        · exact lies_trans h2 hl
    · exact ⟨r, hr, .inl rfl, fun x hx => by
        rw [Bool.eq_false_iff]
        exact fun z => c ⟨x, hx, z⟩⟩
theorem ch_up {dp : List Int} {os : List Nat} {bx : List Int} {ds : List Dg} {ev : Int} {r : Nat} (h : r ∈ chRooms true dp os bx ds ev) : ∃ o ∈ chRooms false dp os bx ds ev, r = o ∨ Tr.liesIn dp r o = true := by
  obtain ⟨o, h1, h2, h3⟩ := top_of (dp := dp) (answ os bx ds ev) r r (Nat.le_refl _) (ch_sub h).1
  refine ⟨o, List.mem_filter.mpr ⟨h1, ?_⟩, h2⟩
  have : outd false dp o (answ os bx ds ev) = false := by
    unfold outd
    rw [List.any_eq_false]
    intro x hx
    rw [if_neg (by decide), h3 x hx]
    decide
  rw [this]
  rfl
theorem ch_down {dp : List Int} {os : List Nat} {bx : List Int} {ds : List Dg} {ev : Int} {r N : Nat} (hN : ∀ o ∈ os, o < N) (h : r ∈ chRooms false dp os bx ds ev) : ∃ o ∈ chRooms true dp os bx ds ev, r = o ∨ Tr.liesIn dp o r = true := by
  obtain ⟨o, h1, h2, h3⟩ := deep_of (dp := dp) (answ os bx ds ev) N (fun x hx => hN x (List.mem_filter.mp hx).1) N r (by omega) (ch_sub h).1
  refine ⟨o, List.mem_filter.mpr ⟨h1, ?_⟩, h2⟩
  have : outd true dp o (answ os bx ds ev) = false := by
    unfold outd
    rw [List.any_eq_false]
    intro x hx
    rw [if_pos rfl, h3 x hx]
    decide
  rw [this]
  rfl
theorem nodup_lt40 : ∀ (n : Nat) (l : List Nat), l.Nodup → (∀ x ∈ l, x < n) → l.length ≤ n
  | 0, [], _, _ => Nat.le_refl _
  | 0, x :: l, _, h => absurd (h x List.mem_cons_self) (Nat.not_lt_zero _)
  | n + 1, l, nd, h => by
    have h1 := nodup_lt40 n (l.erase n) (nd.erase n) fun x hx => by
      have h2 := (nd.mem_erase_iff).mp hx
      have h3 := h x h2.2
      omega
    have h4 := List.length_erase (a := n) (l := l)
    split at h4 <;> omega
def spRoomsOf (n : Nat) : Sp := fun vs H Q _ => ∃ (pc pst t pd o b : Addr) (od : Str) (os : List Nat) (bx : List Int) (rs : List Rm) (ds : List Dg) (dv : List V) (x1 x2 x3 x4 x : V) (ev : Int), vs = [.ref pc, .ref pst, .int ev] ∧ H pc = some (.tup [.str od, x1, x2, x3, x4, .ref t, .ref pd]) ∧ Rooms H t rs ∧ Tr.Good (depths rs) ∧ rs.length ≤ 40 ∧ H pd = some (.tup dv) ∧ Al (DgIn H) dv ds ∧ H pst = some (.tup [.ref o, .ref b, x]) ∧ H o = some (.tup (natsV os)) ∧ (∀ o ∈ os, o < rs.length) ∧ os.Pairwise (· < ·) ∧ H b = some (.tup (bx.map V.int)) ∧ (∀ d ∈ ds, d.g.ok bx.length ∧ d.g.ht ≤ n) ∧ ds.length ≤ 63 ∧
  ∀ (p : Addr) (H' : Hp), Same H H' → H p = none → H' p = some (.lst (natsV (chRooms (innB od) (depths rs) os bx ds ev))) → Q (.ref p) H'
section
variable {P : Program} {w : World} {K : PySem.W.Frag} {mg : Str → Option Value} {base : Heap}
theorem sc_law_rooms_of : FnScope ["_law_chart_here", "_law_stand_here", "_law_event", "_law_found", "_law_told", "_law_door", "_law_k", "_law_j"] ["_law_chart_here", "_law_stand_here", "_law_event"] (defScope s_L_rooms_of) := ⟨rfl, rfl, rfl, by decide +kernel, rfl, by decide +kernel, by decide +kernel⟩
theorem ok_rooms_of {n m : Nat} {f gc gw gl : Addr} {fd dc dw dl : FuncData} (F : Fun K "_law_rooms_of" "_law_rooms_of" s_L_rooms_of f fd) (G_chosen : FnOk P w K mg base CX0 m gc dc ["chart", "stand", "event"] (spChosen n)) (b_chosen : Binds K dc ["chart", "stand", "event"] []) (k_chosen : PySem.W.keepIn K (.ref gc) = true) (m_chosen : mg "chosen" = some (.ref gc))
    (G_law_whole : FnOk P w K mg base CX0 m gw dw ["_law_found"] spWhole) (b_law_whole : Binds K dw ["_law_found"] []) (k_law_whole : PySem.W.keepIn K (.ref gw) = true) (m_law_whole : mg "_law_whole" = some (.ref gw))
    (G_law_lies : FnOk P w K mg base CX0 m gl dl ["_law_rooms_here", "_law_one", "_law_other"] spLLies) (b_law_lies : Binds K dl ["_law_rooms_here", "_law_one", "_law_other"] []) (k_law_lies : PySem.W.keepIn K (.ref gl) = true) (m_law_lies : mg "_law_lies" = some (.ref gl))
    (m_isinstance : mg "isinstance" = none) (m_list : mg "list" = none) (m_len : mg "len" = none) (m_range : mg "range" = none) : FnOk P w K mg base CX0 (m + 1) f fd ["_law_chart_here", "_law_stand_here", "_law_event"] (spRoomsOf n) := by
  refine F.ok sc_law_rooms_of (fun vs H Q E h => ?_) (fun cdv A outer s H vs Q E hr h => ?_)
  · obtain ⟨pc, pst, t, pd, o, b, od, os, bx, rs, ds, dv, x1, x2, x3, x4, x, ev, rfl, _⟩ := h
    rfl
  obtain ⟨pc, pst, t, pd, o, b, od, os, bx, rs, ds, dv, x1, x2, x3, x4, x, ev, rfl, hpc, hR, good, h40, hpd, hds, hst, ho, hos, inc, hb, hok, l63, q⟩ := h
  refine ⟨_, (pss_cons (ps_set (i := 3) sc_law_rooms_of.nd rfl (Or.inl rfl) (pe_call G_chosen hr rfl m_chosen k_chosen b_chosen .nil pass0 (pa_cons (pv 0) (pa_cons (pv 1) (pa_cons (pv 2) pa_nil)))))
    (pss_cons (ps_if (pt_not (pt_val (pe_callB call_isinst rfl m_isinstance PyProof.Rows.boot_isinstance (pa_cons (pv 3) (pa_cons (pe_bltn (v := .ty "list") rfl m_list PyProof.Rows.boot_list rfl) pa_nil)))))
      (pss_one (ps_ret pe_non))
      pss_nil)
    (pss_cons (ps_set (i := 4) sc_law_rooms_of.nd rfl (Or.inl rfl) (pe_lst pa_nil))
    (pss_cut (ps_for PassesOwn.never rfl (pi_list (pv 3)) (pg_name (i := 5) sc_law_rooms_of.nd rfl (Or.inl rfl))
      (pss_cons (ps_if (pt_cut (PW.pt (pw_or (pt_not (pt_val (pe_call G_law_whole hr rfl m_law_whole k_law_whole b_law_whole .nil pass0 (pa_cons (pv 5) pa_nil)))) (pw_or1 (pt_not (pt_chV op_le op_lt pe_int (pv 5) (pe_callB call_len_seq rfl m_len PySem.boot_len (pa_cons (pe_ix ix_tup (pv 0) pe_int (fun _ _ => rfl)) pa_nil))))))))
        (pss_one (ps_ret pe_non))
        pss_nil)
      (pss_cons (ps_if (pt_cut (PW.pt (pw_or (pt_cmpR op_ne (pe_ix ix_tup (pe_ix ix_tup (pe_ix ix_tup (pv 0) pe_int (fun _ _ => rfl)) (pv 5) (fun _ _ => rfl)) pe_int (fun _ _ => rfl)) (pv 2) (nomark _)) (pw_or1 (pt_cmpR op_notIn_seq (pe_ix ix_tup (pe_ix ix_tup (pe_ix ix_tup (pv 0) pe_int (fun _ _ => rfl)) (pv 5) (fun _ _ => rfl)) pe_int (fun _ _ => rfl)) (pe_ix ix_tup (pv 1) pe_int (fun _ _ => rfl)) rfl)))))
        (pss_one (ps_ret pe_non))
        pss_nil)
      (pss_one (ps_expr (pe_bm PySem.F.plainAttrs_list PySem.F.slot_list_append PySem.F.type_list_append mt_append (pv 4) (pa_cons (pe_ix ix_tup (pe_ix ix_tup (pe_ix ix_tup (pv 0) pe_int (fun _ _ => rfl)) (pv 5) (fun _ _ => rfl)) pe_int (fun _ _ => rfl)) pa_nil)))))))
    (pss_cut (ps_for PassesOwn.never rfl (pi_range2 rfl m_range (pa_cons pe_int (pa_cons (pe_callB call_len_seq rfl m_len PySem.boot_len (pa_cons (pv 4) pa_nil)) pa_nil))) (pg_name (i := 6) sc_law_rooms_of.nd rfl (Or.inl rfl))
      (pss_cons (ps_if (pt_cmpR op_le (pe_ix ix_list (pv 4) (pv 6) (fun _ _ => rfl)) (pe_ix ix_list (pv 4) (pe_op op_sub (pv 6) pe_int) (fun _ _ => rfl)) (nomark _))
        (pss_one (ps_ret pe_non))
        pss_nil)
      (pss_one (ps_for PassesOwn.never rfl (pi_range1 rfl m_range (pa_cons (pv 6) pa_nil)) (pg_name (i := 7) sc_law_rooms_of.nd rfl (Or.inl rfl))
        (pss_one (ps_if (pt_val (pe_call G_law_lies hr rfl m_law_lies k_law_lies b_law_lies .nil pass0 (pa_cons (pe_ix ix_tup (pv 0) pe_int (fun _ _ => rfl)) (pa_cons (pe_ix ix_list (pv 4) (pv 6) (fun _ _ => rfl)) (pa_cons (pe_ix ix_list (pv 4) (pv 7) (fun _ _ => rfl)) pa_nil)))))
          (pss_one (ps_ret pe_non))
          pss_nil))))))
    (pss_one (ps_ret (pv 4)))))))), ?_⟩
  refine ⟨_, rfl, _, rfl, _, rfl, pc, pst, t, pd, o, b, od, os, bx, rs, ds, dv, _, _, _, _, _, ev, rfl, hpc, hR, good, h40, hpd, hds, hst, ho, hos, inc, hb, hok, l63, fun pf H1 s1 npf hpf => ?_⟩
  have ech : chosenOf (innB od) (depths rs) os bx ds ev = (chRooms (innB od) (depths rs) os bx ds ev).map fun r : Nat => (ansOf (inter os) bx ds (r : Int) ev).getD 0 := rfl
  have hinc : (chRooms (innB od) (depths rs) os bx ds ev).Pairwise (· < ·) := (inc.filter _).filter _
  have hap : ∀ r ∈ chRooms (innB od) (depths rs) os bx ds ev, ∀ u ∈ chRooms (innB od) (depths rs) os bx ds ev, Tr.liesIn (depths rs) r u = false := fun r hr' u hu => ch_apart hr' hu
  have hin : ∀ r ∈ chRooms (innB od) (depths rs) os bx ds ev, r ∈ os ∧ ∃ k, ansOf (inter os) bx ds (r : Int) ev = some k := fun r hr' => by
    obtain ⟨h1, h2⟩ := List.mem_filter.mp (ch_sub hr').1
    exact ⟨h1, Option.isSome_iff_exists.mp h2⟩
  have q' := q
  have lRR : (chRooms (innB od) (depths rs) os bx ds ev).length ≤ 40 := by
    have h1 : (chRooms (innB od) (depths rs) os bx ds ev).length ≤ os.length := Nat.le_trans (List.length_filter_le _ _) (List.length_filter_le _ _)
    have h2 : os.length ≤ 40 := by
      have h3 := nodup_lt40 rs.length os (inc.imp fun z => Nat.ne_of_lt z) hos
      omega
    omega
  rw [ech] at hpf
  generalize chRooms (innB od) (depths rs) os bx ds ev = RR at hpf hinc hap hin q' lRR
  clear q
  refine ⟨_, rfl, _, "list", _, true, rfl, .lst hpf, kit_ll K, _, rfl, ifF rfl ?_⟩
  refine ⟨Nat.zero_le _, fun pl hpl => ?_⟩
  have s2 := s1.trans (same_new hpl (.lst []))
  have npl : H pl = none := s1.free hpl
  have u2 := same_new hpl (.lst [])
  have lfn : (natsV (RR.map fun r : Nat => (ansOf (inter os) bx ds (r : Int) ev).getD 0)).length = RR.length := by rw [natsV_len, List.length_map]
  have ldv := hds.length
  refine ⟨fun σ' H' => Same H H' ∧ H' pl = some (.lst (natsV RR)) ∧ ∃ o5 : Option V, σ' = [some (.ref pc), some (.ref pst), some (.int ev), some (.ref pf), some (.ref pl), o5, none, none], ?_, ?_⟩
  · refine ⟨_, rfl, pf, rfl, ⟨_, SqL.of (u2 _ _ hpf)⟩, ?_⟩
    refine for_list (K := K) (a := pf) (xs := natsV (RR.map fun r : Nat => (ansOf (inter os) bx ds (r : Int) ev).getD 0)) (fun i σ' H' => Same H1 H' ∧ H' pl = some (.lst (natsV (RR.take i))) ∧ ∃ o5 : Option V, σ' = [some (.ref pc), some (.ref pst), some (.int ev), some (.ref pf), some (.ref pl), o5, none, none])
      ⟨u2, upd_same, _, rfl⟩ (fun i σ' H' _ ⟨s', _⟩ => SqL.of (s' _ _ hpf)) ?_ ?_
    · rintro i y σ' H3 hy ⟨s3, h3, o5, rfl⟩
      obtain ⟨hi, rfl⟩ := Prg.natsV_get hy
      have hi' : i < RR.length := by simpa using hi
      have ei := List.getElem?_eq_getElem hi'
      obtain ⟨ho1, k, hk⟩ := hin _ (List.getElem_mem hi')
      have eget : (RR.map fun r : Nat => (ansOf (inter os) bx ds (r : Int) ev).getD 0)[i] = k := by
        rw [List.getElem_map, hk]
        rfl
      rw [eget]
      obtain ⟨d, hd, er, eev⟩ := ans_door hk
      generalize RR[i] = r at ei ho1 hk er
      have hkl := (List.getElem?_eq_some_iff.mp hd).1
      have s13 := s1.trans s3
      obtain ⟨v, hv, ad, gv, y3, y4, y5, rfl, had, _⟩ := (hds.mono fun _ _ z => z.mono (KeepT.of s13)).get hd
      have hatd : atI dv ((k : Nat) : Int) = some (.ref ad) := atI_nat hv
      refine ⟨fun c H' => c = false ∧ H' = H3, ?_, ?_⟩
      · refine ⟨_, rfl, (k : Int), rfl, _, rfl, ifF rfl ?_⟩
        refine ⟨_, rfl, _, _, ((dv.length : Nat) : Int), rfl, rfl, ⟨_, rfl, pc, _, _, _, rfl, rfl, SqT.of (s13 _ _ hpc), rfl, pd, _, rfl, .inr (SqT.of (s13 _ _ hpd)), rfl, rfl⟩, _, rfl, ?_, rfl⟩
        show (!(decide ((0 : Int) ≤ (k : Int)) && decide ((k : Int) < ((dv.length : Nat) : Int)))) = false
        rw [decide_eq_true (by omega : (0 : Int) ≤ (k : Int)), decide_eq_true (by omega : (k : Int) < ((dv.length : Nat) : Int))]
        rfl
      rintro c H' ⟨rfl, rfl⟩
      refine ifF rfl ?_
      refine ⟨fun c H3 => c = false ∧ H3 = H', ?_, ?_⟩
      · refine ⟨_, rfl, pc, _, _, _, rfl, rfl, SqT.of (s13 _ _ hpc), rfl, _, rfl, pd, _, _, _, rfl, rfl, SqT.of (s13 _ _ hpd), hatd, ad, _, _, _, rfl, rfl, SqT.of had, rfl, _, rfl, rfl, _, rfl, ifF (by rw [eev]; simp) ?_⟩
        refine ⟨_, rfl, pc, _, _, _, rfl, rfl, SqT.of (s13 _ _ hpc), rfl, _, rfl, pd, _, _, _, rfl, rfl, SqT.of (s13 _ _ hpd), hatd, ad, _, _, _, rfl, rfl, SqT.of had, rfl, _, rfl, pst, _, _, _, rfl, rfl, SqT.of (s13 _ _ hst), rfl, o, _, rfl, .inr (SqT.of (s13 _ _ ho)), rfl, nats_flat os, _, rfl, ?_, rfl⟩
        rw [er, in_nats ho1]
        rfl
      rintro c H3 ⟨rfl, rfl⟩
      refine ifF rfl ?_
      refine ⟨_, rfl, .inl ⟨rfl, _, SqL.of h3⟩, _, rfl, pc, _, _, _, rfl, rfl, SqT.of (s13 _ _ hpc), rfl, _, rfl, pd, _, _, _, rfl, rfl, SqT.of (s13 _ _ hpd), hatd, ad, _, _, _, rfl, rfl, SqT.of had, rfl, pl, _, _, rfl, rfl, h3, small1000 (by rw [natsV_len, List.length_take]; omega), same_upd hpl s3 _, ?_, _, rfl⟩
      rw [upd_same, er, natsV_app, List.take_add_one, ei]
      rfl
    · rintro σ' H3 ⟨s3, h3, r⟩
      rw [lfn, List.take_of_length_le (Nat.le_refl _)] at h3
      exact ⟨s1.trans s3, h3, r⟩
  rintro σ3 H3 ⟨s3, h3, o5, rfl⟩
  have lnR := natsV_len RR
  refine ⟨fun σ' H' => H' = H3 ∧ ∃ o6 o7 : Option V, σ' = [some (.ref pc), some (.ref pst), some (.int ev), some (.ref pf), some (.ref pl), o5, o6, o7], ?_, ?_⟩
  · refine ⟨_, rfl, pl, _, rfl, .inl (SqL.of h3), 1, ((natsV RR).length : Int), rfl, ⟨by decide, by decide, by omega, by omega⟩, ?_⟩
    refine for_range (fun i σ' H' => H' = H3 ∧ ∃ o6 o7 : Option V, σ' = [some (.ref pc), some (.ref pst), some (.int ev), some (.ref pf), some (.ref pl), o5, o6, o7]) ⟨rfl, _, _, rfl⟩ ?_ (fun _ _ h => h)
    rintro i σ' H' hi ⟨rfl, o6, o7, rfl⟩
    have hi1 : i + 1 < RR.length := by omega
    have hlt := List.pairwise_iff_getElem.mp hinc i (i + 1) (by omega) hi1 (Nat.lt_succ_self _)
    refine ⟨_, rfl, _, rfl, pl, _, _, _, rfl, rfl, SqL.of h3, nat_at (i := i + 1) (by omega) hi1, _, rfl, _, rfl, _, _, rfl, rfl, pl, _, _, _, rfl, rfl, SqL.of h3, nat_at (i := i) (by omega) (by omega), _, _, rfl, rfl, _, rfl, ifF (decide_eq_false (by omega)) ?_⟩
    refine ⟨_, rfl, _, rfl, by omega, by omega, ?_⟩
    refine for_range (fun j σ' H2 => H2 = H' ∧ ∃ o7 : Option V, σ' = [some (.ref pc), some (.ref pst), some (.int ev), some (.ref pf), some (.ref pl), o5, some (.int (1 + (i : Int))), o7]) ⟨rfl, _, rfl⟩ ?_ (fun σ' H2 ⟨e, o7, e2⟩ => ⟨e, _, _, e2⟩)
    rintro j σ' H2 hj ⟨rfl, o7', rfl⟩
    have hj1 : j < RR.length := by omega
    have hm1 := List.getElem_mem hi1
    have hm2 := List.getElem_mem hj1
    refine ⟨_, rfl, pc, _, _, _, rfl, rfl, SqT.of (s3 _ _ hpc), rfl, _, rfl, _, rfl, pl, _, _, _, rfl, rfl, SqL.of h3, nat_at (i := i + 1) (by omega) hi1, _, rfl, _, rfl, pl, _, _, _, rfl, rfl, SqL.of h3, nat_at (i := j) (by omega) hj1, t, rs, _, _, RR[i + 1], RR[j], rfl, rfl, rfl, hR.mono (KeepT.of s3), by omega, hos _ (hin _ hm1).1, hos _ (hin _ hm2).1, _, rfl, ifF (hap _ hm1 _ hm2) ⟨rfl, _, rfl⟩⟩
  rintro σ4 H4 ⟨rfl, o6, o7, rfl⟩
  exact ⟨_, rfl, q' pl H4 s3 npl h3⟩
end
end Ans

namespace Ans
open PySem L2 Mix Gds Rms
/-! k22: inner and outer rooms meet -/
def spMet : Sp := fun vs H Q _ => ∃ (t p1 p2 : Addr) (rs : List Rm) (A B : List Nat), vs = [.ref t, .ref p1, .ref p2] ∧ Rooms H t rs ∧ rs.length ≤ 1000 ∧ H p1 = some (.lst (natsV A)) ∧ H p2 = some (.lst (natsV B)) ∧ (∀ r ∈ A, r < rs.length) ∧ (∀ r ∈ B, r < rs.length) ∧ (∀ r ∈ A, ∃ o ∈ B, r = o ∨ Tr.liesIn (depths rs) r o = true) ∧ (∀ r ∈ B, ∃ o ∈ A, r = o ∨ Tr.liesIn (depths rs) o r = true) ∧ Q (.bl true) H
theorem any_snoc {f : Nat → Bool} {os : List Nat} {i o : Nat} (h : os[i]? = some o) : (os.take (i + 1)).any f = ((os.take i).any f || f o) := by
  rw [List.take_add_one, h, List.any_append]
  show ((os.take i).any f || (f o || false)) = _
  rw [Bool.or_false]
section
variable {P : Program} {w : World} {K : PySem.W.Frag} {mg : Str → Option Value} {base : Heap}
theorem sc_law_met : FnScope ["_law_rooms_here", "_law_inner", "_law_outer", "_law_room", "_law_good", "_law_other"] ["_law_rooms_here", "_law_inner", "_law_outer"] (defScope s_L_met) := ⟨rfl, rfl, rfl, by decide +kernel, rfl, by decide +kernel, by decide +kernel⟩
theorem ok_met {f gl : Addr} {fd dl : FuncData} (F : Fun K "_law_met" "_law_met" s_L_met f fd) (G_law_lies : FnOk P w K mg base CX0 1 gl dl ["_law_rooms_here", "_law_one", "_law_other"] spLLies) (b_law_lies : Binds K dl ["_law_rooms_here", "_law_one", "_law_other"] []) (k_law_lies : PySem.W.keepIn K (.ref gl) = true) (m_law_lies : mg "_law_lies" = some (.ref gl)) : FnOk P w K mg base CX0 2 f fd ["_law_rooms_here", "_law_inner", "_law_outer"] spMet := by
  refine F.ok sc_law_met (fun vs H Q E h => ?_) (fun cdv A outer s H vs Q E hr h => ?_)
  · obtain ⟨t, p1, p2, rs, A, B, rfl, _⟩ := h
    rfl
  obtain ⟨t, p1, p2, rs, A1, B1, rfl, hR, l1000, h1, h2, hA, hB, hAB, hBA, q⟩ := h
  refine ⟨_, (pss_cut (ps_for PassesOwn.never rfl (pi_list (pv 1)) (pg_name (i := 3) sc_law_met.nd rfl (Or.inl rfl))
      (pss_cons (ps_set (i := 4) sc_law_met.nd rfl (Or.inl rfl) pe_bl)
      (pss_cut (ps_for PassesOwn.never rfl (pi_list (pv 2)) (pg_name (i := 5) sc_law_met.nd rfl (Or.inl rfl))
        (pss_one (ps_if (pt_cut (PW.pt (pw_or (pt_cmpR op_eq (pv 3) (pv 5) (nomark _)) (pw_or1 (pt_val (pe_call G_law_lies hr rfl m_law_lies k_law_lies b_law_lies .nil pass0 (pa_cons (pv 0) (pa_cons (pv 3) (pa_cons (pv 5) pa_nil)))))))))
          (pss_one (ps_set (i := 4) sc_law_met.nd rfl (Or.inl rfl) pe_bl))
          pss_nil)))
      (pss_one (ps_if (pt_not (pt_val (pv 4)))
        (pss_one (ps_ret pe_bl))
        pss_nil)))))
    (pss_cut (ps_for PassesOwn.never rfl (pi_list (pv 2)) (pg_name (i := 3) sc_law_met.nd rfl (Or.inl rfl))
      (pss_cons (ps_set (i := 4) sc_law_met.nd rfl (Or.inl rfl) pe_bl)
      (pss_cut (ps_for PassesOwn.never rfl (pi_list (pv 1)) (pg_name (i := 5) sc_law_met.nd rfl (Or.inl rfl))
        (pss_one (ps_if (pt_cut (PW.pt (pw_or (pt_cmpR op_eq (pv 3) (pv 5) (nomark _)) (pw_or1 (pt_val (pe_call G_law_lies hr rfl m_law_lies k_law_lies b_law_lies .nil pass0 (pa_cons (pv 0) (pa_cons (pv 5) (pa_cons (pv 3) pa_nil)))))))))
          (pss_one (ps_set (i := 4) sc_law_met.nd rfl (Or.inl rfl) pe_bl))
          pss_nil)))
      (pss_one (ps_if (pt_not (pt_val (pv 4)))
        (pss_one (ps_ret pe_bl))
        pss_nil)))))
    (pss_one (ps_ret pe_bl)))), ?_⟩
  refine ⟨fun σ' H' => H' = H ∧ ∃ o3 o4 o5 : Option V, σ' = [some (.ref t), some (.ref p1), some (.ref p2), o3, o4, o5], ?_, ?_⟩
  · refine ⟨_, rfl, p1, rfl, ⟨_, SqL.of h1⟩, ?_⟩
    refine for_list (K := K) (a := p1) (xs := natsV A1) (fun i σ' H' => H' = H ∧ ∃ o3 o4 o5 : Option V, σ' = [some (.ref t), some (.ref p1), some (.ref p2), o3, o4, o5]) ⟨rfl, _, _, _, rfl⟩ (fun i σ' H' _ ⟨e, _⟩ => by rw [e]; exact SqL.of h1) ?_ (fun _ _ h => h)
    rintro i y σ' H' hy ⟨rfl, o3, o4, o5, rfl⟩
    obtain ⟨hi, rfl⟩ := Prg.natsV_get hy
    have hm := List.getElem_mem hi
    generalize A1[i] = r at hm
    refine ⟨fun σ' H2 => H2 = H' ∧ ∃ o5 : Option V, σ' = [some (.ref t), some (.ref p1), some (.ref p2), some (.int (r : Int)), some (.bl (B1.any fun o => decide (V.int (r : Int) = V.int (o : Int)) || Tr.liesIn (depths rs) r o)), o5], ?_, ?_⟩
    · refine ⟨_, rfl, p2, rfl, ⟨_, SqL.of h2⟩, ?_⟩
      refine for_list (K := K) (a := p2) (xs := natsV B1) (fun j σ' H2 => H2 = H' ∧ ∃ o5 : Option V, σ' = [some (.ref t), some (.ref p1), some (.ref p2), some (.int (r : Int)), some (.bl ((B1.take j).any fun o => decide (V.int (r : Int) = V.int (o : Int)) || Tr.liesIn (depths rs) r o)), o5]) ⟨rfl, _, rfl⟩ (fun j σ' H2 _ ⟨e, _⟩ => by rw [e]; exact SqL.of h2) ?_ ?_
      · rintro j y2 σ' H2 hy2 ⟨rfl, o5', rfl⟩
        obtain ⟨hj, rfl⟩ := Prg.natsV_get hy2
        have hm2 := List.getElem_mem hj
        rw [any_snoc (List.getElem?_eq_getElem hj)]
        generalize B1[j] = u at hm2
        generalize (B1.take j).any (fun o => decide (V.int (r : Int) = V.int (o : Int)) || Tr.liesIn (depths rs) r o) = gg
        refine ⟨fun c H3 => H3 = H2 ∧ c = (decide (V.int (r : Int) = V.int (u : Int)) || Tr.liesIn (depths rs) r u), ?_, ?_⟩
        · refine ⟨_, rfl, _, rfl, rfl, _, rfl, itB (fun c => ⟨rfl, ?_⟩) (fun c => ?_)⟩
          · have c' : decide (V.int (r : Int) = V.int (u : Int)) = true := c
            rw [c']
            rfl
          · have c' : decide (V.int (r : Int) = V.int (u : Int)) = false := c
            rw [c', Bool.false_or]
            exact ⟨_, rfl, _, rfl, _, rfl, t, rs, _, _, r, u, rfl, rfl, rfl, hR, l1000, hA r hm, hB u hm2, _, rfl, rfl, rfl⟩
        rintro c H3 ⟨rfl, rfl⟩
        refine itB (fun c => ?_) (fun c => ?_)
        · rw [c, Bool.or_true]
          exact ⟨rfl, _, rfl⟩
        · rw [c, Bool.or_false]
          exact ⟨rfl, _, rfl⟩
      · rintro σ' H2 ⟨rfl, o5', rfl⟩
        rw [natsV_len, List.take_of_length_le (Nat.le_refl _)]
        exact ⟨rfl, _, rfl⟩
    rintro σ2 H2 ⟨rfl, o5', rfl⟩
    have e : (B1.any fun o => decide (V.int (r : Int) = V.int (o : Int)) || Tr.liesIn (depths rs) r o) = true := by
      obtain ⟨o, ho, hl⟩ := hAB r hm
      rw [List.any_eq_true]
      refine ⟨o, ho, ?_⟩
      rcases hl with rfl | hl
      · simp
      · rw [hl, Bool.or_true]
    exact ⟨_, rfl, _, rfl, ifF (by rw [e]; rfl) ⟨rfl, _, _, _, rfl⟩⟩
  rintro σ1 H1 ⟨rfl, o3, o4, o5, rfl⟩
  refine ⟨fun σ' H' => H' = H1, ?_, ?_⟩
  · refine ⟨_, rfl, p2, rfl, ⟨_, SqL.of h2⟩, ?_⟩
    refine for_list (K := K) (a := p2) (xs := natsV B1) (fun i σ' H' => H' = H1 ∧ ∃ o3 o4 o5 : Option V, σ' = [some (.ref t), some (.ref p1), some (.ref p2), o3, o4, o5]) ⟨rfl, _, _, _, rfl⟩ (fun i σ' H' _ ⟨e, _⟩ => by rw [e]; exact SqL.of h2) ?_ (fun _ _ h => h.1)
    rintro i y σ' H' hy ⟨rfl, o3, o4, o5, rfl⟩
    obtain ⟨hi, rfl⟩ := Prg.natsV_get hy
    have hm := List.getElem_mem hi
    generalize B1[i] = r at hm
    refine ⟨fun σ' H2 => H2 = H' ∧ ∃ o5 : Option V, σ' = [some (.ref t), some (.ref p1), some (.ref p2), some (.int (r : Int)), some (.bl (A1.any fun o => decide (V.int (r : Int) = V.int (o : Int)) || Tr.liesIn (depths rs) o r)), o5], ?_, ?_⟩
    · refine ⟨_, rfl, p1, rfl, ⟨_, SqL.of h1⟩, ?_⟩
      refine for_list (K := K) (a := p1) (xs := natsV A1) (fun j σ' H2 => H2 = H' ∧ ∃ o5 : Option V, σ' = [some (.ref t), some (.ref p1), some (.ref p2), some (.int (r : Int)), some (.bl ((A1.take j).any fun o => decide (V.int (r : Int) = V.int (o : Int)) || Tr.liesIn (depths rs) o r)), o5]) ⟨rfl, _, rfl⟩ (fun j σ' H2 _ ⟨e, _⟩ => by rw [e]; exact SqL.of h1) ?_ ?_
      · rintro j y2 σ' H2 hy2 ⟨rfl, o5', rfl⟩
        obtain ⟨hj, rfl⟩ := Prg.natsV_get hy2
        have hm2 := List.getElem_mem hj
        rw [any_snoc (List.getElem?_eq_getElem hj)]
        generalize A1[j] = u at hm2
        generalize (A1.take j).any (fun o => decide (V.int (r : Int) = V.int (o : Int)) || Tr.liesIn (depths rs) o r) = gg
        refine ⟨fun c H3 => H3 = H2 ∧ c = (decide (V.int (r : Int) = V.int (u : Int)) || Tr.liesIn (depths rs) u r), ?_, ?_⟩
        · refine ⟨_, rfl, _, rfl, rfl, _, rfl, itB (fun c => ⟨rfl, ?_⟩) (fun c => ?_)⟩
          · have c' : decide (V.int (r : Int) = V.int (u : Int)) = true := c
            rw [c']
            rfl
          · have c' : decide (V.int (r : Int) = V.int (u : Int)) = false := c
            rw [c', Bool.false_or]
            exact ⟨_, rfl, _, rfl, _, rfl, t, rs, _, _, u, r, rfl, rfl, rfl, hR, l1000, hA u hm2, hB r hm, _, rfl, rfl, rfl⟩
        rintro c H3 ⟨rfl, rfl⟩
        refine itB (fun c => ?_) (fun c => ?_)
        · rw [c, Bool.or_true]
          exact ⟨rfl, _, rfl⟩
        · rw [c, Bool.or_false]
          exact ⟨rfl, _, rfl⟩
      · rintro σ' H2 ⟨rfl, o5', rfl⟩
        rw [natsV_len, List.take_of_length_le (Nat.le_refl _)]
        exact ⟨rfl, _, rfl⟩
    rintro σ2 H2 ⟨rfl, o5', rfl⟩
    have e : (A1.any fun o => decide (V.int (r : Int) = V.int (o : Int)) || Tr.liesIn (depths rs) o r) = true := by
      obtain ⟨o, ho, hl⟩ := hBA r hm
      rw [List.any_eq_true]
      refine ⟨o, ho, ?_⟩
      rcases hl with rfl | hl
      · simp
      · rw [hl, Bool.or_true]
    exact ⟨_, rfl, _, rfl, ifF (by rw [e]; rfl) ⟨rfl, _, _, _, rfl⟩⟩
  rintro σ' H' rfl
  exact q
end
end Ans
namespace Chr
open PySem L2 Mix Gds Rms Ans
/-! k22: the law -/
def toDg (d : Dr) : Dg := ⟨d.room, d.ev, d.g⟩
theorem dgs {H : Hp} {vs : List V} {ds : List Dr} (x : Al (DrIn H) vs ds) : Al (DgIn H) vs (ds.map toDg) := by
  induction x with
  | nil => exact .nil
  | cons h _ ih =>
    obtain ⟨a, e, h1, h2⟩ := h
    exact .cons ⟨a, _, _, _, _, e, h1, h2⟩ ih
def spLaw (K : PySem.W.Frag) : Sp := fun vs H Q _ => ∃ (a : Addr) (ns : List Int), vs = [.ref a] ∧ SqL K H a (ns.map V.int) ∧ ns.length ≤ 63 ∧ ∀ H', Q (.bl true) H'
section
variable {P : Program} {w : World} {K : PySem.W.Frag} {mg : Str → Option Value} {base : Heap}
theorem ok_guard3 {f : Addr} {fd : FuncData} (F : Fun K "_law_guard" "_law_guard" s_L_guard f fd) (b_law_guard : Binds K fd ["_law_number", "_law_rooms_here", "_law_boxes", "_law_high"] []) (m_law_guard : mg "_law_guard" = some (.ref f)) : FnOk P w K mg base CX0 3 f fd ["_law_number", "_law_rooms_here", "_law_boxes", "_law_high"] (spGuard 3) := by
  exact all_guard F b_law_guard m_law_guard 3
theorem ok_holds3 {f : Addr} {fd : FuncData} (F : Fun K "holds" "holds" sHolds f fd) (b_holds : Binds K fd ["guard", "opening", "boxes"] []) (m_holds : mg "holds" = some (.ref f)) : FnOk P w K mg base CX0 3 f fd ["guard", "opening", "boxes"] (K02.spHolds 3) := by
  exact K02.all_holds F b_holds m_holds 3
theorem ok_opened5 {f gm : Addr} {fd dm : FuncData} (F : Fun K "_law_opened" "_law_opened" s_L_opened f fd) (G_law_mixed : FnOk P w K mg base CX0 2 gm dm ["_law_script", "_law_k", "_law_salt"] (spMixed K)) (b_law_mixed : Binds K dm ["_law_script", "_law_k", "_law_salt"] []) (k_law_mixed : PySem.W.keepIn K (.ref gm) = true) (m_law_mixed : mg "_law_mixed" = some (.ref gm))
    (b_law_opened : Binds K fd ["_law_rooms_here", "_law_room", "_law_script", "_law_at"] []) (m_law_opened : mg "_law_opened" = some (.ref f)) (m_len : mg "len" = none) : FnOk P w K mg base CX0 7 f fd ["_law_rooms_here", "_law_room", "_law_script", "_law_at"] (spOpened K 5) := by
  exact all_opened F G_law_mixed b_law_mixed k_law_mixed m_law_mixed b_law_opened m_law_opened m_len 5
theorem sc_law : FnScope ["_law_script", "_law_chart_here", "_law_ones", "_law_others", "_law_lap", "_law_stand_here", "_law_event", "_law_inner", "_law_outer"] ["_law_script"] (defScope sLawF) := ⟨rfl, rfl, rfl, by decide +kernel, rfl, by decide +kernel, by decide +kernel⟩
theorem ok_law {n : Nat} {f g1 g2 g3 g4 : Addr} {fd dg1 dg2 dg3 dg4 : FuncData} (F : Fun K "law" "law" sLawF f fd)
    (G_law_chart : FnOk P w K mg base CX0 n g1 dg1 ["_law_script"] (spChart K)) (b_law_chart : Binds K dg1 ["_law_script"] []) (k_law_chart : PySem.W.keepIn K (.ref g1) = true) (m_law_chart : mg "_law_chart" = some (.ref g1))
    (G_law_stand : FnOk P w K mg base CX0 n g2 dg2 ["_law_chart_here", "_law_script", "_law_at"] (spStand K)) (b_law_stand : Binds K dg2 ["_law_chart_here", "_law_script", "_law_at"] []) (k_law_stand : PySem.W.keepIn K (.ref g2) = true) (m_law_stand : mg "_law_stand" = some (.ref g2))
    (G_law_rooms_of : FnOk P w K mg base CX0 n g3 dg3 ["_law_chart_here", "_law_stand_here", "_law_event"] (spRoomsOf 3)) (b_law_rooms_of : Binds K dg3 ["_law_chart_here", "_law_stand_here", "_law_event"] []) (k_law_rooms_of : PySem.W.keepIn K (.ref g3) = true) (m_law_rooms_of : mg "_law_rooms_of" = some (.ref g3))
    (G_law_met : FnOk P w K mg base CX0 n g4 dg4 ["_law_rooms_here", "_law_inner", "_law_outer"] spMet) (b_law_met : Binds K dg4 ["_law_rooms_here", "_law_inner", "_law_outer"] []) (k_law_met : PySem.W.keepIn K (.ref g4) = true) (m_law_met : mg "_law_met" = some (.ref g4))
    (m_range : mg "range" = none) (m_len : mg "len" = none) : FnOk P w K mg base CX0 (n + 1) f fd ["_law_script"] (spLaw K) := by
  refine F.ok sc_law (fun vs H Q E h => ?_) (fun cdv A outer s H vs Q E hr h => ?_)
  · obtain ⟨a, ns, rfl, _⟩ := h
    rfl
  obtain ⟨a, ns, rfl, hS, h63, q⟩ := h
  refine ⟨_, (pss_cons (ps_set (i := 1) sc_law.nd rfl (Or.inl rfl) (pe_call G_law_chart hr rfl m_law_chart k_law_chart b_law_chart .nil pass0 (pa_cons (pv 0) pa_nil)))
    (pss_cons (ps_set (i := 2) sc_law.nd rfl (Or.inl rfl) (pe_op op_catT (pe_tup (pa_cons pe_str pa_nil)) (pe_slice sl_tup (pv 1) (po_some pe_int) po_none)))
    (pss_cons (ps_set (i := 3) sc_law.nd rfl (Or.inl rfl) (pe_op op_catT (pe_tup (pa_cons pe_str pa_nil)) (pe_slice sl_tup (pv 1) (po_some pe_int) po_none)))
    (pss_cut (ps_for PassesOwn.never rfl (pi_range1 rfl m_range (pa_cons pe_int pa_nil)) (pg_name (i := 4) sc_law.nd rfl (Or.inl rfl))
      (pss_cons (ps_set (i := 5) sc_law.nd rfl (Or.inl rfl) (pe_call G_law_stand hr rfl m_law_stand k_law_stand b_law_stand .nil pass0 (pa_cons (pv 1) (pa_cons (pv 0) (pa_cons (pe_op op_add pe_int (pe_op op_mul pe_int (pv 4))) pa_nil)))))
      (pss_one (ps_for PassesOwn.never rfl (pi_range1 rfl m_range (pa_cons (pe_callB call_len_seq rfl m_len PySem.boot_len (pa_cons (pe_ix ix_tup (pv 1) pe_int (fun _ _ => rfl)) pa_nil)) pa_nil)) (pg_name (i := 6) sc_law.nd rfl (Or.inl rfl))
        (pss_cons (ps_set (i := 7) sc_law.nd rfl (Or.inl rfl) (pe_call G_law_rooms_of hr rfl m_law_rooms_of k_law_rooms_of b_law_rooms_of .nil pass0 (pa_cons (pv 2) (pa_cons (pv 5) (pa_cons (pv 6) pa_nil)))))
        (pss_cons (ps_set (i := 8) sc_law.nd rfl (Or.inl rfl) (pe_call G_law_rooms_of hr rfl m_law_rooms_of k_law_rooms_of b_law_rooms_of .nil pass0 (pa_cons (pv 3) (pa_cons (pv 5) (pa_cons (pv 6) pa_nil)))))
        (pss_one (ps_if (pt_cut (PW.pt (pw_or (pt_cmpR op_isN (pv 7) pe_non (nomark _)) (pw_or (pt_cmpR op_isN (pv 8) pe_non (nomark _)) (pw_or1 (pt_not (pt_val (pe_call G_law_met hr rfl m_law_met k_law_met b_law_met .nil pass0 (pa_cons (pe_ix ix_tup (pv 1) pe_int (fun _ _ => rfl)) (pa_cons (pv 7) (pa_cons (pv 8) pa_nil)))))))))))
          (pss_one (ps_ret pe_bl))
          pss_nil))))))))
    (pss_one (ps_ret pe_bl)))))), ?_⟩
  refine ⟨_, rfl, a, ns, rfl, hS, h63, fun pc sz rs ds e H1 s1 hC ok => ?_⟩
  obtain ⟨od, lt, tn, pb, pn, pt, pd, hpc, hB, hR, ⟨dv, hpd, hD⟩, nv, hpn, lnv⟩ := id hC
  have cat : ∀ (z : Str) (H2 : Hp), Same H1 H2 → ∀ (W : V → Hp → Prop), (∀ (px : Addr) (H' : Hp), Same H2 H' → H' px = some (.tup [.str z, .int lt, .int tn, .ref pb, .ref pn, .ref pt, .ref pd]) → W (.ref px) H') → ∀ p3, H2 p3 = none → ∀ p4, upd H2 p3 (.tup [V.str z]) p4 = none → rCatT K (.ref p3) (.ref p4) (upd (upd H2 p3 (.tup [V.str z])) p4 (.tup (cutV [.str od, .int lt, .int tn, .ref pb, .ref pn, .ref pt, .ref pd] (some 1) none))) W := fun z H2 s2 W w p3 hp3 p4 hp4 => by
    have ec : cutV [.str od, .int lt, .int tn, .ref pb, .ref pn, .ref pt, .ref pd] (some 1) none = [V.int lt, .int tn, .ref pb, .ref pn, .ref pt, .ref pd] := cut_tail _ _
    rw [ec]
    have u3 := same_new hp3 (.tup [V.str z])
    have u4 := same_new hp4 (.tup [V.int lt, .int tn, .ref pb, .ref pn, .ref pt, .ref pd])
    refine ⟨p3, p4, _, _, rfl, rfl, SqT.of (u4 _ _ upd_same), SqT.of upd_same, (by intro y; cases y), small_le (by show 7 ≤ 1000; decide), (by intro y; cases y), fun _ p5 hp5 => ?_⟩
    exact w p5 _ ((u3.trans u4).trans (same_new hp5 _)) upd_same
  have nw : ¬ (HT.sIx ([.str od, .int lt, .int tn, .ref pb, .ref pn, .ref pt, .ref pd] : List V).length 0 (some 1) = 0 ∧ HT.sIx ([.str od, .int lt, .int tn, .ref pb, .ref pn, .ref pt, .ref pd] : List V).length ([.str od, .int lt, .int tn, .ref pb, .ref pn, .ref pt, .ref pd] : List V).length none = ([.str od, .int lt, .int tn, .ref pb, .ref pn, .ref pt, .ref pd] : List V).length) := fun y => by
    have y1 : HT.sIx 7 0 (some 1) = 0 := y.1
    revert y1
    decide
  refine ⟨small_le (by show 1 ≤ 1000; decide), fun p3 hp3 => ⟨_, rfl, _, rfl, pc, _, rfl, SqT.of ((same_new hp3 _) _ _ hpc), nw, fun p4 hp4 => cat "inner" H1 (Same.refl _) _ (fun pi H2 s2 hpi => ?_) p3 hp3 p4 hp4⟩⟩
  refine ⟨small_le (by show 1 ≤ 1000; decide), fun p3 hp3 => ⟨_, rfl, _, rfl, pc, _, rfl, SqT.of ((s2.trans (same_new hp3 _)) _ _ hpc), nw, fun p4 hp4 => cat "outer" H2 s2 _ (fun po H3 s3 hpo => ?_) p3 hp3 p4 hp4⟩⟩
  have s13 := s2.trans s3
  have hpi3 := s3 _ _ hpi
  refine ⟨fun _ _ => True, ?_, fun _ H' _ => q H'⟩
  refine ⟨_, rfl, by decide, by decide, ?_⟩
  refine for_range (fun i σ' H' => Same H3 H' ∧ ∃ o4 o5 o6 o7 o8 : Option V, σ' = [some (.ref a), some (.ref pc), some (.ref pi), some (.ref po), o4, o5, o6, o7, o8]) ⟨Same.refl _, _, _, _, _, _, rfl⟩ ?_ (fun _ _ _ => trivial)
  rintro i σ' H4 hi ⟨s4, o4, o5, o6, o7, o8, rfl⟩
  have hi3 : i < 3 := hi
  have s14 := s13.trans s4
  refine ⟨_, rfl, _, rfl, _, rfl, _, _, rfl, rfl, mulIn (by decide) (by decide), _, _, rfl, rfl, pc, a, ns, sz, rs, ds, e, _, rfl, hC.mono (KeepT.of s14), ok, (s1.trans s14).seq hS, h63, ⟨by omega, by omega⟩, fun pst px ph pk ks os bx H5 s5 hst hpx hos inc hph lbx _ _ _ => ?_⟩
  have s15 := s14.trans s5
  refine ⟨_, rfl, pc, _, _, _, rfl, rfl, SqT.of (s15 _ _ hpc), rfl, pn, _, rfl, .inr (SqT.of (s15 _ _ hpn)), _, rfl, by omega, by omega, ?_⟩
  refine for_range (fun j σ' H' => Same H5 H' ∧ ∃ o6 o7 o8 : Option V, σ' = [some (.ref a), some (.ref pc), some (.ref pi), some (.ref po), some (.int (0 + (i : Int))), some (.ref pst), o6, o7, o8]) ⟨Same.refl _, _, _, _, rfl⟩ ?_ (fun σ' H' ⟨h, o6, o7, o8, ee⟩ => ⟨(s4.trans s5).trans h, _, _, _, _, _, ee⟩)
  rintro j σ' H6 hj ⟨s6, o6', o7', o8', rfl⟩
  have s16 := s15.trans s6
  have s36 := (s4.trans s5).trans s6
  have hok : ∀ d ∈ ds.map toDg, d.g.ok bx.length ∧ d.g.ht ≤ 3 := fun d hd => by
    obtain ⟨d', hd', rfl⟩ := List.mem_map.mp hd
    have := (ok.dfit d' hd').2.2.2
    rw [lbx]
    exact this
  have l63 : (ds.map toDg).length ≤ 63 := by
    rw [List.length_map]
    have := ok.d12
    omega
  have l10 := ok.l12
  have hDg := dgs hD
  refine ⟨_, rfl, _, rfl, _, rfl, pi, pst, pt, pd, px, ph, "inner", os, bx, rs, ds.map toDg, dv, _, _, _, _, _, _, rfl, s36 _ _ hpi3, hR.mono (KeepT.of s16), ok.good, by omega, s16 _ _ hpd, hDg.mono (fun _ _ z => z.mono (KeepT.of s16)), s6 _ _ hst, s6 _ _ hpx, hos, inc, s6 _ _ hph, hok, l63, fun p7 H7 s7 _ h7 => ?_⟩
  have s17 := s16.trans s7
  have s37 := s36.trans s7
  have s57 := s6.trans s7
  refine ⟨_, rfl, _, rfl, _, rfl, po, pst, pt, pd, px, ph, "outer", os, bx, rs, ds.map toDg, dv, _, _, _, _, _, _, rfl, s37 _ _ hpo, hR.mono (KeepT.of s17), ok.good, by omega, s17 _ _ hpd, hDg.mono (fun _ _ z => z.mono (KeepT.of s17)), s57 _ _ hst, s57 _ _ hpx, hos, inc, s57 _ _ hph, hok, l63, fun p8 H8 s8 _ h8 => ?_⟩
  have s18 := s17.trans s8
  have e1 : innB "inner" = true := by decide +kernel
  have e2 : innB "outer" = false := by decide +kernel
  rw [e1] at h7
  rw [e2] at h8
  refine ⟨fun c H' => c = false ∧ H' = H8, ?_, ?_⟩
  · refine ⟨_, rfl, rfl, _, rfl, ifF rfl ⟨_, rfl, rfl, _, rfl, ifF rfl ?_⟩⟩
    exact ⟨_, rfl, pc, _, _, _, rfl, rfl, SqT.of (s18 _ _ hpc), rfl, _, rfl, _, rfl, pt, p7, p8, rs, _, _, rfl, hR.mono (KeepT.of s18), by omega, s8 _ _ h7, h8, (fun r hr' => hos r (List.mem_filter.mp (ch_sub hr').1).1), (fun r hr' => hos r (List.mem_filter.mp (ch_sub hr').1).1), (fun r hr' => ch_up hr'), (fun r hr' => ch_down hos hr'), _, rfl, rfl, rfl⟩
  rintro c H' ⟨rfl, rfl⟩
  exact ifF rfl ⟨(s6.trans s7).trans s8, _, _, _, rfl⟩
end
end Chr

namespace Chr
open PySem L2 Mix Gds Rms
/-! the top -/
theorem all_mk {l : PySem.W.OpenLaw} {w : World} {K : PySem.W.Frag} {h : Heap} {mg : Str → Option Value} {fa f1 f2 f3 f4 f5 f6 f7 f8 f9 f10 f11 f12 f13 f14 f15 f16 f17 f18 f19 f20 f21 f22 f23 : Addr} (X : K.In h) (G : h.Ns mainGlobals mg) (hfa : mg "law" = some (.ref fa))
    {od1 an1 od2 an2 od3 an3 od4 an4 od5 an5 od6 an6 od7 an7 od8 an8 od9 an9 od10 an10 od11 an11 od12 an12 od13 an13 od14 an14 od15 an15 od16 an16 od17 an17 od18 an18 od19 an19 od20 an20 od21 an21 od22 an22 od23 an23 : Option Addr} {sl1 sl2 sl3 sl4 sl5 sl6 sl7 sl8 sl9 sl10 sl11 sl12 sl13 sl14 sl15 sl16 sl17 sl18 sl19 sl20 sl21 sl22 sl23 : Array (Option Value)} {oc1 kV1 dc1 pm1 cd1 ct1 oc2 kV2 dc2 pm2 cd2 ct2 oc3 kV3 dc3 pm3 cd3 ct3 oc4 kV4 dc4 pm4 cd4 ct4 oc5 kV5 dc5 pm5 cd5 ct5 oc6 kV6 dc6 pm6 cd6 ct6 oc7 kV7 dc7 pm7 cd7 ct7 oc8 kV8 dc8 pm8 cd8 ct8 oc9 kV9 dc9 pm9 cd9 ct9 oc10 kV10 dc10 pm10 cd10 ct10 oc11 kV11 dc11 pm11 cd11 ct11 oc12 kV12 dc12 pm12 cd12 ct12 oc13 kV13 dc13 pm13 cd13 ct13 oc14 kV14 dc14 pm14 cd14 ct14 oc15 kV15 dc15 pm15 cd15 ct15 oc16 kV16 dc16 pm16 cd16 ct16 oc17 kV17 dc17 pm17 cd17 ct17 oc18 kV18 dc18 pm18 cd18 ct18 oc19 kV19 dc19 pm19 cd19 ct19 oc20 kV20 dc20 pm20 cd20 ct20 oc21 kV21 dc21 pm21 cd21 ct21 oc22 kV22 dc22 pm22 cd22 ct22 oc23 kV23 dc23 pm23 cd23 ct23 : Value}
    (a1 : PySem.W.nsIn K mainGlobals "_law_cell_at" = some (some (.ref f1))) (l1 : K.lookup f1 = some ⟨oc1, od1, .func (PySem.W.fnOf "_law_cell_at" "_law_cell_at" (defArgs sCell) (defBody sCell) (defScope sCell) .none kV1 dc1 pm1 an1 cd1 ct1), sl1⟩) (c1 : PySem.W.codeIn K cd1 "_law_cell_at" = true) (k1 : PySem.W.keepIn K (.ref f1) = true)
    (a2 : PySem.W.nsIn K mainGlobals "_law_mixed" = some (some (.ref f2))) (l2 : K.lookup f2 = some ⟨oc2, od2, .func (PySem.W.fnOf "_law_mixed" "_law_mixed" (defArgs sMixed) (defBody sMixed) (defScope sMixed) .none kV2 dc2 pm2 an2 cd2 ct2), sl2⟩) (c2 : PySem.W.codeIn K cd2 "_law_mixed" = true) (k2 : PySem.W.keepIn K (.ref f2) = true)
    (a3 : PySem.W.nsIn K mainGlobals "_law_name" = some (some (.ref f3))) (l3 : K.lookup f3 = some ⟨oc3, od3, .func (PySem.W.fnOf "_law_name" "_law_name" (defArgs s_L_name) (defBody s_L_name) (defScope s_L_name) .none kV3 dc3 pm3 an3 cd3 ct3), sl3⟩) (c3 : PySem.W.codeIn K cd3 "_law_name" = true) (k3 : PySem.W.keepIn K (.ref f3) = true)
    (a4 : PySem.W.nsIn K mainGlobals "_law_deed" = some (some (.ref f4))) (l4 : K.lookup f4 = some ⟨oc4, od4, .func (PySem.W.fnOf "_law_deed" "_law_deed" (defArgs s_L_deed) (defBody s_L_deed) (defScope s_L_deed) .none kV4 dc4 pm4 an4 cd4 ct4), sl4⟩) (c4 : PySem.W.codeIn K cd4 "_law_deed" = true) (k4 : PySem.W.keepIn K (.ref f4) = true)
    (a5 : PySem.W.nsIn K mainGlobals "_law_deeds" = some (some (.ref f5))) (l5 : K.lookup f5 = some ⟨oc5, od5, .func (PySem.W.fnOf "_law_deeds" "_law_deeds" (defArgs s_L_deeds) (defBody s_L_deeds) (defScope s_L_deeds) .none kV5 dc5 pm5 an5 cd5 ct5), sl5⟩) (c5 : PySem.W.codeIn K cd5 "_law_deeds" = true) (k5 : PySem.W.keepIn K (.ref f5) = true)
    (a6 : PySem.W.nsIn K mainGlobals "_law_guard" = some (some (.ref f6))) (l6 : K.lookup f6 = some ⟨oc6, od6, .func (PySem.W.fnOf "_law_guard" "_law_guard" (defArgs s_L_guard) (defBody s_L_guard) (defScope s_L_guard) .none kV6 dc6 pm6 an6 cd6 ct6), sl6⟩) (c6 : PySem.W.codeIn K cd6 "_law_guard" = true) (k6 : PySem.W.keepIn K (.ref f6) = true)
    (a7 : PySem.W.nsIn K mainGlobals "_law_depths" = some (some (.ref f7))) (l7 : K.lookup f7 = some ⟨oc7, od7, .func (PySem.W.fnOf "_law_depths" "_law_depths" (defArgs s_L_depths) (defBody s_L_depths) (defScope s_L_depths) .none kV7 dc7 pm7 an7 cd7 ct7), sl7⟩) (c7 : PySem.W.codeIn K cd7 "_law_depths" = true) (k7 : PySem.W.keepIn K (.ref f7) = true)
    (a8 : PySem.W.nsIn K mainGlobals "_law_rooms" = some (some (.ref f8))) (l8 : K.lookup f8 = some ⟨oc8, od8, .func (PySem.W.fnOf "_law_rooms" "_law_rooms" (defArgs sRooms) (defBody sRooms) (defScope sRooms) .none kV8 dc8 pm8 an8 cd8 ct8), sl8⟩) (c8 : PySem.W.codeIn K cd8 "_law_rooms" = true) (k8 : PySem.W.keepIn K (.ref f8) = true)
    (a9 : PySem.W.nsIn K mainGlobals "_law_doors" = some (some (.ref f9))) (l9 : K.lookup f9 = some ⟨oc9, od9, .func (PySem.W.fnOf "_law_doors" "_law_doors" (defArgs s_L_doors) (defBody s_L_doors) (defScope s_L_doors) .none kV9 dc9 pm9 an9 cd9 ct9), sl9⟩) (c9 : PySem.W.codeIn K cd9 "_law_doors" = true) (k9 : PySem.W.keepIn K (.ref f9) = true)
    (a10 : PySem.W.nsIn K mainGlobals "_law_chart" = some (some (.ref f10))) (l10 : K.lookup f10 = some ⟨oc10, od10, .func (PySem.W.fnOf "_law_chart" "_law_chart" (defArgs s_L_chart) (defBody s_L_chart) (defScope s_L_chart) .none kV10 dc10 pm10 an10 cd10 ct10), sl10⟩) (c10 : PySem.W.codeIn K cd10 "_law_chart" = true) (k10 : PySem.W.keepIn K (.ref f10) = true)
    (a11 : PySem.W.nsIn K mainGlobals "_law_opened" = some (some (.ref f11))) (l11 : K.lookup f11 = some ⟨oc11, od11, .func (PySem.W.fnOf "_law_opened" "_law_opened" (defArgs s_L_opened) (defBody s_L_opened) (defScope s_L_opened) .none kV11 dc11 pm11 an11 cd11 ct11), sl11⟩) (c11 : PySem.W.codeIn K cd11 "_law_opened" = true) (k11 : PySem.W.keepIn K (.ref f11) = true)
    (a12 : PySem.W.nsIn K mainGlobals "_law_stand" = some (some (.ref f12))) (l12 : K.lookup f12 = some ⟨oc12, od12, .func (PySem.W.fnOf "_law_stand" "_law_stand" (defArgs s_L_stand) (defBody s_L_stand) (defScope s_L_stand) .none kV12 dc12 pm12 an12 cd12 ct12), sl12⟩) (c12 : PySem.W.codeIn K cd12 "_law_stand" = true) (k12 : PySem.W.keepIn K (.ref f12) = true)
    (a13 : PySem.W.nsIn K mainGlobals "_law_whole" = some (some (.ref f13))) (l13 : K.lookup f13 = some ⟨oc13, od13, .func (PySem.W.fnOf "_law_whole" "_law_whole" (defArgs sWhole) (defBody sWhole) (defScope sWhole) .none kV13 dc13 pm13 an13 cd13 ct13), sl13⟩) (c13 : PySem.W.codeIn K cd13 "_law_whole" = true) (k13 : PySem.W.keepIn K (.ref f13) = true)
    (a14 : PySem.W.nsIn K mainGlobals "holds" = some (some (.ref f14))) (l14 : K.lookup f14 = some ⟨oc14, od14, .func (PySem.W.fnOf "holds" "holds" (defArgs sHolds) (defBody sHolds) (defScope sHolds) .none kV14 dc14 pm14 an14 cd14 ct14), sl14⟩) (c14 : PySem.W.codeIn K cd14 "holds" = true) (k14 : PySem.W.keepIn K (.ref f14) = true)
    (a15 : PySem.W.nsIn K mainGlobals "end_of" = some (some (.ref f15))) (l15 : K.lookup f15 = some ⟨oc15, od15, .func (PySem.W.fnOf "end_of" "end_of" (defArgs sEndOf) (defBody sEndOf) (defScope sEndOf) .none kV15 dc15 pm15 an15 cd15 ct15), sl15⟩) (c15 : PySem.W.codeIn K cd15 "end_of" = true) (k15 : PySem.W.keepIn K (.ref f15) = true)
    (a16 : PySem.W.nsIn K mainGlobals "lies_in" = some (some (.ref f16))) (l16 : K.lookup f16 = some ⟨oc16, od16, .func (PySem.W.fnOf "lies_in" "lies_in" (defArgs sLiesIn) (defBody sLiesIn) (defScope sLiesIn) .none kV16 dc16 pm16 an16 cd16 ct16), sl16⟩) (c16 : PySem.W.codeIn K cd16 "lies_in" = true) (k16 : PySem.W.keepIn K (.ref f16) = true)
    (a17 : PySem.W.nsIn K mainGlobals "answers" = some (some (.ref f17))) (l17 : K.lookup f17 = some ⟨oc17, od17, .func (PySem.W.fnOf "answers" "answers" (defArgs sAnswers) (defBody sAnswers) (defScope sAnswers) .none kV17 dc17 pm17 an17 cd17 ct17), sl17⟩) (c17 : PySem.W.codeIn K cd17 "answers" = true) (k17 : PySem.W.keepIn K (.ref f17) = true)
    (a18 : PySem.W.nsIn K mainGlobals "is_outdone" = some (some (.ref f18))) (l18 : K.lookup f18 = some ⟨oc18, od18, .func (PySem.W.fnOf "is_outdone" "is_outdone" (defArgs sOutdone) (defBody sOutdone) (defScope sOutdone) .none kV18 dc18 pm18 an18 cd18 ct18), sl18⟩) (c18 : PySem.W.codeIn K cd18 "is_outdone" = true) (k18 : PySem.W.keepIn K (.ref f18) = true)
    (a19 : PySem.W.nsIn K mainGlobals "chosen" = some (some (.ref f19))) (l19 : K.lookup f19 = some ⟨oc19, od19, .func (PySem.W.fnOf "chosen" "chosen" (defArgs sChosen) (defBody sChosen) (defScope sChosen) .none kV19 dc19 pm19 an19 cd19 ct19), sl19⟩) (c19 : PySem.W.codeIn K cd19 "chosen" = true) (k19 : PySem.W.keepIn K (.ref f19) = true)
    (a20 : PySem.W.nsIn K mainGlobals "_law_lies" = some (some (.ref f20))) (l20 : K.lookup f20 = some ⟨oc20, od20, .func (PySem.W.fnOf "_law_lies" "_law_lies" (defArgs sLies) (defBody sLies) (defScope sLies) .none kV20 dc20 pm20 an20 cd20 ct20), sl20⟩) (c20 : PySem.W.codeIn K cd20 "_law_lies" = true) (k20 : PySem.W.keepIn K (.ref f20) = true)
    (a21 : PySem.W.nsIn K mainGlobals "_law_rooms_of" = some (some (.ref f21))) (l21 : K.lookup f21 = some ⟨oc21, od21, .func (PySem.W.fnOf "_law_rooms_of" "_law_rooms_of" (defArgs s_L_rooms_of) (defBody s_L_rooms_of) (defScope s_L_rooms_of) .none kV21 dc21 pm21 an21 cd21 ct21), sl21⟩) (c21 : PySem.W.codeIn K cd21 "_law_rooms_of" = true) (k21 : PySem.W.keepIn K (.ref f21) = true)
    (a22 : PySem.W.nsIn K mainGlobals "_law_met" = some (some (.ref f22))) (l22 : K.lookup f22 = some ⟨oc22, od22, .func (PySem.W.fnOf "_law_met" "_law_met" (defArgs s_L_met) (defBody s_L_met) (defScope s_L_met) .none kV22 dc22 pm22 an22 cd22 ct22), sl22⟩) (c22 : PySem.W.codeIn K cd22 "_law_met" = true) (k22 : PySem.W.keepIn K (.ref f22) = true)
    (a23 : PySem.W.nsIn K mainGlobals "law" = some (some (.ref f23))) (l23 : K.lookup f23 = some ⟨oc23, od23, .func (PySem.W.fnOf "law" "law" (defArgs sLawF) (defBody sLawF) (defScope sLawF) .none kV23 dc23 pm23 an23 cd23 ct23), sl23⟩) (c23 : PySem.W.codeIn K cd23 "law" = true) (k23 : PySem.W.keepIn K (.ref f23) = true)
    (z1 : PySem.W.nsIn K mainGlobals "len" = some none) (z2 : PySem.W.nsIn K mainGlobals "max" = some none) (z3 : PySem.W.nsIn K mainGlobals "min" = some none) (z4 : PySem.W.nsIn K mainGlobals "range" = some none) (z5 : PySem.W.nsIn K mainGlobals "list" = some none) (z6 : PySem.W.nsIn K mainGlobals "tuple" = some none) (z7 : PySem.W.nsIn K mainGlobals "isinstance" = some none) (z8 : PySem.W.nsIn K mainGlobals "int" = some none) (z9 : PySem.W.nsIn K mainGlobals "bool" = some none) (z10 : PySem.W.nsIn K mainGlobals "sorted" = some none) (z11 : PySem.W.nsIn K mainGlobals "any" = some none) (z12 : PySem.W.nsIn K mainGlobals "enumerate" = some none) :
    ∃ fd : FuncData, (∀ (s : Shared) (v : Value), BindsTo s fd ⟨[v], []⟩ [("_law_script", v)]) ∧ ∀ base : Heap, K.In base → base.Ns mainGlobals mg → FnOk l.prog w K mg base CX0 9 fa fd ["_law_script"] (spLaw K) := by
  have e := hfa.symm.trans (PySem.W.mg_of X G a23)
  cases e
  have F1 := fun_mk (st := sCell) l1 c1 k1
  have F2 := fun_mk (st := sMixed) l2 c2 k2
  have F3 := fun_mk (st := s_L_name) l3 c3 k3
  have F4 := fun_mk (st := s_L_deed) l4 c4 k4
  have F5 := fun_mk (st := s_L_deeds) l5 c5 k5
  have F6 := fun_mk (st := s_L_guard) l6 c6 k6
  have F7 := fun_mk (st := s_L_depths) l7 c7 k7
  have F8 := fun_mk (st := sRooms) l8 c8 k8
  have F9 := fun_mk (st := s_L_doors) l9 c9 k9
  have F10 := fun_mk (st := s_L_chart) l10 c10 k10
  have F11 := fun_mk (st := s_L_opened) l11 c11 k11
  have F12 := fun_mk (st := s_L_stand) l12 c12 k12
  have F13 := fun_mk (st := sWhole) l13 c13 k13
  have F14 := fun_mk (st := sHolds) l14 c14 k14
  have F15 := fun_mk (st := sEndOf) l15 c15 k15
  have F16 := fun_mk (st := sLiesIn) l16 c16 k16
  have F17 := fun_mk (st := sAnswers) l17 c17 k17
  have F18 := fun_mk (st := sOutdone) l18 c18 k18
  have F19 := fun_mk (st := sChosen) l19 c19 k19
  have F20 := fun_mk (st := sLies) l20 c20 k20
  have F21 := fun_mk (st := s_L_rooms_of) l21 c21 k21
  have F22 := fun_mk (st := s_L_met) l22 c22 k22
  have F23 := fun_mk (st := sLawF) l23 c23 k23
  have b1 := F1.binds (ps := ["_law_script", "_law_k"]) fun _ _ _ _ _ _ us hl => match us, hl with | [_, _], _ => rfl
  have m1 := PySem.W.mg_of X G a1
  have b2 := F2.binds (ps := ["_law_script", "_law_k", "_law_salt"]) fun _ _ _ _ _ _ us hl => match us, hl with | [_, _, _], _ => rfl
  have m2 := PySem.W.mg_of X G a2
  have b3 := F3.binds (ps := ["_law_k", "_law_number"]) fun _ _ _ _ _ _ us hl => match us, hl with | [_, _], _ => rfl
  have m3 := PySem.W.mg_of X G a3
  have b4 := F4.binds (ps := ["_law_number", "_law_sizes", "_law_events"]) fun _ _ _ _ _ _ us hl => match us, hl with | [_, _, _], _ => rfl
  have m4 := PySem.W.mg_of X G a4
  have b5 := F5.binds (ps := ["_law_script", "_law_k", "_law_salt", "_law_sizes", "_law_events"]) fun _ _ _ _ _ _ us hl => match us, hl with | [_, _, _, _, _], _ => rfl
  have m5 := PySem.W.mg_of X G a5
  have b6 := F6.binds (ps := ["_law_number", "_law_rooms_here", "_law_boxes", "_law_high"]) fun _ _ _ _ _ _ us hl => match us, hl with | [_, _, _, _], _ => rfl
  have m6 := PySem.W.mg_of X G a6
  have b7 := F7.binds (ps := ["_law_script", "_law_many"]) fun _ _ _ _ _ _ us hl => match us, hl with | [_, _], _ => rfl
  have m7 := PySem.W.mg_of X G a7
  have b8 := F8.binds (ps := ["_law_script", "_law_depths_here", "_law_sizes", "_law_events"]) fun _ _ _ _ _ _ us hl => match us, hl with | [_, _, _, _], _ => rfl
  have m8 := PySem.W.mg_of X G a8
  have b9 := F9.binds (ps := ["_law_script", "_law_many", "_law_rooms_here", "_law_sizes", "_law_events"]) fun _ _ _ _ _ _ us hl => match us, hl with | [_, _, _, _, _], _ => rfl
  have m9 := PySem.W.mg_of X G a9
  have b10 := F10.binds (ps := ["_law_script"]) fun _ _ _ _ _ _ us hl => match us, hl with | [_], _ => rfl
  have m10 := PySem.W.mg_of X G a10
  have b11 := F11.binds (ps := ["_law_rooms_here", "_law_room", "_law_script", "_law_at"]) fun _ _ _ _ _ _ us hl => match us, hl with | [_, _, _, _], _ => rfl
  have m11 := PySem.W.mg_of X G a11
  have b12 := F12.binds (ps := ["_law_chart_here", "_law_script", "_law_at"]) fun _ _ _ _ _ _ us hl => match us, hl with | [_, _, _], _ => rfl
  have m12 := PySem.W.mg_of X G a12
  have b13 := F13.binds (ps := ["_law_found"]) fun _ _ _ _ _ _ us hl => match us, hl with | [_], _ => rfl
  have m13 := PySem.W.mg_of X G a13
  have b14 := F14.binds (ps := ["guard", "opening", "boxes"]) fun _ _ _ _ _ _ us hl => match us, hl with | [_, _, _], _ => rfl
  have m14 := PySem.W.mg_of X G a14
  have b15 := F15.binds (ps := ["rooms", "room"]) fun _ _ _ _ _ _ us hl => match us, hl with | [_, _], _ => rfl
  have m15 := PySem.W.mg_of X G a15
  have b16 := F16.binds (ps := ["rooms", "one", "other"]) fun _ _ _ _ _ _ us hl => match us, hl with | [_, _, _], _ => rfl
  have m16 := PySem.W.mg_of X G a16
  have b17 := F17.binds (ps := ["chart", "stand", "event"]) fun _ _ _ _ _ _ us hl => match us, hl with | [_, _, _], _ => rfl
  have m17 := PySem.W.mg_of X G a17
  have b18 := F18.binds (ps := ["chart", "room", "others"]) fun _ _ _ _ _ _ us hl => match us, hl with | [_, _, _], _ => rfl
  have m18 := PySem.W.mg_of X G a18
  have b19 := F19.binds (ps := ["chart", "stand", "event"]) fun _ _ _ _ _ _ us hl => match us, hl with | [_, _, _], _ => rfl
  have m19 := PySem.W.mg_of X G a19
  have b20 := F20.binds (ps := ["_law_rooms_here", "_law_one", "_law_other"]) fun _ _ _ _ _ _ us hl => match us, hl with | [_, _, _], _ => rfl
  have m20 := PySem.W.mg_of X G a20
  have b21 := F21.binds (ps := ["_law_chart_here", "_law_stand_here", "_law_event"]) fun _ _ _ _ _ _ us hl => match us, hl with | [_, _, _], _ => rfl
  have m21 := PySem.W.mg_of X G a21
  have b22 := F22.binds (ps := ["_law_rooms_here", "_law_inner", "_law_outer"]) fun _ _ _ _ _ _ us hl => match us, hl with | [_, _, _], _ => rfl
  have m22 := PySem.W.mg_of X G a22
  have n_len := PySem.W.mg_none_of X G z1
  have n_max := PySem.W.mg_none_of X G z2
  have n_min := PySem.W.mg_none_of X G z3
  have n_range := PySem.W.mg_none_of X G z4
  have n_list := PySem.W.mg_none_of X G z5
  have n_tuple := PySem.W.mg_none_of X G z6
  have n_isinstance := PySem.W.mg_none_of X G z7
  have n_int := PySem.W.mg_none_of X G z8
  have n_bool := PySem.W.mg_none_of X G z9
  have n_sorted := PySem.W.mg_none_of X G z10
  have n_any := PySem.W.mg_none_of X G z11
  have n_enumerate := PySem.W.mg_none_of X G z12
  refine ⟨PySem.W.fnOf "law" "law" (defArgs sLawF) (defBody sLawF) (defScope sLawF) .none kV23 dc23 pm23 an23 cd23 ct23, fun s v => .of_eq rfl, fun base _ _ => ?_⟩
  have G1 := ok_cell (P := l.prog) (w := w) (base := base) (mg := mg) F1 n_len
  have G2 := ok_mixed (P := l.prog) (w := w) (base := base) (mg := mg) F2 G1 b1 k1 m1 n_len n_max
  have G3 := ok_name (P := l.prog) (w := w) (base := base) (mg := mg) F3 n_len
  have G4 := ok_deed (P := l.prog) (w := w) (base := base) (mg := mg) F4 G3 b3 k3 m3 n_len
  have G5 := ok_deeds (P := l.prog) (w := w) (base := base) (mg := mg) F5 G2 b2 k2 m2 G4 b4 k4 m4 n_range n_tuple
  have G6 := ok_guard3 (P := l.prog) (w := w) (base := base) (mg := mg) F6 b6 m6
  have G7 := ok_depths (P := l.prog) (w := w) (base := base) (mg := mg) F7 G2 b2 k2 m2 n_range n_min
  have G8 := ok_rooms (P := l.prog) (w := w) (base := base) (mg := mg) F8 (G2.mono (show 2 ≤ 3 by decide)) b2 k2 m2 (G3.mono (show 1 ≤ 3 by decide)) b3 k3 m3 G5 b5 k5 m5 (G1.mono (show 1 ≤ 3 by decide)) b1 k1 m1 n_range n_len n_tuple
  have G9 := ok_doors (P := l.prog) (w := w) (base := base) (mg := mg) F9 (G2.mono (show 2 ≤ 3 by decide)) b2 k2 m2 G6 b6 k6 m6 G5 b5 k5 m5 n_range n_len n_tuple n_int
  have G10 := ok_chart (P := l.prog) (w := w) (base := base) (mg := mg) F10 (G2.mono (show 2 ≤ 4 by decide)) b2 k2 m2 (G1.mono (show 1 ≤ 4 by decide)) b1 k1 m1 (G3.mono (show 1 ≤ 4 by decide)) b3 k3 m3 (G7.mono (show 3 ≤ 4 by decide)) b7 k7 m7 G8 b8 k8 m8 G9 b9 k9 m9 n_range n_tuple
  have G11 := ok_opened5 (P := l.prog) (w := w) (base := base) (mg := mg) F11 G2 b2 k2 m2 b11 m11 n_len
  have G12 := ok_stand (P := l.prog) (w := w) (base := base) (mg := mg) F12 (G2.mono (show 2 ≤ 7 by decide)) b2 k2 m2 G11 b11 k11 m11 n_range n_len n_tuple
  have G13 := ok_whole (P := l.prog) (w := w) (base := base) (mg := mg) F13 n_isinstance n_int n_bool
  have G14 := ok_holds3 (P := l.prog) (w := w) (base := base) (mg := mg) F14 b14 m14
  have G15 := Prg.ok_end (P := l.prog) (w := w) (base := base) (mg := mg) F15 n_range n_len
  have G16 := Prg.ok_lies (P := l.prog) (w := w) (base := base) (mg := mg) F16 G15 b15 k15 m15
  have G17 := Ans.ok_answers (P := l.prog) (w := w) (base := base) (mg := mg) F17 G14 b14 k14 m14 n_enumerate
  have G18 := Ans.ok_outdone (P := l.prog) (w := w) (base := base) (mg := mg) F18 G16 b16 k16 m16 n_any
  have G19 := Ans.ok_chosen (P := l.prog) (w := w) (base := base) (mg := mg) F19 G17 b17 k17 m17 (G18.mono (show 3 ≤ 4 by decide)) b18 k18 m18 n_sorted
  have G20 := Ans.ok_llies (P := l.prog) (w := w) (base := base) (mg := mg) F20 n_range
  have G21 := Ans.ok_rooms_of (P := l.prog) (w := w) (base := base) (mg := mg) F21 G19 b19 k19 m19 (G13.mono (show 1 ≤ 5 by decide)) b13 k13 m13 (G20.mono (show 1 ≤ 5 by decide)) b20 k20 m20 n_isinstance n_list n_len n_range
  have G22 := Ans.ok_met (P := l.prog) (w := w) (base := base) (mg := mg) F22 G20 b20 k20 m20
  exact ok_law (n := 8) F23 (G10.mono (show 5 ≤ 8 by decide)) b10 k10 m10 G12 b12 k12 m12 (G21.mono (show 6 ≤ 8 by decide)) b21 k21 m21 (G22.mono (show 2 ≤ 8 by decide)) b22 k22 m22 n_range n_len
theorem walk {l : PySem.W.OpenLaw} {q : Program} {loose : List Str} {XP : (Str → Option Value) → Heap → Prop} {YP : World → Heap → Prop} {d : DefRec} {K : Params → PySem.W.Frag} (hn : l.most = some 63) (hdf : d.params.defaults = []) (hY : ∀ (w : World) (h : Heap), YP w h → (K w.params).In h)
    (F : ∀ (w : World) (mg : Str → Option Value) (fa : Addr) (h : Heap), (K w.params).In h → h.Ns mainGlobals mg → mg d.name = some (.ref fa) → ∃ fd : FuncData, (∀ (s : Shared) (u : Value), BindsTo s fd ⟨[u], []⟩ [("_law_script", u)]) ∧ ∀ base : Heap, (K w.params).In base → base.Ns mainGlobals mg → FnOk l.prog w (K w.params) mg base CX0 9 fa fd ["_law_script"] (spLaw (K w.params))) :
    PySem.W.WalkO q loose XP YP l.row.toRowW d [] (fun f vs => PySem.call f vs) :=
  L2.walk_of (n := 63) (k := 9) (x := "_law_script") (CX := fun _ => CX0) (sp := fun w => spLaw (K w.params)) hn (by decide) hdf ⟨rfl, by decide, by decide⟩ hY F (fun _ _ a ns hl _ hS => ⟨a, ns, rfl, hS, hl, fun _ => rfl⟩) fun _ _ _ _ _ z => z
end Chr
open PySem PySem.W PyProof.Rows
set_option maxRecDepth 100000 in
set_option maxHeartbeats 0 in
theorem PySem.Challenge.cw_nesthall_k22_inner_and_outer_holds : PySem.Challenge.rw_nesthall_k22_inner_and_outer.Holds := by
  w_on; o_law; k_head; (case hw => w_witness2)
  k_fill
  refine Chr.walk (l := PySem.Challenge.rw_nesthall_k22_inner_and_outer) rfl rfl (fun w h Y => PySem.W.kIn_of Y) ?F
  case F =>
    intro w mg fa h KX G hmg
    refine' Chr.all_mk KX G hmg ?a1 ?l1 ?c1 ?k1 ?a2 ?l2 ?c2 ?k2 ?a3 ?l3 ?c3 ?k3 ?a4 ?l4 ?c4 ?k4 ?a5 ?l5 ?c5 ?k5 ?a6 ?l6 ?c6 ?k6 ?a7 ?l7 ?c7 ?k7 ?a8 ?l8 ?c8 ?k8 ?a9 ?l9 ?c9 ?k9 ?a10 ?l10 ?c10 ?k10 ?a11 ?l11 ?c11 ?k11 ?a12 ?l12 ?c12 ?k12 ?a13 ?l13 ?c13 ?k13 ?a14 ?l14 ?c14 ?k14 ?a15 ?l15 ?c15 ?k15 ?a16 ?l16 ?c16 ?k16 ?a17 ?l17 ?c17 ?k17 ?a18 ?l18 ?c18 ?k18 ?a19 ?l19 ?c19 ?k19 ?a20 ?l20 ?c20 ?k20 ?a21 ?l21 ?c21 ?k21 ?a22 ?l22 ?c22 ?k22 ?a23 ?l23 ?c23 ?k23 ?z1 ?z2 ?z3 ?z4 ?z5 ?z6 ?z7 ?z8 ?z9 ?z10 ?z11 ?z12
    (case a1 => k_is)
    (case l1 => k_is)
    (case c1 => k_is)
    (case k1 => k_is)
    (case a2 => k_is)
    (case l2 => k_is)
    (case c2 => k_is)
    (case k2 => k_is)
    (case a3 => k_is)
    (case l3 => k_is)
    (case c3 => k_is)
    (case k3 => k_is)
    (case a4 => k_is)
    (case l4 => k_is)
    (case c4 => k_is)
    (case k4 => k_is)
    (case a5 => k_is)
    (case l5 => k_is)
    (case c5 => k_is)
    (case k5 => k_is)
    (case a6 => k_is)
    (case l6 => k_is)
    (case c6 => k_is)
    (case k6 => k_is)
    (case a7 => k_is)
    (case l7 => k_is)
    (case c7 => k_is)
    (case k7 => k_is)
    (case a8 => k_is)
    (case l8 => k_is)
    (case c8 => k_is)
    (case k8 => k_is)
    (case a9 => k_is)
    (case l9 => k_is)
    (case c9 => k_is)
    (case k9 => k_is)
    (case a10 => k_is)
    (case l10 => k_is)
    (case c10 => k_is)
    (case k10 => k_is)
    (case a11 => k_is)
    (case l11 => k_is)
    (case c11 => k_is)
    (case k11 => k_is)
    (case a12 => k_is)
    (case l12 => k_is)
    (case c12 => k_is)
    (case k12 => k_is)
    (case a13 => k_is)
    (case l13 => k_is)
    (case c13 => k_is)
    (case k13 => k_is)
    (case a14 => k_is)
    (case l14 => k_is)
    (case c14 => k_is)
    (case k14 => k_is)
    (case a15 => k_is)
    (case l15 => k_is)
    (case c15 => k_is)
    (case k15 => k_is)
    (case a16 => k_is)
    (case l16 => k_is)
    (case c16 => k_is)
    (case k16 => k_is)
    (case a17 => k_is)
    (case l17 => k_is)
    (case c17 => k_is)
    (case k17 => k_is)
    (case a18 => k_is)
    (case l18 => k_is)
    (case c18 => k_is)
    (case k18 => k_is)
    (case a19 => k_is)
    (case l19 => k_is)
    (case c19 => k_is)
    (case k19 => k_is)
    (case a20 => k_is)
    (case l20 => k_is)
    (case c20 => k_is)
    (case k20 => k_is)
    (case a21 => k_is)
    (case l21 => k_is)
    (case c21 => k_is)
    (case k21 => k_is)
    (case a22 => k_is)
    (case l22 => k_is)
    (case c22 => k_is)
    (case k22 => k_is)
    (case a23 => k_is)
    (case l23 => k_is)
    (case c23 => k_is)
    (case k23 => k_is)
    (case z1 => k_is)
    (case z2 => k_is)
    (case z3 => k_is)
    (case z4 => k_is)
    (case z5 => k_is)
    (case z6 => k_is)
    (case z7 => k_is)
    (case z8 => k_is)
    (case z9 => k_is)
    (case z10 => k_is)
    (case z11 => k_is)
    (case z12 => k_is)
