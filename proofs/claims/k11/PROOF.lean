import PyProof.Rows.All
import Wide.All
import OpenK.AllK
import Wide.FinOn
import Lean
import PyProof.EqAt
import PyProof.EqKinds
import PyProof.TupleCall
import PySem.Challenge.RW_nesthall_k11_faults_of_doors
set_option Elab.async false
set_option linter.all false
set_option maxRecDepth 100000
/-! THE HAND LAYER, for ints, bools, texts, own classes, LISTS and tuples (index, slices, in, append, pop ..), calls, loops. Paste it whole ahead of your own text; what your proof does not reach may be deleted. -/
namespace L2
open PySem PySem.Spec PyProof.Rows

/-- a key: an int or a str -/
abbrev Key := Sum Int Str
def keyIs : Key → Value → Bool
  | .inl k, v => Value.isInt k v
  | .inr x, v => Value.isStrOf x v
def keyH (w : World) : Key → Int
  | .inl k => hashInt k
  | .inr x => hashStr w x
theorem keyIs_shape : ∀ {k : Key} {v : Value}, keyIs k v = true → (∃ i t, k = Sum.inl i ∧ v = Value.int i t) ∨ (∃ x t, k = Sum.inr x ∧ v = Value.str x t)
  | .inl i, v, h => by
    obtain ⟨t, e⟩ := Value.isInt_shape (k := i) (v := v) h
    exact .inl ⟨i, t, rfl, e⟩
  | .inr x, v, h => by
    obtain ⟨t, e⟩ := Value.isStrOf_shape (x := x) (v := v) h
    exact .inr ⟨x, t, rfl, e⟩
theorem key_ll (a b : Int) : decide ((Sum.inl a : Key) = Sum.inl b) = (a == b) := by
  by_cases e : a = b
  · subst e; simp
  · have h : ¬ (Sum.inl a : Key) = Sum.inl b := fun q => e (Sum.inl.inj q)
    rw [decide_eq_false h]
    exact (beq_eq_false_iff_ne.mpr e).symm
theorem key_rr (a b : Str) : decide ((Sum.inr a : Key) = Sum.inr b) = decide (a = b) := by
  by_cases e : a = b
  · subst e; simp
  · have h : ¬ (Sum.inr a : Key) = Sum.inr b := fun q => e (Sum.inr.inj q)
    rw [decide_eq_false h, decide_eq_false e]
theorem key_lr (a : Int) (b : Str) : decide ((Sum.inl a : Key) = Sum.inr b) = false := decide_eq_false (fun q => nomatch q)
theorem key_rl (a : Str) (b : Int) : decide ((Sum.inr a : Key) = Sum.inl b) = false := decide_eq_false (fun q => nomatch q)

def mixKind (prog : Program) (w : World) : PySem.KeyKind prog w Key where
  is := keyIs
  hash := keyH w
  inj := fun v a b ha hb => by
    rcases keyIs_shape ha with ⟨i, t, rfl, rfl⟩ | ⟨x, t, rfl, rfl⟩
    · rcases keyIs_shape hb with ⟨j, u, rfl, e⟩ | ⟨y, u, rfl, e⟩
      · injection e with e1 _; rw [e1]
      · exact nomatch e
    · rcases keyIs_shape hb with ⟨j, u, rfl, e⟩ | ⟨y, u, rfl, e⟩
      · exact nomatch e
      · injection e with e1 _; rw [e1]
  byValue := fun k v h => by
    rcases keyIs_shape h with ⟨i, t, rfl, rfl⟩ | ⟨x, t, rfl, rfl⟩ <;> rfl
  pyHash := fun hv h => by
    rcases keyIs_shape hv with ⟨i, t, rfl, rfl⟩ | ⟨x, t, rfl, rfl⟩
    · exact wpAny_pyHash_int h
    · exact wpAny_pyHash_str h
  eqBool := fun hu hv h => by
    rcases keyIs_shape hu with ⟨i, t, rfl, rfl⟩ | ⟨x, t, rfl, rfl⟩
    · rcases keyIs_shape hv with ⟨j, u, rfl, rfl⟩ | ⟨y, u, rfl, rfl⟩
      · rw [key_ll] at h; exact wpAny_eqBool_int h
      · rw [key_lr] at h; exact SeqAt.EqAt.int_str i t y u _ _ _ _ h
    · rcases keyIs_shape hv with ⟨j, u, rfl, rfl⟩ | ⟨y, u, rfl, rfl⟩
      · rw [key_rl] at h; exact SeqAt.EqAt.str_int x t j u _ _ _ _ h
      · rw [key_rr] at h; exact wpAny_eqBool_str h
  «strs» := fun k x t v h => by
    rcases keyIs_shape h with ⟨i, u, rfl, e⟩ | ⟨y, u, rfl, e⟩
    · exact nomatch e
    · injection e with e1 _
      subst e1
      cases v <;> rfl

end L2

namespace L2
open PySem PySem.Spec PyProof.Rows

/-- a value, without the heap -/
inductive V where
  | non | bl (b : Bool) | int (i : Int) | str (x : Str) | byt (b : Array UInt8) | flt (b : UInt64) | ref (a : Addr) | ty (n : String)
  deriving DecidableEq

def RelV : V → Value → Prop
  | .non, u => u = Value.none
  | .bl b, u => u = Value.bool b
  | .int i, u => ∃ t, u = Value.int i t
  | .str x, u => ∃ t, u = Value.str x t
  | .byt b, u => ∃ t, u = Value.bytes b t
  | .flt b, u => ∃ t, u = Value.float b t
  | .ref a, u => u = Value.ref a
  | .ty n, u => u = Value.type n

abbrev Vals : List V → List Value → Prop := Paired RelV
theorem Vals.length {xs : List V} {us : List Value} (r : Vals xs us) : xs.length = us.length := Paired.length r
theorem Vals.get : ∀ {xs : List V} {us : List Value} {i : Nat} {x : V}, Vals xs us → xs[i]? = some x → ∃ u, us[i]? = some u ∧ RelV x u
  | _, _, _, _, .nil, e => by simp at e
  | _, _, 0, _, .cons r _, e => by simp at e; subst e; exact ⟨_, rfl, r⟩
  | _, _, i + 1, x, .cons _ t, e => by
    obtain ⟨u, h1, h2⟩ := Vals.get (i := i) (x := x) t (by simpa using e)
    exact ⟨u, by simpa using h1, h2⟩
theorem Vals.append : ∀ {xs ys : List V} {us ws : List Value}, Vals xs us → Vals ys ws → Vals (xs ++ ys) (us ++ ws)
  | _, _, _, _, .nil, s => s
  | _, _, _, _, .cons r t, s => .cons r (Vals.append t s)
theorem Vals.take : ∀ {xs : List V} {us : List Value} (n : Nat), Vals xs us → Vals (xs.take n) (us.take n)
  | _, _, 0, _ => .nil
  | _, _, _ + 1, .nil => .nil
  | _, _, n + 1, .cons r t => .cons r (Vals.take n t)
theorem Vals.drop : ∀ {xs : List V} {us : List Value} (n : Nat), Vals xs us → Vals (xs.drop n) (us.drop n)
  | _, _, 0, r => r
  | _, _, _ + 1, .nil => .nil
  | _, _, n + 1, .cons _ t => Vals.drop n t
def RelO : Option V → Option Value → Prop
  | some v, some u => RelV v u
  | none, none => True
  | _, _ => False
def KV {κ : Type} : List (κ × V) → List (κ × Value) → Prop := Paired fun (p : κ × V) (q : κ × Value) => p.1 = q.1 ∧ RelV p.2 q.2

/-- a key of a dict (00_mix): an int or a text -/
def kV : Key → V
  | .inl i => .int i
  | .inr x => .str x

/-- what stands at a tracked address -/
inductive HO where
  /-- a list -/
  | lst (xs : List V)
  /-- a tuple (never changes) -/
  | tup (xs : List V)
  /-- a dict whose keys are ints and texts; one whose keys are tuples of ints and texts (the empty one is both) -/
  | dK (kvs : List (Key × V)) | dT (kvs : List (List Key × V))
  /-- a set of ints: its members, its size -/
  | set (S : Int → Bool) (n : Nat)
  /-- an instance of the class at C, its dict at dx, its attributes -/
  | ins (C dx : Addr) (fs : List (Str × V))
  /-- the dict of the instance at x -/
  | own (x : Addr)
  /-- the dict of an exception -/
  | xd (fs : List (Str × V))
  /-- a bound method, f of x -/
  | met (f x : Addr)
  /-- a range object lo, lo + 1, .. below hi -/
  | rng (lo hi : Int)
  /-- a thing that is known to the object (the script; a dict while a loop walks it): read, never written while it is so -/
  | frz (o : Obj) (u : HO)
  /-- a code object's table -/
  | tbl (ps : Array Value)
  /-- any other thing, by what is true of its one object (a def of one's own: SetO a S n := HO.ext fun h => ..) -/
  | ext (φ : Heap → Prop)

abbrev Hp := Addr → Option HO
def upd (H : Hp) (a : Addr) (o : HO) : Hp := fun b => if b = a then some o else H b
theorem upd_same {H : Hp} {a : Addr} {o : HO} : upd H a o a = some o := by unfold upd; rw [if_pos rfl]
theorem upd_ne {H : Hp} {a b : Addr} {o : HO} (h : b ≠ a) : upd H a o b = H b := by unfold upd; rw [if_neg h]
/-- two objects of different content stand apart -/
theorem ne_of {H : Hp} {a b : Addr} {o u : HO} (h : H a = some o) (h' : H b = some u) (d : o ≠ u) : a ≠ b := by
  intro e; subst e; rw [h] at h'; exact d (Option.some.inj h')
theorem ne_of_none {H : Hp} {a b : Addr} {o : HO} (h : H a = some o) (h' : H b = none) : a ≠ b := by
  intro e; subst e; rw [h] at h'; cases h'

section
variable (P : Program) (w : World)
def ObjOk (H : Hp) (h : Heap) (a : Addr) : HO → Prop
  | .lst xs => xs.length ≤ sizeLine ∧ ∃ (its : List Value) (n : Nat), Vals xs its ∧ h.get? a = some { cls := .type "list", data := .seq its.toArray n }
  | .tup xs => xs.length ≤ sizeLine ∧ ∃ its : List Value, Vals xs its ∧ IsTup h a its.toArray
  | .dK kvs => kvs.length ≤ sizeLine ∧ (a == sysModules) = false ∧ ∃ vs, KV kvs vs ∧ h.DictOf (mixKind P w) a vs
  | .dT kvs => kvs.length ≤ sizeLine ∧ (a == sysModules) = false ∧ ∃ xs : List (List Key × Addr × Value),
      Paired (fun (p : List Key × V) (q : List Key × Addr × Value) => p.1 = q.1 ∧ H q.2.1 = some (.tup (p.1.map kV)) ∧ RelV p.2 q.2.2) kvs xs ∧
      ∃ o es ep, h.get? a = some o ∧ o.ExactDict ∧ o.data = .dict es ep ∧ es.toList = xs.map (entryOfKey (tupleKind (mixKind P w))) ∧ (xs.map (·.1)).Nodup
  | .set S n => h.SetOf (intKind P w) a S n
  | .ins C dx fs => H dx = some (.own a) ∧ fs.length ≤ 1000 ∧ dx ≠ a ∧ h.get? a = some (PySem.W.instObj C dx) ∧
      ∃ mA, h.Ns1 dx mA ∧ (∀ f, RelO (fs.lookup f) (mA f)) ∧ PySem.Within mA (fs.map (·.1))
  | .own _ => ∃ o, h.get? a = some o
  | .xd fs => ∃ mA, h.Ns1 a mA ∧ ∀ f, RelO (fs.lookup f) (mA f)
  | .rng lo hi => ∃ t u v, h.get? a = some { cls := .type "range", data := .fields #[.int lo t, .int hi u, .int 1 v] }
  | .frz o u => h.get? a = some o ∧ ObjOk H h a u
  | .tbl ps => h.get? a = some { cls := .none, data := .fields ps }
  | .met f x => h.get? a = some (PySem.W.methodObj (.ref f) (.ref x))
  | .ext φ => φ h ∧ (∃ o, h.get? a = some o) ∧ ∀ h1 h2 : Heap, φ h1 → (∀ o, h1.get? a = some o → h2.get? a = some o) → φ h2
/-- the abstract heap is held -/
def HOk (H : Hp) (h : Heap) : Prop := ∀ a o, H a = some o → ObjOk P w H h a o
end

section
variable {P : Program} {w : World} {H H' : Hp} {h h' : Heap} {a : Addr} {o : HO}
theorem ObjOk.lt (x : ObjOk P w H h a o) : a < h.objs.size := by
  cases o with
  | lst xs => obtain ⟨_, _, _, _, e⟩ := x; exact Heap.lt_size e
  | tup xs => obtain ⟨_, _, _, p⟩ := x; exact p.lt
  | dK kvs => obtain ⟨_, _, _, _, o, _, _, e, _⟩ := x; exact Heap.lt_size e
  | dT kvs => obtain ⟨_, _, _, _, o, _, _, e, _⟩ := x; exact Heap.lt_size e
  | set S n => obtain ⟨o, _, _, _, e, _⟩ := x; exact Heap.lt_size e
  | ins C dx fs => obtain ⟨_, _, _, e, _⟩ := x; exact Heap.lt_size e
  | own y => obtain ⟨_, e⟩ := x; exact Heap.lt_size e
  | xd fs => obtain ⟨_, ⟨_, _, _, e, _⟩, _⟩ := x; exact Heap.lt_size e
  | rng lo hi => obtain ⟨_, _, _, e⟩ := x; exact Heap.lt_size e
  | frz ob u => obtain ⟨e, _⟩ := x; exact Heap.lt_size e
  | tbl ps => exact Heap.lt_size (show h.get? a = some _ from x)
  | met f y => exact Heap.lt_size (show h.get? a = some _ from x)
  | ext φ => obtain ⟨_, ⟨_, e⟩, _⟩ := x; exact Heap.lt_size e
theorem Paired.mapP {α β : Type} {F G : α → β → Prop} : ∀ {l₁ : List α} {l₂ : List β}, Paired F l₁ l₂ → (∀ a b, F a b → G a b) → Paired G l₁ l₂
  | _, _, .nil, _ => .nil
  | _, _, .cons r t, f => .cons (f _ _ r) (Paired.mapP t f)
/-- what an object's description leans on: its own object, its own dict, the tuples -/
theorem ObjOk.stay (x : ObjOk P w H h a o) (k : ∀ b u, (b = a ∨ H b = some (.own a)) → h.get? b = some u → h'.get? b = some u)
    (ho : ∀ b, H b = some (.own a) → H' b = some (.own a)) (ht : ∀ b xs, H b = some (.tup xs) → H' b = some (.tup xs)) : ObjOk P w H' h' a o := by
  induction o with
  | lst xs => obtain ⟨z, its, n, r, e⟩ := x; exact ⟨z, its, n, r, k _ _ (.inl rfl) e⟩
  | tup xs => obtain ⟨z, its, r, ob, e, c⟩ := x; exact ⟨z, its, r, ob, k _ _ (.inl rfl) e, c⟩
  | dK kvs => obtain ⟨z, y, vs, r, ob, es, ep, e, c⟩ := x; exact ⟨z, y, vs, r, ob, es, ep, k _ _ (.inl rfl) e, c⟩
  | dT kvs =>
    obtain ⟨z, y, xs, r, ob, es, ep, e, c⟩ := x
    exact ⟨z, y, xs, Paired.mapP r fun p q z => ⟨z.1, ht _ _ z.2.1, z.2.2⟩, ob, es, ep, k _ _ (.inl rfl) e, c⟩
  | set S n => obtain ⟨ob, es, ep, t, e, c⟩ := x; exact ⟨ob, es, ep, t, k _ _ (.inl rfl) e, c⟩
  | ins C dx fs =>
    obtain ⟨d, z, ne, e, mA, ⟨od, es, ep, e2, c⟩, r⟩ := x
    exact ⟨ho _ d, z, ne, k _ _ (.inl rfl) e, mA, ⟨od, es, ep, k _ _ (.inr d) e2, c⟩, r⟩
  | own y => obtain ⟨ob, e⟩ := x; exact ⟨ob, k _ _ (.inl rfl) e⟩
  | xd fs => obtain ⟨mA, ⟨od, es, ep, e, c⟩, r⟩ := x; exact ⟨mA, ⟨od, es, ep, k _ _ (.inl rfl) e, c⟩, r⟩
  | rng lo hi => obtain ⟨t, u, v, e⟩ := x; exact ⟨t, u, v, k _ _ (.inl rfl) e⟩
  | frz ob u ih => obtain ⟨e, q⟩ := x; exact ⟨k _ _ (.inl rfl) e, ih q⟩
  | tbl ps =>
    have e : h.get? a = some { cls := .none, data := .fields ps } := x
    show h'.get? a = some { cls := .none, data := .fields ps }
    exact k a _ (.inl rfl) e
  | met f y =>
    have e : h.get? a = some (PySem.W.methodObj (.ref f) (.ref y)) := x
    show h'.get? a = some (PySem.W.methodObj (.ref f) (.ref y))
    exact k a _ (.inl rfl) e
  | ext φ => obtain ⟨p, ⟨o, e⟩, st⟩ := x; exact ⟨st _ _ p fun o q => k _ _ (.inl rfl) q, ⟨o, k _ _ (.inl rfl) e⟩, st⟩
theorem HOk.lt (x : HOk P w H h) (e : H a = some o) : a < h.objs.size := (x a o e).lt
theorem HOk.fresh (x : HOk P w H h) (e : h.objs.size ≤ a) : H a = none := by
  cases q : H a with
  | none => rfl
  | some u => exact absurd (Nat.lt_of_lt_of_le (x.lt q) e) (Nat.lt_irrefl _)
/-- every object of the heap is kept -/
theorem HOk.kept (x : HOk P w H h) (k : ∀ b u, h.get? b = some u → h'.get? b = some u) : HOk P w H h' := fun a o e =>
  (x a o e).stay (fun b u _ q => k b u q) (fun _ q => q) fun _ _ q => q
/-- a new object is laid and tracked -/
theorem HOk.laid (x : HOk P w H h) (k : ∀ b u, h.get? b = some u → h'.get? b = some u) (hp : h.objs.size ≤ a) (new : ObjOk P w (upd H a o) h' a o) : HOk P w (upd H a o) h' := fun b u e => by
  have hn := x.fresh hp
  by_cases hb : b = a
  · subst hb; rw [upd_same] at e; cases e; exact new
  · rw [upd_ne hb] at e
    exact (x b u e).stay (fun c v _ q => k c v q) (fun c q => by rw [upd_ne (ne_of_none q hn)]; exact q) fun c xs q => by rw [upd_ne (ne_of_none q hn)]; exact q
end

/-- what may be read as u: it is u, or a known u -/
def Rd (H : Hp) (a : Addr) (u : HO) : Prop := H a = some u ∨ ∃ o, H a = some (.frz o u)
theorem Rd.ok {P : Program} {w : World} {H : Hp} {h : Heap} {a : Addr} {u : HO} (r : Rd H a u) (x : HOk P w H h) : ObjOk P w H h a u := by
  rcases r with r | ⟨o, r⟩
  · exact x a u r
  · obtain ⟨_, q⟩ := x a _ r
    exact q
/-- what may be written -/
def Mut : Option HO → Prop
  | some (.lst _) => True
  | some (.dK _) => True
  | some (.dT _) => True
  | some (.set _ _) => True
  | some (.ins _ _ _) => True
  | some (.ext _) => True
  | _ => False
section
variable {P : Program} {w : World} {H : Hp} {h h' : Heap} {x e : Addr} {o' : HO}
/-- the object at e is changed: x itself, or the dict of the instance x -/
theorem HOk.write (ok : HOk P w H h) (mu : Mut (H x)) (he : e = x ∨ H e = some (.own x)) (k : ∀ b u, b ≠ e → h.get? b = some u → h'.get? b = some u) (heo : ∃ u, h'.get? e = some u)
    (new : ObjOk P w (upd H x o') h' x o') : HOk P w (upd H x o') h' := fun b u q => by
  have nown : ∀ c y, H c = some (.own y) → c ≠ x := fun c y r z => by subst z; rw [r] at mu; exact mu
  have ntup : ∀ c xs, H c = some (.tup xs) → c ≠ x := fun c xs r z => by subst z; rw [r] at mu; exact mu
  by_cases hb : b = x
  · subst hb; rw [upd_same] at q; cases q; exact new
  · rw [upd_ne hb] at q
    by_cases hbe : b = e
    · have q' : H b = some (.own x) := by
        rcases he with z | z
        · exact absurd (hbe.trans z) hb
        · rw [hbe]; exact z
      rw [q] at q'; cases q'
      obtain ⟨v, hv⟩ := heo
      exact ⟨v, by rw [hbe]; exact hv⟩
    · refine (ok b u q).stay (fun c v hc r => k c v ?_ r) (fun c r => by rw [upd_ne (nown c b r)]; exact r) fun c xs r => by rw [upd_ne (ntup c xs r)]; exact r
      rcases hc with rfl | hc
      · exact hbe
      · rintro rfl
        rcases he with z | z
        · exact nown c b hc z
        · rw [hc] at z; cases z; exact hb rfl
end

/-! ### kept unless tracked; of the frames at fs (the callers') the slots may change (an exception that passes writes there); of the records at ex (iterators) nothing is said -/
structure Un (fs ex : List Addr) (H H' : Hp) (h h' : Heap) : Prop where
  keep : ∀ b o, h.get? b = some o → H b = none → b ∉ fs → b ∉ ex → h'.get? b = some o
  slot : ∀ b o, h.get? b = some o → H b = none → b ∈ fs → b ∉ ex → ∃ sl, h'.get? b = some { o with slots := sl }
  free : ∀ b o, h.get? b = some o → H b = none → b ∉ ex → H' b = none
  there : ∀ b o, h.get? b = some o → b ∉ ex → ∃ o', h'.get? b = some o'
  tups : ∀ b xs, H b = some (.tup xs) → H' b = some (.tup xs)
  frzs : ∀ b o u, H b = some (.frz o u) → H' b = some (.frz o u)
  tbls : ∀ b ps, H b = some (.tbl ps) → ∃ more, H' b = some (.tbl (ps ++ more))
section
variable {fs fs' ex ex' : List Addr} {H H1 H2 : Hp} {h h1 h2 h' : Heap} {a x e : Addr} {o : HO}
theorem Un.any (u : Un fs ex H H1 h h1) {b : Addr} {ob : Obj} (q : h.get? b = some ob) (n : H b = none) (hx : b ∉ ex) : ∃ sl, h1.get? b = some { ob with slots := sl } := by
  by_cases hb : b ∈ fs
  · exact u.slot b ob q n hb hx
  · exact ⟨ob.slots, u.keep b ob q n hb hx⟩
theorem Un.kept (k : ∀ b u, h.get? b = some u → h'.get? b = some u) : Un fs ex H H h h' :=
  ⟨fun b ob q _ _ _ => k b ob q, fun b ob q _ _ _ => ⟨ob.slots, k b ob q⟩, fun _ _ _ n _ => n, fun b ob q _ => ⟨ob, k b ob q⟩, fun _ _ q => q, fun _ _ _ q => q, fun _ ps q => ⟨#[], by rw [q]; simp⟩⟩
theorem Un.refl : Un fs ex H H h h := Un.kept fun _ _ q => q
theorem Un.laid (k : ∀ b u, h.get? b = some u → h'.get? b = some u) (hp : h.objs.size ≤ a) (hn : H a = none) : Un fs ex H (upd H a o) h h' where
  keep := fun b u q _ _ _ => k b u q
  slot := fun b u q _ _ _ => ⟨u.slots, k b u q⟩
  free := fun b u q n _ => by rw [upd_ne (Nat.ne_of_lt (Nat.lt_of_lt_of_le (Heap.lt_size q) hp))]; exact n
  there := fun b u q _ => ⟨u, k b u q⟩
  tups := fun b xs q => by rw [upd_ne (ne_of_none q hn)]; exact q
  frzs := fun b u xs q => by rw [upd_ne (ne_of_none q hn)]; exact q
  tbls := fun b ps q => ⟨#[], by rw [upd_ne (ne_of_none q hn), q]; simp⟩
theorem Un.write (mu : Mut (H x)) (he : e = x ∨ H e = some (.own x)) (k : ∀ b u, b ≠ e → h.get? b = some u → h'.get? b = some u) (heo : ∃ u, h'.get? e = some u) : Un fs ex H (upd H x o) h h' := by
  have hx : ∀ b, H b = none → b ≠ x := fun b n z => by subst z; rw [n] at mu; exact mu
  have hb : ∀ b, H b = none → b ≠ e := fun b n z => by
    subst z
    rcases he with r | r
    · exact hx b n r
    · rw [n] at r; cases r
  have hm : ∀ b u, H b = some u → ¬ Mut (some u) → b ≠ x := fun b u q nm z => by subst z; rw [q] at mu; exact nm mu
  refine ⟨fun b u q n _ _ => k b u (hb b n) q, fun b u q n _ _ => ⟨u.slots, k b u (hb b n) q⟩, fun b u q n _ => by rw [upd_ne (hx b n)]; exact n, fun b u q _ => ?_,
    fun b xs q => by rw [upd_ne (hm b _ q fun z => z)]; exact q, fun b u xs q => by rw [upd_ne (hm b _ q fun z => z)]; exact q, fun b ps q => ⟨#[], by rw [upd_ne (hm b _ q fun z => z), q]; simp⟩⟩
  by_cases hbe : b = e
  · subst hbe; exact heo
  · exact ⟨u, k b u hbe q⟩
end

/-! ### the heap without what is tracked -/
def trk (h : Heap) (H : Hp) : List Addr := (List.range h.objs.size).filter fun a => (H a).isSome
def hidT (h : Heap) (H : Hp) : Heap := PySem.W.hideAll h (trk h H)
theorem hidT_size (h : Heap) (H : Hp) : (hidT h H).objs.size = h.objs.size := PySem.W.hideAll_size _ _
theorem hidT_get {h : Heap} {H : Hp} {b : Addr} {o : Obj} (e : h.get? b = some o) (n : H b = none) : (hidT h H).get? b = some o :=
  PySem.W.hideAll_get _ e fun hm => by
    have q : (H b).isSome = true := (List.mem_filter.mp hm).2
    rw [n] at q; simp at q
theorem of_hidT {h : Heap} {H : Hp} {b : Addr} {o : Obj} (e : (hidT h H).get? b = some o) : h.get? b = some o ∧ H b = none := by
  have e' : h.get? b = some o := PySem.W.of_hideAll (trk h H) e
  refine ⟨e', ?_⟩
  cases q : H b with
  | none => rfl
  | some x =>
    have hm : b ∈ trk h H := List.mem_filter.mpr ⟨List.mem_range.mpr (Heap.lt_size e'), by simp [q]⟩
    have z : (hidT h H).get? b = none := PySem.W.hideAll_none (trk h H) hm
    rw [z] at e; cases e

/-! ### OpenK's ledger, filled with every new object but one -/
def allNews (g h : Heap) (L : Addr) : List (Addr × Obj) := (List.range h.objs.size).filterMap fun a => if a = L ∨ (g.get? a).isSome = true then none else (h.get? a).map fun o => (a, o)
def rest (g h : Heap) (L d : Addr) : List (Addr × Obj) := (allNews g h L).filter fun p => decide (p.1 ≠ d)
end L2

namespace L2
open PySem PySem.Spec PyProof.Rows

/-- the module's facts, over the base: the heap at the law's entry without what is tracked there -/
structure Mod (K : PySem.W.Frag) (mg : Str → Option Value) (base : Heap) : Prop where
  kin : K.In base
  glob : base.Ns mainGlobals mg
  blt : ∃ mb, base.Ns builtinsNs mb ∧ ∀ x : Str, x ≠ "__name__" → mb x = bootBuiltins x
  nolimit : base.NoLimit

/-- the context: a def's body (or a comprehension's block) running. base: fixed through the whole law; s₀, H₀: the entry; outer: the frames whose slots others may change (a def's callers); stack: all frames that run;
   ex: iterators that were made ahead of the entry and are walked here (a comprehension's); fn: the names whose cells were made at the entry (a def: all; a comprehension's block: its own); calm: not within an except suite; pn: pins that every state bears; xe: what is wanted of an exception that leaves the code -/
structure Cx where
  prog : Program
  w : World
  K : PySem.W.Frag
  mg : Str → Option Value
  base : Heap
  A : Around
  N : List Str
  s₀ : Shared
  H₀ : Hp
  env : Env
  outer : List Env
  stack : List Env
  ex : List Addr
  fn : Str → Bool
  calm : Bool
  pn : List (Addr × Obj)
  xe : Value → Shared → Prop
/-- the callers' frames -/
def frs (l : List Env) : List Addr := l.filterMap (·.frame)
abbrev Cx.fs (X : Cx) : List Addr := frs X.outer

def Vis (sc : Scope) (x : Str) : Prop := sc.names.lookup x = some .local ∨ sc.names.lookup x = some .cell ∨ sc.names.lookup x = some .free
def Loc (sc : Scope) (x : Str) : Prop := sc.names.lookup x = some .local ∨ sc.names.lookup x = some .cell
def Look (env : Env) (h : Heap) (m : Str → Option Value) (x : Str) (u : Value) : Prop :=
  (env.kindOf x = some .local ∧ m x = some u) ∨ ((env.kindOf x = some .cell ∨ env.kindOf x = some .free) ∧ ∃ c, env.cells.lookup x = some c ∧ h.IsCell c (some u))

structure Cx.Ok (X : Cx) : Prop where
  mod : Mod X.K X.mg X.base
  kind : X.env.scope.kind = .function
  glob : X.env.globals = mainGlobals
  blt : X.env.builtins = builtinsNs
  above : X.s₀.heap.objs.size ≤ X.env.locals
  inj : ∀ x y c, X.env.cells.lookup x = some c → X.env.cells.lookup y = some c → x = y
  has : ∀ x, (X.env.kindOf x = some .cell ∨ X.env.kindOf x = some .free) → ∃ c, X.env.cells.lookup x = some c
  cab : ∀ x c, X.fn x = true → X.env.cells.lookup x = some c → X.s₀.heap.objs.size ≤ c
  hd : X.calm = true → X.A.handled = none
  frames : X.A.frames = some X.stack
  stk : X.stack = X.outer ∨ (X.stack = X.env :: X.outer ∧ X.env.frame = some X.env.locals)
  exf : ∀ b ∈ X.ex, b ≠ X.env.locals ∧ ∀ x c, X.env.cells.lookup x = some c → c ≠ b
  bs : ∀ b o, X.base.get? b = some o → X.s₀.heap.get? b = some o ∧ X.H₀ b = none
  bsz : X.base.objs.size ≤ X.s₀.heap.objs.size
  noex : ∀ b o, X.base.get? b = some o → b ∉ X.ex
  exfs : ∀ b ∈ X.ex, b ∉ X.fs
  funs : X.s₀.heap.FunFrames X.base X.outer
  frf : ∀ b ∈ X.fs, X.H₀ b = none

structure Inv (X : Cx) (pins : List (Addr × Obj)) (σ : List (Option V)) (H : Hp) (s : Shared) : Prop where
  ok : X.Ok
  os : s.os = X.s₀.os
  bare : AllBare s.gens
  base : Un X.fs X.ex X.H₀ H X.s₀.heap s.heap
  loc : ∃ m, s.heap.Ns X.env.locals m ∧ ∀ (i : Nat) (x : Str) (v : V), X.N[i]? = some x → σ[i]? = some (some v) → Vis X.env.scope x → ∃ u, RelV v u ∧ Look X.env s.heap m x u
  cell : ∀ x c, X.env.cells.lookup x = some c → ∃ v, s.heap.IsCell c v
  free : H X.env.locals = none
  freeC : ∀ x c, X.env.cells.lookup x = some c → H c = none
  pin : ∀ p ∈ X.pn ++ pins, s.heap.get? p.1 = some p.2 ∧ H p.1 = none ∧ p.1 ≠ X.env.locals ∧ p.1 ∉ X.fs ∧ ∀ v, p.2.data ≠ .cell v
  hok : HOk X.prog X.w H s.heap
  len : σ.length = X.N.length

section
variable {X : Cx} {pins : List (Addr × Obj)} {σ : List (Option V)} {H H' : Hp} {s : Shared} {h' : Heap}

theorem Cx.Ok.nofr (ok : X.Ok) {b : Addr} {o : Obj} (e : X.base.get? b = some o) : b ∉ X.fs := fun hb => by
  have := (ok.funs.mem hb).1
  rw [e] at this; cases this
theorem Inv.bs (I : Inv X pins σ H s) : ∀ b o, X.base.get? b = some o → s.heap.get? b = some o ∧ H b = none := fun b o e =>
  ⟨I.base.keep b o (I.ok.bs b o e).1 (I.ok.bs b o e).2 (I.ok.nofr e) (I.ok.noex b o e), I.base.free b o (I.ok.bs b o e).1 (I.ok.bs b o e).2 (I.ok.noex b o e)⟩
theorem Inv.bk (I : Inv X pins σ H s) : ∀ b o, X.base.get? b = some o → s.heap.get? b = some o := fun b o e => (I.bs b o e).1
theorem Inv.mod (I : Inv X pins σ H s) : Mod X.K X.mg X.base := I.ok.mod
theorem Inv.kIn (I : Inv X pins σ H s) : X.K.In s.heap := I.ok.mod.kin.keeps I.bk
theorem Inv.lt (I : Inv X pins σ H s) : X.env.locals < s.heap.objs.size := let ⟨_, hn, _⟩ := I.loc; hn.lt
theorem Inv.sz (I : Inv X pins σ H s) : X.s₀.heap.objs.size ≤ s.heap.objs.size := Nat.le_trans I.ok.above (Nat.le_of_lt I.lt)
theorem Inv.nofs (I : Inv X pins σ H s) {a : Addr} (h : s.heap.objs.size ≤ a) : a ∉ X.fs := fun hb => by
  obtain ⟨_, o, ho, _⟩ := I.ok.funs.mem hb
  exact absurd (Nat.lt_of_lt_of_le (Heap.lt_size ho) (Nat.le_trans I.sz h)) (Nat.lt_irrefl _)
theorem Inv.cne (I : Inv X pins σ H s) : ∀ x c, X.env.cells.lookup x = some c → c ≠ X.env.locals := fun x c e z => by
  obtain ⟨v, o, ho, hd⟩ := I.cell x c e
  obtain ⟨m, ⟨o', es, ep, ho', hd', _⟩, _⟩ := I.loc
  rw [z, ho'] at ho; cases ho; rw [hd'] at hd; cases hd
theorem Inv.funs (I : Inv X pins σ H s) : s.heap.FunFrames X.base X.outer := by
  have all : ∀ (l : List Env), (∀ b ∈ frs l, b ∈ X.fs) → X.s₀.heap.FunFrames X.base l → s.heap.FunFrames X.base l := by
    intro l
    induction l with
    | nil => intro _ _; trivial
    | cons env r ih =>
      intro hs hl
      obtain ⟨hk, ⟨L, o, hf, hn, ho, hd⟩, hr⟩ := hl
      have hL : L ∈ X.fs := hs L (by unfold frs; rw [List.filterMap_cons, hf]; exact List.mem_cons_self)
      obtain ⟨sl, e⟩ := I.base.slot L o ho (I.ok.frf L hL) hL fun z => I.ok.exfs L z hL
      exact ⟨hk, ⟨L, _, hf, hn, e, hd⟩, ih (fun b hb => hs b (by unfold frs; rw [List.filterMap_cons, hf]; exact List.mem_cons_of_mem _ hb)) hr⟩
  exact all X.outer (fun _ hb => hb) I.ok.funs

/-- the frames that run, for a call -/
theorem Inv.stack (I : Inv X pins σ H s) : s.heap.FunFrames X.base X.stack := by
  rcases I.ok.stk with e | ⟨e, hf⟩
  · rw [e]; exact I.funs
  · rw [e]
    obtain ⟨m, hn, _⟩ := I.loc
    refine .cons (by rw [I.ok.kind]; decide) hf hn ?_ I.funs
    exact Heap.get?_none_of_le (Nat.le_trans I.ok.bsz I.ok.above)
theorem Inv.stkSub (I : Inv X pins σ H s) : ∀ b ∈ frs X.stack, b ∈ X.env.locals :: X.fs := fun b hb => by
  rcases I.ok.stk with e | ⟨e, hf⟩
  · rw [e] at hb; exact List.mem_cons_of_mem _ hb
  · rw [e] at hb
    unfold frs at hb
    rw [List.filterMap_cons, hf] at hb
    exact hb
theorem Inv.stkFree (I : Inv X pins σ H s) : ∀ b ∈ frs X.stack, H b = none := fun b hb => by
  rcases List.mem_cons.mp (I.stkSub b hb) with e | hb
  · rw [e]; exact I.free
  · obtain ⟨_, o, ho, _⟩ := I.ok.funs.mem hb
    exact I.base.free b o ho (I.ok.frf b hb) fun z => I.ok.exfs b z hb

/-- THE STEP: the untracked objects but the frame and the records at ch are kept (the callers' frames up to slots), the frame's map is kept, the new abstract heap is held -/
theorem Inv.step {g' : Array GenState} {t' : Nat} {d' : Drawn} {ch : List Addr} (I : Inv X pins σ H s)
    (hch : ∀ b ∈ ch, (b ∈ X.ex ∨ X.s₀.heap.objs.size ≤ b) ∧ b ≠ X.env.locals ∧ (∀ x c, X.env.cells.lookup x = some c → c ≠ b) ∧ ∀ p ∈ X.pn ++ pins, p.1 ≠ b)
    (keep : ∀ b o, b ≠ X.env.locals → b ∉ X.fs → b ∉ ch → s.heap.get? b = some o → H b = none → h'.get? b = some o)
    (slot : ∀ b o, b ≠ X.env.locals → b ∈ X.fs → b ∉ ch → s.heap.get? b = some o → H b = none → ∃ sl, h'.get? b = some { o with slots := sl }) (free : ∀ b o, b ∉ ch → s.heap.get? b = some o → H b = none → H' b = none)
    (there : ∀ b o, b ∉ ch → s.heap.get? b = some o → ∃ o', h'.get? b = some o')
    (tups : ∀ b xs, H b = some (.tup xs) → H' b = some (.tup xs)) (frzs : ∀ b o u, H b = some (.frz o u) → H' b = some (.frz o u)) (tbls : ∀ b ps, H b = some (.tbl ps) → ∃ more, H' b = some (.tbl (ps ++ more)))
    (ns : ∀ m, s.heap.Ns X.env.locals m → h'.Ns X.env.locals m) (hok : HOk X.prog X.w H' h') (hg : AllBare g') :
    Inv X pins σ H' { s with heap := h', gens := g', drawn := d', toks := t' } := by
  have neL : ∀ b o, X.s₀.heap.get? b = some o → b ≠ X.env.locals := fun b o e => Nat.ne_of_lt (Nat.lt_of_lt_of_le (Heap.lt_size e) I.ok.above)
  have neC : ∀ b o, X.s₀.heap.get? b = some o → b ∉ X.ex → b ∉ ch := fun b o e hx hb => by
    rcases (hch b hb).1 with z | z
    · exact hx z
    · exact absurd (Nat.lt_of_lt_of_le (Heap.lt_size e) z) (Nat.lt_irrefl _)
  have cellK : ∀ x c, X.env.cells.lookup x = some c → ∀ v, s.heap.IsCell c v → h'.IsCell c v := fun x c e v ⟨o, ho, hd⟩ => by
    have nch : c ∉ ch := fun z => (hch c z).2.2.1 x c e rfl
    by_cases hc : c ∈ X.fs
    · obtain ⟨sl, q⟩ := slot c o (I.cne x c e) hc nch ho (I.freeC x c e)
      exact ⟨_, q, hd⟩
    · exact ⟨o, keep c o (I.cne x c e) hc nch ho (I.freeC x c e), hd⟩
  refine ⟨I.ok, I.os, hg, ⟨fun b o e n hb hx => ?_, fun b o e n hb hx => ?_, fun b o e n hx => ?_, fun b o e hx => ?_, fun b xs e => tups b xs (I.base.tups b xs e), fun b o xs e => frzs b o xs (I.base.frzs b o xs e), fun b ps e => ?_⟩, ?_, fun x c e => ?_, ?_, fun x c e => ?_, fun p hp => ?_, hok, I.len⟩
  · exact keep b o (neL b o e) hb (neC b o e hx) (I.base.keep b o e n hb hx) (I.base.free b o e n hx)
  · obtain ⟨sl, e1⟩ := I.base.slot b o e n hb hx
    obtain ⟨sl', e2⟩ := slot b _ (neL b o e) hb (neC b o e hx) e1 (I.base.free b o e n hx)
    exact ⟨sl', e2⟩
  · obtain ⟨o', e1⟩ := I.base.there b o e hx
    exact free b o' (neC b o e hx) e1 (I.base.free b o e n hx)
  · obtain ⟨o', e1⟩ := I.base.there b o e hx
    exact there b o' (neC b o e hx) e1
  · obtain ⟨m1, e1⟩ := I.base.tbls b ps e
    obtain ⟨m2, e2⟩ := tbls b _ e1
    exact ⟨m1 ++ m2, by rw [e2, Array.append_assoc]⟩
  · obtain ⟨m, hn, hl⟩ := I.loc
    refine ⟨m, ns m hn, fun i x v e1 e2 e3 => ?_⟩
    obtain ⟨u, r, l⟩ := hl i x v e1 e2 e3
    refine ⟨u, r, ?_⟩
    rcases l with l | ⟨k, c, e, z⟩
    · exact .inl l
    · exact .inr ⟨k, c, e, cellK x c e _ z⟩
  · obtain ⟨v, z⟩ := I.cell x c e
    exact ⟨v, cellK x c e v z⟩
  · obtain ⟨m, ⟨o, _, _, ho, _⟩, _⟩ := I.loc
    exact free _ o (fun z => (hch _ z).2.1 rfl) ho I.free
  · obtain ⟨v, o, ho, hd⟩ := I.cell x c e
    exact free c o (fun z => (hch c z).2.2.1 x c e rfl) ho (I.freeC x c e)
  · obtain ⟨e, n, ne, nf, d⟩ := I.pin p hp
    have nch : p.1 ∉ ch := fun z => (hch p.1 z).2.2.2 p hp rfl
    exact ⟨keep p.1 p.2 ne nf nch e n, free p.1 p.2 nch e n, ne, nf, d⟩
/-- .. where the frame's own object is kept too -/
theorem Inv.un {t' : Nat} (I : Inv X pins σ H s) (u : Un X.fs [] H H' s.heap h') (hok : HOk X.prog X.w H' h') : Inv X pins σ H' { s with heap := h', toks := t' } := by
  obtain ⟨m, ⟨o, es, ep, ho, r⟩, _⟩ := id I.loc
  obtain ⟨sl, hL⟩ := u.any ho I.free (by simp)
  exact I.step (g' := s.gens) (d' := s.drawn) (ch := []) (fun _ z => nomatch z) (fun b o _ hb _ e n => u.keep b o e n hb (by simp)) (fun b o _ hb _ e n => u.slot b o e n hb (by simp)) (fun b o _ e n => u.free b o e n (by simp)) (fun b o _ e => u.there b o e (by simp)) u.tups u.frzs u.tbls (fun m' hm => by
    obtain ⟨o', es', ep', ho', r'⟩ := hm
    rw [ho] at ho'; cases ho'
    exact ⟨_, es', ep', hL, r'⟩) hok I.bare
/-- behind a call (or a comprehension's block): the slots of this frame may have changed too, the records at ch may have turned -/
theorem Inv.call {g' : Array GenState} {t' : Nat} {d' : Drawn} {ch : List Addr} (I : Inv X pins σ H s) (u : Un (frs X.stack) ch H H' s.heap h') (hok : HOk X.prog X.w H' h') (hg : AllBare g')
    (hch : ∀ b ∈ ch, (b ∈ X.ex ∨ X.s₀.heap.objs.size ≤ b) ∧ b ≠ X.env.locals ∧ (∀ x c, X.env.cells.lookup x = some c → c ≠ b) ∧ ∀ p ∈ X.pn ++ pins, p.1 ≠ b) :
    Inv X pins σ H' { s with heap := h', gens := g', drawn := d', toks := t' } := by
  obtain ⟨m, ⟨o, es, ep, ho, r⟩, _⟩ := id I.loc
  obtain ⟨sl, hL⟩ := u.any ho I.free fun z => (hch _ z).2.1 rfl
  exact I.step (ch := ch) hch (fun b o hL hb hc e n => u.keep b o e n (fun z => (List.mem_cons.mp (I.stkSub b z)).elim hL hb) hc) (fun b o _ _ hc e n => u.any e n hc) (fun b o hc e n => u.free b o e n hc) (fun b o hc e => u.there b o e hc) u.tups u.frzs u.tbls (fun m' hm => by
    obtain ⟨o', es', ep', ho', r'⟩ := hm
    rw [ho] at ho'; cases ho'
    exact ⟨_, es', ep', hL, r'⟩) hok hg
/-- an untracked record of ours (an iterator) has turned -/
theorem Inv.turned {t' : Nat} {it : Addr} (I : Inv X pins σ H s) (k : ∀ b o, b ≠ it → s.heap.get? b = some o → h'.get? b = some o) (hn : H it = none) (hL : it ≠ X.env.locals)
    (h1 : it ∈ X.ex ∨ X.s₀.heap.objs.size ≤ it) (h2 : ∀ x c, X.env.cells.lookup x = some c → c ≠ it) (h3 : ∀ p ∈ X.pn ++ pins, p.1 ≠ it) : Inv X pins σ H { s with heap := h', toks := t' } := by
  have nit : ∀ b u, H b = some u → b ≠ it := fun b u e z => by rw [z, hn] at e; cases e
  refine I.step (g' := s.gens) (d' := s.drawn) (ch := [it]) (fun b hb => ?_) (fun b o _ _ hc e _ => k b o (fun z => hc (by simp [z])) e) (fun b o _ _ hc e _ => ⟨o.slots, k b o (fun z => hc (by simp [z])) e⟩) (fun _ _ _ _ n => n)
    (fun b o hc e => ⟨o, k b o (fun z => hc (by simp [z])) e⟩) (fun _ _ e => e) (fun _ _ _ e => e) (fun b ps e => ⟨#[], by rw [e]; simp⟩) (fun m hm => ?_) (fun b u e => ?_) I.bare
  · have e : b = it := by simpa using hb
    subst e
    exact ⟨h1, hL, h2, h3⟩
  · obtain ⟨o, es, ep, ho, r⟩ := hm
    exact ⟨o, es, ep, k _ o (Ne.symm hL) ho, r⟩
  · refine (I.hok b u e).stay (fun c v hc q => k c v ?_ q) (fun _ q => q) fun _ _ q => q
    rcases hc with z | z
    · rw [z]; exact nit b u e
    · exact nit c _ z
theorem Inv.tok (I : Inv X pins σ H s) (t : Nat) : Inv X pins σ H { s with toks := t } := I.un (h' := s.heap) (t' := t) Un.refl I.hok
/-- all objects kept -/
theorem Inv.kept {t' : Nat} (I : Inv X pins σ H s) (k : ∀ b u, s.heap.get? b = some u → h'.get? b = some u) : Inv X pins σ H { s with heap := h', toks := t' } := I.un (Un.kept k) (I.hok.kept k)
/-- a new object laid and tracked -/
theorem Inv.laid {a : Addr} {o : HO} {t' : Nat} (I : Inv X pins σ H s) (k : ∀ b u, s.heap.get? b = some u → h'.get? b = some u) (hp : s.heap.objs.size ≤ a) (new : ObjOk X.prog X.w (upd H a o) h' a o) :
    Inv X pins σ (upd H a o) { s with heap := h', toks := t' } := I.un (Un.laid k hp (I.hok.fresh hp)) (I.hok.laid k hp new)
/-- an object written -/
theorem Inv.write {x e : Addr} {o : HO} {t' : Nat} (I : Inv X pins σ H s) (mu : Mut (H x)) (he : e = x ∨ H e = some (.own x)) (k : ∀ b u, b ≠ e → s.heap.get? b = some u → h'.get? b = some u) (heo : ∃ u, h'.get? e = some u)
    (new : ObjOk X.prog X.w (upd H x o) h' x o) : Inv X pins σ (upd H x o) { s with heap := h', toks := t' } := I.un (Un.write mu he k heo) (I.hok.write mu he k heo new)
theorem Inv.pins_of {pins' : List (Addr × Obj)} (I : Inv X pins σ H s) (h : ∀ p ∈ pins', s.heap.get? p.1 = some p.2 ∧ H p.1 = none ∧ p.1 ≠ X.env.locals ∧ p.1 ∉ X.fs ∧ ∀ v, p.2.data ≠ .cell v) : Inv X pins' σ H s :=
  ⟨I.ok, I.os, I.bare, I.base, I.loc, I.cell, I.free, I.freeC, fun p hp => (List.mem_append.mp hp).elim (fun z => I.pin p (List.mem_append_left _ z)) (h p), I.hok, I.len⟩

theorem nodup_ix {N : List Str} (hN : N.Nodup) {i j : Nat} {x : Str} (a : N[i]? = some x) (b : N[j]? = some x) : i = j := by
  obtain ⟨h1, e1⟩ := List.getElem?_eq_some_iff.mp a
  obtain ⟨h2, e2⟩ := List.getElem?_eq_some_iff.mp b
  exact (List.getElem_inj hN).mp (e1.trans e2.symm)

/-- a name is stored; what changed -/
theorem store_ok2 {M : Model} {A : Around} {E : Value → Shared → Prop} {i : Nat} {x : Str} {v : V} {u : Value} {Q : Unit → Shared → Prop} (I : Inv X pins σ H s) (hN : X.N.Nodup) (hi : X.N[i]? = some x) (hx : Loc X.env.scope x) (r : RelV v u)
    (h : ∀ s', Inv X pins (σ.set i (some v)) H s' → (∃ a, Heap.SameBut a s.heap s'.heap ∧ (a = X.env.locals ∨ X.env.cells.lookup x = some a)) → Q () s') (hf : X.fn x = true ∨ X.env.scope.names.lookup x = some .local := by first | exact .inl rfl | exact .inr rfl | assumption) : wpAny M A (storeName X.env x u) Q E s := by
  obtain ⟨m, hn, hl⟩ := id I.loc
  have hcls : (X.env.scope.kind == .class || (X.env.scope.kind == .module && X.env.locals != X.env.globals)) = false := by rw [I.ok.kind]; rfl
  have hiσ : i < σ.length := by rw [I.len]; exact (List.getElem?_eq_some_iff.mp hi).1
  have cne := I.cne
  have tracked : ∀ {a : Addr} {h' : Heap}, (∃ o, s.heap.get? a = some o ∧ H a = none) → Heap.SameBut a s.heap h' → HOk X.prog X.w H h' := fun {a h'} ha hs b ob e => by
    obtain ⟨_, _, hfree⟩ := ha
    refine (I.hok b ob e).stay (fun c w' hc q => (hs.2 c ?_).trans q) (fun _ q => q) fun _ _ q => q
    rintro rfl
    rcases hc with rfl | hc
    · rw [hfree] at e; cases e
    · rw [hfree] at hc; cases hc
  rcases hx with hk | hk
  · refine wpAny_storeName_local hk hn (fun h' hn' hs => ?_) hcls
    obtain ⟨oL, _, _, hoL, _⟩ := id hn
    refine h _ ⟨I.ok, I.os, I.bare, ⟨fun b o e n hb hx => ?_, fun b o e n hb hx => ?_, I.base.free, fun b o e hx => ?_, I.base.tups, I.base.frzs, I.base.tbls⟩, ⟨_, hn', fun j y v' e1 e2 e3 => ?_⟩, fun y c e => ?_, I.free, I.freeC, fun p hp => ?_, tracked ⟨oL, hoL, I.free⟩ hs, by simpa using I.len⟩ ⟨_, hs, .inl rfl⟩
    · exact (hs.2 b (Nat.ne_of_lt (Nat.lt_of_lt_of_le (Heap.lt_size e) I.ok.above))).trans (I.base.keep b o e n hb hx)
    · obtain ⟨sl, e1⟩ := I.base.slot b o e n hb hx
      exact ⟨sl, (hs.2 b (Nat.ne_of_lt (Nat.lt_of_lt_of_le (Heap.lt_size e) I.ok.above))).trans e1⟩
    · obtain ⟨o', e1⟩ := I.base.there b o e hx
      exact ⟨o', (hs.2 b (Nat.ne_of_lt (Nat.lt_of_lt_of_le (Heap.lt_size e) I.ok.above))).trans e1⟩
    · by_cases hj : j = i
      · subst hj
        rw [hi] at e1; cases e1
        rw [List.getElem?_set_self hiσ] at e2
        cases e2
        exact ⟨u, r, .inl ⟨hk, by simp⟩⟩
      · rw [List.getElem?_set_ne (Ne.symm hj)] at e2
        obtain ⟨u', r', q⟩ := hl j y v' e1 e2 e3
        refine ⟨u', r', ?_⟩
        rcases q with ⟨k, e⟩ | ⟨k, c, e, z⟩
        · refine .inl ⟨k, ?_⟩
          have : y ≠ x := fun e => hj (nodup_ix hN e1 (e ▸ hi))
          simp [this, e]
        · exact .inr ⟨k, c, e, z.sameBut hs (cne y c e)⟩
    · obtain ⟨w', z⟩ := I.cell y c e
      exact ⟨w', z.sameBut hs (cne y c e)⟩
    · obtain ⟨e, n, ne, nf, d⟩ := I.pin p hp
      exact ⟨(hs.2 p.1 ne).trans e, n, ne, nf, d⟩
  · have hfn : X.fn x = true := by
      rcases hf with z | z
      · exact z
      · rw [z] at hk; cases hk
    obtain ⟨c, hc⟩ := I.ok.has x (.inl hk)
    obtain ⟨w', z⟩ := I.cell x c hc
    refine wpAny_storeName_cell I.ok.kind hk hc z (fun h' hc' hs => ?_)
    obtain ⟨oc, hoc, hocd⟩ := id z
    refine h { s with heap := h' } ⟨I.ok, I.os, I.bare, ⟨fun b o e n hb hx => ?_, fun b o e n hb hx => ?_, I.base.free, fun b o e hx => ?_, I.base.tups, I.base.frzs, I.base.tbls⟩, ⟨m, hn.sameBut hs (Ne.symm (cne x c hc)), fun j y v' e1 e2 e3 => ?_⟩, fun y c' e => ?_, I.free, I.freeC, fun p hp => ?_, tracked ⟨oc, hoc, I.freeC x c hc⟩ hs, by simpa using I.len⟩ ⟨c, hs, .inr hc⟩
    · exact (hs.2 b (Nat.ne_of_lt (Nat.lt_of_lt_of_le (Heap.lt_size e) (I.ok.cab x c hfn hc)))).trans (I.base.keep b o e n hb hx)
    · obtain ⟨sl, e1⟩ := I.base.slot b o e n hb hx
      exact ⟨sl, (hs.2 b (Nat.ne_of_lt (Nat.lt_of_lt_of_le (Heap.lt_size e) (I.ok.cab x c hfn hc)))).trans e1⟩
    · obtain ⟨o', e1⟩ := I.base.there b o e hx
      exact ⟨o', (hs.2 b (Nat.ne_of_lt (Nat.lt_of_lt_of_le (Heap.lt_size e) (I.ok.cab x c hfn hc)))).trans e1⟩
    · by_cases hj : j = i
      · subst hj
        rw [hi] at e1; cases e1
        rw [List.getElem?_set_self hiσ] at e2
        cases e2
        exact ⟨u, r, .inr ⟨.inl hk, c, hc, hc'⟩⟩
      · rw [List.getElem?_set_ne (Ne.symm hj)] at e2
        obtain ⟨u', r', q⟩ := hl j y v' e1 e2 e3
        refine ⟨u', r', ?_⟩
        rcases q with q | ⟨k, c', e, z'⟩
        · exact .inl q
        · refine .inr ⟨k, c', e, z'.sameBut hs ?_⟩
          rintro rfl
          exact hj (nodup_ix hN e1 (I.ok.inj _ _ _ e hc ▸ hi))
    · by_cases hcc : c' = c
      · subst hcc; exact ⟨_, hc'⟩
      · obtain ⟨w2, z2⟩ := I.cell y c' e
        exact ⟨w2, z2.sameBut hs hcc⟩
    · obtain ⟨e, n, ne, nf, d⟩ := I.pin p hp
      refine ⟨(hs.2 p.1 ?_).trans e, n, ne, nf, d⟩
      intro q
      rw [q, hoc] at e
      have q' : oc = p.2 := Option.some.inj e
      exact d w' (by rw [← q']; exact hocd)
theorem store_ok {M : Model} {A : Around} {E : Value → Shared → Prop} {i : Nat} {x : Str} {v : V} {u : Value} {Q : Unit → Shared → Prop} (I : Inv X pins σ H s) (hN : X.N.Nodup) (hi : X.N[i]? = some x) (hx : Loc X.env.scope x) (r : RelV v u)
    (h : ∀ s', Inv X pins (σ.set i (some v)) H s' → Q () s') (hf : X.fn x = true ∨ X.env.scope.names.lookup x = some .local := by first | exact .inl rfl | exact .inr rfl | assumption) : wpAny M A (storeName X.env x u) Q E s :=
  store_ok2 I hN hi hx r (fun s' I' _ => h s' I') hf
/-- behind a call or a block, the state as it is -/
theorem Inv.call' {s' : Shared} {ch : List Addr} (I : Inv X pins σ H s) (ho : s'.os = s.os) (u : Un (frs X.stack) ch H H' s.heap s'.heap) (hok : HOk X.prog X.w H' s'.heap) (hg : AllBare s'.gens)
    (hch : ∀ b ∈ ch, (b ∈ X.ex ∨ X.s₀.heap.objs.size ≤ b) ∧ b ≠ X.env.locals ∧ (∀ x c, X.env.cells.lookup x = some c → c ≠ b) ∧ ∀ p ∈ X.pn ++ pins, p.1 ≠ b) : Inv X pins σ H' s' := by
  obtain ⟨h', g', d', t', o'⟩ := s'
  have e : o' = s.os := ho
  subst e
  exact I.call (g' := g') (t' := t') (d' := d') u hok hg hch
end

/-! ### the judgements -/
/-- an exception: its class, its own dict's address (where it has one), the abstract heap behind it -/
abbrev XK := Value → Option Addr → Hp → Prop
abbrev St := List (Option V)
abbrev VK := V → Hp → Prop
/-- an expression's reading; a test's; an argument list's -/
abbrev TE := St → Hp → VK → Prop
abbrev TT := St → Hp → (Bool → Hp → Prop) → Prop
abbrev TA := St → Hp → (List V → Hp → Prop) → Prop
/-- what is wanted behind a statement -/
structure Ends where
  nx : St → Hp → Prop
  rt : VK
  bk : St → Hp → Prop := fun _ _ => False
  ct : St → Hp → Prop := fun _ _ => False
abbrev TS := Ends → St → Hp → Prop

def EP (X : Cx) (pins : List (Addr × Obj)) (σ : St) (Q : VK) (u : Value) (s' : Shared) : Prop := ∃ v H', Inv X pins σ H' s' ∧ RelV v u ∧ Q v H'
def TP (X : Cx) (pins : List (Addr × Obj)) (σ : St) (Q : Bool → Hp → Prop) (b : Bool) (s' : Shared) : Prop := ∃ H', Inv X pins σ H' s' ∧ Q b H'
def AP (X : Cx) (pins : List (Addr × Obj)) (σ : St) (Q : List V → Hp → Prop) (us : List Value) (s' : Shared) : Prop := ∃ vs H', Inv X pins σ H' s' ∧ Vals vs us ∧ Q vs H'
def SP (X : Cx) (pins : List (Addr × Obj)) (D : Ends) (f : Flow) (s' : Shared) : Prop :=
  match f with
  | .next => ∃ σ' H', Inv X pins σ' H' s' ∧ D.nx σ' H'
  | .brk => ∃ σ' H', Inv X pins σ' H' s' ∧ D.bk σ' H'
  | .cont => ∃ σ' H', Inv X pins σ' H' s' ∧ D.ct σ' H'
  | .ret u => ∃ v σ' H', Inv X pins σ' H' s' ∧ RelV v u ∧ D.rt v H'

def PE (X : Cx) (e : Expr) (t : TE) : Prop :=
  ∀ (pins : List (Addr × Obj)) (s : Shared) (σ : St) (H : Hp) (Q : VK), Inv X pins σ H s → t σ H Q → wpAny (model X.prog X.w) X.A (eval e X.env) (EP X pins σ Q) X.xe s
def PT (X : Cx) (e : Expr) (t : TT) : Prop :=
  ∀ (pins : List (Addr × Obj)) (s : Shared) (σ : St) (H : Hp) (Q : Bool → Hp → Prop), Inv X pins σ H s → t σ H Q → wpAny (model X.prog X.w) X.A (isTrue e X.env (eval e X.env)) (TP X pins σ Q) X.xe s
/-- a test whatever its 'whole' is (and, or) -/
def PW (X : Cx) (e : Expr) (t : TT) : Prop :=
  ∀ (whole : Sem Value) (pins : List (Addr × Obj)) (s : Shared) (σ : St) (H : Hp) (Q : Bool → Hp → Prop), Inv X pins σ H s → t σ H Q → wpAny (model X.prog X.w) X.A (isTrue e X.env whole) (TP X pins σ Q) X.xe s
theorem PW.pt {X : Cx} {e : Expr} {t : TT} (h : PW X e t) : PT X e t := h _
/-- an argument list (no star), from the left -/
def PA (X : Cx) (es : List Expr) (t : TA) : Prop :=
  ∀ (pos : Pos) (pins : List (Addr × Obj)) (s : Shared) (σ : St) (H : Hp) (Q : List V → Hp → Prop), Inv X pins σ H s → t σ H Q → wpAny (model X.prog X.w) X.A (spliced (backTo pos (starEach es X.env))) (AP X pins σ Q) X.xe s
def PS (X : Cx) (st : Stmt) (t : TS) : Prop :=
  ∀ (pins : List (Addr × Obj)) (s : Shared) (σ : St) (H : Hp) (D : Ends), Inv X pins σ H s → t D σ H → wpAny (model X.prog X.w) X.A (exec st X.env) (SP X pins D) X.xe s
def PSs (X : Cx) (st : List Stmt) (t : TS) : Prop :=
  ∀ (pins : List (Addr × Obj)) (s : Shared) (σ : St) (H : Hp) (D : Ends), Inv X pins σ H s → t D σ H → wpAny (model X.prog X.w) X.A (execs st X.env) (SP X pins D) X.xe s
/-- weaken the end -/
theorem thn {α : Type} {t : Sem α} {Q Q' : α → Shared → Prop} {M : Model} {A : Around} {E : Value → Shared → Prop} {s : Shared} (h : wpAny M A t Q E s) (hQ : ∀ a s, Q a s → Q' a s) : wpAny M A t Q' E s := wpAny_mono h hQ fun _ _ x => x
end L2

namespace L2
open PySem PySem.Spec PyProof.Rows
section
variable {X : Cx}

/-! ### names and constants -/
def tVar (i : Nat) : TE := fun σ H Q => ∃ v, σ[i]? = some (some v) ∧ Q v H
def tC (v : V) : TE := fun _ H Q => Q v H
theorem pe_var {i : Nat} {x : Str} {pos : Pos} (hN : X.N[i]? = some x) (hv : Vis X.env.scope x) (hd : (x == ("__debug__" : Str)) = false := by decide) (hcd : (x == ("__classdict__" : Str)) = false := by decide) : PE X (.Name x pos) (tVar i) := by
  intro pins s σ H Q I h
  obtain ⟨v, e, h⟩ := h
  obtain ⟨m, hn, hl⟩ := I.loc
  obtain ⟨u, r, l⟩ := hl i x v hN e hv
  have fin : EP X pins σ Q u s := ⟨v, H, I, r, h⟩
  rcases l with ⟨hk, hm⟩ | ⟨hk, c, hc, hcell⟩
  · exact wpAny_Name (wpAny_loadName_local I.ok.kind hk hn hm fin) hd
  · rcases hk with hk | hk
    · exact wpAny_Name (wpAny_loadName_cell I.ok.kind hk hc hcell fin) hd
    · exact wpAny_Name (wpAny_loadName_free I.ok.kind hk hc hcell fin hcd) hd
theorem pe_int {i j pos} : PE X (.Constant (.int i) j pos) (tC (.int i)) := fun _ _ _ H _ I h => wpAny_Constant_int ⟨.int i, H, I.tok _, ⟨_, rfl⟩, h⟩
theorem pe_bl {b j pos} : PE X (.Constant (.bool b) j pos) (tC (.bl b)) := fun _ _ _ H _ I h => Constant_bool ⟨.bl b, H, I, rfl, h⟩
theorem pe_non {j pos} : PE X (.Constant .none j pos) (tC .non) := fun _ _ _ H _ I h => Constant_none ⟨.non, H, I, rfl, h⟩
theorem pe_str {x j pos} : PE X (.Constant (.str x) j pos) (tC (.str x)) := fun _ _ _ H _ I h => Calls.Constant_str ⟨.str x, H, I.tok _, ⟨_, rfl⟩, h⟩

/-- a global name of the def -/
def Gl (X : Cx) (x : Str) : Prop := X.env.kindOf x = some .globalImplicit
theorem ld_glob {E : Value → Shared → Prop} {pins : List (Addr × Obj)} {s : Shared} {σ : St} {H : Hp} {x : Str} {u : Value} {pos : Pos} {Q : Value → Shared → Prop} (I : Inv X pins σ H s) (hg : Gl X x) (hm : X.mg x = some u) (h : Q u s)
    (hd : (x == ("__debug__" : Str)) = false := by decide) : wpAny (model X.prog X.w) X.A (eval (.Name x pos) X.env) Q E s :=
  Calls.Name_function_global I.ok.kind hg (Calls.loadGlobal_global (by rw [I.ok.glob]; exact I.mod.glob.keeps I.bk) hm h) hd
theorem ld_blt {E : Value → Shared → Prop} {pins : List (Addr × Obj)} {s : Shared} {σ : St} {H : Hp} {x : Str} {u : Value} {pos : Pos} {Q : Value → Shared → Prop} (I : Inv X pins σ H s) (hg : Gl X x) (hm : X.mg x = none) (hv : bootBuiltins x = some u) (h : Q u s)
    (hn : x ≠ "__name__" := by decide) (hd : (x == ("__debug__" : Str)) = false := by decide) : wpAny (model X.prog X.w) X.A (eval (.Name x pos) X.env) Q E s := by
  obtain ⟨mb, h1, h2⟩ := I.mod.blt
  exact Calls.Name_function_global I.ok.kind hg (Calls.loadGlobal_builtin (by rw [I.ok.glob]; exact I.mod.glob.keeps I.bk) hm (by rw [I.ok.blt]; exact h1.keeps I.bk) ((h2 x hn).trans hv) h) hd
/-- a module's constant, a class, a function, as a value -/
theorem pe_glob {x : Str} {v : V} {u : Value} {pos : Pos} (hg : Gl X x) (hm : X.mg x = some u) (r : RelV v u) (hd : (x == ("__debug__" : Str)) = false := by decide) : PE X (.Name x pos) (tC v) :=
  fun _ _ _ H _ I h => ld_glob I hg hm ⟨v, H, I, r, h⟩ hd
theorem pe_bltn {x : Str} {v : V} {u : Value} {pos : Pos} (hg : Gl X x) (hm : X.mg x = none) (hv : bootBuiltins x = some u) (r : RelV v u) (hn : x ≠ "__name__" := by decide) (hd : (x == ("__debug__" : Str)) = false := by decide) : PE X (.Name x pos) (tC v) :=
  fun _ _ _ H _ I h => ld_blt I hg hm hv ⟨v, H, I, r, h⟩ hn hd

/-! ### arithmetic -/
/-- two ints -/
def t2I (ta tb : TE) (k : Int → Int → Hp → Prop) : St → Hp → Prop := fun σ H => ta σ H fun x H1 => tb σ H1 fun y H2 => ∃ i j, x = .int i ∧ y = .int j ∧ k i j H2
def tAdd (ta tb : TE) : TE := fun σ H Q => t2I ta tb (fun i j H2 => Q (.int (i + j)) H2) σ H
def tSub (ta tb : TE) : TE := fun σ H Q => t2I ta tb (fun i j H2 => Q (.int (i - j)) H2) σ H
/-- the left factor below 2^64 -/
def tMul (ta tb : TE) : TE := fun σ H Q => t2I ta tb (fun i j H2 => (-(2 ^ 64) < i ∧ i < 2 ^ 64) ∧ Q (.int (i * j)) H2) σ H
variable {a b : Expr} {ta tb : TE} {pos : Pos}
/-! ### comparisons -/
def PC (X : Cx) (op : CmpOp) (a b : Expr) (t : TE) : Prop :=
  ∀ (pins : List (Addr × Obj)) (s : Shared) (σ : St) (H : Hp) (Q : VK), Inv X pins σ H s → t σ H Q →
    wpAny (model X.prog X.w) X.A (eval a X.env) (fun v s₁ => wpAny (model X.prog X.w) X.A (eval b X.env) (fun u s₂ => wpAny (model X.prog X.w) X.A (compareOp op v u) (EP X pins σ Q) X.xe s₂) X.xe s₁) X.xe s
def tCmp (p : Int → Int → Bool) (ta tb : TE) : TE := fun σ H Q => t2I ta tb (fun i j H2 => Q (.bl (p i j)) H2) σ H
abbrev tLt : TE → TE → TE := tCmp fun i j => decide (i < j)
abbrev tLe : TE → TE → TE := tCmp fun i j => decide (i ≤ j)
abbrev tGt : TE → TE → TE := tCmp fun i j => decide (j < i)
abbrev tGe : TE → TE → TE := tCmp fun i j => decide (j ≤ i)
abbrev tEqI : TE → TE → TE := tCmp fun i j => decide (i = j)
abbrev tNeI : TE → TE → TE := tCmp fun i j => !decide (i = j)
/-- is None -/
def tIsN (ta : TE) : TE := fun σ H Q => ta σ H fun x H1 => Q (.bl (decide (x = .non))) H1
def tNotN (ta : TE) : TE := fun σ H Q => ta σ H fun x H1 => Q (.bl (!decide (x = .non))) H1
/-- a comparison as a value, as a test -/
def tB (t : TE) : TT := fun σ H Q => t σ H fun x H1 => ∃ c, x = .bl c ∧ Q c H1
/-- an expression whose value is a bool, as a test -/
theorem pt_val {e : Expr} {t : TE} (h : PE X e t) (he : ∀ whole, isTrue e X.env whole = (do let v ← whole; standAt e.pos; holding [v] (truthy v)) := by intro _; rfl) : PT X e (tB t) := by
  intro pins s σ H Q I hw
  refine isTrue_plain (thn (h pins s σ H _ I hw) fun v s1 ⟨x, H1, I1, r1, q1⟩ => ?_) (he _)
  obtain ⟨d, rfl, q⟩ := q1
  cases r1
  exact wpAny_truthy_bool ⟨H1, I1, q⟩

/-! ### and, or, not -/
variable {tA tB' : TT} {rest : List Expr}
def tAnd (t u : TT) : TT := fun σ H Q => t σ H fun c H1 => if c = true then u σ H1 Q else Q false H1
def tOr (t u : TT) : TT := fun σ H Q => t σ H fun c H1 => if c = true then Q true H1 else u σ H1 Q
def tNot (t : TT) : TT := fun σ H Q => t σ H fun c H1 => Q (!c) H1
theorem pw_and1 (ha : PT X a tA) : PW X (.BoolOp .And [a] pos) tA := by
  intro wh pins s σ H Q I h
  refine isTrue_and (thn (ha pins s σ H Q I h) fun c s1 e => ?_)
  cases c with
  | true => exact isTrue_and_nil e
  | false => exact e
theorem pw_or1 (ha : PT X a tA) : PW X (.BoolOp .Or [a] pos) tA := by
  intro wh pins s σ H Q I h
  refine isTrue_or (thn (ha pins s σ H Q I h) fun c s1 e => ?_)
  cases c with
  | false => exact isTrue_or_nil e
  | true => exact e
theorem pw_and (ha : PT X a tA) (hb : PW X (.BoolOp .And (b :: rest) pos) tB') : PW X (.BoolOp .And (a :: b :: rest) pos) (tAnd tA tB') := by
  intro wh pins s σ H Q I h
  refine isTrue_and (thn (ha pins s σ H _ I h) fun c s1 ⟨H1, I1, q1⟩ => ?_)
  cases c with
  | true => exact hb wh pins s1 σ H1 Q I1 q1
  | false => exact ⟨H1, I1, q1⟩
theorem pw_or (ha : PT X a tA) (hb : PW X (.BoolOp .Or (b :: rest) pos) tB') : PW X (.BoolOp .Or (a :: b :: rest) pos) (tOr tA tB') := by
  intro wh pins s σ H Q I h
  refine isTrue_or (thn (ha pins s σ H _ I h) fun c s1 ⟨H1, I1, q1⟩ => ?_)
  cases c with
  | true => exact ⟨H1, I1, q1⟩
  | false => exact hb wh pins s1 σ H1 Q I1 q1
theorem pt_not (ha : PT X a tA) : PT X (.UnaryOp .Not a pos) (tNot tA) := by
  intro pins s σ H Q I h
  exact isTrue_not (ha pins s σ H (fun c H1 => Q (!c) H1) I h)
/-- .. as values (bools) -/
def tAndV (ta tb : TE) : TE := fun σ H Q => ta σ H fun x H1 => ∃ c, x = .bl c ∧ if c = true then tb σ H1 Q else Q (.bl false) H1
def tOrV (ta tb : TE) : TE := fun σ H Q => ta σ H fun x H1 => ∃ c, x = .bl c ∧ if c = true then Q (.bl true) H1 else tb σ H1 Q
def tNotV (ta : TE) : TE := fun σ H Q => ta σ H fun x H1 => ∃ c, x = .bl c ∧ Q (.bl (!c)) H1
theorem pe_one {op} {t : TE} (h : PE X a t) : PE X (.BoolOp op [a] pos) t := fun pins s σ H Q I hw => BoolOp_one (h pins s σ H Q I hw)
theorem pe_and (ha : PE X a ta) (hb : PE X (.BoolOp .And (b :: rest) pos) tb) : PE X (.BoolOp .And (a :: b :: rest) pos) (tAndV ta tb) := by
  intro pins s σ H Q I h
  refine BoolOp_and (thn (ha pins s σ H _ I h) fun v s1 ⟨x, H1, I1, r1, q1⟩ => ?_)
  obtain ⟨c, rfl, q1⟩ := q1
  cases r1
  refine wpAny_truthy_bool ?_
  cases c with
  | true => exact hb pins s1 σ H1 Q I1 q1
  | false => exact ⟨.bl false, H1, I1, rfl, q1⟩
theorem pe_or (ha : PE X a ta) (hb : PE X (.BoolOp .Or (b :: rest) pos) tb) : PE X (.BoolOp .Or (a :: b :: rest) pos) (tOrV ta tb) := by
  intro pins s σ H Q I h
  refine BoolOp_or (thn (ha pins s σ H _ I h) fun v s1 ⟨x, H1, I1, r1, q1⟩ => ?_)
  obtain ⟨c, rfl, q1⟩ := q1
  cases r1
  refine wpAny_truthy_bool ?_
  cases c with
  | false => exact hb pins s1 σ H1 Q I1 q1
  | true => exact ⟨.bl true, H1, I1, rfl, q1⟩
theorem pe_not (ha : PE X a ta) : PE X (.UnaryOp .Not a pos) (tNotV ta) := by
  intro pins s σ H Q I h
  refine UnaryOp_ (thn (ha pins s σ H _ I h) fun v s1 ⟨x, H1, I1, r1, q1⟩ => ?_)
  obtain ⟨c, rfl, q1⟩ := q1
  cases r1
  exact not_of (wpAny_truthy_bool ⟨.bl (!c), H1, I1, rfl, q1⟩)
/-- a if t else b -/
def tIf (t : TT) (ta tb : TE) : TE := fun σ H Q => t σ H fun c H1 => if c = true then ta σ H1 Q else tb σ H1 Q
theorem pe_ifExp {c : Expr} (hc : PT X c tA) (ha : PE X a ta) (hb : PE X b tb) : PE X (.IfExp c a b pos) (tIf tA ta tb) := by
  intro pins s σ H Q I h
  refine wpAny_IfExp (thn (hc pins s σ H _ I h) fun d s1 ⟨H1, I1, q1⟩ => ?_)
  cases d with
  | true => exact ha pins s1 σ H1 Q I1 q1
  | false => exact hb pins s1 σ H1 Q I1 q1
end
end L2

namespace L2
open PySem PySem.Spec PyProof.Rows

/-! ### a list, a tuple that is read: tracked, frozen, or an object of the module -/
def SqL (K : PySem.W.Frag) (H : Hp) (a : Addr) (xs : List V) : Prop :=
  Rd H a (.lst xs) ∨
    ∃ (o : Obj) (its : Array Value) (n : Nat), K.lookup a = some o ∧ o.cls = .type "list" ∧ o.dict = none ∧ o.data = .seq its n ∧ its.size ≤ sizeLine ∧ Vals xs its.toList
def SqT (K : PySem.W.Frag) (H : Hp) (a : Addr) (xs : List V) : Prop :=
  Rd H a (.tup xs) ∨
    ∃ (o : Obj) (its : Array Value) (n : Nat), K.lookup a = some o ∧ o.cls = .type "tuple" ∧ o.data = .seq its n ∧ its.size ≤ sizeLine ∧ Vals xs its.toList
def absV : Value → Option V
  | .none => some .non
  | .bool b => some (.bl b)
  | .int i _ => some (.int i)
  | .str x _ => some (.str x)
  | .bytes b _ => some (.byt b)
  | .float b _ => some (.flt b)
  | .ref a => some (.ref a)
  | .type n => some (.ty n)
  | _ => none
theorem RelV.abs {x : V} {u : Value} (r : RelV x u) : absV u = some x := by
  cases x with
  | non => cases r; rfl
  | bl _ => cases r; rfl
  | int _ => obtain ⟨t, rfl⟩ := r; rfl
  | str _ => obtain ⟨t, rfl⟩ := r; rfl
  | byt _ => obtain ⟨t, rfl⟩ := r; rfl
  | flt _ => obtain ⟨t, rfl⟩ := r; rfl
  | ref _ => cases r; rfl
  | ty _ => cases r; rfl
theorem RelV.inj {x y : V} {u : Value} (r : RelV x u) (q : RelV y u) : x = y := Option.some.inj (r.abs.symm.trans q.abs)
theorem Vals.inj : ∀ {xs ys : List V} {us : List Value}, Vals xs us → Vals ys us → xs = ys
  | _, _, _, .nil, .nil => rfl
  | _, _, _, .cons r t, .cons r' t' => by rw [r.inj r', Vals.inj t t']
section
variable {X : Cx} {pins : List (Addr × Obj)} {σ : St} {H : Hp} {s : Shared} {a : Addr} {xs ys : List V}
theorem SqL.of {K : PySem.W.Frag} (h : H a = some (.lst xs)) : SqL K H a xs := .inl (.inl h)
theorem SqT.of {K : PySem.W.Frag} (h : H a = some (.tup xs)) : SqT K H a xs := .inl (.inl h)
theorem Inv.list (I : Inv X pins σ H s) (h : SqL X.K H a xs) : ∃ its : List Value, Vals xs its ∧ PlainL s.heap a its.toArray ∧ xs.length ≤ sizeLine := by
  rcases h with h | ⟨o, its, n, hk, hc, hd, hs, hz, r⟩
  · obtain ⟨z, its, n, r, e⟩ := h.ok I.hok
    exact ⟨its, r, ⟨_, n, e, rfl, rfl, rfl⟩, z⟩
  · refine ⟨its.toList, r, ⟨o, n, I.kIn a o hk, hc, hd, by simpa using hs⟩, ?_⟩
    have e := r.length
    simp only [Array.length_toList] at e
    omega
theorem Inv.tuple (I : Inv X pins σ H s) (h : SqT X.K H a xs) : ∃ its : List Value, Vals xs its ∧ IsTup s.heap a its.toArray ∧ xs.length ≤ sizeLine := by
  rcases h with h | ⟨o, its, n, hk, hc, hs, hz, r⟩
  · obtain ⟨z, its, r, p⟩ := h.ok I.hok
    exact ⟨its, r, p, z⟩
  · refine ⟨its.toList, r, ⟨o, I.kIn a o hk, hc, n, by simpa using hs⟩, ?_⟩
    have e := r.length
    simp only [Array.length_toList] at e
    omega
theorem Inv.list_inj (I : Inv X pins σ H s) (h : SqL X.K H a xs) (h' : SqL X.K H a ys) : xs = ys := by
  obtain ⟨its, r, ⟨o, n, e, _, _, d⟩, _⟩ := I.list h
  obtain ⟨its', r', ⟨o', n', e', _, _, d'⟩, _⟩ := I.list h'
  rw [e] at e'; cases e'
  rw [d] at d'
  injection d' with d1 _
  have : its = its' := by simpa using congrArg Array.toList d1
  subst this
  exact r.inj r'
theorem Inv.tuple_inj (I : Inv X pins σ H s) (h : SqT X.K H a xs) (h' : SqT X.K H a ys) : xs = ys := by
  obtain ⟨its, r, ⟨o, e, _, n, d⟩, _⟩ := I.tuple h
  obtain ⟨its', r', ⟨o', e', _, n', d'⟩, _⟩ := I.tuple h'
  rw [e] at e'; cases e'
  rw [d] at d'
  injection d' with d1 _
  have : its = its' := by simpa using congrArg Array.toList d1
  subst this
  exact r.inj r'
end

/-! ### another wish about exceptions -/
abbrev Cx.wish (X : Cx) (E : Value → Shared → Prop) : Cx := { X with xe := E }
/-- no exception leaves -/
abbrev Cx.nox (X : Cx) : Cx := X.wish fun _ _ => False
theorem Cx.Ok.wish {X : Cx} (ok : X.Ok) (E : Value → Shared → Prop) : (X.wish E).Ok :=
  ⟨ok.mod, ok.kind, ok.glob, ok.blt, ok.above, ok.inj, ok.has, ok.cab, ok.hd, ok.frames, ok.stk, ok.exf, ok.bs, ok.bsz, ok.noex, ok.exfs, ok.funs, ok.frf⟩
theorem Cx.Ok.unwish {X : Cx} {E : Value → Shared → Prop} (ok : (X.wish E).Ok) : X.Ok :=
  ⟨ok.mod, ok.kind, ok.glob, ok.blt, ok.above, ok.inj, ok.has, ok.cab, ok.hd, ok.frames, ok.stk, ok.exf, ok.bs, ok.bsz, ok.noex, ok.exfs, ok.funs, ok.frf⟩
section
variable {X : Cx} {pins : List (Addr × Obj)} {σ : St} {H : Hp} {s : Shared} {E : Value → Shared → Prop}
theorem Inv.wish (I : Inv X pins σ H s) (E : Value → Shared → Prop) : Inv (X.wish E) pins σ H s := ⟨I.ok.wish E, I.os, I.bare, I.base, I.loc, I.cell, I.free, I.freeC, I.pin, I.hok, I.len⟩
theorem Inv.unwish (I : Inv (X.wish E) pins σ H s) : Inv X pins σ H s := ⟨I.ok.unwish, I.os, I.bare, I.base, I.loc, I.cell, I.free, I.freeC, I.pin, I.hok, I.len⟩
theorem SP.unwish {D : Ends} {f : Flow} {s' : Shared} (h : SP (X.wish E) pins D f s') : SP X pins D f s' := by
  cases f with
  | next => obtain ⟨σ', H', I, q⟩ := h; exact ⟨σ', H', I.unwish, q⟩
  | brk => obtain ⟨σ', H', I, q⟩ := h; exact ⟨σ', H', I.unwish, q⟩
  | cont => obtain ⟨σ', H', I, q⟩ := h; exact ⟨σ', H', I.unwish, q⟩
  | ret u => obtain ⟨v, σ', H', I, r, q⟩ := h; exact ⟨v, σ', H', I.unwish, r, q⟩
theorem PSs.nox {st : List Stmt} {t : TS} (h : PSs X.nox st t) : PSs X st t := fun pins s σ H D I hw =>
  wpAny_mono (h pins s σ H D (I.wish _) hw) (fun _ _ q => q.unwish) fun _ _ z => False.elim z
end

/-! ### blocks and small statements -/
section
variable {X : Cx} {st : Stmt} {rest : List Stmt} {t u : TS} {e : Expr} {te : TE} {pos : Pos}
def tNext : TS := fun D σ H => D.nx σ H
def tSeq (t u : TS) : TS := fun D σ H => t { D with nx := u D } σ H
theorem pss_nil : PSs X [] tNext := fun _ _ σ H _ I h => wpAny_execs_nil ⟨σ, H, I, h⟩
theorem pss_cons (h1 : PS X st t) (h2 : PSs X rest u) : PSs X (st :: rest) (tSeq t u) := by
  intro pins s σ H D I h
  refine wpAny_execs_cons (thn (h1 pins s σ H { D with nx := u D } I h) fun f s1 q => ?_)
  cases f with
  | next =>
    obtain ⟨σ', H', I', q⟩ := q
    exact h2 pins s1 σ' H' D I' q
  | ret v => exact q
  | brk => exact q
  | cont => exact q
theorem pss_one (h1 : PS X st t) : PSs X [st] t := by
  intro pins s σ H D I h
  refine wpAny_execs_cons (thn (h1 pins s σ H D I h) fun f s1 q => ?_)
  cases f with
  | next => exact wpAny_execs_nil q
  | ret v => exact q
  | brk => exact q
  | cont => exact q
def tBreak : TS := fun D σ H => D.bk σ H
def tCont : TS := fun D σ H => D.ct σ H
/-- in a def's body nothing is shown -/
theorem Inv.quiet {pins : List (Addr × Obj)} {σ : St} {H : Hp} {s : Shared} (I : Inv X pins σ H s) : interactive X.env = false := by simp [interactive, I.ok.kind]
/-- an expression whose value is dropped -/
def tDrop (te : TE) : TS := fun D σ H => te σ H fun _ H1 => D.nx σ H1
theorem ps_expr (he : PE X e te) (hs : swapsWith e none pos.line X.env = pure false := by rfl) : PS X (.Expr e pos) (tDrop te) := by
  intro pins s σ H D I h
  exact wpAny_Expr_any (thn (he pins s σ H _ I h) fun v s1 ⟨x, H1, I1, r1, q1⟩ => ⟨σ, H1, I1, q1⟩) I.quiet hs
def tRet (te : TE) : TS := fun D σ H => te σ H D.rt
theorem ps_ret (he : PE X e te) : PS X (.Return (some e) pos) (tRet te) := by
  intro pins s σ H D I h
  exact wpAny_Return_some (thn (he pins s σ H _ I h) fun v s1 ⟨x, H1, I1, r1, q1⟩ => ⟨x, σ, H1, I1, r1, q1⟩)
def tRetN : TS := fun D _ H => D.rt .non H
def tIfS (c : TT) (t u : TS) : TS := fun D σ H => c σ H fun b H1 => if b = true then t D σ H1 else u D σ H1
theorem ps_if {c : Expr} {a b : List Stmt} {tc : TT} (hc : PT X c tc) (ha : PSs X a t) (hb : PSs X b u) : PS X (.If c a b pos) (tIfS tc t u) := by
  intro pins s σ H D I h
  refine wpAny_If (thn (hc pins s σ H _ I h) fun d s1 ⟨H1, I1, q1⟩ => ?_)
  cases d with
  | true => exact ha pins s1 σ H1 D I1 q1
  | false => exact hb pins s1 σ H1 D I1 q1
/-- code that the proof never comes to -/
def tNever : TS := fun _ _ _ => False
end

/-! ### targets -/
abbrev TG := V → St → Hp → (St → Hp → Prop) → Prop
abbrev TGs := List V → St → Hp → (St → Hp → Prop) → Prop
def PG (X : Cx) (target : Expr) (t : TG) : Prop :=
  ∀ (pins : List (Addr × Obj)) (s : Shared) (σ : St) (H : Hp) (v : V) (u : Value) (Q : St → Hp → Prop), Inv X pins σ H s → RelV v u → t v σ H Q →
    wpAny (model X.prog X.w) X.A (assign target X.env u) (fun _ s' => ∃ σ' H', Inv X pins σ' H' s' ∧ Q σ' H') X.xe s
/-- several targets, one after another -/
def PGs (X : Cx) (ts : List Expr) (t : TGs) : Prop :=
  ∀ (pins : List (Addr × Obj)) (s : Shared) (σ : St) (H : Hp) (vs : List V) (us : List Value) (Q : St → Hp → Prop), Inv X pins σ H s → Vals vs us → t vs σ H Q →
    wpAny (model X.prog X.w) X.A (assignInOrder ((assignEach ts X.env).map (·.2)) us) (fun _ s' => ∃ σ' H', Inv X pins σ' H' s' ∧ Q σ' H') X.xe s
/-- o[i] = v, by values -/
abbrev TSet := V → V → V → Hp → (Hp → Prop) → Prop
def PSet (X : Cx) (t : TSet) : Prop :=
  ∀ (pins : List (Addr × Obj)) (s : Shared) (σ : St) (H : Hp) (o i v : V) (ov iv u : Value) (Q : Hp → Prop), Inv X pins σ H s → RelV o ov → RelV i iv → RelV v u → t o i v H Q →
    wpAny (model X.prog X.w) X.A (setItem ov iv u) (fun _ s' => ∃ H', Inv X pins σ H' s' ∧ Q H') X.xe s
/-- a op= b, by values -/
abbrev TIp := V → V → Hp → VK → Prop
def PIp (X : Cx) (op : Operator) (t : TIp) : Prop :=
  ∀ (pins : List (Addr × Obj)) (s : Shared) (σ : St) (H : Hp) (x y : V) (v u : Value) (Q : VK), Inv X pins σ H s → RelV x v → RelV y u → t x y H Q →
    wpAny (model X.prog X.w) X.A (inplaceOp op v u) (EP X pins σ Q) X.xe s
section
variable {X : Cx} {pos : Pos}
def gName (i : Nat) : TG := fun v σ H Q => Q (σ.set i (some v)) H
theorem pg_name {i : Nat} {x : Str} (hN : X.N.Nodup) (hi : X.N[i]? = some x) (hx : Loc X.env.scope x) (hf : X.fn x = true ∨ X.env.scope.names.lookup x = some .local := by first | exact .inl rfl | exact .inr rfl | assumption) : PG X (.Name x pos) (gName i) := by
  intro pins s σ H v u Q I r h
  exact wpAny_assign_Name (store_ok I hN hi hx r (fun s' I' => ⟨_, H, I', h⟩) hf)
def gNil : TGs := fun vs σ H Q => vs = [] ∧ Q σ H
def gCons (t : TG) (u : TGs) : TGs := fun vs σ H Q => ∃ v r, vs = v :: r ∧ t v σ H fun σ' H' => u r σ' H' Q
theorem pgs_nil : PGs X [] gNil := by
  intro pins s σ H vs us Q I r h
  obtain ⟨e, h⟩ := h
  subst e
  cases r
  exact assignInOrder_nil ⟨σ, H, I, h⟩
theorem pgs_cons {e : Expr} {es : List Expr} {t : TG} {u : TGs} (h1 : PG X e t) (h2 : PGs X es u)
    (hs : (assignEach (e :: es) X.env).map (·.2) = assign e X.env :: (assignEach es X.env).map (·.2) := by rfl) : PGs X (e :: es) (gCons t u) := by
  intro pins s σ H vs us Q I r h
  obtain ⟨v, vr, e1, h⟩ := h
  subst e1
  cases r with
  | cons r rr =>
    rw [hs]
    refine assignInOrder_cons (thn (h1 pins s σ H _ _ _ I r h) fun _ s1 ⟨σ1, H1, I1, q1⟩ => ?_)
    exact h2 pins s1 σ1 H1 _ _ Q I1 rr q1
/-- (a, b, ..) = a tuple of that length -/
def gTup (K : PySem.W.Frag) (n : Nat) (t : TGs) : TG := fun v σ H Q => ∃ a xs, v = .ref a ∧ SqT K H a xs ∧ xs.length = n ∧ t xs σ H Q
theorem pg_tup {es : List Expr} {k : Nat} {t : TGs} {n : Nat} (hc : X.calm = true) (h : PGs X es t)
    (hn : (assignEach es X.env).length = n := by rfl) (hst : (assignEach es X.env).findIdx? (·.1) = none := by rfl) : PG X (.Tuple es k pos) (gTup X.K n t) := by
  intro pins s σ H v u Q I r hw
  obtain ⟨a, xs, e1, hq, hl, hw⟩ := hw
  subst e1
  cases r
  obtain ⟨its, rv, ht, hz⟩ := I.tuple hq
  refine assign_Tuple_tuple (I.ok.hd hc) ht (by simp [hn, ← hl, rv.length]) hst fun h' hx => ?_
  have I1 : Inv X pins σ H { s with heap := h' } := I.kept (t' := s.toks) fun b o e => hx b o (Nat.ne_of_lt (Heap.lt_size e)) e
  exact h pins _ σ H xs _ Q I1 (by simpa using rv) hw
/-- o[i] = .. -/
def gSub (to ti : TE) (t : TSet) : TG := fun v σ H Q => to σ H fun o H1 => ti σ H1 fun i H2 => t o i v H2 fun H3 => Q σ H3
/-- target = value -/
def tAsg (te : TE) (g : TG) : TS := fun D σ H => te σ H fun x H1 => g x σ H1 D.nx
theorem ps_asg {tg e : Expr} {te : TE} {g : TG} (he : PE X e te) (hg : PG X tg g) (hs : swapsWithSole [tg] e pos.line X.env = pure false := by rfl) (hw : swappedStores [tg] e X.env = pure none := by rfl)
    (h1 : (assignEach [tg] X.env).map (·.2) = [assign tg X.env] := by rfl) : PS X (.Assign [tg] e pos) (tAsg te g) := by
  intro pins s σ H D I h
  refine wpAny_Assign_stores (thn (he pins s σ H _ I h) fun v s1 ⟨x, H1, I1, r1, q1⟩ => ?_) hs hw
  rw [h1]
  exact thn (hg pins s1 σ H1 x v _ I1 r1 q1) fun _ s2 q => q
/-- name = value -/
theorem ps_set {i : Nat} {x : Str} {e : Expr} {te : TE} {pos' : Pos} (hN : X.N.Nodup) (hi : X.N[i]? = some x) (hx : Loc X.env.scope x) (he : PE X e te) (hs : swapsWith e (some (.Name x pos')) pos.line X.env = pure false := by rfl) (hf : X.fn x = true ∨ X.env.scope.names.lookup x = some .local := by first | exact .inl rfl | exact .inr rfl | assumption) :
    PS X (.Assign [.Name x pos'] e pos) (tAsg te (gName i)) := by
  intro pins s σ H D I h
  refine wpAny_Assign_Name (thn (he pins s σ H _ I h) fun v s1 ⟨y, H1, I1, r1, q1⟩ => ?_) hs
  exact store_ok I1 hN hi hx r1 (fun s2 I2 => ⟨_, H1, I2, q1⟩) hf
/-- a, b = x, y with plain local names: stored from the right; the pair itself is not tracked (the opening rows as in PyProof/Rows/TupAssign.lean:23) -/
def tPar (i j : Nat) (ta : TA) : TS := fun D σ H => ta σ H fun vs H1 => ∃ v w, vs = [v, w] ∧ D.nx ((σ.set i (some v)).set j (some w)) H1
/-- name op= e -/
def tAug (i : Nat) (te : TE) (ti : TIp) : TS := fun D σ H => ∃ x, σ[i]? = some (some x) ∧ te σ H fun y H1 => ti x y H1 fun z H2 => D.nx (σ.set i (some z)) H2
/-- o[i] op= e -/
def tAugS (to ti te : TE) (tget : V → V → Hp → VK → Prop) (tip : TIp) (tset : TSet) : TS := fun D σ H => to σ H fun o H1 => ti σ H1 fun i H2 => tget o i H2 fun x H3 => te σ H3 fun y H4 => tip x y H4 fun z H5 => tset o i z H5 fun H6 => D.nx σ H6
/-- o[i], by values -/
def PGet (X : Cx) (t : V → V → Hp → VK → Prop) : Prop :=
  ∀ (pins : List (Addr × Obj)) (s : Shared) (σ : St) (H : Hp) (o i : V) (ov iv : Value) (Q : VK), Inv X pins σ H s → RelV o ov → RelV i iv → t o i H Q →
    wpAny (model X.prog X.w) X.A (getItem ov iv) (EP X pins σ Q) X.xe s
/-- ints -/
def ipI (f : Int → Int → Int) : TIp := fun x y H Q => ∃ i j, x = .int i ∧ y = .int j ∧ Q (.int (f i j)) H
end

/-! ### while -/
section
variable {X : Cx} {pos : Pos}
/-- the invariant W with its measure -/
def tWhile (c : TT) (tb : TS) : TS := fun D σ H => ∃ W : Nat → St → Hp → Prop, (∃ m, W m σ H) ∧ ∀ m σ H, W m σ H →
  c σ H fun b H1 => if b = true then ∃ N : St → Hp → Prop, (∀ σ' H', N σ' H' → ∃ m', m' < m ∧ W m' σ' H') ∧ tb { D with nx := N, ct := N, bk := D.nx } σ H1 else D.nx σ H1
end

/-! ### what a loop or a comprehension walks -/
/-- at turn i: it yields x (the heap may grow), or it stops -/
structure It where
  go : Nat → Hp → Prop
  yld : Nat → Hp → V → Hp → Prop
  stop : Nat → Hp → Prop
/-- the iterator's own objects may turn: they are not the frame's, not pinned, younger than the entry (or a comprehension's own) -/
def FpOk (X : Cx) (pins : List (Addr × Obj)) (H : Hp) (b : Addr) : Prop :=
  H b = none ∧ b ≠ X.env.locals ∧ b ∉ X.fs ∧ (b ∈ X.ex ∨ X.s₀.heap.objs.size ≤ b) ∧ (∀ x c, X.env.cells.lookup x = some c → c ≠ b) ∧ ∀ p ∈ X.pn ++ pins, p.1 ≠ b
theorem Inv.fpOk {X : Cx} {pins : List (Addr × Obj)} {σ : St} {H H' : Hp} {s : Shared} {b : Addr} (I : Inv X pins σ H s) (hb : s.heap.objs.size ≤ b) (hn : H' b = none) : FpOk X pins H' b := by
  refine ⟨hn, Nat.ne_of_gt (Nat.lt_of_lt_of_le I.lt hb), I.nofs hb, .inr (Nat.le_trans I.sz hb), fun x c e z => ?_, fun p hp z => ?_⟩
  · obtain ⟨v, q⟩ := I.cell x c e
    exact absurd (Nat.lt_of_lt_of_le q.lt (by rw [z]; exact hb)) (Nat.lt_irrefl _)
  · exact absurd (Nat.lt_of_lt_of_le (Heap.lt_size (I.pin p hp).1) (by rw [z]; exact hb)) (Nat.lt_irrefl _)
structure Turn (P : Program) (w : World) (K : PySem.W.Frag) (tg : Expr) (J : It) (fp : List Addr) (it : Addr) (tn : Nat → Heap → Prop) : Prop where
  mem : it ∈ fp
  obj : ∀ i h, tn i h → ∀ b ∈ fp, ∃ o, h.get? b = some o ∧ ∀ v, o.data ≠ .cell v
  keep : ∀ i h h', tn i h → (∀ b ∈ fp, ∀ o, h.get? b = some o → h'.get? b = some o) → tn i h'
  item : ∀ (X : Cx), X.prog = P → X.w = w → X.K = K → X.calm = true → ∀ (i : Nat) (pins : List (Addr × Obj)) (s : Shared) (σ : St) (H : Hp) (E : Value → Shared → Prop), Inv X pins σ H s → (∀ b ∈ fp, FpOk X pins H b) → tn i s.heap → J.go i H →
    wpAny (model P w) X.A (pyNext (.ref it)) (fun r s1 => ∃ u, r = some u ∧
      wpAny (model P w) X.A (letOwnedTupleGo tg (.ref it) u) (fun _ s2 => ∃ x H', Inv X pins σ H' s2 ∧ RelV x u ∧ J.yld i H x H' ∧ tn (i + 1) s2.heap ∧ ∀ b ∈ fp, H' b = none) E s1) E s
  done : ∀ (X : Cx), X.prog = P → X.w = w → X.K = K → X.calm = true → ∀ (i : Nat) (pins : List (Addr × Obj)) (s : Shared) (σ : St) (H : Hp) (E : Value → Shared → Prop), Inv X pins σ H s → (∀ b ∈ fp, FpOk X pins H b) → tn i s.heap → J.stop i H →
    wpAny (model P w) X.A (pyNext (.ref it)) (fun r s1 => r = none ∧ Inv X pins σ H s1) E s
  self : ∀ (A : Around) (i : Nat) (s : Shared) (Q : Value → Shared → Prop) (E : Value → Shared → Prop), tn i s.heap → Q (.ref it) s → wpAny (model P w) A (pyIter (.ref it)) Q E s
abbrev TI := St → Hp → (It → Hp → Prop) → Prop
/-- an iterator has come -/
def PIE (X : Cx) (pins : List (Addr × Obj)) (σ : St) (tg : Expr) (R : It → Hp → Prop) (itv : Value) (s2 : Shared) : Prop :=
  ∃ (it : Addr) (fp : List Addr) (tn : Nat → Heap → Prop) (J : It) (H' : Hp), itv = .ref it ∧ Inv X pins σ H' s2 ∧ Turn X.prog X.w X.K tg J fp it tn ∧ tn 0 s2.heap ∧ (∀ b ∈ fp, FpOk X pins H' b) ∧ R J H'
def PI (X : Cx) (tg iter : Expr) (wi : TI) : Prop :=
  ∀ (pins : List (Addr × Obj)) (s : Shared) (σ : St) (H : Hp) (R : It → Hp → Prop), Inv X pins σ H s → wi σ H R →
    wpAny (model X.prog X.w) X.A (eval iter X.env) (fun v s1 => wpAny (model X.prog X.w) X.A (pyIter v) (PIE X pins σ tg R) X.xe s1) X.xe s

/-- the step ahead of the store is nothing for an iterator that keeps no tuple -/
theorem go_of {M : Model} {A : Around} {E : Value → Shared → Prop} {s : Shared} {tg : Expr} {it : Addr} {u : Value} {o : Obj} {n : String} {vs : Array Value} {Q : Unit → Shared → Prop} (ho : s.heap.get? it = some o) (hc : o.cls = .type n) (hd : o.data = .fields vs)
    (hn : ["enumerate", "zip", "dict_itemiterator", "dict_reverseitemiterator", "odict_iterator", "itertools.zip_longest", "itertools.pairwise"].contains n = false) (hQ : Q () s) : wpAny M A (letOwnedTupleGo tg (.ref it) u) Q E s := by
  unfold letOwnedTupleGo
  cases tg <;> first
    | exact wpAny_pure hQ
    | (cases u <;> first
        | exact wpAny_pure hQ
        | (refine wpAny_bind (wpAny_load ho ?_)
           rw [hc, hd]
           show wpAny M A (if (["enumerate", "zip", "dict_itemiterator", "dict_reverseitemiterator", "odict_iterator", "itertools.zip_longest", "itertools.pairwise"].contains n && vs[0]? == some (rawInt _)) = true then _ else _) Q E s
           rw [if_neg (by intro h; rw [hn, Bool.false_and] at h; cases h)]
           exact wpAny_pure hQ))

/-- the list at a, as it stands at each turn (a loop may append to it) -/
def Itl (K : PySem.W.Frag) (a : Addr) : It :=
  ⟨fun i H => ∃ xs x, SqL K H a xs ∧ xs[i]? = some x, fun i H x H' => H' = H ∧ ∀ xs, SqL K H a xs → xs[i]? = some x, fun i H => ∃ xs, SqL K H a xs ∧ xs.length ≤ i⟩
def Itt (K : PySem.W.Frag) (a : Addr) : It :=
  ⟨fun i H => ∃ xs x, SqT K H a xs ∧ xs[i]? = some x, fun i H x H' => H' = H ∧ ∀ xs, SqT K H a xs → xs[i]? = some x, fun i H => ∃ xs, SqT K H a xs ∧ xs.length ≤ i⟩
/-- lo, lo + 1, .. (n of them) -/
def Itr (lo : Int) (n : Nat) : It := ⟨fun i _ => i < n, fun i H x H' => H' = H ∧ x = .int (lo + i), fun i _ => n ≤ i⟩
theorem turn_list {P : Program} {w : World} {K : PySem.W.Frag} {tg : Expr} (a it : Addr) : Turn P w K tg (Itl K a) [it] it (fun i h => h.IsListIter it a i) where
  mem := by simp
  obj := fun i h st b hb => by
    have e : b = it := by simpa using hb
    subst e
    obtain ⟨o, e, c, d⟩ := st
    exact ⟨o, e, fun v z => by rw [d] at z; cases z⟩
  keep := fun i h h' st k => st.at fun o e => k it (by simp) o e
  item := by
    intro X hP hw hK hc i pins s σ H E I hf st hg
    subst hP hw hK
    obtain ⟨xs, x, hq, hx⟩ := hg
    obtain ⟨its, rv, p, hz⟩ := I.list hq
    obtain ⟨u, hu, ru⟩ := rv.get hx
    obtain ⟨f0, f1, f2, f3, f4, f5⟩ := hf it (by simp)
    refine wpAny_pyNext_list_item st p.isList (x := u) (by simpa using hu) fun h' st' sb => ?_
    have I1 : Inv X pins σ H { s with heap := h' } := I.turned (t' := s.toks) (fun b o hb e => (sb.2 b hb).trans e) f0 f1 f3 f4 f5
    obtain ⟨o, e, c, d⟩ := id st'
    exact ⟨u, rfl, go_of (s := { s with heap := h' }) e c d (by decide) ⟨x, H, I1, ru, ⟨rfl, fun ys hy => by rw [I.list_inj hy hq]; exact hx⟩, st', fun b hb => (hf b hb).1⟩⟩
  done := by
    intro X hP hw hK hc i pins s σ H E I hf st hg
    subst hP hw hK
    obtain ⟨xs, hq, hx⟩ := hg
    obtain ⟨its, rv, p, hz⟩ := I.list hq
    obtain ⟨f0, f1, f2, f3, f4, f5⟩ := hf it (by simp)
    have hl := rv.length
    exact wpAny_pyNext_list_end (I.ok.hd hc) st p.isList (by simp; omega) fun h' eb => ⟨rfl, I.turned (t' := s.toks) (fun b o hb e => eb b o hb e) f0 f1 f3 f4 f5⟩
  self := fun _ _ _ _ _ st h => wpAny_pyIter_listiter st h
theorem turn_tuple {P : Program} {w : World} {K : PySem.W.Frag} {tg : Expr} (a it : Addr) : Turn P w K tg (Itt K a) [it] it (fun i h => h.IsTupleIter it a i) where
  mem := by simp
  obj := fun i h st b hb => by
    have e : b = it := by simpa using hb
    subst e
    obtain ⟨o, e, c, d⟩ := st
    exact ⟨o, e, fun v z => by rw [d] at z; cases z⟩
  keep := fun i h h' st k => st.at fun o e => k it (by simp) o e
  item := by
    intro X hP hw hK hc i pins s σ H E I hf st hg
    subst hP hw hK
    obtain ⟨xs, x, hq, hx⟩ := hg
    obtain ⟨its, rv, p, hz⟩ := I.tuple hq
    obtain ⟨u, hu, ru⟩ := rv.get hx
    obtain ⟨f0, f1, f2, f3, f4, f5⟩ := hf it (by simp)
    refine wpAny_pyNext_tuple_item st (show s.heap.IsTuple a its.toArray from p) (x := u) (by simpa using hu) fun h' st' sb => ?_
    have I1 : Inv X pins σ H { s with heap := h' } := I.turned (t' := s.toks) (fun b o hb e => (sb.2 b hb).trans e) f0 f1 f3 f4 f5
    obtain ⟨o, e, c, d⟩ := id st'
    exact ⟨u, rfl, go_of (s := { s with heap := h' }) e c d (by decide) ⟨x, H, I1, ru, ⟨rfl, fun ys hy => by rw [I.tuple_inj hy hq]; exact hx⟩, st', fun b hb => (hf b hb).1⟩⟩
  done := by
    intro X hP hw hK hc i pins s σ H E I hf st hg
    subst hP hw hK
    obtain ⟨xs, hq, hx⟩ := hg
    obtain ⟨its, rv, p, hz⟩ := I.tuple hq
    obtain ⟨f0, f1, f2, f3, f4, f5⟩ := hf it (by simp)
    have hl := rv.length
    exact wpAny_pyNext_tuple_end (I.ok.hd hc) st (show s.heap.IsTuple a its.toArray from p) (by simp; omega) fun h' eb => ⟨rfl, I.turned (t' := s.toks) (fun b o hb e => eb b o hb e) f0 f1 f3 f4 f5⟩
  self := fun _ _ _ _ _ st h => wpAny_pyIter_tupleiter st h
theorem turn_range {P : Program} {w : World} {K : PySem.W.Frag} {tg : Expr} (it : Addr) (lo : Int) (n : Nat) : Turn P w K tg (Itr lo n) [it] it (fun i h => IsRangeIter h it (lo + (i : Nat) * 1) ((n : Int) - (i : Nat)) 1) where
  mem := by simp
  obj := fun i h st b hb => by
    have e : b = it := by simpa using hb
    subst e
    exact ⟨_, st, fun v z => by
      have z' : Data.fields _ = Data.cell v := z
      cases z'⟩
  keep := fun i h h' st k => k it (by simp) _ st
  item := by
    intro X hP hw hK hc i pins s σ H E I hf st hg
    subst hP hw hK
    obtain ⟨f0, f1, f2, f3, f4, f5⟩ := hf it (by simp)
    have W := Walks.range (prog := X.prog) (w := X.w) (I.ok.hd hc) it lo 1 n
    refine W.item i s _ _ hg st fun v h' tk hv st' kk => ?_
    obtain ⟨t, rfl⟩ := hv
    have I1 : Inv X pins σ H { s with heap := h', toks := tk } := I.turned (fun b o hb e => kk b o (by simpa using hb) e) f0 f1 f3 f4 f5
    refine ⟨_, rfl, go_of (s := { s with heap := h', toks := tk }) (n := "range_iterator") st' rfl rfl (by decide) ⟨.int (lo + i), H, I1, ⟨t, ?_⟩, ⟨rfl, rfl⟩, st', fun b hb => (hf b hb).1⟩⟩
    rw [Int.mul_one]
  done := by
    intro X hP hw hK hc i pins s σ H E I hf st hg
    subst hP hw hK
    obtain ⟨f0, f1, f2, f3, f4, f5⟩ := hf it (by simp)
    exact wpAny_pyNext_range_end (I.ok.hd hc) st (by have : n ≤ i := hg; omega) fun h' eb => ⟨rfl, I.turned (t' := s.toks) (fun b o hb e => eb b o hb e) f0 f1 f3 f4 f5⟩
  self := fun _ _ _ _ _ st h => wpAny_pyIter_rangeiter st h
end L2

namespace L2
open PySem PySem.Spec PyProof.Rows
section
variable {X : Cx} {tg : Expr}
def iList (K : PySem.W.Frag) (tl : TE) : TI := fun σ H R => tl σ H fun x H1 => ∃ a, x = .ref a ∧ (∃ xs, SqL K H1 a xs) ∧ R (Itl K a) H1
def iTup (K : PySem.W.Frag) (tl : TE) : TI := fun σ H R => tl σ H fun x H1 => ∃ a, x = .ref a ∧ (∃ xs, SqT K H1 a xs) ∧ R (Itt K a) H1
theorem pi_list {l : Expr} {tl : TE} (hl : PE X l tl) : PI X tg l (iList X.K tl) := by
  intro pins s σ H R I h
  refine thn (hl pins s σ H _ I h) fun v s1 ⟨x, H1, I1, r1, q1⟩ => ?_
  obtain ⟨a, e, ⟨xs, hq⟩, q⟩ := q1
  subst e
  cases r1
  obtain ⟨its, rv, p, hz⟩ := I1.list hq
  refine wpAny_pyIter_list p.isList ?_
  refine ⟨s1.heap.objs.size, [s1.heap.objs.size], _, _, H1, rfl, I1.kept (t' := s1.toks) fun b o e => Heap.get?_push_of_some _ e, turn_list a _, ⟨_, Heap.get?_push_size _ rfl, rfl, rfl⟩, fun b hb => ?_, q⟩
  have e : b = s1.heap.objs.size := by simpa using hb
  subst e
  exact I1.fpOk (Nat.le_refl _) (I1.hok.fresh (Nat.le_refl _))
theorem pi_tup {l : Expr} {tl : TE} (hl : PE X l tl) : PI X tg l (iTup X.K tl) := by
  intro pins s σ H R I h
  refine thn (hl pins s σ H _ I h) fun v s1 ⟨x, H1, I1, r1, q1⟩ => ?_
  obtain ⟨a, e, ⟨xs, hq⟩, q⟩ := q1
  subst e
  cases r1
  obtain ⟨its, rv, p, hz⟩ := I1.tuple hq
  refine wpAny_pyIter_tuple (show s1.heap.IsTuple a its.toArray from p) ?_
  refine ⟨s1.heap.objs.size, [s1.heap.objs.size], _, _, H1, rfl, I1.kept (t' := s1.toks) fun b o e => Heap.get?_push_of_some _ e, turn_tuple a _, ⟨_, Heap.get?_push_size _ rfl, rfl, rfl⟩, fun b hb => ?_, q⟩
  have e : b = s1.heap.objs.size := by simpa using hb
  subst e
  exact I1.fpOk (Nat.le_refl _) (I1.hok.fresh (Nat.le_refl _))
/-- a range object just made, walked -/
theorem range_it {pins : List (Addr × Obj)} {σ : St} {H : Hp} {s : Shared} {R : It → Hp → Prop} {E : Value → Shared → Prop} {lo hi : Int} {t u v : Tok} {tk : Nat} (I : Inv X pins σ H s) (h1 : -(2 ^ 62) ≤ lo) (h2 : lo < 2 ^ 62) (h3 : -(2 ^ 62) ≤ hi) (h4 : hi < 2 ^ 62)
    (q : R (Itr lo (hi - lo).toNat) H) : wpAny (model X.prog X.w) X.A (pyIter (.ref s.heap.objs.size)) (PIE X pins σ tg R) E { s with heap := s.heap.push { cls := .type "range", data := .fields #[.int lo t, .int hi u, .int 1 v] }, toks := tk } := by
  refine wpAny_pyIter_range (IsRange.new ..) (small_one h1 h2 h3 h4) ?_
  have I1 : Inv X pins σ H { s with heap := s.heap.push { cls := .type "range", data := .fields #[.int lo t, .int hi u, .int 1 v] }, toks := tk } := I.kept fun b o e => Heap.get?_push_of_some _ e
  refine ⟨(s.heap.push { cls := .type "range", data := .fields #[.int lo t, .int hi u, .int 1 v] }).objs.size, [(s.heap.push { cls := .type "range", data := .fields #[.int lo t, .int hi u, .int 1 v] }).objs.size], _, _, H, rfl,
    I1.kept (t' := tk) fun b o e => Heap.get?_push_of_some _ e, turn_range _ lo (hi - lo).toNat, ?_, fun b hb => ?_, q⟩
  · have e1 : lo + ((0 : Nat) : Int) * 1 = lo := by simp
    have e2 : (((hi - lo).toNat : Nat) : Int) - ((0 : Nat) : Int) = Builtin.Range.rangeSize lo hi 1 := by rw [rangeSize_one]; split <;> omega
    show IsRangeIter _ _ (lo + ((0 : Nat) : Int) * 1) ((((hi - lo).toNat : Nat) : Int) - ((0 : Nat) : Int)) 1
    rw [e1, e2]
    exact Heap.get?_push_size _ rfl
  · have e : b = (s.heap.push { cls := .type "range", data := .fields #[.int lo t, .int hi u, .int 1 v] }).objs.size := by simpa using hb
    subst e
    exact I1.fpOk (Nat.le_refl _) (I1.hok.fresh (Nat.le_refl _))
def iRng1 (ta : TA) : TI := fun σ H R => ta σ H fun vs H1 => ∃ j : Int, vs = [.int j] ∧ -(2 ^ 62) ≤ j ∧ j < 2 ^ 62 ∧ R (Itr 0 j.toNat) H1
def iRng2 (ta : TA) : TI := fun σ H R => ta σ H fun vs H1 => ∃ i j : Int, vs = [.int i, .int j] ∧ (-(2 ^ 62) ≤ i ∧ i < 2 ^ 62 ∧ -(2 ^ 62) ≤ j ∧ j < 2 ^ 62) ∧ R (Itr i (j - i).toNat) H1
theorem pi_range1 {a : Expr} {ta : TA} {p pos : Pos} (hg : Gl X "range") (hm : X.mg "range" = none) (ha : PA X [a] ta) (hs : starEach [a] X.env = [(false, eval a X.env)] := by rfl) : PI X tg (.Call (.Name "range" p) [a] [] pos) (iRng1 ta) := by
  intro pins s σ H R I h
  refine Call_ (ld_blt I hg hm boot_range (PyProof.Rows.callWith_type1 (thn (ha pos pins s σ H _ I h) fun us s1 ⟨vs, H1, I1, r1, q1⟩ => ?_) hs rfl))
  obtain ⟨j, e, q1, q2, q⟩ := q1
  subst e
  cases r1 with
  | cons r rr =>
    cases rr
    obtain ⟨t, rfl⟩ := r
    exact call_range_1 (range_it I1 (by omega) (by omega) q1 q2 (by simpa using q))
theorem pi_range2 {a b : Expr} {ta : TA} {p pos : Pos} (hg : Gl X "range") (hm : X.mg "range" = none) (ha : PA X [a, b] ta) (hs : starEach [a, b] X.env = [(false, eval a X.env), (false, eval b X.env)] := by rfl) (hs2 : starEach [b] X.env = [(false, eval b X.env)] := by rfl) :
    PI X tg (.Call (.Name "range" p) [a, b] [] pos) (iRng2 ta) := by
  intro pins s σ H R I h
  refine Call_ (ld_blt I hg hm boot_range (PyProof.Rows.callWith_type1 (thn (ha pos pins s σ H _ I h) fun us s1 ⟨vs, H1, I1, r1, q1⟩ => ?_) (by rw [hs, hs2]) (by rw [hs2]; rfl)))
  obtain ⟨i, j, e, ⟨q1, q2, q3, q4⟩, q⟩ := q1
  subst e
  cases r1 with
  | cons r rr =>
    cases rr with
    | cons r' rr =>
      cases rr
      obtain ⟨t, rfl⟩ := r
      obtain ⟨t', rfl⟩ := r'
      exact call_range_2 (range_it I1 q1 q2 q3 q4 q)

/-! ### for -/
/-- W: the invariant by the turn and a measure; N: what the body is to reach -/
def tFor (wi : TI) (g : TG) (tb : TS) : TS := fun D σ H => wi σ H fun J H1 => ∃ W : Nat → Nat → St → Hp → Prop, (∃ m, W 0 m σ H1) ∧ ∀ i m σ H, W i m σ H →
  (J.stop i H ∧ D.nx σ H) ∨ (J.go i H ∧ ∃ N : St → Hp → Prop, (∀ σ' H', N σ' H' → ∃ m', m' < m ∧ W (i + 1) m' σ' H') ∧ ∀ x H', J.yld i H x H' → g x σ H' fun σ2 H2 => tb { D with nx := N, ct := N, bk := D.nx } σ2 H2)
/-- the records at fp as they stand -/
def pinsAt (fp : List Addr) (h : Heap) : List (Addr × Obj) := fp.filterMap fun b => (h.get? b).map fun o => (b, o)
theorem mem_pinsAt {fp : List Addr} {h : Heap} {b : Addr} {o : Obj} (hb : b ∈ fp) (e : h.get? b = some o) : (b, o) ∈ pinsAt fp h := List.mem_filterMap.mpr ⟨b, hb, by rw [e]; rfl⟩
theorem of_pinsAt {fp : List Addr} {h : Heap} {p : Addr × Obj} (hp : p ∈ pinsAt fp h) : p.1 ∈ fp ∧ h.get? p.1 = some p.2 := by
  obtain ⟨b, hb, e⟩ := List.mem_filterMap.mp hp
  cases q : h.get? b with
  | none => rw [q] at e; cases e
  | some o =>
    rw [q] at e
    have e' : (b, o) = p := Option.some.inj e
    subst e'
    exact ⟨hb, q⟩
theorem Inv.pinned {pins : List (Addr × Obj)} {σ : St} {H : Hp} {s : Shared} {fp : List Addr} (I : Inv X pins σ H s) (hf : ∀ b ∈ fp, FpOk X pins H b) (ho : ∀ b ∈ fp, ∃ o, s.heap.get? b = some o ∧ ∀ v, o.data ≠ .cell v) : Inv X (pins ++ pinsAt fp s.heap) σ H s :=
  I.pins_of fun p hp => (List.mem_append.mp hp).elim (fun z => I.pin p (List.mem_append_right _ z)) fun z => by
    obtain ⟨hb, e⟩ := of_pinsAt z
    obtain ⟨f0, f1, f2, _⟩ := hf p.1 hb
    obtain ⟨o, e', d⟩ := ho p.1 hb
    rw [e] at e'; cases e'
    exact ⟨e, f0, f1, f2, d⟩
theorem Inv.unpinned {pins pl : List (Addr × Obj)} {σ : St} {H : Hp} {s : Shared} (I : Inv X (pins ++ pl) σ H s) : Inv X pins σ H s := I.pins_of fun p hp => I.pin p (List.mem_append_right _ (List.mem_append_left _ hp))
theorem ps_for {iter : Expr} {body : List Stmt} {wi : TI} {g : TG} {tb : TS} {pos : Pos} (hp : PassesOwn (model X.prog X.w) X.A X.env X.xe) (hc : X.calm = true) (hi : PI X tg iter wi) (hg : PG X tg g) (hb : PSs X body tb)
    (hs : ∀ x, foldedSetIterable iter X.env x = pure x := by intro _; rfl) : PS X (.For tg iter body [] pos) (tFor wi g tb) := by
  intro pins s σ H D I h
  refine wpAny_For (thn (hi pins s σ H _ I h) fun v s1 h1 => thn h1 fun itv s2 h2 => ?_) hs
  obtain ⟨it, fp, tn, J, H2, e, I2, T, st2, f2, W, ⟨m0, w0⟩, turn⟩ := h2
  subst e
  -- what stays true of the iterator's objects through the loop
  have stat : ∀ {H' : Hp}, (∀ b ∈ fp, H' b = none) → ∀ b ∈ fp, FpOk X pins H' b := fun hn b hb => ⟨hn b hb, (f2 b hb).2⟩
  refine codeAny_forLoop_any (fun n s' => ∃ i σ' H', Inv X pins σ' H' s' ∧ tn i s'.heap ∧ (∀ b ∈ fp, H' b = none) ∧ W i n σ' H') ?_ m0 ⟨0, σ, H2, I2, st2, fun b hb => (f2 b hb).1, w0⟩
  rintro n s3 ⟨i, σ3, H3, I3, st3, fr3, w3⟩
  rcases turn i n σ3 H3 w3 with ⟨stop, qn⟩ | ⟨go, N, hN, step⟩
  · refine wpAny_passesOwn hp (thn (T.done X rfl rfl rfl hc i pins s3 σ3 H3 X.xe I3 (stat fr3) st3 stop) fun r s4 ⟨hr, I4⟩ => ?_)
    subst hr
    exact wpAny_execs_nil ⟨σ3, H3, I4, qn⟩
  · refine wpAny_passesOwn hp (thn (T.item X rfl rfl rfl hc i pins s3 σ3 H3 X.xe I3 (stat fr3) st3 go) fun r s4 ⟨u, hr, h4⟩ => ?_)
    subst hr
    refine wpAny_passesOwn hp (thn h4 fun _ s5 ⟨x, H5, I5, r5, y5, st5, fr5⟩ => ?_)
    have I5' := I5.pinned (stat fr5) (T.obj _ _ st5)
    refine wpAny_passesOwn hp (thn (hg _ s5 σ3 H5 x u _ I5' r5 (step x H5 y5)) fun _ s6 ⟨σ6, H6, I6, q6⟩ => ?_)
    refine wpAny_passesOwn hp (thn (hb _ s6 σ6 H6 _ I6 q6) fun f s7 q7 => ?_)
    have again : ∀ {σ7 : St} {H7 : Hp}, Inv X (pins ++ pinsAt fp s5.heap) σ7 H7 s7 → N σ7 H7 → ∃ m, m < n ∧ ∃ i σ' H', Inv X pins σ' H' s7 ∧ tn i s7.heap ∧ (∀ b ∈ fp, H' b = none) ∧ W i m σ' H' := fun {σ7 H7} I7 n7 => by
      obtain ⟨m', hm, w7⟩ := hN σ7 H7 n7
      refine ⟨m', hm, i + 1, σ7, H7, I7.unpinned, T.keep _ _ _ st5 fun b hb o e => (I7.pin (b, o) (List.mem_append_right _ (List.mem_append_right _ (mem_pinsAt hb e)))).1, fun b hb => ?_, w7⟩
      obtain ⟨o, e, d⟩ := T.obj _ _ st5 b hb
      exact (I7.pin (b, o) (List.mem_append_right _ (List.mem_append_right _ (mem_pinsAt hb e)))).2.1
    cases f with
    | next => obtain ⟨σ7, H7, I7, n7⟩ := q7; exact again I7 n7
    | cont => obtain ⟨σ7, H7, I7, n7⟩ := q7; exact again I7 n7
    | brk => obtain ⟨σ7, H7, I7, q7⟩ := q7; exact ⟨σ7, H7, I7.unpinned, q7⟩
    | ret v => obtain ⟨x7, σ7, H7, I7, r7, q7⟩ := q7; exact ⟨x7, σ7, H7, I7.unpinned, r7, q7⟩
end

/-! ### the forms one uses -/
/-- over a list that the body leaves as it is -/
theorem for_list {K : PySem.W.Frag} {a : Addr} {xs : List V} {g : TG} {tb : TS} {D : Ends} {σ : St} {H : Hp} (Pv : Nat → St → Hp → Prop) (h0 : Pv 0 σ H) (hl : ∀ i σ H, i ≤ xs.length → Pv i σ H → SqL K H a xs)
    (hs : ∀ i x σ H, xs[i]? = some x → Pv i σ H → g x σ H fun σ2 H2 => tb { D with nx := Pv (i + 1), ct := Pv (i + 1), bk := D.nx } σ2 H2) (hd : ∀ σ H, Pv xs.length σ H → D.nx σ H) :
    ∃ W : Nat → Nat → St → Hp → Prop, (∃ m, W 0 m σ H) ∧ ∀ i m σ H, W i m σ H →
      ((Itl K a).stop i H ∧ D.nx σ H) ∨ ((Itl K a).go i H ∧ ∃ N : St → Hp → Prop, (∀ σ' H', N σ' H' → ∃ m', m' < m ∧ W (i + 1) m' σ' H') ∧ ∀ x H', (Itl K a).yld i H x H' → g x σ H' fun σ2 H2 => tb { D with nx := N, ct := N, bk := D.nx } σ2 H2) := by
  refine ⟨fun i m σ H => m = xs.length - i ∧ i ≤ xs.length ∧ Pv i σ H, ⟨xs.length, by simp, Nat.zero_le _, h0⟩, ?_⟩
  rintro i m σ H ⟨rfl, hi, p⟩
  have q := hl i σ H hi p
  by_cases hlt : i < xs.length
  · refine .inr ⟨⟨xs, xs[i], q, by simp [hlt]⟩, Pv (i + 1), fun σ' H' p' => ⟨xs.length - (i + 1), by omega, rfl, hlt, p'⟩, fun x H' y => ?_⟩
    obtain ⟨e, y⟩ := y
    subst e
    exact hs i x σ _ (y xs q) p
  · have e : i = xs.length := by omega
    subst e
    exact .inl ⟨⟨xs, q, Nat.le_refl _⟩, hd σ H p⟩
theorem for_range {lo : Int} {n : Nat} {g : TG} {tb : TS} {D : Ends} {σ : St} {H : Hp} (Pv : Nat → St → Hp → Prop) (h0 : Pv 0 σ H)
    (hs : ∀ i σ H, i < n → Pv i σ H → g (.int (lo + i)) σ H fun σ2 H2 => tb { D with nx := Pv (i + 1), ct := Pv (i + 1), bk := D.nx } σ2 H2) (hd : ∀ σ H, Pv n σ H → D.nx σ H) :
    ∃ W : Nat → Nat → St → Hp → Prop, (∃ m, W 0 m σ H) ∧ ∀ i m σ H, W i m σ H →
      ((Itr lo n).stop i H ∧ D.nx σ H) ∨ ((Itr lo n).go i H ∧ ∃ N : St → Hp → Prop, (∀ σ' H', N σ' H' → ∃ m', m' < m ∧ W (i + 1) m' σ' H') ∧ ∀ x H', (Itr lo n).yld i H x H' → g x σ H' fun σ2 H2 => tb { D with nx := N, ct := N, bk := D.nx } σ2 H2) := by
  refine ⟨fun i m σ H => m = n - i ∧ i ≤ n ∧ Pv i σ H, ⟨n, by simp, Nat.zero_le _, h0⟩, ?_⟩
  rintro i m σ H ⟨rfl, hi, p⟩
  by_cases hlt : i < n
  · refine .inr ⟨hlt, Pv (i + 1), fun σ' H' p' => ⟨n - (i + 1), by omega, rfl, hlt, p'⟩, fun x H' y => ?_⟩
    obtain ⟨e, y⟩ := y
    subst e y
    exact hs i σ _ hlt p
  · have e : i = n := by omega
    subst e
    exact .inl ⟨Nat.le_refl _, hd σ H p⟩
end L2

namespace L2
open PySem PySem.Spec PyProof.Rows

abbrev R2 := V → V → Hp → VK → Prop
/-- a two-place operation on values: f is binaryOp op, inplaceOp op or compareOp op -/
def OpR (X : Cx) (f : Value → Value → Sem Value) (r : R2) : Prop :=
  ∀ (pins : List (Addr × Obj)) (s : Shared) (σ : St) (H : Hp) (x y : V) (v u : Value) (Q : VK), Inv X pins σ H s → RelV x v → RelV y u → r x y H Q →
    wpAny (model X.prog X.w) X.A (f v u) (EP X pins σ Q) X.xe s
/-- a one-place operation -/
def UnR (X : Cx) (f : Value → Sem Value) (r : V → Hp → VK → Prop) : Prop :=
  ∀ (pins : List (Addr × Obj)) (s : Shared) (σ : St) (H : Hp) (x : V) (v : Value) (Q : VK), Inv X pins σ H s → RelV x v → r x H Q →
    wpAny (model X.prog X.w) X.A (f v) (EP X pins σ Q) X.xe s
/-- a call of a value that is known (a builtin, a type) with values -/
def CallR (X : Cx) (f : Value) (r : List V → Hp → VK → Prop) : Prop :=
  ∀ (pins : List (Addr × Obj)) (s : Shared) (σ : St) (H : Hp) (xs : List V) (us : List Value) (Q : VK), Inv X pins σ H s → Vals xs us → r xs H Q →
    wpAny (model X.prog X.w) X.A (call f us) (EP X pins σ Q) X.xe s
/-- a value's truth -/
def TruR (X : Cx) (r : V → Hp → (Bool → Hp → Prop) → Prop) : Prop :=
  ∀ (pins : List (Addr × Obj)) (s : Shared) (σ : St) (H : Hp) (x : V) (v : Value) (Q : Bool → Hp → Prop), Inv X pins σ H s → RelV x v → r x H Q →
    wpAny (model X.prog X.w) X.A (truthy v) (TP X pins σ Q) X.xe s

def tOp (r : R2) (ta tb : TE) : TE := fun σ H Q => ta σ H fun x H1 => tb σ H1 fun y H2 => r x y H2 Q
def tUn (r : V → Hp → VK → Prop) (ta : TE) : TE := fun σ H Q => ta σ H fun x H1 => r x H1 Q
/-- ints in, under C, and a value out -/
def rI (C : Int → Int → Prop) (g : Int → Int → V) : R2 := fun x y H Q => ∃ i j, x = .int i ∧ y = .int j ∧ C i j ∧ Q (g i j) H
def rI0 (g : Int → Int → V) : R2 := fun x y H Q => ∃ i j, x = .int i ∧ y = .int j ∧ Q (g i j) H
def rU (g : Int → V) : V → Hp → VK → Prop := fun x H Q => ∃ i, x = .int i ∧ Q (g i) H

section
variable {X : Cx} {a b c : Expr} {ta tb tc : TE} {pos : Pos}

theorem binT (ha : PE X a ta) (hb : PE X b tb) {pins : List (Addr × Obj)} {s : Shared} {σ : St} {H : Hp} {R : V → V → Hp → Prop} (I : Inv X pins σ H s)
    (h : ta σ H fun x H1 => tb σ H1 fun y H2 => R x y H2) {Q : Value → Shared → Prop} {f : Value → Value → Sem Value}
    (hf : ∀ v u s2 x y H2, Inv X pins σ H2 s2 → RelV x v → RelV y u → R x y H2 → wpAny (model X.prog X.w) X.A (f v u) Q X.xe s2) :
    wpAny (model X.prog X.w) X.A (eval a X.env) (fun v s₁ => wpAny (model X.prog X.w) X.A (eval b X.env) (fun u s₂ => wpAny (model X.prog X.w) X.A (f v u) Q X.xe s₂) X.xe s₁) X.xe s := by
  refine thn (ha pins s σ H _ I h) fun v s1 ⟨x, H1, I1, r1, q1⟩ => ?_
  refine thn (hb pins s1 σ H1 _ I1 q1) fun u s2 ⟨y, H2, I2, r2, q2⟩ => ?_
  exact hf v u s2 x y H2 I2 r1 r2 q2

theorem pe_op {op : Operator} {r : R2} (ho : OpR X (binaryOp op) r) (ha : PE X a ta) (hb : PE X b tb) : PE X (.BinOp a op b pos) (tOp r ta tb) := by
  intro pins s σ H Q I h
  exact wpAny_BinOp (binT ha hb I h fun v u s2 x y H2 I2 rx ry q => ho pins s2 σ H2 x y v u Q I2 rx ry q)
theorem pe_un {op : UnaryOp} {r : V → Hp → VK → Prop} (ho : UnR X (unaryOp op) r) (ha : PE X a ta) : PE X (.UnaryOp op a pos) (tUn r ta) := by
  intro pins s σ H Q I h
  exact UnaryOp_ (thn (ha pins s σ H _ I h) fun v s1 ⟨x, H1, I1, r1, q1⟩ => ho pins s1 σ H1 x v Q I1 r1 q1)
/-! ### ints -/
theorem opI {f : Value → Value → Sem Value} {C : Int → Int → Prop} {g : Int → Int → Int}
    (rule : ∀ (i j : Int) (t u : Tok) (s : Shared) (Q : Value → Shared → Prop) (E : Value → Shared → Prop), C i j → Q (.int (g i j) s.toks) { s with toks := s.toks + 1 } → wpAny (model X.prog X.w) X.A (f (.int i t) (.int j u)) Q E s) :
    OpR X f (rI C fun i j => .int (g i j)) := by
  intro pins s σ H x y v u Q I rx ry h
  obtain ⟨i, j, rfl, rfl, hc, q⟩ := h
  obtain ⟨t, rfl⟩ := rx
  obtain ⟨t', rfl⟩ := ry
  exact rule i j t t' s _ _ hc ⟨.int (g i j), H, I.tok _, ⟨_, rfl⟩, q⟩
theorem opI0 {f : Value → Value → Sem Value} {g : Int → Int → Int}
    (rule : ∀ (i j : Int) (t u : Tok) (s : Shared) (Q : Value → Shared → Prop) (E : Value → Shared → Prop), Q (.int (g i j) s.toks) { s with toks := s.toks + 1 } → wpAny (model X.prog X.w) X.A (f (.int i t) (.int j u)) Q E s) :
    OpR X f (rI0 fun i j => .int (g i j)) := by
  intro pins s σ H x y v u Q I rx ry h
  obtain ⟨i, j, rfl, rfl, q⟩ := h
  obtain ⟨t, rfl⟩ := rx
  obtain ⟨t', rfl⟩ := ry
  exact rule i j t t' s _ _ ⟨.int (g i j), H, I.tok _, ⟨_, rfl⟩, q⟩
theorem opB0 {f : Value → Value → Sem Value} {g : Int → Int → Bool}
    (rule : ∀ (i j : Int) (t u : Tok) (s : Shared) (Q : Value → Shared → Prop) (E : Value → Shared → Prop), Q (.bool (g i j)) s → wpAny (model X.prog X.w) X.A (f (.int i t) (.int j u)) Q E s) :
    OpR X f (rI0 fun i j => .bl (g i j)) := by
  intro pins s σ H x y v u Q I rx ry h
  obtain ⟨i, j, rfl, rfl, q⟩ := h
  obtain ⟨t, rfl⟩ := rx
  obtain ⟨t', rfl⟩ := ry
  exact rule i j t t' s _ _ ⟨.bl (g i j), H, I, rfl, q⟩

def CDiv (i j : Int) : Prop := 0 < j ∧ j < 1073741824
def CDivN (i j : Int) : Prop := j ≠ 0 ∧ j.natAbs < 1073741824
def CPow (i j : Int) : Prop := 0 ≤ j ∧ j ≤ 1000000 ∧ i.natAbs < 2 ^ 64
def CMul (i j : Int) : Prop := (-(2 ^ 64) < i ∧ i < 2 ^ 64) ∨ (-(2 ^ 64) < j ∧ j < 2 ^ 64)
theorem CMul.ok {i j : Int} (h : CMul i j) : IntMulOk i j := by
  rcases h with ⟨h1, h2⟩ | ⟨h1, h2⟩
  · exact .of_left (intBits_le_64 h1 h2)
  · exact .of_right (intBits_le_64 h1 h2)
theorem two_pow_nn (k : Nat) : (0 : Int) ≤ 2 ^ k := by
  rw [two_pow_cast]
  exact Int.natCast_nonneg _

theorem op_add : OpR X (binaryOp .Add) (rI0 fun i j => .int (i + j)) := opI0 fun _ _ _ _ _ _ _ q => add_int q
theorem op_sub : OpR X (binaryOp .Sub) (rI0 fun i j => .int (i - j)) := opI0 fun _ _ _ _ _ _ _ q => sub_int q
theorem op_mul : OpR X (binaryOp .Mult) (rI CMul fun i j => .int (i * j)) := opI fun _ _ _ _ _ _ _ hc q => mul_int q hc.ok
/-- // by a positive divisor -/
theorem op_fdiv : OpR X (binaryOp .FloorDiv) (rI CDiv fun i j => .int (i / j)) := opI fun i j _ _ _ _ _ hc q => by
  have h1 : (0 : Int) < j := hc.1
  have h2 : j < 1073741824 := hc.2
  exact floordiv_int (by omega) (by rw [Int.fdiv_eq_ediv_of_nonneg i (by omega)]; exact q) (.inl (PyProof.noPylong_small (by omega)))
/-- % by a positive divisor of any size -/
theorem op_mod : OpR X (binaryOp .Mod) (rI (fun _ j => 0 < j) fun i j => .int (i % j)) := opI fun i j _ _ _ _ _ hc q => by
  have h1 : (0 : Int) < j := hc
  exact mod_int' (by omega) (by rw [Int.fmod_eq_emod_of_nonneg i (by omega)]; exact q)
theorem op_pow : OpR X (binaryOp .Pow) (rI CPow fun i j => .int (i ^ j.toNat)) := opI fun _ _ _ _ _ _ _ hc q => pow_int_small hc.1 hc.2.1 hc.2.2 q
theorem op_shr : OpR X (binaryOp .RShift) (rI (fun _ j => 0 ≤ j) fun i j => .int (i / 2 ^ j.toNat)) := opI fun i j _ _ _ _ _ hc q =>
  rshift_int hc (by rw [Int.fdiv_eq_ediv_of_nonneg i (two_pow_nn _)]; exact q)
theorem op_and : OpR X (binaryOp .BitAnd) (rI0 fun i j => .int (Builtin.bitAnd i j)) := opI0 fun _ _ _ _ _ _ _ q => and_int q
theorem unI {f : Value → Sem Value} {g : Int → Int}
    (rule : ∀ (i : Int) (t : Tok) (s : Shared) (Q : Value → Shared → Prop) (E : Value → Shared → Prop), Q (.int (g i) s.toks) { s with toks := s.toks + 1 } → wpAny (model X.prog X.w) X.A (f (.int i t)) Q E s) :
    UnR X f (rU fun i => .int (g i)) := by
  intro pins s σ H x v Q I rx h
  obtain ⟨i, rfl, q⟩ := h
  obtain ⟨t, rfl⟩ := rx
  exact rule i t s _ _ ⟨.int (g i), H, I.tok _, ⟨_, rfl⟩, q⟩
theorem un_neg : UnR X (unaryOp .USub) (rU fun i => .int (-i)) := unI fun _ _ _ _ _ q => neg_int q
/-! ### bools among ints: n += (a < b) -/
end

/-! ### comparisons -/
/-- the scalars that == tells apart as data does -/
def scal : V → V → Bool
  | .non, .non => true | .non, .int _ => true | .int _, .non => true | .non, .bl _ => true | .bl _, .non => true | .non, .str _ => true | .str _, .non => true
  | .int _, .int _ => true | .bl _, .bl _ => true | .str _, .str _ => true | .byt _, .byt _ => true
  | .int _, .str _ => true | .str _, .int _ => true | .bl _, .str _ => true | .str _, .bl _ => true
  | _, _ => false
def rEq : R2 := fun x y H Q => scal x y = true ∧ Q (.bl (decide (x = y))) H
def rNe : R2 := fun x y H Q => scal x y = true ∧ Q (.bl (!decide (x = y))) H

theorem dec_int {i j : Int} : decide (V.int i = V.int j) = (i == j) := by
  rw [Bool.eq_iff_iff]
  simp
theorem dec_bl {i j : Bool} : decide (V.bl i = V.bl j) = (i == j) := by
  rw [Bool.eq_iff_iff]
  simp
theorem dec_str {i j : Str} : decide (V.str i = V.str j) = (i == j) := by
  rw [Bool.eq_iff_iff]
  simp
theorem dec_byt {i j : Array UInt8} : decide (V.byt i = V.byt j) = (i.toList == j.toList) := by
  rw [Bool.eq_iff_iff]
  cases i
  cases j
  simp

section
variable {X : Cx} {a b c : Expr} {ta tb tc : TE} {pos : Pos}
theorem fin_bl {pins : List (Addr × Obj)} {σ : St} {H : Hp} {s : Shared} {Q : VK} {k k' : Bool} (I : Inv X pins σ H s) (q : Q (.bl k) H) (e : k = k') : EP X pins σ Q (.bool k') s := by
  subst e
  exact ⟨.bl k, H, I, rfl, q⟩
theorem op_eq : OpR X (compareOp .Eq) rEq := by
  intro pins s σ H x y v u Q I rx ry h
  obtain ⟨hs, q⟩ := h
  cases x with
  | non =>
    cases rx
    cases y with
    | non => cases ry; exact PySem.EqNone.eq_none_none (fin_bl I q (by simp))
    | bl j => cases ry; exact PySem.EqNone.eq_none_bool (fin_bl I q (by simp))
    | int j => obtain ⟨t', rfl⟩ := ry; exact PySem.EqNone.eq_none_int (fin_bl I q (by simp))
    | str j => obtain ⟨t', rfl⟩ := ry; exact PySem.EqNone.eq_none_str (fin_bl I q (by simp))
    | _ => exact absurd (show false = true from hs) Bool.false_ne_true
  | bl i =>
    cases rx
    cases y with
    | non => cases ry; exact PySem.EqNone.eq_bool_none (fin_bl I q (by simp))
    | bl j => cases ry; exact eq_bool (fin_bl I q dec_bl)
    | str j => obtain ⟨t', rfl⟩ := ry; exact PySem.EqMixed.eq_bool_str (fin_bl I q (by simp))
    | _ => exact absurd (show false = true from hs) Bool.false_ne_true
  | int i =>
    obtain ⟨t, rfl⟩ := rx
    cases y with
    | non => cases ry; exact PySem.EqNone.eq_int_none (fin_bl I q (by simp))
    | int j => obtain ⟨t', rfl⟩ := ry; exact eq_int (fin_bl I q dec_int)
    | str j => obtain ⟨t', rfl⟩ := ry; exact PySem.EqMixed.eq_int_str (fin_bl I q (by simp))
    | _ => exact absurd (show false = true from hs) Bool.false_ne_true
  | str i =>
    obtain ⟨t, rfl⟩ := rx
    cases y with
    | non => cases ry; exact PySem.EqNone.eq_str_none (fin_bl I q (by simp))
    | bl j => cases ry; exact PySem.EqMixed.eq_str_bool (fin_bl I q (by simp))
    | int j => obtain ⟨t', rfl⟩ := ry; exact PySem.EqMixed.eq_str_int (fin_bl I q (by simp))
    | str j => obtain ⟨t', rfl⟩ := ry; exact eq_str (fin_bl I q dec_str)
    | _ => exact absurd (show false = true from hs) Bool.false_ne_true
  | byt i =>
    obtain ⟨t, rfl⟩ := rx
    cases y with
    | byt j => obtain ⟨t', rfl⟩ := ry; exact PySem.W.eq_bytes (fin_bl I q dec_byt)
    | _ => exact absurd (show false = true from hs) Bool.false_ne_true
  | _ => cases y <;> exact absurd (show false = true from hs) Bool.false_ne_true
theorem op_ne : OpR X (compareOp .NotEq) rNe := by
  intro pins s σ H x y v u Q I rx ry h
  obtain ⟨hs, q⟩ := h
  cases x with
  | non =>
    cases rx
    cases y with
    | non => cases ry; exact PySem.EqNone.ne_none_none (fin_bl I q (by simp))
    | bl j => cases ry; exact PySem.EqNone.ne_none_bool (fin_bl I q (by simp))
    | int j => obtain ⟨t', rfl⟩ := ry; exact PySem.EqNone.ne_none_int (fin_bl I q (by simp))
    | str j => obtain ⟨t', rfl⟩ := ry; exact PySem.EqNone.ne_none_str (fin_bl I q (by simp))
    | _ => exact absurd (show false = true from hs) Bool.false_ne_true
  | bl i =>
    cases rx
    cases y with
    | non => cases ry; exact PySem.EqNone.ne_bool_none (fin_bl I q (by simp))
    | bl j => cases ry; exact ne_bool (fin_bl I q (congrArg not dec_bl))
    | str j => obtain ⟨t', rfl⟩ := ry; exact PySem.EqMixed.ne_bool_str (fin_bl I q (by simp))
    | _ => exact absurd (show false = true from hs) Bool.false_ne_true
  | int i =>
    obtain ⟨t, rfl⟩ := rx
    cases y with
    | non => cases ry; exact PySem.EqNone.ne_int_none (fin_bl I q (by simp))
    | int j => obtain ⟨t', rfl⟩ := ry; exact ne_int (fin_bl I q (congrArg not dec_int))
    | str j => obtain ⟨t', rfl⟩ := ry; exact PySem.EqMixed.ne_int_str (fin_bl I q (by simp))
    | _ => exact absurd (show false = true from hs) Bool.false_ne_true
  | str i =>
    obtain ⟨t, rfl⟩ := rx
    cases y with
    | non => cases ry; exact PySem.EqNone.ne_str_none (fin_bl I q (by simp))
    | bl j => cases ry; exact PySem.EqMixed.ne_str_bool (fin_bl I q (by simp))
    | int j => obtain ⟨t', rfl⟩ := ry; exact PySem.EqMixed.ne_str_int (fin_bl I q (by simp))
    | str j => obtain ⟨t', rfl⟩ := ry; exact ne_str (fin_bl I q (congrArg not dec_str))
    | _ => exact absurd (show false = true from hs) Bool.false_ne_true
  | byt i =>
    obtain ⟨t, rfl⟩ := rx
    cases y with
    | byt j => obtain ⟨t', rfl⟩ := ry; exact PySem.W.ne_bytes (fin_bl I q (congrArg not dec_byt))
    | _ => exact absurd (show false = true from hs) Bool.false_ne_true
  | _ => cases y <;> exact absurd (show false = true from hs) Bool.false_ne_true

theorem op_lt : OpR X (compareOp .Lt) (rI0 fun i j => .bl (decide (i < j))) := opB0 fun _ _ _ _ _ _ _ q => lt_int q
theorem op_le : OpR X (compareOp .LtE) (rI0 fun i j => .bl (decide (i ≤ j))) := opB0 fun _ _ _ _ _ _ _ q => le_int q
theorem op_gt : OpR X (compareOp .Gt) (rI0 fun i j => .bl (decide (j < i))) := opB0 fun _ _ _ _ _ _ _ q => gt_int q
/-- the one string within the other -/
theorem op_in_str : OpR X (compareOp .In) (fun x y H Q => ∃ i j, x = .str i ∧ y = .str j ∧ Q (.bl (!(Builtin.Str.occurrences j i 0 j.length 1).isEmpty)) H) := by
  intro pins s σ H x y v u Q I rx ry h
  obtain ⟨i, j, rfl, rfl, q⟩ := h
  obtain ⟨t, rfl⟩ := rx
  obtain ⟨t', rfl⟩ := ry
  exact in_str (fin_bl I q rfl)

/-- is None, is not None: the right side a value none -/
theorem op_isN : OpR X (compareOp .Is) (fun x y H Q => y = .non ∧ Q (.bl (decide (x = .non))) H) := by
  intro pins s σ H x y v u Q I rx ry h
  obtain ⟨rfl, q⟩ := h
  cases ry
  refine is_none_gen (fin_bl I q ?_)
  cases x <;> first
    | (cases rx; rfl)
    | (obtain ⟨t, rfl⟩ := rx; rfl)
theorem op_notN : OpR X (compareOp .IsNot) (fun x y H Q => y = .non ∧ Q (.bl (!decide (x = .non))) H) := by
  intro pins s σ H x y v u Q I rx ry h
  obtain ⟨rfl, q⟩ := h
  cases ry
  refine isnot_none_gen (fin_bl I q ?_)
  cases x <;> first
    | (cases rx; rfl)
    | (obtain ⟨t, rfl⟩ := rx; rfl)

/-- is, is not of two objects that are tracked lists or instances -/
def isObj : HO → Bool
  | .lst _ => true
  | .ins _ _ _ => true
  | _ => false
theorem nomark (b : Expr) {op : CmpOp} (h : op ≠ .In := by decide) (h2 : op ≠ .NotIn := by decide) : behindInMarks op b = false := by
  have e1 : (op == CmpOp.In) = false := by cases op <;> first | rfl | exact absurd rfl h
  have e2 : (op == CmpOp.NotIn) = false := by cases op <;> first | rfl | exact absurd rfl h2
  cases b <;> simp [behindInMarks, e1, e2]
/-- a comparison as a value; hm: nomark b, or (for in, not in) by with_unfolding_all rfl -/
theorem pe_cmpR {op : CmpOp} {r : R2} (ho : OpR X (compareOp op) r) (ha : PE X a ta) (hb : PE X b tb) (hm : behindInMarks op b = false) : PE X (.Compare a [op] [b] pos) (tOp r ta tb) := by
  intro pins s σ H Q I h
  exact wpAny_Compare1 (binT ha hb I h fun v u s2 x y H2 I2 rx ry q => ho pins s2 σ H2 x y v u Q I2 rx ry q) hm
/-- a reading of a value as a test -/
def tTest (t : TE) : TT := fun σ H Q => t σ H fun x H' => ∃ k, x = .bl k ∧ Q k H'
theorem pt_cmpR {op : CmpOp} {r : R2} (ho : OpR X (compareOp op) r) (ha : PE X a ta) (hb : PE X b tb) (hm : behindInMarks op b = false) : PT X (.Compare a [op] [b] pos) (tTest (tOp r ta tb)) := by
  intro pins s σ H Q I h
  refine wpAny_isTrue_Compare1 (thn (ha pins s σ H _ I h) fun v s1 ⟨x, H1, I1, r1, q1⟩ => thn (hb pins s1 σ H1 _ I1 q1) fun u s2 ⟨y, H2, I2, r2, q2⟩ =>
    thn (ho pins s2 σ H2 x y v u _ I2 r1 r2 q2) fun c s3 ⟨z, H3, I3, r3, k, e, q3⟩ => ?_) hm
  subst e
  cases r3
  exact wpAny_truthy_bool ⟨H3, I3, q3⟩
/-- a op1 b op2 c -/
def tChain (r r' : R2) (ta tb tc : TE) : TE := fun σ H Q => ta σ H fun x H1 => tb σ H1 fun y H2 => r x y H2 fun z H3 => ∃ k, z = .bl k ∧
  (if k = true then tc σ H3 fun w' H4 => r' y w' H4 Q else Q (.bl false) H3)
/-! ### truth -/
/-- a value's truth by the abstract heap -/
def TruV (K : PySem.W.Frag) (x : V) (H : Hp) (k : Bool) : Prop :=
  match x with
  | .non => k = false
  | .bl b => k = b
  | .int i => k = (i != 0)
  | .str y => y.length ≤ sizeLine ∧ k = ((y.length : Int) != 0)
  | .byt y => y.size ≤ sizeLine ∧ k = ((y.size : Int) != 0)
  | .ref p => (∃ xs, SqL K H p xs ∧ k = !xs.isEmpty) ∨ (∃ xs, SqT K H p xs ∧ k = !xs.isEmpty) ∨ ∃ kvs, H p = some (.dK kvs) ∧ k = !kvs.isEmpty
  | _ => False
theorem line63 : (sizeLine : Nat) < 2 ^ 63 := by rw [sizeLine_eq]; decide
/-! ### strs and bytes -/
theorem op_add_str : OpR X (binaryOp .Add) (fun x y H Q => ∃ i j, x = .str i ∧ y = .str j ∧ i.length + j.length ≤ sizeLine ∧ Q (.str (i ++ j)) H) := by
  intro pins s σ H x y v u Q I rx ry h
  obtain ⟨i, j, rfl, rfl, hz, q⟩ := h
  obtain ⟨t, rfl⟩ := rx
  obtain ⟨t', rfl⟩ := ry
  exact add_str (fun t' tk => ⟨.str (i ++ j), H, I.tok _, ⟨_, rfl⟩, q⟩) hz
def PlainIxT (b : Expr) : Prop := ∀ o i, subscripted b false o i = operate [o, i] (getItem o i)
/-! ### scalar builtins, by CallR -/
theorem vals1 {x : V} {us : List Value} (r : Vals [x] us) : ∃ u, us = [u] ∧ RelV x u := by
  cases r with
  | cons r1 r2 => cases r2; exact ⟨_, rfl, r1⟩
theorem vals2 {x y : V} {us : List Value} (r : Vals [x, y] us) : ∃ u w', us = [u, w'] ∧ RelV x u ∧ RelV y w' := by
  cases r with
  | cons r1 r2 =>
    cases r2 with
    | cons r3 r4 => cases r4; exact ⟨_, _, rfl, r1, r3⟩
theorem call_max2 (hc : X.calm = true) : CallR X (.builtin "max") (fun xs H Q => ∃ i j, xs = [.int i, .int j] ∧ Q (.int (if j > i then j else i)) H) := by
  intro pins s σ H xs us Q I r h
  obtain ⟨i, j, rfl, q⟩ := h
  obtain ⟨u, w', rfl, ⟨t, rfl⟩, ⟨t', rfl⟩⟩ := vals2 r
  refine max_two_ints (I.ok.hd hc) fun h' tk k => ⟨_, H, I.kept k, ?_, q⟩
  by_cases hj : j > i
  · rw [if_pos hj, if_pos hj]; exact ⟨_, rfl⟩
  · rw [if_neg hj, if_neg hj]; exact ⟨_, rfl⟩
/-- len of a str, a bytes, a list, a tuple -/
def LenV (K : PySem.W.Frag) (x : V) (H : Hp) (n : Nat) : Prop :=
  match x with
  | .str y => y.length ≤ sizeLine ∧ n = y.length
  | .byt y => y.size ≤ sizeLine ∧ n = y.size
  | .ref p => (∃ xs, SqL K H p xs ∧ n = xs.length) ∨ ∃ xs, SqT K H p xs ∧ n = xs.length
  | _ => False
end
end L2

namespace L2
open PySem PySem.Spec PyProof.Rows

/-! ### an instance, its attributes a map -/
structure ObjM (h : Heap) (x dx C : Addr) (mA : Str → Option Value) : Prop where
  obj : h.get? x = some (PySem.W.instObj C dx)
  ns : h.Ns1 dx mA
  ne : dx ≠ x

theorem lookIn_ns {h : Heap} {dx : Addr} {mA : Str → Option Value} (n : h.Ns1 dx mA) : ∃ od, h.get? dx = some od ∧ ∀ name, PySem.W.lookIn name od = some (mA name) := by
  obtain ⟨o, es, ep, ho, hd, hk, _, hm⟩ := n
  refine ⟨o, ho, fun name => ?_⟩
  have e := hm name
  unfold nsFind findBy at e
  rw [← Array.find?_toList] at e
  unfold PySem.W.lookIn
  rw [hd]
  dsimp only
  split
  · rename_i y q
    rw [q] at e
    exact congrArg some e
  · rename_i q
    rw [q] at e
    have a : es.toList.any (·.refKey) = false := by
      rw [List.any_eq_false]
      intro y hy
      obtain ⟨z, t, hkey⟩ := hk y (Array.mem_toList_iff.mp hy)
      simp [DictEntry.refKey, hkey]
    have a' : ¬ es.toList.any (·.refKey) = true := by rw [a]; exact Bool.false_ne_true
    rw [if_neg a']
    exact congrArg some e

theorem ObjM.look {h : Heap} {x dx C : Addr} {mA : Str → Option Value} (I : ObjM h x dx C mA) : ∃ od, PySem.W.InstAt h x (PySem.W.instObj C dx) C (some od) ∧ ∀ name, PySem.W.lookIn name od = some (mA name) :=
  let ⟨od, ho, hl⟩ := lookIn_ns I.ns
  ⟨od, ⟨I.obj, rfl, rfl, ho⟩, hl⟩

section
variable {prog : Program} {w : World} {A : Around} {E : Value → Shared → Prop} {s : Shared} {K : PySem.W.Frag} {x dx C f : Addr} {mA : Str → Option Value} {name : Str} {v : Value}

end

/-! ### the attributes as a list of pairs -/
def putF (f : Str) (v : V) : List (Str × V) → List (Str × V)
  | [] => [(f, v)]
  | (g, x) :: r => if g = f then (g, v) :: r else (g, x) :: putF f v r
section
variable {P : Program} {w : World} {H H' : Hp} {h h' : Heap} {a C dx : Addr} {fs fs' : List (Str × V)}
theorem ins_get (hok : HOk P w H h) (e : H a = some (.ins C dx fs)) : ∃ mA, ObjM h a dx C mA ∧ (∀ f, RelO (fs.lookup f) (mA f)) ∧ PySem.Within mA (fs.map (·.1)) ∧ fs.length ≤ 1000 ∧ H dx = some (.own a) := by
  obtain ⟨d, z, ne, ob, mA, n, r, q⟩ := (show ObjOk P w H h a (.ins C dx fs) from hok a _ e)
  exact ⟨mA, ⟨ob, n, ne⟩, r, q, z, d⟩
end

/-! ### what of the text a class must have -/
structure Cls (K : PySem.W.Frag) (C : Addr) : Prop where
  pg : PySem.W.plainGet K C Str.empty = true
  hd : PySem.W.hasDictIn K C = true
  po : PySem.W.plainOver K C = true
  sa : PySem.W.findIn K (.ref C) "__setattr__" = some (some (.builtin "object.__setattr__"))
theorem Cls.get {K : PySem.W.Frag} {C : Addr} (c : Cls K C) (f : Str) : PySem.W.plainGet K C f = true := c.pg
/-- no class of it has the name -/
def NoAttr (K : PySem.W.Frag) (C : Addr) (f : Str) : Prop := PySem.W.findIn K (.ref C) f = some none
/-- a constant of the class -/
structure Con (K : PySem.W.Frag) (C : Addr) (f : Str) (v : V) (u : Value) : Prop where
  at_ : PySem.W.findIn K (.ref C) f = some (some u)
  rel : RelV v u
  get : PySem.W.specialIn K u "__get__" = some none
  cp : PySem.W.copiedNames.contains f = false
/-- a method: a plain def of the class or of one above it -/
structure Meth (K : PySem.W.Frag) (C : Addr) (m : Str) (f : Addr) : Prop where
  at_ : PySem.W.findIn K (.ref C) m = some (some (.ref f))
  fn : PySem.W.isFn K (.ref f) = true
  kp : PySem.W.keepIn K (.ref f) = true

section
variable {X : Cx} {pins : List (Addr × Obj)} {σ : St} {H : Hp} {s : Shared} {a C dx : Addr} {fs : List (Str × V)} {f : Str} {v : V} {A : Around} {E : Value → Shared → Prop}

end

/-! ### readings and rules -/
/-- e.f, an attribute of the instance -/
def tFld (K : PySem.W.Frag) (ta : TE) (f : Str) : TE := fun σ H Q => ta σ H fun x H1 => ∃ a C dx fs v, x = .ref a ∧ H1 a = some (.ins C dx fs) ∧ Cls K C ∧ NoAttr K C f ∧ fs.lookup f = some v ∧ Q v H1
/-- e.f, a constant of the class -/
def tCon (K : PySem.W.Frag) (ta : TE) (f : Str) : TE := fun σ H Q => ta σ H fun x H1 => ∃ a C dx fs v u, x = .ref a ∧ H1 a = some (.ins C dx fs) ∧ Cls K C ∧ Con K C f v u ∧ fs.lookup f = none ∧ Q v H1
/-- e.f = value -/
def sFld (K : PySem.W.Frag) (ta tv : TE) (f : Str) : TS := fun D σ H => tv σ H fun y H1 => ta σ H1 fun x H2 => ∃ a C dx fs, x = .ref a ∧ H2 a = some (.ins C dx fs) ∧ Cls K C ∧ NoAttr K C f ∧ fs.length < 1000 ∧
  D.nx σ (upd H2 a (.ins C dx (putF f y fs)))
/-- an augmented operator on two values -/
def InOp (X : Cx) (op : Operator) (rd : V → V → Hp → VK → Prop) : Prop :=
  ∀ (pins : List (Addr × Obj)) (s : Shared) (σ : St) (H : Hp) (x y : V) (u v : Value) (Q : VK), Inv X pins σ H s → RelV x u → RelV y v → rd x y H Q → wpAny (model X.prog X.w) X.A (inplaceOp op u v) (EP X pins σ Q) X.xe s
/-- e.f op= value -/
def sFldAug (K : PySem.W.Frag) (ta tv : TE) (rd : V → V → Hp → VK → Prop) (f : Str) : TS := fun D σ H => ta σ H fun x H1 => ∃ a C dx fs v, x = .ref a ∧ H1 a = some (.ins C dx fs) ∧ Cls K C ∧ NoAttr K C f ∧ fs.lookup f = some v ∧
  tv σ H1 fun y H2 => rd v y H2 fun z H3 => ∃ dx' fs', H3 a = some (.ins C dx' fs') ∧ fs'.length < 1000 ∧ D.nx σ (upd H3 a (.ins C dx' (putF f z fs')))

section
variable {X : Cx} {o e value : Expr} {f : Str} {pos pos' tpos : Pos} {ta tv : TE}
def rAdd : V → V → Hp → VK → Prop := fun x y H Q => ∃ i j, x = .int i ∧ y = .int j ∧ Q (.int (i + j)) H
def rSub : V → V → Hp → VK → Prop := fun x y H Q => ∃ i j, x = .int i ∧ y = .int j ∧ Q (.int (i - j)) H
end

/-! ### isinstance -/
section
variable {X : Cx} {pins : List (Addr × Obj)} {σ : St} {H : Hp} {s : Shared} {A : Around} {E : Value → Shared → Prop} {Q : Value → Shared → Prop} {c : Value} {b : Bool}
/-- the type of a value, as the fragment's deciders take it; for an instance its class -/
inductive TyOf (K : PySem.W.Frag) (H : Hp) : V → Value → Prop where
  | non : TyOf K H .non (.type "NoneType")
  | bl (x : Bool) : TyOf K H (.bl x) (.type "bool")
  | int (i : Int) : TyOf K H (.int i) (.type "int")
  | str (x : Str) : TyOf K H (.str x) (.type "str")
  | flt (x : UInt64) : TyOf K H (.flt x) (.type "float")
  | lst {a : Addr} {xs : List V} (e : H a = some (.lst xs)) : TyOf K H (.ref a) (.type "list")
  | frz {a : Addr} {o : Obj} {xs : List V} (e : H a = some (.frz o (.lst xs))) : TyOf K H (.ref a) (.type "list")
  | tup {a : Addr} {xs : List V} (e : H a = some (.tup xs)) : TyOf K H (.ref a) (.type "tuple")
  | dK {a : Addr} {kvs : List (Key × V)} (e : H a = some (.dK kvs)) : TyOf K H (.ref a) (.type "dict")
  | dT {a : Addr} {kvs : List (List Key × V)} (e : H a = some (.dT kvs)) : TyOf K H (.ref a) (.type "dict")
  | ins {a C dx : Addr} {fs : List (Str × V)} (e : H a = some (.ins C dx fs)) (cl : Cls K C) (ha : PySem.W.findIn K (.ref C) "__class__" = some (some (.builtin "object.__class__")))
      (hn : PySem.W.specialIn K (.builtin "object.__class__") "__get__" = some (some (.builtin "getset_descriptor.__get__"))) (htk : PySem.W.takesIn K (.builtin "object.__class__") = some true)
      (hm : PySem.W.mroIn K C (.type "object") = some true) : TyOf K H (.ref a) (.ref C)
/-- isinstance(x, c) for one class c, a built-in or an own one: kitOne's answer -/
theorem isinst_ok {x : V} {u t : Value} (I : Inv X pins σ H s) (rx : RelV x u) (ty : TyOf X.K H x t) (e : PySem.W.kitOne X.K t c = some b) (h : ∀ tk, Q (.bool b) { s with toks := tk }) :
    wpAny (model X.prog X.w) A (call (.builtin "isinstance") [u, c]) Q E s := by
  cases ty with
  | non => cases (show u = Value.none from rx); exact PySem.W.kia_one PySem.W.kitx_none I.kIn True.intro e (fun z => nomatch z) h
  | bl y => cases (show u = Value.bool y from rx); exact PySem.W.kia_one PySem.W.kitx_bool I.kIn True.intro e (fun z => nomatch z) h
  | int i => obtain ⟨t, q⟩ := (show ∃ t, u = Value.int i t from rx); cases q; exact PySem.W.kia_one PySem.W.kitx_int I.kIn True.intro e (fun z => nomatch z) h
  | str y => obtain ⟨t, q⟩ := (show ∃ t, u = Value.str y t from rx); cases q; exact PySem.W.kia_one PySem.W.kitx_str I.kIn True.intro e (fun z => nomatch z) h
  | flt y => obtain ⟨t, q⟩ := (show ∃ t, u = Value.float y t from rx); cases q; exact PySem.W.kia_one PySem.W.kitx_float I.kIn True.intro e (fun z => nomatch z) h
  | @lst a xs ea =>
    cases (show u = Value.ref a from rx)
    obtain ⟨_, _, n, _, h1⟩ := (show ObjOk X.prog X.w H s.heap a (.lst xs) from I.hok a _ ea)
    exact PySem.W.kia_one PySem.W.kitx_list I.kIn ⟨_, h1, rfl⟩ e (fun z => nomatch z) h
  | @frz a ob xs ea =>
    cases (show u = Value.ref a from rx)
    obtain ⟨_, _, _, n, _, h1⟩ := (show ObjOk X.prog X.w H s.heap a (.frz ob (.lst xs)) from I.hok a _ ea)
    exact PySem.W.kia_one PySem.W.kitx_list I.kIn ⟨_, h1, rfl⟩ e (fun z => nomatch z) h
  | @tup a xs ea =>
    cases (show u = Value.ref a from rx)
    obtain ⟨_, _, _, p⟩ := (show ObjOk X.prog X.w H s.heap a (.tup xs) from I.hok a _ ea)
    obtain ⟨o, h1, h2, _⟩ := p
    exact PySem.W.kia_one PySem.W.kitx_tuple I.kIn ⟨o, h1, h2⟩ e (fun z => nomatch z) h
  | @dK a kvs ea =>
    cases (show u = Value.ref a from rx)
    obtain ⟨_, _, vs, _, p⟩ := (show ObjOk X.prog X.w H s.heap a (.dK kvs) from I.hok a _ ea)
    obtain ⟨o, es, ep, h1, h2, _⟩ := p
    exact PySem.W.kia_one PySem.W.kitx_dict I.kIn ⟨o, h1, h2.1⟩ e (fun z => nomatch z) h
  | @dT a kvs ea =>
    cases (show u = Value.ref a from rx)
    obtain ⟨_, _, xs, _, o, es, ep, h1, h2, _⟩ := (show ObjOk X.prog X.w H s.heap a (.dT kvs) from I.hok a _ ea)
    exact PySem.W.kia_one PySem.W.kitx_dict I.kIn ⟨o, h1, h2.1⟩ e (fun z => nomatch z) h
  | @ins a C dx fs ea cl ha hn htk hm =>
    cases (show u = Value.ref a from rx)
    obtain ⟨mA, O, _⟩ := ins_get I.hok ea
    obtain ⟨od, J, _⟩ := O.look
    exact PySem.W.kia_one (PySem.W.kitx_own (cl.get _) cl.hd ha hn htk hm) I.kIn J e (fun z => nomatch z) h
end
end L2

namespace L2
open PySem PySem.Spec PyProof.Rows

/-! ### room -/
structure Room (k : Nat) (A : Around) : Prop where
  hd : A.handled = none
  dp : A.depth + 3 * k + 5 < recursionLimit
  un : A.units + 16 * k + 200 < cLine
theorem Room.mono {j k : Nat} {A : Around} (r : Room k A) (h : j ≤ k) : Room j A := ⟨r.hd, by have := r.dp; omega, by have := r.un; omega⟩
theorem Room.deeper {k : Nat} {A : Around} (r : Room (k + 1) A) (env : Env) : Room k (A.deeper env) :=
  ⟨r.hd, by have := r.dp; show A.depth + 1 + 3 * k + 5 < _; omega, by have := r.un; show A.units + 3 + 16 * k + 200 < _; omega⟩
theorem Room.depth {k : Nat} {A : Around} (r : Room k A) : A.depth < recursionLimit := by have := r.dp; omega
theorem Room.units0 {k : Nat} {A : Around} (r : Room k A) : A.units < cLine := by have := r.un; omega

/-! ### argument lists and displays -/
def tNil : TA := fun _ H Q => Q [] H
def tCons (ta : TE) (tr : TA) : TA := fun σ H Q => ta σ H fun x H1 => tr σ H1 fun xs H2 => Q (x :: xs) H2
section
variable {X : Cx} {e : Expr} {es : List Expr} {te : TE} {t : TA} {pos : Pos}
theorem pa_nil : PA X [] tNil := fun _ _ _ _ H Q I h => Calls.spliced_nil ⟨[], H, I, .nil, h⟩
theorem pa_cons (ha : PE X e te) (hr : PA X es t) (hs : starEach (e :: es) X.env = (false, eval e X.env) :: starEach es X.env := by rfl) : PA X (e :: es) (tCons te t) := by
  intro pos pins s σ H Q I h
  rw [hs]
  show wpAny _ _ (spliced ((false, eval e X.env) :: backTo pos (starEach es X.env))) _ _ s
  refine Calls.spliced_cons (thn (ha pins s σ H _ I h) fun u s1 ⟨x, H1, I1, r1, q1⟩ => ?_)
  exact thn (hr pos pins s1 σ H1 _ I1 q1) fun us s2 ⟨xs, H2, I2, r2, q2⟩ => ⟨x :: xs, H2, I2, .cons r1 r2, q2⟩

/-- a tuple, a list of written items -/
def tTup (t : TA) : TE := fun σ H Q => t σ H fun xs H1 => xs.length ≤ sizeLine ∧ ∀ p, H1 p = none → Q (.ref p) (upd H1 p (.tup xs))
def tLst (t : TA) : TE := fun σ H Q => t σ H fun xs H1 => xs.length ≤ sizeLine ∧ ∀ p, H1 p = none → Q (.ref p) (upd H1 p (.lst xs))
theorem pe_tup {x1} (h : PA X es t) : PE X (.Tuple es x1 pos) (tTup t) := by
  intro pins s σ H Q I hq
  refine wpAny_Tuple_spliced (thn (h pos pins s σ H _ I hq) fun us s1 ⟨xs, H1, I1, r, z, q⟩ => ⟨by rw [← r.length]; exact z, ?_⟩)
  have hf : H1 s1.heap.objs.size = none := I1.hok.fresh (Nat.le_refl _)
  refine ⟨.ref s1.heap.objs.size, upd H1 s1.heap.objs.size (.tup xs), I1.laid (t' := s1.toks) (fun b u e => Heap.get?_push_of_some _ e) (Nat.le_refl _) ?_, rfl, q _ hf⟩
  exact ⟨z, us, r, ⟨_, Heap.get?_push_size _ rfl, rfl, _, rfl⟩⟩
theorem pe_lst (h : PA X es t) : PE X (.List es pos) (tLst t) := by
  intro pins s σ H Q I hq
  refine wpAny_List_spliced (thn (h pos pins s σ H _ I hq) fun us s1 ⟨xs, H1, I1, r, z, q⟩ => ⟨by rw [← r.length]; exact z, ?_⟩)
  have hf : H1 s1.heap.objs.size = none := I1.hok.fresh (Nat.le_refl _)
  refine ⟨.ref s1.heap.objs.size, upd H1 s1.heap.objs.size (.lst xs), I1.laid (t' := s1.toks) (fun b u e => Heap.get?_push_of_some _ e) (Nat.le_refl _) ?_, rfl, q _ hf⟩
  exact ⟨z, us, 0, r, Heap.get?_push_size _ rfl⟩
end

/-! ### what a def promises -/
/-- a def's promise: the bound arguments in the parameters' order, the heap, the wanted end, the wanted exception -/
abbrev Sp := List V → Hp → VK → XK → Prop
/-- how an exception lies behind a call (file 08 gives it): the callers' frames, abstract heap and state ahead of the call, the wish, the exception, the state -/
abbrev CXT := List Env → Hp → Shared → XK → Value → Shared → Prop

/-- the state at a call -/
structure Env0 (P : Program) (w : World) (K : PySem.W.Frag) (mg : Str → Option Value) (base : Heap) (A : Around) (outer : List Env) (s : Shared) (H : Hp) : Prop where
  frames : A.frames = some outer
  mod : Mod K mg base
  bs : ∀ b o, base.get? b = some o → s.heap.get? b = some o ∧ H b = none
  bsz : base.objs.size ≤ s.heap.objs.size
  funs : s.heap.FunFrames base outer
  frf : ∀ b ∈ frs outer, H b = none
  hok : HOk P w H s.heap
  bare : AllBare s.gens
/-- a call's end -/
def CE (outer : List Env) (P : Program) (w : World) (H : Hp) (s : Shared) (Q : VK) (u : Value) (s' : Shared) : Prop :=
  ∃ v H', s'.os = s.os ∧ AllBare s'.gens ∧ Un (frs outer) [] H H' s.heap s'.heap ∧ HOk P w H' s'.heap ∧ RelV v u ∧ Q v H'
def CR (CX : CXT) (outer : List Env) (P : Program) (w : World) (H : Hp) (s : Shared) (Q : VK) (E : XK) (r : Result) (s' : Shared) : Prop :=
  match r with
  | .ok (.ret u) => CE outer P w H s Q u s'
  | .ok _ => False
  | .error e => CX outer H s E e s'
structure FnOk (P : Program) (w : World) (K : PySem.W.Frag) (mg : Str → Option Value) (base : Heap) (CX : CXT) (k : Nat) (f : Addr) (fd : FuncData) (ps : List Str) (sp : Sp) : Prop where
  len : ∀ vs H Q E, sp vs H Q E → vs.length = ps.length
  run : ∀ (A : Around) (outer : List Env) (s : Shared) (H : Hp) (args : Args) (us : List Value) (vs : List V) (Q : VK) (E : XK), Room k A → Env0 P w K mg base A outer s H → BindsTo s fd args (ps.zip us) → Vals vs us → sp vs H Q E →
    codeAny (model P w) A (.call (.ref f) args) (CR CX outer P w H s Q E) s
theorem FnOk.mono {P : Program} {w : World} {K : PySem.W.Frag} {mg : Str → Option Value} {base : Heap} {CX : CXT} {j k : Nat} {f : Addr} {fd : FuncData} {ps : List Str} {sp : Sp} (F : FnOk P w K mg base CX j f fd ps sp) (h : j ≤ k) :
    FnOk P w K mg base CX k f fd ps sp := ⟨F.len, fun A outer s H args us vs Q E hr => F.run A outer s H args us vs Q E (hr.mono h)⟩
section
variable {X : Cx} {pins : List (Addr × Obj)} {σ : St} {H : Hp} {s s' : Shared}
/-- from a body: what a callee wants -/
theorem Inv.env0 (I : Inv X pins σ H s) : Env0 X.prog X.w X.K X.mg X.base X.A X.stack s H :=
  ⟨I.ok.frames, I.ok.mod, I.bs, Nat.le_trans I.ok.bsz I.sz, I.stack, I.stkFree, I.hok, I.bare⟩
/-- behind a call -/
theorem Inv.after {Q : VK} {u : Value} (I : Inv X pins σ H s) (h : CE X.stack X.prog X.w H s Q u s') : EP X pins σ Q u s' := by
  obtain ⟨v, H', os, bare, un, hok, r, q⟩ := h
  obtain ⟨hh, g, d, t, os'⟩ := s'
  obtain rfl : os' = s.os := os
  exact ⟨v, H', I.call (h' := hh) (g' := g) (d' := d) (t' := t) (ch := []) un hok bare (fun b z => absurd z (by simp)), r, q⟩
end

/-! ### calls -/
/-- f(..): the written arguments, then the defaults dvs; E: what is wanted of an exception -/
def tCall (sp : Sp) (dvs : List V) (E : XK) (t : TA) : TE := fun σ H Q => t σ H fun vs H1 => sp (vs ++ dvs) H1 Q E
/-- o.m(..) of an instance of the class at C -/
def tMeth (C : Addr) (m : Str) (sp : Sp) (dvs : List V) (E : XK) (ta : TE) (t : TA) : TE := fun σ H Q => ta σ H fun x H1 => ∃ a dx fs, x = .ref a ∧ H1 a = some (.ins C dx fs) ∧ fs.lookup m = none ∧
  t σ H1 fun vs H2 => sp (x :: (vs ++ dvs)) H2 Q E
/-- C(..): a new instance and its dict, then __init__ -/
def tMake (C : Addr) (sp : Sp) (dvs : List V) (E : XK) (t : TA) : TE := fun σ H Q => t σ H fun vs H1 => ∀ x dx, H1 x = none → H1 dx = none → dx ≠ x →
  sp (.ref x :: (vs ++ dvs)) (upd (upd H1 dx (.own x)) x (.ins C dx [])) (fun v H2 => v = .non ∧ Q (.ref x) H2) E

/-- how the parameters are bound: us the positional arguments, kw the keywords' values by name, ds the defaults that fill up -/
def Binds (K : PySem.W.Frag) (fd : FuncData) (ps : List Str) (ds : List Value) : Prop :=
  ∀ (s : Shared) (us : List Value), K.In s.heap → (us ++ ds).length = ps.length → BindsTo s fd ⟨us, []⟩ (ps.zip (us ++ ds))
/-- every parameter is given -/
theorem Binds.all {K : PySem.W.Frag} {fd : FuncData} {ps : List Str} (h : ∀ us : List Value, us.length = ps.length → bindArgs fd ⟨us, []⟩ = pure (ps.zip us)) : Binds K fd ps [] := fun s us _ hl => by
  rw [List.append_nil] at hl ⊢
  exact .of_eq (h us hl)

/-- an exception of a callee reaches what this body wants of exceptions -/
def Passes (CX : CXT) (X : Cx) (E : XK) : Prop := ∀ (pins : List (Addr × Obj)) (σ : St) (H : Hp) (s : Shared) (e : Value) (s' : Shared), Inv X pins σ H s → CX X.stack H s E e s' → X.xe e s'

section
variable {X : Cx} {CX : CXT} {k : Nat} {f C : Addr} {fd : FuncData} {ps : List Str} {sp : Sp} {dvs : List V} {ds : List Value} {E : XK} {x m : Str} {p pos apos : Pos} {e o : Expr} {es : List Expr} {ta : TE} {t : TA}

/-- the callee runs -/
theorem run_fn {pins : List (Addr × Obj)} {σ : St} {H : Hp} {s : Shared} {Q : VK} {us : List Value} {vs : List V} (F : FnOk X.prog X.w X.K X.mg X.base CX k f fd ps sp) (hr : Room k X.A) (hb : Binds X.K fd ps ds) (hd : Vals dvs ds) (hx : Passes CX X E)
    (I : Inv X pins σ H s) (r : Vals vs us) (h : sp (vs ++ dvs) H Q E) : wpAny (model X.prog X.w) X.A (call (.ref f) us) (EP X pins σ Q) X.xe s := by
  have r2 : Vals (vs ++ dvs) (us ++ ds) := r.append hd
  have hl : (us ++ ds).length = ps.length := by rw [← r2.length]; exact F.len _ _ _ _ h
  refine wpAny_call (codeAny_mono (F.run X.A X.stack s H ⟨us, []⟩ (us ++ ds) (vs ++ dvs) Q E hr I.env0 (hb s us I.kIn hl) r2 h) fun r s' hq => ?_)
  cases r with
  | error e => exact hx pins σ H s e s' I hq
  | ok fl =>
    cases fl with
    | ret u => exact I.after hq
    | next => exact False.elim hq
    | brk => exact False.elim hq
    | cont => exact False.elim hq

theorem pe_call (F : FnOk X.prog X.w X.K X.mg X.base CX k f fd ps sp) (hr : Room k X.A) (hg : Gl X x) (hm : X.mg x = some (.ref f)) (hk : PySem.W.keepIn X.K (.ref f) = true) (hb : Binds X.K fd ps ds) (hd : Vals dvs ds) (hx : Passes CX X E)
    (ha : PA X (e :: es) t) (hdb : (x == ("__debug__" : Str)) = false := by decide) (he : starEach (e :: es) X.env = (false, eval e X.env) :: starEach es X.env := by rfl) (hpl : (backTo pos (starEach es X.env)).any (·.1) = false := by rfl) :
    PE X (.Call (.Name x p) (e :: es) [] pos) (tCall sp dvs E t) := by
  intro pins s σ H Q I h
  refine wpAny_Call_Name_kw (ld_glob I hg hm ?_ hdb)
  refine PySem.W.callWith_K (h₀ := X.base) I.ok.mod.kin hk (thn (ha pos pins s σ H _ I h) fun us s1 ⟨vs, H1, I1, r, q⟩ => ⟨I1.kIn, ?_⟩) he hpl
  exact run_fn F hr hb hd hx I1 r q
/-- what a class must have to be made -/
structure Mk (K : PySem.W.Frag) (C f : Addr) : Prop where
  makes : PySem.W.makesIn K C = true
  init : PySem.W.findIn K (.ref C) "__init__" = some (some (.ref f))
  fn : PySem.W.isFn K (.ref f) = true
  kp : PySem.W.keepIn K (.ref C) = true

end

/-! ### keywords -/
/-- the values of the keywords, from the left -/
def PK (X : Cx) (kws : List Keyword) (t : TA) : Prop :=
  ∀ (pos : Pos) (pins : List (Addr × Obj)) (s : Shared) (σ : St) (H : Hp) (Q : List V → Hp → Prop), Inv X pins σ H s → t σ H Q → wpAny (model X.prog X.w) X.A (evalAll ((backToKw pos (keywordEach kws X.env)).map (·.2))) (AP X pins σ Q) X.xe s
section
variable {X : Cx} {CX : CXT} {k : Nat} {f C : Addr} {fd : FuncData} {ps ks : List Str} {sp : Sp} {E : XK} {x m : Str} {p pos apos kpos : Pos} {e o : Expr} {es : List Expr} {kws : List Keyword} {te ta : TE} {t tk : TA} {nm : Option Str}
/-- how a call with keywords binds: g puts the positional values us and the keywords' values ws (names ks) in the parameters' order, defaults among them -/
structure KBinds (K : PySem.W.Frag) (fd : FuncData) (ps ks : List Str) (g : List Value → List Value → List Value) (gV : List V → List V → List V) : Prop where
  to : ∀ (s : Shared) (us ws : List Value), K.In s.heap → (g us ws).length = ps.length → BindsTo s fd ⟨us, ks.zip ws⟩ (ps.zip (g us ws))
  rel : ∀ {vs : List V} {us : List Value} {zs : List V} {ws : List Value}, Vals vs us → Vals zs ws → Vals (gV vs zs) (g us ws)
def tCallK (sp : Sp) (gV : List V → List V → List V) (E : XK) (t tk : TA) : TE := fun σ H Q => t σ H fun vs H1 => tk σ H1 fun zs H2 => sp (gV vs zs) H2 Q E
variable {g : List Value → List Value → List Value} {gV : List V → List V → List V}
end

/-! ### a def's body keeps its promise -/
/-- names: the parameters first -/
structure FnScope (N P : List Str) (sc : Scope) : Prop where
  kind : sc.kind = .function
  co : sc.isCoroutine = false
  gen : sc.isGenerator = false
  nd : N.Nodup
  pre : N.take P.length = P
  par : ∀ x ∈ P, sc.names.lookup x = some .local ∨ sc.names.lookup x = some .cell
  nofree : ∀ y ∈ sc.names, y.2 ≠ .free

theorem bindL_out {kindOf : Str → Option NameKind} {x : Str} : ∀ {binds : List (Str × Value)} {m : Str → Option Value}, (∀ v, (x, v) ∉ binds) → bindL kindOf binds m x = m x
  | [], _, _ => rfl
  | (n, v) :: r, m, h => by
    unfold bindL
    rw [bindL_out fun w hw => h w (List.mem_cons_of_mem _ hw)]
    split
    · have : x ≠ n := by rintro rfl; exact h v List.mem_cons_self
      simp [this]
    · rfl
theorem bindC_out {kindOf : Str → Option NameKind} {x : Str} : ∀ {binds : List (Str × Value)} {m : Str → Option Value}, (∀ v, (x, v) ∉ binds) → bindC kindOf binds m x = m x
  | [], _, _ => rfl
  | (n, v) :: r, m, h => by
    unfold bindC
    rw [bindC_out fun w hw => h w (List.mem_cons_of_mem _ hw)]
    split
    · rfl
    · have : x ≠ n := by rintro rfl; exact h v List.mem_cons_self
      simp [this]
theorem bindL_get {kindOf : Str → Option NameKind} {x : Str} {v : Value} : ∀ {P : List Str} {vs : List Value} {i : Nat} {m : Str → Option Value}, P.Nodup → P[i]? = some x → vs[i]? = some v → kindOf x = some .local →
    bindL kindOf (P.zip vs) m x = some v
  | [], _, _, _, _, h, _, _ => by simp at h
  | _ :: _, [], _, _, _, _, h, _ => by simp at h
  | p :: P, w :: vs, 0, m, nd, h1, h2, hk => by
    simp at h1 h2; subst h1; subst h2
    show bindL kindOf ((p, w) :: P.zip vs) m p = _
    unfold bindL
    rw [bindL_out fun v hv => (List.nodup_cons.mp nd).1 (List.of_mem_zip hv).1, if_pos hk]
    simp
  | p :: P, w :: vs, i + 1, m, nd, h1, h2, hk => by
    show bindL kindOf ((p, w) :: P.zip vs) m x = _
    unfold bindL
    exact bindL_get (i := i) (List.nodup_cons.mp nd).2 (by simpa using h1) (by simpa using h2) hk
theorem bindC_get {kindOf : Str → Option NameKind} {x : Str} {v : Value} : ∀ {P : List Str} {vs : List Value} {i : Nat} {m : Str → Option Value}, P.Nodup → P[i]? = some x → vs[i]? = some v → kindOf x ≠ some .local →
    bindC kindOf (P.zip vs) m x = some v
  | [], _, _, _, _, h, _, _ => by simp at h
  | _ :: _, [], _, _, _, _, h, _ => by simp at h
  | p :: P, w :: vs, 0, m, nd, h1, h2, hk => by
    simp at h1 h2; subst h1; subst h2
    show bindC kindOf ((p, w) :: P.zip vs) m p = _
    unfold bindC
    rw [bindC_out fun v hv => (List.nodup_cons.mp nd).1 (List.of_mem_zip hv).1, if_neg hk]
    simp
  | p :: P, w :: vs, i + 1, m, nd, h1, h2, hk => by
    show bindC kindOf ((p, w) :: P.zip vs) m x = _
    unfold bindC
    exact bindC_get (i := i) (List.nodup_cons.mp nd).2 (by simpa using h1) (by simpa using h2) hk

/-- the names' values at the entry -/
def start (N : List Str) (vs : List V) : St := vs.map some ++ List.replicate (N.length - vs.length) none

/-- the context of a def's body, at its entry; an exception leaves the frame, then lies as CX says -/
def cxOf (CX : CXT) (P : Program) (w : World) (K : PySem.W.Frag) (mg : Str → Option Value) (base : Heap) (N : List Str) (qual : Str) (scope : Scope) (f : Addr) (cd : Value) (A : Around) (outer : List Env) (s : Shared) (H : Hp) (E : XK) : Cx where
  prog := P
  w := w
  K := K
  mg := mg
  base := base
  A := A.deeper (envOfC qual scope s.heap.objs.size f cd)
  N := N
  s₀ := s
  H₀ := H
  env := envOfC qual scope s.heap.objs.size f cd
  outer := outer
  stack := envOfC qual scope s.heap.objs.size f cd :: outer
  ex := []
  calm := true
  fn := fun _ => true
  pn := []
  xe := fun e s' => wpAny (model P w) (A.deeper (envOfC qual scope s.heap.objs.size f cd)) (leaving (envOfC qual scope s.heap.objs.size f cd) e) (fun _ s'' => CX outer H s E e s'') (fun e' s'' => CX outer H s E e' s'') s'

theorem cell_has {sc : Scope} {n : Nat} {x : Str} (h : sc.names.lookup x = some .cell) : ∃ c, (cellsFrom n sc.names []).lookup x = some c := by
  have q := PySem.W.cellsFrom_some sc.names n [] (.inl h)
  exact Option.isSome_iff_exists.mp q

theorem inv_start {CX : CXT} {P : Program} {w : World} {K : PySem.W.Frag} {mg : Str → Option Value} {base : Heap} {N ps : List Str} {qual : Str} {scope : Scope} {f : Addr} {cd : Value} {A : Around} {outer : List Env} {s s1 : Shared} {H : Hp} {E : XK} {us : List Value} {vs : List V}
    (S : FnScope N ps scope) (hd : A.handled = none) (e0 : Env0 P w K mg base A outer s H) (hl : vs.length = ps.length) (r : Vals vs us)
    (x : InCallC s s.heap.objs.size (bindL (envOfC qual scope s.heap.objs.size f cd).kindOf (ps.zip us) fun _ => none) (cellsFrom (s.heap.objs.size + 1) scope.names []) (bindC (envOfC qual scope s.heap.objs.size f cd).kindOf (ps.zip us) fun _ => none) s1) :
    Inv (cxOf CX P w K mg base N qual scope f cd A outer s H E) [] (start N vs) H s1 := by
  have hpl : ps.length ≤ N.length := by have := congrArg List.length S.pre; rw [List.length_take] at this; omega
  obtain ⟨h1, tk, rfl, hk⟩ := x.done
  have noA : ∀ b : Addr, b ∉ (cxOf CX P w K mg base N qual scope f cd A outer s H E).ex := fun b z => absurd (show b ∈ ([] : List Addr) from z) (by simp)
  refine ⟨⟨e0.mod, S.kind, rfl, rfl, Nat.le_refl _, fun y z c h1 h2 => ?_, fun y hy => ?_, fun y c _ h => ?_, fun _ => hd, Around.frames_deeper e0.frames, .inr ⟨rfl, rfl⟩, fun b z => absurd z (noA b), e0.bs, e0.bsz, fun b _ _ => noA b, fun b z => absurd z (noA b), e0.funs, e0.frf⟩,
    rfl, e0.bare, Un.kept hk, ⟨_, x.toInCall.ns, fun i y v h1 h2 h3 => ?_⟩, fun y c h => ⟨_, x.cell y c h⟩, e0.hok.fresh (Nat.le_refl _), fun y c h => ?_, fun p hp => absurd (show p ∈ ([] : List (Addr × Obj)) from hp) (by simp), e0.hok.kept hk, ?_⟩
  · exact name_of_addr x.apart (PySem.mem_of_lookup h1) (PySem.mem_of_lookup h2)
  · have hy : scope.names.lookup y = some .cell ∨ scope.names.lookup y = some .free := hy
    rcases hy with hy | hy
    · exact cell_has hy
    · exact absurd rfl (S.nofree _ (PySem.mem_of_lookup hy))
  · exact Nat.le_of_lt (x.above y c (PySem.mem_of_lookup h))
  · have hi : i < vs.length := by
      unfold start at h2
      by_cases hi : i < vs.length
      · exact hi
      · rw [List.getElem?_append_right (by simpa using hi)] at h2
        rw [List.getElem?_replicate] at h2
        split at h2 <;> cases h2
    have ha : vs[i]? = some v := by
      unfold start at h2
      rw [List.getElem?_append_left (by simpa using hi), List.getElem?_map] at h2
      cases e : vs[i]? with
      | none => rw [e] at h2; cases h2
      | some a => rw [e] at h2; cases h2; rfl
    obtain ⟨u, hu, rv⟩ := r.get ha
    have hp : ps[i]? = some y := by
      rw [← S.pre, List.getElem?_take_of_lt (by omega)]; exact h1
    have ndP : ps.Nodup := by rw [← S.pre]; exact S.nd.sublist (List.take_sublist _ _)
    refine ⟨u, rv, ?_⟩
    rcases S.par y (List.mem_of_getElem? hp) with k | k
    · exact .inl ⟨k, bindL_get ndP hp hu k⟩
    · obtain ⟨c, e⟩ := cell_has (n := s.heap.objs.size + 1) k
      refine .inr ⟨.inl k, c, e, ?_⟩
      have q := x.cell y c e
      rw [bindC_get ndP hp hu (by show scope.names.lookup y ≠ _; rw [k]; decide)] at q
      exact q
  · exact e0.hok.fresh (Nat.le_of_lt (x.above y c (PySem.mem_of_lookup h)))
  · unfold start
    show _ = N.length
    rw [List.length_append, List.length_map, List.length_replicate]
    omega

/-- THE RULE: a def (or a method) of the text, by its body. The body's reading t is chosen for each entry; it is run at the parameters' values -/
theorem fn_of {CX : CXT} {P : Program} {w : World} {K : PySem.W.Frag} {mg : Str → Option Value} {base : Heap} {k : Nat} {f : Addr} {name qual : Str} {params : Arguments} {body : List Stmt} {scope : Scope} {dV kV doc pm cdv ct oc : Value} {an od : Option Addr}
    {osl : Array (Option Value)} {N ps : List Str} {sp : Sp} (lk : K.lookup f = some ⟨oc, od, .func (PySem.W.fnOf name qual params body scope dV kV doc pm an cdv ct), osl⟩) (hcd : PySem.W.codeIn K cdv qual = true) (S : FnScope N ps scope)
    (len : ∀ vs H Q E, sp vs H Q E → vs.length = ps.length)
    (hbody : ∀ (A : Around) (outer : List Env) (s : Shared) (H : Hp) (vs : List V) (Q : VK) (E : XK), Room k (A.deeper (envOfC qual scope s.heap.objs.size f cdv)) → sp vs H Q E →
      ∃ t, PSs (cxOf CX P w K mg base N qual scope f cdv A outer s H E) body t ∧ t { nx := fun _ H' => Q .non H', rt := Q } (start N vs) H) :
    FnOk P w K mg base CX (k + 1) f (PySem.W.fnOf name qual params body scope dV kV doc pm an cdv ct) ps sp := by
  refine ⟨len, fun A outer s H args us vs Q E hr e0 hb r hsp => ?_⟩
  have hl := len _ _ _ _ hsp
  have KX : K.In s.heap := e0.mod.kin.keeps fun b o e => (e0.bs b o e).1
  have lim : s.heap.NoLimit := e0.mod.nolimit.keeps fun b o e => (e0.bs b o e).1
  have hkind : ∀ y ∈ ps.zip us, scope.names.lookup y.1 = some .local ∨ (scope.names.lookup y.1 = some .cell ∧ ((cellsFrom (s.heap.objs.size + 1) scope.names []).lookup y.1).isSome = true) := fun ⟨n, v⟩ hy => by
    rcases S.par n (List.of_mem_zip hy).1 with q | q
    · exact .inl q
    · exact .inr ⟨q, PySem.W.cellsFrom_some _ _ _ (.inl q)⟩
  refine codeAny_call_function hr.depth (KX _ _ lk) rfl S.co S.gen rfl (PySem.W.codeRec_of KX hcd) (hb _ _ _ _ ?_)
  refine wpAny_newFunctionEnv_cells S.kind hkind fun env he s1 x => ?_
  subst he
  refine ⟨lim.keeps x.toInCall.keep, codeAny_func ?_⟩
  obtain ⟨t, ht, hq⟩ := hbody A outer s H vs Q E (hr.deeper _) hsp
  have I : Inv (cxOf CX P w K mg base N qual scope f cdv A outer s H E) [] (start N vs) H s1 := inv_start S hr.hd e0 hl r x
  refine wpAny_mono (ht [] s1 (start N vs) H _ I hq) (fun fl s' hs => ?_) fun e s' hs => hs
  have fin : ∀ {σ' : St} {H' : Hp} {v : V} {u : Value}, Inv (cxOf CX P w K mg base N qual scope f cdv A outer s H E) [] σ' H' s' → RelV v u → Q v H' → CE outer P w H s Q u s' :=
    fun {σ' H' v u} J rv q => ⟨v, H', J.os, J.bare, J.base, J.hok, rv, q⟩
  cases fl with
  | ret u =>
    obtain ⟨v, σ', H', J, rv, q⟩ := hs
    exact fin J rv q
  | next =>
    obtain ⟨σ', H', J, q⟩ := hs
    exact fin (v := V.non) (u := Value.none) J rfl q
  | brk =>
    obtain ⟨_, _, _, q⟩ := hs
    exact False.elim q
  | cont =>
    obtain ⟨_, _, _, q⟩ := hs
    exact False.elim q
end L2

namespace L2
open PySem PySem.Spec PyProof.Rows
section
variable {X : Cx} {x : Str} {p pos : Pos} {e : Expr} {es : List Expr} {t : TA} {id T : String} {r : List V → Hp → VK → Prop}

def tCB (r : List V → Hp → VK → Prop) (t : TA) : TE := fun σ H Q => t σ H fun vs H1 => r vs H1 Q
/-- f(e, ..), f a built-in function -/
theorem pe_callB (hc : CallR X (.builtin id) r) (hg : Gl X x) (hm : X.mg x = none) (hv : bootBuiltins x = some (.builtin id)) (ha : PA X (e :: es) t) (hn : x ≠ "__name__" := by decide) (hdb : (x == ("__debug__" : Str)) = false := by decide)
    (he : starEach (e :: es) X.env = (false, eval e X.env) :: starEach es X.env := by rfl) (hpl : (backTo pos (starEach es X.env)).any (·.1) = false := by rfl) : PE X (.Call (.Name x p) (e :: es) [] pos) (tCB r t) := by
  intro pins s σ H Q I h
  refine wpAny_Call_Name_kw (ld_blt I hg hm hv ?_ hn hdb)
  exact PyProof.Rows.callWith_builtin1 (thn (ha pos pins s σ H _ I h) fun us s1 ⟨vs, H1, I1, r1, q1⟩ => hc pins s1 σ H1 vs us Q I1 r1 q1) he hpl
/-- T(e, ..), T a built-in type -/
theorem pe_callTy (hc : CallR X (.type T) r) (hg : Gl X x) (hm : X.mg x = none) (hv : bootBuiltins x = some (.type T)) (ha : PA X (e :: es) t) (hn : x ≠ "__name__" := by decide) (hdb : (x == ("__debug__" : Str)) = false := by decide)
    (he : starEach (e :: es) X.env = (false, eval e X.env) :: starEach es X.env := by rfl) (hpl : (backTo pos (starEach es X.env)).any (·.1) = false := by rfl) : PE X (.Call (.Name x p) (e :: es) [] pos) (tCB r t) := by
  intro pins s σ H Q I h
  refine wpAny_Call_Name_kw (ld_blt I hg hm hv ?_ hn hdb)
  exact PyProof.Rows.callWith_type1 (thn (ha pos pins s σ H _ I h) fun us s1 ⟨vs, H1, I1, r1, q1⟩ => hc pins s1 σ H1 vs us Q I1 r1 q1) he hpl
end
end L2

namespace HT
open PySem PyProof.Rows

/-- t < u of tuples of ints -/
def lexLt : List Int → List Int → Bool
  | [], [] => false
  | [], _ :: _ => true
  | _ :: _, [] => false
  | x :: xs, y :: ys => if x = y then lexLt xs ys else decide (x < y)
section
open PySem.SeqAt
open PySem.AutoSeq1 (wpAny_loadPart')
open PySem.MeetsSeq PySem.MeetsSeq2 PySem.MeetsSeq3

end

section
variable {prog : Program} {w : World} {A : Around} {E : Value → Shared → Prop} {s : Shared}

/-! ### t[a:b], not the whole -/
/-- a slice's bound as a place among n (d where it is left out) -/
def sIx (n d : Nat) : Option Int → Nat
  | none => d
  | some v => if v < 0 then (v + (n : Int)).toNat else min v.toNat n
theorem sIx_none (n d : Nat) : sIx n d none = d := rfl
theorem sIx_nat (n d k : Nat) : sIx n d (some (k : Int)) = min k n := by
  show (if (k : Int) < 0 then ((k : Int) + (n : Int)).toNat else min (k : Int).toNat n) = min k n
  rw [if_neg (by omega), Int.toNat_natCast]
theorem sIx_le (n d : Nat) (hd : d ≤ n) (o : Option Int) : sIx n d o ≤ n := by
  cases o with
  | none => exact hd
  | some v =>
    show (if v < 0 then (v + (n : Int)).toNat else min v.toNat n) ≤ n
    by_cases hv : v < 0
    · rw [if_pos hv]; omega
    · rw [if_neg hv]; exact Nat.min_le_right _ _
theorem clip_eq (v : Int) (n d : Nat) : (if v < 0 then max (v + (n : Int)) 0 else min v (n : Int)) = ((sIx n d (some v) : Nat) : Int) := by
  show (if v < 0 then max (v + (n : Int)) 0 else min v (n : Int)) = (((if v < 0 then (v + (n : Int)).toNat else min v.toNat n) : Nat) : Int)
  by_cases hv : v < 0
  · simp only [if_pos hv]; omega
  · simp only [if_neg hv]; omega
theorem adjust_gen (lo hi : Option Int) (n : Nat) : Builtin.Slice.sliceAdjust lo hi 1 (n : Int) = (((sIx n 0 lo : Nat) : Int), ((sIx n n hi : Nat) : Int)) := by
  have h1 : ¬ ((1 : Int) < 0) := by omega
  unfold Builtin.Slice.sliceAdjust
  simp only [h1, if_false]
  refine Prod.ext ?_ ?_
  · cases lo with
    | none => rfl
    | some v => exact clip_eq v n 0
  · cases hi with
    | none => rfl
    | some v => exact clip_eq v n n
theorem places_gen (i j : Nat) : Builtin.Slice.slicePlaces (i : Int) (j : Int) 1 = j - i := by
  unfold Builtin.Slice.slicePlaces
  have h1 : (1 : Int) > 0 := by omega
  simp only [h1, if_true, Int.ediv_one]
  split <;> omega
theorem slicePart_ {v : Value} {o : Option Int} {Q : Option Int → Shared → Prop} (p : IsPart v o) (h : Q o s) : wpAny (model prog w) A (Builtin.Slice.slicePartIndex v) Q E s := by
  cases p with
  | none => exact slicePart_none h
  | int i t => exact slicePart_int h
theorem sliceApplied_gen {sl : Addr} {vl vu : Value} {lo hi : Option Int} {n : Nat} {Q : Int × Int × Nat → Shared → Prop} (hs : s.heap.IsSliceOf sl vl vu .none) (pl : IsPart vl lo) (pu : IsPart vu hi)
    (h : Q (((sIx n 0 lo : Nat) : Int), 1, sIx n n hi - sIx n 0 lo) s) : wpAny (model prog w) A (Builtin.Slice.sliceApplied (.ref sl) (pure (n : Int))) Q E s := by
  obtain ⟨os, hos, hcs, hds⟩ := id hs
  unfold Builtin.Slice.sliceApplied Builtin.Slice.sliceFields
  refine wpAny_bind (wpAny_bind (wpAny_field hos hds (x := vl) rfl (wpAny_bind (wpAny_field hos hds (x := vu) rfl (wpAny_bind (wpAny_field hos hds (x := .none) rfl (wpAny_pure ?_)))))))
  refine wpAny_bind (slicePart_none ?_)
  show wpAny _ _ (if ((1 : Int) == 0) = true then _ else _) _ _ s
  rw [if_neg (by decide)]
  refine wpAny_bind (slicePart_ pl (wpAny_bind (slicePart_ pu (wpAny_bind (wpAny_pure ?_)))))
  show wpAny _ _ (match Builtin.Slice.sliceAdjust lo hi 1 (n : Int) with | (lo, hi) => pure (lo, (1 : Int), Builtin.Slice.slicePlaces lo hi 1)) _ _ s
  rw [adjust_gen lo hi n]
  show wpAny _ _ (pure (((sIx n 0 lo : Nat) : Int), (1 : Int), Builtin.Slice.slicePlaces ((sIx n 0 lo : Nat) : Int) ((sIx n n hi : Nat) : Int) 1)) _ _ s
  rw [places_gen]
  exact wpAny_pure h
theorem pick_gen (xs : Array Value) (i k : Nat) : ((List.range k).filterMap fun (m : Nat) => xs[((i : Int) + (m : Int) * 1).toNat]?).toArray = ((xs.toList.drop i).take k).toArray := by
  have e : (fun (m : Nat) => xs[((i : Int) + (m : Int) * 1).toNat]?) = fun m => xs[i + m]? := by
    funext m
    have : ((i : Int) + (m : Int) * 1).toNat = i + m := by omega
    rw [this]
  rw [e]
  have := pick_run xs i k
  rw [List.filterMap_map] at this
  have e2 : ((fun x => xs[x]?) ∘ fun x => i + x) = fun m => xs[i + m]? := rfl
  rw [e2] at this
  rw [this]

theorem getItem_tuple_cut {t sl : Addr} {items : Array Value} {vl vu : Value} {lo hi : Option Int} {Q : Value → Shared → Prop} (ht : IsTup s.heap t items) (hs : s.heap.IsSliceOf sl vl vu .none) (pl : IsPart vl lo) (pu : IsPart vu hi)
    (hw : ¬ (sIx items.size 0 lo = 0 ∧ sIx items.size items.size hi = items.size))
    (h : Q (.ref s.heap.objs.size) { s with heap := s.heap.push { cls := .type "tuple", data := .seq ((items.toList.drop (sIx items.size 0 lo)).take (sIx items.size items.size hi - sIx items.size 0 lo)).toArray } })
    (hsz : items.size ≤ sizeLine) : wpAny (model prog w) A (getItem (.ref t) (.ref sl)) Q E s := by
  have htake : sizeOk (.seq ((items.toList.drop (sIx items.size 0 lo)).take (sIx items.size items.size hi - sIx items.size 0 lo)).toArray) := by
    show ((items.toList.drop (sIx items.size 0 lo)).take (sIx items.size items.size hi - sIx items.size 0 lo)).toArray.size ≤ sizeLine
    rw [List.size_toArray, List.length_take, List.length_drop, Array.length_toList]
    omega
  have hj : sIx items.size items.size hi ≤ items.size := sIx_le _ _ (Nat.le_refl _) hi
  obtain ⟨os, hos, hcs, hds⟩ := id hs
  have hTs : s.TypeIs (.ref sl) "slice" := ⟨os, hos, hcs⟩
  unfold getItem
  try with_reducible refine wpAny_holding ?_
  first | refine wpAny_bind (wpAny_pure ?_) | skip
  refine wpAny_bind (wpAny_sequenceKey ht.typeIs (by decide) ?_)
  refine wpAny_bind (wpAny_callSpecial?_slot (name := Str.ofString "__getitem__") ht.typeIs PyProof.Rows.slot_tuple_getitem
    (wpAny_call_entry PyProof.Rows.slot_tuple_getitem ht.typeIs entry_tuple_getitem ?_ (args_tuple_getitem _ _)))
  show wpAny _ _ (Builtin.Tuple.tupleItemsOf (.ref t) >>= _) _ _ s
  refine wpAny_bind (tupleItemsOf_ ht ?_)
  refine wpAny_bind (wpAny_typeOf hTs ?_)
  rw [if_pos (by decide)]
  refine wpAny_bind (sliceApplied_gen hs pl pu ?_)
  have hno : ¬ ((((sIx items.size 0 lo : Nat) : Int) == 0 && (1 : Int) == 1 && (sIx items.size items.size hi - sIx items.size 0 lo) == items.size) = true) := by
    intro q
    rw [Bool.and_eq_true, Bool.and_eq_true] at q
    have q1 : ((sIx items.size 0 lo : Nat) : Int) = 0 := eq_of_beq q.1.1
    have q2 : sIx items.size items.size hi - sIx items.size 0 lo = items.size := eq_of_beq q.2
    exact hw ⟨by omega, by omega⟩
  show wpAny _ _ (if (((sIx items.size 0 lo : Nat) : Int) == 0 && (1 : Int) == 1 && (sIx items.size items.size hi - sIx items.size 0 lo) == items.size) = true then _ else _) _ _ s
  rw [if_neg hno, pick_gen]
  first
    | exact wpAny_bind (m := Builtin.Tuple.tupleExact _) (wpAny_newObj_type (wpAny_pure ⟨_, rfl, wpAny_pure h⟩) htake)
    | exact wpAny_bind (m := Builtin.Tuple.tupleExact _) (wpAny_newObj_type (wpAny_bind (wpAny_pure (wpAny_pure ⟨_, rfl, wpAny_pure h⟩))) htake)
    | exact wpAny_bind (wpAny_bind (m := Builtin.Tuple.tupleExact _) (wpAny_newObj_type (wpAny_pure (wpAny_pure ⟨_, rfl, wpAny_pure h⟩)) htake))
    | exact wpAny_bind (wpAny_bind (m := Builtin.Tuple.tupleExact _) (wpAny_newObj_type (wpAny_pure ⟨_, rfl, wpAny_pure h⟩) htake))
end
end HT

namespace L2
open PySem PySem.Spec PyProof.Rows

/-! ### the parts of a slice -/
abbrev TO := St → Hp → (Option Int → Hp → Prop) → Prop
/-- a slice's part (left out, or an int) -/
def PO (X : Cx) (e : Option Expr) (t : TO) : Prop :=
  ∀ (pins : List (Addr × Obj)) (s : Shared) (σ : St) (H : Hp) (Q : Option Int → Hp → Prop), Inv X pins σ H s → t σ H Q →
    wpAny (model X.prog X.w) X.A (evalPart e X.env) (fun u s' => ∃ o H', Inv X pins σ H' s' ∧ IsPart u o ∧ Q o H') X.xe s
def tNoPart : TO := fun _ H Q => Q none H
def tPart (t : TE) : TO := fun σ H Q => t σ H fun x H1 => ∃ i, x = .int i ∧ Q (some i) H1

theorem intsAre_of {ns : List Int} : ∀ {us : List Value}, Vals (ns.map V.int) us → IntsAre us ns := by
  induction ns with
  | nil => intro us r; rw [List.map_nil] at r; cases r; exact .nil
  | cons n ns ih =>
    intro us r
    rw [List.map_cons] at r
    cases r with
    | cons r1 r2 =>
      obtain ⟨t, e⟩ := r1
      subst e
      exact .cons n t (ih r2)

section
variable {X : Cx} {e : Expr} {te : TE} {lo hi : Option Expr} {tl th : TO} {pos p2 : Pos}

theorem po_none : PO X none tNoPart := by
  intro pins s σ H Q I h
  rw [evalPart_none]
  exact wpAny_pure ⟨none, H, I, .none, h⟩
theorem po_some (h : PE X e te) : PO X (some e) (tPart te) := by
  intro pins s σ H Q I hw
  rw [evalPart_some]
  refine thn (h pins s σ H _ I hw) fun u s1 ⟨x, H1, I1, r1, q1⟩ => ?_
  obtain ⟨i, rfl, q⟩ := q1
  obtain ⟨t, rfl⟩ := r1
  exact ⟨some i, H1, I1, .int i t, q⟩

/-- what a slice of a value is, by values: the slice object stands at sl -/
def SlR (X : Cx) (r : V → Option Int → Option Int → Hp → VK → Prop) : Prop :=
  ∀ (pins : List (Addr × Obj)) (s : Shared) (σ : St) (H : Hp) (x : V) (v vl vu : Value) (lo hi : Option Int) (sl : Addr) (Q : VK), Inv X pins σ H s → RelV x v → s.heap.IsSliceOf sl vl vu .none → IsPart vl lo → IsPart vu hi → r x lo hi H Q →
    ∃ T id, typeLookup (.type T) "__getitem__" = pure (some (.builtin id)) ∧ s.TypeIs v T ∧ wpAny (model X.prog X.w) X.A (getItem v (.ref sl)) (EP X pins σ Q) X.xe s
def tSl (r : V → Option Int → Option Int → Hp → VK → Prop) (te : TE) (tl th : TO) : TE := fun σ H Q => te σ H fun x H1 => tl σ H1 fun l H2 => th σ H2 fun u H3 => r x l u H3 Q
/-- a[lo:hi], any a -/
theorem pe_slice {r : V → Option Int → Option Int → Hp → VK → Prop} (hr : SlR X r) (he : PE X e te) (hl : PO X lo tl) (hu : PO X hi th) : PE X (.Subscript e (.Slice lo hi none p2) pos) (tSl r te tl th) := by
  intro pins s σ H Q I h
  refine Subscript_ (thn (he pins s σ H _ I h) fun v s1 ⟨x, H1, I1, r1, q1⟩ => ?_)
  refine wpAny_Slice (thn (hl pins s1 σ H1 _ I1 q1) fun vl s2 ⟨l, H2, I2, pl, q2⟩ => thn (hu pins s2 σ H2 _ I2 q2) fun vu s3 ⟨u, H3, I3, pu, q3⟩ => ?_)
  rw [evalPart_none]
  refine wpAny_pure ?_
  have I4 : Inv X pins σ H3 { s3 with heap := s3.heap.push { cls := .type "slice", data := .fields #[vl, vu, .none] } } := I3.kept (t' := s3.toks) fun b ob q => Heap.get?_push_of_some _ q
  obtain ⟨T, id, hT, ht, hg⟩ := hr pins { s3 with heap := s3.heap.push { cls := .type "slice", data := .fields #[vl, vu, .none] } } σ H3 x v vl vu l u s3.heap.objs.size Q I4 r1 (Heap.IsSliceOf.new ..) pl pu q3
  show wpAny (model X.prog X.w) X.A (subscriptTail e (.Slice lo hi none p2) v (.ref s3.heap.objs.size)) (EP X pins σ Q) X.xe { s3 with heap := s3.heap.push { cls := .type "slice", data := .fields #[vl, vu, .none] } }
  exact tail_any (ops := [.ref s3.heap.objs.size, v]) ht hT hg (by with_unfolding_all rfl)

/-- the items of xs[lo:hi] -/
def cutV (xs : List V) (lo hi : Option Int) : List V := (xs.drop (HT.sIx xs.length 0 lo)).take (HT.sIx xs.length xs.length hi - HT.sIx xs.length 0 lo)
theorem cutV_length (xs : List V) (lo hi : Option Int) : (cutV xs lo hi).length ≤ xs.length := by
  unfold cutV
  rw [List.length_take, List.length_drop]
  omega
/-- t[lo:hi], not the whole of it (the whole would be t itself) -/
def rSlT (K : PySem.W.Frag) : V → Option Int → Option Int → Hp → VK → Prop := fun x lo hi H Q => ∃ a xs, x = .ref a ∧ SqT K H a xs ∧
  ¬ (HT.sIx xs.length 0 lo = 0 ∧ HT.sIx xs.length xs.length hi = xs.length) ∧ ∀ p, H p = none → Q (.ref p) (upd H p (.tup (cutV xs lo hi)))
theorem sl_tup : SlR X (rSlT X.K) := by
  intro pins s σ H x v vl vu lo hi sl Q I rx hs pl pu h
  obtain ⟨a, xs, rfl, hx, hw, q⟩ := h
  cases rx
  obtain ⟨its, r, ht, hz⟩ := I.tuple hx
  have hlen : its.toArray.size = xs.length := by rw [List.size_toArray]; exact r.length.symm
  refine ⟨"tuple", _, PyProof.Rows.slot_tuple_getitem.lookup, ht.typeIs, ?_⟩
  refine HT.getItem_tuple_cut ht hs pl pu (by rw [hlen]; exact hw) ?_ (by rw [hlen]; exact hz)
  rw [hlen]
  refine ⟨.ref s.heap.objs.size, _, I.laid (t' := s.toks) (o := .tup (cutV xs lo hi)) (fun b ob q => Heap.get?_push_of_some _ q) (Nat.le_refl _) ?_, rfl, q _ (I.hok.fresh (Nat.le_refl _))⟩
  exact ⟨Nat.le_trans (cutV_length xs lo hi) hz, _, (r.drop (HT.sIx xs.length 0 lo)).take (HT.sIx xs.length xs.length hi - HT.sIx xs.length 0 lo), IsTup.new _ _⟩

/-! ### t < u, t + u -/
def rLtT (K : PySem.W.Frag) : R2 := fun x y H Q => ∃ a b ns ms, x = .ref a ∧ y = .ref b ∧ SqT K H a (ns.map V.int) ∧ SqT K H b (ms.map V.int) ∧ Q (.bl (HT.lexLt ns ms)) H
/-- t + u, t not empty: u empty gives t itself -/
def rCatT (K : PySem.W.Frag) : R2 := fun x y H Q => ∃ a b xs ys, x = .ref a ∧ y = .ref b ∧ SqT K H a xs ∧ SqT K H b ys ∧ xs ≠ [] ∧ xs.length + ys.length ≤ sizeLine ∧
  (ys = [] → Q (.ref a) H) ∧ (ys ≠ [] → ∀ p, H p = none → Q (.ref p) (upd H p (.tup (xs ++ ys))))
end
end L2

namespace L2
open PySem PySem.Spec PyProof.Rows

/-! ### places -/
/-- the place that an index of any sign means -/
def ixN (n : Nat) (i : Int) : Option Nat := if 0 ≤ i then (if i < n then some i.toNat else none) else if -(n : Int) ≤ i then some (i + n).toNat else none
def atI {α : Type} (xs : List α) (i : Int) : Option α := (ixN xs.length i).bind fun j => xs[j]?
theorem ixN_seq {n : Nat} {i : Int} {j : Nat} (h : ixN n i = some j) : seqIndex? i n = some j ∧ j < n ∧ -(n : Int) ≤ i ∧ i < n := by
  unfold ixN at h
  by_cases h0 : 0 ≤ i
  · rw [if_pos h0] at h
    by_cases h1 : i < n
    · rw [if_pos h1] at h
      have e : i.toNat = j := Option.some.inj h
      exact ⟨by rw [seqIndex_of h0 h1, e], by omega, by omega, h1⟩
    · rw [if_neg h1] at h; cases h
  · rw [if_neg h0] at h
    by_cases h1 : -(n : Int) ≤ i
    · rw [if_pos h1] at h
      have e : (i + n).toNat = j := Option.some.inj h
      exact ⟨by rw [seqIndex_neg (by omega) h1, e], by omega, h1, by omega⟩
    · rw [if_neg h1] at h; cases h
theorem atI_get {α : Type} {xs : List α} {i : Int} {v : α} (h : atI xs i = some v) : ∃ j, seqIndex? i xs.length = some j ∧ xs[j]? = some v ∧ j < xs.length ∧ -(xs.length : Int) ≤ i ∧ i < xs.length := by
  unfold atI at h
  cases e : ixN xs.length i with
  | none => rw [e] at h; cases h
  | some j =>
    rw [e] at h
    obtain ⟨h1, h2, h3, h4⟩ := ixN_seq e
    exact ⟨j, h1, h, h2, h3, h4⟩
theorem atI_nat {α : Type} {xs : List α} {j : Nat} {v : α} (h : xs[j]? = some v) : atI xs (j : Int) = some v := by
  have hj : j < xs.length := (List.getElem?_eq_some_iff.mp h).1
  have e : ixN xs.length (j : Int) = some j := by
    unfold ixN
    rw [if_pos (by omega), if_pos (by omega)]; simp
  unfold atI; rw [e]; exact h
/-! ### what may be subscripted -/
/-- what stands as an index of a plain subscript -/
def PlainIx (b : Expr) : Prop := ∀ o i, subscripted b false o i = operate [o, i] (getItem o i)
/-- a subscript by values -/
def IxR (X : Cx) (r : R2) : Prop :=
  ∀ (value slice : Expr) (pins : List (Addr × Obj)) (s : Shared) (σ : St) (H : Hp) (x y : V) (v u : Value) (Q : VK), Inv X pins σ H s → RelV x v → RelV y u → r x y H Q →
    subscripted slice false v u = operate [v, u] (getItem v u) → wpAny (model X.prog X.w) X.A (subscriptTail value slice v u) (EP X pins σ Q) X.xe s
/-- a call of a builtin's method by values: the receiver, the arguments -/
def MtR (X : Cx) (id : String) (r : V → List V → Hp → VK → Prop) : Prop :=
  ∀ (pins : List (Addr × Obj)) (s : Shared) (σ : St) (H : Hp) (x : V) (xs : List V) (v : Value) (us : List Value) (Q : VK), Inv X pins σ H s → RelV x v → Vals xs us → r x xs H Q →
    wpAny (model X.prog X.w) X.A (call (.builtin id) (v :: us)) (EP X pins σ Q) X.xe s
section
variable {X : Cx} {a b : Expr} {ta tb : TE} {pos : Pos}
/-- a[b] -/
theorem pe_ix {r : R2} (hr : IxR X r) (ha : PE X a ta) (hb : PE X b tb) (hs : PlainIx b) : PE X (.Subscript a b pos) (tOp r ta tb) := by
  intro pins s σ H Q I h
  exact Subscript_ (binT ha hb I h fun v u s2 x y H2 I2 rx ry q => hr a b pins s2 σ H2 x y v u Q I2 rx ry q (hs _ _))

def rIxL (K : PySem.W.Frag) : R2 := fun x y H Q => ∃ p xs i v, x = .ref p ∧ y = .int i ∧ SqL K H p xs ∧ atI xs i = some v ∧ Q v H
def rIxT (K : PySem.W.Frag) : R2 := fun x y H Q => ∃ p xs i v, x = .ref p ∧ y = .int i ∧ SqT K H p xs ∧ atI xs i = some v ∧ Q v H
def rIxS : R2 := fun x y H Q => ∃ z i c, x = .str z ∧ y = .int i ∧ z.length ≤ sizeLine ∧ atI z.cps.toList i = some c ∧ Q (.str ⟨#[c]⟩) H
theorem ix_list : IxR X (rIxL X.K) := by
  intro value slice pins s σ H x y v u Q I rx ry h hs
  obtain ⟨p, xs, i, z, rfl, rfl, hq, he, q⟩ := h
  cases rx
  obtain ⟨t, rfl⟩ := ry
  obtain ⟨its, r, pl, hz⟩ := I.list hq
  obtain ⟨j, h1, h2, h3, h4, h5⟩ := atI_get he
  obtain ⟨w, ew, rw'⟩ := r.get h2
  have hl := r.length
  have hn := line63
  have fin : EP X pins σ Q w s := ⟨z, H, I, rw', q⟩
  by_cases h0 : 0 ≤ i
  · have hj : i.toNat = j := by
      rw [seqIndex_of h0 h5] at h1
      exact Option.some.inj h1
    exact item_listR pl.isList h0 (by omega) (by rw [hj]; simpa using ew) fin hs
  · have hj : (i + (its.toArray.size : Int)).toNat = j := by
      rw [seqIndex_neg (by omega) h4] at h1
      rw [List.size_toArray, ← hl]
      exact Option.some.inj h1
    exact subscriptTail_builtinR (x := w) pl.isList.typeIs slot_list_getitem.lookup
      (wpAny_getItem_list_neg (Q := fun r s' => r = w ∧ EP X pins σ Q r s') pl.isList (by omega) (by rw [List.size_toArray] <;> omega) (by omega) (by rw [hj]; simpa using ew) ⟨rfl, fin⟩) hs
theorem ix_tup : IxR X (rIxT X.K) := by
  intro value slice pins s σ H x y v u Q I rx ry h hs
  obtain ⟨p, xs, i, z, rfl, rfl, hq, he, q⟩ := h
  cases rx
  obtain ⟨t, rfl⟩ := ry
  obtain ⟨its, r, pl, hz⟩ := I.tuple hq
  obtain ⟨j, h1, h2, h3, h4, h5⟩ := atI_get he
  obtain ⟨w, ew, rw'⟩ := r.get h2
  have hl := r.length
  have hn := line63
  have fin : EP X pins σ Q w s := ⟨z, H, I, rw', q⟩
  exact subscriptTail_builtinR (x := w) pl.typeIs slot_tuple_getitem.lookup
    (getItem_tuple (j := j) (Q := fun r s' => r = w ∧ EP X pins σ Q r s') pl (by omega) (by omega) (by rw [List.size_toArray, ← hl]; exact h1) (by simpa using ew) ⟨rfl, fin⟩) hs
theorem ix_str : IxR X rIxS := by
  intro value slice pins s σ H x y v u Q I rx ry h hs
  obtain ⟨z, i, c, rfl, rfl, hz, he, q⟩ := h
  obtain ⟨t, rfl⟩ := rx
  obtain ⟨t', rfl⟩ := ry
  obtain ⟨j, h1, h2, h3, h4, h5⟩ := atI_get he
  have hl : z.cps.toList.length = z.length := by simp [Str.length]
  rw [hl] at h1 h4 h5
  have hn := line63
  exact tail_any (typeIs_str s z t) slot_str_getitem.lookup (getItem_str (c := c) (by
    have e1 : decide (i < -(2 ^ 63 : Int)) = false := decide_eq_false (by omega)
    have e2 : decide (i ≥ 2 ^ 63) = false := decide_eq_false (by omega)
    rw [e1, e2, Bool.or_false]) (by rw [h1]; simpa using h2) ⟨.str ⟨#[c]⟩, H, I.tok _, ⟨_, rfl⟩, q⟩) hs
/-- list, tuple or str -/
def rIx (K : PySem.W.Frag) : R2 := fun x y H Q => rIxL K x y H Q ∨ rIxT K x y H Q ∨ rIxS x y H Q
/-! ### xs[i] = v, any sign -/
def rSetL : V → V → V → Hp → (Hp → Prop) → Prop := fun o i v H Q => ∃ p xs k j, o = .ref p ∧ i = .int k ∧ H p = some (.lst xs) ∧ ixN xs.length k = some j ∧ Q (upd H p (.lst (xs.set j v)))
/-! ### slices -/
/-- xs[lo:hi] of a list: a new list -/
def rSlL (K : PySem.W.Frag) : V → Option Int → Option Int → Hp → VK → Prop := fun x lo hi H Q => ∃ a xs, x = .ref a ∧ SqL K H a xs ∧ ∀ p, H p = none → Q (.ref p) (upd H p (.lst (cutV xs lo hi)))
/-! ### in, not in: flat items -/
def flatV : V → Bool
  | .non => true
  | .bl _ => true
  | .int _ => true
  | .str _ => true
  | _ => false
/-- == of flat values -/
def eqV : V → V → Bool
  | .non, .non => true
  | .bl a, .bl b => a == b
  | .bl a, .int b => (if a then 1 else 0) == b
  | .int a, .bl b => a == (if b then 1 else 0)
  | .int a, .int b => a == b
  | .str a, .str b => a == b
  | _, _ => false
theorem eqAt_V {A : Around} {s : Shared} {y x : V} {u v : Value} (ry : RelV y u) (rx : RelV x v) (fy : flatV y = true) (fx : flatV x = true) : SeqAt.EqAt A s u v (eqV y x) := by
  cases y with
  | non =>
    cases ry
    cases x with
    | non => cases rx; exact SeqAt.EqAt.same _
    | bl b => cases rx; exact SeqAt.EqAt.none_bool b
    | int b => obtain ⟨t, rfl⟩ := rx; exact SeqAt.EqAt.none_int b t
    | str b => obtain ⟨t, rfl⟩ := rx; exact SeqAt.EqAt.none_str b t
    | _ => exact absurd (show false = true from fx) Bool.false_ne_true
  | bl a =>
    cases ry
    cases x with
    | non => cases rx; exact SeqAt.EqAt.bool_none a
    | bl b => cases rx; exact SeqAt.EqAt.bool_bool a b
    | int b => obtain ⟨t, rfl⟩ := rx; exact SeqAt.EqAt.bool_int a b t
    | str b => obtain ⟨t, rfl⟩ := rx; exact SeqAt.EqAt.bool_str a b t
    | _ => exact absurd (show false = true from fx) Bool.false_ne_true
  | int a =>
    obtain ⟨t', rfl⟩ := ry
    cases x with
    | non => cases rx; exact SeqAt.EqAt.int_none a t'
    | bl b => cases rx; exact SeqAt.EqAt.int_bool a t' b
    | int b => obtain ⟨t, rfl⟩ := rx; exact SeqAt.EqAt.int_int a t' b t
    | str b => obtain ⟨t, rfl⟩ := rx; exact SeqAt.EqAt.int_str a t' b t
    | _ => exact absurd (show false = true from fx) Bool.false_ne_true
  | str a =>
    obtain ⟨t', rfl⟩ := ry
    cases x with
    | non => cases rx; exact SeqAt.EqAt.str_none a t'
    | bl b => cases rx; exact SeqAt.EqAt.str_bool a t' b
    | int b => obtain ⟨t, rfl⟩ := rx; exact SeqAt.EqAt.str_int a t' b t
    | str b => obtain ⟨t, rfl⟩ := rx; exact SeqAt.EqAt.str_str a t' b t
    | _ => exact absurd (show false = true from fx) Bool.false_ne_true
  | _ => exact absurd (show false = true from fy) Bool.false_ne_true
/-- the items' answers, read off the values (a value's own answer does not lean on its token) -/
def eqU (x : V) (u : Value) : Bool := match u with
  | .none => eqV .non x
  | .bool b => eqV (.bl b) x
  | .int i _ => eqV (.int i) x
  | .str z _ => eqV (.str z) x
  | _ => false
theorem eqU_of {x y : V} {u : Value} (r : RelV y u) (f : flatV y = true) : eqU x u = eqV y x := by
  cases y with
  | non => cases r; rfl
  | bl b => cases r; rfl
  | int i => obtain ⟨t, rfl⟩ := r; rfl
  | str z => obtain ⟨t, rfl⟩ := r; rfl
  | _ => exact absurd (show false = true from f) Bool.false_ne_true
theorem any_eqU {x : V} : ∀ {xs : List V} {us : List Value}, Vals xs us → xs.all flatV = true → us.any (eqU x) = xs.any fun y => eqV y x
  | _, _, .nil, _ => rfl
  | y :: xs, u :: us, .cons r t, f => by
    rw [List.all_cons, Bool.and_eq_true] at f
    rw [List.any_cons, List.any_cons, eqU_of r f.1, any_eqU t f.2]
theorem mem_eqAt {A : Around} {s : Shared} {x : V} {v : Value} (rx : RelV x v) (fx : flatV x = true) : ∀ {xs : List V} {us : List Value}, Vals xs us → xs.all flatV = true → ∀ u ∈ us, SeqAt.EqAt A s u v (eqU x u)
  | _, _, .nil, _ => fun u hu => by cases hu
  | y :: xs, u :: us, .cons r t, f => fun u' hu => by
    rw [List.all_cons, Bool.and_eq_true] at f
    rcases List.mem_cons.mp hu with rfl | hu
    · rw [eqU_of r f.1]; exact eqAt_V r rx f.1 fx
    · exact mem_eqAt rx fx t f.2 u' hu
def inV (x : V) (xs : List V) : Bool := xs.any fun y => eqV y x
/-- x in a list or tuple of flat items -/
def rIn (K : PySem.W.Frag) (neg : Bool) : R2 := fun x y H Q => ∃ p xs, y = .ref p ∧ (SqL K H p xs ∨ SqT K H p xs) ∧ flatV x = true ∧ xs.all flatV = true ∧ Q (.bl (if neg then !inV x xs else inV x xs)) H
theorem op_in_seq : OpR X (compareOp .In) (rIn X.K false) := by
  intro pins s σ H x y v u Q I rx ry h
  obtain ⟨p, xs, rfl, hq, fx, fs, q⟩ := h
  cases ry
  rcases hq with hq | hq
  · obtain ⟨its, r, pl, hz⟩ := I.list hq
    refine SeqAt.in_listAt (eqU x) pl.isList (fun w hw => mem_eqAt rx fx r fs w (by simpa using hw)) ⟨.bl _, H, I, rfl, ?_⟩
    rw [show its.toArray.any (eqU x) = its.any (eqU x) by simp, any_eqU r fs]
    exact q
  · obtain ⟨its, r, pl, hz⟩ := I.tuple hq
    refine SeqAt.in_tupleAt (eqU x) pl (fun w hw => mem_eqAt rx fx r fs w (by simpa using hw)) ⟨.bl _, H, I, rfl, ?_⟩
    rw [show its.toArray.any (eqU x) = its.any (eqU x) by simp, any_eqU r fs]
    exact q
theorem op_notIn_seq : OpR X (compareOp .NotIn) (rIn X.K true) := by
  intro pins s σ H x y v u Q I rx ry h
  obtain ⟨p, xs, rfl, hq, fx, fs, q⟩ := h
  cases ry
  rcases hq with hq | hq
  · obtain ⟨its, r, pl, hz⟩ := I.list hq
    refine SeqAt.notIn_listAt (eqU x) pl.isList (fun w hw => mem_eqAt rx fx r fs w (by simpa using hw)) ⟨.bl _, H, I, rfl, ?_⟩
    rw [show its.toArray.any (eqU x) = its.any (eqU x) by simp, any_eqU r fs]
    exact q
  · obtain ⟨its, r, pl, hz⟩ := I.tuple hq
    refine SeqAt.notIn_tupleAt (eqU x) pl (fun w hw => mem_eqAt rx fx r fs w (by simpa using hw)) ⟨.bl _, H, I, rfl, ?_⟩
    rw [show its.toArray.any (eqU x) = its.any (eqU x) by simp, any_eqU r fs]
    exact q
theorem op_notIn_str : OpR X (compareOp .NotIn) (fun x y H Q => ∃ i j, x = .str i ∧ y = .str j ∧ Q (.bl (!(!(Builtin.Str.occurrences j i 0 j.length 1).isEmpty))) H) := by
  intro pins s σ H x y v u Q I rx ry h
  obtain ⟨i, j, rfl, rfl, q⟩ := h
  obtain ⟨t, rfl⟩ := rx
  obtain ⟨t', rfl⟩ := ry
  exact notIn_str ⟨.bl _, H, I, rfl, q⟩

/-! ### len, list(x), tuple(x) of any list or tuple that is read -/
theorem call_len_seq : CallR X (.builtin "len") (fun xs H Q => ∃ p ys, xs = [.ref p] ∧ (SqL X.K H p ys ∨ SqT X.K H p ys) ∧ Q (.int ys.length) H) := by
  intro pins s σ H xs us Q I r h
  obtain ⟨p, ys, rfl, hq, q⟩ := h
  obtain ⟨u, rfl, rx⟩ := vals1 r
  cases rx
  have hn := line63
  rcases hq with hq | hq
  · obtain ⟨its, r', pl, hz⟩ := I.list hq
    have hlen := r'.length
    exact Calls.call_len_list pl.isList (by simp only [List.size_toArray] <;> omega) ⟨.int ys.length, H, I.tok _, ⟨s.toks + 1, by rw [List.size_toArray, hlen]⟩, q⟩
  · obtain ⟨its, r', pl, hz⟩ := I.tuple hq
    have hlen := r'.length
    exact len_tuple pl (by simp only [List.size_toArray] <;> omega) ⟨.int ys.length, H, I.tok _, ⟨s.toks + 1, by rw [List.size_toArray, hlen]⟩, q⟩
theorem call_len_str : CallR X (.builtin "len") (fun xs H Q => ∃ z, xs = [.str z] ∧ z.length ≤ sizeLine ∧ Q (.int z.length) H) := by
  intro pins s σ H xs us Q I r h
  obtain ⟨z, rfl, hz, q⟩ := h
  obtain ⟨u, rfl, t, rfl⟩ := vals1 r
  have hn := line63
  exact len_str (by omega) ⟨.int z.length, H, I.tok _, ⟨_, rfl⟩, q⟩
theorem call_tuple_of : CallR X (.type "tuple") (fun xs H Q => ∃ p ys, xs = [.ref p] ∧ ((SqL X.K H p ys ∧ ∀ l, H l = none → Q (.ref l) (upd H l (.tup ys))) ∨ (SqT X.K H p ys ∧ Q (.ref p) H))) := by
  intro pins s σ H xs us Q I r h
  obtain ⟨p, ys, rfl, h⟩ := h
  obtain ⟨u, rfl, rx⟩ := vals1 r
  cases rx
  rcases h with ⟨hq, q⟩ | ⟨hq, q⟩
  · obtain ⟨its, r', pl, hz⟩ := I.list hq
    have hlen := r'.length
    refine call_tuple_list pl.isList (fun h' kp => ?_) (by simp only [List.size_toArray] <;> omega)
    have I1 : Inv X pins σ H { s with heap := h' } := I.kept (t' := s.toks) kp
    have I2 : Inv X pins σ (upd H h'.objs.size (.tup ys)) { s with heap := h'.push { cls := .type "tuple", data := .seq its.toArray } } :=
      I1.laid (t' := s.toks) (fun b o e => Heap.get?_push_of_some _ e) (Nat.le_refl _) (show ObjOk X.prog X.w _ _ _ (.tup ys) from ⟨hz, its, r', IsTup.new _ _⟩)
    exact ⟨.ref h'.objs.size, _, I2, rfl, q _ (I1.hok.fresh (Nat.le_refl _))⟩
  · obtain ⟨its, r', pl, hz⟩ := I.tuple hq
    exact call_tuple_same pl ⟨.ref p, H, I, rfl, q⟩

/-! ### the call of a builtin's method: o.m(..) -/
/-- the value is of that builtin type -/
def tyV (K : PySem.W.Frag) (T : String) (x : V) (H : Hp) : Prop := match x with
  | .str _ => T = "str"
  | .int _ => T = "int"
  | .ref p => (T = "list" ∧ ∃ xs, SqL K H p xs) ∨ (T = "tuple" ∧ ∃ o, K.lookup p = some o ∧ o.cls = .type "tuple" ∧ o.dict = none) ∨
      (T = "dict" ∧ ((∃ kvs, H p = some (.dK kvs)) ∨ ∃ kvs, H p = some (.dT kvs))) ∨ (T = "set" ∧ ∃ S n, H p = some (.set S n))
  | _ => False
theorem tyV_is {pins : List (Addr × Obj)} {σ : St} {H : Hp} {s : Shared} {T : String} {x : V} {v : Value} (I : Inv X pins σ H s) (r : RelV x v) (ty : tyV X.K T x H) :
    s.TypeIs v T ∧ ∀ a, v = .ref a → ∃ ob, s.heap.get? a = some ob ∧ ob.dict = none := by
  cases x with
  | str z =>
    obtain ⟨t, rfl⟩ := r
    cases (show T = "str" from ty)
    exact ⟨typeIs_str s z t, fun _ e => nomatch e⟩
  | int i =>
    obtain ⟨t, rfl⟩ := r
    cases (show T = "int" from ty)
    exact ⟨typeIs_int s i t, fun _ e => nomatch e⟩
  | ref p =>
    cases r
    rcases ty with ⟨rfl, xs, hq⟩ | ⟨rfl, o, hk, hc, hd⟩ | ⟨rfl, hk⟩ | ⟨rfl, S, n, hk⟩
    · obtain ⟨its, _, pl, _⟩ := I.list hq
      refine ⟨pl.isList.typeIs, fun a e => ?_⟩
      cases e
      obtain ⟨o, n, e, c, hd, _⟩ := pl
      exact ⟨o, e, hd⟩
    · refine ⟨⟨o, I.kIn p o hk, hc⟩, fun a e => ?_⟩
      cases e
      exact ⟨o, I.kIn _ o hk, hd⟩
    · have z : ∃ o, s.heap.get? p = some o ∧ o.ExactDict := by
        rcases hk with ⟨kvs, hk⟩ | ⟨kvs, hk⟩
        · obtain ⟨_, _, _, _, o, _, _, e, ex, _⟩ := I.hok p _ hk
          exact ⟨o, e, ex⟩
        · obtain ⟨_, _, _, _, o, _, _, e, ex, _⟩ := I.hok p _ hk
          exact ⟨o, e, ex⟩
      obtain ⟨o, e, ex⟩ := z
      refine ⟨⟨o, e, ex.1⟩, fun a e2 => ?_⟩
      cases e2
      exact ⟨o, e, ex.2.1⟩
    · obtain ⟨o, _, _, _, e, ex, _⟩ := I.hok p _ hk
      refine ⟨⟨o, e, ex.1⟩, fun a e2 => ?_⟩
      cases e2
      exact ⟨o, e, ex.2.1⟩
  | _ => exact False.elim ty
def tBM0 (K : PySem.W.Frag) (T : String) (r : V → List V → Hp → VK → Prop) (to : TE) : TE := fun σ H Q => to σ H fun x H1 => tyV K T x H1 ∧ r x [] H1 Q
def tBM (K : PySem.W.Frag) (T : String) (r : V → List V → Hp → VK → Prop) (to : TE) (t : TA) : TE := fun σ H Q => to σ H fun x H1 => tyV K T x H1 ∧ t σ H1 fun xs H2 => r x xs H2 Q
variable {o e : Expr} {es : List Expr} {to : TE} {t : TA} {name : Str} {apos cpos : Pos} {T id : String} {r : V → List V → Hp → VK → Prop}
theorem pe_bm (pa : PlainAttrs T) (slot : Slot T name id) (hty : typeOf (.builtin id) = pure (.type "method_descriptor")) (hm : MtR X id r) (ho : PE X o to) (ha : PA X (e :: es) t)
    (hbase : attributeBase o name X.env (eval o X.env) = eval o X.env := by rfl)
    (hfew : ((backTo cpos (starEach (e :: es) X.env)).all (fun x => !x.1) && (backToKw cpos (keywordEach [] X.env)).all (fun x => x.1.isSome)
      && decide ((e :: es).length + ([] : List Keyword).length + (if ([] : List Keyword).isEmpty then 0 else 1) < 30)) = true := by rfl)
    (hline : (apos.endLine == cpos.line) = true := by rfl) (hs : starEach (e :: es) X.env = (false, eval e X.env) :: starEach es X.env := by rfl) (hplain : (backTo cpos (starEach es X.env)).any (·.1) = false := by rfl) :
    PE X (.Call (.Attribute o name apos) (e :: es) [] cpos) (tBM X.K T r to t) := by
  intro pins s σ H Q I h
  refine wpAny_Call_method_late hbase hfew hline rfl (thn (ho pins s σ H _ I h) fun v s1 ⟨x, H1, I1, r1, ty, q1⟩ => ?_)
  obtain ⟨h1, h2⟩ := tyV_is I1 r1 ty
  refine ⟨T, id, pa, slot, hty, h1, h2, ?_⟩
  have hA := ha cpos pins s1 σ H1 _ I1 q1
  rw [hs] at hA ⊢
  refine Calls.callWith_builtin (by show (false || (backTo cpos (starEach es X.env)).any (·.1)) = false; rw [hplain] <;> rfl) (Calls.evalArgs_plain ?_)
  exact thn hA fun us s2 ⟨vs, H2, I2, r2, q2⟩ => hm pins s2 σ H2 x vs v us Q I2 r1 r2 q2
/- xs.append(e), list.index on a module's tuple .. are MtR facts of 06m -/
end
end L2

namespace L2
open PySem PySem.Spec PyProof.Rows

def MtM (X : Cx) (id : String) (r : V → List V → Hp → VK → Prop) : Prop :=
  ∀ (pins : List (Addr × Obj)) (s : Shared) (σ : St) (H : Hp) (x : V) (xs : List V) (v : Value) (us : List Value) (Q : VK), Inv X pins σ H s → RelV x v → Vals xs us → r x xs H Q →
    wpAny (model X.prog X.w) X.A (call (.builtin id) (v :: us)) (EP X pins σ Q) X.xe s

/-! ### lists of values -/
theorem Vals.one : ∀ {x : V} {us : List Value}, Vals [x] us → ∃ u, us = [u] ∧ RelV x u
  | _, _, .cons r .nil => ⟨_, rfl, r⟩
section
variable {X : Cx} {pins : List (Addr × Obj)} {σ : St} {H : Hp} {s : Shared} {l b : Addr} {xs ys zs : List V}

/-! ### the two steps: a tracked list is rewritten, a new list is laid -/
theorem Inv.lset {its its' : List Value} {n : Nat} {f : Array Value → Array Value} {t' : Nat} (I : Inv X pins σ H s) (hH : H l = some (.lst xs))
    (e : s.heap.get? l = some { cls := .type "list", data := .seq its.toArray n }) (hf : f its.toArray = its'.toArray) (hv : Vals ys its') (hz : ys.length ≤ sizeLine) :
    Inv X pins σ (upd H l (.lst ys)) { s with heap := s.heap.update l (Obj.mapSeq f), toks := t' } := by
  have q := PySem.IsL.update e f
  rw [hf] at q
  refine I.write (x := l) (e := l) (by rw [hH]; exact trivial) (.inl rfl) (fun b' u hb hu => (Heap.get?_update_other s.heap (Obj.mapSeq f) (Ne.symm hb)).trans hu) ⟨_, q⟩ ?_
  exact ⟨hz, its', _, hv, q⟩
theorem Inv.lnew {its : List Value} {t' : Nat} (I : Inv X pins σ H s) (hv : Vals ys its) (hz : ys.length ≤ sizeLine) :
    Inv X pins σ (upd H s.heap.objs.size (.lst ys)) { s with heap := s.heap.push { cls := .type "list", data := .seq its.toArray }, toks := t' } :=
  I.laid (fun _ _ q => Heap.get?_push_of_some _ q) (Nat.le_refl _) ⟨hz, its, 0, hv, Heap.get?_push_size _ rfl⟩
theorem Inv.fresh (I : Inv X pins σ H s) : H s.heap.objs.size = none := I.hok.fresh (Nat.le_refl _)
theorem Inv.lstM (I : Inv X pins σ H s) (hH : H l = some (.lst xs)) : xs.length ≤ sizeLine ∧ ∃ (its : List Value) (n : Nat), Vals xs its ∧ xs.length = its.length ∧ s.heap.get? l = some { cls := .type "list", data := .seq its.toArray n } := by
  obtain ⟨z, its, n, r, e⟩ := I.hok l _ hH
  exact ⟨z, its, n, r, r.length, e⟩

theorem notLongL {n : Nat} (h : n ≤ sizeLine) : Builtin.List.listTooLong n = false := by
  unfold Builtin.List.listTooLong
  exact decide_eq_false (by omega)
end

section
variable {X : Cx}

/-! ### methods -/
def rAppend : V → List V → Hp → VK → Prop := fun x vs H Q => ∃ l xs y, x = .ref l ∧ vs = [y] ∧ H l = some (.lst xs) ∧ xs.length < sizeLine ∧ Q .non (upd H l (.lst (xs ++ [y])))
theorem mt_append : MtM X "list.append" rAppend := by
  intro pins s σ H x vs v us Q I rx rv h
  obtain ⟨l, xs, y, rfl, rfl, hH, hz, q⟩ := h
  cases rx
  obtain ⟨u, rfl, ru⟩ := rv.one
  obtain ⟨z, its, n, r, hl, e⟩ := I.lstM hH
  refine call_meets F.slot_list_append ⟨_, e, rfl⟩ F.entry_list_append (F.args_list_append_2 _ _) (PySem.list_append l its.toArray n u (by rw [List.size_toArray]; omega)) ⟨e, ?_⟩
  refine ⟨.non, _, I.lset (its' := its ++ [u]) hH e (by simp) (r.append (.cons ru .nil)) ?_, rfl, q⟩
  rw [List.length_append, List.length_singleton]
  omega

def rExtend : V → List V → Hp → VK → Prop := fun x vs H Q => ∃ l b xs zs, x = .ref l ∧ vs = [.ref b] ∧ H l = some (.lst xs) ∧ H b = some (.lst zs) ∧ xs.length + zs.length ≤ sizeLine ∧ Q .non (upd H l (.lst (xs ++ zs)))
theorem mt_extend : MtM X "list.extend" rExtend := by
  intro pins s σ H x vs v us Q I rx rv h
  obtain ⟨l, b, xs, zs, rfl, rfl, hH, hB, hz, q⟩ := h
  cases rx
  obtain ⟨u, rfl, ru⟩ := rv.one
  cases ru
  obtain ⟨z, its, n, r, hl, e⟩ := I.lstM hH
  obtain ⟨z2, its2, n2, r2, hl2, e2⟩ := I.lstM hB
  have hsz : its.toArray.size + its2.toArray.size ≤ sizeLine := by rw [List.size_toArray, List.size_toArray]; omega
  have hlong : ¬ (!its.toArray.isEmpty && Builtin.List.listTooLong (its.toArray.size + its2.toArray.size)) = true := by
    rw [notLongL hsz, Bool.and_false]
    exact Bool.false_ne_true
  refine call_meets F.slot_list_extend ⟨_, e, rfl⟩ F.entry_list_extend (F.args_list_extend_2 _ _)
    (AutoSeq1.list_extend_list_list_0 l its.toArray n b its2.toArray n2 hlong (by rw [List.size_toArray]; omega) (by omega)) ⟨e, e2, ?_⟩
  refine ⟨.non, _, I.lset (its' := its ++ its2) hH e (by simp) (r.append r2) ?_, rfl, q⟩
  rw [List.length_append]
  omega

def rPop : V → List V → Hp → VK → Prop := fun x vs H Q => ∃ l xs y, x = .ref l ∧ vs = [] ∧ H l = some (.lst xs) ∧ xs[xs.length - 1]? = some y ∧ Q y (upd H l (.lst xs.dropLast))
def rPopAt : V → List V → Hp → VK → Prop := fun x vs H Q => ∃ l xs i k y, x = .ref l ∧ vs = [.int i] ∧ H l = some (.lst xs) ∧ -(2 ^ 63) ≤ i ∧ i < 2 ^ 63 ∧ seqIndex? i xs.length = some k ∧ xs[k]? = some y ∧ Q y (upd H l (.lst (xs.eraseIdx k)))
def rReverse : V → List V → Hp → VK → Prop := fun x vs H Q => ∃ l xs, x = .ref l ∧ vs = [] ∧ H l = some (.lst xs) ∧ Q .non (upd H l (.lst xs.reverse))
def rClear : V → List V → Hp → VK → Prop := fun x vs H Q => ∃ l xs, x = .ref l ∧ vs = [] ∧ H l = some (.lst xs) ∧ Q .non (upd H l (.lst []))
/-! ### list + list, list += list, list * int -/
def rCat : R2 := fun x y H Q => ∃ l b xs zs, x = .ref l ∧ y = .ref b ∧ H l = some (.lst xs) ∧ H b = some (.lst zs) ∧ xs.length + zs.length ≤ sizeLine ∧ ∀ p, H p = none → Q (.ref p) (upd H p (.lst (xs ++ zs)))
theorem op_cat : OpR X (binaryOp .Add) rCat := by
  intro pins s σ H x y v u Q I rx ry h
  obtain ⟨l, b, xs, zs, rfl, rfl, hH, hB, hz, q⟩ := h
  cases rx
  cases ry
  obtain ⟨z, its, n, r, hl, e⟩ := I.lstM hH
  obtain ⟨z2, its2, n2, r2, hl2, e2⟩ := I.lstM hB
  refine PySem.P.add_list e e2 ?_ (by rw [List.size_toArray, List.size_toArray]; omega)
  have ea : its.toArray ++ its2.toArray = (its ++ its2).toArray := by simp
  rw [ea]
  exact ⟨.ref _, _, I.lnew (t' := s.toks) (r.append r2) (by rw [List.length_append]; omega), rfl, q _ I.fresh⟩
/-- a list times an int (a negative one is nothing) -/
def rRep : R2 := fun x y H Q => ∃ l k xs, x = .ref l ∧ y = .int k ∧ H l = some (.lst xs) ∧ -(2 ^ 63) ≤ k ∧ k < 2 ^ 63 ∧ xs.length * k.toNat ≤ sizeLine ∧
  ∀ p, H p = none → Q (.ref p) (upd H p (.lst (List.replicate k.toNat xs).flatten))
/-! ### del xs[i] -/
end

/-! ### xs[a:b] = ys -/
section
variable {prog : Program} {w : World} {A : Around} {E : Value → Shared → Prop} {s : Shared}
end

section
variable {X : Cx}
end
end L2

namespace Att
open PySem PySem.W PySem.Calls PyProof.Rows

/-! ### the script -/
theorem ints_of_wellAll {P : Params} {h : Heap} : ∀ (ns : List Int) (vs : List Value), WellAll P h vs (ns.map WData.int) → IntsAre vs ns := by
  intro ns
  induction ns with
  | nil =>
    intro vs w
    rw [List.map_nil] at w
    cases w
    exact .nil
  | cons n ns ih =>
    intro vs w
    rw [List.map_cons] at w
    cases w with
    | cons a b =>
      cases a
      exact .cons _ _ (ih _ b)

theorem script_of {l : OpenLaw} {n : Nat} (hn : l.most = some n) {P : Params} {h : Heap} {args : List WData} {vals : List Value}
    (hpre : l.row.toRowW.claim.pre args = true) (hwl : WellAll P h vals args) :
    ∃ a vs ns, vals = [Value.ref a] ∧ args = [WData.list (ns.map WData.int)] ∧ h.get? a = some { cls := .type "list", data := .seq vs.toArray } ∧ IntsAre vs ns ∧ ns.length ≤ n := by
  have hsh : WShape.hasAll [] args [.list .int] = true := (pre_splitW hpre).1
  have hc : l.pre.holds [] { args := args } = true := (pre_splitW hpre).2
  obtain ⟨d, r, rfl, h1, h2⟩ := hasAllW_cons hsh
  obtain rfl := hasAllW_nil h2
  obtain ⟨xs, rfl, h3⟩ := hasW_list h1
  obtain ⟨ns, rfl⟩ := items_int h3
  have hlen : ns.length ≤ n := by
    unfold OpenLaw.pre at hc
    have h4 : (WTm.not (.lt (.lit (.int (n : Int))) (.len (.arg 0)))).holds [] { args := [.list (ns.map .int)] } = true := by
      have h4 := (holds_andW hc).1
      rw [hn] at h4
      exact h4
    have h5 := condW_of h4 (w_not (w_lt w_lit (w_len_list (w_arg rfl))))
    rw [List.length_map] at h5
    refine Nat.le_of_not_lt fun q => ?_
    have q' : (n : Int) < ((ns.length : Nat) : Int) := by omega
    first
      | (rw [decide_eq_true q'] at h5; exact absurd h5 (by decide))
      | (simp at h5; omega)
  cases hwl with
  | cons w1 w2 =>
    cases w2
    cases w1 with
    | list ho hall => exact ⟨_, _, ns, rfl, rfl, ho, ints_of_wellAll ns _ hall, hlen⟩

theorem post_true (l : OpenLaw) (args : List WData) : l.row.toRowW.claim.post args (.bool true) args = true :=
  postW_of (r := l.row.toRowW) (X := (true == true))
    (show WShape.has [] (.bool true) .bool = true by first | rfl | decide | simp [WShape.has, WShape.arms, WShape.armsAll])
    (show (WTm.eq .res (.lit (.bool true))).value [] { args := args, res := some (.bool true), after := args } = some (.bool (true == true)) from w_eq_bool (w_res rfl) w_lit) rfl

/-! ### the attachment: holds_open's last premise (the goal 'hc' behind k_head) from a wpAny of the law's body -/
/-- the same from a codeAny of the CALL (for a layer whose function contracts speak of calls) -/
theorem attach_call {l : OpenLaw} {n : Nat} {q : Program} {loose : List Str} {XP : (Str → Option Value) → Heap → Prop} {YP : World → Heap → Prop} {d : DefRec}
    (hn : l.most = some n) (hdf : d.params.defaults = [])
    (call : ∀ (w : World) (s₀ s₁ : Shared) (mg mb : Str → Option Value) (fa : Addr) (o : Obj) (pm cd doc : Value) (a : Addr) (vs : List Value) (ns : List Int),
      Ground q loose [] XP w s₀ mg mb s₁.heap → YP w s₁.heap →
      s₁.heap.get? fa = some o → o.data = .func (docDef d.name d.params d.body d.scope pm cd doc) → s₁.heap.CodeRec cd d.name → mg d.name = some (.ref fa) →
      s₁.heap.get? a = some { cls := .type "list", data := .seq vs.toArray } → IntsAre vs ns → ns.length ≤ n → s₁.gens = #[] →
      codeAny (model l.prog w) callerA (.call (.ref fa) ⟨[.ref a], []⟩) (fun r s' => r = .ok (.ret (.bool true)) ∧ OldK s₁.heap s'.heap ∧ s'.os = s₁.os ∧ AllBare s'.gens) s₁) :
    WalkO q loose XP YP l.row.toRowW d [] (fun f vs => PySem.call f vs) := by
  intro w s₀ s₁ mg mb G Y fa o pm cd doc dV kV ho hd hcd hD hmg hg args vals as hpre hlay hrd hwl hlo
  obtain rfl : dV = .none := Dflts.none hD hdf
  obtain rfl : kV = .none := Dflts.noKw hD
  obtain ⟨a, vs, ns, rfl, rfl, hobj, hints, hlen⟩ := script_of hn hpre hwl
  refine enter_call (codeAny_mono (call w s₀ s₁ mg mb fa o pm cd doc a vs ns G Y ho (fd_plain hd) hcd hmg hobj hints hlen hg) fun r s' hq => ?_)
  obtain ⟨rfl, h2, h3, h4⟩ := hq
  exact ⟨.inl ⟨.bool true, .bool true, [], rfl, fun _ => rfl, .bool true, post_true l _, fun _ => ⟨List.Pairwise.nil, fun _ hm => (nomatch hm)⟩⟩, h2, h3, h4⟩

/-! ### rules over ANY heap (no ledger) from facts about the written part K: the library's own take a ledger (News) for what they write -/
section
variable {prog : Program} {w : World} {A : Around} {E : Value → Shared → Prop} {s : Shared} {K : Frag}

/-! the whole heap as the ledger: makes every rule that writes through a ledger a rule over any heap -/
def noObjs (h : Heap) : Heap := { h with objs := #[] }
def ledger (h : Heap) (L d : Addr) : List (Addr × Obj) := (List.range h.objs.size).filterMap fun a => if a = L ∨ a = d then none else (h.get? a).map fun o => (a, o)
end
end Att

namespace L2
open PySem PySem.Spec PyProof.Rows

theorem vals_ints : ∀ {vs : List Value} {ns : List Int}, IntsAre vs ns → Vals (ns.map V.int) vs
  | _, _, .nil => .nil
  | _, _, .cons n t h => .cons ⟨t, rfl⟩ (vals_ints h)

/-- nothing is tracked but the script, known to the object (or it is an object of the module) -/
def Only (H : Hp) : Prop := ∀ b, H b = none ∨ ∃ o xs, H b = some (.frz o (.lst xs))

/-- THE HEAD: the law's promise, at the heap behind the top. F, the promise of the law's def, may use that base is part of the heap (so K.In base, base.Ns mainGlobals mg stand in Mod) -/
theorem law_call {P : Program} {w : World} {K : PySem.W.Frag} {mg mb : Str → Option Value} {CX : CXT} {k : Nat} {fa a : Addr} {fd : FuncData} {x : Str} {sp : Sp} {s₁ : Shared} {vs : List Value} {ns : List Int}
    (KX : K.In s₁.heap) (hns : s₁.heap.Ns mainGlobals mg) (hb : s₁.heap.Ns builtinsNs mb) (hbb : ∀ x : Str, x ≠ "__name__" → mb x = bootBuiltins x) (hlim : s₁.heap.NoLimit) (hg : s₁.gens = #[])
    (ha : s₁.heap.get? a = some { cls := .type "list", data := .seq vs.toArray }) (hi : IntsAre vs ns) (hl : ns.length ≤ sizeLine) (hr : Room k callerA)
    (F : ∀ base : Heap, K.In base → base.Ns mainGlobals mg → FnOk P w K mg base CX k fa fd [x] sp) (hbind : ∀ (s : Shared) (u : Value), BindsTo s fd ⟨[u], []⟩ [(x, u)])
    (hsp : ∀ H : Hp, Only H → SqL K H a (ns.map V.int) → sp [.ref a] H (fun v _ => v = .bl true) fun _ _ _ => False)
    (hCX : ∀ H e s', CX [] H s₁ (fun _ _ _ => False) e s' → False) :
    codeAny (model P w) callerA (.call (.ref fa) ⟨[.ref a], []⟩) (fun r s' => r = .ok (.ret (.bool true)) ∧ OldK s₁.heap s'.heap ∧ s'.os = s₁.os ∧ AllBare s'.gens) s₁ := by
  have rv := vals_ints hi
  have lenV := hi.length
  -- from an abstract heap in which nothing but the script may be tracked
  have core : ∀ H : Hp, Only H → SqL K H a (ns.map V.int) → HOk P w H s₁.heap → (∀ b, H b ≠ none → b = a) → (H a ≠ none → K.lookup a = none) →
      codeAny (model P w) callerA (.call (.ref fa) ⟨[.ref a], []⟩) (fun r s' => r = .ok (.ret (.bool true)) ∧ OldK s₁.heap s'.heap ∧ s'.os = s₁.os ∧ AllBare s'.gens) s₁ := by
    intro H hO hS hok hA hK
    have base_of : ∀ {b : Addr} {o : Obj}, s₁.heap.get? b = some o → H b = none → (hidT s₁.heap H).get? b = some o := fun e n => hidT_get e n
    have noA : ∀ {b : Addr} {o : Obj} {es : Array DictEntry} {ep : Nat}, s₁.heap.get? b = some o → o.data = .dict es ep → H b = none := fun {b o es ep} e d => by
      cases q : H b with
      | none => rfl
      | some u =>
        have e' : b = a := hA b (by rw [q]; simp)
        subst e'
        rw [ha] at e; cases e
        have d' : Data.seq vs.toArray _ = Data.dict es ep := d
        cases d'
    have nsK : ∀ {b : Addr} {m : Str → Option Value}, s₁.heap.Ns b m → (hidT s₁.heap H).Ns b m := fun {b m} ⟨o, es, ep, e, d, r⟩ => ⟨o, es, ep, base_of e (noA e d), d, r⟩
    have hKb : K.In (hidT s₁.heap H) := fun b o e => base_of (KX b o e) (by
      cases q : H b with
      | none => rfl
      | some u =>
        have e' : b = a := hA b (by rw [q]; simp)
        subst e'
        rw [hK (by rw [q]; simp)] at e; cases e)
    have hM : Mod K mg (hidT s₁.heap H) := ⟨hKb, nsK hns, ⟨mb, nsK hb, hbb⟩, let ⟨mc, h1, h2⟩ := hlim; ⟨mc, nsK h1, h2⟩⟩
    have e0 : Env0 P w K mg (hidT s₁.heap H) callerA [] s₁ H := ⟨rfl, hM, fun b o e => of_hidT e, Nat.le_of_eq (hidT_size _ _), trivial, fun b hb => absurd (show b ∈ ([] : List Addr) from hb) (by simp), hok, .of_eq hg⟩
    refine codeAny_mono ((F _ hKb (nsK hns)).run callerA [] s₁ H ⟨[.ref a], []⟩ [.ref a] [.ref a] _ _ hr e0 (hbind s₁ (.ref a)) (.cons rfl .nil) (hsp H hO hS)) fun r s' h => ?_
    cases r with
    | error e => exact (hCX H e s' h).elim
    | ok fl =>
      cases fl with
      | next => exact False.elim h
      | brk => exact False.elim h
      | cont => exact False.elim h
      | ret u =>
        obtain ⟨v, H', os, bare, un, hok', r', q⟩ := h
        have q' : v = .bl true := q
        subst q'
        obtain rfl : u = Value.bool true := r'
        refine ⟨rfl, OldK.of_keep fun b o e => ?_, os, bare⟩
        cases q : H b with
        | none => exact un.keep b o e q (by intro z; exact absurd (show b ∈ ([] : List Addr) from z) (by simp)) (by simp)
        | some u =>
          rcases hO b with z | ⟨ob, xs, z⟩
          · rw [q] at z; cases z
          · have z2 := un.frzs b ob _ z
            obtain ⟨e1, _⟩ := hok b _ z
            obtain ⟨e2, _⟩ := hok' b _ z2
            rw [e] at e1; cases e1
            exact e2
  cases hk : K.lookup a with
  | some o =>
    -- the script is one of the module's own objects
    have e := KX a o hk
    rw [ha] at e
    cases e
    refine core (fun _ => none) (fun _ => .inl rfl) (.inr ⟨_, vs.toArray, _, hk, rfl, rfl, rfl, by rw [List.size_toArray, lenV]; exact hl, by simpa using rv⟩) (fun b u z => by have z' : (none : Option HO) = some u := z; cases z') (fun b z => absurd rfl z) fun z => absurd rfl z
  | none =>
    refine core (fun b => if b = a then some (.frz { cls := .type "list", data := .seq vs.toArray } (.lst (ns.map V.int))) else none) (fun b => ?_) (.inl (.inr ⟨{ cls := .type "list", data := .seq vs.toArray }, if_pos rfl⟩)) (fun b u z => ?_) (fun b z => ?_) fun _ => hk
    · by_cases hb : b = a
      · exact .inr ⟨_, _, if_pos hb⟩
      · exact .inl (if_neg hb)
    · by_cases hb : b = a
      · have z' := (if_pos hb).symm.trans z
        cases z'
        subst hb
        exact ⟨ha, by rw [List.length_map]; exact hl, vs, _, rv, ha⟩
      · have z' := (if_neg hb).symm.trans z
        cases z'
    · by_cases hb : b = a
      · exact hb
      · exact absurd (if_neg hb) z
end L2

namespace L2
open PySem PySem.Spec PyProof.Rows

abbrev KOf {K : PySem.W.Frag} {h : Heap} (_ : K.In h) : PySem.W.Frag := K

/-- the goal that k_head leaves (case hc), from the law's promise. F gives the function object fd (K's own) once, then the promise over every base -/
theorem walk_of {l : PySem.W.OpenLaw} {n k : Nat} {q : Program} {loose : List Str} {XP : (Str → Option Value) → Heap → Prop} {YP : World → Heap → Prop} {d : DefRec} {K : Params → PySem.W.Frag} {CX : World → CXT} {sp : World → Sp} {x : Str}
    (hn : l.most = some n) (hn2 : n ≤ sizeLine) (hdf : d.params.defaults = []) (hr : Room k callerA)
    (hY : ∀ (w : World) (h : Heap), YP w h → (K w.params).In h)
    (F : ∀ (w : World) (mg : Str → Option Value) (fa : Addr) (h : Heap), (K w.params).In h → h.Ns mainGlobals mg → mg d.name = some (.ref fa) →
      ∃ fd : FuncData, (∀ (s : Shared) (u : Value), BindsTo s fd ⟨[u], []⟩ [(x, u)]) ∧
        ∀ base : Heap, (K w.params).In base → base.Ns mainGlobals mg → FnOk l.prog w (K w.params) mg base (CX w) k fa fd [x] (sp w))
    (hsp : ∀ (w : World) (H : Hp) (a : Addr) (ns : List Int), ns.length ≤ n → Only H → SqL (K w.params) H a (ns.map V.int) → sp w [.ref a] H (fun v _ => v = .bl true) fun _ _ _ => False)
    (hCX : ∀ (w : World) (H : Hp) (s : Shared) (e : Value) (s' : Shared), CX w [] H s (fun _ _ _ => False) e s' → False) :
    PySem.W.WalkO q loose XP YP l.row.toRowW d [] (fun f vs => PySem.call f vs) := by
  refine Att.attach_call hn hdf fun w s₀ s₁ mg mb fa o pm cd doc a vs ns G Y ho hd hcd hmg hobj hints hlen hg => ?_
  have KX := hY w _ Y
  obtain ⟨fd, hb, hF⟩ := F w mg fa _ KX G.T.g hmg
  exact law_call KX G.T.g G.T.b G.T.builtins G.T.nolimit hg hobj hints (Nat.le_trans hlen hn2) hr hF hb (fun H hO hS => hsp w H a ns hlen hO hS) fun H e s' => hCX w H s₁ e s'
end L2

/- THE LAST THEOREM (shape; LID, My.* are yours):
   My.Adr: a structure of the addresses that your layer names (classes, functions); My.Txt K t: a structure (Prop) of the equations over K;
   My.txt_mk : {K} {implicit addresses ..} (e1 : nsIn K mainGlobals "law" = some (some (.ref f))) (e2 : K.lookup f = some ⟨oc, od, .func (fnOf "law" "law" params body scope dV kV doc pm an cdv ct), sl⟩) (e3 : codeIn K cdv "law" = true) .. : ∃ t, My.Txt K t

set_option maxRecDepth 100000 in
set_option maxHeartbeats 0 in
theorem PySem.Challenge.cw_LID_holds : PySem.Challenge.rw_LID.Holds := by
  w_on; o_law; k_head; (case hw => w_witness2)
  k_fill
  refine L2.walk_of (l := PySem.Challenge.rw_LID) (n := 63) (k := 40) (x := "script") (CX := fun w => ..) (sp := fun _ => My.sp_law) rfl (by decide) rfl ⟨rfl, by decide, by decide⟩ (fun w h Y => PySem.W.kIn_of Y) ?F ?S ?C
  case F =>
    intro w mg fa h KX G hmg
    have T : ∃ t, My.Txt (L2.KOf KX) t := by
      dsimp only [L2.KOf]                          -- K must stand as «<heap const> w.params» for k_is
      refine' My.txt_mk ?e1 ?e2 ?e3 ..
      (case e1 => PySem.W.k_is)                    -- in the order: a name -> its address -> its object -> its parts
      (case e2 => PySem.W.k_is)
      ..
    obtain ⟨t, T⟩ := T
    have e0 := hmg.symm.trans (PySem.W.mg_of KX G T.law)
    cases e0                                       -- fa is the law's own address
    exact ⟨_, fun s u => .of_eq rfl, fun base kb nb => My.law_fn T kb nb⟩     -- if «.of_eq rfl» comes too early: refine' ⟨_, ?b, fun base kb nb => My.law_fn T kb nb⟩; exact fun s u => .of_eq rfl
  case S => exact fun w H a ns hl hO hS => ..
  case C => exact ..
(the tactic k_is has no namespace: write k_is) -/

/-! SHORT WORDS over the layer: a def of the text, its body, what a loop and a test want. -/
namespace L2
open PySem PySem.Spec PyProof.Rows

/-! ### the text by places -/
/-- the j-th statement of a class's body -/
def inClass (s : Stmt) (j : Nat) : Stmt := match s with
  | .ClassDef _ _ _ body _ _ _ _ _ _ _ => body.getD j (.Pass ⟨0, 0, 0, 0⟩)
  | _ => .Pass ⟨0, 0, 0, 0⟩
def defArgs (s : Stmt) : Arguments := match s with
  | .FunctionDef _ a _ _ _ _ _ _ _ _ => a
  | _ => { posonlyargs := [], args := [], vararg := none, kwonlyargs := [], kw_defaults := [], kwarg := none, defaults := [] }
def defBody (s : Stmt) : List Stmt := match s with
  | .FunctionDef _ _ b _ _ _ _ _ _ _ => b
  | _ => []
def defScope (s : Stmt) : Scope := match s with
  | .FunctionDef _ _ _ _ _ _ sc _ _ _ => sc
  | _ => { kind := .function, names := [], isGenerator := false, isCoroutine := false }

/-! ### no exception leaves a def -/
abbrev CX0 : CXT := fun _ _ _ _ _ _ => False
abbrev E0 : XK := fun _ _ _ => False
theorem pass0 {X : Cx} : Passes CX0 X E0 := fun _ _ _ _ _ _ _ h => h.elim

/-! ### a def (or method) of the text as it stands behind the top -/
structure Fun (K : PySem.W.Frag) (x qual : Str) (st : Stmt) (f : Addr) (fd : FuncData) : Prop where
  ex : ∃ (oc : Value) (od : Option Addr) (kV doc pm : Value) (an : Option Addr) (cdv ct : Value) (osl : Array (Option Value)),
    fd = PySem.W.fnOf x qual (defArgs st) (defBody st) (defScope st) .none kV doc pm an cdv ct ∧ K.lookup f = some ⟨oc, od, .func fd, osl⟩ ∧ PySem.W.codeIn K cdv qual = true
  kp : PySem.W.keepIn K (.ref f) = true
section
variable {P : Program} {w : World} {K : PySem.W.Frag} {mg : Str → Option Value} {base : Heap}
/-- THE RULE for a def: its body as a term of rules, and the reading of that term -/
theorem Fun.ok {x qual : Str} {st : Stmt} {f : Addr} {fd : FuncData} {N ps : List Str} {k : Nat} {sp : Sp} (F : Fun K x qual st f fd) (S : FnScope N ps (defScope st)) (len : ∀ vs H Q E, sp vs H Q E → vs.length = ps.length)
    (hbody : ∀ (cdv : Value) (A : Around) (outer : List Env) (s : Shared) (H : Hp) (vs : List V) (Q : VK) (E : XK), Room k (A.deeper (envOfC qual (defScope st) s.heap.objs.size f cdv)) → sp vs H Q E →
      ∃ t, PSs (cxOf CX0 P w K mg base N qual (defScope st) f cdv A outer s H E).nox (defBody st) t ∧ t { nx := fun _ H' => Q .non H', rt := Q } (start N vs) H) : FnOk P w K mg base CX0 (k + 1) f fd ps sp := by
  obtain ⟨oc, od, kV, doc, pm, an, cdv, ct, osl, rfl, lk, hcd⟩ := F.ex
  refine fn_of lk hcd S len fun A outer s H vs Q E hr hsp => ?_
  obtain ⟨t, h, q⟩ := hbody cdv A outer s H vs Q E hr hsp
  exact ⟨t, h.nox, q⟩
/-- how its arguments bind (no defaults): h is «fun _ _ _ _ _ _ us hl => match us, hl with | [_, _], _ => rfl», one _ a parameter -/
theorem Fun.binds {x qual : Str} {st : Stmt} {f : Addr} {fd : FuncData} {ps : List Str} (F : Fun K x qual st f fd)
    (h : ∀ (kV doc pm : Value) (an : Option Addr) (cdv ct : Value) (us : List Value), us.length = ps.length → bindArgs (PySem.W.fnOf x qual (defArgs st) (defBody st) (defScope st) .none kV doc pm an cdv ct) ⟨us, []⟩ = pure (ps.zip us)) : Binds K fd ps [] := by
  obtain ⟨oc, od, kV, doc, pm, an, cdv, ct, osl, rfl, lk, hcd⟩ := F.ex
  exact .all (h kV doc pm an cdv ct)
theorem fun_mk {x qual : Str} {st : Stmt} {f : Addr} {oc : Value} {od an : Option Addr} {osl : Array (Option Value)} {kV doc pm cdv ct : Value} (l : K.lookup f = some ⟨oc, od, .func (PySem.W.fnOf x qual (defArgs st) (defBody st) (defScope st) .none kV doc pm an cdv ct), osl⟩)
    (c : PySem.W.codeIn K cdv qual = true) (k : PySem.W.keepIn K (.ref f) = true) : Fun K x qual st f (PySem.W.fnOf x qual (defArgs st) (defBody st) (defScope st) .none kV doc pm an cdv ct) := ⟨⟨oc, od, kV, doc, pm, an, cdv, ct, osl, rfl, l, c⟩, k⟩
end
theorem small1000 {n : Nat} (h : n ≤ 1000) : n < sizeLine := Nat.lt_of_le_of_lt h (by decide)

/-! ### expressions in short: the name that stands in the i-th slot -/
section
variable {X : Cx}
theorem pv (i : Nat) {x : Str} {pos : Pos} (hN : X.N[i]? = some x := by rfl) (hv : Vis X.env.scope x := by first | exact Or.inl rfl | exact Or.inr (Or.inl rfl) | exact Or.inr (Or.inr rfl)) (hd : (x == ("__debug__" : Str)) = false := by decide)
    (hcd : (x == ("__classdict__" : Str)) = false := by decide) : PE X (.Name x pos) (tVar i) := pe_var hN hv hd hcd
end

/-! ### tests -/
theorem ite2 {c A B : Prop} [Decidable c] (h1 : c → A) (h2 : ¬ c → B) : if c then A else B := by
  by_cases h : c
  · rw [if_pos h]
    exact h1 h
  · rw [if_neg h]
    exact h2 h
/-! ### heaps -/
/-- all that was tracked is as it was -/
def Same (H H' : Hp) : Prop := ∀ b o, H b = some o → H' b = some o
theorem Same.refl (H : Hp) : Same H H := fun _ _ h => h
theorem Same.trans {H H1 H2 : Hp} (a : Same H H1) (b : Same H1 H2) : Same H H2 := fun c o h => b c o (a c o h)
theorem Same.free {H H' : Hp} (e : Same H H') {l : Addr} (h : H' l = Option.none) : H l = Option.none := by
  cases q : H l with
  | none => rfl
  | some o =>
    rw [e l o q] at h
    cases h
theorem Same.seq {K : PySem.W.Frag} {H H' : Hp} {a : Addr} {xs : List V} (e : Same H H') (h : SqL K H a xs) : SqL K H' a xs := by
  rcases h with (h | ⟨o, h⟩) | h
  · exact .inl (.inl (e _ _ h))
  · exact .inl (.inr ⟨o, e _ _ h⟩)
  · exact .inr h

end L2

set_option maxHeartbeats 4000000
namespace L2
open PySem PySem.Spec PyProof.Rows

/-! ### list comprehensions of one clause, within the hand layer -/
section
variable {X : Cx} {pins : List (Addr × Obj)} {σ : St} {H : Hp} {s : Shared} {a : Addr} {o : HO}
theorem HOk.adopt {P : Program} {w : World} {h : Heap} (x : HOk P w H h) (hn : H a = none) (new : ObjOk P w (upd H a o) h a o) : HOk P w (upd H a o) h := fun b u e => by
  by_cases hb : b = a
  · subst hb; rw [upd_same] at e; cases e; exact new
  · rw [upd_ne hb] at e
    exact (x b u e).stay (fun c v _ q => q) (fun c q => by rw [upd_ne (ne_of_none q hn)]; exact q) fun c xs q => by rw [upd_ne (ne_of_none q hn)]; exact q
/-- an object that was not tracked is tracked from here on -/
theorem Inv.adopt (I : Inv X pins σ H s) (f : FpOk X pins H a) (new : ObjOk X.prog X.w (upd H a o) s.heap a o) : Inv X pins σ (upd H a o) s := by
  obtain ⟨hn, hL, hfs, hex, hc, hp⟩ := f
  refine ⟨I.ok, I.os, I.bare, ⟨I.base.keep, I.base.slot, fun b ob e n hx => ?_, I.base.there, fun b xs e => ?_, fun b ob u e => ?_, fun b ps e => ?_⟩, I.loc, I.cell, by rw [upd_ne (Ne.symm hL)]; exact I.free, fun x c e => by rw [upd_ne (hc x c e)]; exact I.freeC x c e, fun p q => ?_, HOk.adopt I.hok hn new, I.len⟩
  · have nb : b ≠ a := fun z => by
      rcases hex with z' | z'
      · exact hx (z ▸ z')
      · exact absurd (Heap.lt_size e) (by rw [z]; exact Nat.not_lt.mpr z')
    rw [upd_ne nb]
    exact I.base.free b ob e n hx
  · have q := I.base.tups b xs e
    rw [upd_ne (ne_of_none q hn)]
    exact q
  · have q := I.base.frzs b ob u e
    rw [upd_ne (ne_of_none q hn)]
    exact q
  · obtain ⟨m, q⟩ := I.base.tbls b ps e
    exact ⟨m, by rw [upd_ne (ne_of_none q hn)]; exact q⟩
  · obtain ⟨e, n, r⟩ := I.pin p q
    exact ⟨e, by rw [upd_ne (hp p q)]; exact n, r⟩
end

/-! the closure of the block -/
theorem forIn_yield_fold {α β : Type} {f : α → β → Sem (ForInStep β)} {g : α → β → β} : ∀ (l : List α) (c : β), (∀ x ∈ l, ∀ c, f x c = pure (.yield (g x c))) → forIn l c f = pure (l.foldl (fun c x => g x c) c)
  | [], _, _ => rfl
  | x :: l, c, h => by
    rw [List.forIn_cons, h x List.mem_cons_self, pure_bind]
    exact forIn_yield_fold l (g x c) fun y hy => h y (List.mem_cons_of_mem _ hy)
def clG (env : Env) (x : Str × NameKind) (c : List (Str × Addr)) : List (Str × Addr) := if (x.2 == NameKind.free) = true then (x.1, (env.cells.lookup x.1).getD 0) :: c else c
def clOf (env : Env) (scope : Scope) : List (Str × Addr) := scope.names.foldl (fun c x => clG env x c) []
theorem closure_eq {env : Env} {scope : Scope} (h : ∀ y ∈ scope.names, y.2 = .free → ∃ c, env.cells.lookup y.1 = some c) : closureFor scope env = pure (clOf env scope) := by
  simp only [closureFor]
  rw [forIn_yield_fold (g := clG env) scope.names [] (fun x hx c => by
    obtain ⟨n, k⟩ := x
    unfold clG
    by_cases hk : (k == NameKind.free) = true
    · obtain ⟨a, ha⟩ := h _ hx (by simpa using hk)
      have ha' : env.cells.lookup n = some a := ha
      simp only [hk, if_true, cellOf, ha', pure_bind, Option.getD_some]
    · have hk' : (k == NameKind.free) = false := Bool.eq_false_iff.mpr hk
      simp only [hk', Bool.false_eq_true, if_false])]
  rfl
theorem clG_look {env : Env} : ∀ (l : List (Str × NameKind)) (cs : List (Str × Addr)), (∀ y ∈ l, y.2 = .free → ∃ c, env.cells.lookup y.1 = some c) → (∀ y c, cs.lookup y = some c → env.cells.lookup y = some c) →
    (∀ y c, (l.foldl (fun c x => clG env x c) cs).lookup y = some c → env.cells.lookup y = some c) ∧ ∀ y, ((cs.lookup y).isSome = true ∨ (y, NameKind.free) ∈ l) → ((l.foldl (fun c x => clG env x c) cs).lookup y).isSome = true
  | [], cs, _, h => ⟨h, fun y hy => hy.elim id fun z => absurd z (by simp)⟩
  | (n, k) :: l, cs, hf, h => by
    have hf' : ∀ y ∈ l, y.2 = .free → ∃ c, env.cells.lookup y.1 = some c := fun y hy => hf y (List.mem_cons_of_mem _ hy)
    rw [List.foldl_cons]
    by_cases hk : k = .free
    · subst hk
      obtain ⟨a, ha⟩ := hf (n, .free) List.mem_cons_self rfl
      have ha' : env.cells.lookup n = some a := ha
      have e : clG env (n, .free) cs = (n, a) :: cs := by
        unfold clG
        rw [if_pos (by rfl)]
        show (n, (env.cells.lookup n).getD 0) :: cs = _
        rw [ha']
        rfl
      rw [e]
      have ih := clG_look l ((n, a) :: cs) hf' (fun y c hy => by
        rw [List.lookup_cons] at hy
        cases hb : y == n with
        | true =>
          rw [hb] at hy
          rw [eq_of_beq hb]
          exact ha'.trans hy
        | false =>
          rw [hb] at hy
          exact h y c hy)
      refine ⟨ih.1, fun y hy => ih.2 y ?_⟩
      rcases hy with hy | hy
      · left
        rw [List.lookup_cons]
        cases y == n with
        | true => rfl
        | false => exact hy
      · rcases List.mem_cons.mp hy with hy | hy
        · left
          rw [(Prod.mk.inj hy).1, List.lookup_cons]
          simp
        · exact .inr hy
    · have e : clG env (n, k) cs = cs := by
        unfold clG
        rw [if_neg (by simpa using hk)]
      rw [e]
      have ih := clG_look l cs hf' h
      refine ⟨ih.1, fun y hy => ih.2 y ?_⟩
      rcases hy with hy | hy
      · exact .inl hy
      · rcases List.mem_cons.mp hy with hy | hy
        · exact absurd (Prod.mk.inj hy).2.symm hk
        · exact .inr hy
theorem lookup_relabel_free {env : Env} : ∀ {names : List (Str × NameKind)} {x : Str}, names.lookup x = some .free →
    (names.map fun (n, k) => if (k == NameKind.free && env.scope.kind == .function && env.kindOf n == some .cell) then (n, NameKind.cell) else (n, k)).lookup x ≠ some .local
  | [], _, h => by simp at h
  | (n, k) :: r, x, h => by
    have ih := @lookup_relabel_free env r x
    show List.lookup x ((if (k == NameKind.free && env.scope.kind == .function && env.kindOf n == some .cell) = true then (n, NameKind.cell) else (n, k)) :: _) ≠ _
    cases hx : x == n with
    | true =>
      simp only [List.lookup_cons, hx] at h
      cases h
      split
      · simp [List.lookup_cons, hx]
      · simp [List.lookup_cons, hx]
    | false =>
      simp only [List.lookup_cons, hx] at h
      by_cases hc : (k == NameKind.free && env.scope.kind == .function && env.kindOf n == some .cell) = true
      · rw [if_pos hc]; simp only [List.lookup_cons, hx]; exact ih h
      · rw [if_neg hc]; simp only [List.lookup_cons, hx]; exact ih h
theorem free_of_relabel {env : Env} {scope : Scope} {y : Str} (nc : ∀ z ∈ scope.names, z.2 ≠ .cell) (h : (relabel scope env).names.lookup y = some .cell ∨ (relabel scope env).names.lookup y = some .free) : (y, NameKind.free) ∈ scope.names := by
  have go : ∀ k, (k = NameKind.cell ∨ k = NameKind.free) → (relabel scope env).names.lookup y = some k → (y, NameKind.free) ∈ scope.names := fun k hk e => by
    have m := PySem.mem_of_lookup e
    obtain ⟨⟨n, k'⟩, hm, e'⟩ := List.mem_map.mp m
    by_cases hc : (k' == NameKind.free && env.scope.kind == .function && env.kindOf n == some .cell) = true
    · have e2 : (n, NameKind.cell) = (y, k) := by
        rw [← e']
        show _ = (if (k' == NameKind.free && env.scope.kind == .function && env.kindOf n == some .cell) = true then (n, NameKind.cell) else (n, k'))
        rw [if_pos hc]
      have hk' : k' = .free := by
        simp only [Bool.and_eq_true, beq_iff_eq] at hc
        exact hc.1.1
      rw [← (Prod.mk.inj e2).1, ← hk']
      exact hm
    · have e2 : (n, k') = (y, k) := by
        rw [← e']
        show _ = (if (k' == NameKind.free && env.scope.kind == .function && env.kindOf n == some .cell) = true then (n, NameKind.cell) else (n, k'))
        rw [if_neg hc]
      rcases hk with hk | hk
      · exact absurd ((Prod.mk.inj e2).2.trans hk) (nc _ hm)
      · rw [← (Prod.mk.inj e2).1, ← hk, ← (Prod.mk.inj e2).2]
        exact hm
  rcases h with h | h
  · exact go _ (.inl rfl) h
  · exact go _ (.inr rfl) h

/-! the block's own context -/
def cxComp (X : Cx) (N : List Str) (scope : Scope) (C : Addr) (s : Shared) (H : Hp) (ex : List Addr) (pn : List (Addr × Obj)) (E : Value → Shared → Prop) : Cx where
  prog := X.prog
  w := X.w
  K := X.K
  mg := X.mg
  base := X.base
  A := X.A
  N := N
  s₀ := s
  H₀ := H
  env := compEnvC scope (clOf X.env scope) C X.env
  outer := X.stack
  stack := X.stack
  ex := ex
  fn := fun _ => false
  calm := X.calm
  pn := pn
  xe := E
/-- what is read off the text: osc, N the scope and the names around; caps: the names (with their places around) that the block sees -/
structure CompSc (osc : Scope) (N : List Str) (scope : Scope) (x : Str) (caps : List (Nat × Str)) : Prop where
  kind : scope.kind = .function
  hx : scope.names.lookup x = some .local
  ncell : ∀ y ∈ scope.names, y.2 ≠ .cell
  nloc : ∀ y ∈ scope.names, y.2 = .local → scope.names.lookup y.1 = some .local
  free : ∀ y ∈ scope.names, y.2 = .free → osc.names.lookup y.1 = some .cell ∨ osc.names.lookup y.1 = some .free
  cap : ∀ p ∈ caps, N[p.1]? = some p.2 ∧ scope.names.lookup p.2 = some .free
  nd : (x :: caps.map (·.2)).Nodup
def capS (caps : List (Nat × Str)) (σ : St) : St := caps.map fun p => (σ[p.1]?).getD none
def PIfs (X : Cx) (ifs : List Expr) (tc : TT) : Prop :=
  ∀ (pins : List (Addr × Obj)) (s : Shared) (σ : St) (H : Hp) (Q : Bool → Hp → Prop), Inv X pins σ H s → tc σ H Q →
    wpAny (model X.prog X.w) X.A (forIn ifs true fun c r => if r = true then do let ok ← isTrue c X.env (eval c X.env); pure (ForInStep.yield ok) else pure (ForInStep.yield r)) (TP X pins σ Q) X.xe s
def tYes : TT := fun _ H Q => Q true H
theorem pifs_nil {X : Cx} : PIfs X [] tYes := fun _ _ _ H _ I h => by
  simp only [List.forIn_nil]
  exact wpAny_pure ⟨H, I, h⟩
theorem pifs_one {X : Cx} {c : Expr} {tc : TT} (h : PT X c tc) : PIfs X [c] tc := by
  intro pins s σ H Q I hq
  simp only [List.forIn_cons, List.forIn_nil, if_true]
  exact wpAny_bind (wpAny_bind (wpAny_mono (h pins s σ H Q I hq) (fun b s' hb => wpAny_pure (wpAny_pure hb)) fun _ _ x => x))
/-- the block's reading: W, what holds ahead of turn i with a measure m and the items acc so far; Z, what is wanted behind -/
def tCompW (J : It) (cs : St) (tc : TT) (te : TE) (H1 : Hp) (Z : List V → Hp → Prop) : Prop :=
  ∃ W : Nat → Nat → List V → Hp → Prop, (∃ m, W 0 m [] H1) ∧ ∀ i m acc H, W i m acc H →
    (J.stop i H ∧ Z acc H) ∨ (J.go i H ∧ ∃ N : List V → Hp → Prop, (∀ a H', N a H' → ∃ m', m' < m ∧ W (i + 1) m' a H') ∧
      ∀ x H', J.yld i H x H' → tc (some x :: cs) H' fun b H2 => if b = true then te (some x :: cs) H2 fun v H3 => acc.length < sizeLine ∧ N (acc ++ [v]) H3 else N acc H2)
def tComp (wi : TI) (caps : List (Nat × Str)) (tc : TT) (te : TE) : TE := fun σ H Q => wi σ H fun J H1 => tCompW J (capS caps σ) tc te H1 fun acc H2 => ∀ p, H2 p = none → Q (.ref p) (upd H2 p (.lst acc))

/-! the loop -/
theorem comp_loop {X : Cx} {elt iter : Expr} {x : Str} {ns : List Str} {px pos : Pos} {ifs : List Expr} {scope : Scope} {it D : Addr} {fp : List Addr} {tn : Nat → Heap → Prop} {J : It} {tc : TT} {te : TE} {Z : List V → Hp → Prop} {R : Result → Shared → Prop}
    {cs : St} {o : Option V} {H : Hp} {s : Shared} (hc : X.calm = true) (hN : X.N = x :: ns) (nd : X.N.Nodup) (hx : X.env.scope.names.lookup x = some .local) (I : Inv X [] (o :: cs) H s) (T : Turn X.prog X.w X.K (.Name x px) J fp it tn) (st : tn 0 s.heap) (hf : ∀ b ∈ fp, FpOk X [] H b)
    (hD : FpOk X [] H D) (hDf : D ∉ fp) (pl : s.heap.PlainList D #[]) (hifs : PIfs X ifs tc) (helt : PE X elt te) (hW : tCompW J cs tc te H Z) (hxe : X.xe = notedBy (model X.prog X.w) X.A X.env fun e s' => R (.error e) s')
    (hR : ∀ (s' : Shared) (H' : Hp) (acc : List V) (its : List Value) (o' : Option V), Inv X [] (o' :: cs) H' s' → s'.heap.PlainList D its.toArray → Vals acc its → acc.length ≤ sizeLine → H' D = none → Z acc H' → R (.ok .next) s') :
    codeAny (model X.prog X.w) X.A (.compLoop (.ListComp elt [⟨.Name x px, iter, ifs, 0⟩] scope pos) 0 (.ref it) (.ref D) X.env) R s := by
  obtain ⟨W, ⟨m0, w0⟩, turn⟩ := hW
  refine codeAny_compLoop_tests (fun n s' => ∃ (i : Nat) (acc : List V) (its : List Value) (H' : Hp) (o' : Option V), Inv X [] (o' :: cs) H' s' ∧ tn i s'.heap ∧ (∀ b ∈ fp, H' b = none) ∧ H' D = none ∧ s'.heap.PlainList D its.toArray ∧ Vals acc its ∧ acc.length ≤ sizeLine ∧ W i n acc H') ?_ m0
    ⟨0, [], [], H, o, I, st, fun b hb => (hf b hb).1, hD.1, pl, .nil, Nat.zero_le _, w0⟩
  rintro n s3 ⟨i, acc, its, H3, o3, I3, st3, fr3, hD3, ⟨nD, gD⟩, va, hl, w3⟩
  rw [← hxe]
  -- the list is pinned through the turn
  have I4 : Inv X [(D, { cls := .type "list", data := .seq its.toArray nD })] (o3 :: cs) H3 s3 := I3.pins_of fun p hp => by
    obtain rfl : p = (D, { cls := .type "list", data := .seq its.toArray nD }) := by simpa using hp
    exact ⟨gD, hD3, hD.2.1, hD.2.2.1, fun v z => by cases (show Data.seq its.toArray nD = Data.cell v from z)⟩
  have stat : ∀ {H' : Hp}, (∀ b ∈ fp, H' b = none) → ∀ b ∈ fp, FpOk X [(D, { cls := .type "list", data := .seq its.toArray nD })] H' b := fun hn b hb => by
    obtain ⟨_, f1, f2, f3, f4, f5⟩ := hf b hb
    refine ⟨hn b hb, f1, f2, f3, f4, fun p hp => ?_⟩
    rcases List.mem_append.mp hp with z | z
    · exact f5 p (List.mem_append_left _ z)
    · obtain rfl : p = (D, { cls := .type "list", data := .seq its.toArray nD }) := by simpa using z
      exact fun e => hDf (by rw [show D = b from e]; exact hb)
  rcases turn i n acc H3 w3 with ⟨stop, z⟩ | ⟨go, N, hNn, step⟩
  · refine thn (T.done X rfl rfl rfl hc i _ s3 (o3 :: cs) H3 X.xe I4 (stat fr3) st3 stop) fun r s4 ⟨hr, I5⟩ => ?_
    subst hr
    exact hR s4 H3 acc its o3 (I5.pins_of fun p hp => absurd hp (by simp)) ⟨nD, (I5.pin _ (List.mem_append_right _ (List.mem_singleton.mpr rfl))).1⟩ va hl hD3 z
  · refine thn (T.item X rfl rfl rfl hc i _ s3 (o3 :: cs) H3 X.xe I4 (stat fr3) st3 go) fun r s4 ⟨u, hr, h4⟩ => ?_
    subst hr
    have e0 : (letOwnedTupleGo (.Name x px) (.ref it) u >>= fun _ => assign (.Name x px) X.env u) = assign (.Name x px) X.env u := rfl
    show wpAny _ _ (assign (.Name x px) X.env u) _ _ s4
    rw [← e0]
    refine wpAny_bind (thn h4 fun _ s5 ⟨xv, H5, I5, r5, y5, st5, fr5⟩ => ?_)
    have I5' := I5.pinned (stat fr5) (T.obj _ _ st5)
    refine wpAny_assign_Name (store_ok (i := 0) I5' nd (by rw [hN] <;> rfl) (.inl hx) r5 (fun s6 I6 => ?_) (.inr hx))
    have I6' : Inv X ([(D, { cls := .type "list", data := .seq its.toArray nD })] ++ pinsAt fp s5.heap) (some xv :: cs) H5 s6 := I6
    -- what stays of the iterator and of the list, at any later state of the turn
    have later : ∀ {σ' : St} {H' : Hp} {s' : Shared}, Inv X ([(D, { cls := .type "list", data := .seq its.toArray nD })] ++ pinsAt fp s5.heap) σ' H' s' →
        Inv X [] σ' H' s' ∧ tn (i + 1) s'.heap ∧ (∀ b ∈ fp, H' b = none) ∧ H' D = none ∧ s'.heap.get? D = some { cls := .type "list", data := .seq its.toArray nD } := fun {σ' H' s'} J' => by
      have pD := J'.pin (D, { cls := .type "list", data := .seq its.toArray nD }) (List.mem_append_right _ (List.mem_append_left _ (List.mem_singleton.mpr rfl)))
      refine ⟨J'.pins_of fun p hp => absurd hp (by simp), T.keep _ _ _ st5 fun b hb ob e => (J'.pin (b, ob) (List.mem_append_right _ (List.mem_append_right _ (mem_pinsAt hb e)))).1, fun b hb => ?_, pD.2.1, pD.1⟩
      obtain ⟨ob, e, _⟩ := T.obj _ _ st5 b hb
      exact (J'.pin (b, ob) (List.mem_append_right _ (List.mem_append_right _ (mem_pinsAt hb e)))).2.1
    refine thn (hifs _ s6 (some xv :: cs) H5 _ I6' (step xv H5 y5)) fun b s7 ⟨H7, I7, q7⟩ => ?_
    cases b with
    | false =>
      obtain ⟨m', hm, w7⟩ : ∃ m', m' < n ∧ W (i + 1) m' acc H7 := hNn acc H7 q7
      obtain ⟨l1, l2, l3, l4, l5⟩ := later I7
      exact ⟨m', hm, i + 1, acc, its, H7, some xv, l1, l2, l3, l4, ⟨nD, l5⟩, va, hl, w7⟩
    | true =>
      have q7' : te (some xv :: cs) H7 fun v H3 => acc.length < sizeLine ∧ N (acc ++ [v]) H3 := q7
      show wpAny _ _ (eval elt X.env) _ _ s7
      refine thn (helt _ s7 (some xv :: cs) H7 _ I7 q7') fun u8 s8 ⟨v, H8, I8, r8, hlt, n8⟩ => ?_
      obtain ⟨m', hm, w8⟩ := hNn _ _ n8
      obtain ⟨l1, l2, l3, l4, l5⟩ := later I8
      have hlen := va.length
      refine wpAny_list_append_plain (hsz := by simp only [List.size_toArray]; omega) ⟨nD, l5⟩ fun h9 pl9 sb9 => ?_
      refine ⟨m', hm, i + 1, acc ++ [v], its ++ [u8], H8, some xv, l1.turned (t' := s8.toks) (fun b ob hb e => (sb9.2 b hb).trans e) l4 hD.2.1 hD.2.2.2.1 hD.2.2.2.2.1 hD.2.2.2.2.2, ?_, l3, l4, by simpa using pl9, va.append (.cons r8 .nil), ?_, w8⟩
      · exact T.keep _ _ _ l2 fun b hb ob e => (sb9.2 b (fun z => hDf (z ▸ hb))).trans e
      · rw [List.length_append, List.length_singleton]
        omega

/-! the block -/
section
variable {X : Cx} {elt iter : Expr} {x : Str} {px pos : Pos} {ifs : List Expr} {scope : Scope} {caps : List (Nat × Str)} {wi : TI} {tc : TT} {te : TE}
theorem Inv.stkNo {pins : List (Addr × Obj)} {σ : St} {H : Hp} {s : Shared} {b : Addr} (I : Inv X pins σ H s) (h1 : b ≠ X.env.locals) (h2 : b ∉ X.fs) : b ∉ frs X.stack := fun z => (List.mem_cons.mp (I.stkSub b z)).elim h1 h2
theorem comp_block {pins : List (Addr × Obj)} {σ : St} {H : Hp} {s : Shared} {E : Value → Shared → Prop} {it : Addr} {fp : List Addr} {tn : Nat → Heap → Prop} {J : It} {Z : List V → Hp → Prop} {RR : Value → Addr → Result → Shared → Prop}
    (hc : X.calm = true) (S : CompSc X.env.scope X.N scope x caps) (I : Inv X pins σ H s) (T : Turn X.prog X.w X.K (.Name x px) J fp it tn) (st : tn 0 s.heap) (hf : ∀ b ∈ fp, FpOk X pins H b)
    (hifs : ∀ C s H ex pn E, PIfs (cxComp X (x :: caps.map (·.2)) scope C s H ex pn E) ifs tc) (helt : ∀ C s H ex pn E, PE (cxComp X (x :: caps.map (·.2)) scope C s H ex pn E) elt te)
    (hW : tCompW J (capS caps σ) tc te H Z)
    (hRR : ∀ (s' : Shared) (H' : Hp) (acc : List V) (its : List Value) (D C : Addr) (m : Str → Option Value), Inv X pins σ H' s' → s'.heap.PlainList D its.toArray → Vals acc its → acc.length ≤ sizeLine → FpOk X pins H' D → FpOk X pins H' C → D ≠ C → s'.heap.Ns C m → Z acc H' → RR (.ref D) C (.ok .next) s') :
    wpAny (model X.prog X.w) X.A (newList []) (fun acc s₃ => wpAny (model X.prog X.w) X.A (newFunctionEnv scope X.env.globals (clOf X.env scope) [] X.env.qual none .none (some X.env)) (fun cenv s₄ =>
      codeAny (model X.prog X.w) X.A (.compStart (.ListComp elt [⟨.Name x px, iter, ifs, 0⟩] scope pos) 0 (.ref it) acc { cenv with scope := relabel scope X.env }) (RR acc cenv.locals) s₄) E s₃) E s := by
  refine wpAny_newObj_type (wpAny_newFunctionEnv S.ncell (by intro y hy; simp at hy) (fun h₁ hns₁ hsb₁ => ?_) S.kind)
  dsimp only at hns₁ hsb₁ ⊢
  have hI3 : Inv X pins σ H { s with heap := s.heap.push { cls := .type "list", dict := none, data := .seq ([] : List Value).toArray } } := I.kept (t' := s.toks) fun b u e => Heap.get?_push_of_some _ e
  have gD3 : (s.heap.push { cls := .type "list", dict := none, data := .seq ([] : List Value).toArray }).get? s.heap.objs.size = some { cls := .type "list", dict := none, data := .seq ([] : List Value).toArray } := Heap.get?_push_size _ rfl
  have hz3 : (s.heap.push { cls := .type "list", dict := none, data := .seq ([] : List Value).toArray }).objs.size = s.heap.objs.size + 1 := Heap.size_push _ _
  generalize hH3 : s.heap.push { cls := .type "list", dict := none, data := .seq ([] : List Value).toArray } = h3 at hns₁ hsb₁ hI3 gD3 hz3 ⊢
  have k3 : ∀ b u, s.heap.get? b = some u → h3.get? b = some u := fun b u e => hH3 ▸ Heap.get?_push_of_some _ e
  have k31 : ∀ b u, h3.get? b = some u → h₁.get? b = some u := fun b u e => (hsb₁.2 b (Nat.ne_of_lt (Heap.lt_size e))).trans (Heap.get?_push_of_some _ e)
  have k1 : ∀ b u, s.heap.get? b = some u → h₁.get? b = some u := fun b u e => k31 b u (k3 b u e)
  have hDC : s.heap.objs.size ≠ h3.objs.size := by rw [hz3]; exact Nat.ne_of_lt (Nat.lt_succ_self _)
  have fD : FpOk X pins H s.heap.objs.size := I.fpOk (Nat.le_refl _) (I.hok.fresh (Nat.le_refl _))
  have fC : FpOk X pins H h3.objs.size := I.fpOk (by rw [hz3]; exact Nat.le_succ _) (I.hok.fresh (by rw [hz3]; exact Nat.le_succ _))
  have lfp : ∀ b ∈ fp, b < s.heap.objs.size := fun b hb => let ⟨_, e, _⟩ := T.obj _ _ st b hb; Heap.lt_size e
  have hDf : s.heap.objs.size ∉ fp := fun z => Nat.lt_irrefl _ (lfp _ z)
  -- the closure's cells are cells around
  have hfree : ∀ y ∈ scope.names, y.2 = .free → ∃ c, X.env.cells.lookup y.1 = some c := fun y hy e => I.ok.has y.1 (S.free y hy e)
  obtain ⟨sub, has⟩ := clG_look scope.names [] hfree (fun y c e => by simp at e)
  have sub' : ∀ y c, (clOf X.env scope).lookup y = some c → X.env.cells.lookup y = some c := sub
  have has' : ∀ y, (y, NameKind.free) ∈ scope.names → ∃ c, (clOf X.env scope).lookup y = some c := fun y hy => Option.isSome_iff_exists.mp (has y (.inr hy))
  have inj : ∀ b ∈ s.heap.objs.size :: fp, FpOk X pins H b := fun b hb => (List.mem_cons.mp hb).elim (fun z => z ▸ fD) (hf b)
  have ltC : ∀ b ∈ s.heap.objs.size :: fp, b ≠ h3.objs.size := fun b hb => (List.mem_cons.mp hb).elim (fun z => z ▸ hDC) fun z => Nat.ne_of_lt (by rw [hz3]; exact Nat.lt_succ_of_lt (lfp b z))
  have I1 : Inv (cxComp X (x :: caps.map (·.2)) scope h3.objs.size { s with heap := h3 } H (s.heap.objs.size :: fp) (X.pn ++ pins)
      (notedBy (model X.prog X.w) X.A (compEnvC scope (clOf X.env scope) h3.objs.size X.env) fun e s' => RR (.ref s.heap.objs.size) h3.objs.size (.error e) s')) [] (none :: capS caps σ) H { s with heap := h₁, toks := s.toks + ([] : List (Str × Value)).length } := by
    refine ⟨⟨I.ok.mod, S.kind, I.ok.glob, I.ok.blt, Nat.le_refl _, fun y z c e1 e2 => I.ok.inj y z c (sub' _ _ e1) (sub' _ _ e2), fun y hy => has' y (free_of_relabel S.ncell hy), fun y c e => (nomatch e), I.ok.hd, I.ok.frames, .inl rfl, fun b hb => ⟨ltC b hb, fun y c e => (inj b hb).2.2.2.2.1 y c (sub' y c e)⟩,
        fun b ob e => ⟨k3 b ob (I.bs b ob e).1, (I.bs b ob e).2⟩, ?_, fun b ob e z => ?_, fun b hb => I.stkNo (inj b hb).2.1 (inj b hb).2.2.1, ?_, I.stkFree⟩,
      rfl, I.bare, Un.kept k31, ⟨_, hns₁, fun i y v e1 e2 e3 => ?_⟩, fun y c e => ?_, fC.1, fun y c e => I.freeC y c (sub' y c e), fun p hp => ?_, I.hok.kept k1, ?_⟩
    · exact Nat.le_trans I.ok.bsz (Nat.le_trans I.sz (by show s.heap.objs.size ≤ h3.objs.size; rw [hz3]; exact Nat.le_succ _))
    · rcases (inj b z).2.2.2.1 with w1 | w1
      · exact I.ok.noex b ob e w1
      · exact absurd (Nat.lt_of_lt_of_le (Heap.lt_size e) I.ok.bsz) (Nat.not_lt.mpr w1)
    · exact Heap.FunFrames.of_keeps (fun b ob e _ => ⟨ob, k3 b ob e, rfl⟩) I.stack
    · cases i with
      | zero => cases e2
      | succ i =>
        have e1' : (caps.map (·.2))[i]? = some y := e1
        have e2' : (capS caps σ)[i]? = some (some v) := e2
        unfold capS at e2'
        rw [List.getElem?_map] at e1' e2'
        cases ep : caps[i]? with
        | none => rw [ep] at e1'; cases e1'
        | some p =>
          rw [ep] at e1' e2'
          obtain rfl : p.2 = y := Option.some.inj e1'
          have e2'' : (σ[p.1]?).getD none = some v := Option.some.inj e2'
          have hσ : σ[p.1]? = some (some v) := by
            cases es : σ[p.1]? with
            | none => rw [es] at e2''; cases e2''
            | some w1 => rw [es] at e2''; exact congrArg some e2''
          obtain ⟨cN, cF⟩ := S.cap p (List.mem_of_getElem? ep)
          have mF : (p.2, NameKind.free) ∈ scope.names := PySem.mem_of_lookup cF
          have oF := S.free _ mF rfl
          obtain ⟨m, hn, hlook⟩ := I.loc
          obtain ⟨u, ru, lk⟩ := hlook p.1 p.2 v cN hσ (.inr oF)
          refine ⟨u, ru, .inr ⟨?_, ?_⟩⟩
          · rcases e3 with z | z
            · exact absurd z (lookup_relabel_free cF)
            · exact z
          · obtain ⟨c, ec⟩ := has' p.2 mF
            refine ⟨c, ec, ?_⟩
            rcases lk with ⟨z, _⟩ | ⟨_, c', ec', ob, ho, hd⟩
            · have z' : X.env.scope.names.lookup p.2 = some .local := z
              rw [z'] at oF
              rcases oF with q | q <;> cases q
            · have ee := (sub' _ _ ec).symm.trans ec'
              cases ee
              exact ⟨ob, k1 _ _ ho, hd⟩
    · obtain ⟨v, ob, ho, hd⟩ := I.cell y c (sub' y c e)
      exact ⟨v, ob, k1 _ _ ho, hd⟩
    · have hp' : p ∈ X.pn ++ pins := by
        rcases List.mem_append.mp hp with z | z
        · exact z
        · exact absurd z (by simp)
      obtain ⟨e, n, ne, nf, d⟩ := I.pin p hp'
      refine ⟨k1 _ _ e, n, Nat.ne_of_lt ?_, I.stkNo ne nf, d⟩
      show p.1 < h3.objs.size
      rw [hz3]
      exact Nat.lt_succ_of_lt (Heap.lt_size e)
    · show (none :: capS caps σ).length = (x :: caps.map (·.2)).length
      simp [capS]
  have hf1 : ∀ b ∈ s.heap.objs.size :: fp, FpOk (cxComp X (x :: caps.map (·.2)) scope h3.objs.size { s with heap := h3 } H (s.heap.objs.size :: fp) (X.pn ++ pins)
      (notedBy (model X.prog X.w) X.A (compEnvC scope (clOf X.env scope) h3.objs.size X.env) fun e s' => RR (.ref s.heap.objs.size) h3.objs.size (.error e) s')) [] H b := fun b hb => by
    obtain ⟨f0, f1, f2, f3, f4, f5⟩ := inj b hb
    refine ⟨f0, ltC b hb, I.stkNo f1 f2, .inl hb, fun y c e => f4 y c (sub' y c e), fun p hp => f5 p ?_⟩
    rcases List.mem_append.mp hp with z | z
    · exact z
    · exact absurd z (by simp)
  have st1 : tn 0 h₁ := T.keep _ _ _ st fun b _ ob e => k1 b ob e
  have loop : codeAny (model X.prog X.w) X.A (.compLoop (.ListComp elt [⟨.Name x px, iter, ifs, 0⟩] scope pos) 0 (.ref it) (.ref s.heap.objs.size) (compEnvC scope (clOf X.env scope) h3.objs.size X.env)) (RR (.ref s.heap.objs.size) h3.objs.size) { s with heap := h₁, toks := s.toks + ([] : List (Str × Value)).length } := by
    refine comp_loop (X := cxComp X (x :: caps.map (·.2)) scope h3.objs.size { s with heap := h3 } H (s.heap.objs.size :: fp) (X.pn ++ pins) (notedBy (model X.prog X.w) X.A (compEnvC scope (clOf X.env scope) h3.objs.size X.env) fun e s' => RR (.ref s.heap.objs.size) h3.objs.size (.error e) s'))
      hc rfl S.nd (lookup_relabel_local S.hx) I1 T st1 (fun b hb => hf1 b (List.mem_cons_of_mem _ hb)) (hf1 _ List.mem_cons_self) hDf ⟨0, k31 _ _ gD3⟩ (hifs _ _ _ _ _ _) (helt _ _ _ _ _ _) hW rfl ?_
    intro s' H' acc its o' J1 plD va hlen nD z
    have u1 : Un (frs X.stack) (s.heap.objs.size :: fp) H H' h3 s'.heap := J1.base
    have J2 : Inv X pins σ H' s' := Inv.call' (s := { s with heap := h3 }) hI3 J1.os u1 J1.hok J1.bare fun b hb => by
      obtain ⟨_, f1, _, f3, f4, f5⟩ := inj b hb
      exact ⟨f3, f1, f4, f5⟩
    obtain ⟨m, hn, _⟩ := J1.loc
    exact hRR s' H' acc its _ _ m J2 plD va hlen ⟨nD, fD.2⟩ ⟨J1.free, fC.2⟩ hDC hn z
  exact codeAny_compStart_list loop (T.self _ 0 _ _ _ st1 loop)

theorem pe_comp (hc : X.calm = true) (S : CompSc X.env.scope X.N scope x caps) (hi : PI X (.Name x px) iter wi)
    (hifs : ∀ C s H ex pn E, PIfs (cxComp X (x :: caps.map (·.2)) scope C s H ex pn E) ifs tc) (helt : ∀ C s H ex pn E, PE (cxComp X (x :: caps.map (·.2)) scope C s H ex pn E) elt te)
    (hs : ∀ x, foldedSetIterable iter X.env x = pure x := by intro _; rfl) : PE X (.ListComp elt [⟨.Name x px, iter, ifs, 0⟩] scope pos) (tComp wi caps tc te) := by
  intro pins s σ H Q I h
  have hfree : ∀ y ∈ scope.names, y.2 = .free → ∃ c, X.env.cells.lookup y.1 = some c := fun y hy e => I.ok.has y.1 (S.free y hy e)
  rw [eval_ListComp]
  refine wpAny_comprehension_free (use := none) rfl hs (closure_eq hfree) S.kind S.nloc (thn (hi pins s σ H _ I h) fun v s1 h1 => thn h1 fun itv s2 h2 => ?_)
  obtain ⟨it, fp, tn, J, H2, e, I2, T, st2, f2, hW⟩ := h2
  subst e
  refine comp_block (RR := fun acc C => compPost (model X.prog X.w) X.A X.xe none (EP X pins σ Q) acc C) hc S I2 T st2 f2 hifs helt hW ?_
  intro s' H' acc its D C m J2 plD va hlen fD fC hDC hn z
  obtain ⟨nD, gD⟩ := plD
  refine ⟨m, hn, fun h'' sb => ?_⟩
  have J3 : Inv X pins σ H' { s' with heap := h'' } := J2.turned (t' := s'.toks) (fun b ob hb e => (sb.2 b hb).trans e) fC.1 fC.2.1 fC.2.2.2.1 fC.2.2.2.2.1 fC.2.2.2.2.2
  exact ⟨.ref D, upd H' D (.lst acc), J3.adopt fD ⟨hlen, its, nD, va, (sb.2 D hDC).trans gD⟩, rfl, z D fD.1⟩
/-- name = [..] where the store is the comprehension's own last step -/
theorem ps_setC {i : Nat} {y : Str} {py spos : Pos} (hc : X.calm = true) (hN : X.N.Nodup) (hi' : X.N[i]? = some y) (hy : Loc X.env.scope y) (S : CompSc X.env.scope X.N scope x caps) (hi : PI X (.Name x px) iter wi)
    (hifs : ∀ C s H ex pn E, PIfs (cxComp X (x :: caps.map (·.2)) scope C s H ex pn E) ifs tc) (helt : ∀ C s H ex pn E, PE (cxComp X (x :: caps.map (·.2)) scope C s H ex pn E) elt te)
    (hsw : swapsWith (.ListComp elt [⟨.Name x px, iter, ifs, 0⟩] scope pos) (some (.Name y py)) spos.line X.env = pure true := by rfl) (hs : ∀ x, foldedSetIterable iter X.env x = pure x := by intro _; rfl)
    (hfn : X.fn y = true ∨ X.env.scope.names.lookup y = some .local := by first | exact .inl rfl | exact .inr rfl | assumption) : PS X (.Assign [.Name y py] (.ListComp elt [⟨.Name x px, iter, ifs, 0⟩] scope pos) spos) (tAsg (tComp wi caps tc te) (gName i)) := by
  intro pins s σ H D0 I h
  have hfree : ∀ y ∈ scope.names, y.2 = .free → ∃ c, X.env.cells.lookup y.1 = some c := fun y hy e => I.ok.has y.1 (S.free y hy e)
  rw [exec_Assign_Name_used _ _ _ _ hsw]
  refine wpAny_bind (wpAny_standAt (wpAny_bind ?_))
  show wpAny _ _ (do let _ ← comprehension (.ListComp elt [⟨.Name x px, iter, ifs, 0⟩] scope pos) scope X.env _ (newList []) false (eval iter X.env) (some (assign (.Name y py) X.env))) _ _ s
  refine wpAny_bind (wpAny_mono (wpAny_comprehension_free (use := some (assign (.Name y py) X.env)) (Q := fun _ s' => SP X pins D0 .next s') rfl hs (closure_eq hfree) S.kind S.nloc
    (thn (hi pins s σ H _ I h) fun v s1 h1 => thn h1 fun itv s2 h2 => ?_)) (fun _ s' hq => wpAny_pure (wpAny_pure hq)) fun _ _ e => e)
  obtain ⟨it, fp, tn, J, H2, e, I2, T, st2, f2, hW⟩ := h2
  subst e
  refine comp_block (RR := fun acc C => compPost (model X.prog X.w) X.A X.xe (some (assign (.Name y py) X.env)) (fun _ s' => SP X pins D0 .next s') acc C) hc S I2 T st2 f2 hifs helt hW ?_
  intro s' H' acc its D C m J2 plD va hlen fD fC hDC hn z
  obtain ⟨nD, gD⟩ := plD
  have J3 : Inv X pins σ (upd H' D (.lst acc)) s' := J2.adopt fD ⟨hlen, its, nD, va, gD⟩
  show wpAny _ _ (assign (.Name y py) X.env (.ref D)) _ _ s'
  refine wpAny_assign_Name (store_ok2 J3 hN hi' hy (show RelV (.ref D) (.ref D) from rfl) (fun s4 J4 ⟨a, sa, ha⟩ => ?_) hfn)
  have hCa : C ≠ a := by
    rcases ha with q | q
    · rw [q]; exact fC.2.1
    · exact (fC.2.2.2.2.1 y a q).symm
  refine ⟨m, hn.sameBut sa hCa, fun h'' sb => ?_⟩
  exact ⟨_, _, J4.turned (t' := s4.toks) (fun b ob hb e => (sb.2 b hb).trans e) (by rw [upd_ne (Ne.symm hDC)]; exact fC.1) fC.2.1 fC.2.2.2.1 fC.2.2.2.2.1 fC.2.2.2.2.2, z D fD.1⟩
end
end L2

namespace L2
open PySem PySem.Spec PyProof.Rows

/-! ### the forms of a comprehension one uses -/
theorem comp_of {J : It} {cs : St} {tc : TT} {te : TE} {H1 : Hp} {Z : List V → Hp → Prop} (n : Nat) (Pv : Nat → List V → Hp → Prop) (h0 : Pv 0 [] H1) (hd : ∀ acc H, Pv n acc H → J.stop n H ∧ Z acc H)
    (hs : ∀ i acc H, i < n → Pv i acc H → J.go i H ∧ ∀ x H', J.yld i H x H' → tc (some x :: cs) H' fun b H2 => if b = true then te (some x :: cs) H2 fun v H3 => acc.length < sizeLine ∧ Pv (i + 1) (acc ++ [v]) H3 else Pv (i + 1) acc H2) :
    tCompW J cs tc te H1 Z := by
  refine ⟨fun i m acc H => m = n - i ∧ i ≤ n ∧ Pv i acc H, ⟨n, by simp, Nat.zero_le _, h0⟩, ?_⟩
  rintro i m acc H ⟨rfl, hi, p⟩
  by_cases hlt : i < n
  · obtain ⟨g, y⟩ := hs i acc H hlt p
    exact .inr ⟨g, Pv (i + 1), fun a H' q => ⟨n - (i + 1), by omega, rfl, hlt, q⟩, y⟩
  · have e : i = n := by omega
    subst e
    exact .inl (hd acc H p)
theorem comp_range {lo : Int} {n : Nat} {cs : St} {tc : TT} {te : TE} {H1 : Hp} {Z : List V → Hp → Prop} (Pv : Nat → List V → Hp → Prop) (h0 : Pv 0 [] H1)
    (hs : ∀ i acc H, i < n → Pv i acc H → tc (some (.int (lo + i)) :: cs) H fun b H2 => if b = true then te (some (.int (lo + i)) :: cs) H2 fun v H3 => acc.length < sizeLine ∧ Pv (i + 1) (acc ++ [v]) H3 else Pv (i + 1) acc H2)
    (hd : ∀ acc H, Pv n acc H → Z acc H) : tCompW (Itr lo n) cs tc te H1 Z :=
  comp_of n Pv h0 (fun acc H p => ⟨Nat.le_refl _, hd acc H p⟩) fun i acc H hi p => ⟨hi, fun x H' y => by
    obtain ⟨e, y⟩ := y
    subst e y
    exact hs i acc _ hi p⟩
theorem comp_list {K : PySem.W.Frag} {a : Addr} {xs : List V} {cs : St} {tc : TT} {te : TE} {H1 : Hp} {Z : List V → Hp → Prop} (Pv : Nat → List V → Hp → Prop) (h0 : Pv 0 [] H1) (hl : ∀ i acc H, Pv i acc H → SqL K H a xs)
    (hs : ∀ i x acc H, xs[i]? = some x → Pv i acc H → tc (some x :: cs) H fun b H2 => if b = true then te (some x :: cs) H2 fun v H3 => acc.length < sizeLine ∧ Pv (i + 1) (acc ++ [v]) H3 else Pv (i + 1) acc H2)
    (hd : ∀ acc H, Pv xs.length acc H → Z acc H) : tCompW (Itl K a) cs tc te H1 Z :=
  comp_of xs.length Pv h0 (fun acc H p => ⟨⟨xs, hl _ _ _ p, Nat.le_refl _⟩, hd acc H p⟩) fun i acc H hi p => ⟨⟨xs, xs[i], hl _ _ _ p, by simp [hi]⟩, fun x H' y => by
    obtain ⟨e, y⟩ := y
    subst e
    exact hs i x acc _ (y xs (hl _ _ _ p)) p⟩
theorem comp_tup {K : PySem.W.Frag} {a : Addr} {xs : List V} {cs : St} {tc : TT} {te : TE} {H1 : Hp} {Z : List V → Hp → Prop} (Pv : Nat → List V → Hp → Prop) (h0 : Pv 0 [] H1) (hl : ∀ i acc H, Pv i acc H → SqT K H a xs)
    (hs : ∀ i x acc H, xs[i]? = some x → Pv i acc H → tc (some x :: cs) H fun b H2 => if b = true then te (some x :: cs) H2 fun v H3 => acc.length < sizeLine ∧ Pv (i + 1) (acc ++ [v]) H3 else Pv (i + 1) acc H2)
    (hd : ∀ acc H, Pv xs.length acc H → Z acc H) : tCompW (Itt K a) cs tc te H1 Z :=
  comp_of xs.length Pv h0 (fun acc H p => ⟨⟨xs, hl _ _ _ p, Nat.le_refl _⟩, hd acc H p⟩) fun i acc H hi p => ⟨⟨xs, xs[i], hl _ _ _ p, by simp [hi]⟩, fun x H' y => by
    obtain ⟨e, y⟩ := y
    subst e
    exact hs i x acc _ (y xs (hl _ _ _ p)) p⟩

/-! ### a text walked sign by sign -/
def Its (z : Str) : It := ⟨fun i _ => i < z.cps.size, fun i H x H' => H' = H ∧ ∃ c, z.cps[i]? = some c ∧ x = .str ⟨#[c]⟩, fun i _ => z.cps.size ≤ i⟩
theorem turn_ascii {P : Program} {w : World} {K : PySem.W.Frag} {tg : Expr} (it : Addr) (z : Str) (t : Tok) : Turn P w K tg (Its z) [it] it (fun i h => h.IsStrIter it "str_ascii_iterator" z t i) where
  mem := by simp
  obj := fun i h st b hb => by
    have e : b = it := by simpa using hb
    subst e
    obtain ⟨o, e, c, d⟩ := st
    exact ⟨o, e, fun v z => by rw [d] at z; cases z⟩
  keep := fun i h h' st k => by
    obtain ⟨o, e, r⟩ := st
    exact ⟨o, k it (by simp) o e, r⟩
  item := by
    intro X hP hw hK hc i pins s σ H E I hf st hg
    subst hP hw hK
    obtain ⟨f0, f1, f2, f3, f4, f5⟩ := hf it (by simp)
    have hlt : i < z.cps.size := hg
    refine wpAny_pyNext_ascii_item st (c := z.cps[i]) (by simp [hlt]) fun h' st' sb => ?_
    have I1 : Inv X pins σ H { s with heap := h', toks := s.toks + 1 } := I.turned (fun b o hb e => (sb.2 b hb).trans e) f0 f1 f3 f4 f5
    obtain ⟨o, e, c, d⟩ := id st'
    exact ⟨_, rfl, go_of (s := { s with heap := h', toks := s.toks + 1 }) e c d (by decide) ⟨.str ⟨#[z.cps[i]]⟩, H, I1, ⟨_, rfl⟩, ⟨rfl, _, by simp [hlt], rfl⟩, st', fun b hb => (hf b hb).1⟩⟩
  done := by
    intro X hP hw hK hc i pins s σ H E I hf st hg
    subst hP hw hK
    obtain ⟨f0, f1, f2, f3, f4, f5⟩ := hf it (by simp)
    have hge : z.cps.size ≤ i := hg
    exact wpAny_pyNext_ascii_end (I.ok.hd hc) st (by simp [hge]) fun h' eb => ⟨rfl, I.turned (t' := s.toks) (fun b o hb e => eb b o hb e) f0 f1 f3 f4 f5⟩
  self := fun _ _ _ _ _ st h => wpAny_pyIter_striter_ascii st h
theorem turn_wide {P : Program} {w : World} {K : PySem.W.Frag} {tg : Expr} (it : Addr) (z : Str) (t : Tok) : Turn P w K tg (Its z) [it] it (fun i h => h.IsStrIter it "str_iterator" z t i) where
  mem := by simp
  obj := fun i h st b hb => by
    have e : b = it := by simpa using hb
    subst e
    obtain ⟨o, e, c, d⟩ := st
    exact ⟨o, e, fun v z => by rw [d] at z; cases z⟩
  keep := fun i h h' st k => by
    obtain ⟨o, e, r⟩ := st
    exact ⟨o, k it (by simp) o e, r⟩
  item := by
    intro X hP hw hK hc i pins s σ H E I hf st hg
    subst hP hw hK
    obtain ⟨f0, f1, f2, f3, f4, f5⟩ := hf it (by simp)
    have hlt : i < z.cps.size := hg
    refine wpAny_pyNext_wide_item st (c := z.cps[i]) (by simp [hlt]) fun h' st' sb => ?_
    have I1 : Inv X pins σ H { s with heap := h', toks := s.toks + 1 } := I.turned (fun b o hb e => (sb.2 b hb).trans e) f0 f1 f3 f4 f5
    obtain ⟨o, e, c, d⟩ := id st'
    exact ⟨_, rfl, go_of (s := { s with heap := h', toks := s.toks + 1 }) e c d (by decide) ⟨.str ⟨#[z.cps[i]]⟩, H, I1, ⟨_, rfl⟩, ⟨rfl, _, by simp [hlt], rfl⟩, st', fun b hb => (hf b hb).1⟩⟩
  done := by
    intro X hP hw hK hc i pins s σ H E I hf st hg
    subst hP hw hK
    obtain ⟨f0, f1, f2, f3, f4, f5⟩ := hf it (by simp)
    have hge : z.cps.size ≤ i := hg
    exact wpAny_pyNext_wide_end (I.ok.hd hc) st (by simp [hge]) fun h' eb => ⟨rfl, I.turned (t' := s.toks) (fun b o hb e => eb b o hb e) f0 f1 f3 f4 f5⟩
  self := fun _ _ _ _ _ st h => wpAny_pyIter_striter_wide st h
section
variable {X : Cx} {tg : Expr}
def iStr (tl : TE) : TI := fun σ H R => tl σ H fun x H1 => ∃ z, x = .str z ∧ R (Its z) H1
theorem pi_str {l : Expr} {tl : TE} (hl : PE X l tl) : PI X tg l (iStr tl) := by
  intro pins s σ H R I h
  refine thn (hl pins s σ H _ I h) fun v s1 ⟨x, H1, I1, r1, q1⟩ => ?_
  obtain ⟨z, e, q⟩ := q1
  subst e
  obtain ⟨t, rfl⟩ := r1
  have fp : ∀ b ∈ [s1.heap.objs.size], FpOk X pins H1 b := fun b hb => by
    have e : b = s1.heap.objs.size := by simpa using hb
    subst e
    exact I1.fpOk (Nat.le_refl _) (I1.hok.fresh (Nat.le_refl _))
  cases ha : z.cps.all (· < 128)
  · refine wpAny_pyIter_wide ha ?_
    exact ⟨s1.heap.objs.size, [s1.heap.objs.size], _, _, H1, rfl, I1.kept (t' := s1.toks) fun b o e => Heap.get?_push_of_some _ e, turn_wide _ z t, ⟨_, Heap.get?_push_size _ rfl, rfl, rfl⟩, fp, q⟩
  · refine wpAny_pyIter_ascii ha ?_
    exact ⟨s1.heap.objs.size, [s1.heap.objs.size], _, _, H1, rfl, I1.kept (t' := s1.toks) fun b o e => Heap.get?_push_of_some _ e, turn_ascii _ z t, ⟨_, Heap.get?_push_size _ rfl, rfl, rfl⟩, fp, q⟩
end
theorem for_str {z : Str} {g : TG} {tb : TS} {D : Ends} {σ : St} {H : Hp} (Pv : Nat → St → Hp → Prop) (h0 : Pv 0 σ H)
    (hs : ∀ i c σ H, z.cps[i]? = some c → Pv i σ H → g (.str ⟨#[c]⟩) σ H fun σ2 H2 => tb { D with nx := Pv (i + 1), ct := Pv (i + 1), bk := D.nx } σ2 H2) (hd : ∀ σ H, Pv z.cps.size σ H → D.nx σ H) :
    ∃ W : Nat → Nat → St → Hp → Prop, (∃ m, W 0 m σ H) ∧ ∀ i m σ H, W i m σ H →
      ((Its z).stop i H ∧ D.nx σ H) ∨ ((Its z).go i H ∧ ∃ N : St → Hp → Prop, (∀ σ' H', N σ' H' → ∃ m', m' < m ∧ W (i + 1) m' σ' H') ∧ ∀ x H', (Its z).yld i H x H' → g x σ H' fun σ2 H2 => tb { D with nx := N, ct := N, bk := D.nx } σ2 H2) := by
  refine ⟨fun i m σ H => m = z.cps.size - i ∧ i ≤ z.cps.size ∧ Pv i σ H, ⟨z.cps.size, by simp, Nat.zero_le _, h0⟩, ?_⟩
  rintro i m σ H ⟨rfl, hi, p⟩
  by_cases hlt : i < z.cps.size
  · refine .inr ⟨hlt, Pv (i + 1), fun σ' H' p' => ⟨z.cps.size - (i + 1), by omega, rfl, hlt, p'⟩, fun x H' y => ?_⟩
    obtain ⟨e, c, ec, ex⟩ := y
    subst e ex
    exact hs i c σ _ ec p
  · have e : i = z.cps.size := by omega
    subst e
    exact .inl ⟨Nat.le_refl _, hd σ H p⟩
theorem comp_str {z : Str} {cs : St} {tc : TT} {te : TE} {H1 : Hp} {Z : List V → Hp → Prop} (Pv : Nat → List V → Hp → Prop) (h0 : Pv 0 [] H1)
    (hs : ∀ i c acc H, z.cps[i]? = some c → Pv i acc H → tc (some (.str ⟨#[c]⟩) :: cs) H fun b H2 => if b = true then te (some (.str ⟨#[c]⟩) :: cs) H2 fun v H3 => acc.length < sizeLine ∧ Pv (i + 1) (acc ++ [v]) H3 else Pv (i + 1) acc H2)
    (hd : ∀ acc H, Pv z.cps.size acc H → Z acc H) : tCompW (Its z) cs tc te H1 Z :=
  comp_of z.cps.size Pv h0 (fun acc H p => ⟨Nat.le_refl _, hd acc H p⟩) fun i acc H hi p => ⟨hi, fun x H' y => by
    obtain ⟨e, c, ec, ex⟩ := y
    subst e ex
    exact hs i c acc _ ec p⟩

/-! ### texts: find, join, slices; truths: is, all -/
section
variable {X : Cx}
theorem sl_str : SlR X (fun x lo hi H Q => ∃ z, x = .str z ∧ z.length ≤ sizeLine ∧ Q (.str (Txt.slice z lo hi)) H) := by
  intro pins s σ H x v vl vu lo hi sl Q I rx hs pl pu h
  obtain ⟨z, rfl, hz, q⟩ := h
  obtain ⟨t, rfl⟩ := rx
  have fin : ∀ (l u : Option (Int × Tok)), s.heap.IsSlice sl l u none → l.map (·.1) = lo → u.map (·.1) = hi → wpAny (model X.prog X.w) X.A (getItem (.str z t) (.ref sl)) (EP X pins σ Q) X.xe s := fun l u h1 h2 h3 => by
    subst h2 h3
    exact wpAny_getItem_str_slice (l := l) (u := u) (st := none) h1 rfl (post_val_or_str ⟨Nat.le_trans (Txt.slice_le z _ _) hz, fun t' k => ⟨.str _, H, I.tok _, ⟨_, rfl⟩, q⟩⟩)
  refine ⟨"str", _, F.slot_str_getitem.lookup, typeIs_str _ _ _, ?_⟩
  cases pl with
  | none =>
    cases pu with
    | none => exact fin none none hs rfl rfl
    | int j uj => exact fin none (some (j, uj)) hs rfl rfl
  | int i ui =>
    cases pu with
    | none => exact fin (some (i, ui)) none hs rfl rfl
    | int j uj => exact fin (some (i, ui)) (some (j, uj)) hs rfl rfl
theorem range_all : ∀ (n : Nat) (f : Nat → Bool) (bs : List Bool), bs.length = n → (∀ i b, bs[i]? = some b → f i = b) → (List.range n).all f = bs.all id := by
  intro n f bs hl hf
  rw [Bool.eq_iff_iff, List.all_eq_true, List.all_eq_true]
  constructor
  · intro h b hb
    obtain ⟨i, e⟩ := List.mem_iff_getElem?.mp hb
    have hi : i < n := by
      have := (List.getElem?_eq_some_iff.mp e).1
      omega
    have := h i (List.mem_range.mpr hi)
    rw [hf i b e] at this
    exact this
  · intro h i hi
    have hi' : i < bs.length := by rw [hl]; exact List.mem_range.mp hi
    have e : bs[i]? = some bs[i] := List.getElem?_eq_getElem hi'
    rw [hf i _ e]
    exact h _ (List.getElem_mem hi')
/-- all(bs), bs a list of truths -/
theorem call_allB (hc : X.calm = true) : CallR X (.builtin "all") (fun xs H Q => ∃ (p : Addr) (bs : List Bool), xs = [.ref p] ∧ SqL X.K H p (bs.map V.bl) ∧ Q (.bl (bs.all id)) H) := by
  intro pins s σ H xs us Q I r h
  obtain ⟨p, bs, rfl, hq, q⟩ := h
  obtain ⟨u, rfl, rx⟩ := vals1 r
  cases rx
  obtain ⟨its, rv, pl, hz⟩ := I.list hq
  have hlen := rv.length
  rw [List.length_map] at hlen
  have hlt : p < s.heap.objs.size := by
    obtain ⟨o, ho, _⟩ := pl.isList
    exact Heap.lt_size ho
  refine call_all_walk (wpAny_pyIter_list pl.isList ?_)
  refine ⟨s.heap.objs.size, [s.heap.objs.size, p], [s.heap.objs.size], its.toArray.size, fun i v => its.toArray[i]? = some v, fun i h => h.IsListIter s.heap.objs.size p i ∧ h.IsList p its.toArray, fun i => (bs[i]?).getD true, rfl,
    Walks.list (A := X.A.in1) (I.ok.hd hc) _ _ (Nat.ne_of_lt hlt) _, ⟨⟨_, Heap.get?_push_size _ rfl, rfl, rfl⟩, pl.isList.at fun o e => Heap.get?_push_of_some _ e⟩, ?_, ?_⟩
  · intro i v s' Q' E' hv hQ'
    have hi : i < bs.length := by
      have := (Array.getElem?_eq_some_iff.mp hv).1
      simp only [List.size_toArray] at this
      omega
    have e : bs[i]? = some bs[i] := List.getElem?_eq_getElem hi
    obtain ⟨u, hu, ru⟩ := rv.get (i := i) (x := V.bl bs[i]) (by rw [List.getElem?_map, e]; rfl)
    have hv' : its[i]? = some v := by simpa using hv
    rw [hu] at hv'
    cases hv'
    cases ru
    have hQ2 : Q' ((bs[i]?).getD true) s' := hQ'
    rw [e] at hQ2
    exact wpAny_truthy_bool hQ2
  · intro h' tk k
    refine ⟨.bl (bs.all id), H, I.kept (t' := tk) (h' := h') fun b u e => k b u (fun z => ?_) (Heap.get?_push_of_some _ e), ?_, q⟩
    · have z' : b = s.heap.objs.size := by simpa using z
      exact absurd (Heap.lt_size e) (by rw [z']; exact Nat.lt_irrefl _)
    · show Value.bool _ = Value.bool _
      rw [range_all its.toArray.size _ bs (by simp only [List.size_toArray]; exact hlen) fun i b e => by rw [e]; rfl]
end
end L2
namespace L2
open PySem PySem.Spec PyProof.Rows
section
variable {X : Cx} {a b c : Expr} {ta tb : TE} {pos : Pos}
/-- a op1 b op2 k of ints, k a constant: one truth -/
def tChI (p p' : Int → Int → Bool) (k : Int) (ta tb : TE) : TE := fun σ H Q => ta σ H fun x H1 => tb σ H1 fun y H2 => ∃ i j, x = .int i ∧ y = .int j ∧ Q (.bl (p i j && p' j k)) H2
theorem pe_chainI {op op' : CmpOp} {p p' : Int → Int → Bool} {k : Int} (ho : OpR X (compareOp op) (rI0 fun i j => .bl (p i j))) (ho' : OpR X (compareOp op') (rI0 fun i j => .bl (p' i j))) (ha : PE X a ta) (hb : PE X b tb) (hc : PE X c (tC (.int k)))
    (hm : lastMarks [op, op'] [b, c] = false := by with_unfolding_all rfl) : PE X (.Compare a [op, op'] [b, c] pos) (tChI p p' k ta tb) := by
  intro pins s σ H Q I h
  refine Compare_chain (thn (ha pins s σ H _ I h) fun v s1 ⟨x, H1, I1, r1, q1⟩ => chain_link (thn (hb pins s1 σ H1 _ I1 q1) fun u s2 ⟨y, H2, I2, r2, q2⟩ => ?_)) hm
  obtain ⟨i, j, rfl, rfl, q⟩ := q2
  refine thn (ho pins s2 σ H2 _ _ v u (fun z H3 => z = .bl (p i j) ∧ H3 = H2) I2 r1 r2 ⟨i, j, rfl, rfl, rfl, rfl⟩) fun d s3 ⟨z, H3, I3, r3, e1, e2⟩ => ?_
  subst e1 e2
  cases r3
  refine wpAny_truthy_bool ?_
  cases e : p i j with
  | false =>
    rw [e, Bool.false_and] at q
    exact ite_ff ⟨.bl false, _, I3, rfl, q⟩
  | true =>
    rw [e, Bool.true_and] at q
    exact ite_tt (chain_last (thn (hc pins s3 σ _ (fun z H4 => z = .int k ∧ H4 = H3) I3 ⟨rfl, rfl⟩) fun w' s4 ⟨z', H4, I4, r4, e3, e4⟩ => by
      subst e3 e4
      exact ho' pins s4 σ _ _ _ u w' Q I4 r2 r4 ⟨j, k, rfl, rfl, q⟩))
end
theorem atI_some {α : Type} {xs : List α} {i : Int} (h0 : 0 ≤ i) (h1 : i < (xs.length : Int)) : ∃ v ∈ xs, atI xs i = some v := by
  have hk : i.toNat < xs.length := by omega
  have e : xs[i.toNat]? = some xs[i.toNat] := List.getElem?_eq_getElem hk
  refine ⟨xs[i.toNat], List.getElem_mem hk, ?_⟩
  have q := atI_nat e
  rw [Int.toNat_of_nonneg h0] at q
  exact q
theorem atI_int {ns : List Int} {i : Int} (h0 : 0 ≤ i) (h1 : i < (ns.length : Int)) : ∃ v : Int, atI (ns.map V.int) i = some (.int v) := by
  obtain ⟨v, hv, e⟩ := atI_some (xs := ns.map V.int) h0 (by rw [List.length_map]; exact h1)
  obtain ⟨n, _, rfl⟩ := List.mem_map.mp hv
  exact ⟨n, e⟩
theorem small_le {n : Nat} (h : n ≤ 1000) : n ≤ sizeLine := Nat.le_of_lt (small1000 h)
theorem mask31 (x : Int) : Builtin.bitAnd x 2147483647 = x % 2147483648 := PySem.W.kbt_mask x 31
theorem maskB (x : Int) : 0 ≤ Builtin.bitAnd x 2147483647 ∧ Builtin.bitAnd x 2147483647 < 2147483648 := by
  rw [mask31]
  omega
end L2
namespace L2
open PySem PySem.Spec PyProof.Rows
section
variable {X : Cx} {st : Stmt} {rest : List Stmt} {t u : TS}
/-- a word M between a statement and what follows: both ways through the statement meet there -/
def tCut (t u : TS) : TS := fun D σ H => ∃ M : St → Hp → Prop, t { D with nx := M } σ H ∧ ∀ σ' H', M σ' H' → u D σ' H'
theorem pss_cut (h1 : PS X st t) (h2 : PSs X rest u) : PSs X (st :: rest) (tCut t u) := by
  intro pins s σ H D I h
  obtain ⟨M, h, hM⟩ := h
  refine wpAny_execs_cons (thn (h1 pins s σ H { D with nx := M } I h) fun f s1 q => ?_)
  cases f with
  | next =>
    obtain ⟨σ', H', I', q⟩ := q
    exact h2 pins s1 σ' H' D I' (hM σ' H' q)
  | ret v => exact q
  | brk => exact q
  | cont => exact q
end
theorem same_new {H : Hp} {p : Addr} (h : H p = none) (o : HO) : Same H (upd H p o) := fun b u q => by rw [upd_ne (ne_of_none q h)]; exact q
end L2
namespace L2
open PySem PySem.Spec PyProof.Rows
/-- a word M behind an expression (a test): its ways meet there -/
def tCutE (t : TE) : TE := fun σ H Q => ∃ M : VK, t σ H M ∧ ∀ v H', M v H' → Q v H'
theorem pe_cut {X : Cx} {e : Expr} {t : TE} (h : PE X e t) : PE X e (tCutE t) := by
  intro pins s σ H Q I ⟨M, hM, hQ⟩
  exact thn (h pins s σ H M I hM) fun u s' ⟨v, H', I', r, m⟩ => ⟨v, H', I', r, hQ v H' m⟩
def tCutT (t : TT) : TT := fun σ H Q => ∃ M : Bool → Hp → Prop, t σ H M ∧ ∀ b H', M b H' → Q b H'
theorem pt_cut {X : Cx} {e : Expr} {t : TT} (h : PT X e t) : PT X e (tCutT t) := by
  intro pins s σ H Q I ⟨M, hM, hQ⟩
  exact thn (h pins s σ H M I hM) fun b s' ⟨H', I', m⟩ => ⟨H', I', hQ b H' m⟩
end L2

namespace L2
open PySem PySem.Spec PyProof.Rows
/-! isinstance with a type of Python's own -/
section
variable {X : Cx}
theorem call_isinst : CallR X (.builtin "isinstance") (fun xs H Q => ∃ (x : V) (T : String) (t : Value) (b : Bool), xs = [x, .ty T] ∧ TyOf X.K H x t ∧ PySem.W.kitOne X.K t (.type T) = some b ∧ Q (.bl b) H) := by
  intro pins s σ H xs us Q I r h
  obtain ⟨x, T, t, b, rfl, ty, e, q⟩ := h
  obtain ⟨u, w', rfl, r1, r2⟩ := vals2 r
  cases (show w' = Value.type T from r2)
  exact isinst_ok I r1 ty e fun tk => ⟨.bl b, H, I.tok tk, rfl, q⟩
theorem kit_ii (K : PySem.W.Frag) : PySem.W.kitOne K (.type "int") (.type "int") = some true := by rfl
theorem kit_ib (K : PySem.W.Frag) : PySem.W.kitOne K (.type "int") (.type "bool") = some false := by rfl
end
end L2

namespace L2
open PySem
theorem ifT {c : Bool} {A B : Prop} (h : c = true) (a : A) : if c = true then A else B := by rw [if_pos h]; exact a
theorem ifF {c : Bool} {A B : Prop} (h : c = false) (b : B) : if c = true then A else B := by rw [if_neg (by rw [h]; decide)]; exact b
end L2

namespace Sw
open PySem
/-! the table of a set of ints: where nothing was dropped its places rise, and a walk by places meets each element once -/
def Rise (xs : Array Nat) : Prop := ∀ (i k v u : Nat), i < k → xs[i]? = some v → xs[k]? = some u → v < u
theorem go_spec {xs : Array Nat} {j : Nat} (hr : Rise xs) : ∀ (fuel lo hi : Nat), hi - lo ≤ fuel → lo ≤ hi → hi ≤ xs.size → (∀ i v, i < lo → xs[i]? = some v → v < j) → (∀ i v, hi ≤ i → xs[i]? = some v → j ≤ v) →
    lo ≤ SetTable.below.go xs j fuel lo hi ∧ SetTable.below.go xs j fuel lo hi ≤ hi ∧ (∀ i v, i < SetTable.below.go xs j fuel lo hi → xs[i]? = some v → v < j) ∧ ∀ i v, SetTable.below.go xs j fuel lo hi ≤ i → xs[i]? = some v → j ≤ v
  | 0, lo, hi, hf, hl, hs, h1, h2 => by
    have e : lo = hi := by omega
    subst e
    exact ⟨Nat.le_refl _, Nat.le_refl _, h1, h2⟩
  | fuel + 1, lo, hi, hf, hl, hs, h1, h2 => by
    unfold SetTable.below.go
    by_cases hlt : lo < hi
    · rw [if_pos hlt]
      have hm : (lo + hi) / 2 < xs.size := by omega
      have em : xs[(lo + hi) / 2]? = some xs[(lo + hi) / 2] := Array.getElem?_eq_getElem hm
      have eg : xs.getD ((lo + hi) / 2) j = xs[(lo + hi) / 2] := by simp [Array.getD, hm]
      show lo ≤ (if xs.getD ((lo + hi) / 2) j < j then SetTable.below.go xs j fuel ((lo + hi) / 2 + 1) hi else SetTable.below.go xs j fuel lo ((lo + hi) / 2)) ∧ (if xs.getD ((lo + hi) / 2) j < j then SetTable.below.go xs j fuel ((lo + hi) / 2 + 1) hi else SetTable.below.go xs j fuel lo ((lo + hi) / 2)) ≤ hi ∧
        (∀ i v, i < (if xs.getD ((lo + hi) / 2) j < j then SetTable.below.go xs j fuel ((lo + hi) / 2 + 1) hi else SetTable.below.go xs j fuel lo ((lo + hi) / 2)) → xs[i]? = some v → v < j) ∧
        ∀ i v, (if xs.getD ((lo + hi) / 2) j < j then SetTable.below.go xs j fuel ((lo + hi) / 2 + 1) hi else SetTable.below.go xs j fuel lo ((lo + hi) / 2)) ≤ i → xs[i]? = some v → j ≤ v
      rw [eg]
      by_cases hc : xs[(lo + hi) / 2] < j
      · rw [if_pos hc]
        obtain ⟨q1, q2, q3, q4⟩ := go_spec hr fuel ((lo + hi) / 2 + 1) hi (by omega) (by omega) hs (fun i v hi' e => by
          by_cases ei : i = (lo + hi) / 2
          · subst ei
            rw [em] at e
            cases e
            exact hc
          · exact Nat.lt_trans (hr i ((lo + hi) / 2) v _ (by omega) e em) hc) h2
        exact ⟨by omega, q2, q3, q4⟩
      · rw [if_neg hc]
        obtain ⟨q1, q2, q3, q4⟩ := go_spec hr fuel lo ((lo + hi) / 2) (by omega) (by omega) (by omega) h1 (fun i v hi' e => by
          by_cases ei : i = (lo + hi) / 2
          · subst ei
            rw [em] at e
            cases e
            omega
          · have := hr ((lo + hi) / 2) i _ v (by omega) em e
            omega)
        exact ⟨q1, by omega, q3, q4⟩
    · rw [if_neg hlt]
      have e : lo = hi := by omega
      subst e
      exact ⟨Nat.le_refl _, Nat.le_refl _, h1, h2⟩
theorem below_spec {xs : Array Nat} (hr : Rise xs) (j : Nat) : SetTable.below xs j ≤ xs.size ∧ (∀ i v, i < SetTable.below xs j → xs[i]? = some v → v < j) ∧ ∀ i v, SetTable.below xs j ≤ i → xs[i]? = some v → j ≤ v := by
  obtain ⟨_, q2, q3, q4⟩ := go_spec (j := j) hr xs.size 0 xs.size (by omega) (Nat.zero_le _) (Nat.le_refl _) (fun i v h => by omega) (fun i v h e => by
    have := (Array.getElem?_eq_some_iff.mp e).1
    omega)
  exact ⟨q2, q3, q4⟩
theorem below_zero {xs : Array Nat} (hr : Rise xs) : SetTable.below xs 0 = 0 := by
  obtain ⟨q1, q2, _⟩ := below_spec hr 0
  by_cases e : SetTable.below xs 0 = 0
  · exact e
  · have h0 : 0 < xs.size := by omega
    have := q2 0 xs[0] (by omega) (Array.getElem?_eq_getElem h0)
    omega
theorem below_next {xs : Array Nat} (hr : Rise xs) {i v : Nat} (e : xs[i]? = some v) : SetTable.below xs (v + 1) = i + 1 := by
  obtain ⟨q1, q2, q3⟩ := below_spec hr (v + 1)
  have hi := (Array.getElem?_eq_some_iff.mp e).1
  have a1 : ¬ SetTable.below xs (v + 1) ≤ i := fun h => by
    have := q3 i v h e
    omega
  have a2 : ¬ i + 1 < SetTable.below xs (v + 1) := fun h => by
    have hlt : i + 1 < xs.size := by omega
    have e1 : xs[i + 1]? = some xs[i + 1] := Array.getElem?_eq_getElem hlt
    have b1 := q2 (i + 1) _ h e1
    have b2 := hr i (i + 1) _ _ (by omega) e e1
    omega
  omega
theorem insertAt_get {α : Type} (xs : Array α) (p : Nat) (x : α) (hp : p ≤ xs.size) (i : Nat) : (SetTable.insertAt xs p x)[i]? = if i < p then xs[i]? else if i = p then some x else xs[i - 1]? := by
  have e : (SetTable.insertAt xs p x).toList = xs.toList.take p ++ (x :: xs.toList.drop p) := by
    unfold SetTable.insertAt
    simp [Array.toList_extract]
    rw [List.take_of_length_le (by simp)]
  rw [← Array.getElem?_toList, e]
  have hl : (xs.toList.take p).length = p := by simp; omega
  by_cases h1 : i < p
  · rw [if_pos h1, List.getElem?_append_left (by omega), List.getElem?_take_of_lt h1, Array.getElem?_toList]
  · rw [if_neg h1, List.getElem?_append_right (by omega), hl]
    by_cases h2 : i = p
    · subst h2
      simp
    · rw [if_neg h2]
      obtain ⟨d, hd⟩ : ∃ d, i - p = d + 1 := ⟨i - p - 1, by omega⟩
      rw [hd, List.getElem?_cons_succ, List.getElem?_drop, Array.getElem?_toList]
      congr 1
      omega
theorem insert_rise {xs : Array Nat} (hr : Rise xs) {j : Nat} (hn : xs[SetTable.below xs j]? ≠ some j) : Rise (SetTable.insertAt xs (SetTable.below xs j) j) := by
  obtain ⟨q1, q2, q3⟩ := below_spec hr j
  intro i k v u hik hv hu
  rw [insertAt_get _ _ _ q1] at hv hu
  have up : ∀ m z, SetTable.below xs j ≤ m → xs[m]? = some z → j < z := fun m z hm e => by
    have h1 := q3 m z hm e
    by_cases ez : z = j
    · subst ez
      by_cases em : m = SetTable.below xs z
      · rw [em] at e
        exact absurd e hn
      · have hlt : SetTable.below xs z < xs.size := by
          have := (Array.getElem?_eq_some_iff.mp e).1
          omega
        have e0 : xs[SetTable.below xs z]? = some xs[SetTable.below xs z] := Array.getElem?_eq_getElem hlt
        have := hr (SetTable.below xs z) m _ _ (by omega) e0 e
        have := q3 _ _ (Nat.le_refl _) e0
        omega
    · omega
  by_cases h1 : i < SetTable.below xs j
  · rw [if_pos h1] at hv
    by_cases h2 : k < SetTable.below xs j
    · rw [if_pos h2] at hu
      exact hr i k v u hik hv hu
    · rw [if_neg h2] at hu
      by_cases h3 : k = SetTable.below xs j
      · rw [if_pos h3] at hu
        cases hu
        exact q2 i v h1 hv
      · rw [if_neg h3] at hu
        exact Nat.lt_trans (q2 i v h1 hv) (up (k - 1) u (by omega) hu)
  · rw [if_neg h1] at hv
    by_cases h2 : i = SetTable.below xs j
    · rw [if_pos h2] at hv
      cases hv
      rw [if_neg (by omega), if_neg (by omega)] at hu
      exact up (k - 1) u (by omega) hu
    · rw [if_neg h2] at hv
      rw [if_neg (by omega), if_neg (by omega)] at hu
      exact hr (i - 1) (k - 1) v u (by omega) hv hu
/-- nothing dropped; where the order is the table's own, its places rise -/
structure TabOk (l : Bool) (t : SetTable) : Prop where
  no : t.dummies = #[]
  led : t.led = l
  up : t.plain = true → Rise t.place
theorem slot_empty {t : SetTable} (no : t.dummies = #[]) (j : Nat) : t.slot j ≠ .dummy := by
  unfold SetTable.slot
  dsimp only
  split
  · intro z
    cases z
  · rw [no]
    show (if SetTable.has #[] j = true then SetTable.Slot.dummy else SetTable.Slot.empty) ≠ _
    have : SetTable.has #[] j = false := by
      unfold SetTable.has
      simp
    rw [this]
    intro z
    cases z
theorem probe_empty {t : SetTable} (no : t.dummies = #[]) (ha : Nat → Int) (h : Int) : ∀ (fuel : Nat) (p : SetTable.Probe) (j : Nat) (d : Option Nat), p.dummy = none → SetTable.probe.go t ha h fuel p = some (.empty j d) → t.slot j = .empty ∧ d = none
  | 0, p, j, d, _, e => by
    unfold SetTable.probe.go at e
    cases e
  | fuel + 1, p, j, d, hd, e => by
    have hadv : (t.advance p).dummy = none := by
      unfold SetTable.advance
      split
      · exact hd
      · exact hd
    unfold SetTable.probe.go at e
    cases hs : t.slot p.j with
    | empty =>
      rw [hs] at e
      dsimp only at e
      cases e
      exact ⟨hs, hd⟩
    | dummy => exact absurd hs (slot_empty no p.j)
    | live i =>
      rw [hs] at e
      dsimp only at e
      split at e
      · cases e
      · exact probe_empty no ha h fuel _ j d hadv e
theorem free_new {t : SetTable} (no : t.dummies = #[]) {h : Int} {j : Nat} {wd : Bool} (e : t.freeSlot h = some (j, wd)) : t.place[SetTable.below t.place j]? ≠ some j := by
  unfold SetTable.freeSlot at e
  cases hp : t.probe (fun _ => h + 1) h (t.probeStart h) with
  | none =>
    rw [hp] at e
    cases e
  | some m =>
    rw [hp] at e
    cases m with
    | candidate _ _ _ => cases e
    | empty j' d =>
      obtain ⟨h1, h2⟩ := probe_empty no (fun _ => h + 1) h _ (t.probeStart h) j' d rfl hp
      subst h2
      dsimp only at e
      cases e
      show t.place[SetTable.below t.place j']? ≠ some j'
      intro z
      unfold SetTable.slot at h1
      dsimp only at h1
      rw [z] at h1
      simp at h1
theorem standIn_ok {l : Bool} {t : SetTable} (h : TabOk l t) (n : Nat) : TabOk l (t.standIn n) := ⟨rfl, h.led, fun z => by cases z⟩
theorem layNew_ok {l : Bool} {t : SetTable} (ok : TabOk l t) (es : Array (Int × Value)) (h : Int) (x : Value) : TabOk l (layNew t es h x).2.1 := by
  unfold layNew
  cases hf : t.freeSlot h with
  | none => exact standIn_ok ok _
  | some q =>
    obtain ⟨j, wd⟩ := q
    dsimp only
    have hput : TabOk l (t.put j).1 := by
      refine ⟨?_, ok.led, fun hp => insert_rise (ok.up hp) (free_new ok.no hf)⟩
      unfold SetTable.put
      dsimp only
      rw [ok.no]
      have : SetTable.has #[] j = false := by
        unfold SetTable.has
        simp
      rw [this]
      rfl
    unfold SetTable.orStandIn
    split
    · exact hput
    · exact standIn_ok hput _
theorem fst_filter (g : Nat → Option Nat) : ∀ l : List Nat, (l.filterMap fun j => (g j).map (j, ·)).map (·.1) = l.filter fun j => (g j).isSome
  | [] => rfl
  | j :: l => by
    rw [List.filterMap_cons, List.filter_cons]
    cases e : g j with
    | none => simpa using fst_filter g l
    | some k => simpa using fst_filter g l
theorem rise_of {l : List Nat} (h : l.Pairwise (· < ·)) : Rise l.toArray := by
  intro i k v u hik hv hu
  have hv' : l[i]? = some v := by simpa using hv
  have hu' : l[k]? = some u := by simpa using hu
  obtain ⟨h1, e1⟩ := List.getElem?_eq_some_iff.mp hv'
  obtain ⟨h2, e2⟩ := List.getElem?_eq_some_iff.mp hu'
  have := List.pairwise_iff_getElem.mp h i k h1 h2 hik
  rw [e1, e2] at this
  exact this
theorem relayAll_ok {l : Bool} {t : SetTable} (ok : TabOk l t) (es : Array (Int × Value)) (wanted : Nat) : TabOk l (relayAll t es wanted).2.1 := by
  unfold relayAll
  cases hr : t.relaid (es.map (·.1)) wanted with
  | none => exact standIn_ok ok _
  | some q =>
    obtain ⟨t', order⟩ := q
    dsimp only
    split
    · unfold SetTable.relaid SetTable.laid at hr
      cases ho : SetTable.layClean (SetTable.sizeAbove wanted - 1) (es.map (·.1)) with
      | none =>
        rw [ho] at hr
        cases hr
      | some owner =>
        rw [ho] at hr
        have e := (Prod.mk.inj (Option.some.inj hr)).1
        rw [← e]
        refine ⟨rfl, ok.led, fun _ => ?_⟩
        dsimp only
        rw [fst_filter]
        exact rise_of (List.Pairwise.filter _ List.pairwise_lt_range)
    · exact standIn_ok ok _
end Sw

namespace Sw
open PySem PyProof.Rows
section
variable {prog : Program} {w : World} {A : Around} {E : Value → Shared → Prop} {s : Shared}
/-- a set of ints with its table: S its members, n how many, l whether its maker is led -/
def SetR (prog : Program) (w : World) (h : Heap) (a : Addr) (S : Int → Bool) (n : Nat) (l : Bool) : Prop :=
  ∃ o es ep t, h.get? a = some o ∧ o.ExactSet ∧ o.data = .set es ep t ∧ ElemsOf (intKind prog w) es.toList ∧ (∀ k, S k = true ↔ ∃ e ∈ es.toList, (intKind prog w).is k e.2 = true) ∧ es.size < scanBound ∧ t.fits es.size = true ∧ es.size = n ∧ TabOk l t
theorem SetR.keeps {h h' : Heap} {a : Addr} {S : Int → Bool} {n : Nat} {l : Bool} (x : SetR prog w h a S n l) (k : ∀ o, h.get? a = some o → h'.get? a = some o) : SetR prog w h' a S n l := by
  obtain ⟨o, es, ep, t, ho, r⟩ := x
  exact ⟨o, es, ep, t, k o ho, r⟩
theorem store_get {h : Heap} {a : Addr} {o : Obj} {es : Array (Int × Value)} {ep : Nat} {t : SetTable} (ho : h.get? a = some o) (hd : o.data = .set es ep t) (es' : Array (Int × Value)) (t' : SetTable) :
    (h.update a (Obj.putSet es' t')).get? a = some { o with data := .set es' (ep + 1) t' } := by
  have q := Heap.get?_update_self (Obj.putSet es' t') ho (by rw [putSet_of es' t' hd]; rfl)
  rw [putSet_of es' t' hd] at q
  exact q
theorem tail_store {g : Bool → Sem Unit} (hg : ∀ (b : Bool) (s₁ : Shared) (Q' : Unit → Shared → Prop), Q' () s₁ → wpAny (model prog w) A (g b) Q' E s₁) {a : Addr} {o : Obj} {es es1 : Array (Int × Value)} {ep : Nat} {t t2 : SetTable} (ho : s.heap.get? a = some o) (hd : o.data = .set es ep t)
    (hb1 : es1.size < scanBound) {wasDummy : Bool} {R : Option Bool → Shared → Prop} (h1 : R (some true) { s with heap := s.heap.update a (Obj.putSet es1 t2) })
    (h2 : R (some true) { s with heap := (s.heap.update a (Obj.putSet es1 t2)).update a (Obj.putSet (relayAll t2 es1 (SetTable.grown es1.size)).1 (relayAll t2 es1 (SetTable.grown es1.size)).2.1) }) :
    wpAny (model prog w) A (do
      storeSet a es1 t2
      if (!wasDummy && t2.tooFull) = true then do
        g (relayAll t2 es1 (SetTable.grown es1.size)).2.2
        storeSet a (relayAll t2 es1 (SetTable.grown es1.size)).1 (relayAll t2 es1 (SetTable.grown es1.size)).2.1
        pure (some true)
      else pure (some true)) R E s := by
  refine wpAny_bind (wpAny_storeSet_of ho hd ?_ (fits_of_scanBound hb1))
  split
  · have hp := relayAll_perm t2 es1 (SetTable.grown es1.size)
    have hsz : (relayAll t2 es1 (SetTable.grown es1.size)).1.size = es1.size := by rw [← Array.length_toList, hp.length_eq, Array.length_toList]
    exact wpAny_bind (hg _ _ _ (wpAny_bind (wpAny_storeSet_of (store_get ho hd es1 t2) rfl (wpAny_pure h2) (fits_of_scanBound (by rw [hsz]; exact hb1)))))
  · exact wpAny_pure h1
theorem addR {a : Addr} {S : Int → Bool} {n : Nat} {l : Bool} {k : Int} {tok : Tok} {Q : Bool → Shared → Prop} (hS : SetR prog w s.heap a S n l) (hroom : n + 1 < scanBound)
    (h : ∀ h', Heap.SameBut a s.heap h' → SetR prog w h' a (fun k' => S k' || decide (k' = k)) (if S k then n else n + 1) l → Q (!S k) { s with heap := h' }) :
    wpAny (model prog w) A (setAddHashed a (.int k tok) ((intKind prog w).hash k)) Q E s := by
  obtain ⟨o, es, ep, t, ho, hex, hd, hel, hmem, hb, hf, hn, ok⟩ := hS
  have hkey : (intKind prog w).is k (.int k tok) = true := intKind_is _ _ _ _
  have hsc : (Value.int k tok).scannable = true := rfl
  have hb1 : es.size + 1 < scanBound := by rw [hn]; exact hroom
  unfold setAddHashed setAddHashedIn
  refine wpAny_holding (wpAny_bind (wpAny_setState_of ho hd hf ?_))
  dsimp only; rw [byScan_of hsc hb hel]; simp only [↓reduceIte]; unfold setAddByScan
  refine wpAny_bind (wpAny_bind (wpAny_rule (wpAny_bind (wpAny_setScan_of hkey ho hd hf hel ?_))))
  cases hr : List.findIdx? (fun e => (intKind prog w).is k e.2) es.toList with
  | some j =>
    dsimp only
    obtain ⟨hj, hpj, _⟩ := List.findIdx?_eq_some_iff_getElem.mp hr
    have hSk : S k = true := (hmem k).mpr ⟨es.toList[j], List.getElem_mem hj, hpj⟩
    have q := h s.heap (Heap.SameBut.refl a s.heap) ⟨o, es, ep, t, ho, hex, hd, hel, fun k' => by
      rw [Bool.or_eq_true, decide_eq_true_eq, ← hmem k']
      exact ⟨fun hk => hk.elim id (fun e => e ▸ hSk), .inl⟩, hb, hf, by rw [hSk]; exact hn, ok⟩
    rw [hSk] at q
    exact wpAny_pure (wpAny_pure q)
  | none =>
    dsimp only
    have hSk : S k = false := by
      cases hk : S k with
      | false => rfl
      | true =>
        obtain ⟨e, he, hp⟩ := (hmem k).mp hk
        have z := List.findIdx?_eq_none_iff.mp hr e he
        rw [hp] at z
        cases z
    have hgw : ∀ (b : Bool) {s₁ : Shared} {Q' : Unit → Shared → Prop}, Q' () s₁ → wpAny (model prog w) A (match b with | true => rule "set.scan.the-table-gave-way" | false => pure ()) Q' E s₁ := fun b s₁ Q' hq => by
      cases b <;> first | exact wpAny_pure hq | exact wpAny_rule hq
    have hperm := layNew_perm t es ((intKind prog w).hash k) (.int k tok)
    have hfits := layNew_fits t es ((intKind prog w).hash k) (.int k tok)
    have hok := layNew_ok ok es ((intKind prog w).hash k) (.int k tok)
    generalize hL : layNew t es ((intKind prog w).hash k) (.int k tok) = L at hperm hfits hok ⊢
    obtain ⟨es1, t1, wasDummy, gave⟩ := L
    dsimp only at hperm hfits hok ⊢
    rw [Array.toList_push] at hperm
    have hel1 : ElemsOf (intKind prog w) es1.toList := (hel.push hkey hsc).perm hperm
    have hmem1 : ∀ k', (S k' || decide (k' = k)) = true ↔ ∃ e ∈ es1.toList, (intKind prog w).is k' e.2 = true := mem_push_iff hkey hmem hperm
    have hsz1 : es1.size = n + 1 := by rw [← Array.length_toList, hperm.length_eq, List.length_append, Array.length_toList, hn]; rfl
    have hb1' : es1.size < scanBound := by rw [hsz1]; exact hroom
    refine wpAny_bind (hgw _ ?_)
    have fin : ∀ (es2 : Array (Int × Value)) (t2 : SetTable) (h0 : Heap) (o0 : Obj) (es0 : Array (Int × Value)) (ep0 : Nat) (t0 : SetTable), h0.get? a = some o0 → o0.ExactSet → o0.data = .set es0 ep0 t0 → Heap.SameBut a s.heap h0 → es2.toList.Perm es1.toList → t2.fits es2.size = true → TabOk l t2 →
        Q true { s with heap := h0.update a (Obj.putSet es2 t2) } := fun es2 t2 h0 o0 es0 ep0 t0 g0 x0 d0 sb hp hf2 ok2 => by
      have hsz2 : es2.size = n + 1 := by rw [← Array.length_toList, hp.length_eq, Array.length_toList, hsz1]
      have q := h _ (sb.trans (Heap.SameBut.update h0 a (Obj.putSet es2 t2))) ⟨_, es2, ep0 + 1, t2, store_get g0 d0 es2 t2, x0, rfl, hel1.perm hp, fun k' => (hmem1 k').trans ⟨fun ⟨e, he, z⟩ => ⟨e, hp.mem_iff.mpr he, z⟩, fun ⟨e, he, z⟩ => ⟨e, hp.mem_iff.mp he, z⟩⟩, by rw [hsz2]; exact hroom, hf2, by rw [hSk]; exact hsz2, ok2⟩
      rw [hSk] at q
      exact q
    have both : ∀ t2 : SetTable, t2.fits es1.size = true → TabOk l t2 → Q true { s with heap := s.heap.update a (Obj.putSet es1 t2) } ∧
        Q true { s with heap := (s.heap.update a (Obj.putSet es1 t2)).update a (Obj.putSet (relayAll t2 es1 (SetTable.grown es1.size)).1 (relayAll t2 es1 (SetTable.grown es1.size)).2.1) } := fun t2 hf2 ok2 =>
      ⟨fin es1 t2 s.heap o es ep t ho hex hd (Heap.SameBut.refl _ _) (List.Perm.refl _) hf2 ok2,
        fin _ _ _ _ es1 (ep + 1) t2 (store_get ho hd es1 t2) hex rfl (Heap.SameBut.update _ _ _) (relayAll_perm t2 es1 _) (relayAll_fits t2 es1 _) (relayAll_ok ok2 es1 _)⟩
    split
    · refine wpAny_bind ?_
      rw [hashByValue_scannable 8 hsc]
      refine wpAny_pure ?_
      have q := both t1 hfits hok
      refine tail_store ?_ ho hd hb1' ?_ ?_
      · intro b s₁ Q' hq
        cases b <;> first | exact wpAny_pure hq | exact wpAny_rule hq
      · dsimp only
        exact wpAny_pure q.1
      · dsimp only
        exact wpAny_pure q.2
    · refine wpAny_bind (wpAny_pure ?_)
      simp only [↓reduceIte]
      have q := both t1 hfits hok
      refine tail_store ?_ ho hd hb1' ?_ ?_
      · intro b s₁ Q' hq
        cases b <;> first | exact wpAny_pure hq | exact wpAny_rule hq
      · dsimp only
        exact wpAny_pure q.1
      · dsimp only
        exact wpAny_pure q.2
end
end Sw

namespace Sw
open PySem PyProof.Rows
set_option maxRecDepth 100000
abbrev ledOf (w : World) : Bool := !(w.params.followText "set-order")
section
variable {prog : Program} {w : World} {A : Around} {R : Result → Shared → Prop} {I : Addr} {fp wr : List Addr} {G : Array GenState → Array GenState → Prop} {n : Nat} {P : Nat → Value → Prop} {St : Nat → Shared → Prop}
theorem SetR.congr {h : Heap} {a : Addr} {S S' : Int → Bool} {n n' : Nat} {l : Bool} (x : SetR prog w h a S n l) (e : ∀ k, S k = S' k) (en : n = n') : SetR prog w h a S' n' l := by
  obtain rfl : S = S' := funext e
  subst en
  exact x
theorem loopR (W : WalksS prog w A.in1 I fp wr G n P St) (S : Addr) (hSf : S ∉ fp) (val : Nat → Int) (hval : ∀ i v, P i v → ∃ t, v = .int (val i) t) (hb : n + 1 < scanBound) (l : Bool) : ∀ (k i : Nat) (s : Shared), n - i = k → i ≤ n → St i s →
      SetR prog w s.heap S (fun k' => (firstMet val i).any (· == k')) (firstMet val i).length l →
      (∀ s', Moved (S :: wr) G s s' → SetR prog w s'.heap S (fun k' => (firstMet val n).any (· == k')) (firstMet val n).length l → R (.ok (.ret .none)) s') → codeAny (model prog w) A (.builtin "set.update.loop" ⟨[.ref S, .ref I], []⟩) R s := by
  have hSw : S ∉ wr := fun z => hSf (W.sub _ z)
  have more : ∀ b ∈ wr, b ∈ S :: wr := fun b z => List.mem_cons_of_mem _ z
  intro k
  induction k with
  | zero =>
    intro i s hk hi st hS fin
    obtain rfl : i = n := by omega
    refine codeAny_builtin F.entry_set_update_loop ?_; rw [Around.under_plainId F.plain_set_update_loop _]; show wpAny _ A.in1 (pyNext (.ref I) >>= _) _ _ s
    refine wpAny_bind (W.done s _ _ st fun s' hm => ?_)
    exact wpAny_pure (fin s' (hm.mono more) (hS.keeps fun o e => hm.heap S _ hSw e))
  | succ k ih =>
    intro i s hk hi st hS fin
    have lt : i < n := by omega
    refine codeAny_builtin F.entry_set_update_loop ?_; rw [Around.under_plainId F.plain_set_update_loop _]; show wpAny _ A.in1 (pyNext (.ref I) >>= _) _ _ s
    refine wpAny_bind (W.item i s _ _ lt st fun v s' hP st' hm => ?_)
    obtain ⟨t, rfl⟩ := hval i v hP
    have hS' := hS.keeps fun o e => hm.heap S _ hSw e
    show wpAny _ A.in1 (holding [Value.int (val i) t] (setAdd S (.int (val i) t)) >>= _) _ _ s'; refine wpAny_bind (wpAny_holding ?_); unfold setAdd
    refine wpAny_holding (wpAny_bind ((intKind prog w).pyHash (k := val i) (intKind_is _ _ _ _) ?_))
    have room : (firstMet val i).length + 1 < scanBound := by
      have := firstMet_length_le val i
      omega
    refine addR (s := { s' with toks := s'.toks + 1 }) hS' room fun h' hsb hS2 => ?_
    have hSi : SetR prog w h' S (fun k' => (firstMet val (i + 1)).any (· == k')) (firstMet val (i + 1)).length l := hS2.congr (fun k' => by rw [firstMet_succ, step_any]) (by rw [firstMet_succ, step_length])
    refine wpAny_pure ⟨plainId_quiet F.plain_set_update_loop _, ih (i + 1) _ (by omega) lt (W.frame _ s' _ _ st' (Nat.le_succ _) fun b z o e => ?_) hSi fun s2 hm2 hS3 => ?_⟩
    · exact (hsb.2 b fun y => hSf (y ▸ z)).trans e
    · refine fin s2 (Moved.trans W.gtrans ((hm.mono more).then_heap (Nat.le_succ _) fun b o z e => ?_) hm2) hS3
      exact (hsb.2 b fun y => z (y ▸ List.mem_cons_self)).trans e
end
section
variable {prog : Program} {w : World} {A : Around} {E : Value → Shared → Prop} {s : Shared}
theorem codeNew (a : Value) {Q₁ : Value → Shared → Prop} (fin : Q₁ (.ref s.heap.objs.size) { s with heap := s.heap.push { cls := .type "set", dict := none, data := .set #[] 0 (.fresh 0 0 (ledOf w)) } }) :
    codeAny (model prog w) A (.call (.builtin "set.__new__") ⟨[.type "set", a], []⟩) (wants Q₁ E) s := by
  refine codeAny_of_tree ?_
  show wpAny _ A.in1 (do checkBuiltinCall "set.__new__" ⟨[.type "set", a], []⟩; again (.builtin "set.__new__" ⟨[.type "set", a], []⟩)) _ _ s
  refine wpAny_bind (wpAny_of_eq (PySem.F.newCall_set_1 a) (wpAny_pure ⟨plainId_quiet PySem.F.plain_set_new _, codeAny_builtin PySem.F.entry_set_new ?_⟩)); rw [Around.under_plainId PySem.F.plain_set_new _]
  unfold Builtin.«set.__new__» Builtin.Frozenset.newClass
  have h1 := sub_set_self
  obtain ⟨hp, g, d, tk, os⟩ := s
  dsimp only; wp_walk; refine wpAny_askSetting (wpAny_pure ?_); dsimp only; simp only [newObj]
  refine wpAny_bind (wpAny_alloc (wpAny_pure ?_))
  exact wpAny_pure fin
theorem newR (prog : Program) (w : World) (h : Heap) (l : Bool) : SetR prog w (h.push { cls := .type "set", dict := none, data := .set #[] 0 (.fresh 0 0 l) }) h.objs.size (fun _ => false) 0 l :=
  ⟨_, #[], 0, _, Heap.get?_push_size _ rfl, ⟨rfl, rfl, rfl⟩, rfl, fun e he => by simp at he, fun k => by simp, by decide, by rfl, rfl, ⟨rfl, rfl, fun _ i k v u _ e => by simp [SetTable.fresh] at e⟩⟩
set_option maxHeartbeats 6400000 in
theorem callSet {p : Addr} {items : Array Value} {ns : List Int} {Q : Value → Shared → Prop} (hh : A.handled = none) (hl : s.heap.IsList p items) (hi : IntsAre items.toList ns) (hb : items.size + 1 < scanBound)
    (fin : ∀ (h' : Heap) (tk : Nat), SetR prog w h' s.heap.objs.size (fun k' => (firstMet (fun i => ns.getD i 0) items.size).any (· == k')) (firstMet (fun i => ns.getD i 0) items.size).length (ledOf w) →
      (∀ b o, b < s.heap.objs.size → s.heap.get? b = some o → h'.get? b = some o) → Q (.ref s.heap.objs.size) { s with heap := h', toks := tk }) : wpAny (model prog w) A (call (.type "set") [.ref p]) Q E s := by
  obtain ⟨c, tl, hmro⟩ := PySem.F.called_set.mro
  have f1 := PySem.F.called_set.made
  have f2 := PySem.F.called_set.sub
  refine wpAny_call (codeAny_of_tree ?_); show wpAny _ _ (callAny (.type "set") _) _ _ _
  refine wpAny_pure ⟨Code.quiet_builtin _ (by decide +kernel), codeAny_builtin PySem.F.entry_type_call ?_⟩; rw [Around.under_plain (weight_type_call_type "set" [.ref p] []) rfl]
  have f3 := PySem.F.called_set.notType
  have f4 := PySem.F.called_set.canCreate
  have f5 := PySem.F.typeCall_set_1 (.ref p)
  repeat (any_goals (first | assumption | wp_step))
  refine codeAny_mono (codeNew (.ref p) (E := E) (Q₁ := fun obj s₁ => obj = .ref s.heap.objs.size ∧ s₁ = { s with heap := s.heap.push { cls := .type "set", dict := none, data := .set #[] 0 (.fresh 0 0 (ledOf w)) } }) ⟨rfl, rfl⟩) fun r s₁ hr => ?_
  cases r with
  | error e => exact hr
  | ok fl =>
    cases fl with
    | ret obj =>
      obtain ⟨rfl, rfl⟩ := hr
      have gS : (s.heap.push { cls := .type "set", dict := none, data := .set #[] 0 (.fresh 0 0 (ledOf w)) }).get? s.heap.objs.size = some { cls := .type "set", dict := none, data := .set #[] 0 (.fresh 0 0 (ledOf w)) } := Heap.get?_push_size s.heap rfl
      have hT : Shared.TypeIs { s with heap := s.heap.push { cls := .type "set", dict := none, data := .set #[] 0 (.fresh 0 0 (ledOf w)) } } (.ref s.heap.objs.size) "set" := ⟨_, gS, rfl⟩
      have f6 := PySem.F.called_set.init.lookup
      have f7 := PySem.F.called_set.init.bind (.ref s.heap.objs.size)
      repeat (any_goals (first | assumption | wp_step))
      refine codeAny_mono (codeAny_call_builtin (R := wants (fun r s₂ => r = .none ∧ ∃ h' tk, s₂ = { s with heap := h', toks := tk } ∧ SetR prog w h' s.heap.objs.size (fun k' => (firstMet (fun i => ns.getD i 0) items.size).any (· == k')) (firstMet (fun i => ns.getD i 0) items.size).length (ledOf w) ∧
          (∀ b o, b < s.heap.objs.size → s.heap.get? b = some o → h'.get? b = some o)) E) PySem.F.called_set.init.plain PySem.F.entry_set_init (check_set_init_1 hT ?_)) fun r₂ s₂ hr₂ => ?_
      · obtain ⟨ol, hol, hcl, nl, hdl⟩ := hl
        obtain ⟨ocls, odict, odata, oslots⟩ := ol
        simp only at hcl hdl
        subst hcl hdl
        have hol' : (s.heap.push { cls := .type "set", dict := none, data := .set #[] 0 (.fresh 0 0 (ledOf w)) }).get? p = some { cls := .type "list", dict := odict, data := .seq items nl, slots := oslots } := Heap.get?_push_of_some _ hol
        have f8 := PySem.F.sub_list_set
        have f9 := PySem.F.sub_list_frozenset
        have f0 : (Value.type "list" == Value.type "dict") = false := by decide
        have hl1 : (s.heap.push { cls := .type "set", dict := none, data := .set #[] 0 (.fresh 0 0 (ledOf w)) }).IsList p items := ⟨_, hol', rfl, nl, rfl⟩
        unfold Builtin.«set.__init__» noKeywords Builtin.Frozenset.updateFrom; generalize hPI : pyIter = PI; wp_walk; subst hPI
        refine wpAny_pyIter_list hl1 (wpAny_bind (wpAny_runValue ?_))
        have lt0 : p < s.heap.objs.size := Heap.lt_size hol
        have h3 : A.in1.in1.in1.handled = none := by simp [hh]
        have ne1 : p ≠ (s.heap.push { cls := .type "set", dict := none, data := .set #[] 0 (.fresh 0 0 (ledOf w)) }).objs.size := by
          rw [Heap.size_push]
          exact Nat.ne_of_lt (Nat.lt_succ_of_lt lt0)
        have nf : s.heap.objs.size ∉ [(s.heap.push { cls := .type "set", dict := none, data := .set #[] 0 (.fresh 0 0 (ledOf w)) }).objs.size, p] := by
          rw [Heap.size_push]
          simp only [List.mem_cons, List.not_mem_nil, or_false, not_or]
          exact ⟨Nat.ne_of_lt (Nat.lt_succ_self _), Nat.ne_of_gt lt0⟩
        have vals : ∀ (i : Nat) (v : Value), items[i]? = some v → ∃ t, v = .int ((fun i => ns.getD i 0) i) t := fun i v hv => IntsAre.int_at hi i v (by rw [Array.getElem?_toList]; exact hv)
        refine loopR ((Walks.list h3 _ p ne1 items).toS) s.heap.objs.size nf (fun i => ns.getD i 0) vals hb (ledOf w) (items.size - 0) 0 _ (by omega) (Nat.zero_le _) ⟨⟨_, Heap.get?_push_size _ rfl, rfl, rfl⟩, (hl1.push _)⟩ ?hS0x ?hRx
        case hS0x => exact ((newR prog w s.heap (ledOf w)).keeps fun o e => Heap.get?_push_of_some _ e).congr (fun _ => rfl) rfl
        case hRx =>
          intro s' hm hS'
          obtain ⟨h', g', d', tk', os'⟩ := s'
          have eg : g' = s.gens := hm.gens
          have ed : d' = s.drawn := hm.drawn
          have eo : os' = s.os := hm.os
          subst eg ed eo
          show wpAny _ _ _ _ _ _
          refine wpAny_pure ?_
          show wpAny _ _ (ret Value.none) _ _ _
          refine wpAny_pure ⟨rfl, h', tk', rfl, hS', fun b o lt e => hm.heap b o ?_ (Heap.get?_push_of_some _ (Heap.get?_push_of_some _ e))⟩
          simp only [List.mem_cons, List.not_mem_nil, or_false, not_or]
          exact ⟨Nat.ne_of_lt lt, by rw [Heap.size_push]; exact Nat.ne_of_lt (Nat.lt_succ_of_lt lt)⟩
      · cases r₂ with
        | error e => exact hr₂
        | ok fl₂ =>
          cases fl₂ with
          | ret r =>
            obtain ⟨rfl, h', tk, rfl, hS', hk'⟩ := hr₂
            repeat (any_goals (first | assumption | wp_step))
            exact fin _ _ hS' hk'
          | _ => exact hr₂.elim
    | _ => exact hr.elim
end
end Sw

namespace Sw
open PySem
theorem erase_perm {α : Type} : ∀ (l : List α) (i : Nat) (x : α), l[i]? = some x → (x :: l.eraseIdx i).Perm l
  | [], i, x, h => by simp at h
  | y :: l, 0, x, h => by
    simp at h
    subst h
    exact List.Perm.refl _
  | y :: l, i + 1, x, h => by
    have h' : l[i]? = some x := by simpa using h
    show (x :: y :: l.eraseIdx i).Perm (y :: l)
    exact (List.Perm.swap y x _).trans ((erase_perm l i x h').cons y)
theorem pick_go {α : Type} (next : Nat → Nat) : ∀ (fuel k : Nat) (left : List α) (out : Array α), left.length = fuel → (pickOrder.go next fuel k left out).toList.Perm (out.toList ++ left)
  | 0, k, left, out, h => by
    have e : left = [] := List.eq_nil_of_length_eq_zero h
    subst e
    simp [pickOrder.go]
  | fuel + 1, k, left, out, h => by
    unfold pickOrder.go
    have hlt : next k % left.length < left.length := Nat.mod_lt _ (by omega)
    rw [List.getElem?_eq_getElem hlt]
    dsimp only
    refine (pick_go next fuel (k + 1) _ _ (by rw [List.length_eraseIdx_of_lt hlt]; omega)).trans ?_
    rw [Array.toList_push, List.append_assoc]
    exact List.Perm.append_left _ (erase_perm left _ _ (List.getElem?_eq_getElem hlt))
theorem pick_perm {α : Type} (next : Nat → Nat) (xs : Array α) : (pickOrder next xs).toList.Perm xs.toList := by
  unfold pickOrder
  refine (pick_go next xs.size 0 xs.toList #[] (by simp)).trans ?_
  simp
/-- a list without repeats that lies within another one as long is a reordering of it -/
theorem perm_cover : ∀ (fm ms : List Int), fm.Nodup → (∀ k ∈ fm, k ∈ ms) → ms.length = fm.length → fm.Perm ms
  | [], ms, _, _, h => by
    have e : ms = [] := List.eq_nil_of_length_eq_zero h
    subst e
    exact List.Perm.refl _
  | x :: fm, ms, hn, hc, h => by
    have hx : x ∈ ms := hc x List.mem_cons_self
    have hp := List.perm_cons_erase hx
    have hn' := List.nodup_cons.mp hn
    refine List.Perm.trans ?_ hp.symm
    refine (perm_cover fm (ms.erase x) hn'.2 (fun k hk => ?_) ?_).cons x
    · exact (List.mem_erase_of_ne (fun e : k = x => hn'.1 (by rw [← e]; exact hk))).mpr (hc k (List.mem_cons_of_mem _ hk))
    · rw [List.length_erase_of_mem hx, h]
      simp
theorem few_of : ∀ (n : Nat) (l : List Int), l.Pairwise (· < ·) → (∀ k ∈ l, 0 ≤ k ∧ k < (n : Int)) → l.length ≤ n
  | n, l, hl, hb => by
    have go : ∀ (l : List Int) (a : Int), l.Pairwise (· < ·) → (∀ k ∈ l, a ≤ k ∧ k < (n : Int)) → (l.length : Int) ≤ max 0 ((n : Int) - a) := by
      intro l
      induction l with
      | nil => intro a _ _; simp; omega
      | cons x l ih =>
        intro a hl hb
        have hl' := List.pairwise_cons.mp hl
        have hx := hb x List.mem_cons_self
        have q := ih (x + 1) hl'.2 fun k hk => ⟨by have := hl'.1 k hk; omega, (hb k (List.mem_cons_of_mem _ hk)).2⟩
        simp only [List.length_cons]
        omega
    have q := go l 0 hl hb
    omega
theorem sorted_lt {l : List Int} (h : l.Pairwise (· ≤ ·)) (n : l.Nodup) : l.Pairwise (· < ·) := by
  refine (h.and n).imp fun ⟨a, b⟩ => ?_
  omega
end Sw

namespace Sw
open PySem PyProof.Rows
theorem met_nodup (val : Nat → Int) : ∀ i, (firstMet val i).Nodup
  | 0 => by rw [firstMet_zero]; exact List.nodup_nil
  | i + 1 => by
    rw [firstMet_succ]
    unfold step_dedup
    split
    · exact met_nodup val i
    · rename_i h
      rw [List.nodup_append]
      refine ⟨met_nodup val i, by simp, fun a ha b hb e => ?_⟩
      simp at hb
      subst hb e
      exact h (List.any_eq_true.mpr ⟨_, ha, by simp⟩)
theorem range_getD (ns : List Int) : (List.range ns.length).map (fun i => ns.getD i 0) = ns := by
  apply List.ext_getElem?
  intro i
  rw [List.getElem?_map]
  by_cases h : i < ns.length
  · rw [List.getElem?_range h, List.getElem?_eq_getElem h]
    simp [h]
  · rw [List.getElem?_eq_none (by simp; omega), List.getElem?_eq_none (by omega)]
    rfl
theorem met_mem (ns : List Int) (k : Int) : k ∈ firstMet (fun i => ns.getD i 0) ns.length ↔ k ∈ ns := by
  have e := firstMet_any (fun i => ns.getD i 0) ns.length k
  rw [range_getD] at e
  have a : ∀ l : List Int, l.any (· == k) = true ↔ k ∈ l := fun l => by simp
  rw [← a, ← a, e]
theorem nodup_few : ∀ (n : Nat) (l : List Int), l.Nodup → (∀ k ∈ l, 0 ≤ k ∧ k < (n : Int)) → l.length ≤ n
  | 0, l, _, h => by
    cases l with
    | nil => exact Nat.le_refl _
    | cons x l =>
      have := h x List.mem_cons_self
      omega
  | n + 1, l, hn, h => by
    by_cases hm : (n : Int) ∈ l
    · have e := nodup_few n (l.erase (n : Int)) (hn.erase _) fun k hk => by
        have h1 := h k (List.mem_of_mem_erase hk)
        have h2 : k ≠ (n : Int) := fun z => by
          rw [z] at hk
          exact (List.Nodup.not_mem_erase hn) hk
        omega
      rw [List.length_erase_of_mem hm] at e
      omega
    · have e := nodup_few n l hn fun k hk => by
        have h1 := h k hk
        have h2 : k ≠ (n : Int) := fun z => hm (z ▸ hk)
        omega
      omega
end Sw

namespace Sw
open PySem PyProof.Rows
set_option maxRecDepth 100000
theorem slot_it_next : Slot "set_iterator" "__next__" "set_iterator.__next__" := .of (owner := "set_iterator") (n := "__next__") (by rw [typeLookup_type, builtinLookup_eq_fast]; kernel_rfl) (by decide +kernel) (by decide +kernel) (by decide +kernel) (by first | exact .inl (by decide +kernel) | exact .inr (by decide +kernel)) (by rw [isSubtype_type]; kernel_rfl)
theorem entry_it_next : entryFor table "set_iterator.__next__" = some Builtin.«set_iterator.__next__» := entryFor_of_fast (by kernel_rfl)
theorem args_it_next (a : Value) : argsOk "set_iterator.__next__" ⟨[a], []⟩ := by unfold argsOk; kernel_rfl
theorem slot_it_iter : Slot "set_iterator" "__iter__" "set_iterator.__iter__" := .of (owner := "set_iterator") (n := "__iter__") (by rw [typeLookup_type, builtinLookup_eq_fast]; kernel_rfl) (by decide +kernel) (by decide +kernel) (by decide +kernel) (by first | exact .inl (by decide +kernel) | exact .inr (by decide +kernel)) (by rw [isSubtype_type]; kernel_rfl)
theorem entry_it_iter : entryFor table "set_iterator.__iter__" = some Builtin.«dict_keyiterator.__iter__» := entryFor_alias (id' := "dict_keyiterator.__iter__") (by kernel_rfl) rfl (by decide +kernel) (by kernel_rfl)
theorem args_it_iter (a : Value) : argsOk "set_iterator.__iter__" ⟨[a], []⟩ := by unfold argsOk; kernel_rfl
theorem entry_set_iter : entryFor table "set.__iter__" = some Builtin.«frozenset.__iter__» := entryFor_alias (id' := "frozenset.__iter__") (by kernel_rfl) rfl (by decide +kernel) (by kernel_rfl)
theorem hasLen : typeLookup (.type "set") "__len__" = pure (some (.builtin "set.__len__")) := by rw [typeLookup_type, builtinLookup_eq_fast]; kernel_rfl
section
variable {M : Model} {A : Around} {E : Value → Shared → Prop}
theorem choose_ok {src : Source} {n : Nat} {s : Shared} {Q : Nat → Shared → Prop} (hn : n ≠ 0) (h : ∀ i, i < n → Q i { s with drawn := s.drawn.bump src }) : wpAny M A (choose src n) Q E s :=
  fun _ _ _ => ⟨hn, h _ (Nat.mod_lt _ (Nat.pos_of_ne_zero hn))⟩
theorem draw_ok {α : Type} : ∀ (n : Nat) (xs : List α) (s : Shared) (Q : List α → Shared → Prop), xs.length ≤ n → (∀ ys d, ys.Perm xs → Q ys { s with drawn := d }) → wpAny M A (drawOrder n xs) Q E s
  | 0, [], s, Q, h, hQ => by
    unfold drawOrder
    exact wpAny_pure (hQ [] s.drawn (List.Perm.refl _))
  | 0, x :: xs, s, Q, h, hQ => by simp at h
  | n + 1, [], s, Q, h, hQ => by
    unfold drawOrder
    exact wpAny_pure (hQ [] s.drawn (List.Perm.refl _))
  | n + 1, x :: xs, s, Q, h, hQ => by
    unfold drawOrder
    refine wpAny_bind (choose_ok (by simp) fun i hi => ?_)
    have e : (x :: xs)[i]? = some (x :: xs)[i] := List.getElem?_eq_getElem hi
    rw [e]
    refine wpAny_bind (draw_ok n ((x :: xs).eraseIdx i) _ _ (by rw [List.length_eraseIdx_of_lt hi]; simp only [List.length_cons] at h ⊢; omega) fun ys d hp => wpAny_pure ?_)
    exact hQ _ d ((hp.cons _).trans (erase_perm _ i _ e))
end
def SAt (h : Heap) (a : Addr) (es : Array (Int × Value)) (ep : Nat) (t : SetTable) : Prop := ∃ o, h.get? a = some o ∧ o.cls = .type "set" ∧ o.data = .set es ep t
def ItAt (h : Heap) (I a : Addr) (first : Value) (i n ep : Nat) : Prop := ∃ o, h.get? I = some o ∧ o.cls = .type "set_iterator" ∧ o.data = .fields #[first, .int i 0, .ref a, .int n 0, .int ep 0]
/-- the three ways in which a set is walked, and what stands in the iterator ahead of turn i -/
inductive Md (w : World) (a q : Addr) (es : Array (Int × Value)) (ep : Nat) (t : SetTable) (its : List Value) (i : Nat) (h : Heap) : Value → Prop where
  | txt (b : w.params.followText "set-order" = true) (e : its = (pickOrder (w.params.setOrder a ep) es).toList.map (·.2)) : Md w a q es ep t its i h (.int 0 0)
  | tab (j : Nat) (b : w.params.followText "set-order" = false) (l : t.led = true) (d : (!t.plain && decide (es.size > 1)) = false) (r : Rise t.place) (z : t.place.size = es.size) (p : SetTable.below t.place j = i) (e : its = es.toList.map (·.2)) : Md w a q es ep t its i h (.int (j : Nat) 0)
  | drw (ps : List Nat) (ho : ∃ o, h.get? q = some o ∧ o.data = .seq (ps.map fun (p : Nat) => rawInt p).toArray 0) (hp : ∀ p ∈ ps, p < es.size) (e : its = ps.map fun p => (es.getD p (0, .none)).2) : Md w a q es ep t its i h (.ref q)
section
variable {prog : Program} {w : World} {A : Around} {E : Value → Shared → Prop} {s : Shared} {I a q : Addr} {es : Array (Int × Value)} {ep : Nat} {t : SetTable} {its : List Value} {i : Nat}
theorem It_type {h : Heap} {first : Value} {n : Nat} {s : Shared} (e : s.heap = h) (x : ItAt h I a first i n ep) : s.TypeIs (.ref I) "set_iterator" := by
  subst e
  obtain ⟨o, ho, hc, _⟩ := x
  exact ⟨o, ho, hc⟩
theorem It_set {h : Heap} {first f' : Value} {n : Nat} (x : ItAt h I a first i n ep) : ItAt ((h.update I (Obj.mapFields (·.setIfInBounds 0 f'))).update I (Obj.mapFields (·.setIfInBounds 1 (rawInt ((i : Int) + 1))))) I a f' (i + 1) n ep := by
  obtain ⟨o, ho, hc, hd⟩ := x
  have h1 := Heap.get?_update_self (Obj.mapFields (·.setIfInBounds 0 f')) ho (Obj.isFreed_of_fields (Obj.data_mapFields hd _))
  have d1 := Obj.data_mapFields hd (·.setIfInBounds 0 f')
  refine ⟨_, Heap.get?_update_self _ h1 (Obj.isFreed_of_fields (Obj.data_mapFields d1 _)), ((Obj.cls_mapFields ..).trans (Obj.cls_mapFields ..)).trans hc, ?_⟩
  rw [Obj.data_mapFields d1]
  simp [rawInt]
theorem It_set1 {h : Heap} {first : Value} {n : Nat} (x : ItAt h I a first i n ep) : ItAt (h.update I (Obj.mapFields (·.setIfInBounds 1 (rawInt ((i : Int) + 1))))) I a first (i + 1) n ep := by
  obtain ⟨o, ho, hc, hd⟩ := x
  refine ⟨_, Heap.get?_update_self _ ho (Obj.isFreed_of_fields (Obj.data_mapFields hd _)), (Obj.cls_mapFields ..).trans hc, ?_⟩
  rw [Obj.data_mapFields hd]
  simp [rawInt]
/-- what the next element is, where there is one -/
theorem next_int {slot : Nat} {v : Value} {Q : Option (Value × Nat) → Shared → Prop} (hs : SAt s.heap a es ep t) (hf : t.fits es.size = true) (m : Md w a q es ep t its i s.heap (.int (slot : Nat) 0)) (hx : its[i]? = some v)
    (h : ∀ slot' : Nat, (∀ h', Md w a q es ep t its (i + 1) h' (.int (slot' : Nat) 0)) → Q (some (v, slot')) s) : wpAny (model prog w) A (setNext a slot i ep) Q E s := by
  obtain ⟨o, ho, hc, hd⟩ := hs
  unfold setNext
  refine wpAny_bind (wpAny_setState_of ho hd hf ?_)
  unfold setsByText
  refine wpAny_bind (wpAny_bind (wpAny_askSetting (wpAny_pure ?_)))
  generalize hv : Value.int (slot : Nat) 0 = sv at m
  cases m with
  | txt b e =>
    have b' : (model prog w).w.params.followText "set-order" = true := b
    have es0 : slot = 0 := by
      injection hv with h1
      omega
    subst es0
    dsimp only
    rw [show (⟨(model prog w).prog, (model prog w).w.params⟩ : Setting).params.followText "set-order" = true from b, if_pos rfl]
    simp only [bne_self_eq_false, Bool.false_eq_true, if_false]
    unfold setWalk
    refine wpAny_bind (wpAny_bind (wpAny_setState_of ho hd hf ?_))
    unfold setsByText
    refine wpAny_bind (wpAny_bind (wpAny_askSetting (wpAny_pure ?_)))
    dsimp only
    rw [show (⟨(model prog w).prog, (model prog w).w.params⟩ : Setting).params.followText "set-order" = true from b, if_pos rfl]
    refine wpAny_bind (wpAny_askSetting (wpAny_pure (wpAny_pure ?_)))
    have hx' : ((pickOrder (w.params.setOrder a ep) es)[i]?).map (fun e => (e.2, 0)) = some (v, 0) := by
      rw [e, List.getElem?_map, Array.getElem?_toList] at hx
      cases hg : (pickOrder (w.params.setOrder a ep) es)[i]? with
      | none => rw [hg] at hx; cases hx
      | some z =>
        rw [hg] at hx
        cases hx
        rfl
    show Q (((pickOrder (w.params.setOrder a ep) es)[i]?).map (fun e => (e.2, 0))) s
    rw [hx']
    exact h 0 fun h' => .txt b e
  | tab j b l d r z p e =>
    have ej : slot = j := by
      injection hv with h1
      omega
    subst ej
    dsimp only
    rw [show (⟨(model prog w).prog, (model prog w).w.params⟩ : Setting).params.followText "set-order" = false from b, if_neg (by decide)]
    show wpAny _ _ (if (!t.plain && decide (es.size > 1)) = true then _ else _) _ _ s
    rw [d, if_neg (by decide)]
    show wpAny _ _ ((if (!t.led && !es.isEmpty) = true then _ else _) >>= _) _ _ s
    rw [l, if_neg (by simp)]
    refine wpAny_bind (wpAny_pure (wpAny_pure ?_))
    rw [p]
    rw [e, List.getElem?_map, Array.getElem?_toList] at hx
    have hi : i < es.size := by
      rcases Nat.lt_or_ge i es.size with h1 | h1
      · exact h1
      · rw [Array.getElem?_eq_none h1] at hx
        cases hx
    have hi2 : i < t.place.size := by omega
    rw [Array.getElem?_eq_getElem hi] at hx
    cases hx
    rw [Array.getElem?_eq_getElem hi, Array.getElem?_eq_getElem hi2]
    exact h (t.place[i] + 1) fun h' => .tab _ b l d r z (below_next r (Array.getElem?_eq_getElem hi2)) e
  | drw ps ho' hp e => cases hv
theorem next_end {slot : Nat} {Q : Option (Value × Nat) → Shared → Prop} (hs : SAt s.heap a es ep t) (hf : t.fits es.size = true) (m : Md w a q es ep t its i s.heap (.int (slot : Nat) 0)) (hx : its[i]? = none)
    (h : Q none s) : wpAny (model prog w) A (setNext a slot i ep) Q E s := by
  obtain ⟨o, ho, hc, hd⟩ := hs
  unfold setNext
  refine wpAny_bind (wpAny_setState_of ho hd hf ?_)
  unfold setsByText
  refine wpAny_bind (wpAny_bind (wpAny_askSetting (wpAny_pure ?_)))
  generalize hv : Value.int (slot : Nat) 0 = sv at m
  cases m with
  | txt b e =>
    dsimp only
    rw [show (⟨(model prog w).prog, (model prog w).w.params⟩ : Setting).params.followText "set-order" = true from b, if_pos rfl]
    simp only [bne_self_eq_false, Bool.false_eq_true, if_false]
    unfold setWalk
    refine wpAny_bind (wpAny_bind (wpAny_setState_of ho hd hf ?_))
    unfold setsByText
    refine wpAny_bind (wpAny_bind (wpAny_askSetting (wpAny_pure ?_)))
    dsimp only
    rw [show (⟨(model prog w).prog, (model prog w).w.params⟩ : Setting).params.followText "set-order" = true from b, if_pos rfl]
    refine wpAny_bind (wpAny_askSetting (wpAny_pure (wpAny_pure ?_)))
    have hx' : (pickOrder (w.params.setOrder a ep) es)[i]? = none := by
      rw [e, List.getElem?_map, Array.getElem?_toList] at hx
      cases hg : (pickOrder (w.params.setOrder a ep) es)[i]? with
      | none => rfl
      | some z => rw [hg] at hx; cases hx
    show Q (((pickOrder (w.params.setOrder a ep) es)[i]?).map (fun e => (e.2, slot))) s
    rw [hx']
    exact h
  | tab j b l d r z p e =>
    have ej : slot = j := by
      injection hv with h1
      omega
    subst ej
    dsimp only
    rw [show (⟨(model prog w).prog, (model prog w).w.params⟩ : Setting).params.followText "set-order" = false from b, if_neg (by decide)]
    show wpAny _ _ (if (!t.plain && decide (es.size > 1)) = true then _ else _) _ _ s
    rw [d, if_neg (by decide)]
    show wpAny _ _ ((if (!t.led && !es.isEmpty) = true then _ else _) >>= _) _ _ s
    rw [l, if_neg (by simp)]
    refine wpAny_bind (wpAny_pure (wpAny_pure ?_))
    rw [p]
    have hi : es.size ≤ i := by
      rw [e, List.getElem?_map, Array.getElem?_toList] at hx
      rcases Nat.lt_or_ge i es.size with h1 | h1
      · rw [Array.getElem?_eq_getElem h1] at hx
        cases hx
      · exact h1
    rw [Array.getElem?_eq_none hi]
    exact h
  | drw ps ho' hp e => cases hv
end
end Sw

namespace Sw
open PySem PyProof.Rows
set_option maxRecDepth 100000
section
variable {prog : Program} {w : World} {A : Around} {E : Value → Shared → Prop} {s : Shared} {I a q : Addr} {es : Array (Int × Value)} {ep : Nat} {t : SetTable} {its : List Value} {i : Nat}
theorem Md.keeps {h h' : Heap} {f : Value} (m : Md w a q es ep t its i h f) (k : ∀ o, h.get? q = some o → h'.get? q = some o) : Md w a q es ep t its i h' f := by
  cases m with
  | txt b e => exact .txt b e
  | tab j b l d r z p e => exact .tab j b l d r z p e
  | drw ps ho hp e =>
    obtain ⟨o, h1, h2⟩ := ho
    exact .drw ps ⟨o, k o h1, h2⟩ hp e
theorem Md.kind {h : Heap} {f : Value} (m : Md w a q es ep t its i h f) : (∃ j : Nat, f = .int (j : Nat) 0) ∨ (f = .ref q ∧ ∃ ps : List Nat, (∃ o, h.get? q = some o ∧ o.data = .seq (ps.map fun (p : Nat) => rawInt p).toArray 0) ∧ (∀ p ∈ ps, p < es.size) ∧ its = ps.map fun p => (es.getD p (0, .none)).2) := by
  cases m with
  | txt b e => exact .inl ⟨0, rfl⟩
  | tab j b l d r z p e => exact .inl ⟨j, rfl⟩
  | drw ps ho hp e => exact .inr ⟨rfl, ps, ho, hp, e⟩
theorem body_item {first v : Value} {Q : Value → Shared → Prop} (hit : ItAt s.heap I a first i es.size ep) (hs : SAt s.heap a es ep t) (hf : t.fits es.size = true) (m : Md w a q es ep t its i s.heap first) (hx : its[i]? = some v) (hq : q ≠ I)
    (h : ∀ h' f', ItAt h' I a f' (i + 1) es.size ep → Md w a q es ep t its (i + 1) h' f' → (∀ b o, b ≠ I → s.heap.get? b = some o → h'.get? b = some o) → Q v { s with heap := h' }) :
    wpAny (model prog w) A (Builtin.«set_iterator.__next__» ⟨[.ref I], []⟩) (fun fin s' => ∃ r, fin = .done (.ret r) ∧ Q r s') E s := by
  obtain ⟨o, ho, hc, hd⟩ := id hit
  obtain ⟨oa, hoa, hca, hda⟩ := id hs
  show wpAny _ _ (fieldsOf (.ref I) >>= _) _ _ s
  refine wpAny_bind (wpAny_fieldsOf ho hd ?_)
  show wpAny _ _ (setEntries a >>= _) _ _ s
  refine wpAny_bind (wpAny_setEntries_of hoa hda hf ?_)
  rw [if_neg (by simp)]
  rcases m.kind with ⟨j, rfl⟩ | ⟨rfl, ps, ⟨oq, hoq, hdq⟩, hp, e⟩
  · show wpAny _ _ (setNext a ((j : Nat) : Int).toNat ((i : Nat) : Int).toNat ((ep : Nat) : Int).toNat >>= _) _ _ s
    simp only [Int.toNat_natCast]
    refine wpAny_bind (next_int hs hf m hx fun slot' m' => ?_)
    show wpAny _ _ (setField (.ref I) 0 (rawInt (slot' : Nat)) >>= _) _ _ s
    refine wpAny_bind (wpAny_setField ho hd (by simp) ?_)
    have h1 := Heap.get?_update_self (Obj.mapFields (·.setIfInBounds 0 (rawInt (slot' : Nat)))) ho (Obj.isFreed_of_fields (Obj.data_mapFields hd _))
    have d1 := Obj.data_mapFields hd (·.setIfInBounds 0 (rawInt (slot' : Nat)))
    refine wpAny_bind (wpAny_setField h1 d1 (by simp) (wpAny_pure ⟨_, rfl, h _ _ (It_set hit) (m' _) fun b ob hb eb => ?_⟩))
    exact (Heap.get?_update_other _ _ (Ne.symm hb)).trans ((Heap.get?_update_other _ _ (Ne.symm hb)).trans eb)
  · show wpAny _ _ (seqItems? (.ref q) >>= _) _ _ s
    refine wpAny_bind (wpAny_seqItems hoq hdq ?_)
    simp only [Int.toNat_natCast]
    rw [e, List.getElem?_map] at hx
    cases hg : ps[i]? with
    | none => rw [hg] at hx; cases hx
    | some p =>
      rw [hg] at hx
      cases hx
      have hlt : p < es.size := hp p (List.mem_of_getElem? hg)
      have eg : (ps.map fun (p : Nat) => rawInt p).toArray[i]? = some (rawInt p) := by
        simp [hg]
      rw [eg]
      show wpAny _ _ (setNextDrawn a ((p : Nat) : Int).toNat ((ep : Nat) : Int).toNat >>= _) _ _ s
      simp only [Int.toNat_natCast]
      unfold setNextDrawn
      refine wpAny_bind (wpAny_bind (wpAny_setState_of hoa hda hf ?_))
      dsimp only
      rw [if_neg (by simp), Array.getElem?_eq_getElem hlt]
      refine wpAny_pure ?_
      refine wpAny_bind (wpAny_setField ho hd (by simp) (wpAny_pure ⟨_, rfl, ?_⟩))
      have ev : (es.getD p (0, .none)).2 = es[p].2 := by simp [Array.getD, hlt]
      have qq := h _ _ (It_set1 hit) (.drw ps ⟨oq, (Heap.get?_update_other _ _ (Ne.symm hq)).trans hoq, hdq⟩ hp e) fun b ob hb eb => (Heap.get?_update_other _ _ (Ne.symm hb)).trans eb
      dsimp only at qq
      rw [ev] at qq
      exact qq
theorem body_end {first : Value} {Q : Value → Shared → Prop} {E' : Value → Shared → Prop} (hh : A.handled = none) (hit : ItAt s.heap I a first i es.size ep) (hs : SAt s.heap a es ep t) (hf : t.fits es.size = true) (m : Md w a q es ep t its i s.heap first) (hx : its[i]? = none)
    (h : ∀ h' e, (∀ b o, b ≠ I → s.heap.get? b = some o → h'.get? b = some o) → (∃ o, h'.get? e = some o ∧ o.cls = .type "StopIteration") → E' (.ref e) { s with heap := h' }) :
    wpAny (model prog w) A (Builtin.«set_iterator.__next__» ⟨[.ref I], []⟩) (fun fin s' => ∃ r, fin = .done (.ret r) ∧ Q r s') E' s := by
  obtain ⟨o, ho, hc, hd⟩ := id hit
  obtain ⟨oa, hoa, hca, hda⟩ := id hs
  have stop : ∀ hp : Heap, (∀ b o, b ≠ I → s.heap.get? b = some o → hp.get? b = some o) → wpAny (model prog w) A (newExc (.type "StopIteration") [] >>= fun e => (raiseNew e : Sem Fin)) (fun fin s' => ∃ r, fin = .done (.ret r) ∧ Q r s') E' { s with heap := hp } := fun hp hk => by
    refine wpAny_bind ?_
    simp only [newExc, newTuple]
    refine wpAny_bind (wpAny_newObj_type ?_ (by size_fits))
    refine wpAny_bind (m := firstArgMember _ _) (wpAny_of_eq (a := Value.none) (by first | rfl | (simp only [firstArgMember]; rfl)) ?_)
    refine wpAny_newObj_type ?_ (by size_fits)
    simp only [raiseNew]
    refine wpAny_bind (wpAny_handled ?_)
    rw [hh]
    refine wpAny_bind (wpAny_pure (wpAny_throw ?_))
    exact h _ _ (fun b ob hb eb => Heap.get?_push_of_some _ (Heap.get?_push_of_some _ (hk b ob hb eb))) ⟨_, Heap.get?_push_size _ rfl, rfl⟩
  show wpAny _ _ (fieldsOf (.ref I) >>= _) _ _ s
  refine wpAny_bind (wpAny_fieldsOf ho hd ?_)
  show wpAny _ _ (setEntries a >>= _) _ _ s
  refine wpAny_bind (wpAny_setEntries_of hoa hda hf ?_)
  rw [if_neg (by simp)]
  rcases m.kind with ⟨j, rfl⟩ | ⟨rfl, ps, ⟨oq, hoq, hdq⟩, hp, e⟩
  · show wpAny _ _ (setNext a ((j : Nat) : Int).toNat ((i : Nat) : Int).toNat ((ep : Nat) : Int).toNat >>= _) _ _ s
    simp only [Int.toNat_natCast]
    refine wpAny_bind (next_end hs hf m hx ?_)
    show wpAny _ _ (setField (.ref I) 2 .none >>= _) _ _ s
    refine wpAny_bind (wpAny_setField ho hd (by simp) ?_)
    exact stop _ fun b ob hb eb => (Heap.get?_update_other _ _ (Ne.symm hb)).trans eb
  · show wpAny _ _ (seqItems? (.ref q) >>= _) _ _ s
    refine wpAny_bind (wpAny_seqItems hoq hdq ?_)
    simp only [Int.toNat_natCast]
    have eg : (ps.map fun (p : Nat) => rawInt p).toArray[i]? = none := by
      rw [e, List.getElem?_map] at hx
      cases hg : ps[i]? with
      | none => simp [hg]
      | some p => rw [hg] at hx; cases hx
    rw [eg]
    show wpAny _ _ (setField (.ref I) 0 (rawInt 0) >>= _) _ _ s
    refine wpAny_bind (wpAny_setField ho hd (by simp) ?_)
    have h1 := Heap.get?_update_self (Obj.mapFields (·.setIfInBounds 0 (rawInt 0))) ho (Obj.isFreed_of_fields (Obj.data_mapFields hd _))
    have d1 := Obj.data_mapFields hd (·.setIfInBounds 0 (rawInt 0))
    refine wpAny_bind (wpAny_setField h1 d1 (by simp) ?_)
    exact stop _ fun b ob hb eb => (Heap.get?_update_other _ _ (Ne.symm hb)).trans ((Heap.get?_update_other _ _ (Ne.symm hb)).trans eb)
theorem walkSet (hh : A.handled = none) (ha : a ≠ I) (hq : q ≠ I) (hf : t.fits es.size = true) :
    Walks prog w A I [I, a, q] [I] its.length (fun i v => its[i]? = some v) (fun i h => ∃ f, ItAt h I a f i es.size ep ∧ SAt h a es ep t ∧ Md w a q es ep t its i h f) where
  sub := fun b hb => by simp at hb; simp [hb]
  frame := fun i h h' st hk => by
    obtain ⟨f, ⟨o, ho, hr⟩, ⟨oa, hoa, hra⟩, m⟩ := st
    exact ⟨f, ⟨o, hk I (by simp) o ho, hr⟩, ⟨oa, hk a (by simp) oa hoa, hra⟩, m.keeps fun o e => hk q (by simp) o e⟩
  item := fun i s Q E hi st hQ => by
    obtain ⟨f, hit, hs, m⟩ := st
    have hx : its[i]? = some its[i] := List.getElem?_eq_getElem hi
    have ty : s.TypeIs (.ref I) "set_iterator" := It_type rfl hit
    unfold pyNext
    refine wpAny_bind (wpAny_attempt (wpAny_callSpecial?_slot (name := Str.ofString "__next__") ty slot_it_next (wpAny_call_entry slot_it_next ty entry_it_next ?_ (args_it_next _))))
    refine body_item hit hs hf m hx hq fun h' f' hit' m' hk => ?_
    refine wpAny_pure (hQ _ h' s.toks hx ⟨f', hit', ?_, m'⟩ fun b o hb e => hk b o (fun z => hb (by simp [z])) e)
    obtain ⟨oa, hoa, hra⟩ := hs
    exact ⟨oa, hk a oa ha hoa, hra⟩
  done := fun s Q E st hQ => by
    obtain ⟨f, hit, hs, m⟩ := st
    have hx : its[its.length]? = none := by simp
    have ty : s.TypeIs (.ref I) "set_iterator" := It_type rfl hit
    unfold pyNext
    refine wpAny_bind (wpAny_attempt (wpAny_callSpecial?_slot (name := Str.ofString "__next__") ty slot_it_next (wpAny_call_entry slot_it_next ty entry_it_next ?_ (args_it_next _))))
    refine body_end (by first | exact hh | (show A.in1.handled = none; exact hh)) hit hs hf m hx fun h' e hk hst => ?_
    obtain ⟨oe, hoe, hce⟩ := hst
    refine wpAny_bind (wpAny_isInstance (T := "StopIteration") (b := true) ⟨oe, hoe, hce⟩ isSubtype_stop ?_)
    exact wpAny_pure (hQ h' s.toks fun b o hb e => hk b o (fun z => hb (by simp [z])) e)
  self := fun i s Q E st hQ => by
    obtain ⟨f, hit, hs, m⟩ := st
    have ty : s.TypeIs (.ref I) "set_iterator" := It_type rfl hit
    refine wpAny_pyIter_slot ty slot_it_iter (wpAny_call_entry slot_it_iter ty entry_it_iter ?_ (args_it_iter _))
    show wpAny _ _ (ret (.ref I)) _ _ s
    exact wpAny_pure ⟨_, rfl, "set_iterator", _, ty, slot_it_next.lookup, hQ⟩
end
end Sw

namespace Sw
open PySem PyProof.Rows
set_option maxRecDepth 100000
theorem rise_few {xs : Array Nat} (h : xs.size ≤ 1) : Rise xs := fun i k v u hik hv hu => by
  have h1 := (Array.getElem?_eq_some_iff.mp hu).1
  omega
theorem getD_map (es : Array (Int × Value)) : (List.range es.size).map (fun p => (es.getD p (0, .none)).2) = es.toList.map (·.2) := by
  apply List.ext_getElem?
  intro i
  rw [List.getElem?_map, List.getElem?_map]
  by_cases h : i < es.size
  · rw [List.getElem?_range h]
    simp [Array.getD, h]
  · rw [List.getElem?_eq_none (by simp; omega), List.getElem?_eq_none (by simp; omega)]
    rfl
theorem ints_of : ∀ (vs : List Value), (∀ v ∈ vs, ∃ k t, v = .int k t) → ∃ ms, IntsAre vs ms ∧ (∀ k, k ∈ ms ↔ ∃ t, Value.int k t ∈ vs) ∧ ms.length = vs.length
  | [], _ => ⟨[], .nil, fun k => by simp, rfl⟩
  | v :: vs, h => by
    obtain ⟨k, t, rfl⟩ := h v List.mem_cons_self
    obtain ⟨ms, h1, h2, h3⟩ := ints_of vs fun u hu => h u (List.mem_cons_of_mem _ hu)
    refine ⟨k :: ms, .cons k t h1, fun k' => ?_, by simp [h3]⟩
    rw [List.mem_cons, h2]
    constructor
    · rintro (rfl | ⟨t', ht⟩)
      · exact ⟨t, List.mem_cons_self⟩
      · exact ⟨t', List.mem_cons_of_mem _ ht⟩
    · rintro ⟨t', ht⟩
      rcases List.mem_cons.mp ht with e | e
      · injection e with e1
        exact .inl e1
      · exact .inr ⟨t', e⟩
section
variable {prog : Program} {w : World} {A : Around} {E : Value → Shared → Prop} {s : Shared} {a : Addr}
theorem iterSet {es : Array (Int × Value)} {ep : Nat} {t : SetTable} {Q : Value → Shared → Prop} (hs : SAt s.heap a es ep t) (hf : t.fits es.size = true) (ok : TabOk (ledOf w) t) (hz : es.size ≤ 1000)
    (h : ∀ (I q : Addr) (its : List Value) (h' : Heap) (d : Drawn), a ≠ I → q ≠ I → s.heap.objs.size ≤ I → (q = a ∨ s.heap.objs.size ≤ q) → a < h'.objs.size → q < h'.objs.size → I < h'.objs.size → its.Perm (es.toList.map (·.2)) → (∀ b o, s.heap.get? b = some o → h'.get? b = some o) →
      (∃ f, ItAt h' I a f 0 es.size ep ∧ SAt h' a es ep t ∧ Md w a q es ep t its 0 h' f) → Q (.ref I) { s with heap := h', drawn := d }) : wpAny (model prog w) A (pyIter (.ref a)) Q E s := by
  obtain ⟨o, ho, hc, hd⟩ := id hs
  have ty : s.TypeIs (.ref a) "set" := ⟨o, ho, hc⟩
  have la : a < s.heap.objs.size := Heap.lt_size ho
  have hsz : t.place.size = es.size := by
    unfold SetTable.fits at hf
    simp at hf
    exact hf.1
  refine wpAny_pyIter_slot ty F.slot_set_iter (wpAny_call_entry F.slot_set_iter ty entry_set_iter ?_ (F.args_set_iter_1 _))
  show wpAny _ _ (Builtin.Frozenset.sizeOf a >>= _) _ _ s
  unfold Builtin.Frozenset.sizeOf
  refine wpAny_bind (wpAny_bind (wpAny_setEntries_of ho hd hf (wpAny_pure ?_)))
  unfold setDrawn setsByText
  refine wpAny_bind (wpAny_bind (wpAny_setState_of ho hd hf (wpAny_bind (wpAny_bind (wpAny_askSetting (wpAny_pure (wpAny_pure ?_)))))))
  have fin : ∀ (first : Value) (q : Addr) (its : List Value) (h1 : Heap) (d : Drawn), s.heap.objs.size ≤ h1.objs.size → (q = a ∨ s.heap.objs.size ≤ q) → q < h1.objs.size → its.Perm (es.toList.map (·.2)) → (∀ b o, s.heap.get? b = some o → h1.get? b = some o) → (∀ h', (∀ o, h1.get? q = some o → h'.get? q = some o) → Md w a q es ep t its 0 h' first) →
      wpAny (model prog w) A.in1 (setEpoch a >>= fun e => newFields "set_iterator" [first, rawInt 0, .ref a, rawInt es.size, rawInt e] >>= fun v => (ret v : Sem Fin)) (fun fin s' => ∃ r, fin = .done (.ret r) ∧ ∃ T' r', s'.TypeIs r T' ∧ typeLookup (.type T') "__next__" = pure (some r') ∧ Q r s') E { s with heap := h1, drawn := d } := fun first q its h1 d hz1 hq1 lq hp hk hm => by
    have ho1 := hk _ _ ho
    unfold setEpoch
    refine wpAny_bind (wpAny_bind (wpAny_setState_of (s := { s with heap := h1, drawn := d }) ho1 hd hf (wpAny_pure ?_)))
    refine wpAny_bind (wpAny_newObj_type ?_)
    have g1 : (h1.push { cls := .type "set_iterator", data := .fields [first, rawInt 0, .ref a, rawInt es.size, rawInt ep].toArray }).get? h1.objs.size = some { cls := .type "set_iterator", data := .fields [first, rawInt 0, .ref a, rawInt es.size, rawInt ep].toArray } := Heap.get?_push_size _ rfl
    have l1 : a < h1.objs.size := Heap.lt_size ho1
    refine wpAny_pure ⟨_, rfl, "set_iterator", _, ⟨_, g1, rfl⟩, slot_it_next.lookup, h h1.objs.size q its _ d (Nat.ne_of_lt l1) (Nat.ne_of_lt lq) hz1 hq1 ?_ ?_ ?_ hp (fun b ob e => Heap.get?_push_of_some _ (hk b ob e)) ⟨first, ⟨_, g1, rfl, rfl⟩, ⟨o, Heap.get?_push_of_some _ ho1, hc, hd⟩, hm _ fun ob e => Heap.get?_push_of_some _ e⟩⟩
    · rw [Heap.size_push]; exact Nat.lt_succ_of_lt l1
    · rw [Heap.size_push]; exact Nat.lt_succ_of_lt lq
    · rw [Heap.size_push]; exact Nat.lt_succ_self _
  have dm : ∀ b : Bool, w.params.followText "set-order" = b → (model prog w).w.params.followText "set-order" = b := fun b e => e
  show wpAny _ _ (if (!((model prog w).w.params.followText "set-order") && (!t.plain && decide (es.size > 1))) = true then _ else _) _ _ s
  cases hb : w.params.followText "set-order" with
  | true =>
    rw [dm _ hb]
    simp only [Bool.not_true, Bool.false_and, Bool.false_eq_true, if_false]
    refine wpAny_bind (wpAny_pure ?_)
    exact fin (rawInt 0) a _ s.heap s.drawn (Nat.le_refl _) (.inl rfl) la ((pick_perm _ es).map (·.2)) (fun _ _ e => e) fun h' _ => .txt hb rfl
  | false =>
    rw [dm _ hb]
    simp only [Bool.not_false, Bool.true_and]
    cases hdr : (!t.plain && decide (es.size > 1)) with
    | false =>
      simp only [Bool.false_eq_true, if_false]
      refine wpAny_bind (wpAny_pure ?_)
      have rr : Rise t.place := by
        cases hp : t.plain with
        | true => exact ok.up hp
        | false =>
          rw [hp] at hdr
          have : ¬ es.size > 1 := by simpa using hdr
          exact rise_few (by omega)
      exact fin (rawInt 0) a _ s.heap s.drawn (Nat.le_refl _) (.inl rfl) la (List.Perm.refl _) (fun _ _ e => e) fun h' _ => .tab 0 hb (by rw [ok.led]; show (!(w.params.followText "set-order")) = true; rw [hb]; rfl) hdr rr hsz (below_zero rr) rfl
    | true =>
      simp only [if_true]
      refine wpAny_bind (draw_ok es.size (List.range es.size) s _ (by simp) fun ps d hp => ?_)
      have lps : ps.length = es.size := by rw [hp.length_eq]; simp
      refine wpAny_bind (wpAny_newTuple ?_ (by rw [List.length_map, lps, sizeLine_eq]; omega))
      refine fin (.ref s.heap.objs.size) s.heap.objs.size (ps.map fun p => (es.getD p (0, .none)).2) _ d ?_ (.inr (Nat.le_refl _)) ?_ ?_ (fun b ob e => Heap.get?_push_of_some _ e) fun h' hk => .drw ps ⟨_, hk _ (Heap.get?_push_size _ rfl), rfl⟩ (fun p hp' => by simpa using hp.mem_iff.mp hp') rfl
      · show _ ≤ (s.heap.push _).objs.size
        rw [Heap.size_push]
        exact Nat.le_succ _
      · show _ < (s.heap.push _).objs.size
        rw [Heap.size_push]
        exact Nat.lt_succ_self _
      · rw [← getD_map es]
        exact hp.map _
end
end Sw

namespace Sw
open PySem PyProof.Rows
set_option maxRecDepth 100000
section
variable {prog : Program} {w : World} {A : Around} {E : Value → Shared → Prop} {s : Shared} {a : Addr}
theorem collectSet {S : Int → Bool} {n : Nat} {Q : List Value → Shared → Prop} (hh : A.handled = none) (hS : SetR prog w s.heap a S n (ledOf w)) (hn : n ≤ 1000)
    (fin : ∀ (h' : Heap) (tk : Nat) (d : Drawn) (vs : List Value) (ms : List Int), IntsAre vs ms → vs.length = n → ms.length = n → (∀ k, k ∈ ms ↔ S k = true) → (∀ b o, s.heap.get? b = some o → h'.get? b = some o) → Q vs { s with heap := h', toks := tk, drawn := d }) :
    wpAny (model prog w) A (collect (.ref a)) Q E s := by
  obtain ⟨o, es, ep, t, ho, hex, hd, hel, hmem, hb, hf, hsz, ok⟩ := hS
  have la : a < s.heap.objs.size := Heap.lt_size ho
  have hs : SAt s.heap a es ep t := ⟨o, ho, hex.1, hd⟩
  unfold collect; refine wpAny_bind (wpAny_runValue (codeAny_builtin F.entry_proto_collect ?_)); rw [Around.under_plainId F.plain_proto_collect _]
  show wpAny _ A.in1 (newList [] >>= fun l => again (.builtin "list.__iadd__" ⟨[l, .ref a], []⟩)) _ _ s; refine wpAny_bind (wpAny_newObj_type ?_)
  refine wpAny_pure ⟨plainId_quiet F.plain_list_iadd _, codeAny_builtin F.entry_list_iadd ?_⟩; rw [Around.under_plainId F.plain_list_iadd _]
  have g0 : (s.heap.push { cls := .type "list", data := .seq ([] : List Value).toArray }).get? s.heap.objs.size = some { cls := .type "list", data := .seq ([] : List Value).toArray } := Heap.get?_push_size s.heap rfl
  have other : Builtin.List.listSameRef (.ref s.heap.objs.size) (.ref a) = false := by simp [Builtin.List.listSameRef]; exact Nat.ne_of_gt la
  have ho1 : (s.heap.push { cls := .type "list", data := .seq ([] : List Value).toArray }).get? a = some o := Heap.get?_push_of_some _ ho
  have hs1 : SAt (s.heap.push { cls := .type "list", data := .seq ([] : List Value).toArray }) a es ep t := ⟨o, ho1, hex.1, hd⟩
  show wpAny _ A.in1 (Builtin.List.listExtendWith (.ref s.heap.objs.size) (.ref a) (.ref s.heap.objs.size)) _ _ _; unfold Builtin.List.listExtendWith
  refine wpAny_bind (wpAny_typeOf (T := "set") ⟨o, ho1, hex.1⟩ ?_); rw [if_neg (by rw [other]; decide)]
  refine wpAny_bind (iterSet hs1 hf ok (by omega) fun I q its h2 d ne1 ne2 zI zq la2 lq2 lI2 hp hk st0 => ?_)
  have ho2 := hk _ _ ho1
  have g2 := hk _ _ g0
  have ty2 : Shared.TypeIs { s with heap := h2, drawn := d } (.ref a) "set" := ⟨o, ho2, hex.1⟩
  refine wpAny_bind (wpAny_holding ?_); unfold Builtin.List.listLengthHint
  refine wpAny_bind (wpAny_specialOf ty2 hasLen ?_)
  (generalize hid : ("set.__len__" : String) = id0; (fail_if_success (clear hid id0)); wp_delta; rw [show splitId id0 = some ("set", "__len__") from by subst hid; decide +kernel])
  refine wpAny_bind (wpAny_isInstance (b := true) ty2 (by rw [isSubtype_type]; kernel_rfl) ?_)
  subst hid
  show wpAny _ A.in1 (typeOf (.ref a) >>= _) _ _ _
  refine wpAny_bind (wpAny_typeOf ty2 ?_)
  refine wpAny_pure ?_
  rw [if_pos (by decide)]
  refine wpAny_bind (wpAny_rule (wpAny_bind ?_))
  show wpAny _ A.in1 (updateSeq s.heap.objs.size (·.push .none) >>= fun _ => updateSeq s.heap.objs.size (·.pop)) _ _ _; refine wpAny_bind (wpAny_updateSeq g2 rfl ?_)
  have g3 := Heap.get?_update_self (Obj.mapSeq (·.push Value.none)) g2 rfl
  refine wpAny_updateSeq g3 rfl ?_
  have g4 := Heap.get?_update_self (Obj.mapSeq (·.pop)) g3 rfl
  have lS : s.heap.objs.size < h2.objs.size := Heap.lt_size g2
  have keep4 : ∀ b ob, b ≠ s.heap.objs.size → h2.get? b = some ob → ((h2.update s.heap.objs.size (Obj.mapSeq (·.push Value.none))).update s.heap.objs.size (Obj.mapSeq (·.pop))).get? b = some ob := fun b ob hb e => (Heap.get?_update_other _ _ (Ne.symm hb)).trans ((Heap.get?_update_other _ _ (Ne.symm hb)).trans e)
  have zI' : s.heap.objs.size < I := by
    have : (s.heap.push { cls := .type "list", data := .seq ([] : List Value).toArray }).objs.size ≤ I := zI
    rw [Heap.size_push] at this
    exact this
  have zq' : q ≠ s.heap.objs.size := by
    rcases zq with e | z
    · rw [e]; exact Nat.ne_of_lt la
    · have : (s.heap.push { cls := .type "list", data := .seq ([] : List Value).toArray }).objs.size ≤ q := z
      rw [Heap.size_push] at this
      exact Nat.ne_of_gt this
  have newF : s.heap.objs.size ∉ [I, a, q] := by
    simp only [List.mem_cons, List.not_mem_nil, or_false, not_or]
    exact ⟨Nat.ne_of_lt zI', Nat.ne_of_gt la, Ne.symm zq'⟩
  have W := (walkSet (prog := prog) (w := w) (A := A.in1) (its := its) (ep := ep) (by simp [hh]) ne1 ne2 hf).toS
  have lits : its.length = n := by rw [hp.length_eq, List.length_map, Array.length_toList, hsz]
  have st4 := W.frame 0 { s with heap := h2, drawn := d } ((h2.update s.heap.objs.size (Obj.mapSeq (·.push Value.none))).update s.heap.objs.size (Obj.mapSeq (·.pop))) s.toks st0 (Nat.le_refl _) fun b hb ob e => keep4 b ob (fun z => newF (z ▸ hb)) e
  refine wpAny_pure ⟨plainId_quiet F.plain_extend_loop _, codeAny_extend_loopS W (by rw [lits, sizeLine_eq]; omega) _ newF _ its.length 0 _ _ _ rfl (Nat.zero_le _) st4 g4 (ItemsOf.nil _) fun s' acc' c' hm hS' hacc => ?_⟩
  show wpAny _ A (load s.heap.objs.size >>= _) _ _ s'; refine wpAny_bind (wpAny_load hS' ?_)
  have ea : acc'.toList = its := by
    apply List.ext_getElem?
    intro i
    by_cases hi : i < acc'.size
    · have e := hacc.2 i acc'[i] (by simp [hi])
      rw [e]
      simp [hi]
    · have h1 := hacc.1
      rw [List.getElem?_eq_none (by simp; omega), List.getElem?_eq_none (by omega)]
  have e1 : s'.gens = s.gens := hm.gens
  have e2 : s'.drawn = d := hm.drawn
  have e3 : s'.os = s.os := hm.os
  obtain ⟨h', g', d', tk', os'⟩ := s'
  have e1' : g' = s.gens := e1
  have e2' : d' = d := e2
  have e3' : os' = s.os := e3
  subst e1' e2' e3'
  have isI : ∀ v ∈ its, ∃ k tk, v = Value.int k tk := fun v hv => by
    obtain ⟨e, he, rfl⟩ := List.mem_map.mp (hp.mem_iff.mp hv)
    obtain ⟨⟨k, hk', _⟩, _⟩ := hel e he
    obtain ⟨tk, e5⟩ := Value.isInt_shape (k := k) (v := e.2) hk'
    exact ⟨k, tk, e5⟩
  obtain ⟨ms, i1, i2, i3⟩ := ints_of its isI
  refine wpAny_pure ?_
  rw [ea]
  refine fin h' tk' d' its ms i1 lits (by rw [i3, lits]) (fun k => ?_) fun b ob e => ?_
  · rw [i2, hmem]
    constructor
    · rintro ⟨tk, hv⟩
      obtain ⟨e, he, e5⟩ := List.mem_map.mp (hp.mem_iff.mp hv)
      exact ⟨e, he, by rw [e5]; exact intKind_is _ _ _ _⟩
    · rintro ⟨e, he, e5⟩
      obtain ⟨tk, e6⟩ := Value.isInt_shape (k := k) (v := e.2) e5
      exact ⟨tk, hp.mem_iff.mpr (List.mem_map.mpr ⟨e, he, e6⟩)⟩
  · have lb : b < s.heap.objs.size := Heap.lt_size e
    refine hm.heap b ob ?_ (keep4 b ob (Nat.ne_of_lt lb) (hk b ob (Heap.get?_push_of_some _ e)))
    simp only [List.mem_cons, List.not_mem_nil, or_false, not_or]
    exact ⟨Nat.ne_of_lt lb, Nat.ne_of_lt (Nat.lt_trans lb zI')⟩
end
end Sw
namespace Sw
open PySem PyProof.Rows
section
variable {prog : Program} {w : World} {A : Around} {E : Value → Shared → Prop} {s : Shared} {a : Addr}
theorem sortedSet {S : Int → Bool} {n : Nat} {fm : List Int} {Q : Value → Shared → Prop} (hh : A.handled = none) (hS : SetR prog w s.heap a S n (ledOf w)) (hn : n < 64) (hfm : fm.Nodup) (hfl : fm.length = n) (hfS : ∀ k, k ∈ fm ↔ S k = true)
    (fin : ∀ (h1 h' : Heap) (tk : Nat) (d : Drawn) (p : Addr) (out : Array Value) (ns : List Int) (e : Nat), IntsAre out.toList ns → ns.Pairwise (· < ·) → (∀ k, k ∈ ns ↔ k ∈ fm) → h1.objs.size ≤ p → h'.get? p = some (seqObj "list" out e) → (∀ b o, s.heap.get? b = some o → h1.get? b = some o) → (∀ b o, h1.get? b = some o → h'.get? b = some o) → Q (.ref p) { s with heap := h', toks := tk, drawn := d }) :
    wpAny (model prog w) A (call (.builtin "sorted") [.ref a]) Q E s := by
  refine Calls.call_function_entry kind_sorted plain_sorted entry_sorted (args_sorted1 _) ?_
  unfold Builtin.«sorted»
  refine wpAny_bind (m := checkCount "sorted" 1 1 _) (wpAny_pure ?_)
  refine wpAny_bind (collectSet (by first | exact hh | simp [hh]) hS (by omega) fun h1 tk d vs ms i1 l1 l2 m1 k1 => ?_)
  refine wpAny_bind (wpAny_newList ?_ (by rw [l1, sizeLine_eq]; omega))
  have g1 : (h1.push (seqObj "list" vs.toArray 0)).get? h1.objs.size = some (seqObj "list" vs.toArray 0) := Heap.get?_push_size _ rfl
  have pm : ms.Perm fm := (perm_cover fm ms hfm (fun k hk => (m1 k).mpr ((hfS k).mp hk)) (by rw [l2, hfl])).symm
  refine wpAny_bind (wpAny_holding (wpAny_call_entry slot_list_sort ⟨_, g1, rfl⟩ entry_list_sort (list_sort_tree (s := { s with heap := h1.push (seqObj "list" vs.toArray 0), toks := tk, drawn := d }) g1 i1 (by omega) fun out ns' a1 a2 a3 => ⟨_, rfl, ?_⟩) (args_list_sort _)))
  obtain ⟨e, he⟩ := sortedHeap_at (out := out) g1
  refine wpAny_pure ⟨_, rfl, fin h1 _ tk d h1.objs.size out ns' e a1 (sorted_lt a3 ((a2.trans pm).nodup_iff.mpr hfm)) (fun k => (a2.trans pm).mem_iff) (Nat.le_refl _) he k1 fun b ob hb => ?_⟩
  have lb : b < h1.objs.size := Heap.lt_size hb
  rw [sortedHeap_old (Nat.ne_of_lt lb) (by rw [Heap.size_push]; exact Nat.lt_succ_of_lt lb)]
  exact Heap.get?_push_of_some _ hb
end
end Sw

namespace Sw
open PySem PyProof.Rows
set_option maxRecDepth 100000
/-! max of a list of ints with a default -/
def mxTo (val : Nat → Int) : Int → Nat → Nat → Int
  | b, _, 0 => b
  | b, j, k + 1 => mxTo val (if val j > b then val j else b) (j + 1) k
theorem argsMaxD (a d : Value) : argsOk "max" ⟨[a], [("default", d)]⟩ := by unfold argsOk; kernel_rfl
section
variable {prog : Program} {w : World} {A : Around} {R : Result → Shared → Prop} {I : Addr} {fp wr : List Addr} {n : Nat} {P : Nat → Value → Prop} {St : Nat → Heap → Prop}
theorem maxLoopD (W : Walks prog w A.in1 I fp wr n P St) (val : Nat → Int) (hval : ∀ i v, P i v → ∃ t, v = .int (val i) t) (dv : Value) (S : Addr) (hSf : S ∉ fp) : ∀ (k j : Nat) (s : Shared) (b : Int) (tb : Tok) (c : Nat), n - j = k → j ≤ n → St j s.heap →
      s.heap.get? S = some { cls := .type "list", dict := none, data := .seq #[.int b tb, .int b tb] c, slots := #[] } →
      (∀ t h' tk, (∀ b o, b ∉ wr → b ≠ S → s.heap.get? b = some o → h'.get? b = some o) → R (.ok (.ret (.int (mxTo val b j k) t))) { s with heap := h', toks := tk }) → codeAny (model prog w) A (.builtin "max.loop" ⟨[.ref I, .none, .ref S], [("default", dv)]⟩) R s := by
  have hSw : S ∉ wr := fun h => hSf (W.sub _ h)
  have nm : (toString "max" ++ toString ".loop" : String) = "max.loop" := by decide
  intro k
  induction k with
  | zero =>
    intro j s b tb c hk hj hst hS hR
    obtain rfl : j = n := by omega
    refine codeAny_builtin F.entry_max_loop ?_; rw [Around.under_plainId F.plain_max_loop _]; show wpAny _ A.in1 (seqItems? (.ref S) >>= _) _ _ s
    refine wpAny_bind (wpAny_seqItems hS rfl ?_); show wpAny _ A.in1 (tryCatch (pyNext (.ref I)) _ >>= _) _ _ s
    refine wpAny_bind (wpAny_tryCatch (W.done s _ _ hst fun h' tk hk' => ?_))
    have hS' := hk' S _ hSw hS
    show wpAny _ A.in1 (updateSeq S (fun _ => #[]) >>= _) _ _ _; refine wpAny_bind ?_
    refine wpAny_updateSeq hS' rfl (wpAny_bind (wpAny_letGo (wpAny_pure (hR tb _ tk fun b o hbw hbS e => ?_))))
    exact (Heap.get?_update_other _ _ (Ne.symm hbS)).trans (hk' b o hbw e)
  | succ k ih =>
    intro j s b tb c hk hj hst hS hR
    have hlt : j < n := by omega
    refine codeAny_builtin F.entry_max_loop ?_; rw [Around.under_plainId F.plain_max_loop _]; show wpAny _ A.in1 (seqItems? (.ref S) >>= _) _ _ s
    refine wpAny_bind (wpAny_seqItems hS rfl ?_); show wpAny _ A.in1 (tryCatch (pyNext (.ref I)) _ >>= _) _ _ s
    refine wpAny_bind (wpAny_tryCatch (W.item j s _ _ hlt hst fun v h' tk hP hst' hk' => ?_))
    obtain ⟨tv, rfl⟩ := hval j v hP
    have hS' := hk' S _ hSw hS
    show wpAny _ A.in1 (tryCatch (holding [Value.int (val j) tv, Value.int (val j) tv] (richCompare .Gt (Value.int (val j) tv) (Value.int b tb) >>= _)) _ >>= _) _ _ _
    have cmp : ∀ (s' : Shared) (Q' : Value → Shared → Prop) (E' : Value → Shared → Prop), Q' (.bool (decide (val j > b))) s' → wpAny (model prog w) A.in1 (richCompare .Gt (.int (val j) tv) (.int b tb)) Q' E' s' := fun s' Q' E' hq =>
      CmpOf.ints_gt (P := fun i v => ∃ t, v = Value.int (if i = 0 then val j else b) t) (fun i => if i = 0 then val j else b) (fun i v h => h) 0 1 _ _ s' Q' E' ⟨_, rfl⟩ ⟨_, rfl⟩ hq
    refine wpAny_bind (wpAny_tryCatch (wpAny_holding (wpAny_bind (cmp _ _ _ ?_))))
    refine wpAny_bind (wpAny_holding (wpAny_truthy_bool (wpAny_bind (wpAny_letGo (wpAny_pure ?_)))))
    by_cases hb : val j > b
    · simp only [hb, decide_true, if_true]
      refine wpAny_bind (wpAny_updateSeq hS' rfl (wpAny_bind (wpAny_letGo ?_)))
      rw [nm]
      refine wpAny_pure ⟨plainId_quiet F.plain_max_loop _, ih (j + 1) _ (val j) tv _ (by omega) hlt (W.frame _ _ _ hst' fun b hbf o e => ?_) (Heap.get?_update_self _ hS' rfl) fun t h'' tk'' hk'' => ?_⟩
      · exact (Heap.get?_update_other _ _ (fun h : S = b => hSf (by rw [h]; exact hbf))).trans e
      · have q := hR t h'' tk'' fun b o hbw hbS e => hk'' b o hbw hbS ((Heap.get?_update_other _ _ (Ne.symm hbS)).trans (hk' b o hbw e))
        simp only [mxTo, hb, if_true] at q
        exact q
    · simp only [hb, decide_false, Bool.false_eq_true, if_false]
      refine wpAny_bind (wpAny_letGo ?_)
      rw [nm]
      refine wpAny_pure ⟨plainId_quiet F.plain_max_loop _, ih (j + 1) _ b tb c (by omega) hlt hst' hS' fun t h'' tk'' hk'' => ?_⟩
      have q := hR t h'' tk'' fun b o hbw hbS e => hk'' b o hbw hbS (hk' b o hbw e)
      simp only [mxTo, hb, if_false] at q
      exact q
end
def mxN (val : Nat → Int) (d : Int) : Nat → Int
  | 0 => d
  | n + 1 => mxTo val (val 0) 1 n
section
variable {prog : Program} {w : World} {A : Around} {R : Result → Shared → Prop} {I : Addr} {fp wr : List Addr} {n : Nat} {P : Nat → Value → Prop} {St : Nat → Heap → Prop}
theorem maxFirstD (W : Walks prog w A.in1 I fp wr n P St) (val : Nat → Int) (hval : ∀ i v, P i v → ∃ t, v = .int (val i) t) (d : Int) (td : Tok) (S : Addr) (hSf : S ∉ fp) {s : Shared} {c : Nat} (hst : St 0 s.heap)
    (hS : s.heap.get? S = some { cls := .type "list", dict := none, data := .seq #[] c, slots := #[] })
    (hR : ∀ t h' tk, (∀ b o, b ∉ wr → b ≠ S → s.heap.get? b = some o → h'.get? b = some o) → R (.ok (.ret (.int (mxN val d n) t))) { s with heap := h', toks := tk }) : codeAny (model prog w) A (.builtin "max.loop" ⟨[.ref I, .none, .ref S], [("default", .int d td)]⟩) R s := by
  have hSw : S ∉ wr := fun h => hSf (W.sub _ h)
  have nm : (toString "max" ++ toString ".loop" : String) = "max.loop" := by decide
  refine codeAny_builtin F.entry_max_loop ?_; rw [Around.under_plainId F.plain_max_loop _]; show wpAny _ A.in1 (seqItems? (.ref S) >>= _) _ _ s
  refine wpAny_bind (wpAny_seqItems hS rfl ?_); show wpAny _ A.in1 (tryCatch (pyNext (.ref I)) _ >>= _) _ _ s
  cases n with
  | zero =>
    refine wpAny_bind (wpAny_tryCatch (W.done s _ _ hst fun h' tk hk' => ?_))
    refine wpAny_bind (wpAny_rule (wpAny_pure (hR td h' tk fun b o hbw hbS e => hk' b o hbw e)))
  | succ n =>
    refine wpAny_bind (wpAny_tryCatch (W.item 0 s _ _ (Nat.succ_pos _) hst fun v h' tk hP hst' hk' => ?_))
    obtain ⟨tv, rfl⟩ := hval 0 v hP
    have hS' := hk' S _ hSw hS
    show wpAny _ A.in1 (updateSeq S (fun _ => #[Value.int (val 0) tv, Value.int (val 0) tv]) >>= _) _ _ _; refine wpAny_bind ?_
    refine wpAny_updateSeq hS' rfl ?_; rw [nm]
    refine wpAny_pure ⟨plainId_quiet F.plain_max_loop _, maxLoopD W val hval _ S hSf n 1 _ (val 0) tv _ (by omega) (by omega) (W.frame _ _ _ hst' fun b hbf o e => ?_) (Heap.get?_update_self _ hS' rfl) fun t h'' tk'' hk'' => ?_⟩
    · exact (Heap.get?_update_other _ _ (fun h : S = b => hSf (by rw [h]; exact hbf))).trans e
    · exact hR t h'' tk'' fun b o hbw hbS e => hk'' b o hbw hbS ((Heap.get?_update_other _ _ (Ne.symm hbS)).trans (hk' b o hbw e))
end
section
variable {prog : Program} {w : World} {A : Around} {E : Value → Shared → Prop} {s : Shared}
theorem chkMaxD (a d : Value) : checkBuiltinCall "max" ⟨[a], [("default", d)]⟩ = pure () := by
  have ha := argsMaxD a d
  unfold argsOk at ha
  simp only [checkBuiltinCall, F.kind_max]
  cases hsig : Manifest.signature? "max" with
  | none => rfl
  | some sig =>
    rw [hsig] at ha
    exact ha
theorem bindMaxD (d : Value) : Builtin.Builtins.bindParams "max" ["key", "default"] 0 ⟨[], [("default", d)]⟩ = pure [none, some d] := by rfl
theorem callMaxD {p : Addr} {items : Array Value} {ns : List Int} {d : Int} {td : Tok} {Q : Value → Shared → Prop} (hh : A.handled = none) (hl : s.heap.IsList p items) (hi : IntsAre items.toList ns)
    (fin : ∀ (h' : Heap) (tk : Nat) (t : Tok), (∀ b o, s.heap.get? b = some o → h'.get? b = some o) → Q (.int (mxN (fun i => ns.getD i 0) d ns.length) t) { s with heap := h', toks := tk }) :
    wpAny (model prog w) A (call (.builtin "max") [.ref p] [("default", .int d td)]) Q E s := by
  have nm : (toString "max" ++ toString ".loop" : String) = "max.loop" := by decide
  have vals : ∀ (i : Nat) (v : Value), items[i]? = some v → ∃ t, v = .int (ns.getD i 0) t := fun i v hv => IntsAre.int_at hi i v (by rw [Array.getElem?_toList]; exact hv)
  have lp : p < s.heap.objs.size := by
    obtain ⟨o, ho, _⟩ := hl
    exact Heap.lt_size ho
  have ln : items.size = ns.length := by
    have := hi.length
    simpa using this
  refine wpAny_call (codeAny_call_builtin F.plain_max F.entry_max ?_)
  refine wpAny_of_eq (chkMaxD _ _) ?_
  show wpAny _ A.in1 (Builtin.Builtins.bindParams "max" ["key", "default"] 0 ⟨[], [("default", .int d td)]⟩ >>= _) _ _ s
  refine wpAny_bind (wpAny_of_eq (bindMaxD _) (wpAny_bind (wpAny_pure (wpAny_bind (wpAny_pyIter_list hl ?_)))))
  refine wpAny_bind (wpAny_newObj_type ?_)
  rw [nm]
  have h1 : A.in1.handled = none := by simp [hh]
  have ne0 : p ≠ s.heap.objs.size := Nat.ne_of_lt lp
  have W := Walks.list (prog := prog) (w := w) (A := A.in1) h1 s.heap.objs.size p ne0 items
  have nS : (s.heap.push { cls := .type "list_iterator", data := .fields #[.ref p, .int 0 0] }).objs.size ∉ [s.heap.objs.size, p] := by
    rw [Heap.size_push]
    simp only [List.mem_cons, List.not_mem_nil, or_false, not_or]
    exact ⟨Nat.ne_of_gt (Nat.lt_succ_self _), Nat.ne_of_gt (Nat.lt_succ_of_lt lp)⟩
  refine wpAny_pure ⟨plainId_quiet F.plain_max_loop _, maxFirstD W (fun i => ns.getD i 0) vals d td _ nS ⟨⟨_, Heap.get?_push_of_some _ (Heap.get?_push_size _ rfl), rfl, rfl⟩, (hl.push _).push _⟩ (Heap.get?_push_size _ rfl) fun t h' tk hk => ?_⟩
  rw [ln]
  refine fin h' tk t fun b o e => hk b o ?_ ?_ (Heap.get?_push_of_some _ (Heap.get?_push_of_some _ e))
  · have lb := Heap.lt_size e
    simp only [List.mem_cons, List.not_mem_nil, or_false]
    exact Nat.ne_of_lt lb
  · have lb := Heap.lt_size e
    rw [Heap.size_push]
    exact Nat.ne_of_lt (Nat.lt_succ_of_lt lb)
end
end Sw

namespace Sw
theorem nodup_few1 (l : List Int) (h : l.Nodup) (b : ∀ k ∈ l, -1 ≤ k ∧ k < ((62 : Nat) : Int)) : l.length ≤ 63 := by
  have q := nodup_few 63 (l.map (· + 1)) (by
    unfold List.Nodup
    rw [List.pairwise_map]
    exact h.imp fun hab z => hab (by omega)) fun k hk => by
      obtain ⟨x, hx, rfl⟩ := List.mem_map.mp hk
      have := b x hx
      omega
  rw [List.length_map] at q
  exact q
theorem few_of1 (l : List Int) (h : l.Pairwise (· < ·)) (b : ∀ k ∈ l, -1 ≤ k ∧ k < ((62 : Nat) : Int)) : l.length ≤ 63 := by
  have q := few_of 63 (l.map (· + 1)) (by
    rw [List.pairwise_map]
    exact h.imp fun hab => by omega) fun k hk => by
      obtain ⟨x, hx, rfl⟩ := List.mem_map.mp hk
      have := b x hx
      omega
  rw [List.length_map] at q
  exact q
end Sw
namespace L2
open PySem PySem.Spec PyProof.Rows
section
variable {X : Cx}
theorem Inv.drew {pins : List (Addr × Obj)} {σ : St} {H : Hp} {s : Shared} {d : Drawn} (I : Inv X pins σ H s) : Inv X pins σ H { s with drawn := d } := ⟨I.ok, I.os, I.bare, I.base, I.loc, I.cell, I.free, I.freeC, I.pin, I.hok, I.len⟩
/-- sorted(set(a)), a a list of small ints: the set between is nobody's -/
def tSS (K : PySem.W.Frag) (t : TA) : TE := fun σ H Q => t σ H fun vs H1 => ∃ (p : Addr) (ns : List Int), vs = [.ref p] ∧ SqL K H1 p (ns.map V.int) ∧ ns.length ≤ 4000 ∧ (∀ n ∈ ns, -1 ≤ n ∧ n < ((62 : Nat) : Int)) ∧
  ∀ (q : Addr) (rs : List Int), H1 q = none → rs.Pairwise (· < ·) → (∀ k, k ∈ rs ↔ k ∈ ns) → Q (.ref q) (upd H1 q (.lst (rs.map V.int)))
theorem pe_sortedSet {a : Expr} {t : TA} {p1 p2 pos pos2 : Pos} (hc : X.calm = true) (hg : Gl X "sorted") (hm : X.mg "sorted" = none) (hg2 : Gl X "set") (hm2 : X.mg "set" = none) (ha : PA X [a] t)
    (he : starEach [a] X.env = [(false, eval a X.env)] := by rfl) (he2 : starEach [.Call (.Name "set" p2) [a] [] pos2] X.env = [(false, eval (.Call (.Name "set" p2) [a] [] pos2) X.env)] := by rfl) :
    PE X (.Call (.Name "sorted" p1) [.Call (.Name "set" p2) [a] [] pos2] [] pos) (tSS X.K t) := by
  intro pins s σ H Q I h
  refine wpAny_Call_Name_kw (ld_blt I hg hm PyProof.Rows.boot_sorted ?_)
  refine PyProof.Rows.callWith_builtin1 ?_ he2 rfl
  rw [he2]
  show wpAny _ _ (spliced ((false, eval (.Call (.Name "set" p2) [a] [] pos2) X.env) :: [])) _ _ s
  refine Calls.spliced_cons ?_
  refine wpAny_Call_Name_kw (ld_blt I hg2 hm2 PyProof.Rows.boot_set ?_)
  refine PyProof.Rows.callWith_type1 (thn (ha pos2 pins s σ H _ I h) fun us s1 ⟨vs, H1, I1, r1, q1⟩ => ?_) he rfl
  obtain ⟨p, ns, rfl, hq, hz, hr, q⟩ := q1
  obtain ⟨u, rfl, rx⟩ := vals1 r1
  cases rx
  obtain ⟨its, rv, pl, _⟩ := I1.list hq
  have hI : IntsAre its.toArray.toList ns := intsAre_of rv
  have hl : its.toArray.size = ns.length := by
    have := hI.length
    simpa using this
  refine Sw.callSet (I1.ok.hd hc) pl.isList hI (by rw [hl]; show ns.length + 1 < 4096; omega) fun h2 tk2 hS hk => Calls.spliced_nil ?_
  rw [hl] at hS
  have I2 : Inv X pins σ H1 { s1 with heap := h2, toks := tk2 } := I1.kept fun b o e => hk b o (Heap.lt_size e) e
  have nd := Sw.met_nodup (fun i => ns.getD i 0) ns.length
  have few := Sw.nodup_few1 _ nd fun k hk => hr k ((Sw.met_mem ns k).mp hk)
  refine Sw.sortedSet (fm := firstMet (fun i => ns.getD i 0) ns.length) (I2.ok.hd hc) hS (by omega) nd rfl (fun k => by simp) fun h3 h4 tk d p' out rs e i1 i2 i3 i4 i5 i6 i7 => ?_
  have J : Inv X pins σ H1 { s1 with heap := h3, toks := tk, drawn := d } := (I2.kept (h' := h3) (t' := tk) i6).drew
  have l : rs.length ≤ 63 := Sw.few_of1 rs i2 fun k hk => hr k ((Sw.met_mem ns k).mp ((i3 k).mp hk))
  have i5' : h4.get? p' = some { cls := .type "list", data := .seq out.toList.toArray e } := by
    rw [i5]
  exact ⟨.ref p', _, J.laid (h' := h4) (t' := tk) (o := .lst (rs.map V.int)) i7 i4 ⟨by rw [List.length_map]; exact small_le (by omega), out.toList, e, vals_ints i1, i5'⟩, rfl, q p' rs (J.hok.fresh i4) i2 fun k => (i3 k).trans (Sw.met_mem ns k)⟩
/-- max(a, default=d), a a list of ints -/
def tMaxD (K : PySem.W.Frag) (d : Int) (t : TA) : TE := fun σ H Q => t σ H fun vs H1 => ∃ (p : Addr) (ns : List Int), vs = [.ref p] ∧ SqL K H1 p (ns.map V.int) ∧ Q (.int (Sw.mxN (fun i => ns.getD i 0) d ns.length)) H1
theorem pe_maxD {a : Expr} {t : TA} {p1 pos kp pd : Pos} {d : Int} {j : Nat} (hc : X.calm = true) (hg : Gl X "max") (hm : X.mg "max" = none) (ha : PA X [a] t) (he : starEach [a] X.env = [(false, eval a X.env)] := by rfl) :
    PE X (.Call (.Name "max" p1) [a] [⟨some "default", .Constant (.int d) j pd, kp⟩] pos) (tMaxD X.K d t) := by
  intro pins s σ H Q I h
  refine wpAny_Call_Name_kw (ld_blt I hg hm PyProof.Rows.boot_max ?_)
  refine PyProof.Rows.callWith_kw (thn (ha pos pins s σ H _ I h) fun us s1 ⟨vs, H1, I1, r1, q1⟩ => ?_) (by rw [he]; rfl) (by rw [he]; rfl) rfl rfl
  refine PyProof.Rows.kws_cons (wpAny_Constant_int (PyProof.Rows.kws_nil ?_))
  obtain ⟨p, ns, rfl, hq, q⟩ := q1
  obtain ⟨u, rfl, rx⟩ := vals1 r1
  cases rx
  obtain ⟨its, rv, pl, _⟩ := I1.list hq
  have I2 := I1.tok (s1.toks + 1)
  exact Sw.callMaxD (I2.ok.hd hc) pl.isList (intsAre_of rv) fun h' tk t k => ⟨.int _, H1, I2.kept k, ⟨_, rfl⟩, q⟩
end
end L2

namespace Gds
open PySem L2
/-! guards as a datum of our own, and how the heap bears them -/
inductive Gd where
  | yes
  | is (b n : Int)
  | under (b n : Int)
  | inn (r : Int)
  | neg (g : Gd)
  | both (g h : Gd)
  | either (g h : Gd)
def Gd.ht : Gd → Nat
  | .yes => 1
  | .is _ _ => 1
  | .under _ _ => 1
  | .inn _ => 1
  | .neg g => g.ht + 1
  | .both g h => 1 + max g.ht h.ht
  | .either g h => 1 + max g.ht h.ht
theorem Gd.ht_pos : ∀ g : Gd, 1 ≤ g.ht
  | .yes => Nat.le_refl _
  | .is _ _ => Nat.le_refl _
  | .under _ _ => Nat.le_refl _
  | .inn _ => Nat.le_refl _
  | .neg _ => Nat.succ_le_succ (Nat.zero_le _)
  | .both _ _ => Nat.le_add_right _ _
  | .either _ _ => Nat.le_add_right _ _
def at0 (bx : List Int) (b : Int) : Int := bx.getD b.toNat 0
def Gd.holds (op bx : List Int) : Gd → Bool
  | .yes => true
  | .is b n => decide (V.int (at0 bx b) = V.int n)
  | .under b n => decide (at0 bx b < n)
  | .inn r => inV (.int r) (op.map V.int)
  | .neg g => !(g.holds op bx)
  | .both g h => g.holds op bx && h.holds op bx
  | .either g h => g.holds op bx || h.holds op bx
def Gd.ok (nb : Nat) : Gd → Prop
  | .yes => True
  | .is b _ => 0 ≤ b ∧ b < (nb : Int)
  | .under b _ => 0 ≤ b ∧ b < (nb : Int)
  | .inn _ => True
  | .neg g => g.ok nb
  | .both g h => g.ok nb ∧ h.ok nb
  | .either g h => g.ok nb ∧ h.ok nb
/-- tuples stay -/
def KeepT (H H' : Hp) : Prop := ∀ b xs, H b = some (.tup xs) → H' b = some (.tup xs)
theorem KeepT.trans {H H1 H2 : Hp} (a : KeepT H H1) (b : KeepT H1 H2) : KeepT H H2 := fun c xs h => b c xs (a c xs h)
theorem KeepT.of {H H' : Hp} (s : Same H H') : KeepT H H' := fun b xs h => s b _ h
theorem KeepT.lst {H : Hp} {p : Addr} {xs : List V} (h : H p = some (.lst xs)) (o : HO) : KeepT H (upd H p o) := fun b ys e => by
  rw [upd_ne (ne_of e h (by intro z; cases z))]
  exact e
theorem KeepT.new {H : Hp} {p : Addr} (h : H p = none) (o : HO) : KeepT H (upd H p o) := .of (same_new h o)
theorem same_upd {H H' : Hp} {p : Addr} (hp : H p = none) (s : Same H H') (o : HO) : Same H (upd H' p o) := fun b u e => by
  rw [upd_ne (ne_of_none e hp)]
  exact s b u e
inductive GdIn (H : Hp) : V → Gd → Prop where
  | yes {a : Addr} : H a = some (.tup [.str "yes"]) → GdIn H (.ref a) .yes
  | is {a : Addr} {b n : Int} : H a = some (.tup [.str "is", .int b, .int n]) → GdIn H (.ref a) (.is b n)
  | under {a : Addr} {b n : Int} : H a = some (.tup [.str "under", .int b, .int n]) → GdIn H (.ref a) (.under b n)
  | inn {a : Addr} {r : Int} : H a = some (.tup [.str "in", .int r]) → GdIn H (.ref a) (.inn r)
  | neg {a : Addr} {v : V} {g : Gd} : H a = some (.tup [.str "not", v]) → GdIn H v g → GdIn H (.ref a) (.neg g)
  | both {a : Addr} {v u : V} {g h : Gd} : H a = some (.tup [.str "both", v, u]) → GdIn H v g → GdIn H u h → GdIn H (.ref a) (.both g h)
  | either {a : Addr} {v u : V} {g h : Gd} : H a = some (.tup [.str "either", v, u]) → GdIn H v g → GdIn H u h → GdIn H (.ref a) (.either g h)
theorem GdIn.mono {H H' : Hp} {v : V} {g : Gd} (x : GdIn H v g) (k : KeepT H H') : GdIn H' v g := by
  induction x with
  | yes e => exact .yes (k _ _ e)
  | is e => exact .is (k _ _ e)
  | under e => exact .under (k _ _ e)
  | inn e => exact .inn (k _ _ e)
  | neg e _ i => exact .neg (k _ _ e) i
  | both e _ _ i j => exact .both (k _ _ e) i j
  | either e _ _ i j => exact .either (k _ _ e) i j
theorem strNe {x y : Str} {A B : Prop} (h : ¬ x = y) (b : B) : if decide (V.str x = V.str y) = true then A else B := by
  rw [if_neg]
  · exact b
  · intro z
    have z' := of_decide_eq_true z
    injection z' with z''
    exact h z''
theorem strEq {x : Str} {A B : Prop} (a : A) : if decide (V.str x = V.str x) = true then A else B := by
  rw [if_pos (decide_eq_true rfl)]
  exact a
end Gds

namespace Gds
open PySem L2
/-! leaves of a guard, its boxes and rooms -/
def Gd.lv : Gd → Nat
  | .neg g => g.lv
  | .both g h => g.lv + h.lv
  | .either g h => g.lv + h.lv
  | _ => 1
def Gd.inner : Gd → List Gd
  | .neg g => [g]
  | .both g h => [g, h]
  | .either g h => [g, h]
  | _ => []
def Gd.plains : Gd → List Gd
  | .neg g => g.plains
  | .both g h => g.plains ++ h.plains
  | .either g h => g.plains ++ h.plains
  | .yes => [.yes]
  | .is b n => [.is b n]
  | .under b n => [.under b n]
  | .inn r => [.inn r]
def Gd.bxs : Gd → List Int
  | .is b _ => [b]
  | .under b _ => [b]
  | .neg g => g.bxs
  | .both g h => g.bxs ++ h.bxs
  | .either g h => g.bxs ++ h.bxs
  | _ => []
def Gd.rms : Gd → List Int
  | .inn r => [r]
  | .neg g => g.rms
  | .both g h => g.rms ++ h.rms
  | .either g h => g.rms ++ h.rms
  | _ => []
def Gd.fit (g : Gd) : Prop := (∀ n ∈ g.bxs, -1 ≤ n ∧ n < ((62 : Nat) : Int)) ∧ ∀ n ∈ g.rms, -1 ≤ n ∧ n < ((62 : Nat) : Int)
theorem Gd.plains_len : ∀ g : Gd, g.plains.length = g.lv
  | .neg g => g.plains_len
  | .both g h => by show (g.plains ++ h.plains).length = g.lv + h.lv; rw [List.length_append, g.plains_len, h.plains_len]
  | .either g h => by show (g.plains ++ h.plains).length = g.lv + h.lv; rw [List.length_append, g.plains_len, h.plains_len]
  | .yes => rfl
  | .is _ _ => rfl
  | .under _ _ => rfl
  | .inn _ => rfl
theorem Gd.plains_bxs : ∀ g : Gd, g.plains.flatMap Gd.bxs = g.bxs
  | .neg g => g.plains_bxs
  | .both g h => by show (g.plains ++ h.plains).flatMap Gd.bxs = g.bxs ++ h.bxs; rw [List.flatMap_append, g.plains_bxs, h.plains_bxs]
  | .either g h => by show (g.plains ++ h.plains).flatMap Gd.bxs = g.bxs ++ h.bxs; rw [List.flatMap_append, g.plains_bxs, h.plains_bxs]
  | .yes => rfl
  | .is _ _ => rfl
  | .under _ _ => rfl
  | .inn _ => rfl
theorem Gd.plains_rms : ∀ g : Gd, g.plains.flatMap Gd.rms = g.rms
  | .neg g => g.plains_rms
  | .both g h => by show (g.plains ++ h.plains).flatMap Gd.rms = g.rms ++ h.rms; rw [List.flatMap_append, g.plains_rms, h.plains_rms]
  | .either g h => by show (g.plains ++ h.plains).flatMap Gd.rms = g.rms ++ h.rms; rw [List.flatMap_append, g.plains_rms, h.plains_rms]
  | .yes => rfl
  | .is _ _ => rfl
  | .under _ _ => rfl
  | .inn _ => rfl
theorem Gd.plains_leaf : ∀ (g : Gd), ∀ p ∈ g.plains, p.inner = []
  | .neg g => g.plains_leaf
  | .both g h => fun p hp => (List.mem_append.mp (show p ∈ g.plains ++ h.plains from hp)).elim (g.plains_leaf p) (h.plains_leaf p)
  | .either g h => fun p hp => (List.mem_append.mp (show p ∈ g.plains ++ h.plains from hp)).elim (g.plains_leaf p) (h.plains_leaf p)
  | .yes => fun p hp => by rw [List.mem_singleton.mp (show p ∈ [Gd.yes] from hp)]; rfl
  | .is b n => fun p hp => by rw [List.mem_singleton.mp (show p ∈ [Gd.is b n] from hp)]; rfl
  | .under b n => fun p hp => by rw [List.mem_singleton.mp (show p ∈ [Gd.under b n] from hp)]; rfl
  | .inn r => fun p hp => by rw [List.mem_singleton.mp (show p ∈ [Gd.inn r] from hp)]; rfl
theorem Gd.inner_nil {g : Gd} (h : g.inner = []) : g.plains = [g] := by
  cases g <;> first | rfl | (exact absurd h (by intro z; cases z))
theorem Gd.inner_plains {g : Gd} (h : g.inner ≠ []) : g.inner.flatMap Gd.plains = g.plains := by
  cases g with
  | neg g => show [g].flatMap Gd.plains = g.plains; simp
  | both g k => show [g, k].flatMap Gd.plains = g.plains ++ k.plains; simp
  | either g k => show [g, k].flatMap Gd.plains = g.plains ++ k.plains; simp
  | _ => exact absurd rfl h
theorem flat_succ {α β : Type} (f : α → List β) {L : List α} {i : Nat} {l : α} (h : L[i]? = some l) : (L.take (i + 1)).flatMap f = (L.take i).flatMap f ++ f l := by
  rw [List.take_add_one, h, List.flatMap_append]
  simp
inductive Ins (H : Hp) : List V → List Gd → Prop where
  | nil : Ins H [] []
  | cons {v : V} {g : Gd} {vs : List V} {gs : List Gd} : GdIn H v g → Ins H vs gs → Ins H (v :: vs) (g :: gs)
theorem Ins.mono {H H' : Hp} {vs : List V} {gs : List Gd} (x : Ins H vs gs) (k : KeepT H H') : Ins H' vs gs := by
  induction x with
  | nil => exact .nil
  | cons h _ ih => exact .cons (h.mono k) ih
theorem Ins.length {H : Hp} {vs : List V} {gs : List Gd} (x : Ins H vs gs) : vs.length = gs.length := by
  induction x with
  | nil => rfl
  | cons _ _ ih => rw [List.length_cons, List.length_cons, ih]
theorem Ins.append {H : Hp} {vs us : List V} {gs hs : List Gd} (x : Ins H vs gs) (y : Ins H us hs) : Ins H (vs ++ us) (gs ++ hs) := by
  induction x with
  | nil => exact y
  | cons h _ ih => exact .cons h ih
theorem Ins.get {H : Hp} {vs : List V} {gs : List Gd} (x : Ins H vs gs) : ∀ {i : Nat} {v : V}, vs[i]? = some v → ∃ g, gs[i]? = some g ∧ GdIn H v g := by
  induction x with
  | nil => intro i v h; simp at h
  | cons h _ ih =>
    intro i v e
    cases i with
    | zero =>
      simp at e
      subst e
      exact ⟨_, rfl, h⟩
    | succ i => exact ih (by simpa using e)
/-- rising, each once, of these members -/
def Srt (rs ns : List Int) : Prop := rs.Pairwise (· < ·) ∧ ∀ k, k ∈ rs ↔ k ∈ ns
end Gds

namespace L2
open PySem
/-! two tuples of the same flat items are not unlike -/
section
variable {X : Cx}
theorem eqV_self {x : V} (h : flatV x = true) : eqV x x = true := by
  cases x with
  | non => rfl
  | bl b => exact beq_self_eq_true b
  | int b => exact beq_self_eq_true b
  | str b => exact beq_self_eq_true b
  | _ => exact absurd (show false = true from h) Bool.false_ne_true
theorem eqAt_two {A : Around} {s : Shared} : ∀ {xs : List V} {us vs : List Value}, Vals xs us → Vals xs vs → xs.all flatV = true → ∀ (j : Nat) (h1 : j < us.length) (h2 : j < vs.length), SeqAt.EqAt A s us[j] vs[j] true
  | _, _, _, .nil, .nil, _, j, h1, _ => absurd h1 (Nat.not_lt_zero _)
  | x :: xs, u :: us, v :: vs, .cons r t, .cons r' t', f, j, h1, h2 => by
    rw [List.all_cons, Bool.and_eq_true] at f
    cases j with
    | zero =>
      have := eqAt_V (A := A) (s := s) r r' f.1 f.1
      rw [eqV_self f.1] at this
      exact this
    | succ j => exact eqAt_two t t' f.2 j (Nat.lt_of_succ_lt_succ h1) (Nat.lt_of_succ_lt_succ h2)
theorem op_neT (hu : X.A.units < cLine) : OpR X (compareOp .NotEq) (fun x y H Q => ∃ a b xs, x = .ref a ∧ y = .ref b ∧ SqT X.K H a xs ∧ SqT X.K H b xs ∧ xs.all flatV = true ∧ Q (.bl false) H) := by
  intro pins s σ H x y v u Q I rx ry h
  obtain ⟨a, b, xs, rfl, rfl, ha, hb, f, q⟩ := h
  cases rx
  cases ry
  obtain ⟨its, r1, p1, _⟩ := I.tuple ha
  obtain ⟨its2, r2, p2, _⟩ := I.tuple hb
  have l1 := r1.length
  have l2 := r2.length
  refine SeqAt.RcNeAt.tuples (e := fun _ => true) p1 p2 hu (fun j h1 h2 => ?_) X.prog X.w X.xe _ ?_
  · have := eqAt_two (A := X.A.in1) (s := s) r1 r2 f j (by simpa using h1) (by simpa using h2)
    simpa using this
  · have e : (!((List.range (min its.toArray.size its2.toArray.size)).all (fun _ => true) && its.toArray.size == its2.toArray.size)) = false := by
      rw [List.size_toArray, List.size_toArray, ← l1, ← l2]
      simp
    rw [e]
    exact ⟨.bl false, H, I, rfl, q⟩
end
end L2

namespace L2
open PySem
/-! items of a display whose kind is plain at sight: the rest is not looked at -/
section
variable {X : Cx} {es : List Expr} {te : TE} {t : TA}
end
end L2

namespace L2
open PySem
/-! a row of written constants, at once -/
def conE : Expr → Option V
  | .Constant (.int i) _ _ => some (.int i)
  | .Constant (.str z) _ _ => some (.str z)
  | .UnaryOp .USub (.Constant (.int i) _ _) _ => some (.int (-i))
  | _ => none
def conEs : List Expr → Option (List V)
  | [] => some []
  | e :: es => match conE e, conEs es with
    | some v, some vs => some (v :: vs)
    | _, _ => none
section
variable {X : Cx}
theorem con_ok {e : Expr} {v : V} (h : conE e = some v) : PE X e (fun _ H Q => Q v H) ∧ ∀ es, starEach (e :: es) X.env = (false, eval e X.env) :: starEach es X.env := by
  unfold conE at h
  split at h
  · cases h
    exact ⟨pe_int, fun _ => rfl⟩
  · cases h
    exact ⟨pe_str, fun _ => rfl⟩
  · cases h
    refine ⟨fun pins s σ H Q I h => ?_, fun _ => rfl⟩
    exact (pe_un un_neg pe_int) pins s σ H Q I ⟨_, rfl, h⟩
  · cases h
theorem pa_consts : ∀ {es : List Expr} {vs : List V}, conEs es = some vs → PA X es (fun _ H Q => Q vs H)
  | [], vs, h => by
    cases h
    exact pa_nil
  | e :: es, vs, h => by
    unfold conEs at h
    split at h
    · rename_i v vs' h1 h2
      cases h
      obtain ⟨a, b⟩ := con_ok (X := X) h1
      exact pa_cons a (pa_consts h2) (b es)
    · cases h
end
/-! closed-up forms of the layer's readings, whose insides the unifier does not open -/
structure RE (X : Cx) (e : Expr) (t : TE) : Prop where
  p : PE X e t
structure RS (X : Cx) (st : Stmt) (t : TS) : Prop where
  p : PS X st t
structure RSs (X : Cx) (st : List Stmt) (t : TS) : Prop where
  p : PSs X st t
structure RA (X : Cx) (es : List Expr) (t : TA) : Prop where
  p : PA X es t
section
variable {X : Cx} {e a b c : Expr} {es : List Expr} {te ta tb : TE} {tc : TT} {tr : TA} {pos : Pos} {st : Stmt} {ss rest : List Stmt} {t u : TS}
theorem r_one (h : RS X st t) : RSs X [st] t := ⟨pss_one h.p⟩
theorem r_cons (h : RS X st t) (h2 : RSs X rest u) : RSs X (st :: rest) (tSeq t u) := ⟨pss_cons h.p h2.p⟩
theorem r_cut (h : RS X st t) (h2 : RSs X rest u) : RSs X (st :: rest) (tCut t u) := ⟨pss_cut h.p h2.p⟩
theorem r_ret (h : RE X e te) : RS X (.Return (some e) pos) (tRet te) := ⟨ps_ret h.p⟩
theorem r_st (h : PS X st t) : RS X st t := ⟨h⟩
theorem r_set {i : Nat} {x : Str} {pos' : Pos} (hN : X.N.Nodup) (hi : X.N[i]? = some x) (hx : Loc X.env.scope x) (he : RE X e te) (hs : swapsWith e (some (.Name x pos')) pos.line X.env = pure false := by rfl) (hf : X.fn x = true ∨ X.env.scope.names.lookup x = some .local := by first | exact .inl rfl | exact .inr rfl | assumption) : RS X (.Assign [.Name x pos'] e pos) (tAsg te (gName i)) := ⟨ps_set hN hi hx he.p hs hf⟩
theorem r_ixL (ha : RE X a ta) (hb : PE X b tb) (hs : PlainIx b) : RE X (.Subscript a b pos) (tOp (rIxL X.K) ta tb) := ⟨pe_ix ix_list ha.p hb hs⟩
theorem r_lst (h : RA X es tr) : RE X (.List es pos) (tLst tr) := ⟨pe_lst h.p⟩
theorem ra_con {vs : List V} (h : conEs es = some vs) : RA X es (fun _ H Q => Q vs H) := ⟨pa_consts h⟩
theorem ra_c (ha : PE X e te) (hr : RA X es tr) (hs : ∀ es, starEach (e :: es) X.env = (false, eval e X.env) :: starEach es X.env := by intro _; rfl) : RA X (e :: es) (tCons te tr) := ⟨pa_cons ha hr.p (hs es)⟩
end
end L2

namespace L2
open PySem PySem.Spec PyProof.Rows
section
variable {X : Cx} {a b c : Expr} {ta tb tc : TE} {pos : Pos}
/-- a op1 b op2 c of ints, c a calm expression: one truth -/
def tChV (p p' : Int → Int → Bool) (ta tb tc : TE) : TE := fun σ H Q => ta σ H fun x H1 => tb σ H1 fun y H2 => ∃ i j k, x = .int i ∧ y = .int j ∧ tc σ H2 (fun z H3 => z = .int k ∧ H3 = H2) ∧ Q (.bl (p i j && p' j k)) H2
theorem pe_chV {op op' : CmpOp} {p p' : Int → Int → Bool} (ho : OpR X (compareOp op) (rI0 fun i j => .bl (p i j))) (ho' : OpR X (compareOp op') (rI0 fun i j => .bl (p' i j))) (ha : PE X a ta) (hb : PE X b tb) (hc : PE X c tc)
    (hm : lastMarks [op, op'] [b, c] = false := by with_unfolding_all rfl) : PE X (.Compare a [op, op'] [b, c] pos) (tChV p p' ta tb tc) := by
  intro pins s σ H Q I h
  refine Compare_chain (thn (ha pins s σ H _ I h) fun v s1 ⟨x, H1, I1, r1, q1⟩ => chain_link (thn (hb pins s1 σ H1 _ I1 q1) fun u s2 ⟨y, H2, I2, r2, q2⟩ => ?_)) hm
  obtain ⟨i, j, k, rfl, rfl, tq, q⟩ := q2
  refine thn (ho pins s2 σ H2 _ _ v u (fun z H3 => z = .bl (p i j) ∧ H3 = H2) I2 r1 r2 ⟨i, j, rfl, rfl, rfl, rfl⟩) fun d s3 ⟨z, H3, I3, r3, e1, e2⟩ => ?_
  subst e1 e2
  cases r3
  refine wpAny_truthy_bool ?_
  cases e : p i j with
  | false =>
    rw [e, Bool.false_and] at q
    exact ite_ff ⟨.bl false, _, I3, rfl, q⟩
  | true =>
    rw [e, Bool.true_and] at q
    exact ite_tt (chain_last (thn (hc pins s3 σ _ _ I3 tq) fun w' s4 ⟨z', H4, I4, r4, e3, e4⟩ => by
      subst e3 e4
      exact ho' pins s4 σ _ _ _ u w' Q I4 r2 r4 ⟨j, k, rfl, rfl, q⟩))
theorem pt_chV {op op' : CmpOp} {p p' : Int → Int → Bool} (ho : OpR X (compareOp op) (rI0 fun i j => .bl (p i j))) (ho' : OpR X (compareOp op') (rI0 fun i j => .bl (p' i j))) (ha : PE X a ta) (hb : PE X b tb) (hc : PE X c tc)
    (hm : lastMarks [op, op'] [b, c] = false := by with_unfolding_all rfl) : PT X (.Compare a [op, op'] [b, c] pos) (tTest (tChV p p' ta tb tc)) := by
  intro pins s σ H Q I h
  refine isTrue_chain (thn (ha pins s σ H _ I h) fun v s1 ⟨x, H1, I1, r1, q1⟩ => test_link (thn (hb pins s1 σ H1 _ I1 q1) fun u s2 ⟨y, H2, I2, r2, q2⟩ => ?_)) hm
  obtain ⟨i, j, k, rfl, rfl, tq, kk, ek, q⟩ := q2
  cases ek
  refine thn (ho pins s2 σ H2 _ _ v u (fun z H3 => z = .bl (p i j) ∧ H3 = H2) I2 r1 r2 ⟨i, j, rfl, rfl, rfl, rfl⟩) fun d s3 ⟨z, H3, I3, r3, e1, e2⟩ => ?_
  subst e1 e2
  cases r3
  refine wpAny_truthy_bool ?_
  cases e : p i j with
  | false =>
    rw [e, Bool.false_and] at q
    exact ite_ff ⟨_, I3, q⟩
  | true =>
    rw [e, Bool.true_and] at q
    refine ite_tt (test_last (thn (hc pins s3 σ _ _ I3 tq) fun w' s4 ⟨z', H4, I4, r4, e3, e4⟩ => ?_))
    subst e3 e4
    refine thn (ho' pins s4 σ _ _ _ u w' (fun z H5 => z = .bl (p' j k) ∧ H5 = H4) I4 r2 r4 ⟨j, k, rfl, rfl, rfl, rfl⟩) fun d' s5 ⟨z2, H5, I5, r5, e5, e6⟩ => ?_
    subst e5 e6
    cases r5
    exact wpAny_truthy_bool ⟨_, I5, q⟩
end
theorem itB {c : Bool} {A B : Prop} (h1 : c = true → A) (h2 : c = false → B) : if c = true then A else B := by
  cases c with
  | true =>
    rw [if_pos rfl]
    exact h1 rfl
  | false =>
    rw [if_neg Bool.false_ne_true]
    exact h2 rfl
theorem in_strs (z : Str) (zs : List Str) : inV (.str z) (zs.map V.str) = zs.contains z := by
  unfold inV
  rw [List.any_map, List.contains_eq_any_beq]
  congr 1
  funext y
  show (y == z) = (z == y)
  rw [Bool.eq_iff_iff]
  exact ⟨fun h => by rw [eq_of_beq h]; exact beq_self_eq_true z, fun h => by rw [eq_of_beq h]; exact beq_self_eq_true y⟩
theorem strs_flat (zs : List Str) : (zs.map V.str).all flatV = true := by
  rw [List.all_eq_true]
  intro x hx
  obtain ⟨n, _, rfl⟩ := List.mem_map.mp hx
  rfl
theorem Same.seqT {K : PySem.W.Frag} {H H' : Hp} {a : Addr} {xs : List V} (e : Same H H') (h : SqT K H a xs) : SqT K H' a xs := by
  rcases h with (h | ⟨o, h⟩) | h
  · exact .inl (.inl (e _ _ h))
  · exact .inl (.inr ⟨o, e _ _ h⟩)
  · exact .inr h
end L2

namespace PySem
open Sem (wp)
open AutoSeq1 (wpAny_loadPart')
set_option maxRecDepth 100000
/-! enumerate over a tuple -/
section
variable {prog : Program} {w : World} {A : Around} {E : Value → Shared → Prop} {s : Shared}
theorem nextTup_item {q tt : Addr} {i : Nat} {vs : Array Value} {x : Value} {Q : Value → Shared → Prop} (g : s.heap.IsTupleIter q tt i) (gt : s.heap.IsTuple tt vs) (gx : vs[i]? = some x)
    (hQ : ∀ h', h'.IsTupleIter q tt (i + 1) → Heap.SameBut q s.heap h' → Q x { s with heap := h' }) : wpAny (model prog w) A (Builtin.SmallTypes.nextOf (.ref q)) Q E s := by
  obtain ⟨ob, go, gc, gd⟩ := id g
  obtain ⟨ot, got, _, nt, gdt⟩ := gt
  unfold Builtin.SmallTypes.nextOf
  refine wpAny_bind (wpAny_callSpecial?_slot (name := Str.ofString "__next__") g.typeIs F.slot_tuple_iterator_next (wpAny_call_entry F.slot_tuple_iterator_next g.typeIs F.entry_tuple_iterator_next ?_ (F.args_tuple_iterator_next_1 _)))
  show wpAny _ _ (field (.ref q) 0 >>= _) _ _ s
  refine wpAny_bind (wpAny_field go gd (x := .ref tt) rfl ?_)
  show wpAny _ _ (if (Value.ref tt == Value.none) = true then _ else _) _ _ s
  rw [if_neg (show ¬ ((Value.ref tt == Value.none) = true) from Bool.false_ne_true)]
  show wpAny _ _ (field (.ref q) 1 >>= _) _ _ s
  refine wpAny_bind (wpAny_field go gd (x := .int i 0) rfl ?_)
  show wpAny _ _ (seqItems? (.ref tt) >>= _) _ _ s
  refine wpAny_bind (wpAny_seqItems got gdt ?_)
  simp only [Int.toNat_natCast, gx]
  refine wpAny_bind (wpAny_setField go gd (by simp) (wpAny_pure ⟨x, rfl, wpAny_pure (hQ _ ?_ (Heap.SameBut.update ..))⟩))
  exact ⟨_, Heap.get?_update_self _ go (Obj.isFreed_of_fields (Obj.data_mapFields gd _)), (Obj.cls_mapFields ..).trans gc, by rw [Obj.data_mapFields gd]; simp [rawInt]⟩
theorem nextTup_end {q tt : Addr} {i : Nat} {vs : Array Value} {Q : Value → Shared → Prop} (hh : A.handled = none) (g : s.heap.IsTupleIter q tt i) (gt : s.heap.IsTuple tt vs) (gx : vs[i]? = none)
    (hE : ∀ h' e, Heap.ExtBut q s.heap h' → (∃ o, h'.get? e = some o ∧ o.cls = .type "StopIteration") → E (.ref e) { s with heap := h' }) : wpAny (model prog w) A (Builtin.SmallTypes.nextOf (.ref q)) Q E s := by
  obtain ⟨ob, go, gc, gd⟩ := id g
  obtain ⟨ot, got, _, nt, gdt⟩ := gt
  unfold Builtin.SmallTypes.nextOf
  refine wpAny_bind (wpAny_callSpecial?_slot (name := Str.ofString "__next__") g.typeIs F.slot_tuple_iterator_next (wpAny_call_entry F.slot_tuple_iterator_next g.typeIs F.entry_tuple_iterator_next ?_ (F.args_tuple_iterator_next_1 _)))
  show wpAny _ _ (field (.ref q) 0 >>= _) _ _ s
  refine wpAny_bind (wpAny_field go gd (x := .ref tt) rfl ?_)
  show wpAny _ _ (if (Value.ref tt == Value.none) = true then _ else _) _ _ s
  rw [if_neg (show ¬ ((Value.ref tt == Value.none) = true) from Bool.false_ne_true)]
  show wpAny _ _ (field (.ref q) 1 >>= _) _ _ s
  refine wpAny_bind (wpAny_field go gd (x := .int i 0) rfl ?_)
  show wpAny _ _ (seqItems? (.ref tt) >>= _) _ _ s
  refine wpAny_bind (wpAny_seqItems got gdt ?_)
  simp only [Int.toNat_natCast, gx]
  refine wpAny_bind (wpAny_rule (wpAny_bind (wpAny_setField go gd (by simp) ?_)))
  show wpAny _ _ ((newExc (.type "StopIteration") []) >>= _) _ _ _
  refine wpAny_bind ?_
  simp only [newExc, newTuple]
  refine (wpAny_bind (wpAny_newObj_type ?_ (by size_fits)))
  refine (wpAny_bind (m := firstArgMember _ _) (wpAny_of_eq (a := Value.none) (by first | rfl | (simp only [firstArgMember]; rfl)) ?_))
  refine (wpAny_newObj_type ?_ (by size_fits))
  simp only [raiseNew]
  refine wpAny_bind (wpAny_handled ?_)
  (first | rw [show A.in1.handled = none from hh] | rw [hh])
  refine (wpAny_bind (wpAny_pure (wpAny_throw ?_)))
  exact (hE _ _ (((Heap.SameBut.update ..).extBut.push _).push _) ⟨_, Heap.get?_push_size _ rfl, rfl⟩)
end
theorem drawsTup {prog : Program} {w : World} {A : Around} (hh : A.handled = none) (q tt : Addr) (hne : tt ≠ q) (vs : Array Value) :
    Draws prog w A q [q, tt] vs.size (fun i v => vs[i]? = some v) (fun i h => h.IsTupleIter q tt i ∧ h.IsTuple tt vs) where
  live := fun _ _ st => let ⟨o, ho, _⟩ := st.1; ⟨o, ho⟩
  frame := fun _ _ _ st hk => ⟨st.1.at fun o e => hk q (by simp) o e, st.2.at fun o e => hk tt (by simp) o e⟩
  item := fun i s Q E hi st hQ => by
    refine nextTup_item st.1 st.2 (x := vs[i]) (by simp [hi]) fun h' hit' hs' => ?_
    exact hQ _ h' s.toks (by simp [hi]) ⟨hit', st.2.extBut hs'.extBut hne⟩ hs'
  done := fun s Q E st hE => nextTup_end hh st.1 st.2 (by simp) hE
theorem enumNewT (l : Addr) (vs : Array Value) (n : Nat) (dct : Option Addr) (sl : Array (Option Value)) :
    Meets (Builtin.«enumerate.__new__» ⟨[.type "enumerate", .ref l], []⟩) (fun _ R s => s.heap.get? l = some { cls := .type "tuple", dict := dct, data := .seq vs n, slots := sl } ∧
      R (.ok (.ret (.ref (s.heap.push { cls := .type "tuple_iterator", data := .fields #[.ref l, .int 0 0] }).objs.size)))
        { s with heap := (s.heap.push { cls := .type "tuple_iterator", data := .fields #[.ref l, .int 0 0] }).push { cls := .type "enumerate", data := .fields #[.none, .bool false, .ref s.heap.objs.size, rawInt 0, .none, .none] } }) :=
  .of_wp fun prog w A R s h => by
    obtain ⟨hp, g, d, tk, os⟩ := s
    obtain ⟨hl, h⟩ := h
    have hsub := sub_enumerate
    have hL : Heap.IsTuple (Shared.heap ⟨hp, g, d, tk, os⟩) l vs := ⟨_, hl, rfl, n, rfl⟩
    wp_walk using wpAny_loadPart' hl
    refine wpAny_stack_any fun st => wpAny_pure ?_
    split
    · rename_i c _ _ _ _ _
      cases (c == Value.type "enumerate")
      · wp_walk using wpAny_loadPart' hl, wpAny_pyIter_tuple hL
        exact ⟨_, rfl, h⟩
      · wp_walk using wpAny_loadPart' hl, wpAny_pyIter_tuple hL
        exact ⟨_, rfl, h⟩
    · wp_walk using wpAny_loadPart' hl, wpAny_pyIter_tuple hL
      exact ⟨_, rfl, h⟩
theorem callEnumT {prog : Program} {w : World} {A : Around} {E : Value → Shared → Prop} {s : Shared} {l : Addr} {vs : Array Value} {Q : Value → Shared → Prop} (hL : s.heap.IsTuple l vs)
    (h : ∀ h', IsEnum h' (s.heap.objs.size + 1) s.heap.objs.size 0 .none → h'.IsTupleIter s.heap.objs.size l 0 → h'.objs.size = s.heap.objs.size + 2 →
      (∀ b o, s.heap.get? b = some o → h'.get? b = some o) → Q (.ref (s.heap.objs.size + 1)) { s with heap := h' }) :
    wpAny (model prog w) A (call (.type "enumerate") [.ref l]) Q E s := by
  obtain ⟨⟨c, dct, dt, sl⟩, hl, hc, n, hd⟩ := hL
  replace hc : c = .type "tuple" := hc
  replace hd : dt = .seq vs n := hd
  subst hc hd
  refine callType_new F.called_enumerate (by decide) (F.typeCall_enumerate_1 _) (F.newCall_enumerate_1 _) (fun obj => F.args_object_init_2 obj _) F.entry_enumerate_new (enumNewT l vs n dct sl) ⟨hl, ?_⟩
  have hz : (s.heap.push { cls := .type "tuple_iterator", data := .fields #[.ref l, .int 0 0] }).objs.size = s.heap.objs.size + 1 := Heap.size_push ..
  show _ ∧ _
  rw [hz]
  have he : IsEnum ((s.heap.push { cls := .type "tuple_iterator", data := .fields #[.ref l, .int 0 0] }).push
      { cls := .type "enumerate", data := .fields #[.none, .bool false, .ref s.heap.objs.size, rawInt 0, .none, .none] }) (s.heap.objs.size + 1) s.heap.objs.size 0 .none := by
    have := Heap.get?_push_size (s.heap.push { cls := .type "tuple_iterator", data := .fields #[.ref l, .int 0 0] })
      (o := { cls := .type "enumerate", data := .fields #[.none, .bool false, .ref s.heap.objs.size, rawInt 0, .none, .none] }) rfl
    rw [hz] at this
    exact this
  exact ⟨⟨_, he, rfl⟩, h _ he ⟨_, Heap.get?_push_of_some _ (Heap.get?_push_size _ rfl), rfl, rfl⟩ (by rw [Heap.size_push, hz]) fun b o x => Heap.get?_push_of_some _ (Heap.get?_push_of_some _ x)⟩
theorem enumEndT {prog : Program} {w : World} {A : Around} {E : Value → Shared → Prop} {s : Shared} {e q tt : Addr} {vs : Array Value} {i : Nat} {j : Int} {old : Value} {Q : Option Value → Shared → Prop} (hh : A.handled = none) (he : IsEnum s.heap e q j old) (g : s.heap.IsTupleIter q tt i) (gt : s.heap.IsTuple tt vs) (gx : vs[i]? = none)
    (hQ : ∀ h', Heap.ExtBut q s.heap h' → Q none { s with heap := h' }) : wpAny (model prog w) A (pyNext (.ref e)) Q E s := by
  have hT : s.TypeIs (.ref e) "enumerate" := ⟨_, he, rfl⟩
  unfold pyNext
  refine wpAny_bind (wpAny_attempt (wpAny_callSpecial?_slot (name := Str.ofString "__next__") hT F.slot_enumerate_next (wpAny_call_entry F.slot_enumerate_next hT F.entry_enumerate_next ?_ (F.args_enumerate_next_1 _))))
  show wpAny _ _ (field (.ref e) 2 >>= _) _ _ _
  refine wpAny_bind (wpAny_field he rfl (x := .ref q) rfl ?_)
  refine wpAny_bind (nextTup_end (A := A.in1) hh g gt gx fun h' x he' hx' => ?_)
  obtain ⟨o, ho, hc⟩ := hx'
  refine (wpAny_bind (wpAny_isInstance (T := "StopIteration") (b := true) ⟨o, ho, hc⟩ isSubtype_stop ?_))
  exact wpAny_pure (hQ _ he')
end PySem
namespace L2
open PySem PySem.Spec PyProof.Rows
section
variable {X : Cx} {pins : List (Addr × Obj)} {σ : St} {H : Hp} {s : Shared} {h' : Heap}
/-- several untracked records of ours have turned -/
theorem Inv.turnedL {t' : Nat} {ts : List Addr} (I : Inv X pins σ H s) (k : ∀ b o, b ∉ ts → s.heap.get? b = some o → h'.get? b = some o) (hf : ∀ b ∈ ts, FpOk X pins H b) : Inv X pins σ H { s with heap := h', toks := t' } := by
  have nit : ∀ b u, H b = some u → b ∉ ts := fun b u e z => by
    rw [(hf b z).1] at e
    cases e
  refine I.step (g' := s.gens) (d' := s.drawn) (ch := ts) (fun b hb => ?_) (fun b o _ _ hc e _ => k b o hc e) (fun b o _ _ hc e _ => ⟨o.slots, k b o hc e⟩) (fun _ _ _ _ n => n) (fun b o hc e => ⟨o, k b o hc e⟩) (fun _ _ e => e) (fun _ _ _ e => e) (fun b ps e => ⟨#[], by rw [e]; simp⟩) (fun m hm => ?_) (fun b u e => ?_) I.bare
  · obtain ⟨f0, f1, f2, f3, f4, f5⟩ := hf b hb
    exact ⟨f3, f1, f4, f5⟩
  · obtain ⟨o, es, ep, ho, r⟩ := hm
    exact ⟨o, es, ep, k _ o (fun z => (hf _ z).2.1 rfl) ho, r⟩
  · refine (I.hok b u e).stay (fun c v hc q => k c v ?_ q) (fun _ q => q) fun _ _ q => q
    rcases hc with z | z
    · rw [z]
      exact nit b u e
    · exact nit c _ z
end
/-- number and item of a tuple, at each turn in a new pair -/
def Ite (K : PySem.W.Frag) (a : Addr) : It :=
  ⟨fun i H => ∃ xs x, SqT K H a xs ∧ xs[i]? = some x, fun i H v H' => ∃ (t : Addr) (x : V), v = .ref t ∧ H t = none ∧ (∀ xs, SqT K H a xs → xs[i]? = some x) ∧ H' = upd H t (.tup [.int (i : Int), x]), fun i H => ∃ xs, SqT K H a xs ∧ xs.length ≤ i⟩
theorem turn_enum {P : Program} {w : World} {K : PySem.W.Frag} {es : List Expr} {k : Nat} {pos : Pos} (a e q : Addr) : Turn P w K (.Tuple es k pos) (Ite K a) [e, q] e (fun i h => (∃ old, IsEnum h e q (i : Nat) old) ∧ h.IsTupleIter q a i) where
  mem := by simp
  obj := fun i h st b hb => by
    obtain ⟨⟨old, he⟩, o, ho, hc, hd⟩ := st
    rcases List.mem_cons.mp hb with rfl | hb
    · refine ⟨_, he, fun v z => ?_⟩
      have z2 : Data.fields _ = Data.cell v := z
      cases z2
    · rw [List.mem_singleton.mp hb]
      exact ⟨o, ho, fun v z => by rw [hd] at z; cases z⟩
  keep := fun i h h' st k => by
    obtain ⟨⟨old, he⟩, hq⟩ := st
    exact ⟨⟨old, k e (by simp) _ he⟩, hq.at fun o z => k q (by simp) o z⟩
  item := by
    intro X hP hw hK hc i pins s σ H E I hf st hg
    subst hP hw hK
    obtain ⟨xs, x, hq, hx⟩ := hg
    obtain ⟨its, rv, p, hz⟩ := I.tuple hq
    obtain ⟨u, hu, ru⟩ := rv.get hx
    obtain ⟨⟨old, he⟩, hit⟩ := st
    have pt : s.heap.IsTuple a its.toArray := p
    have naq : a ≠ q := fun z => by
      obtain ⟨o1, g1, c1, _⟩ := pt
      obtain ⟨o2, g2, c2, _⟩ := hit
      rw [z, g2] at g1
      cases g1
      rw [c2] at c1
      injection c1 with c1
      exact absurd c1 (by decide)
    have neq : e ≠ q := fun z => by
      obtain ⟨o2, g2, c2, _⟩ := hit
      rw [← z] at g2
      have g3 := g2.symm.trans he
      cases g3
      have c3 : Value.type "enumerate" = Value.type "tuple_iterator" := c2
      injection c3 with c3
      exact absurd c3 (by decide)
    have nea : e ≠ a := fun z => by
      obtain ⟨o1, g1, c1, _⟩ := pt
      rw [← z] at g1
      have g3 := g1.symm.trans he
      cases g3
      have c3 : Value.type "enumerate" = Value.type "tuple" := c1
      injection c3 with c3
      exact absurd c3 (by decide)
    have D := drawsTup (prog := X.prog) (w := X.w) (A := X.A.in1) (I.ok.hd hc) q a naq its.toArray
    have hlt : i < its.toArray.size := by
      have := (List.getElem?_eq_some_iff.mp hu).1
      simpa using this
    have hnew : H s.heap.objs.size = none := I.hok.fresh (Nat.le_refl _)
    refine wpAny_pyNext_enum_itemD D he ⟨hit, pt⟩ hlt neq (by simp [neq, nea]) fun y h1 tk hy ho hs1 hT hsz hk => ?_
    obtain rfl : y = u := by
      rw [List.getElem?_toArray, hu] at hy
      exact (Option.some.inj hy).symm
    refine ⟨_, rfl, wpAny_letOwnedTupleGo_enum ho fun h2 he2 sb => ?_⟩
    have nse : s.heap.objs.size ≠ e := Nat.ne_of_gt (Heap.lt_size he)
    have nsq : s.heap.objs.size ≠ q := by
      obtain ⟨o2, g2, _⟩ := hit
      exact Nat.ne_of_gt (Heap.lt_size g2)
    have kk : ∀ b o, b ∉ [e, q] → s.heap.get? b = some o → h2.get? b = some o := fun b o hb g => by
      have b1 : b ≠ e := fun z => hb (by simp [z])
      have b2 : b ≠ q := fun z => hb (by simp [z])
      exact (sb.2 b b1).trans (hk b o b1 b2 g)
    have I1 : Inv X pins σ H { s with heap := h2, toks := tk + 1 } := I.turnedL kk hf
    have I2 : Inv X pins σ (upd H s.heap.objs.size (.tup [.int (i : Int), x])) { s with heap := h2, toks := tk + 1 } := by
      refine Inv.adopt I1 (I.fpOk (Nat.le_refl _) hnew) ⟨by show 2 ≤ sizeLine; decide, [.int i tk, y], .cons ⟨tk, rfl⟩ (.cons ru .nil), ?_⟩
      exact ⟨_, (sb.2 _ nse).trans hT, rfl, _, rfl⟩
    refine ⟨.ref s.heap.objs.size, _, I2, rfl, ⟨_, x, rfl, hnew, fun ys hy => by rw [I.tuple_inj hy hq]; exact hx, rfl⟩, ⟨⟨y, by have := he2; simpa using this⟩, hs1.1.at fun o g => (sb.2 q (Ne.symm neq)).trans g⟩, fun b hb => ?_⟩
    have nb : b ≠ s.heap.objs.size := by
      rcases List.mem_cons.mp hb with rfl | hb
      · exact Ne.symm nse
      · rw [List.mem_singleton.mp hb]
        exact Ne.symm nsq
    rw [upd_ne nb]
    exact (hf b hb).1
  done := by
    intro X hP hw hK hc i pins s σ H E I hf st hg
    subst hP hw hK
    obtain ⟨xs, hq, hx⟩ := hg
    obtain ⟨its, rv, p, hz⟩ := I.tuple hq
    obtain ⟨⟨old, he⟩, hit⟩ := st
    have pt : s.heap.IsTuple a its.toArray := p
    have hl := rv.length
    have hnone : its.toArray[i]? = none := by simp; omega
    refine enumEndT (I.ok.hd hc) he hit pt hnone fun h2 eb => ⟨rfl, ?_⟩
    exact I.turnedL (t' := s.toks) (fun b o hb g => eb b o (fun z => hb (by simp [z])) g) hf
  self := fun _ _ _ _ _ st h => by
    obtain ⟨⟨old, he⟩, _⟩ := st
    exact wpAny_pyIter_enum he h
section
variable {X : Cx} {es : List Expr} {k : Nat} {tpos : Pos}
def iEnum (K : PySem.W.Frag) (ta : TA) : TI := fun σ H R => ta σ H fun vs H1 => ∃ a, vs = [.ref a] ∧ (∃ xs, SqT K H1 a xs) ∧ R (Ite K a) H1
theorem pi_enum {l : Expr} {ta : TA} {p pos : Pos} (hg : Gl X "enumerate") (hm : X.mg "enumerate" = none) (ha : PA X [l] ta) (hs : starEach [l] X.env = [(false, eval l X.env)] := by rfl) : PI X (.Tuple es k tpos) (.Call (.Name "enumerate" p) [l] [] pos) (iEnum X.K ta) := by
  intro pins s σ H R I h
  refine Call_ (ld_blt I hg hm boot_enumerate (PyProof.Rows.callWith_type1 (thn (ha pos pins s σ H _ I h) fun us s1 ⟨vs, H1, I1, r1, q1⟩ => ?_) hs rfl))
  obtain ⟨a, e, ⟨xs, hq⟩, q⟩ := q1
  subst e
  cases r1 with
  | cons r rr =>
    cases rr
    cases r
    obtain ⟨its, rv, p, hz⟩ := I1.tuple hq
    refine callEnumT (show s1.heap.IsTuple a its.toArray from p) fun h' he hit hsz hk => ?_
    refine wpAny_pyIter_enum he ?_
    have I2 : Inv X pins σ H1 { s1 with heap := h' } := I1.kept (t' := s1.toks) hk
    refine ⟨s1.heap.objs.size + 1, [s1.heap.objs.size + 1, s1.heap.objs.size], _, _, H1, rfl, I2, turn_enum a _ _, ⟨⟨.none, by simpa using he⟩, hit⟩, fun b hb => ?_, q⟩
    rcases List.mem_cons.mp hb with rfl | hb
    · exact I1.fpOk (Nat.le_succ _) (I1.hok.fresh (Nat.le_succ _))
    · rw [List.mem_singleton.mp hb]
      exact I1.fpOk (Nat.le_refl _) (I1.hok.fresh (Nat.le_refl _))
end
theorem for_enum {K : PySem.W.Frag} {a : Addr} {xs : List V} {g : TG} {tb : TS} {D : Ends} {σ : St} {H : Hp} (Pv : Nat → St → Hp → Prop) (h0 : Pv 0 σ H) (hl : ∀ i σ H, i ≤ xs.length → Pv i σ H → SqT K H a xs)
    (hs : ∀ i x σ H t, xs[i]? = some x → Pv i σ H → H t = none → g (.ref t) σ (upd H t (.tup [.int (i : Int), x])) fun σ2 H2 => tb { D with nx := Pv (i + 1), ct := Pv (i + 1), bk := D.nx } σ2 H2) (hd : ∀ σ H, Pv xs.length σ H → D.nx σ H) :
    ∃ W : Nat → Nat → St → Hp → Prop, (∃ m, W 0 m σ H) ∧ ∀ i m σ H, W i m σ H →
      ((Ite K a).stop i H ∧ D.nx σ H) ∨ ((Ite K a).go i H ∧ ∃ N : St → Hp → Prop, (∀ σ' H', N σ' H' → ∃ m', m' < m ∧ W (i + 1) m' σ' H') ∧ ∀ x H', (Ite K a).yld i H x H' → g x σ H' fun σ2 H2 => tb { D with nx := N, ct := N, bk := D.nx } σ2 H2) := by
  refine ⟨fun i m σ H => m + i = xs.length ∧ Pv i σ H, ⟨xs.length, rfl, h0⟩, ?_⟩
  rintro i m σ H ⟨hm, p⟩
  have hq := hl i σ H (by omega) p
  by_cases hlt : i < xs.length
  · refine .inr ⟨⟨xs, xs[i], hq, by simp [hlt]⟩, Pv (i + 1), fun σ' H' p' => ⟨m - 1, by omega, by omega, p'⟩, fun v H' y => ?_⟩
    obtain ⟨t, x, rfl, ht, hx, rfl⟩ := y
    exact hs i x σ H t (hx xs hq) p ht
  · obtain rfl : i = xs.length := by omega
    exact .inl ⟨⟨xs, hq, Nat.le_refl _⟩, hd σ H p⟩
end L2

namespace L2
open PySem PySem.Spec PyProof.Rows
section
variable {X : Cx}
theorem range_any (n : Nat) (f : Nat → Bool) (bs : List Bool) (hl : bs.length = n) (hf : ∀ i b, bs[i]? = some b → f i = b) : (List.range n).any f = bs.any id := by
  rw [Bool.eq_iff_iff, List.any_eq_true, List.any_eq_true]
  constructor
  · rintro ⟨i, hi, h⟩
    have hi' : i < bs.length := by rw [hl]; exact List.mem_range.mp hi
    rw [hf i _ (List.getElem?_eq_getElem hi')] at h
    exact ⟨_, List.getElem_mem hi', h⟩
  · rintro ⟨b, hb, h⟩
    obtain ⟨i, e⟩ := List.mem_iff_getElem?.mp hb
    have hi := (List.getElem?_eq_some_iff.mp e).1
    exact ⟨i, List.mem_range.mpr (by omega), by rw [hf i b e]; exact h⟩
/-- any(bs), bs a list of truths -/
theorem call_anyB (hc : X.calm = true) : CallR X (.builtin "any") (fun xs H Q => ∃ (p : Addr) (bs : List Bool), xs = [.ref p] ∧ SqL X.K H p (bs.map V.bl) ∧ Q (.bl (bs.any id)) H) := by
  intro pins s σ H xs us Q I r h
  obtain ⟨p, bs, rfl, hq, q⟩ := h
  obtain ⟨u, rfl, rx⟩ := vals1 r
  cases rx
  obtain ⟨its, rv, pl, hz⟩ := I.list hq
  have hlen := rv.length
  rw [List.length_map] at hlen
  have hlt : p < s.heap.objs.size := by
    obtain ⟨o, ho, _⟩ := pl.isList
    exact Heap.lt_size ho
  refine call_any_walk (wpAny_pyIter_list pl.isList ?_)
  refine ⟨s.heap.objs.size, [s.heap.objs.size, p], [s.heap.objs.size], its.toArray.size, fun i v => its.toArray[i]? = some v, fun i h => h.IsListIter s.heap.objs.size p i ∧ h.IsList p its.toArray, fun i => (bs[i]?).getD true, rfl,
    Walks.list (A := X.A.in1) (I.ok.hd hc) _ _ (Nat.ne_of_lt hlt) _, ⟨⟨_, Heap.get?_push_size _ rfl, rfl, rfl⟩, pl.isList.at fun o e => Heap.get?_push_of_some _ e⟩, ?_, ?_⟩
  · intro i v s' Q' E' hv hQ'
    have hi : i < bs.length := by
      have := (Array.getElem?_eq_some_iff.mp hv).1
      simp only [List.size_toArray] at this
      omega
    have e : bs[i]? = some bs[i] := List.getElem?_eq_getElem hi
    obtain ⟨u, hu, ru⟩ := rv.get (i := i) (x := V.bl bs[i]) (by rw [List.getElem?_map, e]; rfl)
    have hv' : its[i]? = some v := by simpa using hv
    rw [hu] at hv'
    cases hv'
    cases ru
    have hQ2 : Q' ((bs[i]?).getD true) s' := hQ'
    rw [e] at hQ2
    exact wpAny_truthy_bool hQ2
  · intro h' tk k
    refine ⟨.bl (bs.any id), H, I.kept (t' := tk) (h' := h') fun b u e => k b u (fun z => ?_) (Heap.get?_push_of_some _ e), ?_, q⟩
    · have z' : b = s.heap.objs.size := by simpa using z
      exact absurd (Heap.lt_size e) (by rw [z']; exact Nat.lt_irrefl _)
    · show Value.bool _ = Value.bool _
      rw [range_any its.toArray.size _ bs (by simp only [List.size_toArray]; exact hlen) fun i b e => by rw [e]; rfl]
end
end L2

namespace L2
open PySem PySem.Spec PyProof.Rows
section
variable {X : Cx}
/-- max(xs), xs a list of ints: the first of the greatest -/
theorem call_maxG (hc : X.calm = true) : CallR X (.builtin "max") (fun xs H Q => ∃ (p : Addr) (ns : List Int), xs = [.ref p] ∧ SqL X.K H p (ns.map V.int) ∧ ns ≠ [] ∧ Q (.int (ns.getD (argBest (fun i j => decide (ns.getD i 0 > ns.getD j 0)) (ns.length - 1)) 0)) H) := by
  intro pins s σ H xs us Q I r h
  obtain ⟨p, ns, rfl, hq, hne, q⟩ := h
  obtain ⟨u, rfl, rx⟩ := vals1 r
  cases rx
  obtain ⟨its, rv, pl, _⟩ := I.list hq
  have hI : IntsAre its.toArray.toList ns := intsAre_of rv
  have hl : its.toArray.size = ns.length := by
    have := hI.length
    simpa using this
  have h0 : 0 < ns.length := by
    cases ns with
    | nil => exact absurd rfl hne
    | cons _ _ => simp
  have hlt : p < s.heap.objs.size := by
    obtain ⟨o, ho, _⟩ := pl.isList
    exact Heap.lt_size ho
  have vals : ∀ (i : Nat) (v : Value), its.toArray[i]? = some v → ∃ t, v = .int (ns.getD i 0) t := fun i v hv => IntsAre.int_at hI i v (by rw [Array.getElem?_toList]; exact hv)
  refine call_max_walk (wpAny_pyIter_list pl.isList ?_)
  refine ⟨s.heap.objs.size, [s.heap.objs.size, p], [s.heap.objs.size], its.toArray.size, fun i v => its.toArray[i]? = some v, fun i h => h.IsListIter s.heap.objs.size p i ∧ h.IsList p its.toArray, fun i j => decide (ns.getD i 0 > ns.getD j 0), rfl, Walks.list (A := X.A.in1) (I.ok.hd hc) _ _ (Nat.ne_of_lt hlt) _,
    ⟨⟨_, Heap.get?_push_size _ rfl, rfl, rfl⟩, pl.isList.push _⟩, fun b hb => ?_, by omega, CmpOf.ints_gt (fun i => ns.getD i 0) vals, fun v h' tk hP k => ?_⟩
  · show b < (s.heap.push _).objs.size
    rw [Heap.size_push]
    rcases List.mem_cons.mp hb with rfl | hb
    · exact Nat.lt_succ_self _
    · rw [List.mem_singleton.mp hb]
      exact Nat.lt_succ_of_lt hlt
  · rw [hl] at hP
    obtain ⟨t, rfl⟩ := vals _ v hP
    refine ⟨.int _, H, I.kept (t' := tk) (h' := h') fun b o e => k b o (fun z => ?_) (Heap.get?_push_of_some _ e), ⟨t, rfl⟩, q⟩
    have z' : b = s.heap.objs.size := by simpa using z
    exact absurd (Heap.lt_size e) (by rw [z']; exact Nat.lt_irrefl _)
end
end L2

namespace HT
open PySem PySem.Spec PyProof.Rows
section
variable {prog : Program} {w : World} {A : Around} {E : Value → Shared → Prop} {s : Shared}
/-- the whole of a tuple, cut, is the tuple itself -/
theorem getItem_tuple_whole {t sl : Addr} {items : Array Value} {vl vu : Value} {lo hi : Option Int} {Q : Value → Shared → Prop} (ht : IsTup s.heap t items) (hs : s.heap.IsSliceOf sl vl vu .none) (pl : IsPart vl lo) (pu : IsPart vu hi)
    (hw : sIx items.size 0 lo = 0 ∧ sIx items.size items.size hi = items.size) (h : Q (.ref t) s) : wpAny (model prog w) A (getItem (.ref t) (.ref sl)) Q E s := by
  obtain ⟨os, hos, hcs, hds⟩ := id hs
  have hTs : s.TypeIs (.ref sl) "slice" := ⟨os, hos, hcs⟩
  unfold getItem
  try with_reducible refine wpAny_holding ?_
  first | refine wpAny_bind (wpAny_pure ?_) | skip
  refine wpAny_bind (wpAny_sequenceKey ht.typeIs (by decide) ?_)
  refine wpAny_bind (wpAny_callSpecial?_slot (name := Str.ofString "__getitem__") ht.typeIs PyProof.Rows.slot_tuple_getitem
    (wpAny_call_entry PyProof.Rows.slot_tuple_getitem ht.typeIs entry_tuple_getitem ?_ (args_tuple_getitem _ _)))
  show wpAny _ _ (Builtin.Tuple.tupleItemsOf (.ref t) >>= _) _ _ s
  refine wpAny_bind (tupleItemsOf_ ht ?_)
  refine wpAny_bind (wpAny_typeOf hTs ?_)
  rw [if_pos (by decide)]
  refine wpAny_bind (sliceApplied_gen hs pl pu ?_)
  have hyes : (((sIx items.size 0 lo : Nat) : Int) == 0 && (1 : Int) == 1 && (sIx items.size items.size hi - sIx items.size 0 lo) == items.size) = true := by
    rw [hw.1, hw.2]
    simp
  show wpAny _ _ (if (((sIx items.size 0 lo : Nat) : Int) == 0 && (1 : Int) == 1 && (sIx items.size items.size hi - sIx items.size 0 lo) == items.size) = true then _ else _) _ _ s
  rw [if_pos hyes]
  have hx : wpAny (model prog w) A.in1 (Builtin.Tuple.tupleIsExact (Value.ref t)) (fun b s' => b = true ∧ s' = s) (fun _ _ => False) s := by
    unfold Builtin.Tuple.tupleIsExact
    exact wpAny_bind (wpAny_typeOf ht.typeIs (wpAny_pure ⟨by decide, rfl⟩))
  refine wpAny_bind (wpAny_mono hx (fun b s' ⟨e1, e2⟩ => ?_) (fun _ _ z => z.elim))
  subst e1 e2
  rw [if_pos rfl]
  exact wpAny_bind (wpAny_rule (wpAny_pure ⟨_, rfl, wpAny_pure h⟩))
end
end HT
namespace L2
open PySem PySem.Spec PyProof.Rows
section
variable {X : Cx}
/-- t[lo:hi], be it the whole or not -/
def rSlA (K : PySem.W.Frag) : V → Option Int → Option Int → Hp → VK → Prop := fun x lo hi H Q => ∃ a xs, x = .ref a ∧ SqT K H a xs ∧
  ((HT.sIx xs.length 0 lo = 0 ∧ HT.sIx xs.length xs.length hi = xs.length) → Q (.ref a) H) ∧ (¬ (HT.sIx xs.length 0 lo = 0 ∧ HT.sIx xs.length xs.length hi = xs.length) → ∀ p, H p = none → Q (.ref p) (upd H p (.tup (cutV xs lo hi))))
theorem sl_tupA : SlR X (rSlA X.K) := by
  intro pins s σ H x v vl vu lo hi sl Q I rx hs pl pu h
  obtain ⟨a, xs, rfl, hx, h1, h2⟩ := h
  by_cases hw : HT.sIx xs.length 0 lo = 0 ∧ HT.sIx xs.length xs.length hi = xs.length
  · cases rx
    obtain ⟨its, r, ht, hz⟩ := I.tuple hx
    have hlen : its.toArray.size = xs.length := by rw [List.size_toArray]; exact r.length.symm
    refine ⟨"tuple", _, PyProof.Rows.slot_tuple_getitem.lookup, ht.typeIs, ?_⟩
    exact HT.getItem_tuple_whole ht hs pl pu (by rw [hlen]; exact hw) ⟨.ref a, _, I, rfl, h1 hw⟩
  · exact sl_tup pins s σ H _ v vl vu lo hi sl Q I rx hs pl pu ⟨a, xs, rfl, hx, hw, h2 hw⟩
end
end L2

namespace Wds
open PySem L2
/-! words -/
abbrev alpha : Str := "abcdefghijklmnopqrstuvwxyz"
def inA (c : Nat) : Bool := !(Builtin.Str.occurrences alpha ⟨#[c]⟩ 0 alpha.length 1).isEmpty
def isW (z : Str) : Bool := (decide ((1 : Int) ≤ (z.length : Int)) && decide ((z.length : Int) ≤ 12)) && (z.cps.toList.map inA).all id
def spWord : Sp := fun vs H Q _ => ∃ z : Str, vs = [.str z] ∧ z.length ≤ 1000 ∧ ∀ H' : Hp, Same H H' → Q (.bl (isW z)) H'
theorem isW_len {z : Str} (h : z.length = 0 ∨ 12 < z.length) : isW z = false := by
  unfold isW
  have : (decide ((1 : Int) ≤ (z.length : Int)) && decide ((z.length : Int) ≤ 12)) = false := by
    rcases h with h | h
    · rw [decide_eq_false (by omega : ¬ (1 : Int) ≤ (z.length : Int)), Bool.false_and]
    · rw [decide_eq_false (by omega : ¬ (z.length : Int) ≤ 12), Bool.and_false]
  rw [this, Bool.false_and]
theorem isW_bad {z : Str} {i c : Nat} (h : z.cps[i]? = some c) (b : inA c = false) : isW z = false := by
  unfold isW
  have : (z.cps.toList.map inA).all id = false := by
    rw [List.all_eq_false]
    refine ⟨false, ?_, by decide⟩
    rw [List.mem_map]
    exact ⟨c, List.mem_of_getElem? (by rw [Array.getElem?_toList]; exact h), b⟩
  rw [this, Bool.and_false]
theorem isW_good {z : Str} (h0 : z.length ≠ 0) (h1 : z.length ≤ 12) (h : ∀ (i c : Nat), z.cps[i]? = some c → inA c = true) : isW z = true := by
  unfold isW
  rw [decide_eq_true (by omega : (1 : Int) ≤ (z.length : Int)), decide_eq_true (by omega : (z.length : Int) ≤ 12), Bool.true_and, Bool.true_and, List.all_eq_true]
  intro b hb
  rw [List.mem_map] at hb
  obtain ⟨c, hc, e⟩ := hb
  obtain ⟨i, hi⟩ := List.getElem?_of_mem hc
  rw [Array.getElem?_toList] at hi
  rw [← e]
  exact h i c hi
end Wds

namespace Dds
open PySem L2 Gds
/-! deeds as a datum of our own -/
inductive Dd where
  | say (w : Str)
  | set (b n : Int)
  | add (b n : Int)
  | send (e : Int)
inductive DdIn (H : Hp) : V → Dd → Prop where
  | say {a : Addr} {w : Str} : H a = some (.tup [.str "say", .str w]) → DdIn H (.ref a) (.say w)
  | set {a : Addr} {b n : Int} : H a = some (.tup [.str "set", .int b, .int n]) → DdIn H (.ref a) (.set b n)
  | add {a : Addr} {b n : Int} : H a = some (.tup [.str "add", .int b, .int n]) → DdIn H (.ref a) (.add b n)
  | send {a : Addr} {e : Int} : H a = some (.tup [.str "send", .int e]) → DdIn H (.ref a) (.send e)
theorem DdIn.mono {H H' : Hp} {v : V} {d : Dd} (x : DdIn H v d) (k : KeepT H H') : DdIn H' v d := by
  cases x with
  | say e => exact .say (k _ _ e)
  | set e => exact .set (k _ _ e)
  | add e => exact .add (k _ _ e)
  | send e => exact .send (k _ _ e)
/-- what the boxes hold behind the deed -/
def Dd.upd (sz bx : List Int) : Dd → List Int
  | .set b n => bx.set b.toNat n
  | .add b n => bx.set b.toNat ((at0 bx b + n) % at0 sz b)
  | _ => bx
def Dd.box : Dd → Option Int
  | .set b _ => some b
  | .add b _ => some b
  | _ => none
def Dd.ok (nb : Nat) (d : Dd) : Prop := ∀ b, d.box = some b → 0 ≤ b ∧ b < (nb : Int)
def spChanged : Sp := fun vs H Q _ => ∃ (vd : V) (tb ts : Addr) (d : Dd) (bx sz : List Int), vs = [vd, .ref tb, .ref ts] ∧ DdIn H vd d ∧ H tb = some (.tup (bx.map V.int)) ∧ H ts = some (.tup (sz.map V.int)) ∧ d.ok bx.length ∧ bx.length = sz.length ∧ bx.length ≤ 6 ∧ (∀ z ∈ sz, 0 < z) ∧
  ∀ (t : Addr) (H' : Hp), Same H H' → H' t = some (.tup ((d.upd sz bx).map V.int)) → Q (.ref t) H'
end Dds

namespace Cht
open PySem L2 Gds Dds Wds
/-! charts as data of our own, and their faults by point 12 -/
inductive All2 {α : Type} (R : V → α → Prop) : List V → List α → Prop where
  | nil : All2 R [] []
  | cons {v : V} {x : α} {vs : List V} {xs : List α} : R v x → All2 R vs xs → All2 R (v :: vs) (x :: xs)
theorem All2.imp {α : Type} {R R' : V → α → Prop} {vs : List V} {xs : List α} (x : All2 R vs xs) (k : ∀ v a, R v a → R' v a) : All2 R' vs xs := by
  induction x with
  | nil => exact .nil
  | cons h _ ih => exact .cons (k _ _ h) ih
theorem All2.length {α : Type} {R : V → α → Prop} {vs : List V} {xs : List α} (x : All2 R vs xs) : vs.length = xs.length := by
  induction x with
  | nil => rfl
  | cons _ _ ih => rw [List.length_cons, List.length_cons, ih]
theorem All2.append {α : Type} {R : V → α → Prop} {vs us : List V} {xs ys : List α} (x : All2 R vs xs) (y : All2 R us ys) : All2 R (vs ++ us) (xs ++ ys) := by
  induction x with
  | nil => exact y
  | cons h _ ih => exact .cons h ih
theorem All2.snoc {α : Type} {R : V → α → Prop} {vs : List V} {xs : List α} {v : V} {a : α} (x : All2 R vs xs) (y : R v a) : All2 R (vs ++ [v]) (xs ++ [a]) := x.append (.cons y .nil)
theorem All2.get {α : Type} {R : V → α → Prop} {vs : List V} {xs : List α} (x : All2 R vs xs) : ∀ {k : Nat} {a : α}, xs[k]? = some a → ∃ v, vs[k]? = some v ∧ R v a := by
  induction x with
  | nil => intro k a h; simp at h
  | cons h _ ih =>
    intro k a e
    cases k with
    | zero =>
      simp at e
      subst e
      exact ⟨_, rfl, h⟩
    | succ k => exact ih (by simpa using e)
theorem All2.take {α : Type} {R : V → α → Prop} {vs : List V} {xs : List α} (x : All2 R vs xs) : ∀ k : Nat, All2 R (vs.take k) (xs.take k) := by
  induction x with
  | nil => intro k; rw [List.take_nil, List.take_nil]; exact .nil
  | cons h _ ih =>
    intro k
    cases k with
    | zero => exact .nil
    | succ k => exact .cons h (ih k)
/-- a fault: a text and a number -/
abbrev Ft := Str × Int
def FtIn (H : Hp) (v : V) (f : Ft) : Prop := ∃ a : Addr, v = .ref a ∧ H a = some (.tup [.str f.1, .int f.2])
abbrev FtsIn (H : Hp) : List V → List Ft → Prop := All2 (FtIn H)
theorem FtsIn.mono {H H' : Hp} {vs : List V} {fs : List Ft} (x : FtsIn H vs fs) (k : KeepT H H') : FtsIn H' vs fs := x.imp fun _ _ ⟨a, e, h⟩ => ⟨a, e, k _ _ h⟩
structure Bx where
  nm : Str
  size : Int
  start : Int
def BxIn (H : Hp) (v : V) (b : Bx) : Prop := ∃ a : Addr, v = .ref a ∧ H a = some (.tup [.str b.nm, .int b.size, .int b.start])
abbrev BxsIn (H : Hp) : List V → List Bx → Prop := All2 (BxIn H)
theorem BxsIn.mono {H H' : Hp} {vs : List V} {bs : List Bx} (x : BxsIn H vs bs) (k : KeepT H H') : BxsIn H' vs bs := x.imp fun _ _ ⟨a, e, h⟩ => ⟨a, e, k _ _ h⟩
structure Ro where
  nm : Str
  kind : Str
  depth : Int
  keeps : Str
  lamp : Str
  ins : List Dd
  outs : List Dd
def DtIn (H : Hp) (v : V) (ds : List Dd) : Prop := ∃ (a : Addr) (dv : List V), v = .ref a ∧ H a = some (.tup dv) ∧ All2 (DdIn H) dv ds
theorem DtIn.mono {H H' : Hp} {v : V} {ds : List Dd} (x : DtIn H v ds) (k : KeepT H H') : DtIn H' v ds := by
  obtain ⟨a, dv, e, h, y⟩ := x
  exact ⟨a, dv, e, k _ _ h, y.imp fun _ _ z => z.mono k⟩
def RoIn (H : Hp) (v : V) (r : Ro) : Prop := ∃ (a : Addr) (vi vo : V), v = .ref a ∧ H a = some (.tup [.str r.nm, .str r.kind, .int r.depth, .str r.keeps, .str r.lamp, vi, vo]) ∧ DtIn H vi r.ins ∧ DtIn H vo r.outs
abbrev RosIn (H : Hp) : List V → List Ro → Prop := All2 (RoIn H)
theorem RosIn.mono {H H' : Hp} {vs : List V} {rs : List Ro} (x : RosIn H vs rs) (k : KeepT H H') : RosIn H' vs rs := x.imp fun _ _ ⟨a, vi, vo, e, h, y, z⟩ => ⟨a, vi, vo, e, k _ _ h, y.mono k, z.mono k⟩
structure Dr where
  room : Int
  event : Int
  guard : Gd
  deeds : List Dd
  way : Str
  goal : Option Int
def gv : Option Int → V
  | none => .non
  | some i => .int i
def DrIn (H : Hp) (v : V) (d : Dr) : Prop := ∃ (a : Addr) (vg vd : V), v = .ref a ∧ H a = some (.tup [.int d.room, .int d.event, vg, vd, .str d.way, gv d.goal]) ∧ GdIn H vg d.guard ∧ DtIn H vd d.deeds
abbrev DrsIn (H : Hp) : List V → List Dr → Prop := All2 (DrIn H)
theorem DrsIn.mono {H H' : Hp} {vs : List V} {ds : List Dr} (x : DrsIn H vs ds) (k : KeepT H H') : DrsIn H' vs ds := x.imp fun _ _ ⟨a, vi, vo, e, h, y, z⟩ => ⟨a, vi, vo, e, k _ _ h, y.mono k, z.mono k⟩
structure Ch where
  order : Str
  letters : Int
  turns : Int
  bxs : List Bx
  evs : List Str
  rooms : List Ro
  doors : List Dr
/-- the chart's tuple -/
def ChIn (H : Hp) (t : Addr) (c : Ch) : Prop := ∃ (tb te tr td : Addr) (bv rv dv : List V), H t = some (.tup [.str c.order, .int c.letters, .int c.turns, .ref tb, .ref te, .ref tr, .ref td]) ∧ H tb = some (.tup bv) ∧ BxsIn H bv c.bxs ∧ H te = some (.tup (c.evs.map V.str)) ∧ H tr = some (.tup rv) ∧ RosIn H rv c.rooms ∧ H td = some (.tup dv) ∧ DrsIn H dv c.doors
theorem ChIn.mono {H H' : Hp} {t : Addr} {c : Ch} (x : ChIn H t c) (k : KeepT H H') : ChIn H' t c := by
  obtain ⟨tb, te, tr, td, bv, rv, dv, a1, a2, a3, a4, a5, a6, a7, a8⟩ := x
  exact ⟨tb, te, tr, td, bv, rv, dv, k _ _ a1, k _ _ a2, BxsIn.mono a3 k, k _ _ a4, k _ _ a5, RosIn.mono a6 k, k _ _ a7, DrsIn.mono a8 k⟩
/-! the faults -/
abbrev big : Int := 10 ^ 30
def within (lo hi n : Int) : Bool := decide (lo ≤ n) && decide (n ≤ hi)
def numOf (n : Nat) (i : Int) : Bool := decide (0 ≤ i) && decide (i < (n : Int))
def marks (nm : Str) (n : Nat) (bad : Nat → Bool) : List Ft := ((List.range n).filter bad).map fun k : Nat => (nm, (k : Int))
theorem marks_succ (nm : Str) (n : Nat) (bad : Nat → Bool) : marks nm (n + 1) bad = marks nm n bad ++ (if bad n then [(nm, (n : Int))] else []) := by
  unfold marks
  rw [List.range_succ, List.filter_append, List.map_append]
  by_cases h : bad n
  · simp [h]
  · simp [h]
theorem marks_len (nm : Str) (n : Nat) (bad : Nat → Bool) : (marks nm n bad).length ≤ n := by
  unfold marks
  rw [List.length_map]
  have := List.length_filter_le bad (List.range n)
  rw [List.length_range] at this
  exact this
def one (nm : Str) (bad : Bool) : List Ft := if bad then [(nm, 0)] else []
def badDeed (bs : List Bx) (ne : Nat) : Dd → Bool
  | .say w => !isW w
  | .send e => !numOf ne e
  | .set b n => !numOf bs.length b || !(decide (0 ≤ n) && decide (n < (bs.map (·.size)).getD b.toNat 0))
  | .add b n => !numOf bs.length b || !within (-big) big n
def badDeeds (bs : List Bx) (ne : Nat) (ds : List Dd) : Bool := decide (8 < ds.length) || ds.any (badDeed bs ne)
def badBx (bs : List Bx) (k : Nat) : Bool := match bs[k]? with
  | none => false
  | some b => !isW b.nm || ((bs.take k).map (·.nm)).contains b.nm || !within 1 big b.size || !(decide (0 ≤ b.start) && decide (b.start < b.size))
def badEv (es : List Str) (k : Nat) : Bool := match es[k]? with
  | none => false
  | some e => !isW e || (es.take k).contains e
def deeper (rs : List Ro) (k : Nat) (d : Int) : Bool := match rs[k + 1]? with
  | none => false
  | some r => decide (d < r.depth)
def badShape (rs : List Ro) (k : Nat) (r : Ro) : Bool :=
  !([("plain" : Str), "one", "all"].contains r.kind) || (deeper rs k r.depth == decide (r.kind = "plain")) ||
  (if k = 0 then decide (r.depth ≠ 0) else !within 1 (min 12 ((rs.map (·.depth)).getD (k - 1) 0 + 1)) r.depth)
def badKeeps (r : Ro) : Bool := !([("" : Str), "near", "deep"].contains r.keeps) || (decide (r.keeps = "near") && !decide (r.kind = "one")) || (decide (r.keeps = "deep") && decide (r.kind = "plain"))
def badRo (bs : List Bx) (ne : Nat) (rs : List Ro) (k : Nat) : Bool := match rs[k]? with
  | none => false
  | some r => !isW r.nm || ((rs.take k).map (·.nm)).contains r.nm || badShape rs k r || badKeeps r || (!decide (r.lamp = "") && !isW r.lamp) || badDeeds bs ne r.ins || badDeeds bs ne r.outs
def badGd (nb nr : Nat) : Gd → Bool
  | .yes => false
  | .is b n => !numOf nb b || !within (-big) big n
  | .under b n => !numOf nb b || !within (-big) big n
  | .inn r => !numOf nr r
  | .neg g => badGd nb nr g
  | .both g h => badGd nb nr g || badGd nb nr h
  | .either g h => badGd nb nr g || badGd nb nr h
def badWay (rs : List Ro) (way : Str) (goal : Option Int) : Bool :=
  if way = "stay" then goal.isSome else
  if way = "to" then (match goal with | none => true | some g => !numOf rs.length g) else
  if way = "back" then (match goal with | none => true | some g => !numOf rs.length g || decide ((rs.map (·.keeps)).getD g.toNat ("" : Str) = ("" : Str))) else true
def badDr (bs : List Bx) (ne : Nat) (rs : List Ro) (d : Dr) : Bool := !numOf rs.length d.room || !numOf ne d.event || decide (6 < d.guard.ht) || badGd bs.length rs.length d.guard || badDeeds bs ne d.deeds || badWay rs d.way d.goal
def badDrAt (bs : List Bx) (ne : Nat) (rs : List Ro) (ds : List Dr) (k : Nat) : Bool := match ds[k]? with
  | none => false
  | some d => badDr bs ne rs d
/-- the faults in the order of point 12 -/
def faultsOf (c : Ch) : List Ft :=
  one "order" (!([("inner" : Str), "outer"].contains c.order)) ++ one "letters" (!within 0 12 c.letters) ++ one "turns" (!within 1 20 c.turns) ++ one "boxes" (decide (6 < c.bxs.length)) ++ marks "box" c.bxs.length (badBx c.bxs) ++
  one "events" (decide (8 < c.evs.length)) ++ marks "event" c.evs.length (badEv c.evs) ++ one "rooms" (decide (c.rooms.length = 0) || decide (40 < c.rooms.length)) ++ marks "room" c.rooms.length (badRo c.bxs c.evs.length c.rooms) ++
  one "doors" (decide (60 < c.doors.length)) ++ marks "door" c.doors.length (badDrAt c.bxs c.evs.length c.rooms c.doors)
/-- how big the texts and lists are that the laws hand in -/
structure Small (c : Ch) : Prop where
  order : c.order.length ≤ 1000
  bxs : c.bxs.length ≤ 60
  bnm : ∀ b ∈ c.bxs, b.nm.length ≤ 1000
  evs : c.evs.length ≤ 60
  enm : ∀ e ∈ c.evs, e.length ≤ 1000
  rooms : c.rooms.length ≤ 60
  rnm : ∀ r ∈ c.rooms, r.nm.length ≤ 1000 ∧ r.kind.length ≤ 1000 ∧ r.keeps.length ≤ 1000 ∧ r.lamp.length ≤ 1000
  rdd : ∀ r ∈ c.rooms, r.ins.length ≤ 60 ∧ r.outs.length ≤ 60 ∧ ∀ d ∈ r.ins ++ r.outs, ∀ z, d = .say z → z.length ≤ 1000
  doors : c.doors.length ≤ 100
  ddd : ∀ d ∈ c.doors, d.deeds.length ≤ 60 ∧ d.guard.ht ≤ 20 ∧ d.way.length ≤ 1000 ∧ ∀ e ∈ d.deeds, ∀ z, e = .say z → z.length ≤ 1000
def spFaults : Sp := fun vs H Q _ => ∃ (t : Addr) (c : Ch), vs = [.ref t] ∧ ChIn H t c ∧ Small c ∧ ∀ (p : Addr) (fv : List V) (H' : Hp), Same H H' → H p = none → H' p = some (.lst fv) → FtsIn H' fv (faultsOf c) → Q (.ref p) H'
end Cht

namespace Cht
open PySem L2 Gds Dds Wds
/-- tuples by their first texts -/
def FsIn (H : Hp) (v : V) (z : Str) : Prop := ∃ (b : Addr) (tl : List V), v = .ref b ∧ H b = some (.tup (.str z :: tl))
theorem BxsIn.fst {H : Hp} {vs : List V} {bs : List Bx} (x : BxsIn H vs bs) : All2 (FsIn H) vs (bs.map (·.nm)) := by
  induction x with
  | nil => exact .nil
  | cons h _ ih =>
    obtain ⟨a, e, h⟩ := h
    exact .cons ⟨a, _, e, h⟩ ih
theorem RosIn.fst {H : Hp} {vs : List V} {rs : List Ro} (x : RosIn H vs rs) : All2 (FsIn H) vs (rs.map (·.nm)) := by
  induction x with
  | nil => exact .nil
  | cons h _ ih =>
    obtain ⟨a, vi, vo, e, h, _⟩ := h
    exact .cons ⟨a, _, e, h⟩ ih
/-- [x[0] for x in xs] -/
theorem comp_fst {K : PySem.W.Frag} {a : Addr} {xs : List V} {zs : List Str} {cs : St} {te : TE} {H1 : Hp} {Z : List V → Hp → Prop} (hx : SqT K H1 a xs) (hz : All2 (FsIn H1) xs zs) (hl : zs.length ≤ 1000)
    (hte : ∀ (b : Addr) (tl : List V) (z : Str), H1 b = some (.tup (.str z :: tl)) → ∀ Q : VK, Q (.str z) H1 → te (some (.ref b) :: cs) H1 Q) (q : Z (zs.map V.str) H1) : tCompW (Itt K a) cs tYes te H1 Z := by
  have hxl := hz.length
  refine comp_tup (K := K) (a := a) (xs := xs) (fun i acc H' => H' = H1 ∧ acc = (zs.take i).map V.str) ⟨rfl, rfl⟩ (fun i acc H' ⟨e, _⟩ => by subst e; exact hx) (fun i x acc H' hi ⟨e1, e2⟩ => ?_) (fun acc H' ⟨e1, e2⟩ => ?_)
  · subst e1 e2
    have hi' : i < zs.length := by
      have := (List.getElem?_eq_some_iff.mp hi).1
      omega
    have ez : zs[i]? = some zs[i] := List.getElem?_eq_getElem hi'
    obtain ⟨v, hv, b, tl, rfl, hb⟩ := hz.get ez
    rw [hv] at hi
    cases hi
    show te _ _ _
    refine hte b tl _ hb _ ⟨small1000 (by rw [List.length_map, List.length_take]; omega), rfl, ?_⟩
    rw [List.take_add_one, ez, List.map_append]
    rfl
  · subst e1 e2
    rw [hxl, List.take_length]
    exact q
theorem All2.at {α : Type} {R : V → α → Prop} {vs : List V} {xs : List α} (x : All2 R vs xs) {k : Nat} (h : k < xs.length) : ∃ v, atI vs ((k : Nat) : Int) = some v ∧ R v xs[k] := by
  obtain ⟨v, h1, h2⟩ := x.get (List.getElem?_eq_getElem h)
  exact ⟨v, atI_nat h1, h2⟩
theorem atI_head {α : Type} {x : α} {xs : List α} : atI (x :: xs) 0 = some x := atI_nat (j := 0) rfl
/-- how big charts are that the laws hand in, and of what sort their deeds and doors are -/
structure SmallP (ok : List Dd → Prop) (okd : Dr → Prop) (c : Ch) : Prop where
  order : c.order.length ≤ 1000
  bxs : c.bxs.length ≤ 60
  bnm : ∀ b ∈ c.bxs, b.nm.length ≤ 1000
  evs : c.evs.length ≤ 60
  enm : ∀ e ∈ c.evs, e.length ≤ 1000
  rooms : c.rooms.length ≤ 60
  rms : ∀ r ∈ c.rooms, ok r.ins ∧ ok r.outs ∧ r.nm.length ≤ 1000 ∧ r.kind.length ≤ 1000 ∧ r.keeps.length ≤ 1000 ∧ r.lamp.length ≤ 1000
  doors : c.doors.length ≤ 100
  drs : ∀ d ∈ c.doors, okd d
def spFaultsP (ok : List Dd → Prop) (okd : Dr → Prop) : Sp := fun vs H Q _ => ∃ (t : Addr) (c : Ch), vs = [.ref t] ∧ ChIn H t c ∧ SmallP ok okd c ∧ ∀ (p : Addr) (fv : List V) (H' : Hp), Same H H' → H p = none → H' p = some (.lst fv) → FtsIn H' fv (faultsOf c) → Q (.ref p) H'
/-! the faults as the program asks for them -/
def nameF (z : Str) (zs : List Str) : Bool := !isW z || zs.contains z
def boxF (b : Bx) (ahead : List Bx) : Bool := nameF b.nm (ahead.map (·.nm)) || (!within 1 big b.size || !(decide (0 ≤ b.start) && decide (b.start < b.size)))
def depthF (d : Int) (ahead : List Ro) : Bool := if ahead.length = 0 then decide (d ≠ 0) else (!within 1 ((ahead.map (·.depth)).getD (ahead.length - 1) 0 + 1) d || decide (12 < d))
def keepsF (keeps kind : Str) : Bool := if keeps = "near" then !decide (kind = "one") else if keeps = "deep" then !([("one" : Str), "all"].contains kind) else !decide (keeps = "")
def kidsF (r : Ro) (behind : List Ro) : Bool := match behind[0]? with
  | none => false
  | some r2 => decide (r.depth < r2.depth)
def endF (r : Ro) (behind : List Ro) : Bool := if r.kind = "plain" then kidsF r behind else !kidsF r behind
def roomF (bs : List Bx) (ne : Nat) (r : Ro) (ahead : List Ro) : Bool :=
  (nameF r.nm (ahead.map (·.nm)) || !([("plain" : Str), "one", "all"].contains r.kind)) || ((depthF r.depth ahead || keepsF r.keeps r.kind) || ((!decide (r.lamp = "") && !isW r.lamp) || (badDeeds bs ne r.ins || badDeeds bs ne r.outs)))
theorem boxF_eq {bs : List Bx} {k : Nat} {b : Bx} (h : bs[k]? = some b) : boxF b (bs.take k) = badBx bs k := by
  unfold badBx boxF nameF
  rw [h]
  show _ = (!isW b.nm || ((bs.take k).map (·.nm)).contains b.nm || !within 1 big b.size || !(decide (0 ≤ b.start) && decide (b.start < b.size)))
  simp only [Bool.or_assoc]
theorem nameF_ev {es : List Str} {k : Nat} {e : Str} (h : es[k]? = some e) : nameF e (es.take k) = badEv es k := by
  unfold badEv nameF
  rw [h]
theorem kidsF_eq {rs : List Ro} {k : Nat} (r : Ro) : kidsF r (rs.drop (k + 1)) = deeper rs k r.depth := by
  unfold kidsF deeper
  rw [List.getElem?_drop, Nat.add_zero]
  all_goals (cases rs[k + 1]? <;> rfl)
theorem endF_eq {rs : List Ro} {k : Nat} (r : Ro) : endF r (rs.drop (k + 1)) = (deeper rs k r.depth == decide (r.kind = "plain")) := by
  unfold endF
  rw [kidsF_eq]
  by_cases h : r.kind = "plain"
  · rw [if_pos h, decide_eq_true h]
    cases deeper rs k r.depth <;> rfl
  · rw [if_neg h, decide_eq_false h]
    cases deeper rs k r.depth <;> rfl
theorem depthF_eq {rs : List Ro} {k : Nat} {r : Ro} (h : rs[k]? = some r) : depthF r.depth (rs.take k) = (if k = 0 then decide (r.depth ≠ 0) else !within 1 (min 12 ((rs.map (·.depth)).getD (k - 1) 0 + 1)) r.depth) := by
  have hk : k < rs.length := (List.getElem?_eq_some_iff.mp h).1
  have hl : (rs.take k).length = k := by rw [List.length_take]; omega
  unfold depthF
  rw [hl]
  by_cases h0 : k = 0
  · rw [if_pos h0, if_pos h0]
  · rw [if_neg h0, if_neg h0]
    have e : ((rs.take k).map (·.depth)).getD (k - 1) 0 = (rs.map (·.depth)).getD (k - 1) 0 := by
      rw [List.getD_eq_getElem?_getD, List.getD_eq_getElem?_getD, List.map_take, List.getElem?_take, if_pos (by omega)]
    rw [e]
    unfold within
    rw [Bool.eq_iff_iff]
    simp only [Bool.or_eq_true, Bool.not_eq_true', Bool.and_eq_false_iff, decide_eq_true_iff, decide_eq_false_iff_not]
    omega
theorem str3 {k : Str} (h : [("plain" : Str), "one", "all"].contains k = true) : k = "plain" ∨ k = "one" ∨ k = "all" := by
  simpa using h
theorem keepsF_eq (r : Ro) (h : [("plain" : Str), "one", "all"].contains r.kind = true) : keepsF r.keeps r.kind = badKeeps r := by
  unfold keepsF badKeeps
  by_cases h1 : r.keeps = "near"
  · rw [if_pos h1, h1]
    have e1 : [("" : Str), "near", "deep"].contains ("near" : Str) = true := by decide +kernel
    have e2 : decide (("near" : Str) = "deep") = false := by decide +kernel
    rw [e1, e2, decide_eq_true (rfl : ("near" : Str) = "near")]
    simp
  · rw [if_neg h1, decide_eq_false h1]
    by_cases h2 : r.keeps = "deep"
    · rw [if_pos h2, h2]
      have e1 : [("" : Str), "near", "deep"].contains ("deep" : Str) = true := by decide +kernel
      rw [e1, decide_eq_true (rfl : ("deep" : Str) = "deep")]
      rcases str3 h with e | e | e <;> rw [e] <;> decide +kernel
    · rw [if_neg h2, decide_eq_false h2]
      by_cases h3 : r.keeps = ""
      · rw [h3]
        have e1 : [("" : Str), "near", "deep"].contains ("" : Str) = true := by decide +kernel
        rw [e1, decide_eq_true (rfl : ("" : Str) = "")]
        simp
      · have : [("" : Str), "near", "deep"].contains r.keeps = false := by
          rw [Bool.eq_false_iff]
          intro z
          have z' : r.keeps = "" ∨ r.keeps = "near" ∨ r.keeps = "deep" := by simpa using z
          rcases z' with z | z | z
          · exact h3 z
          · exact h1 z
          · exact h2 z
        rw [this, decide_eq_false h3]
        rfl
theorem roomF_eq (bs : List Bx) (ne : Nat) {rs : List Ro} {k : Nat} {r : Ro} (h : rs[k]? = some r) : (roomF bs ne r (rs.take k) || endF r (rs.drop (k + 1))) = badRo bs ne rs k := by
  unfold badRo roomF nameF
  rw [h, endF_eq, depthF_eq h]
  show _ = (!isW r.nm || ((rs.take k).map (·.nm)).contains r.nm || badShape rs k r || badKeeps r || (!decide (r.lamp = "") && !isW r.lamp) || badDeeds bs ne r.ins || badDeeds bs ne r.outs)
  unfold badShape
  generalize (if k = 0 then decide (r.depth ≠ 0) else !within 1 (min 12 ((rs.map (·.depth)).getD (k - 1) 0 + 1)) r.depth) = d
  generalize (deeper rs k r.depth == decide (r.kind = "plain")) = e
  generalize (!isW r.nm) = b1
  generalize ((rs.take k).map (·.nm)).contains r.nm = b2
  generalize (!decide (r.lamp = "") && !isW r.lamp) = b5
  generalize badDeeds bs ne r.ins = b6
  generalize badDeeds bs ne r.outs = b7
  cases hk : [("plain" : Str), "one", "all"].contains r.kind with
  | false => cases b1 <;> cases b2 <;> simp
  | true =>
    rw [keepsF_eq r hk]
    generalize badKeeps r = b3
    cases b1 <;> cases b2 <;> cases b3 <;> cases b5 <;> cases b6 <;> cases b7 <;> cases d <;> cases e <;> rfl
/-- the law's own list of faults so far, apart from what was there -/
structure DueS (H : Hp) (fs : List Ft) (H' : Hp) (pd : Addr) : Prop where
  same : Same H H'
  new : H pd = none
  ex : ∃ fv, H' pd = some (.lst fv) ∧ FtsIn H' fv fs
theorem DueS.app {H H' : Hp} {fs : List Ft} {pd t : Addr} {fv : List V} {nm : Str} {n : Int} (s : Same H H') (nw : H pd = none) (h : H' pd = some (.lst fv)) (r : FtsIn H' fv fs) (ht : H' t = none) :
    DueS H (fs ++ [(nm, n)]) (upd (upd H' t (.tup [.str nm, .int n])) pd (.lst (fv ++ [.ref t]))) pd := by
  have s1 := same_new ht (.tup [.str nm, .int n])
  have npt : pd ≠ t := ne_of_none h ht
  refine ⟨fun b o e => ?_, nw, _, upd_same, ?_⟩
  · rw [upd_ne (ne_of_none e nw)]
    exact s1 _ _ (s _ _ e)
  · have k : KeepT (upd H' t (.tup [.str nm, .int n])) (upd (upd H' t (.tup [.str nm, .int n])) pd (.lst (fv ++ [.ref t]))) := KeepT.lst (s1 _ _ h) _
    exact (FtsIn.mono (FtsIn.mono r (KeepT.of s1)) k).snoc ⟨t, rfl, k _ _ upd_same⟩
theorem DueS.keep {H H' H2 : Hp} {fs : List Ft} {pd : Addr} (d : DueS H fs H' pd) (s : Same H' H2) : DueS H fs H2 pd := by
  obtain ⟨s1, n, fv, h, r⟩ := d
  exact ⟨s1.trans s, n, fv, s _ _ h, FtsIn.mono r (KeepT.of s)⟩
theorem one_t (nm : Str) : one nm true = [(nm, 0)] := rfl
theorem one_f (nm : Str) : one nm false = [] := rfl
theorem one_len (nm : Str) (b : Bool) : (one nm b).length ≤ 1 := by
  cases b with
  | false => exact Nat.zero_le _
  | true => exact Nat.le_refl _
def okDs (okd : Dd → Prop) (ds : List Dd) : Prop := ds.length ≤ 60 ∧ ∀ d ∈ ds, okd d
theorem cutTo (xs : List V) {k : Nat} (h : k ≤ xs.length) : cutV xs none (some (k : Int)) = xs.take k := by
  unfold cutV
  rw [HT.sIx_none, HT.sIx_nat, List.drop_zero, Nat.sub_zero, Nat.min_eq_left h]
theorem cutFrom (xs : List V) {k : Nat} (h : k + 1 ≤ xs.length) : cutV xs (some ((k : Int) + 1)) none = xs.drop (k + 1) := by
  have e : (k : Int) + 1 = ((k + 1 : Nat) : Int) := by omega
  unfold cutV
  rw [e, HT.sIx_none, HT.sIx_nat, Nat.min_eq_left h, List.take_of_length_le (by rw [List.length_drop]; exact Nat.le_refl _)]
theorem All2.drop {α : Type} {R : V → α → Prop} {vs : List V} {xs : List α} (x : All2 R vs xs) : ∀ k : Nat, All2 R (vs.drop k) (xs.drop k) := by
  induction x with
  | nil => intro k; rw [List.drop_nil, List.drop_nil]; exact .nil
  | cons h t ih =>
    intro k
    cases k with
    | zero => exact .cons h t
    | succ k => exact ih k
end Cht

namespace Mix
open PySem L2
def top (i : Nat) : Stmt := PySem.Challenge.pw_nesthall_k11_faults_of_doors.main.body.getD i (.Pass ⟨0, 0, 0, 0⟩)
abbrev sIsWord : Stmt := top 8
abbrev sNumHF : Stmt := top 22
abbrev sReachHF : Stmt := top 23
abbrev sNamesOf : Stmt := top 24
abbrev sNameHF : Stmt := top 25
abbrev sBoxHF : Stmt := top 26
abbrev sDeedHF : Stmt := top 27
abbrev sDeedsHF : Stmt := top 28
abbrev sDepthHF : Stmt := top 29
abbrev sKeepsHF : Stmt := top 30
abbrev sRoomHF : Stmt := top 31
abbrev sEndHF : Stmt := top 32
abbrev sGuardHF : Stmt := top 33
abbrev sGoalHF : Stmt := top 34
abbrev sDoorHF : Stmt := top 35
abbrev sBoundFs : Stmt := top 36
abbrev sBoxFs : Stmt := top 37
abbrev sEvFs : Stmt := top 38
abbrev sRoomFs : Stmt := top 39
abbrev sDoorFs : Stmt := top 40
abbrev sFaults : Stmt := top 41
abbrev sCell : Stmt := top 43
abbrev sMixed : Stmt := top 44
abbrev sWhole : Stmt := top 45
abbrev sToldF : Stmt := top 46
abbrev sAround : Stmt := top 47
abbrev sEdge : Stmt := top 48
abbrev sTextF : Stmt := top 49
abbrev sDeedF : Stmt := top 50
abbrev sDeedsF : Stmt := top 51
abbrev sLeafF : Stmt := top 52
abbrev sGuardF : Stmt := top 53
abbrev sInnerF : Stmt := top 54
abbrev sHeightF : Stmt := top 55
abbrev sBadGuard : Stmt := top 56
abbrev sWordF : Stmt := top 57
abbrev sBadDeed : Stmt := top 58
abbrev sBadDeeds : Stmt := top 59
abbrev sBadDoor : Stmt := top 60
abbrev sRoomsF : Stmt := top 61
abbrev sDoorF : Stmt := top 62
abbrev sLawF : Stmt := top 63
abbrev sDueName : Str := "_law_due"
abbrev sNear : Str := "_law_near"
end Mix


namespace Mix
open PySem L2
/-! the cell of a script and the mixed draw: the same two defs stand in every law -/
def spCell (K : PySem.W.Frag) : Sp := fun vs H Q _ => ∃ (a : Addr) (ns : List Int) (k : Int), vs = [.ref a, .int k] ∧ SqL K H a (ns.map V.int) ∧ ns.length ≤ 63 ∧ ∀ v : Int, Q (.int v) H
def spMixed (K : PySem.W.Frag) : Sp := fun vs H Q _ => ∃ (a : Addr) (ns : List Int) (k salt : Int), vs = [.ref a, .int k, .int salt] ∧ SqL K H a (ns.map V.int) ∧ ns.length ≤ 63 ∧ (0 ≤ k ∧ k ≤ 1000000) ∧ (0 ≤ salt ∧ salt ≤ 1000) ∧
  ∀ r : Int, 0 ≤ r → r < 2147483648 → Q (.int r) H
section
variable {P : Program} {w : World} {K : PySem.W.Frag} {mg : Str → Option Value} {base : Heap}
theorem scC : FnScope ["_law_script", "_law_k"] ["_law_script", "_law_k"] (defScope sCell) := ⟨rfl, rfl, rfl, by decide +kernel, rfl, by decide +kernel, by decide +kernel⟩
theorem ok_cell {f : Addr} {fd : FuncData} (F : Fun K "_law_cell_at" "_law_cell_at" sCell f fd) (ml : mg "len" = none) : FnOk P w K mg base CX0 1 f fd ["_law_script", "_law_k"] (spCell K) := by
  refine F.ok scC (fun vs H Q E h => ?_) (fun cdv A outer s H vs Q E hr h => ?_)
  · obtain ⟨a, ns, k, rfl, _⟩ := h
    rfl
  obtain ⟨a, ns, k, rfl, hS, h63, q⟩ := h
  refine ⟨_, pss_cons (ps_if (pt_cmpR op_eq (pe_callB call_len_seq rfl ml PySem.boot_len (pa_cons (pv 0) pa_nil)) pe_int (nomark _)) (pss_one (ps_ret pe_int)) pss_nil)
    (pss_one (ps_ret (pe_ix ix_list (pv 0) (pe_op op_mod (pv 1) (pe_callB call_len_seq rfl ml PySem.boot_len (pa_cons (pv 0) pa_nil))) (fun _ _ => rfl)))), ?_⟩
  have hl : (ns.map V.int).length = ns.length := List.length_map _
  refine ⟨_, rfl, a, _, rfl, .inl hS, rfl, _, rfl, ?_⟩
  refine ite2 (fun c => ?_) (fun c => ?_)
  · exact q 0
  · have c' : ¬ V.int (((ns.map V.int).length : Nat) : Int) = V.int 0 := of_decide_eq_false (Bool.eq_false_iff.mpr c)
    have hp : (0 : Int) < (((ns.map V.int).length : Nat) : Int) := by
      rw [hl] at c' ⊢
      have : ns.length ≠ 0 := fun z => c' (by rw [z]; rfl)
      omega
    obtain ⟨v, hv⟩ := atI_int (ns := ns) (i := k % (((ns.map V.int).length : Nat) : Int)) (Int.emod_nonneg _ (by omega)) (by have := Int.emod_lt_of_pos k hp; rw [hl] at this ⊢; exact this)
    exact ⟨_, rfl, _, rfl, _, rfl, a, _, rfl, .inl hS, _, _, rfl, rfl, hp, a, _, _, _, rfl, rfl, hS, hv, q v⟩
theorem scM : FnScope ["_law_script", "_law_k", "_law_salt", "_law_cell", "_law_lap", sNear] ["_law_script", "_law_k", "_law_salt"] (defScope sMixed) := ⟨rfl, rfl, rfl, by decide +kernel, rfl, by decide +kernel, by decide +kernel⟩
theorem mulIn {i j : Int} (h0 : 0 ≤ i) (h1 : i < 18446744073709551616) : CMul i j := .inl ⟨by omega, by omega⟩
theorem ok_mixed {f g : Addr} {fd gd : FuncData} (F : Fun K "_law_mixed" "_law_mixed" sMixed f fd) (G : FnOk P w K mg base CX0 1 g gd ["_law_script", "_law_k"] (spCell K)) (bG : Binds K gd ["_law_script", "_law_k"] []) (kG : PySem.W.keepIn K (.ref g) = true) (mG : mg "_law_cell_at" = some (.ref g))
    (ml : mg "len" = none) (mm : mg "max" = none) : FnOk P w K mg base CX0 2 f fd ["_law_script", "_law_k", "_law_salt"] (spMixed K) := by
  refine F.ok scM (fun vs H Q E h => ?_) (fun cdv A outer s H vs Q E hr h => ?_)
  · obtain ⟨a, ns, k, salt, rfl, _⟩ := h
    rfl
  obtain ⟨a, ns, k, salt, rfl, hS, h63, hk, hs, q⟩ := h
  refine ⟨_, pss_cons (ps_set (i := 3) scM.nd rfl (Or.inl rfl) (pe_call G hr rfl mG kG bG .nil pass0 (pa_cons (pv 0) (pa_cons (pv 1) pa_nil))))
    (pss_cons (ps_set (i := 4) scM.nd rfl (Or.inl rfl) (pe_op op_fdiv (pv 1) (pe_callB (call_max2 rfl) rfl mm PyProof.Rows.boot_max (pa_cons pe_int (pa_cons (pe_callB call_len_seq rfl ml PySem.boot_len (pa_cons (pv 0) pa_nil)) pa_nil)))))
    (pss_cons (ps_set (i := 5) scM.nd rfl (Or.inl rfl) (pe_op op_add (pe_op op_add (pe_op op_add (pe_op op_and (pv 3) pe_int) (pe_op op_mul (pe_op op_mul pe_int (pv 1)) (pv 1))) (pe_op op_mul (pe_op op_mul pe_int (pv 2)) (pv 2))) pe_int))
    (pss_cons (ps_set (i := 5) scM.nd rfl (Or.inl rfl) (pe_op op_mod (pe_op op_mul (pv 5) pe_int) pe_int))
    (pss_cons (ps_set (i := 5) scM.nd rfl (Or.inl rfl) (pe_op op_mod (pe_op op_mul (pv 5) (pv 5)) pe_int))
    (pss_one (ps_ret (pe_op op_and (pe_op op_add (pe_op op_shr (pv 3) (pe_op op_mul pe_int (pe_op op_add (pv 2) (pe_op op_mul pe_int (pv 4))))) (pv 5)) pe_int))))))), ?_⟩
  have hl : (ns.map V.int).length = ns.length := List.length_map _
  refine ⟨_, rfl, _, rfl, a, ns, k, rfl, hS, h63, fun v => ?_⟩
  -- lap
  refine ⟨_, rfl, _, rfl, a, _, rfl, .inl hS, _, _, rfl, _, _, rfl, rfl, ?_⟩
  have hM : 0 < (if (((ns.map V.int).length : Nat) : Int) > 1 then (((ns.map V.int).length : Nat) : Int) else 1) ∧ (if (((ns.map V.int).length : Nat) : Int) > 1 then (((ns.map V.int).length : Nat) : Int) else 1) < 1073741824 := by
    rw [hl]
    split <;> omega
  refine ⟨hM, ?_⟩
  have hlap : 0 ≤ k / (if (((ns.map V.int).length : Nat) : Int) > 1 then (((ns.map V.int).length : Nat) : Int) else 1) := Int.ediv_nonneg hk.1 (Int.le_of_lt hM.1)
  -- near
  refine ⟨_, rfl, _, _, rfl, rfl, _, rfl, _, _, rfl, rfl, mulIn (by decide) (by decide), _, rfl, _, _, rfl, rfl, mulIn (by omega) (by omega), _, _, rfl, rfl, _, rfl, _, _, rfl, rfl, mulIn (by decide) (by decide), _, rfl, _, _, rfl, rfl, mulIn (by omega) (by omega), _, _, rfl, rfl, _, _, rfl, rfl, ?_⟩
  refine ⟨_, rfl, _, _, rfl, rfl, .inr ⟨by decide, by decide⟩, _, _, rfl, rfl, (by show (0 : Int) < 2147483647; decide), ?_⟩
  have b1 := Int.emod_nonneg ((Builtin.bitAnd v 2147483647 + 1009 * k * k + 7919 * salt * salt + 12) * 48271) (show (2147483647 : Int) ≠ 0 by decide)
  have b2 := Int.emod_lt_of_pos ((Builtin.bitAnd v 2147483647 + 1009 * k * k + 7919 * salt * salt + 12) * 48271) (show (0 : Int) < 2147483647 by decide)
  refine ⟨_, rfl, _, rfl, _, _, rfl, rfl, mulIn b1 (Int.lt_trans b2 (by decide)), _, _, rfl, rfl, (by show (0 : Int) < 2147483629; decide), ?_⟩
  refine ⟨_, rfl, _, rfl, _, rfl, _, _, rfl, rfl, mulIn (by decide) (by decide), _, _, rfl, rfl, _, _, rfl, rfl, mulIn (by decide) (by decide), _, _, rfl, rfl, ?_, _, rfl, _, _, rfl, rfl, _, _, rfl, rfl, ?_⟩
  · have nn : ∀ lap : Int, 0 ≤ lap → 0 ≤ 31 * (salt + 128 * lap) := fun lap h => by omega
    exact nn _ hlap
  · exact q _ (maskB _).1 (maskB _).2
end
end Mix

namespace Mix
open PySem L2
/-! is it a whole number: the same def in many laws -/
def spWhole : Sp := fun vs H Q _ => ∃ n : Int, vs = [.int n] ∧ Q (.bl true) H
theorem kit_ll (K : PySem.W.Frag) : PySem.W.kitOne K (.type "list") (.type "list") = some true := by rfl
theorem kit_tt (K : PySem.W.Frag) : PySem.W.kitOne K (.type "tuple") (.type "tuple") = some true := by rfl
section
variable {P : Program} {w : World} {K : PySem.W.Frag} {mg : Str → Option Value} {base : Heap}
theorem sc_law_whole : FnScope ["_law_found"] ["_law_found"] (defScope sWhole) := ⟨rfl, rfl, rfl, by decide +kernel, rfl, by decide +kernel, by decide +kernel⟩
theorem ok_whole {f : Addr} {fd : FuncData} (F : Fun K "_law_whole" "_law_whole" sWhole f fd) (m_isinstance : mg "isinstance" = none) (m_int : mg "int" = none) (m_bool : mg "bool" = none) : FnOk P w K mg base CX0 1 f fd ["_law_found"] spWhole := by
  refine F.ok sc_law_whole (fun vs H Q E h => ?_) (fun cdv A outer s H vs Q E hr h => ?_)
  · obtain ⟨n, rfl, _⟩ := h
    rfl
  obtain ⟨n, rfl, q⟩ := h
  refine ⟨_, (pss_one (ps_ret (pe_and (pe_callB call_isinst rfl m_isinstance PyProof.Rows.boot_isinstance (pa_cons (pv 0) (pa_cons (pe_bltn (v := .ty "int") rfl m_int PyProof.Rows.boot_int rfl) pa_nil))) (pe_one (pe_not (pe_callB call_isinst rfl m_isinstance PyProof.Rows.boot_isinstance (pa_cons (pv 0) (pa_cons (pe_bltn (v := .ty "bool") rfl m_bool PyProof.Rows.boot_bool rfl) pa_nil)))))))), ?_⟩
  refine ⟨_, rfl, _, "int", _, true, rfl, .int n, kit_ii K, _, rfl, ifT rfl ?_⟩
  exact ⟨_, rfl, _, "bool", _, false, rfl, .int n, kit_ib K, _, rfl, q⟩
end
end Mix

namespace Mix
open PySem L2 Wds
/-! is it a word: the same def in several laws -/
def spWordF : Sp := fun vs H Q _ => ∃ z : Str, vs = [.str z] ∧ z.length ≤ 1000 ∧ Q (.bl (isW z)) H
section
variable {P : Program} {w : World} {K : PySem.W.Frag} {mg : Str → Option Value} {base : Heap}
theorem sc_law_word : FnScope ["_law_text_here", "_law_sign"] ["_law_text_here"] (defScope sWordF) := ⟨rfl, rfl, rfl, by decide +kernel, rfl, by decide +kernel, by decide +kernel⟩
theorem ok_wordF {f : Addr} {fd : FuncData} (F : Fun K "_law_word" "_law_word" sWordF f fd) (m_len : mg "len" = none) : FnOk P w K mg base CX0 1 f fd ["_law_text_here"] spWordF := by
  refine F.ok sc_law_word (fun vs H Q E h => ?_) (fun cdv A outer s H vs Q E hr h => ?_)
  · obtain ⟨z, rfl, _⟩ := h
    rfl
  obtain ⟨z, rfl, hz, q⟩ := h
  refine ⟨_, (pss_cons (ps_if (pt_cut (PW.pt (pw_or (pt_cmpR op_eq (pe_callB call_len_str rfl m_len PySem.boot_len (pa_cons (pv 0) pa_nil)) pe_int (nomark _)) (pw_or1 (pt_cmpR op_gt (pe_callB call_len_str rfl m_len PySem.boot_len (pa_cons (pv 0) pa_nil)) pe_int (nomark _))))))
      (pss_one (ps_ret pe_bl))
      pss_nil)
    (pss_cut (ps_for PassesOwn.never rfl (pi_str (pv 0)) (pg_name (i := 1) sc_law_word.nd rfl (Or.inl rfl))
      (pss_one (ps_if (pt_cmpR op_notIn_str (pv 1) pe_str rfl)
        (pss_one (ps_ret pe_bl))
        pss_nil)))
    (pss_one (ps_ret pe_bl)))), ?_⟩
  refine ⟨fun c H' => H' = H ∧ (c = true → isW z = false) ∧ (c = false → z.length ≠ 0 ∧ z.length ≤ 12), ?_, ?_⟩
  · refine ⟨_, rfl, z, rfl, small_le hz, rfl, _, rfl, ?_⟩
    refine ite2 (fun c => ⟨rfl, fun _ => isW_len (.inl ?_), fun e => by cases e⟩) (fun c => ?_)
    · have c' : V.int (z.length : Int) = V.int 0 := of_decide_eq_true c
      injection c' with c2
      omega
    · have c' : z.length ≠ 0 := fun e => c (decide_eq_true (by rw [e]; rfl))
      refine ⟨_, rfl, z, rfl, small_le hz, _, _, rfl, rfl, _, rfl, rfl, fun e => isW_len (.inr ?_), fun e => ⟨c', ?_⟩⟩
      · have := of_decide_eq_true e
        omega
      · have := of_decide_eq_false e
        omega
  rintro c H' ⟨rfl, c1, c2⟩
  cases c with
  | true =>
    have q' := q
    rw [c1 rfl] at q'
    exact q'
  | false =>
    obtain ⟨z0, z1⟩ := c2 rfl
    refine ⟨fun σ' H2 => H2 = H' ∧ isW z = true, ?_, ?_⟩
    · refine ⟨_, rfl, z, rfl, ?_⟩
      refine for_str (fun i σ' H2 => H2 = H' ∧ i ≤ z.cps.size ∧ (∀ (j c : Nat), j < i → z.cps[j]? = some c → inA c = true) ∧ ∃ o1 : Option V, σ' = [some (.str z), o1]) ⟨rfl, Nat.zero_le _, fun j c h => absurd h (Nat.not_lt_zero _), none, rfl⟩ ?_ ?_
      · rintro i c σ' H2 hc ⟨rfl, hi, all, o1, rfl⟩
        refine ⟨_, rfl, _, _, rfl, rfl, _, rfl, ?_⟩
        refine ite2 (fun b => ?_) (fun b => ⟨rfl, (Array.getElem?_eq_some_iff.mp hc).1, fun j c' hj hc' => ?_, _, rfl⟩)
        · have b' : inA c = false := by
            have : (!(inA c)) = true := b
            simpa using this
          have q' := q
          rw [isW_bad hc b'] at q'
          exact q'
        · by_cases e : j = i
          · subst e
            rw [hc] at hc'
            cases hc'
            have : ¬ (!(inA c)) = true := b
            simpa using this
          · exact all j c' (by omega) hc'
      · rintro σ' H2 ⟨rfl, _, all, o1, rfl⟩
        exact ⟨rfl, isW_good z0 z1 fun i c h => all i c (Array.getElem?_eq_some_iff.mp h).1 h⟩
    rintro σ' H2 ⟨rfl, e⟩
    rw [e] at q
    exact q
end
end Mix

namespace Mix
open PySem L2 Gds Cht
/-! the told list of faults against the due one: the same def in k10 and k11 -/
def spFtold : Sp := fun vs H Q _ => ∃ (a b : Addr) (us vs' : List V) (fs : List Ft), vs = [.ref a, .ref b] ∧ H a = some (.lst us) ∧ H b = some (.lst vs') ∧ FtsIn H us fs ∧ FtsIn H vs' fs ∧ fs.length ≤ 1000 ∧ Q (.bl true) H
theorem kit_ss (K : PySem.W.Frag) : PySem.W.kitOne K (.type "str") (.type "str") = some true := by rfl
section
variable {P : Program} {w : World} {K : PySem.W.Frag} {mg : Str → Option Value} {base : Heap}
theorem sc_law_told : FnScope ["_law_found", sDueName, "_law_k"] ["_law_found", sDueName] (defScope sToldF) := ⟨rfl, rfl, rfl, by decide +kernel, rfl, by decide +kernel, by decide +kernel⟩
theorem ok_told {f gw : Addr} {fd dw : FuncData} (F : Fun K "_law_told" "_law_told" sToldF f fd) (G_law_whole : FnOk P w K mg base CX0 1 gw dw ["_law_found"] spWhole) (b_law_whole : Binds K dw ["_law_found"] []) (k_law_whole : PySem.W.keepIn K (.ref gw) = true) (m_law_whole : mg "_law_whole" = some (.ref gw))
    (m_isinstance : mg "isinstance" = none) (m_list : mg "list" = none) (m_tuple : mg "tuple" = none) (m_str : mg "str" = none) (m_len : mg "len" = none) (m_range : mg "range" = none) : FnOk P w K mg base CX0 2 f fd ["_law_found", sDueName] spFtold := by
  refine F.ok sc_law_told (fun vs H Q E h => ?_) (fun cdv A outer s H vs Q E hr h => ?_)
  · obtain ⟨a, b, us, vs', fs, rfl, _⟩ := h
    rfl
  obtain ⟨a, b, us, vs', fs, rfl, ha, hb, ra, rb, hz, q⟩ := h
  refine ⟨_, (pss_cons (ps_if (pt_cut (PW.pt (pw_or (pt_not (pt_val (pe_callB call_isinst rfl m_isinstance PyProof.Rows.boot_isinstance (pa_cons (pv 0) (pa_cons (pe_bltn (v := .ty "list") rfl m_list PyProof.Rows.boot_list rfl) pa_nil))))) (pw_or1 (pt_cmpR op_ne (pe_callB call_len_seq rfl m_len PySem.boot_len (pa_cons (pv 0) pa_nil)) (pe_callB call_len_seq rfl m_len PySem.boot_len (pa_cons (pv 1) pa_nil)) (nomark _))))))
      (pss_one (ps_ret pe_bl))
      pss_nil)
    (pss_cut (ps_for PassesOwn.never rfl (pi_range1 rfl m_range (pa_cons (pe_callB call_len_seq rfl m_len PySem.boot_len (pa_cons (pv 1) pa_nil)) pa_nil)) (pg_name (i := 2) sc_law_told.nd rfl (Or.inl rfl))
      (pss_cons (ps_if (pt_cut (PW.pt (pw_or (pt_not (pt_val (pe_callB call_isinst rfl m_isinstance PyProof.Rows.boot_isinstance (pa_cons (pe_ix ix_list (pv 0) (pv 2) (fun _ _ => rfl)) (pa_cons (pe_bltn (v := .ty "tuple") rfl m_tuple PyProof.Rows.boot_tuple rfl) pa_nil))))) (pw_or1 (pt_cmpR op_ne (pe_callB call_len_seq rfl m_len PySem.boot_len (pa_cons (pe_ix ix_list (pv 0) (pv 2) (fun _ _ => rfl)) pa_nil)) pe_int (nomark _))))))
        (pss_one (ps_ret pe_bl))
        pss_nil)
      (pss_cons (ps_if (pt_cut (PW.pt (pw_or (pt_not (pt_val (pe_callB call_isinst rfl m_isinstance PyProof.Rows.boot_isinstance (pa_cons (pe_ix ix_tup (pe_ix ix_list (pv 0) (pv 2) (fun _ _ => rfl)) pe_int (fun _ _ => rfl)) (pa_cons (pe_bltn (v := .ty "str") rfl m_str PyProof.Rows.boot_str rfl) pa_nil))))) (pw_or1 (pt_not (pt_val (pe_call G_law_whole hr rfl m_law_whole k_law_whole b_law_whole .nil pass0 (pa_cons (pe_ix ix_tup (pe_ix ix_list (pv 0) (pv 2) (fun _ _ => rfl)) pe_int (fun _ _ => rfl)) pa_nil))))))))
        (pss_one (ps_ret pe_bl))
        pss_nil)
      (pss_one (ps_if (pt_cmpR (op_neT hr.units0) (pe_ix ix_list (pv 0) (pv 2) (fun _ _ => rfl)) (pe_ix ix_list (pv 1) (pv 2) (fun _ _ => rfl)) (nomark _))
        (pss_one (ps_ret pe_bl))
        pss_nil)))))
    (pss_one (ps_ret pe_bl)))), ?_⟩
  have eqF : ∀ v : V, (!decide (v = v)) = false := fun v => by simp
  have la := ra.length
  have lb := rb.length
  refine ⟨fun c H' => c = false ∧ H' = H, ?_, ?_⟩
  · refine ⟨_, rfl, _, "list", _, true, rfl, .lst ha, kit_ll K, _, rfl, ifF rfl ?_⟩
    refine ⟨_, rfl, a, _, rfl, .inl (SqL.of ha), _, rfl, b, _, rfl, .inl (SqL.of hb), rfl, _, rfl, ?_, rfl⟩
    rw [la, lb]
    exact eqF _
  rintro c H' ⟨rfl, rfl⟩
  refine ⟨fun σ' H2 => H2 = H', ?_, ?_⟩
  · refine ⟨_, rfl, b, _, rfl, .inl (SqL.of hb), _, rfl, by omega, by omega, ?_⟩
    refine for_range (fun i σ' H2 => H2 = H' ∧ ∃ o2 : Option V, σ' = [some (.ref a), some (.ref b), o2]) ⟨rfl, none, rfl⟩ ?_ (fun σ' H2 ⟨e, _⟩ => e)
    rintro i σ' H2 hi ⟨rfl, o2, rfl⟩
    have hi' : i < fs.length := by
      rw [Int.toNat_natCast] at hi
      omega
    have er : fs[i]? = some fs[i] := List.getElem?_eq_getElem hi'
    generalize fs[i] = r at er
    obtain ⟨_, e1, a1, rfl, h1⟩ := ra.get er
    obtain ⟨_, e2, b1, rfl, h2⟩ := rb.get er
    have at1 : atI us (0 + (i : Int)) = some (.ref a1) := by
      rw [Int.zero_add]
      exact atI_nat e1
    have at2 : atI vs' (0 + (i : Int)) = some (.ref b1) := by
      rw [Int.zero_add]
      exact atI_nat e2
    refine ⟨fun c H3 => c = false ∧ H3 = H2, ?_, ?_⟩
    · refine ⟨_, rfl, _, rfl, a, _, _, _, rfl, rfl, SqL.of ha, at1, _, "tuple", _, true, rfl, .tup h1, kit_tt K, _, rfl, ifF rfl ?_⟩
      exact ⟨_, rfl, _, rfl, a, _, _, _, rfl, rfl, SqL.of ha, at1, a1, _, rfl, .inr (SqT.of h1), rfl, _, rfl, rfl, rfl⟩
    rintro c H3 ⟨rfl, rfl⟩
    refine ⟨fun c H4 => c = false ∧ H4 = H3, ?_, ?_⟩
    · refine ⟨_, rfl, _, rfl, a, _, _, _, rfl, rfl, SqL.of ha, at1, a1, _, _, _, rfl, rfl, SqT.of h1, rfl, _, "str", _, true, rfl, .str _, kit_ss K, _, rfl, ifF rfl ?_⟩
      exact ⟨_, rfl, _, rfl, a, _, _, _, rfl, rfl, SqL.of ha, at1, a1, _, _, _, rfl, rfl, SqT.of h1, rfl, r.2, rfl, _, rfl, rfl, rfl⟩
    rintro c H4 ⟨rfl, rfl⟩
    exact ⟨_, rfl, _, rfl, a, _, _, _, rfl, rfl, SqL.of ha, at1, _, rfl, _, rfl, b, _, _, _, rfl, rfl, SqL.of hb, at2, a1, b1, _, rfl, rfl, SqT.of h1, SqT.of h2, rfl, _, rfl, ifF rfl ⟨rfl, _, rfl⟩⟩
  rintro σ' H2 rfl
  exact q
end
end Mix

namespace Gdp
open PySem L2 Mix Gds
abbrev sWithin : Stmt := Mix.top 1
abbrev sHeight : Stmt := Mix.top 2
abbrev sPlain : Stmt := Mix.top 3
abbrev sAsked : Stmt := Mix.top 4
def spWithin : Sp := fun vs H Q _ => ∃ (vg : V) (g : Gd), vs = [vg] ∧ GdIn H vg g ∧ ∀ (p : Addr) (us : List V) (H' : Hp), Same H H' → H p = none → H' p = some (.lst us) → Ins H' us g.inner → Q (.ref p) H'
def spHeight (n : Nat) : Sp := fun vs H Q _ => ∃ (vg : V) (g : Gd), vs = [vg] ∧ GdIn H vg g ∧ g.ht ≤ n ∧ ∀ H', Same H H' → Q (.int (g.ht : Int)) H'
def spPlain (n : Nat) : Sp := fun vs H Q _ => ∃ (vg : V) (g : Gd), vs = [vg] ∧ GdIn H vg g ∧ g.ht ≤ n ∧ g.lv ≤ 1000 ∧ ∀ (p : Addr) (us : List V) (H' : Hp), Same H H' → H p = none → H' p = some (.lst us) → Ins H' us g.plains → Q (.ref p) H'
def spAsked : Sp := fun vs H Q _ => ∃ (vg : V) (g : Gd), vs = [vg] ∧ GdIn H vg g ∧ g.ht ≤ 20 ∧ g.lv ≤ 1000 ∧ g.fit ∧ ∀ (t p1 p2 : Addr) (bs rs : List Int) (H' : Hp), Same H H' → H p1 = none → H p2 = none → p1 ≠ p2 →
  H' t = some (.tup [.ref p1, .ref p2]) → H' p1 = some (.lst (bs.map V.int)) → H' p2 = some (.lst (rs.map V.int)) → Srt bs g.bxs → Srt rs g.rms → Q (.ref t) H'
section
variable {P : Program} {w : World} {K : PySem.W.Frag} {mg : Str → Option Value} {base : Heap}
theorem sc_within : FnScope ["guard"] ["guard"] (defScope sWithin) := ⟨rfl, rfl, rfl, by decide +kernel, rfl, by decide +kernel, by decide +kernel⟩
theorem ok_within {f : Addr} {fd : FuncData} (F : Fun K "guards_within" "guards_within" sWithin f fd) : FnOk P w K mg base CX0 1 f fd ["guard"] spWithin := by
  refine F.ok sc_within (fun vs H Q E h => ?_) (fun cdv A outer s H vs Q E hr h => ?_)
  · obtain ⟨vg, g, rfl, _⟩ := h
    rfl
  obtain ⟨vg, g, rfl, hg, q⟩ := h
  refine ⟨_, (pss_cons (ps_if (pt_cmpR op_eq (pe_ix ix_tup (pv 0) pe_int (fun _ _ => rfl)) pe_str (nomark _))
      (pss_one (ps_ret (pe_lst (pa_cons (pe_ix ix_tup (pv 0) pe_int (fun _ _ => rfl)) pa_nil))))
      pss_nil)
    (pss_cons (ps_if (pt_cmpR op_in_seq (pe_ix ix_tup (pv 0) pe_int (fun _ _ => rfl)) (pe_tup (pa_cons pe_str (pa_cons pe_str pa_nil))) rfl)
      (pss_one (ps_ret (pe_lst (pa_cons (pe_ix ix_tup (pv 0) pe_int (fun _ _ => rfl)) (pa_cons (pe_ix ix_tup (pv 0) pe_int (fun _ _ => rfl)) pa_nil)))))
      pss_nil)
    (pss_one (ps_ret (pe_lst pa_nil))))), ?_⟩
  have no : ∀ (p p2 : Addr) (o : HO), H p = none → (upd H p o) p2 = none → g.inner = [] → Q (.ref p2) (upd (upd H p o) p2 (.lst [])) := fun p p2 o hp hp2 e => by
    have i0 : Ins (upd (upd H p o) p2 (.lst [])) [] g.inner := by
      rw [e]
      exact .nil
    exact q p2 [] _ ((same_new hp _).trans (same_new hp2 _)) ((same_new hp o).free hp2) upd_same i0
  cases hg with
  | @yes a e =>
    refine ⟨_, rfl, a, _, _, _, rfl, rfl, SqT.of e, rfl, rfl, _, rfl, strNe (by decide +kernel) ?_⟩
    exact ⟨_, rfl, a, _, _, _, rfl, rfl, SqT.of e, rfl, small_le (by show 2 ≤ 1000; decide), fun p hp => ⟨p, _, rfl, .inr (SqT.of upd_same), rfl, rfl, _, rfl, ifF (by decide +kernel) ⟨Nat.zero_le _, fun p2 hp2 => no p p2 _ hp hp2 rfl⟩⟩⟩
  | @is a c m e =>
    refine ⟨_, rfl, a, _, _, _, rfl, rfl, SqT.of e, rfl, rfl, _, rfl, strNe (by decide +kernel) ?_⟩
    exact ⟨_, rfl, a, _, _, _, rfl, rfl, SqT.of e, rfl, small_le (by show 2 ≤ 1000; decide), fun p hp => ⟨p, _, rfl, .inr (SqT.of upd_same), rfl, rfl, _, rfl, ifF (by decide +kernel) ⟨Nat.zero_le _, fun p2 hp2 => no p p2 _ hp hp2 rfl⟩⟩⟩
  | @under a c m e =>
    refine ⟨_, rfl, a, _, _, _, rfl, rfl, SqT.of e, rfl, rfl, _, rfl, strNe (by decide +kernel) ?_⟩
    exact ⟨_, rfl, a, _, _, _, rfl, rfl, SqT.of e, rfl, small_le (by show 2 ≤ 1000; decide), fun p hp => ⟨p, _, rfl, .inr (SqT.of upd_same), rfl, rfl, _, rfl, ifF (by decide +kernel) ⟨Nat.zero_le _, fun p2 hp2 => no p p2 _ hp hp2 rfl⟩⟩⟩
  | @inn a r e =>
    refine ⟨_, rfl, a, _, _, _, rfl, rfl, SqT.of e, rfl, rfl, _, rfl, strNe (by decide +kernel) ?_⟩
    exact ⟨_, rfl, a, _, _, _, rfl, rfl, SqT.of e, rfl, small_le (by show 2 ≤ 1000; decide), fun p hp => ⟨p, _, rfl, .inr (SqT.of upd_same), rfl, rfl, _, rfl, ifF (by decide +kernel) ⟨Nat.zero_le _, fun p2 hp2 => no p p2 _ hp hp2 rfl⟩⟩⟩
  | @neg a v g e hg =>
    refine ⟨_, rfl, a, _, _, _, rfl, rfl, SqT.of e, rfl, rfl, _, rfl, strEq ?_⟩
    exact ⟨_, rfl, a, _, _, _, rfl, rfl, SqT.of e, rfl, small_le (by show 1 ≤ 1000; decide), fun p hp => q p [v] _ (same_new hp _) hp upd_same (.cons (hg.mono (KeepT.new hp _)) .nil)⟩
  | @both a v u g h e hg hh =>
    refine ⟨_, rfl, a, _, _, _, rfl, rfl, SqT.of e, rfl, rfl, _, rfl, strNe (by decide +kernel) ?_⟩
    refine ⟨_, rfl, a, _, _, _, rfl, rfl, SqT.of e, rfl, small_le (by show 2 ≤ 1000; decide), fun p hp => ⟨p, _, rfl, .inr (SqT.of upd_same), rfl, rfl, _, rfl, ifT (by decide +kernel) ?_⟩⟩
    have e' := (same_new hp (.tup [.str "both", .str "either"])) _ _ e
    refine ⟨_, rfl, a, _, _, _, rfl, rfl, SqT.of e', rfl, _, rfl, a, _, _, _, rfl, rfl, SqT.of e', rfl, small_le (by show 2 ≤ 1000; decide), fun p2 hp2 => ?_⟩
    have k2 := (KeepT.new hp (.tup [.str "both", .str "either"])).trans (KeepT.new hp2 (.lst [v, u]))
    exact q p2 [v, u] _ ((same_new hp _).trans (same_new hp2 _)) ((same_new hp _).free hp2) upd_same (.cons (hg.mono k2) (.cons (hh.mono k2) .nil))
  | @either a v u g h e hg hh =>
    refine ⟨_, rfl, a, _, _, _, rfl, rfl, SqT.of e, rfl, rfl, _, rfl, strNe (by decide +kernel) ?_⟩
    refine ⟨_, rfl, a, _, _, _, rfl, rfl, SqT.of e, rfl, small_le (by show 2 ≤ 1000; decide), fun p hp => ⟨p, _, rfl, .inr (SqT.of upd_same), rfl, rfl, _, rfl, ifT (by decide +kernel) ?_⟩⟩
    have e' := (same_new hp (.tup [.str "both", .str "either"])) _ _ e
    refine ⟨_, rfl, a, _, _, _, rfl, rfl, SqT.of e', rfl, _, rfl, a, _, _, _, rfl, rfl, SqT.of e', rfl, small_le (by show 2 ≤ 1000; decide), fun p2 hp2 => ?_⟩
    have k2 := (KeepT.new hp (.tup [.str "both", .str "either"])).trans (KeepT.new hp2 (.lst [v, u]))
    exact q p2 [v, u] _ ((same_new hp _).trans (same_new hp2 _)) ((same_new hp _).free hp2) upd_same (.cons (hg.mono k2) (.cons (hh.mono k2) .nil))
end
theorem ht_inner (g : Gd) : 1 + Sw.mxN (fun i => (g.inner.map fun k : Gd => (k.ht : Int)).getD i 0) 0 (g.inner.map fun k : Gd => (k.ht : Int)).length = (g.ht : Int) := by
  cases g with
  | neg g =>
    show 1 + (g.ht : Int) = ((g.ht + 1 : Nat) : Int)
    omega
  | both g h =>
    show 1 + (if (h.ht : Int) > (g.ht : Int) then (h.ht : Int) else (g.ht : Int)) = ((1 + max g.ht h.ht : Nat) : Int)
    split <;> omega
  | either g h =>
    show 1 + (if (h.ht : Int) > (g.ht : Int) then (h.ht : Int) else (g.ht : Int)) = ((1 + max g.ht h.ht : Nat) : Int)
    split <;> omega
  | _ => rfl
theorem inner_ht {g k : Gd} (h : k ∈ g.inner) : k.ht + 1 ≤ g.ht ∧ k.lv ≤ g.lv := by
  cases g with
  | neg g =>
    rw [List.mem_singleton.mp (show k ∈ [g] from h)]
    exact ⟨Nat.le_refl _, Nat.le_refl _⟩
  | both g j =>
    rcases List.mem_cons.mp (show k ∈ [g, j] from h) with e | e
    · rw [e]
      show g.ht + 1 ≤ 1 + max g.ht j.ht ∧ g.lv ≤ g.lv + j.lv
      omega
    · rw [List.mem_singleton.mp e]
      show j.ht + 1 ≤ 1 + max g.ht j.ht ∧ j.lv ≤ g.lv + j.lv
      omega
  | either g j =>
    rcases List.mem_cons.mp (show k ∈ [g, j] from h) with e | e
    · rw [e]
      show g.ht + 1 ≤ 1 + max g.ht j.ht ∧ g.lv ≤ g.lv + j.lv
      omega
    · rw [List.mem_singleton.mp e]
      show j.ht + 1 ≤ 1 + max g.ht j.ht ∧ j.lv ≤ g.lv + j.lv
      omega
  | _ => cases h
theorem flat_le {α β : Type} (f : α → List β) (L : List α) (k : Nat) : ((L.take k).flatMap f).length ≤ (L.flatMap f).length := by
  have e : L.flatMap f = (L.take k).flatMap f ++ (L.drop k).flatMap f := by rw [← List.flatMap_append, List.take_append_drop]
  rw [e, List.length_append]
  omega
section
variable {P : Program} {w : World} {K : PySem.W.Frag} {mg : Str → Option Value} {base : Heap}
theorem sc_height : FnScope ["guard"] ["guard"] (defScope sHeight) := ⟨rfl, rfl, rfl, by decide +kernel, rfl, by decide +kernel, by decide +kernel⟩
theorem ok_height {n : Nat} {f gw : Addr} {fd dw : FuncData} (F : Fun K "height" "height" sHeight f fd) (G_height : FnOk P w K mg base CX0 (n + 1) f fd ["guard"] (spHeight n)) (b_height : Binds K fd ["guard"] []) (k_height : PySem.W.keepIn K (.ref f) = true) (m_height : mg "height" = some (.ref f))
    (G_guards_within : FnOk P w K mg base CX0 (n + 1) gw dw ["guard"] spWithin) (b_guards_within : Binds K dw ["guard"] []) (k_guards_within : PySem.W.keepIn K (.ref gw) = true) (m_guards_within : mg "guards_within" = some (.ref gw)) (m_max : mg "max" = none) :
    FnOk P w K mg base CX0 (n + 2) f fd ["guard"] (spHeight (n + 1)) := by
  refine F.ok sc_height (fun vs H Q E h => ?_) (fun cdv A outer s H vs Q E hr h => ?_)
  · obtain ⟨vg, g, rfl, _⟩ := h
    rfl
  obtain ⟨vg, g, rfl, hg, hht, q⟩ := h
  refine ⟨_, (pss_one (ps_ret (pe_op op_add pe_int (pe_maxD rfl rfl m_max (pa_cons (pe_comp (caps := []) rfl (show CompSc (defScope sHeight) ["guard"] _ _ _ from ⟨rfl, rfl, by decide +kernel, by decide +kernel, by decide +kernel, by decide +kernel, by decide +kernel⟩) (pi_list (pe_call G_guards_within hr rfl m_guards_within k_guards_within b_guards_within .nil pass0 (pa_cons (pv 0) pa_nil))) (fun _ _ _ _ _ _ => pifs_nil) (fun _ _ _ _ _ _ => (pe_call G_height hr rfl m_height k_height b_height .nil pass0 (pa_cons (pv 0) pa_nil)))) pa_nil))))), ?_⟩
  refine ⟨_, rfl, vg, g, rfl, hg, fun p us H1 s1 hp h1 hI => ⟨p, rfl, ⟨_, SqL.of h1⟩, ?_⟩⟩
  refine comp_list (K := K) (a := p) (xs := us) (fun i acc H' => Same H1 H' ∧ acc = ((g.inner.take i).map fun k : Gd => (k.ht : Int)).map V.int) ⟨Same.refl _, rfl⟩ (fun i acc H' ⟨s2, _⟩ => SqL.of (s2 _ _ h1)) (fun i x acc H' hx ⟨s2, e2⟩ => ?_) (fun acc H' ⟨s2, e2⟩ p2 hp2 => ?_)
  · obtain ⟨k, hk, hgk⟩ := hI.get hx
    have hin := inner_ht (List.mem_of_getElem? hk)
    have li : i < us.length := (List.getElem?_eq_some_iff.mp hx).1
    have lu := hI.length
    have li2 : g.inner.length ≤ 2 := by cases g <;> simp [Gd.inner]
    refine ⟨_, rfl, x, k, rfl, hgk.mono (KeepT.of s2), by omega, fun H3 s3 => ⟨?_, s2.trans s3, ?_⟩⟩
    · rw [e2, List.length_map, List.length_map, List.length_take]
      exact small1000 (by omega)
    · rw [e2, List.take_add_one, hk, List.map_append, List.map_append]
      rfl
  · have lu := hI.length
    rw [List.take_of_length_le (by omega)] at e2
    subst e2
    refine ⟨p2, _, rfl, SqL.of upd_same, _, _, rfl, rfl, ?_⟩
    have qq := q _ (s1.trans (s2.trans (same_new hp2 (.lst ((g.inner.map fun k : Gd => (k.ht : Int)).map V.int)))))
    rw [← ht_inner g] at qq
    exact qq
theorem none_height {f : Addr} {fd : FuncData} : FnOk P w K mg base CX0 1 f fd ["guard"] (spHeight 0) := by
  have no : ∀ vs H Q E, ¬ spHeight 0 vs H Q E := fun vs H Q E h => by
    obtain ⟨vg, g, _, _, h2, _⟩ := h
    have := g.ht_pos
    omega
  exact ⟨fun vs H Q E h => absurd h (no vs H Q E), fun A outer s H args us vs Q E _ _ _ _ h => absurd h (no vs H Q E)⟩
theorem all_height {f gw : Addr} {fd dw : FuncData} (F : Fun K "height" "height" sHeight f fd) (b_height : Binds K fd ["guard"] []) (m_height : mg "height" = some (.ref f)) (G_guards_within : FnOk P w K mg base CX0 1 gw dw ["guard"] spWithin) (b_guards_within : Binds K dw ["guard"] []) (k_guards_within : PySem.W.keepIn K (.ref gw) = true) (m_guards_within : mg "guards_within" = some (.ref gw)) (m_max : mg "max" = none) :
    ∀ n : Nat, FnOk P w K mg base CX0 (n + 1) f fd ["guard"] (spHeight n)
  | 0 => none_height
  | n + 1 => ok_height F (all_height F b_height m_height G_guards_within b_guards_within k_guards_within m_guards_within m_max n) b_height F.kp m_height (G_guards_within.mono (show 1 ≤ n + 1 by omega)) b_guards_within k_guards_within m_guards_within m_max
theorem sc_plain_guards : FnScope ["guard", "inner", "plain", "within"] ["guard"] (defScope sPlain) := ⟨rfl, rfl, rfl, by decide +kernel, rfl, by decide +kernel, by decide +kernel⟩
theorem ok_plain {n : Nat} {f gw : Addr} {fd dw : FuncData} (F : Fun K "plain_guards" "plain_guards" sPlain f fd) (G_plain_guards : FnOk P w K mg base CX0 (n + 1) f fd ["guard"] (spPlain n)) (b_plain_guards : Binds K fd ["guard"] []) (k_plain_guards : PySem.W.keepIn K (.ref f) = true) (m_plain_guards : mg "plain_guards" = some (.ref f))
    (G_guards_within : FnOk P w K mg base CX0 (n + 1) gw dw ["guard"] spWithin) (b_guards_within : Binds K dw ["guard"] []) (k_guards_within : PySem.W.keepIn K (.ref gw) = true) (m_guards_within : mg "guards_within" = some (.ref gw)) (m_len : mg "len" = none) :
    FnOk P w K mg base CX0 (n + 2) f fd ["guard"] (spPlain (n + 1)) := by
  refine F.ok sc_plain_guards (fun vs H Q E h => ?_) (fun cdv A outer s H vs Q E hr h => ?_)
  · obtain ⟨vg, g, rfl, _⟩ := h
    rfl
  obtain ⟨vg, g, rfl, hg, hht, hlv, q⟩ := h
  refine ⟨_, (pss_cons (ps_set (i := 1) sc_plain_guards.nd rfl (Or.inl rfl) (pe_call G_guards_within hr rfl m_guards_within k_guards_within b_guards_within .nil pass0 (pa_cons (pv 0) pa_nil)))
    (pss_cons (ps_if (pt_cmpR op_eq (pe_callB call_len_seq rfl m_len PySem.boot_len (pa_cons (pv 1) pa_nil)) pe_int (nomark _))
      (pss_one (ps_ret (pe_lst (pa_cons (pv 0) pa_nil))))
      pss_nil)
    (pss_cons (ps_set (i := 2) sc_plain_guards.nd rfl (Or.inl rfl) (pe_lst pa_nil))
    (pss_cut (ps_for PassesOwn.never rfl (pi_list (pv 1)) (pg_name (i := 3) sc_plain_guards.nd rfl (Or.inl rfl))
      (pss_one (ps_expr (pe_bm PySem.F.plainAttrs_list PySem.F.slot_list_extend PySem.F.type_list_extend mt_extend (pv 2) (pa_cons (pe_call G_plain_guards hr rfl m_plain_guards k_plain_guards b_plain_guards .nil pass0 (pa_cons (pv 3) pa_nil)) pa_nil)))))
    (pss_one (ps_ret (pv 2))))))), ?_⟩
  refine ⟨_, rfl, vg, g, rfl, hg, fun p us H1 s1 hp h1 hI => ?_⟩
  have lu := hI.length
  refine ⟨_, rfl, p, _, rfl, .inl (SqL.of h1), rfl, _, rfl, ?_⟩
  refine ite2 (fun c => ?_) (fun c => ?_)
  · have c' : V.int ((us.length : Nat) : Int) = V.int 0 := of_decide_eq_true c
    injection c' with c2
    have e0 : g.inner = [] := List.eq_nil_of_length_eq_zero (by omega)
    refine ⟨_, rfl, small_le (by show 1 ≤ 1000; decide), fun p2 hp2 => q p2 [vg] _ (s1.trans (same_new hp2 _)) (s1.free hp2) upd_same ?_⟩
    rw [Gd.inner_nil e0]
    exact .cons (hg.mono ((KeepT.of s1).trans (KeepT.new hp2 _))) .nil
  have e0 : g.inner ≠ [] := fun z => by
    rw [z] at lu
    exact c (decide_eq_true (by rw [lu]; rfl))
  refine ⟨Nat.zero_le _, fun pp hpp => ?_⟩
  refine ⟨fun σ' H' => ∃ (ws : List V) (o3 : Option V), Same H1 H' ∧ H' pp = some (.lst ws) ∧ Ins H' ws g.plains ∧ σ' = [some vg, some (.ref p), some (.ref pp), o3], ?_, ?_⟩
  · refine ⟨_, rfl, p, rfl, ⟨_, SqL.of ((same_new hpp _) _ _ h1)⟩, ?_⟩
    refine for_list (K := K) (a := p) (xs := us) (fun i σ' H' => ∃ (ws : List V) (o3 : Option V), Same H1 H' ∧ H' pp = some (.lst ws) ∧ Ins H' ws ((g.inner.take i).flatMap Gd.plains) ∧ σ' = [some vg, some (.ref p), some (.ref pp), o3])
      ⟨[], none, same_new hpp _, upd_same, .nil, rfl⟩ (fun i σ' H' _ ⟨_, _, s2, _⟩ => SqL.of (s2 _ _ h1)) ?_ ?_
    · rintro i x σ' H2 hx ⟨ws, o3, s2, h2, i2, rfl⟩
      obtain ⟨k, hk, hgk⟩ := hI.get hx
      have hin := inner_ht (List.mem_of_getElem? hk)
      refine ⟨_, rfl, .inl ⟨rfl, _, SqL.of h2⟩, _, rfl, x, k, rfl, hgk.mono (KeepT.of s2), by omega, by omega, fun p3 zs H3 s3 hp3 h3 i3 => ?_⟩
      have i4 : Ins H3 (ws ++ zs) ((g.inner.take (i + 1)).flatMap Gd.plains) := by
        rw [flat_succ Gd.plains hk]
        exact (i2.mono (KeepT.of s3)).append i3
      have l4 := i4.length
      have l5 := flat_le Gd.plains g.inner (i + 1)
      rw [Gd.inner_plains e0, g.plains_len] at l5
      rw [List.length_append] at l4
      have h2' := s3 _ _ h2
      exact ⟨pp, p3, ws, zs, rfl, rfl, h2', h3, small_le (by omega), ws ++ zs, _, same_upd hpp (s2.trans s3) _, upd_same, i4.mono (KeepT.lst h2' _), rfl⟩
    · rintro σ' H2 ⟨ws, o3, s2, h2, i2, rfl⟩
      rw [List.take_of_length_le (by omega), Gd.inner_plains e0] at i2
      exact ⟨ws, o3, s2, h2, i2, rfl⟩
  rintro σ' H2 ⟨ws, o3, s2, h2, i2, rfl⟩
  exact ⟨_, rfl, q pp ws H2 (s1.trans s2) (s1.free hpp) h2 i2⟩
theorem none_plain {f : Addr} {fd : FuncData} : FnOk P w K mg base CX0 1 f fd ["guard"] (spPlain 0) := by
  have no : ∀ vs H Q E, ¬ spPlain 0 vs H Q E := fun vs H Q E h => by
    obtain ⟨vg, g, _, _, h2, _⟩ := h
    have := g.ht_pos
    omega
  exact ⟨fun vs H Q E h => absurd h (no vs H Q E), fun A outer s H args us vs Q E _ _ _ _ h => absurd h (no vs H Q E)⟩
theorem all_plain {f gw : Addr} {fd dw : FuncData} (F : Fun K "plain_guards" "plain_guards" sPlain f fd) (b_plain_guards : Binds K fd ["guard"] []) (m_plain_guards : mg "plain_guards" = some (.ref f)) (G_guards_within : FnOk P w K mg base CX0 1 gw dw ["guard"] spWithin) (b_guards_within : Binds K dw ["guard"] []) (k_guards_within : PySem.W.keepIn K (.ref gw) = true) (m_guards_within : mg "guards_within" = some (.ref gw)) (m_len : mg "len" = none) :
    ∀ n : Nat, FnOk P w K mg base CX0 (n + 1) f fd ["guard"] (spPlain n)
  | 0 => none_plain
  | n + 1 => ok_plain F (all_plain F b_plain_guards m_plain_guards G_guards_within b_guards_within k_guards_within m_guards_within m_len n) b_plain_guards F.kp m_plain_guards (G_guards_within.mono (show 1 ≤ n + 1 by omega)) b_guards_within k_guards_within m_guards_within m_len
end
end Gdp

namespace Gdp
open PySem L2 Mix Gds
theorem bxs_len : ∀ g : Gd, g.bxs.length ≤ g.lv ∧ g.rms.length ≤ g.lv
  | .neg g => bxs_len g
  | .both g h => by
    have a := bxs_len g
    have b := bxs_len h
    show (g.bxs ++ h.bxs).length ≤ g.lv + h.lv ∧ (g.rms ++ h.rms).length ≤ g.lv + h.lv
    rw [List.length_append, List.length_append]
    omega
  | .either g h => by
    have a := bxs_len g
    have b := bxs_len h
    show (g.bxs ++ h.bxs).length ≤ g.lv + h.lv ∧ (g.rms ++ h.rms).length ≤ g.lv + h.lv
    rw [List.length_append, List.length_append]
    omega
  | .yes => ⟨by decide, by decide⟩
  | .is _ _ => ⟨by show 1 ≤ 1; decide, by show 0 ≤ 1; decide⟩
  | .under _ _ => ⟨by show 1 ≤ 1; decide, by show 0 ≤ 1; decide⟩
  | .inn _ => ⟨by show 0 ≤ 1; decide, by show 1 ≤ 1; decide⟩
section
variable {P : Program} {w : World} {K : PySem.W.Frag} {mg : Str → Option Value} {base : Heap}
theorem sc_asked : FnScope ["guard", "plain", "boxes", "rooms"] ["guard"] (defScope sAsked) := ⟨rfl, rfl, rfl, by decide +kernel, rfl, by decide +kernel, by decide +kernel⟩
theorem ok_asked {f gp : Addr} {fd dp : FuncData} (F : Fun K "asked" "asked" sAsked f fd) (G_plain_guards : FnOk P w K mg base CX0 21 gp dp ["guard"] (spPlain 20)) (b_plain_guards : Binds K dp ["guard"] []) (k_plain_guards : PySem.W.keepIn K (.ref gp) = true) (m_plain_guards : mg "plain_guards" = some (.ref gp))
    (m_sorted : mg "sorted" = none) (m_set : mg "set" = none) : FnOk P w K mg base CX0 22 f fd ["guard"] spAsked := by
  refine F.ok sc_asked (fun vs H Q E h => ?_) (fun cdv A outer s H vs Q E hr h => ?_)
  · obtain ⟨vg, g, rfl, _⟩ := h
    rfl
  obtain ⟨vg, g, rfl, hg, hht, hlv, hfit, q⟩ := h
  refine ⟨_, (pss_cons (ps_set (i := 1) sc_asked.nd rfl (Or.inl rfl) (pe_call G_plain_guards hr rfl m_plain_guards k_plain_guards b_plain_guards .nil pass0 (pa_cons (pv 0) pa_nil)))
    (pss_cons (ps_setC (i := 2) (caps := []) rfl sc_asked.nd rfl (Or.inl rfl) (show CompSc (defScope sAsked) ["guard", "plain", "boxes", "rooms"] _ _ _ from ⟨rfl, rfl, by decide +kernel, by decide +kernel, by decide +kernel, by decide +kernel, by decide +kernel⟩) (pi_list (pv 1)) (fun _ _ _ _ _ _ => pifs_one (pt_cmpR (r := rIn K false) op_in_seq (pe_ix (r := rIxT K) ix_tup (pv 0) pe_int (fun _ _ => rfl)) (pe_tup (pa_cons pe_str (pa_cons pe_str pa_nil))) rfl)) (fun _ _ _ _ _ _ => (pe_ix (r := rIxT K) ix_tup (pv 0) pe_int (fun _ _ => rfl))))
    (pss_cons (ps_setC (i := 3) (caps := []) rfl sc_asked.nd rfl (Or.inl rfl) (show CompSc (defScope sAsked) ["guard", "plain", "boxes", "rooms"] _ _ _ from ⟨rfl, rfl, by decide +kernel, by decide +kernel, by decide +kernel, by decide +kernel, by decide +kernel⟩) (pi_list (pv 1)) (fun _ _ _ _ _ _ => pifs_one (pt_cmpR op_eq (pe_ix (r := rIxT K) ix_tup (pv 0) pe_int (fun _ _ => rfl)) pe_str (nomark _))) (fun _ _ _ _ _ _ => (pe_ix (r := rIxT K) ix_tup (pv 0) pe_int (fun _ _ => rfl))))
    (pss_one (ps_ret (pe_tup (pa_cons (pe_sortedSet rfl rfl m_sorted rfl m_set (pa_cons (pv 2) pa_nil)) (pa_cons (pe_sortedSet rfl rfl m_sorted rfl m_set (pa_cons (pv 3) pa_nil)) pa_nil)))))))), ?_⟩
  refine ⟨_, rfl, vg, g, rfl, hg, hht, hlv, fun p us H1 s1 hp h1 hI => ?_⟩
  have lu := hI.length
  have lp := g.plains_len
  have lb := bxs_len g
  refine ⟨_, rfl, p, rfl, ⟨_, SqL.of h1⟩, ?_⟩
  refine comp_list (K := K) (a := p) (xs := us) (fun i acc H' => Same H1 H' ∧ acc = ((g.plains.take i).flatMap Gd.bxs).map V.int) ⟨Same.refl _, rfl⟩ (fun i acc H' ⟨s2, _⟩ => SqL.of (s2 _ _ h1)) (fun i x acc H' hx ⟨s2, e2⟩ => ?_) (fun acc H' ⟨s2, e2⟩ p2 hp2 => ?_)
  · obtain ⟨k, hk, hgk⟩ := hI.get hx
    have leaf := g.plains_leaf k (List.mem_of_getElem? hk)
    have l5 := flat_le Gd.bxs g.plains i
    rw [g.plains_bxs] at l5
    have lacc : acc.length < sizeLine := by
      rw [e2, List.length_map]
      exact small1000 (by omega)
    have stay : ∀ H'' : Hp, Same H' H'' → k.bxs = [] → Same H1 H'' ∧ acc = ((g.plains.take (i + 1)).flatMap Gd.bxs).map V.int := fun H'' s3 e => by
      refine ⟨s2.trans s3, ?_⟩
      rw [flat_succ Gd.bxs hk, e, List.append_nil]
      exact e2
    have more : ∀ (H'' : Hp) (b : Int), Same H' H'' → k.bxs = [b] → acc.length < sizeLine ∧ Same H1 H'' ∧ acc ++ [V.int b] = ((g.plains.take (i + 1)).flatMap Gd.bxs).map V.int := fun H'' b s3 e => by
      refine ⟨lacc, s2.trans s3, ?_⟩
      rw [flat_succ Gd.bxs hk, e, List.map_append, ← e2]
      rfl
    have hgk' := hgk.mono (KeepT.of s2)
    cases hgk' with
    | @yes a e => exact ⟨_, rfl, a, _, _, _, rfl, rfl, SqT.of e, rfl, small_le (by show 2 ≤ 1000; decide), fun pt hpt => ⟨pt, _, rfl, .inr (SqT.of upd_same), rfl, rfl, _, rfl, ifF (by decide +kernel) (stay _ (same_new hpt _) rfl)⟩⟩
    | @is a c m e =>
      refine ⟨_, rfl, a, _, _, _, rfl, rfl, SqT.of e, rfl, small_le (by show 2 ≤ 1000; decide), fun pt hpt => ⟨pt, _, rfl, .inr (SqT.of upd_same), rfl, rfl, _, rfl, ifT (by decide +kernel) ?_⟩⟩
      exact ⟨_, rfl, a, _, _, _, rfl, rfl, SqT.of ((same_new hpt _) _ _ e), rfl, more _ c (same_new hpt _) rfl⟩
    | @under a c m e =>
      refine ⟨_, rfl, a, _, _, _, rfl, rfl, SqT.of e, rfl, small_le (by show 2 ≤ 1000; decide), fun pt hpt => ⟨pt, _, rfl, .inr (SqT.of upd_same), rfl, rfl, _, rfl, ifT (by decide +kernel) ?_⟩⟩
      exact ⟨_, rfl, a, _, _, _, rfl, rfl, SqT.of ((same_new hpt _) _ _ e), rfl, more _ c (same_new hpt _) rfl⟩
    | @inn a r e => exact ⟨_, rfl, a, _, _, _, rfl, rfl, SqT.of e, rfl, small_le (by show 2 ≤ 1000; decide), fun pt hpt => ⟨pt, _, rfl, .inr (SqT.of upd_same), rfl, rfl, _, rfl, ifF (by decide +kernel) (stay _ (same_new hpt _) rfl)⟩⟩
    | neg => cases leaf
    | both => cases leaf
    | either => cases leaf
  rw [List.take_of_length_le (by omega), g.plains_bxs] at e2
  subst e2
  have s3 := s2.trans (same_new hp2 (.lst (g.bxs.map V.int)))
  refine ⟨_, rfl, p, rfl, ⟨_, SqL.of (s3 _ _ h1)⟩, ?_⟩
  refine comp_list (K := K) (a := p) (xs := us) (fun i acc H3 => Same (upd H' p2 (.lst (g.bxs.map V.int))) H3 ∧ acc = ((g.plains.take i).flatMap Gd.rms).map V.int) ⟨Same.refl _, rfl⟩ (fun i acc H3 ⟨s4, _⟩ => SqL.of (s4 _ _ (s3 _ _ h1))) (fun i x acc H3 hx ⟨s4, e4⟩ => ?_) (fun acc H3 ⟨s4, e4⟩ p3 hp3 => ?_)
  · obtain ⟨k, hk, hgk⟩ := hI.get hx
    have leaf := g.plains_leaf k (List.mem_of_getElem? hk)
    have l5 := flat_le Gd.rms g.plains i
    rw [g.plains_rms] at l5
    have lacc : acc.length < sizeLine := by
      rw [e4, List.length_map]
      exact small1000 (by omega)
    have stay : k.rms = [] → Same (upd H' p2 (.lst (g.bxs.map V.int))) H3 ∧ acc = ((g.plains.take (i + 1)).flatMap Gd.rms).map V.int := fun e => by
      refine ⟨s4, ?_⟩
      rw [flat_succ Gd.rms hk, e, List.append_nil]
      exact e4
    have more : ∀ (b : Int), k.rms = [b] → acc.length < sizeLine ∧ Same (upd H' p2 (.lst (g.bxs.map V.int))) H3 ∧ acc ++ [V.int b] = ((g.plains.take (i + 1)).flatMap Gd.rms).map V.int := fun b e => by
      refine ⟨lacc, s4, ?_⟩
      rw [flat_succ Gd.rms hk, e, List.map_append, ← e4]
      rfl
    have hgk' := hgk.mono (KeepT.of (s3.trans s4))
    cases hgk' with
    | @yes a e => exact ⟨_, rfl, a, _, _, _, rfl, rfl, SqT.of e, rfl, rfl, _, rfl, strNe (by decide +kernel) (stay rfl)⟩
    | @is a c m e => exact ⟨_, rfl, a, _, _, _, rfl, rfl, SqT.of e, rfl, rfl, _, rfl, strNe (by decide +kernel) (stay rfl)⟩
    | @under a c m e => exact ⟨_, rfl, a, _, _, _, rfl, rfl, SqT.of e, rfl, rfl, _, rfl, strNe (by decide +kernel) (stay rfl)⟩
    | @inn a r e => exact ⟨_, rfl, a, _, _, _, rfl, rfl, SqT.of e, rfl, rfl, _, rfl, strEq ⟨_, rfl, a, _, _, _, rfl, rfl, SqT.of e, rfl, more r rfl⟩⟩
    | neg => cases leaf
    | both => cases leaf
    | either => cases leaf
  rw [List.take_of_length_le (by omega), g.plains_rms] at e4
  subst e4
  have s5 := s4.trans (same_new hp3 (.lst (g.rms.map V.int)))
  refine ⟨_, rfl, p2, g.bxs, rfl, SqL.of (s5 _ _ upd_same), by omega, hfit.1, fun q1 bs hq1 b1 b2 => ?_⟩
  have s6 := same_new hq1 (.lst (bs.map V.int))
  refine ⟨_, rfl, p3, g.rms, rfl, SqL.of (s6 _ _ upd_same), by omega, hfit.2, fun q2 rs hq2 r1 r2 => ?_⟩
  have s7 := same_new hq2 (.lst (rs.map V.int))
  refine ⟨small_le (by show 2 ≤ 1000; decide), fun t ht => ?_⟩
  have s8 := same_new ht (.tup [.ref q1, .ref q2])
  have sA := (s1.trans s3).trans s5
  refine q t q1 q2 bs rs _ ((sA.trans s6).trans (s7.trans s8)) (sA.free hq1) ((sA.trans s6).free hq2) (ne_of_none upd_same hq2) upd_same (s8 _ _ (s7 _ _ upd_same)) (s8 _ _ upd_same) ⟨b1, b2⟩ ⟨r1, r2⟩
end
end Gdp

namespace Prg
open PySem L2 Mix Gds Dds Wds Cht
def spNameF (K : PySem.W.Frag) : Sp := fun vs H Q _ => ∃ (z : Str) (a : Addr) (zs : List Str), vs = [.str z, .ref a] ∧ (SqL K H a (zs.map V.str) ∨ SqT K H a (zs.map V.str)) ∧ z.length ≤ 1000 ∧ ∀ H', Same H H' → Q (.bl (nameF z zs)) H'
def spNames (K : PySem.W.Frag) : Sp := fun vs H Q _ => ∃ (a : Addr) (xs : List V) (zs : List Str), vs = [.ref a] ∧ SqT K H a xs ∧ All2 (FsIn H) xs zs ∧ zs.length ≤ 1000 ∧ ∀ p, H p = none → Q (.ref p) (upd H p (.lst (zs.map V.str)))
def spBoxF : Sp := fun vs H Q _ => ∃ (v : V) (t : Addr) (b : Bx) (bv : List V) (bs : List Bx), vs = [v, .ref t] ∧ BxIn H v b ∧ H t = some (.tup bv) ∧ BxsIn H bv bs ∧ bs.length ≤ 60 ∧ b.nm.length ≤ 1000 ∧ ∀ H', Same H H' → Q (.bl (boxF b bs)) H'
def spDepthF : Sp := fun vs H Q _ => ∃ (d : Int) (t : Addr) (rv : List V) (rs : List Ro), vs = [.int d, .ref t] ∧ H t = some (.tup rv) ∧ RosIn H rv rs ∧ Q (.bl (depthF d rs)) H
def spKeepsF : Sp := fun vs H Q _ => ∃ (a b : Str), vs = [.str a, .str b] ∧ ∀ H', Same H H' → Q (.bl (keepsF a b)) H'
def spEndF : Sp := fun vs H Q _ => ∃ (v : V) (t : Addr) (r : Ro) (rv : List V) (rs : List Ro), vs = [v, .ref t] ∧ RoIn H v r ∧ H t = some (.tup rv) ∧ RosIn H rv rs ∧ Q (.bl (endF r rs)) H
theorem dstr (a b : Str) : decide (V.str a = V.str b) = decide (a = b) := decide_eq_decide.mpr ⟨fun h => by injection h, fun h => by rw [h]⟩
section
variable {P : Program} {w : World} {K : PySem.W.Frag} {mg : Str → Option Value} {base : Heap}
theorem sc_is_word : FnScope ["text"] ["text"] (defScope sIsWord) := ⟨rfl, rfl, rfl, by decide +kernel, rfl, by decide +kernel, by decide +kernel⟩
theorem ok_is_word {f : Addr} {fd : FuncData} {tL tS : Tok} (F : Fun K "is_word" "is_word" sIsWord f fd) (m_len : mg "len" = none) (m_all : mg "all" = none) (g_LONGEST : mg "LONGEST" = some (.int 12 tL)) (g_SMALL_LETTERS : mg "SMALL_LETTERS" = some (.str alpha tS)) : FnOk P w K mg base CX0 1 f fd ["text"] spWord := by
  refine F.ok sc_is_word (fun vs H Q E h => ?_) (fun cdv A outer s H vs Q E hr h => ?_)
  · obtain ⟨z, rfl, _⟩ := h
    rfl
  obtain ⟨z, rfl, hz, q⟩ := h
  refine ⟨_, pss_one (ps_ret (pe_and (pe_chainI op_le op_le pe_int (pe_callB call_len_str rfl m_len PySem.boot_len (pa_cons (pv 0) pa_nil)) (pe_glob (v := .int 12) rfl g_LONGEST ⟨_, rfl⟩))
    (pe_one (pe_callB (call_allB rfl) rfl m_all PyProof.Rows.boot_all (pa_cons (pe_comp (caps := []) rfl (show CompSc (defScope sIsWord) ["text"] _ _ _ from ⟨rfl, rfl, by decide +kernel, by decide +kernel, by decide +kernel, by decide +kernel, by decide +kernel⟩) (pi_str (pv 0)) (fun _ _ _ _ _ _ => pifs_nil)
      (fun _ _ _ _ _ _ => pe_cmpR op_in_str (pv 0) (pe_glob (v := .str alpha) rfl g_SMALL_LETTERS ⟨_, rfl⟩) rfl)) pa_nil))))), ?_⟩
  refine ⟨_, rfl, z, rfl, small_le hz, _, _, rfl, rfl, _, rfl, ?_⟩
  refine ite2 (fun c => ?_) (fun c => ?_)
  · refine ⟨_, rfl, z, rfl, ?_⟩
    have hsz : z.cps.size ≤ 1000 := hz
    refine comp_str (fun i acc H' => H' = H ∧ i ≤ z.cps.size ∧ acc = ((z.cps.toList.take i).map inA).map V.bl) ⟨rfl, Nat.zero_le _, rfl⟩ (fun i c' acc H' hc' ⟨e0, _, e⟩ => ?_) (fun acc H' ⟨e0, _, e⟩ p hp => ?_)
    · subst e0 e
      have hi : i < z.cps.size := (Array.getElem?_eq_some_iff.mp hc').1
      refine ⟨_, rfl, _, _, rfl, rfl, ?_, rfl, hi, ?_⟩
      · simp only [List.length_map, List.length_take]
        exact small1000 (by omega)
      · have e2 : z.cps.toList.take (i + 1) = z.cps.toList.take i ++ [c'] := by
          rw [List.take_add_one]
          have : z.cps.toList[i]? = some c' := by simpa using hc'
          rw [this]
          rfl
        rw [e2, List.map_append, List.map_append]
        rfl
    · subst e0 e
      refine ⟨p, _, rfl, SqL.of upd_same, ?_⟩
      have e3 : z.cps.toList.take z.cps.size = z.cps.toList := List.take_of_length_le (by simp)
      rw [e3]
      have e4 : isW z = (z.cps.toList.map inA).all id := by
        unfold isW
        rw [show (decide ((1 : Int) ≤ (z.length : Int)) && decide ((z.length : Int) ≤ 12)) = true from c, Bool.true_and]
      rw [← e4]
      exact q _ (same_new hp _)
  · have e4 : isW z = false := by
      unfold isW
      rw [Bool.eq_false_iff.mpr (show ¬ (decide ((1 : Int) ≤ (z.length : Int)) && decide ((z.length : Int) ≤ 12)) = true from c), Bool.false_and]
    have q' := q H (Same.refl _)
    rw [e4] at q'
    exact q'
theorem sc_name_has_fault : FnScope ["name", "ahead"] ["name", "ahead"] (defScope sNameHF) := ⟨rfl, rfl, rfl, by decide +kernel, rfl, by decide +kernel, by decide +kernel⟩
theorem ok_name {n : Nat} {f gw : Addr} {fd dw : FuncData} (F : Fun K "name_has_fault" "name_has_fault" sNameHF f fd) (G_is_word : FnOk P w K mg base CX0 n gw dw ["text"] spWord) (b_is_word : Binds K dw ["text"] []) (k_is_word : PySem.W.keepIn K (.ref gw) = true) (m_is_word : mg "is_word" = some (.ref gw)) :
    FnOk P w K mg base CX0 (n + 1) f fd ["name", "ahead"] (spNameF K) := by
  refine F.ok sc_name_has_fault (fun vs H Q E h => ?_) (fun cdv A outer s H vs Q E hr h => ?_)
  · obtain ⟨z, a, zs, rfl, _⟩ := h
    rfl
  obtain ⟨z, a, zs, rfl, hs, hz, q⟩ := h
  refine ⟨_, (pss_one (ps_ret (pe_or (pe_not (pe_call G_is_word hr rfl m_is_word k_is_word b_is_word .nil pass0 (pa_cons (pv 0) pa_nil))) (pe_one (pe_cmpR op_in_seq (pv 0) (pv 1) rfl))))), ?_⟩
  refine ⟨_, rfl, z, rfl, hz, fun H1 s1 => ⟨_, rfl, _, rfl, ?_⟩⟩
  have q' := q H1 s1
  unfold nameF at q'
  refine itB (fun c => ?_) (fun c => ?_)
  · rw [c, Bool.true_or] at q'
    exact q'
  · rw [c, Bool.false_or] at q'
    have hs1 : SqL K H1 a (zs.map V.str) ∨ SqT K H1 a (zs.map V.str) := hs.imp (fun x => s1.seq x) (fun x => s1.seqT x)
    refine ⟨_, rfl, _, rfl, a, _, rfl, hs1, rfl, strs_flat _, ?_⟩
    show Q (.bl (inV (.str z) (zs.map V.str))) H1
    rw [in_strs]
    exact q'
theorem sc_names_of : FnScope ["things"] ["things"] (defScope sNamesOf) := ⟨rfl, rfl, rfl, by decide +kernel, rfl, by decide +kernel, by decide +kernel⟩
theorem ok_names {f : Addr} {fd : FuncData} (F : Fun K "names_of" "names_of" sNamesOf f fd) : FnOk P w K mg base CX0 1 f fd ["things"] (spNames K) := by
  refine F.ok sc_names_of (fun vs H Q E h => ?_) (fun cdv A outer s H vs Q E hr h => ?_)
  · obtain ⟨a, xs, zs, rfl, _⟩ := h
    rfl
  obtain ⟨a, xs, zs, rfl, hs, hz, hl, q⟩ := h
  refine ⟨_, pss_one (ps_ret (pe_comp (caps := []) rfl (show CompSc (defScope sNamesOf) ["things"] _ _ _ from ⟨rfl, rfl, by decide +kernel, by decide +kernel, by decide +kernel, by decide +kernel, by decide +kernel⟩) (pi_tup (pv 0)) (fun _ _ _ _ _ _ => pifs_nil) (fun _ _ _ _ _ _ => (pe_ix (r := rIxT K) ix_tup (pv 0) pe_int (fun _ _ => rfl))))), ?_⟩
  refine ⟨_, rfl, a, rfl, ⟨_, hs⟩, ?_⟩
  refine comp_fst (K := K) (zs := zs) hs hz hl (fun b tl z e Q q => ⟨_, rfl, b, _, _, _, rfl, rfl, SqT.of e, atI_head, q⟩) fun p hp => ?_
  exact q p hp
theorem sc_box_has_fault : FnScope ["box", "ahead", "size", "start"] ["box", "ahead"] (defScope sBoxHF) := ⟨rfl, rfl, rfl, by decide +kernel, rfl, by decide +kernel, by decide +kernel⟩
theorem ok_boxF {n : Nat} {f gw gn : Addr} {fd dw dn : FuncData} {tG : Tok} (F : Fun K "box_has_fault" "box_has_fault" sBoxHF f fd) (G_names_of : FnOk P w K mg base CX0 n gn dn ["things"] (spNames K)) (b_names_of : Binds K dn ["things"] []) (k_names_of : PySem.W.keepIn K (.ref gn) = true) (m_names_of : mg "names_of" = some (.ref gn)) (G_name_has_fault : FnOk P w K mg base CX0 n gw dw ["name", "ahead"] (spNameF K)) (b_name_has_fault : Binds K dw ["name", "ahead"] []) (k_name_has_fault : PySem.W.keepIn K (.ref gw) = true) (m_name_has_fault : mg "name_has_fault" = some (.ref gw)) (g_GREATEST : mg "GREATEST" = some (.int big tG)) :
    FnOk P w K mg base CX0 (n + 1) f fd ["box", "ahead"] spBoxF := by
  refine F.ok sc_box_has_fault (fun vs H Q E h => ?_) (fun cdv A outer s H vs Q E hr h => ?_)
  · obtain ⟨v, t, b, bv, bs, rfl, _⟩ := h
    rfl
  obtain ⟨v, t, b, bv, bs, rfl, ⟨a, rfl, ha⟩, ht, hbs, h60, hnm, q⟩ := h
  refine ⟨_, (pss_cons (ps_set (i := 2) sc_box_has_fault.nd rfl (Or.inl rfl) (pe_ix ix_tup (pv 0) pe_int (fun _ _ => rfl)))
    (pss_cons (ps_set (i := 3) sc_box_has_fault.nd rfl (Or.inl rfl) (pe_ix ix_tup (pv 0) pe_int (fun _ _ => rfl)))
    (pss_cons (ps_if (pt_val (pe_call G_name_has_fault hr rfl m_name_has_fault k_name_has_fault b_name_has_fault .nil pass0 (pa_cons (pe_ix ix_tup (pv 0) pe_int (fun _ _ => rfl)) (pa_cons (pe_call G_names_of hr rfl m_names_of k_names_of b_names_of .nil pass0 (pa_cons (pv 1) pa_nil)) pa_nil))))
      (pss_one (ps_ret pe_bl))
      pss_nil)
    (pss_one (ps_ret (pe_or (pe_not (pe_chV op_le op_le pe_int (pv 2) (pe_glob (v := .int big) rfl g_GREATEST ⟨_, rfl⟩))) (pe_one (pe_not (pe_chV op_le op_lt pe_int (pv 3) (pv 2)))))))))), ?_⟩
  refine ⟨_, rfl, a, _, _, _, rfl, rfl, SqT.of ha, rfl, ?_⟩
  refine ⟨_, rfl, a, _, _, _, rfl, rfl, SqT.of ha, rfl, ?_⟩
  refine ⟨_, rfl, a, _, _, _, rfl, rfl, SqT.of ha, rfl, _, rfl, t, bv, bs.map (·.nm), rfl, SqT.of ht, BxsIn.fst hbs, by rw [List.length_map]; omega, fun p hp => ?_⟩
  refine ⟨b.nm, p, _, rfl, .inl (SqL.of upd_same), hnm, fun H1 s1 => ⟨_, rfl, ?_⟩⟩
  have s2 := (same_new hp (.lst ((bs.map (·.nm)).map V.str))).trans s1
  have q' := q H1 s2
  unfold boxF at q'
  refine itB (fun c => ?_) (fun c => ?_)
  · rw [c, Bool.true_or] at q'
    exact q'
  rw [c, Bool.false_or] at q'
  refine ⟨_, rfl, _, _, big, rfl, rfl, ⟨rfl, rfl⟩, _, rfl, _, rfl, ?_⟩
  rw [show within 1 big b.size = (decide (1 ≤ b.size) && decide (b.size ≤ big)) from rfl] at q'
  refine itB (fun d => ?_) (fun d => ?_)
  · rw [d, Bool.true_or] at q'
    exact q'
  · rw [d, Bool.false_or] at q'
    exact ⟨_, rfl, _, _, _, rfl, rfl, ⟨_, rfl, rfl, rfl⟩, _, rfl, q'⟩
theorem sc_keeps_has_fault : FnScope ["keeps", "kind"] ["keeps", "kind"] (defScope sKeepsHF) := ⟨rfl, rfl, rfl, by decide +kernel, rfl, by decide +kernel, by decide +kernel⟩
theorem ok_keepsF {f : Addr} {fd : FuncData} (F : Fun K "keeps_has_fault" "keeps_has_fault" sKeepsHF f fd) : FnOk P w K mg base CX0 1 f fd ["keeps", "kind"] spKeepsF := by
  refine F.ok sc_keeps_has_fault (fun vs H Q E h => ?_) (fun cdv A outer s H vs Q E hr h => ?_)
  · obtain ⟨a, b, rfl, _⟩ := h
    rfl
  obtain ⟨a, b, rfl, q⟩ := h
  refine ⟨_, (pss_cons (ps_if (pt_cmpR op_eq (pv 0) pe_str (nomark _))
      (pss_one (ps_ret (pe_cmpR op_ne (pv 1) pe_str (nomark _))))
      pss_nil)
    (pss_cons (ps_if (pt_cmpR op_eq (pv 0) pe_str (nomark _))
      (pss_one (ps_ret (pe_cmpR op_notIn_seq (pv 1) (pe_tup (pa_cons pe_str (pa_cons pe_str pa_nil))) rfl)))
      pss_nil)
    (pss_one (ps_ret (pe_cmpR op_ne (pv 0) pe_str (nomark _)))))), ?_⟩
  have q0 := q H (Same.refl _)
  unfold keepsF at q0 q
  refine ⟨_, rfl, rfl, _, rfl, ?_⟩
  refine itB (fun c => ?_) (fun c => ?_)
  · rw [dstr] at c
    rw [if_pos (of_decide_eq_true c), ← dstr] at q0
    exact ⟨_, rfl, rfl, q0⟩
  rw [dstr] at c
  have c' := of_decide_eq_false c
  refine ⟨_, rfl, rfl, _, rfl, ?_⟩
  refine itB (fun d => ?_) (fun d => ?_)
  · rw [dstr] at d
    refine ⟨_, rfl, small_le (by show 2 ≤ 1000; decide), fun p hp => ⟨p, _, rfl, .inr (SqT.of upd_same), rfl, rfl, ?_⟩⟩
    have q1 := q _ (same_new hp (.tup [.str "one", .str "all"]))
    rw [if_neg c', if_pos (of_decide_eq_true d), ← in_strs] at q1
    exact q1
  · rw [dstr] at d
    rw [if_neg c', if_neg (of_decide_eq_false d), ← dstr] at q0
    exact ⟨_, rfl, rfl, q0⟩
theorem sc_depth_has_fault : FnScope ["depth", "ahead"] ["depth", "ahead"] (defScope sDepthHF) := ⟨rfl, rfl, rfl, by decide +kernel, rfl, by decide +kernel, by decide +kernel⟩
theorem atI_last {α : Type} {xs : List α} (h : 0 < xs.length) : atI xs (-1) = xs[xs.length - 1]? := by
  unfold atI ixN
  rw [if_neg (by decide), if_pos (by omega)]
  show xs[((-1 : Int) + (xs.length : Int)).toNat]? = _
  congr 1
  omega
theorem ok_depthF {f : Addr} {fd : FuncData} {tD : Tok} (F : Fun K "depth_has_fault" "depth_has_fault" sDepthHF f fd) (m_len : mg "len" = none) (g_DEEPEST : mg "DEEPEST" = some (.int 12 tD)) : FnOk P w K mg base CX0 1 f fd ["depth", "ahead"] spDepthF := by
  refine F.ok sc_depth_has_fault (fun vs H Q E h => ?_) (fun cdv A outer s H vs Q E hr h => ?_)
  · obtain ⟨d, t, rv, rs, rfl, _⟩ := h
    rfl
  obtain ⟨d, t, rv, rs, rfl, ht, hrs, q⟩ := h
  refine ⟨_, (pss_cons (ps_if (pt_cmpR op_eq (pe_callB call_len_seq rfl m_len PySem.boot_len (pa_cons (pv 1) pa_nil)) pe_int (nomark _))
      (pss_one (ps_ret (pe_cmpR op_ne (pv 0) pe_int (nomark _))))
      pss_nil)
    (pss_one (ps_ret (pe_or (pe_not (pe_chV op_le op_le pe_int (pv 0) (pe_op op_add (pe_ix ix_tup (pe_ix ix_tup (pv 1) (pe_un un_neg pe_int) (fun _ _ => rfl)) pe_int (fun _ _ => rfl)) pe_int))) (pe_one (pe_cmpR op_gt (pv 0) (pe_glob (v := .int 12) rfl g_DEEPEST ⟨_, rfl⟩) (nomark _))))))), ?_⟩
  have hl := hrs.length
  unfold depthF at q
  refine ⟨_, rfl, t, _, rfl, .inr (SqT.of ht), rfl, _, rfl, ?_⟩
  refine itB (fun c => ?_) (fun c => ?_)
  · have c' := of_decide_eq_true c
    injection c' with c'
    rw [if_pos (by omega)] at q
    refine ⟨_, rfl, rfl, ?_⟩
    have e2 : (!decide (V.int d = V.int 0)) = decide (d ≠ 0) := by
      rw [dec_int]
      by_cases y : d = 0
      · rw [y]
        rfl
      · simp [y]
    rw [e2]
    exact q
  · have c' := of_decide_eq_false c
    have h0 : rs.length ≠ 0 := fun z => c' (by rw [hl, z]; rfl)
    rw [if_neg h0] at q
    have hk : rs.length - 1 < rs.length := by omega
    have er := List.getElem?_eq_getElem hk
    obtain ⟨v, hv, a, vi, vo, rfl, ha, _⟩ := hrs.get er
    have em : (rs.map (·.depth)).getD (rs.length - 1) 0 = rs[rs.length - 1].depth := by
      rw [List.getD_eq_getElem?_getD, List.getElem?_map, er]
      rfl
    have hat : atI rv (-1) = some (.ref a) := by
      rw [atI_last (by omega), hl]
      exact hv
    rw [em] at q
    refine ⟨_, rfl, _, _, rs[rs.length - 1].depth + 1, rfl, rfl, ⟨_, rfl, _, rfl, t, rv, _, _, rfl, rfl, SqT.of ht, hat, a, _, _, _, rfl, rfl, SqT.of ha, rfl, _, _, rfl, rfl, rfl, rfl⟩, _, rfl, _, rfl, ?_⟩
    rw [show within 1 (rs[rs.length - 1].depth + 1) d = (decide (1 ≤ d) && decide (d ≤ rs[rs.length - 1].depth + 1)) from rfl] at q
    refine itB (fun d => ?_) (fun d => ?_)
    · rw [d, Bool.true_or] at q
      exact q
    · rw [d, Bool.false_or] at q
      exact ⟨_, rfl, _, _, rfl, rfl, q⟩
theorem sc_end_has_fault : FnScope ["room", "behind", "has_kids"] ["room", "behind"] (defScope sEndHF) := ⟨rfl, rfl, rfl, by decide +kernel, rfl, by decide +kernel, by decide +kernel⟩
theorem ok_endF {f : Addr} {fd : FuncData} (F : Fun K "end_has_fault" "end_has_fault" sEndHF f fd) (m_len : mg "len" = none) : FnOk P w K mg base CX0 1 f fd ["room", "behind"] spEndF := by
  refine F.ok sc_end_has_fault (fun vs H Q E h => ?_) (fun cdv A outer s H vs Q E hr h => ?_)
  · obtain ⟨v, t, r, rv, rs, rfl, _⟩ := h
    rfl
  obtain ⟨v, t, r, rv, rs, rfl, ⟨a, vi, vo, rfl, ha, _⟩, ht, hrs, q⟩ := h
  refine ⟨_, (pss_cons (ps_set (i := 2) sc_end_has_fault.nd rfl (Or.inl rfl) (pe_cut (pe_and (pe_cmpR op_gt (pe_callB call_len_seq rfl m_len PySem.boot_len (pa_cons (pv 1) pa_nil)) pe_int (nomark _)) (pe_one (pe_cmpR op_gt (pe_ix ix_tup (pe_ix ix_tup (pv 1) pe_int (fun _ _ => rfl)) pe_int (fun _ _ => rfl)) (pe_ix ix_tup (pv 0) pe_int (fun _ _ => rfl)) (nomark _))))))
    (pss_cons (ps_if (pt_cmpR op_eq (pe_ix ix_tup (pv 0) pe_int (fun _ _ => rfl)) pe_str (nomark _))
      (pss_one (ps_ret (pv 2)))
      pss_nil)
    (pss_one (ps_ret (pe_not (pv 2)))))), ?_⟩
  have hl := hrs.length
  refine ⟨fun v H' => H' = H ∧ v = .bl (kidsF r rs), ?_, ?_⟩
  · refine ⟨_, rfl, t, _, rfl, .inr (SqT.of ht), _, _, rfl, rfl, _, rfl, ?_⟩
    refine itB (fun c => ?_) (fun c => ?_)
    · have c' := of_decide_eq_true c
      have h0 : 0 < rs.length := by omega
      have er := List.getElem?_eq_getElem h0
      obtain ⟨v2, hv2, a2, vi2, vo2, rfl, ha2, _⟩ := hrs.get er
      have hat : atI rv 0 = some (.ref a2) := atI_nat hv2
      refine ⟨_, rfl, t, rv, _, _, rfl, rfl, SqT.of ht, hat, a2, _, _, _, rfl, rfl, SqT.of ha2, rfl, _, rfl, a, _, _, _, rfl, rfl, SqT.of ha, rfl, _, _, rfl, rfl, rfl, ?_⟩
      unfold kidsF
      rw [er]
    · have c' := of_decide_eq_false c
      refine ⟨rfl, ?_⟩
      unfold kidsF
      rw [List.getElem?_eq_none (by omega)]
  rintro v H1 ⟨rfl, rfl⟩
  unfold endF at q
  refine ⟨_, rfl, a, _, _, _, rfl, rfl, SqT.of ha, rfl, rfl, _, rfl, ?_⟩
  refine itB (fun c => ?_) (fun c => ?_)
  · rw [dstr] at c
    rw [if_pos (of_decide_eq_true c)] at q
    exact ⟨_, rfl, q⟩
  · rw [dstr] at c
    rw [if_neg (of_decide_eq_false c)] at q
    exact ⟨_, rfl, _, rfl, q⟩
end
end Prg

namespace Prg
open PySem L2 Mix Gds Dds Wds Cht
def spDeedF (okd : Dd → Prop) : Sp := fun vs H Q _ => ∃ (v : V) (tb te : Addr) (d : Dd) (bv : List V) (bs : List Bx) (es : List Str), vs = [v, .ref tb, .ref te] ∧ DdIn H v d ∧ okd d ∧ H tb = some (.tup bv) ∧ BxsIn H bv bs ∧ bs.length ≤ 60 ∧ H te = some (.tup (es.map V.str)) ∧ es.length ≤ 60 ∧ ∀ H', Same H H' → Q (.bl (badDeed bs es.length d)) H'
def spDeedsF (okd : Dd → Prop) : Sp := fun vs H Q _ => ∃ (v : V) (tb te : Addr) (ds : List Dd) (bv : List V) (bs : List Bx) (es : List Str), vs = [v, .ref tb, .ref te] ∧ DtIn H v ds ∧ okDs okd ds ∧ H tb = some (.tup bv) ∧ BxsIn H bv bs ∧ bs.length ≤ 60 ∧ H te = some (.tup (es.map V.str)) ∧ es.length ≤ 60 ∧ ∀ H', Same H H' → Q (.bl (badDeeds bs es.length ds)) H'
def spRoomF (okd : Dd → Prop) : Sp := fun vs H Q _ => ∃ (v : V) (t tb te : Addr) (r : Ro) (rv : List V) (rs : List Ro) (bv : List V) (bs : List Bx) (es : List Str), vs = [v, .ref t, .ref tb, .ref te] ∧ RoIn H v r ∧ H t = some (.tup rv) ∧ RosIn H rv rs ∧ rs.length ≤ 60 ∧ r.nm.length ≤ 1000 ∧ r.lamp.length ≤ 1000 ∧ okDs okd r.ins ∧ okDs okd r.outs ∧ H tb = some (.tup bv) ∧ BxsIn H bv bs ∧ bs.length ≤ 60 ∧ H te = some (.tup (es.map V.str)) ∧ es.length ≤ 60 ∧ ∀ H', Same H H' → Q (.bl (roomF bs es.length r rs)) H'
section
variable {P : Program} {w : World} {K : PySem.W.Frag} {mg : Str → Option Value} {base : Heap} {okd : Dd → Prop}
theorem sc_deeds_have_fault : FnScope ["deeds", "boxes", "events"] ["deeds", "boxes", "events"] (defScope sDeedsHF) := ⟨rfl, rfl, rfl, by decide +kernel, rfl, by decide +kernel, by decide +kernel⟩
theorem ok_deedsF {n : Nat} {f gw : Addr} {fd dw : FuncData} {tM : Tok} (F : Fun K "deeds_have_fault" "deeds_have_fault" sDeedsHF f fd) (G_deed_has_fault : FnOk P w K mg base CX0 n gw dw ["deed", "boxes", "events"] (spDeedF okd)) (b_deed_has_fault : Binds K dw ["deed", "boxes", "events"] []) (k_deed_has_fault : PySem.W.keepIn K (.ref gw) = true) (m_deed_has_fault : mg "deed_has_fault" = some (.ref gw))
    (m_len : mg "len" = none) (m_any : mg "any" = none) (g_MOST_DEEDS : mg "MOST_DEEDS" = some (.int 8 tM)) : FnOk P w K mg base CX0 (n + 1) f fd ["deeds", "boxes", "events"] (spDeedsF okd) := by
  refine F.ok sc_deeds_have_fault (fun vs H Q E h => ?_) (fun cdv A outer s H vs Q E hr h => ?_)
  · obtain ⟨v, tb, te, ds, bv, bs, es, rfl, _⟩ := h
    rfl
  obtain ⟨v, tb, te, ds, bv, bs, es, rfl, ⟨td, dv, rfl, htd, hds⟩, ⟨d60, dok⟩, htb, hbs, b60, hte, e60, q⟩ := h
  refine ⟨_, (pss_one (ps_ret (pe_or (pe_cmpR op_gt (pe_callB call_len_seq rfl m_len PySem.boot_len (pa_cons (pv 0) pa_nil)) (pe_glob (v := .int 8) rfl g_MOST_DEEDS ⟨_, rfl⟩) (nomark _)) (pe_one (pe_callB (call_anyB rfl) rfl m_any PyProof.Rows.boot_any (pa_cons (pe_comp (caps := [(1, "boxes"), (2, "events")]) rfl (show CompSc (defScope sDeedsHF) ["deeds", "boxes", "events"] _ _ _ from ⟨rfl, rfl, by decide +kernel, by decide +kernel, by decide +kernel, by decide +kernel, by decide +kernel⟩) (pi_tup (pv 0)) (fun _ _ _ _ _ _ => pifs_nil) (fun _ _ _ _ _ _ => (pe_call G_deed_has_fault hr rfl m_deed_has_fault k_deed_has_fault b_deed_has_fault .nil pass0 (pa_cons (pv 0) (pa_cons (pv 1) (pa_cons (pv 2) pa_nil)))))) pa_nil)))))), ?_⟩
  have hl := hds.length
  have ec : decide ((8 : Int) < (dv.length : Int)) = decide (8 < ds.length) := decide_eq_decide.mpr (by omega)
  refine ⟨_, rfl, td, _, rfl, .inr (SqT.of htd), _, _, rfl, rfl, _, rfl, ?_⟩
  refine itB (fun c => ?_) (fun c => ?_)
  · have q' := q H (Same.refl _)
    unfold badDeeds at q'
    rw [← ec, c, Bool.true_or] at q'
    exact q'
  refine ⟨_, rfl, td, rfl, ⟨_, SqT.of htd⟩, ?_⟩
  refine comp_tup (K := K) (a := td) (xs := dv) (fun i acc H' => Same H H' ∧ acc = ((ds.take i).map (badDeed bs es.length)).map V.bl) ⟨Same.refl _, rfl⟩ (fun i acc H' ⟨s1, _⟩ => SqT.of (s1 _ _ htd)) (fun i x acc H' hx ⟨s1, e2⟩ => ?_) (fun acc H' ⟨s1, e2⟩ p hp => ?_)
  · subst e2
    have hi : i < ds.length := by
      have := (List.getElem?_eq_some_iff.mp hx).1
      omega
    have ed := List.getElem?_eq_getElem hi
    obtain ⟨v, hv, hd⟩ := hds.get ed
    rw [hv] at hx
    obtain rfl : v = x := Option.some.inj hx
    refine ⟨_, rfl, _, rfl, _, rfl, v, tb, te, ds[i], bv, bs, es, rfl, hd.mono (KeepT.of s1), dok _ (List.getElem_mem hi), s1 _ _ htb, BxsIn.mono hbs (KeepT.of s1), b60, s1 _ _ hte, e60, fun H3 s3 => ⟨small1000 ?_, s1.trans s3, ?_⟩⟩
    · rw [List.length_map, List.length_map, List.length_take]
      omega
    · rw [List.take_add_one, ed, List.map_append, List.map_append]
      rfl
  · subst e2
    rw [hl, List.take_length]
    refine ⟨p, _, rfl, SqL.of upd_same, ?_⟩
    have q' := q _ (s1.trans (same_new hp (.lst ((ds.map (badDeed bs es.length)).map V.bl))))
    unfold badDeeds at q'
    rw [← ec, c, Bool.false_or] at q'
    rw [List.any_map]
    exact q'
theorem sc_room_has_fault : FnScope ["room", "ahead", "boxes", "events", "kind", "lamp"] ["room", "ahead", "boxes", "events"] (defScope sRoomHF) := ⟨rfl, rfl, rfl, by decide +kernel, rfl, by decide +kernel, by decide +kernel⟩
theorem ok_roomF {n : Nat} {f gn gd gk gw gs gm aK : Addr} {fd dn dd dk dw dds dm : FuncData} (F : Fun K "room_has_fault" "room_has_fault" sRoomHF f fd)
    (G_names_of : FnOk P w K mg base CX0 n gm dm ["things"] (spNames K)) (b_names_of : Binds K dm ["things"] []) (k_names_of : PySem.W.keepIn K (.ref gm) = true) (m_names_of : mg "names_of" = some (.ref gm))
    (G_name_has_fault : FnOk P w K mg base CX0 n gn dn ["name", "ahead"] (spNameF K)) (b_name_has_fault : Binds K dn ["name", "ahead"] []) (k_name_has_fault : PySem.W.keepIn K (.ref gn) = true) (m_name_has_fault : mg "name_has_fault" = some (.ref gn))
    (G_depth_has_fault : FnOk P w K mg base CX0 n gd dd ["depth", "ahead"] spDepthF) (b_depth_has_fault : Binds K dd ["depth", "ahead"] []) (k_depth_has_fault : PySem.W.keepIn K (.ref gd) = true) (m_depth_has_fault : mg "depth_has_fault" = some (.ref gd))
    (G_keeps_has_fault : FnOk P w K mg base CX0 n gk dk ["keeps", "kind"] spKeepsF) (b_keeps_has_fault : Binds K dk ["keeps", "kind"] []) (k_keeps_has_fault : PySem.W.keepIn K (.ref gk) = true) (m_keeps_has_fault : mg "keeps_has_fault" = some (.ref gk))
    (G_is_word : FnOk P w K mg base CX0 n gw dw ["text"] spWord) (b_is_word : Binds K dw ["text"] []) (k_is_word : PySem.W.keepIn K (.ref gw) = true) (m_is_word : mg "is_word" = some (.ref gw))
    (G_deeds_have_fault : FnOk P w K mg base CX0 n gs dds ["deeds", "boxes", "events"] (spDeedsF okd)) (b_deeds_have_fault : Binds K dds ["deeds", "boxes", "events"] []) (k_deeds_have_fault : PySem.W.keepIn K (.ref gs) = true) (m_deeds_have_fault : mg "deeds_have_fault" = some (.ref gs))
    (g_KINDS : mg "KINDS" = some (.ref aK)) (r_KINDS : ∀ H : Hp, SqT K H aK [.str "plain", .str "one", .str "all"]) : FnOk P w K mg base CX0 (n + 1) f fd ["room", "ahead", "boxes", "events"] (spRoomF okd) := by
  refine F.ok sc_room_has_fault (fun vs H Q E h => ?_) (fun cdv A outer s H vs Q E hr h => ?_)
  · obtain ⟨v, t, tb, te, r, rv, rs, bv, bs, es, rfl, _⟩ := h
    rfl
  obtain ⟨v, t, tb, te, r, rv, rs, bv, bs, es, rfl, ⟨a, vi, vo, rfl, ha, hvi, hvo⟩, ht, hrs, r60, hnm, hlm, oki, oko, htb, hbs, b60, hte, e60, q⟩ := h
  refine ⟨_, (pss_cons (ps_set (i := 4) sc_room_has_fault.nd rfl (Or.inl rfl) (pe_ix ix_tup (pv 0) pe_int (fun _ _ => rfl)))
    (pss_cons (ps_set (i := 5) sc_room_has_fault.nd rfl (Or.inl rfl) (pe_ix ix_tup (pv 0) pe_int (fun _ _ => rfl)))
    (pss_cons (ps_if (pt_cut (PW.pt (pw_or (pt_val (pe_call G_name_has_fault hr rfl m_name_has_fault k_name_has_fault b_name_has_fault .nil pass0 (pa_cons (pe_ix ix_tup (pv 0) pe_int (fun _ _ => rfl)) (pa_cons (pe_call G_names_of hr rfl m_names_of k_names_of b_names_of .nil pass0 (pa_cons (pv 1) pa_nil)) pa_nil)))) (pw_or1 (pt_cmpR op_notIn_seq (pv 4) (pe_glob (v := .ref aK) rfl g_KINDS rfl) rfl)))))
      (pss_one (ps_ret pe_bl))
      pss_nil)
    (pss_cons (ps_if (pt_cut (PW.pt (pw_or (pt_val (pe_call G_depth_has_fault hr rfl m_depth_has_fault k_depth_has_fault b_depth_has_fault .nil pass0 (pa_cons (pe_ix ix_tup (pv 0) pe_int (fun _ _ => rfl)) (pa_cons (pv 1) pa_nil)))) (pw_or1 (pt_val (pe_call G_keeps_has_fault hr rfl m_keeps_has_fault k_keeps_has_fault b_keeps_has_fault .nil pass0 (pa_cons (pe_ix ix_tup (pv 0) pe_int (fun _ _ => rfl)) (pa_cons (pv 4) pa_nil))))))))
      (pss_one (ps_ret pe_bl))
      pss_nil)
    (pss_cons (ps_if (pt_cut (PW.pt (pw_and (pt_cmpR op_ne (pv 5) pe_str (nomark _)) (pw_and1 (pt_not (pt_val (pe_call G_is_word hr rfl m_is_word k_is_word b_is_word .nil pass0 (pa_cons (pv 5) pa_nil))))))))
      (pss_one (ps_ret pe_bl))
      pss_nil)
    (pss_one (ps_ret (pe_or (pe_call G_deeds_have_fault hr rfl m_deeds_have_fault k_deeds_have_fault b_deeds_have_fault .nil pass0 (pa_cons (pe_ix ix_tup (pv 0) pe_int (fun _ _ => rfl)) (pa_cons (pv 2) (pa_cons (pv 3) pa_nil)))) (pe_one (pe_call G_deeds_have_fault hr rfl m_deeds_have_fault k_deeds_have_fault b_deeds_have_fault .nil pass0 (pa_cons (pe_ix ix_tup (pv 0) pe_int (fun _ _ => rfl)) (pa_cons (pv 2) (pa_cons (pv 3) pa_nil))))))))))))), ?_⟩
  unfold roomF at q
  refine ⟨_, rfl, a, _, _, _, rfl, rfl, SqT.of ha, rfl, ?_⟩
  refine ⟨_, rfl, a, _, _, _, rfl, rfl, SqT.of ha, rfl, ?_⟩
  refine ⟨fun c H' => Same H H' ∧ c = (nameF r.nm (rs.map (·.nm)) || !([("plain" : Str), "one", "all"].contains r.kind)), ?_, ?_⟩
  · refine ⟨_, rfl, a, _, _, _, rfl, rfl, SqT.of ha, rfl, _, rfl, t, rv, rs.map (·.nm), rfl, SqT.of ht, RosIn.fst hrs, by rw [List.length_map]; omega, fun p hp => ?_⟩
    refine ⟨r.nm, p, _, rfl, .inl (SqL.of upd_same), hnm, fun H1 s1 => ⟨_, rfl, ?_⟩⟩
    have s2 := (same_new hp (.lst ((rs.map (·.nm)).map V.str))).trans s1
    refine itB (fun c => ⟨s2, by rw [c]; rfl⟩) (fun c => ?_)
    refine ⟨_, rfl, aK, _, rfl, .inr (r_KINDS _), rfl, rfl, _, rfl, s2, ?_⟩
    rw [c, Bool.false_or, ← in_strs]
    rfl
  rintro c H1 ⟨s1, rfl⟩
  refine itB (fun c => ?_) (fun c => ?_)
  · have z := q H1 s1
    rw [c, Bool.true_or] at z
    exact z
  refine ⟨fun c H' => Same H H' ∧ c = (depthF r.depth rs || keepsF r.keeps r.kind), ?_, ?_⟩
  · refine ⟨_, rfl, a, _, _, _, rfl, rfl, SqT.of (s1 _ _ ha), rfl, _, rfl, r.depth, t, rv, rs, rfl, s1 _ _ ht, RosIn.mono hrs (KeepT.of s1), _, rfl, ?_⟩
    refine itB (fun d => ⟨s1, by rw [d]; rfl⟩) (fun d => ?_)
    exact ⟨_, rfl, a, _, _, _, rfl, rfl, SqT.of (s1 _ _ ha), rfl, _, rfl, _, _, rfl, fun H2 s2 => ⟨_, rfl, s1.trans s2, by rw [d]; rfl⟩⟩
  rintro c2 H2 ⟨s2, rfl⟩
  refine itB (fun d => ?_) (fun d => ?_)
  · have z := q H2 s2
    rw [c, d, Bool.false_or, Bool.true_or] at z
    exact z
  refine ⟨fun c H' => Same H H' ∧ c = (!decide (r.lamp = "") && !isW r.lamp), ?_, ?_⟩
  · rw [← dstr]
    refine ⟨_, rfl, rfl, _, rfl, ?_⟩
    refine itB (fun g => ?_) (fun g => ⟨s2, by rw [g]; rfl⟩)
    exact ⟨_, rfl, _, rfl, hlm, fun H3 s3 => ⟨_, rfl, s2.trans s3, by rw [g]; rfl⟩⟩
  rintro c3 H3 ⟨s3, rfl⟩
  refine itB (fun g => ?_) (fun g => ?_)
  · have z := q H3 s3
    rw [c, d, g, Bool.false_or, Bool.false_or, Bool.true_or] at z
    exact z
  rw [c, d, g, Bool.false_or, Bool.false_or, Bool.false_or] at q
  refine ⟨_, rfl, a, _, _, _, rfl, rfl, SqT.of (s3 _ _ ha), rfl, _, rfl, _, rfl, vi, tb, te, r.ins, bv, bs, es, rfl, hvi.mono (KeepT.of s3), oki, s3 _ _ htb, BxsIn.mono hbs (KeepT.of s3), b60, s3 _ _ hte, e60, fun H4 s4 => ⟨_, rfl, ?_⟩⟩
  have s5 := s3.trans s4
  refine itB (fun m => ?_) (fun m => ?_)
  · have z := q H4 s5
    rw [m, Bool.true_or] at z
    exact z
  · rw [m, Bool.false_or] at q
    exact ⟨_, rfl, a, _, _, _, rfl, rfl, SqT.of (s5 _ _ ha), rfl, _, rfl, _, rfl, vo, tb, te, r.outs, bv, bs, es, rfl, hvo.mono (KeepT.of s5), oko, s5 _ _ htb, BxsIn.mono hbs (KeepT.of s5), b60, s5 _ _ hte, e60, fun H6 s6 => q H6 (s5.trans s6)⟩
end
end Prg

namespace Prg
open PySem L2 Mix Gds Dds Wds Cht
def boundFs (c : Ch) : List Ft := one "order" (!([("inner" : Str), "outer"].contains c.order)) ++ one "letters" (!within 0 12 c.letters) ++ one "turns" (!within 1 20 c.turns)
def boxFs (bs : List Bx) : List Ft := one "boxes" (decide (6 < bs.length)) ++ marks "box" bs.length (badBx bs)
def evFs (es : List Str) : List Ft := one "events" (decide (8 < es.length)) ++ marks "event" es.length (badEv es)
def roomFs (bs : List Bx) (ne : Nat) (rs : List Ro) : List Ft := one "rooms" (decide (rs.length = 0) || decide (40 < rs.length)) ++ marks "room" rs.length (badRo bs ne rs)
def doorFs (bs : List Bx) (ne : Nat) (rs : List Ro) (ds : List Dr) : List Ft := one "doors" (decide (60 < ds.length)) ++ marks "door" ds.length (badDrAt bs ne rs ds)
theorem faults_split (c : Ch) : faultsOf c = boundFs c ++ boxFs c.bxs ++ evFs c.evs ++ roomFs c.bxs c.evs.length c.rooms ++ doorFs c.bxs c.evs.length c.rooms c.doors := by
  unfold faultsOf boundFs boxFs evFs roomFs doorFs
  simp only [List.append_assoc]
def tells (H : Hp) (Q : VK) (fs : List Ft) : Prop := ∀ (p : Addr) (fv : List V) (H' : Hp), Same H H' → H p = none → H' p = some (.lst fv) → FtsIn H' fv fs → Q (.ref p) H'
theorem tells.of {H : Hp} {Q : VK} {fs : List Ft} (q : tells H Q fs) {H' : Hp} {pd : Addr} (d : DueS H fs H' pd) : Q (.ref pd) H' := by
  obtain ⟨s, n, fv, h, r⟩ := d
  exact q pd fv H' s n h r
def spBoundFs : Sp := fun vs H Q _ => ∃ (t : Addr) (c : Ch), vs = [.ref t] ∧ ChIn H t c ∧ tells H Q (boundFs c)
def spBoxFs : Sp := fun vs H Q _ => ∃ (t : Addr) (bv : List V) (bs : List Bx), vs = [.ref t] ∧ H t = some (.tup bv) ∧ BxsIn H bv bs ∧ bs.length ≤ 60 ∧ (∀ b ∈ bs, b.nm.length ≤ 1000) ∧ tells H Q (boxFs bs)
def spEvFs : Sp := fun vs H Q _ => ∃ (t : Addr) (es : List Str), vs = [.ref t] ∧ H t = some (.tup (es.map V.str)) ∧ es.length ≤ 60 ∧ (∀ e ∈ es, e.length ≤ 1000) ∧ tells H Q (evFs es)
section
variable {P : Program} {w : World} {K : PySem.W.Frag} {mg : Str → Option Value} {base : Heap} {okd : Dd → Prop}
theorem sc_bound_faults : FnScope ["chart", "told"] ["chart"] (defScope sBoundFs) := ⟨rfl, rfl, rfl, by decide +kernel, rfl, by decide +kernel, by decide +kernel⟩
theorem ok_boundFs {f aO : Addr} {fd : FuncData} {tL tT : Tok} (F : Fun K "bound_faults" "bound_faults" sBoundFs f fd) (g_ORDERS : mg "ORDERS" = some (.ref aO)) (r_ORDERS : ∀ H : Hp, SqT K H aO [.str "inner", .str "outer"]) (g_MOST_LETTERS : mg "MOST_LETTERS" = some (.int 12 tL)) (g_MOST_TURNS : mg "MOST_TURNS" = some (.int 20 tT)) : FnOk P w K mg base CX0 1 f fd ["chart"] spBoundFs := by
  refine F.ok sc_bound_faults (fun vs H Q E h => ?_) (fun cdv A outer s H vs Q E hr h => ?_)
  · obtain ⟨t, c, rfl, _⟩ := h
    rfl
  obtain ⟨t, c, rfl, ⟨tb, te, tr, td, bv, rv, dv, ht, _⟩, q⟩ := h
  refine ⟨_, (pss_cons (ps_set (i := 1) sc_bound_faults.nd rfl (Or.inl rfl) (pe_lst pa_nil))
    (pss_cut (ps_if (pt_cmpR op_notIn_seq (pe_ix ix_tup (pv 0) pe_int (fun _ _ => rfl)) (pe_glob (v := .ref aO) rfl g_ORDERS rfl) rfl)
      (pss_one (ps_expr (pe_bm PySem.F.plainAttrs_list PySem.F.slot_list_append PySem.F.type_list_append mt_append (pv 1) (pa_cons (pe_tup (pa_cons pe_str (pa_cons pe_int pa_nil))) pa_nil))))
      pss_nil)
    (pss_cut (ps_if (pt_not (pt_chV op_le op_le pe_int (pe_ix ix_tup (pv 0) pe_int (fun _ _ => rfl)) (pe_glob (v := .int 12) rfl g_MOST_LETTERS ⟨_, rfl⟩)))
      (pss_one (ps_expr (pe_bm PySem.F.plainAttrs_list PySem.F.slot_list_append PySem.F.type_list_append mt_append (pv 1) (pa_cons (pe_tup (pa_cons pe_str (pa_cons pe_int pa_nil))) pa_nil))))
      pss_nil)
    (pss_cut (ps_if (pt_not (pt_chV op_le op_le pe_int (pe_ix ix_tup (pv 0) pe_int (fun _ _ => rfl)) (pe_glob (v := .int 20) rfl g_MOST_TURNS ⟨_, rfl⟩)))
      (pss_one (ps_expr (pe_bm PySem.F.plainAttrs_list PySem.F.slot_list_append PySem.F.type_list_append mt_append (pv 1) (pa_cons (pe_tup (pa_cons pe_str (pa_cons pe_int pa_nil))) pa_nil))))
      pss_nil)
    (pss_one (ps_ret (pv 1))))))), ?_⟩
  refine ⟨Nat.zero_le _, fun p0 hp0 => ?_⟩
  have s0 := same_new hp0 (.lst [])
  refine ⟨fun σ' H' => ∃ pd : Addr, DueS H (one "order" (!([("inner" : Str), "outer"].contains c.order))) H' pd ∧ σ' = [some (.ref t), some (.ref pd)], ?_, ?_⟩
  · refine ⟨_, rfl, t, _, _, _, rfl, rfl, SqT.of (s0 _ _ ht), rfl, aO, _, rfl, .inr (r_ORDERS _), rfl, rfl, _, rfl, ?_⟩
    have ei : (!inV (V.str c.order) [V.str "inner", V.str "outer"]) = !([("inner" : Str), "outer"].contains c.order) := congrArg _ (in_strs c.order [("inner" : Str), "outer"])
    have h1 : upd H p0 (.lst []) p0 = some (.lst []) := upd_same
    refine itB (fun d => ?_) (fun d => ?_)
    · have d' : (!inV (V.str c.order) [V.str "inner", V.str "outer"]) = true := d
      rw [← ei, d', one_t]
      refine ⟨_, rfl, .inl ⟨rfl, _, SqL.of h1⟩, small_le (by show 2 ≤ 1000; decide), fun t ht => ⟨p0, _, _, rfl, rfl, same_new ht _ _ _ h1, small1000 (by decide), p0, ?_, rfl⟩⟩
      exact DueS.app (fs := []) s0 hp0 h1 .nil ht
    · have d' : (!inV (V.str c.order) [V.str "inner", V.str "outer"]) = false := d
      rw [← ei, d', one_f]
      exact ⟨p0, ⟨s0, hp0, _, h1, .nil⟩, rfl⟩
  rintro σ1 H1 ⟨pd, ⟨s1, n1, fv, h1, r1⟩, rfl⟩
  have l1 := r1.length
  have g1 := one_len "order" (!([("inner" : Str), "outer"].contains c.order))
  refine ⟨fun σ' H' => ∃ pd : Addr, DueS H (one "order" (!([("inner" : Str), "outer"].contains c.order)) ++ one "letters" (!within 0 12 c.letters)) H' pd ∧ σ' = [some (.ref t), some (.ref pd)], ?_, ?_⟩
  · refine ⟨_, rfl, t, _, _, _, rfl, rfl, SqT.of (s1 _ _ ht), rfl, _, _, 12, rfl, rfl, ⟨rfl, rfl⟩, _, rfl, ?_⟩
    refine itB (fun d => ?_) (fun d => ?_)
    · have d' : (!within 0 12 c.letters) = true := d
      rw [d', one_t]
      refine ⟨_, rfl, .inl ⟨rfl, _, SqL.of h1⟩, small_le (by show 2 ≤ 1000; decide), fun t ht => ⟨pd, _, _, rfl, rfl, same_new ht _ _ _ h1, small1000 (by omega), pd, ?_, rfl⟩⟩
      exact DueS.app s1 n1 h1 r1 ht
    · have d' : (!within 0 12 c.letters) = false := d
      rw [d', one_f, List.append_nil]
      exact ⟨pd, ⟨s1, n1, _, h1, r1⟩, rfl⟩
  clear h1 r1 l1 s1 n1
  rintro σ1 H1 ⟨pd, ⟨s1, n1, fv, h1, r1⟩, rfl⟩
  have l1 := r1.length
  have g2 := one_len "letters" (!within 0 12 c.letters)
  rw [List.length_append] at l1
  refine ⟨fun σ' H' => ∃ pd : Addr, DueS H (boundFs c) H' pd ∧ σ' = [some (.ref t), some (.ref pd)], ?_, ?_⟩
  · unfold boundFs
    refine ⟨_, rfl, t, _, _, _, rfl, rfl, SqT.of (s1 _ _ ht), rfl, _, _, 20, rfl, rfl, ⟨rfl, rfl⟩, _, rfl, ?_⟩
    refine itB (fun d => ?_) (fun d => ?_)
    · have d' : (!within 1 20 c.turns) = true := d
      rw [d', one_t]
      refine ⟨_, rfl, .inl ⟨rfl, _, SqL.of h1⟩, small_le (by show 2 ≤ 1000; decide), fun t ht => ⟨pd, _, _, rfl, rfl, same_new ht _ _ _ h1, small1000 (by omega), pd, ?_, rfl⟩⟩
      exact DueS.app s1 n1 h1 r1 ht
    · have d' : (!within 1 20 c.turns) = false := d
      rw [d', one_f, List.append_nil]
      exact ⟨pd, ⟨s1, n1, _, h1, r1⟩, rfl⟩
  rintro σ1 H1 ⟨pd, D, rfl⟩
  exact ⟨_, rfl, q.of D⟩
theorem sc_box_faults : FnScope ["boxes", "told", "number", "box"] ["boxes"] (defScope sBoxFs) := ⟨rfl, rfl, rfl, by decide +kernel, rfl, by decide +kernel, by decide +kernel⟩
theorem ok_boxFs {n : Nat} {f gb : Addr} {fd db : FuncData} {tM : Tok} (F : Fun K "box_faults" "box_faults" sBoxFs f fd) (G_box_has_fault : FnOk P w K mg base CX0 n gb db ["box", "ahead"] spBoxF) (b_box_has_fault : Binds K db ["box", "ahead"] []) (k_box_has_fault : PySem.W.keepIn K (.ref gb) = true) (m_box_has_fault : mg "box_has_fault" = some (.ref gb)) (m_len : mg "len" = none) (m_enumerate : mg "enumerate" = none) (g_MOST_BOXES : mg "MOST_BOXES" = some (.int 6 tM)) :
    FnOk P w K mg base CX0 (n + 1) f fd ["boxes"] spBoxFs := by
  refine F.ok sc_box_faults (fun vs H Q E h => ?_) (fun cdv A outer s H vs Q E hr h => ?_)
  · obtain ⟨t, bv, bs, rfl, _⟩ := h
    rfl
  obtain ⟨t, bv, bs, rfl, ht, hbs, b60, bnm, q⟩ := h
  refine ⟨_, (pss_cons (ps_set (i := 1) sc_box_faults.nd rfl (Or.inl rfl) (pe_cut (pe_ifExp (pt_cmpR op_gt (pe_callB call_len_seq rfl m_len PySem.boot_len (pa_cons (pv 0) pa_nil)) (pe_glob (v := .int 6) rfl g_MOST_BOXES ⟨_, rfl⟩) (nomark _)) (pe_lst (pa_cons (pe_tup (pa_cons pe_str (pa_cons pe_int pa_nil))) pa_nil)) (pe_lst pa_nil))))
    (pss_cut (ps_for PassesOwn.never rfl (pi_enum rfl m_enumerate (pa_cons (pv 0) pa_nil)) (pg_tup rfl (pgs_cons (pg_name (i := 2) sc_box_faults.nd rfl (Or.inl rfl)) (pgs_cons (pg_name (i := 3) sc_box_faults.nd rfl (Or.inl rfl)) pgs_nil)))
      (pss_one (ps_if (pt_val (pe_call G_box_has_fault hr rfl m_box_has_fault k_box_has_fault b_box_has_fault .nil pass0 (pa_cons (pv 3) (pa_cons (pe_slice sl_tup (pv 0) po_none (po_some (pv 2))) pa_nil))))
        (pss_one (ps_expr (pe_bm PySem.F.plainAttrs_list PySem.F.slot_list_append PySem.F.type_list_append mt_append (pv 1) (pa_cons (pe_tup (pa_cons pe_str (pa_cons (pv 2) pa_nil))) pa_nil))))
        pss_nil)))
    (pss_one (ps_ret (pv 1))))), ?_⟩
  have hl := hbs.length
  refine ⟨fun v H' => ∃ pd : Addr, v = .ref pd ∧ DueS H (one "boxes" (decide (6 < bs.length))) H' pd, ?_, ?_⟩
  · refine ⟨_, rfl, t, _, rfl, .inr (SqT.of ht), _, _, rfl, rfl, _, rfl, ?_⟩
    have ec : decide ((6 : Int) < (bv.length : Int)) = decide (6 < bs.length) := decide_eq_decide.mpr (by omega)
    refine itB (fun c => ?_) (fun c => ?_)
    · rw [← ec, c, one_t]
      refine ⟨small_le (by show 2 ≤ 1000; decide), fun t1 ht1 => ⟨small_le (by show 1 ≤ 1000; decide), fun p hp => ⟨p, rfl, ?_⟩⟩⟩
      have s1 := same_new ht1 (.tup [.str "boxes", .int 0])
      exact ⟨s1.trans (same_new hp _), s1.free hp, _, upd_same, .cons ⟨t1, rfl, same_new hp _ _ _ upd_same⟩ .nil⟩
    · rw [← ec, c, one_f]
      exact ⟨Nat.zero_le _, fun p hp => ⟨p, rfl, same_new hp _, hp, _, upd_same, .nil⟩⟩
  rintro v H1 ⟨pd, rfl, D0⟩
  have g1 := one_len "boxes" (decide (6 < bs.length))
  refine ⟨fun σ' H' => ∃ o2 o3 : Option V, DueS H (boxFs bs) H' pd ∧ σ' = [some (.ref t), some (.ref pd), o2, o3], ?_, ?_⟩
  · refine ⟨_, rfl, t, rfl, ⟨_, SqT.of (D0.same _ _ ht)⟩, ?_⟩
    refine for_enum (K := K) (a := t) (xs := bv) (fun i σ' H' => ∃ o2 o3 : Option V, DueS H (one "boxes" (decide (6 < bs.length)) ++ marks "box" i (badBx bs)) H' pd ∧ σ' = [some (.ref t), some (.ref pd), o2, o3]) ⟨none, none, by rw [show marks "box" 0 (badBx bs) = [] from rfl, List.append_nil]; exact D0, rfl⟩ ?_ ?_ ?_
    · rintro i σ' H' _ ⟨o2, o3, D, _⟩
      exact SqT.of (D.same _ _ ht)
    · rintro i x σ' H' t1 hx ⟨o2, o3, ⟨s1, n1, fv, h1, r1⟩, rfl⟩ ht1
      have hi : i < bs.length := by
        have := (List.getElem?_eq_some_iff.mp hx).1
        omega
      have eb := List.getElem?_eq_getElem hi
      obtain ⟨v, hv, hb⟩ := hbs.get eb
      rw [hv] at hx
      obtain rfl : v = x := Option.some.inj hx
      have l1 := r1.length
      have ml := marks_len "box" i (badBx bs)
      rw [List.length_append] at l1
      have s2 := s1.trans (same_new ht1 (.tup [.int (i : Int), v]))
      refine ⟨t1, _, rfl, SqT.of upd_same, rfl, _, _, rfl, _, _, rfl, rfl, ?_⟩
      refine ⟨_, rfl, _, rfl, _, rfl, _, rfl, t, _, rfl, SqT.of (s2 _ _ ht), ?_, fun p1 hp1 => ?_⟩
      · rw [HT.sIx_nat]
        omega
      have s3 := s2.trans (same_new hp1 (.tup (cutV bv none (some (i : Int)))))
      have kb : BxIn (upd (upd H' t1 (.tup [.int (i : Int), v])) p1 (.tup (cutV bv none (some (i : Int))))) v bs[i] := by
        obtain ⟨ab, rfl, hab⟩ := hb
        exact ⟨ab, rfl, s3 _ _ hab⟩
      refine ⟨v, p1, bs[i], _, bs.take i, rfl, kb, upd_same, ?_, by rw [List.length_take]; omega, bnm _ (List.getElem_mem hi), fun H4 s4 => ⟨_, rfl, ?_⟩⟩
      · have z := (BxsIn.mono hbs (KeepT.of s3)).take i
        rw [← cutTo bv (k := i) (by omega)] at z
        exact z
      rw [boxF_eq eb]
      have s5 := ((same_new ht1 (.tup [.int (i : Int), v])).trans (same_new hp1 (.tup (cutV bv none (some (i : Int)))))).trans s4
      have h5 := s5 _ _ h1
      have r5 := FtsIn.mono r1 (KeepT.of s5)
      refine itB (fun c => ?_) (fun c => ?_)
      · refine ⟨_, rfl, .inl ⟨rfl, _, SqL.of h5⟩, _, rfl, small_le (by show 2 ≤ 1000; decide), fun t2 ht2 => ⟨pd, _, _, rfl, rfl, same_new ht2 _ _ _ h5, small1000 (by omega), _, _, ?_, rfl⟩⟩
        rw [marks_succ, if_pos c, ← List.append_assoc]
        exact DueS.app (s1.trans s5) n1 h5 r5 ht2
      · refine ⟨_, _, ?_, rfl⟩
        rw [marks_succ, if_neg (by rw [c]; decide), List.append_nil]
        exact ⟨s1.trans s5, n1, fv, h5, r5⟩
    · rintro σ' H' ⟨o2, o3, D, rfl⟩
      rw [hl] at D
      exact ⟨o2, o3, D, rfl⟩
  rintro σ' H' ⟨o2, o3, D, rfl⟩
  exact ⟨_, rfl, q.of D⟩
theorem sc_event_faults : FnScope ["events", "told", "number", "name"] ["events"] (defScope sEvFs) := ⟨rfl, rfl, rfl, by decide +kernel, rfl, by decide +kernel, by decide +kernel⟩
theorem ok_evFs {n : Nat} {f gb : Addr} {fd db : FuncData} {tM : Tok} (F : Fun K "event_faults" "event_faults" sEvFs f fd) (G_name_has_fault : FnOk P w K mg base CX0 n gb db ["name", "ahead"] (spNameF K)) (b_name_has_fault : Binds K db ["name", "ahead"] []) (k_name_has_fault : PySem.W.keepIn K (.ref gb) = true) (m_name_has_fault : mg "name_has_fault" = some (.ref gb)) (m_len : mg "len" = none) (m_enumerate : mg "enumerate" = none) (g_MOST_EVENTS : mg "MOST_EVENTS" = some (.int 8 tM)) :
    FnOk P w K mg base CX0 (n + 1) f fd ["events"] spEvFs := by
  refine F.ok sc_event_faults (fun vs H Q E h => ?_) (fun cdv A outer s H vs Q E hr h => ?_)
  · obtain ⟨t, es, rfl, _⟩ := h
    rfl
  obtain ⟨t, es, rfl, ht, e60, enm, q⟩ := h
  refine ⟨_, (pss_cons (ps_set (i := 1) sc_event_faults.nd rfl (Or.inl rfl) (pe_cut (pe_ifExp (pt_cmpR op_gt (pe_callB call_len_seq rfl m_len PySem.boot_len (pa_cons (pv 0) pa_nil)) (pe_glob (v := .int 8) rfl g_MOST_EVENTS ⟨_, rfl⟩) (nomark _)) (pe_lst (pa_cons (pe_tup (pa_cons pe_str (pa_cons pe_int pa_nil))) pa_nil)) (pe_lst pa_nil))))
    (pss_cut (ps_for PassesOwn.never rfl (pi_enum rfl m_enumerate (pa_cons (pv 0) pa_nil)) (pg_tup rfl (pgs_cons (pg_name (i := 2) sc_event_faults.nd rfl (Or.inl rfl)) (pgs_cons (pg_name (i := 3) sc_event_faults.nd rfl (Or.inl rfl)) pgs_nil)))
      (pss_one (ps_if (pt_val (pe_call G_name_has_fault hr rfl m_name_has_fault k_name_has_fault b_name_has_fault .nil pass0 (pa_cons (pv 3) (pa_cons (pe_slice sl_tup (pv 0) po_none (po_some (pv 2))) pa_nil))))
        (pss_one (ps_expr (pe_bm PySem.F.plainAttrs_list PySem.F.slot_list_append PySem.F.type_list_append mt_append (pv 1) (pa_cons (pe_tup (pa_cons pe_str (pa_cons (pv 2) pa_nil))) pa_nil))))
        pss_nil)))
    (pss_one (ps_ret (pv 1))))), ?_⟩
  have hl : (es.map V.str).length = es.length := List.length_map _
  refine ⟨fun v H' => ∃ pd : Addr, v = .ref pd ∧ DueS H (one "events" (decide (8 < es.length))) H' pd, ?_, ?_⟩
  · refine ⟨_, rfl, t, _, rfl, .inr (SqT.of ht), _, _, rfl, rfl, _, rfl, ?_⟩
    have ec : decide ((8 : Int) < ((es.map V.str).length : Int)) = decide (8 < es.length) := decide_eq_decide.mpr (by omega)
    refine itB (fun c => ?_) (fun c => ?_)
    · rw [← ec, c, one_t]
      refine ⟨small_le (by show 2 ≤ 1000; decide), fun t1 ht1 => ⟨small_le (by show 1 ≤ 1000; decide), fun p hp => ⟨p, rfl, ?_⟩⟩⟩
      have s1 := same_new ht1 (.tup [.str "events", .int 0])
      exact ⟨s1.trans (same_new hp _), s1.free hp, _, upd_same, .cons ⟨t1, rfl, same_new hp _ _ _ upd_same⟩ .nil⟩
    · rw [← ec, c, one_f]
      exact ⟨Nat.zero_le _, fun p hp => ⟨p, rfl, same_new hp _, hp, _, upd_same, .nil⟩⟩
  rintro v H1 ⟨pd, rfl, D0⟩
  have g1 := one_len "events" (decide (8 < es.length))
  refine ⟨fun σ' H' => ∃ o2 o3 : Option V, DueS H (evFs es) H' pd ∧ σ' = [some (.ref t), some (.ref pd), o2, o3], ?_, ?_⟩
  · refine ⟨_, rfl, t, rfl, ⟨_, SqT.of (D0.same _ _ ht)⟩, ?_⟩
    refine for_enum (K := K) (a := t) (xs := es.map V.str) (fun i σ' H' => ∃ o2 o3 : Option V, DueS H (one "events" (decide (8 < es.length)) ++ marks "event" i (badEv es)) H' pd ∧ σ' = [some (.ref t), some (.ref pd), o2, o3]) ⟨none, none, by rw [show marks "event" 0 (badEv es) = [] from rfl, List.append_nil]; exact D0, rfl⟩ ?_ ?_ ?_
    · rintro i σ' H' _ ⟨o2, o3, D, _⟩
      exact SqT.of (D.same _ _ ht)
    · rintro i x σ' H' t1 hx ⟨o2, o3, ⟨s1, n1, fv, h1, r1⟩, rfl⟩ ht1
      have hi : i < es.length := by
        have := (List.getElem?_eq_some_iff.mp hx).1
        omega
      have eb := List.getElem?_eq_getElem hi
      obtain rfl : x = .str es[i] := by
        rw [List.getElem?_map, eb] at hx
        exact (Option.some.inj hx).symm
      have l1 := r1.length
      have ml := marks_len "event" i (badEv es)
      rw [List.length_append] at l1
      have s2 := s1.trans (same_new ht1 (.tup [.int (i : Int), .str es[i]]))
      refine ⟨t1, _, rfl, SqT.of upd_same, rfl, _, _, rfl, _, _, rfl, rfl, ?_⟩
      refine ⟨_, rfl, _, rfl, _, rfl, _, rfl, t, _, rfl, SqT.of (s2 _ _ ht), ?_, fun p1 hp1 => ?_⟩
      · rw [HT.sIx_nat]
        omega
      have ek : cutV (es.map V.str) none (some (i : Int)) = (es.take i).map V.str := by rw [cutTo _ (by omega), List.map_take]
      refine ⟨es[i], p1, es.take i, rfl, .inr (by rw [← ek]; exact SqT.of upd_same), enm _ (List.getElem_mem hi), fun H4 s4 => ⟨_, rfl, ?_⟩⟩
      rw [nameF_ev eb]
      have s5 := ((same_new ht1 (.tup [.int (i : Int), .str es[i]])).trans (same_new hp1 (.tup (cutV (es.map V.str) none (some (i : Int)))))).trans s4
      have h5 := s5 _ _ h1
      have r5 := FtsIn.mono r1 (KeepT.of s5)
      refine itB (fun c => ?_) (fun c => ?_)
      · refine ⟨_, rfl, .inl ⟨rfl, _, SqL.of h5⟩, _, rfl, small_le (by show 2 ≤ 1000; decide), fun t2 ht2 => ⟨pd, _, _, rfl, rfl, same_new ht2 _ _ _ h5, small1000 (by omega), _, _, ?_, rfl⟩⟩
        rw [marks_succ, if_pos c, ← List.append_assoc]
        exact DueS.app (s1.trans s5) n1 h5 r5 ht2
      · refine ⟨_, _, ?_, rfl⟩
        rw [marks_succ, if_neg (by rw [c]; decide), List.append_nil]
        exact ⟨s1.trans s5, n1, fv, h5, r5⟩
    · rintro σ' H' ⟨o2, o3, D, rfl⟩
      rw [hl] at D
      exact ⟨o2, o3, D, rfl⟩
  rintro σ' H' ⟨o2, o3, D, rfl⟩
  exact ⟨_, rfl, q.of D⟩
end
end Prg

namespace Prg
open PySem L2 Mix Gds Dds Wds Cht
def okRo (okd : Dd → Prop) (r : Ro) : Prop := okDs okd r.ins ∧ okDs okd r.outs ∧ r.nm.length ≤ 1000 ∧ r.kind.length ≤ 1000 ∧ r.keeps.length ≤ 1000 ∧ r.lamp.length ≤ 1000
def spRoomFs (okd : Dd → Prop) : Sp := fun vs H Q _ => ∃ (tr tb te : Addr) (rv bv : List V) (rs : List Ro) (bs : List Bx) (es : List Str), vs = [.ref tr, .ref tb, .ref te] ∧ H tr = some (.tup rv) ∧ RosIn H rv rs ∧ rs.length ≤ 60 ∧ (∀ r ∈ rs, okRo okd r) ∧ H tb = some (.tup bv) ∧ BxsIn H bv bs ∧ bs.length ≤ 60 ∧ H te = some (.tup (es.map V.str)) ∧ es.length ≤ 60 ∧ tells H Q (roomFs bs es.length rs)
def spDoorF (okD : Dr → Prop) : Sp := fun vs H Q _ => ∃ (v : V) (tb te tr : Addr) (d : Dr) (bv rv : List V) (bs : List Bx) (es : List Str) (rs : List Ro), vs = [v, .ref tb, .ref te, .ref tr] ∧ DrIn H v d ∧ okD d ∧ H tb = some (.tup bv) ∧ BxsIn H bv bs ∧ bs.length ≤ 60 ∧ H te = some (.tup (es.map V.str)) ∧ es.length ≤ 60 ∧ H tr = some (.tup rv) ∧ RosIn H rv rs ∧ rs.length ≤ 60 ∧ ∀ H', Same H H' → Q (.bl (badDr bs es.length rs d)) H'
def spDoorFs (okD : Dr → Prop) : Sp := fun vs H Q _ => ∃ (td tb te tr : Addr) (dv bv rv : List V) (ds : List Dr) (bs : List Bx) (es : List Str) (rs : List Ro), vs = [.ref td, .ref tb, .ref te, .ref tr] ∧ H td = some (.tup dv) ∧ DrsIn H dv ds ∧ ds.length ≤ 100 ∧ (∀ d ∈ ds, okD d) ∧ H tb = some (.tup bv) ∧ BxsIn H bv bs ∧ bs.length ≤ 60 ∧ H te = some (.tup (es.map V.str)) ∧ es.length ≤ 60 ∧ H tr = some (.tup rv) ∧ RosIn H rv rs ∧ rs.length ≤ 60 ∧ tells H Q (doorFs bs es.length rs ds)
section
variable {P : Program} {w : World} {K : PySem.W.Frag} {mg : Str → Option Value} {base : Heap} {okd : Dd → Prop} {okD : Dr → Prop}
theorem sc_room_faults : FnScope ["rooms", "boxes", "events", "told", "number", "room"] ["rooms", "boxes", "events"] (defScope sRoomFs) := ⟨rfl, rfl, rfl, by decide +kernel, rfl, by decide +kernel, by decide +kernel⟩
theorem ok_roomFs {n : Nat} {f gr ge : Addr} {fd dr de : FuncData} {tM : Tok} (F : Fun K "room_faults" "room_faults" sRoomFs f fd)
    (G_room_has_fault : FnOk P w K mg base CX0 n gr dr ["room", "ahead", "boxes", "events"] (spRoomF okd)) (b_room_has_fault : Binds K dr ["room", "ahead", "boxes", "events"] []) (k_room_has_fault : PySem.W.keepIn K (.ref gr) = true) (m_room_has_fault : mg "room_has_fault" = some (.ref gr))
    (G_end_has_fault : FnOk P w K mg base CX0 n ge de ["room", "behind"] spEndF) (b_end_has_fault : Binds K de ["room", "behind"] []) (k_end_has_fault : PySem.W.keepIn K (.ref ge) = true) (m_end_has_fault : mg "end_has_fault" = some (.ref ge))
    (m_len : mg "len" = none) (m_enumerate : mg "enumerate" = none) (g_MOST_ROOMS : mg "MOST_ROOMS" = some (.int 40 tM)) : FnOk P w K mg base CX0 (n + 1) f fd ["rooms", "boxes", "events"] (spRoomFs okd) := by
  refine F.ok sc_room_faults (fun vs H Q E h => ?_) (fun cdv A outer s H vs Q E hr h => ?_)
  · obtain ⟨tr, tb, te, rv, bv, rs, bs, es, rfl, _⟩ := h
    rfl
  obtain ⟨tr, tb, te, rv, bv, rs, bs, es, rfl, htr, hrs, r60, rok, htb, hbs, b60, hte, e60, q⟩ := h
  refine ⟨_, (pss_cons (ps_set (i := 3) sc_room_faults.nd rfl (Or.inl rfl) (pe_cut (pe_ifExp (pt_chV op_le op_le pe_int (pe_callB call_len_seq rfl m_len PySem.boot_len (pa_cons (pv 0) pa_nil)) (pe_glob (v := .int 40) rfl g_MOST_ROOMS ⟨_, rfl⟩)) (pe_lst pa_nil) (pe_lst (pa_cons (pe_tup (pa_cons pe_str (pa_cons pe_int pa_nil))) pa_nil)))))
    (pss_cut (ps_for PassesOwn.never rfl (pi_enum rfl m_enumerate (pa_cons (pv 0) pa_nil)) (pg_tup rfl (pgs_cons (pg_name (i := 4) sc_room_faults.nd rfl (Or.inl rfl)) (pgs_cons (pg_name (i := 5) sc_room_faults.nd rfl (Or.inl rfl)) pgs_nil)))
      (pss_one (ps_if (pt_cut (PW.pt (pw_or (pt_val (pe_call G_room_has_fault hr rfl m_room_has_fault k_room_has_fault b_room_has_fault .nil pass0 (pa_cons (pv 5) (pa_cons (pe_slice sl_tup (pv 0) po_none (po_some (pv 4))) (pa_cons (pv 1) (pa_cons (pv 2) pa_nil)))))) (pw_or1 (pt_val (pe_call G_end_has_fault hr rfl m_end_has_fault k_end_has_fault b_end_has_fault .nil pass0 (pa_cons (pv 5) (pa_cons (pe_slice sl_tup (pv 0) (po_some (pe_op op_add (pv 4) pe_int)) po_none) pa_nil))))))))
        (pss_one (ps_expr (pe_bm PySem.F.plainAttrs_list PySem.F.slot_list_append PySem.F.type_list_append mt_append (pv 3) (pa_cons (pe_tup (pa_cons pe_str (pa_cons (pv 4) pa_nil))) pa_nil))))
        pss_nil)))
    (pss_one (ps_ret (pv 3))))), ?_⟩
  have hl := hrs.length
  refine ⟨fun v H' => ∃ pd : Addr, v = .ref pd ∧ DueS H (one "rooms" (decide (rs.length = 0) || decide (40 < rs.length))) H' pd, ?_, ?_⟩
  · refine ⟨_, rfl, tr, _, rfl, .inr (SqT.of htr), _, _, 40, rfl, rfl, ⟨rfl, rfl⟩, _, rfl, ?_⟩
    have ec : (decide ((1 : Int) ≤ (rv.length : Int)) && decide ((rv.length : Int) ≤ 40)) = !(decide (rs.length = 0) || decide (40 < rs.length)) := by
      rw [Bool.eq_iff_iff]
      simp only [Bool.and_eq_true, Bool.not_eq_true', Bool.or_eq_false_iff, decide_eq_true_iff, decide_eq_false_iff_not]
      omega
    refine itB (fun c => ?_) (fun c => ?_)
    · have c' := ec.symm.trans c
      rw [Bool.not_eq_true'] at c'
      rw [c', one_f]
      exact ⟨Nat.zero_le _, fun p hp => ⟨p, rfl, same_new hp _, hp, _, upd_same, .nil⟩⟩
    · have c' := ec.symm.trans c
      rw [Bool.not_eq_false'] at c'
      rw [c', one_t]
      refine ⟨small_le (by show 2 ≤ 1000; decide), fun t1 ht1 => ⟨small_le (by show 1 ≤ 1000; decide), fun p hp => ⟨p, rfl, ?_⟩⟩⟩
      have s1 := same_new ht1 (.tup [.str "rooms", .int 0])
      exact ⟨s1.trans (same_new hp _), s1.free hp, _, upd_same, .cons ⟨t1, rfl, same_new hp _ _ _ upd_same⟩ .nil⟩
  rintro v H1 ⟨pd, rfl, D0⟩
  have g1 := one_len "rooms" (decide (rs.length = 0) || decide (40 < rs.length))
  refine ⟨fun σ' H' => ∃ o4 o5 : Option V, DueS H (roomFs bs es.length rs) H' pd ∧ σ' = [some (.ref tr), some (.ref tb), some (.ref te), some (.ref pd), o4, o5], ?_, ?_⟩
  · refine ⟨_, rfl, tr, rfl, ⟨_, SqT.of (D0.same _ _ htr)⟩, ?_⟩
    refine for_enum (K := K) (a := tr) (xs := rv) (fun i σ' H' => ∃ o4 o5 : Option V, DueS H (one "rooms" (decide (rs.length = 0) || decide (40 < rs.length)) ++ marks "room" i (badRo bs es.length rs)) H' pd ∧ σ' = [some (.ref tr), some (.ref tb), some (.ref te), some (.ref pd), o4, o5]) ⟨none, none, by rw [show marks "room" 0 (badRo bs es.length rs) = [] from rfl, List.append_nil]; exact D0, rfl⟩ ?_ ?_ ?_
    · rintro i σ' H' _ ⟨o2, o3, D, _⟩
      exact SqT.of (D.same _ _ htr)
    · rintro i x σ' H' t1 hx ⟨o2, o3, ⟨s1, n1, fv, h1, r1⟩, rfl⟩ ht1
      have hi : i < rs.length := by
        have := (List.getElem?_eq_some_iff.mp hx).1
        omega
      have er := List.getElem?_eq_getElem hi
      obtain ⟨v, hv, hr1⟩ := hrs.get er
      rw [hv] at hx
      obtain rfl : v = x := Option.some.inj hx
      have l1 := r1.length
      have ml := marks_len "room" i (badRo bs es.length rs)
      rw [List.length_append] at l1
      have s2 := same_new ht1 (.tup [.int (i : Int), v])
      refine ⟨t1, _, rfl, SqT.of upd_same, rfl, _, _, rfl, _, _, rfl, rfl, ?_⟩
      have roI : ∀ {Hx : Hp}, Same H Hx → RoIn Hx v rs[i] := fun {Hx} sx => by
        obtain ⟨ab, vi, vo, rfl, hab, hvi, hvo⟩ := hr1
        exact ⟨ab, vi, vo, rfl, sx _ _ hab, hvi.mono (KeepT.of sx), hvo.mono (KeepT.of sx)⟩
      obtain ⟨ok1, ok2, ok3, ok4, ok5, ok6⟩ := rok _ (List.getElem_mem hi)
      refine ⟨fun c H2 => Same H' H2 ∧ c = badRo bs es.length rs i, ?_, ?_⟩
      · rw [← roomF_eq bs es.length er]
        refine ⟨_, rfl, _, rfl, _, rfl, _, rfl, tr, _, rfl, SqT.of ((s1.trans s2) _ _ htr), ?_, fun p1 hp1 => ?_⟩
        · rw [HT.sIx_nat]
          omega
        have s3 := same_new hp1 (.tup (cutV rv none (some (i : Int))))
        have s4 := (s1.trans s2).trans s3
        refine ⟨_, rfl, _, rfl, v, p1, tb, te, rs[i], _, rs.take i, bv, bs, es, rfl, roI s4, upd_same, ?_, by rw [List.length_take]; omega, ok3, ok6, ok1, ok2, s4 _ _ htb, BxsIn.mono hbs (KeepT.of s4), b60, s4 _ _ hte, e60, fun H5 s5 => ⟨_, rfl, ?_⟩⟩
        · have z := (RosIn.mono hrs (KeepT.of s4)).take i
          rw [← cutTo rv (k := i) (by omega)] at z
          exact z
        have s6 := (s2.trans s3).trans s5
        refine itB (fun c => ⟨s6, by rw [c]; rfl⟩) (fun c => ?_)
        have s7 := s1.trans s6
        refine ⟨_, rfl, _, rfl, _, rfl, _, _, rfl, rfl, _, rfl, tr, _, rfl, SqT.of (s7 _ _ htr), ?_, fun p2 hp2 => ?_⟩
        · rw [show ((i : Int) + 1) = ((i + 1 : Nat) : Int) by omega, HT.sIx_nat]
          omega
        have s8 := same_new hp2 (.tup (cutV rv (some ((i : Int) + 1)) none))
        refine ⟨v, p2, rs[i], _, rs.drop (i + 1), rfl, roI (s7.trans s8), upd_same, ?_, _, rfl, s6.trans s8, ?_⟩
        · have z := (RosIn.mono hrs (KeepT.of (s7.trans s8))).drop (i + 1)
          rw [← cutFrom rv (k := i) (by omega)] at z
          exact z
        · rw [c, Bool.false_or]
      rintro c H5 ⟨s5, rfl⟩
      have h5 := s5 _ _ h1
      have r5 := FtsIn.mono r1 (KeepT.of s5)
      refine itB (fun c => ?_) (fun c => ?_)
      · refine ⟨_, rfl, .inl ⟨rfl, _, SqL.of h5⟩, _, rfl, small_le (by show 2 ≤ 1000; decide), fun t2 ht2 => ⟨pd, _, _, rfl, rfl, same_new ht2 _ _ _ h5, small1000 (by omega), _, _, ?_, rfl⟩⟩
        rw [marks_succ, if_pos c, ← List.append_assoc]
        exact DueS.app (s1.trans s5) n1 h5 r5 ht2
      · refine ⟨_, _, ?_, rfl⟩
        rw [marks_succ, if_neg (by rw [c]; decide), List.append_nil]
        exact ⟨s1.trans s5, n1, fv, h5, r5⟩
    · rintro σ' H' ⟨o2, o3, D, rfl⟩
      rw [hl] at D
      exact ⟨o2, o3, D, rfl⟩
  rintro σ' H' ⟨o2, o3, D, rfl⟩
  exact ⟨_, rfl, q.of D⟩
theorem sc_door_faults : FnScope ["doors", "boxes", "events", "rooms", "told", "number", "door"] ["doors", "boxes", "events", "rooms"] (defScope sDoorFs) := ⟨rfl, rfl, rfl, by decide +kernel, rfl, by decide +kernel, by decide +kernel⟩
theorem ok_doorFs {n : Nat} {f gd : Addr} {fd dd : FuncData} {tM : Tok} (F : Fun K "door_faults" "door_faults" sDoorFs f fd)
    (G_door_has_fault : FnOk P w K mg base CX0 n gd dd ["door", "boxes", "events", "rooms"] (spDoorF okD)) (b_door_has_fault : Binds K dd ["door", "boxes", "events", "rooms"] []) (k_door_has_fault : PySem.W.keepIn K (.ref gd) = true) (m_door_has_fault : mg "door_has_fault" = some (.ref gd))
    (m_len : mg "len" = none) (m_enumerate : mg "enumerate" = none) (g_MOST_DOORS : mg "MOST_DOORS" = some (.int 60 tM)) : FnOk P w K mg base CX0 (n + 1) f fd ["doors", "boxes", "events", "rooms"] (spDoorFs okD) := by
  refine F.ok sc_door_faults (fun vs H Q E h => ?_) (fun cdv A outer s H vs Q E hr h => ?_)
  · obtain ⟨td, tb, te, tr, dv, bv, rv, ds, bs, es, rs, rfl, _⟩ := h
    rfl
  obtain ⟨td, tb, te, tr, dv, bv, rv, ds, bs, es, rs, rfl, htd, hds, d100, dok, htb, hbs, b60, hte, e60, htr, hrs, r60, q⟩ := h
  refine ⟨_, (pss_cons (ps_set (i := 4) sc_door_faults.nd rfl (Or.inl rfl) (pe_cut (pe_ifExp (pt_cmpR op_gt (pe_callB call_len_seq rfl m_len PySem.boot_len (pa_cons (pv 0) pa_nil)) (pe_glob (v := .int 60) rfl g_MOST_DOORS ⟨_, rfl⟩) (nomark _)) (pe_lst (pa_cons (pe_tup (pa_cons pe_str (pa_cons pe_int pa_nil))) pa_nil)) (pe_lst pa_nil))))
    (pss_cut (ps_for PassesOwn.never rfl (pi_enum rfl m_enumerate (pa_cons (pv 0) pa_nil)) (pg_tup rfl (pgs_cons (pg_name (i := 5) sc_door_faults.nd rfl (Or.inl rfl)) (pgs_cons (pg_name (i := 6) sc_door_faults.nd rfl (Or.inl rfl)) pgs_nil)))
      (pss_one (ps_if (pt_val (pe_call G_door_has_fault hr rfl m_door_has_fault k_door_has_fault b_door_has_fault .nil pass0 (pa_cons (pv 6) (pa_cons (pv 1) (pa_cons (pv 2) (pa_cons (pv 3) pa_nil))))))
        (pss_one (ps_expr (pe_bm PySem.F.plainAttrs_list PySem.F.slot_list_append PySem.F.type_list_append mt_append (pv 4) (pa_cons (pe_tup (pa_cons pe_str (pa_cons (pv 5) pa_nil))) pa_nil))))
        pss_nil)))
    (pss_one (ps_ret (pv 4))))), ?_⟩
  have hl := hds.length
  refine ⟨fun v H' => ∃ pd : Addr, v = .ref pd ∧ DueS H (one "doors" (decide (60 < ds.length))) H' pd, ?_, ?_⟩
  · refine ⟨_, rfl, td, _, rfl, .inr (SqT.of htd), _, _, rfl, rfl, _, rfl, ?_⟩
    have ec : decide ((60 : Int) < (dv.length : Int)) = decide (60 < ds.length) := decide_eq_decide.mpr (by omega)
    refine itB (fun c => ?_) (fun c => ?_)
    · rw [← ec, c, one_t]
      refine ⟨small_le (by show 2 ≤ 1000; decide), fun t1 ht1 => ⟨small_le (by show 1 ≤ 1000; decide), fun p hp => ⟨p, rfl, ?_⟩⟩⟩
      have s1 := same_new ht1 (.tup [.str "doors", .int 0])
      exact ⟨s1.trans (same_new hp _), s1.free hp, _, upd_same, .cons ⟨t1, rfl, same_new hp _ _ _ upd_same⟩ .nil⟩
    · rw [← ec, c, one_f]
      exact ⟨Nat.zero_le _, fun p hp => ⟨p, rfl, same_new hp _, hp, _, upd_same, .nil⟩⟩
  rintro v H1 ⟨pd, rfl, D0⟩
  have g1 := one_len "doors" (decide (60 < ds.length))
  refine ⟨fun σ' H' => ∃ o2 o3 : Option V, DueS H (doorFs bs es.length rs ds) H' pd ∧ σ' = [some (.ref td), some (.ref tb), some (.ref te), some (.ref tr), some (.ref pd), o2, o3], ?_, ?_⟩
  · refine ⟨_, rfl, td, rfl, ⟨_, SqT.of (D0.same _ _ htd)⟩, ?_⟩
    refine for_enum (K := K) (a := td) (xs := dv) (fun i σ' H' => ∃ o2 o3 : Option V, DueS H (one "doors" (decide (60 < ds.length)) ++ marks "door" i (badDrAt bs es.length rs ds)) H' pd ∧ σ' = [some (.ref td), some (.ref tb), some (.ref te), some (.ref tr), some (.ref pd), o2, o3]) ⟨none, none, by rw [show marks "door" 0 (badDrAt bs es.length rs ds) = [] from rfl, List.append_nil]; exact D0, rfl⟩ ?_ ?_ ?_
    · rintro i σ' H' _ ⟨o2, o3, D, _⟩
      exact SqT.of (D.same _ _ htd)
    · rintro i x σ' H' t1 hx ⟨o2, o3, ⟨s1, n1, fv, h1, r1⟩, rfl⟩ ht1
      have hi : i < ds.length := by
        have := (List.getElem?_eq_some_iff.mp hx).1
        omega
      have ed := List.getElem?_eq_getElem hi
      obtain ⟨v, hv, hd⟩ := hds.get ed
      rw [hv] at hx
      obtain rfl : v = x := Option.some.inj hx
      have l1 := r1.length
      have ml := marks_len "door" i (badDrAt bs es.length rs ds)
      rw [List.length_append] at l1
      have s2 := same_new ht1 (.tup [.int (i : Int), v])
      have s3 := s1.trans s2
      have eb : badDrAt bs es.length rs ds i = badDr bs es.length rs ds[i] := by
        unfold badDrAt
        rw [ed]
      refine ⟨t1, _, rfl, SqT.of upd_same, rfl, _, _, rfl, _, _, rfl, rfl, ?_⟩
      have kd : DrIn (upd H' t1 (.tup [.int (i : Int), v])) v ds[i] := by
        obtain ⟨ab, vg, vd, rfl, hab, hg, hdd⟩ := hd
        exact ⟨ab, vg, vd, rfl, s3 _ _ hab, hg.mono (KeepT.of s3), hdd.mono (KeepT.of s3)⟩
      refine ⟨_, rfl, _, rfl, _, rfl, _, rfl, v, tb, te, tr, ds[i], bv, rv, bs, es, rs, rfl, kd, dok _ (List.getElem_mem hi), s3 _ _ htb, BxsIn.mono hbs (KeepT.of s3), b60, s3 _ _ hte, e60, s3 _ _ htr, RosIn.mono hrs (KeepT.of s3), r60, fun H4 s4 => ⟨_, rfl, ?_⟩⟩
      have s5 := s2.trans s4
      have h5 := s5 _ _ h1
      have r5 := FtsIn.mono r1 (KeepT.of s5)
      rw [← eb]
      refine itB (fun c => ?_) (fun c => ?_)
      · refine ⟨_, rfl, .inl ⟨rfl, _, SqL.of h5⟩, _, rfl, small_le (by show 2 ≤ 1000; decide), fun t2 ht2 => ⟨pd, _, _, rfl, rfl, same_new ht2 _ _ _ h5, small1000 (by omega), _, _, ?_, rfl⟩⟩
        rw [marks_succ, if_pos c, ← List.append_assoc]
        exact DueS.app (s1.trans s5) n1 h5 r5 ht2
      · refine ⟨_, _, ?_, rfl⟩
        rw [marks_succ, if_neg (by rw [c]; decide), List.append_nil]
        exact ⟨s1.trans s5, n1, fv, h5, r5⟩
    · rintro σ' H' ⟨o2, o3, D, rfl⟩
      rw [hl] at D
      exact ⟨o2, o3, D, rfl⟩
  rintro σ' H' ⟨o2, o3, D, rfl⟩
  exact ⟨_, rfl, q.of D⟩
theorem extS {H H1 H2 : Hp} {fs gs : List Ft} {p p2 : Addr} {fv gv : List V} (s : Same H H1) (n : H p = none) (h : H1 p = some (.lst fv)) (r : FtsIn H1 fv fs) (s2 : Same H1 H2) (h2 : H2 p2 = some (.lst gv)) (r2 : FtsIn H2 gv gs) : Same H (upd H2 p (.lst (fv ++ gv))) ∧ FtsIn (upd H2 p (.lst (fv ++ gv))) (fv ++ gv) (fs ++ gs) := by
  have k : KeepT H2 (upd H2 p (.lst (fv ++ gv))) := KeepT.lst (s2 _ _ h) _
  refine ⟨fun b o e => ?_, (FtsIn.mono (FtsIn.mono r (KeepT.of s2)) k).append (FtsIn.mono r2 k)⟩
  rw [upd_ne (ne_of_none e n)]
  exact s2 _ _ (s _ _ e)
theorem sc_faults : FnScope ["chart", "boxes", "events", "rooms", "told"] ["chart"] (defScope sFaults) := ⟨rfl, rfl, rfl, by decide +kernel, rfl, by decide +kernel, by decide +kernel⟩
theorem ok_faults {n : Nat} {f g1 g2 g3 g4 g5 : Addr} {fd d1 d2 d3 d4 d5 : FuncData} (F : Fun K "faults" "faults" sFaults f fd)
    (G_bound_faults : FnOk P w K mg base CX0 n g1 d1 ["chart"] spBoundFs) (b_bound_faults : Binds K d1 ["chart"] []) (k_bound_faults : PySem.W.keepIn K (.ref g1) = true) (m_bound_faults : mg "bound_faults" = some (.ref g1))
    (G_box_faults : FnOk P w K mg base CX0 n g2 d2 ["boxes"] spBoxFs) (b_box_faults : Binds K d2 ["boxes"] []) (k_box_faults : PySem.W.keepIn K (.ref g2) = true) (m_box_faults : mg "box_faults" = some (.ref g2))
    (G_event_faults : FnOk P w K mg base CX0 n g3 d3 ["events"] spEvFs) (b_event_faults : Binds K d3 ["events"] []) (k_event_faults : PySem.W.keepIn K (.ref g3) = true) (m_event_faults : mg "event_faults" = some (.ref g3))
    (G_room_faults : FnOk P w K mg base CX0 n g4 d4 ["rooms", "boxes", "events"] (spRoomFs okd)) (b_room_faults : Binds K d4 ["rooms", "boxes", "events"] []) (k_room_faults : PySem.W.keepIn K (.ref g4) = true) (m_room_faults : mg "room_faults" = some (.ref g4))
    (G_door_faults : FnOk P w K mg base CX0 n g5 d5 ["doors", "boxes", "events", "rooms"] (spDoorFs okD)) (b_door_faults : Binds K d5 ["doors", "boxes", "events", "rooms"] []) (k_door_faults : PySem.W.keepIn K (.ref g5) = true) (m_door_faults : mg "door_faults" = some (.ref g5)) :
    FnOk P w K mg base CX0 (n + 1) f fd ["chart"] (spFaultsP (okDs okd) okD) := by
  refine F.ok sc_faults (fun vs H Q E h => ?_) (fun cdv A outer s H vs Q E hr h => ?_)
  · obtain ⟨t, c, rfl, _⟩ := h
    rfl
  obtain ⟨t, c, rfl, ch, sm, q⟩ := h
  have q : tells H Q (faultsOf c) := q
  rw [faults_split] at q
  obtain ⟨tb, te, tr, td, bv, rv, dv, ht, htb, hbs, hte, htr, hrs, htd, hds⟩ := id ch
  refine ⟨_, (pss_cons (ps_set (i := 1) sc_faults.nd rfl (Or.inl rfl) (pe_ix ix_tup (pv 0) pe_int (fun _ _ => rfl)))
    (pss_cons (ps_set (i := 2) sc_faults.nd rfl (Or.inl rfl) (pe_ix ix_tup (pv 0) pe_int (fun _ _ => rfl)))
    (pss_cons (ps_set (i := 3) sc_faults.nd rfl (Or.inl rfl) (pe_ix ix_tup (pv 0) pe_int (fun _ _ => rfl)))
    (pss_cons (ps_set (i := 4) sc_faults.nd rfl (Or.inl rfl) (pe_call G_bound_faults hr rfl m_bound_faults k_bound_faults b_bound_faults .nil pass0 (pa_cons (pv 0) pa_nil)))
    (pss_cons (ps_expr (pe_bm PySem.F.plainAttrs_list PySem.F.slot_list_extend PySem.F.type_list_extend mt_extend (pv 4) (pa_cons (pe_call G_box_faults hr rfl m_box_faults k_box_faults b_box_faults .nil pass0 (pa_cons (pv 1) pa_nil)) pa_nil)))
    (pss_cons (ps_expr (pe_bm PySem.F.plainAttrs_list PySem.F.slot_list_extend PySem.F.type_list_extend mt_extend (pv 4) (pa_cons (pe_call G_event_faults hr rfl m_event_faults k_event_faults b_event_faults .nil pass0 (pa_cons (pv 2) pa_nil)) pa_nil)))
    (pss_cons (ps_expr (pe_bm PySem.F.plainAttrs_list PySem.F.slot_list_extend PySem.F.type_list_extend mt_extend (pv 4) (pa_cons (pe_call G_room_faults hr rfl m_room_faults k_room_faults b_room_faults .nil pass0 (pa_cons (pv 3) (pa_cons (pv 1) (pa_cons (pv 2) pa_nil)))) pa_nil)))
    (pss_cons (ps_expr (pe_bm PySem.F.plainAttrs_list PySem.F.slot_list_extend PySem.F.type_list_extend mt_extend (pv 4) (pa_cons (pe_call G_door_faults hr rfl m_door_faults k_door_faults b_door_faults .nil pass0 (pa_cons (pe_ix ix_tup (pv 0) pe_int (fun _ _ => rfl)) (pa_cons (pv 1) (pa_cons (pv 2) (pa_cons (pv 3) pa_nil))))) pa_nil)))
    (pss_one (ps_ret (pv 4))))))))))), ?_⟩
  refine ⟨_, rfl, t, _, _, _, rfl, rfl, SqT.of ht, rfl, ?_⟩
  refine ⟨_, rfl, t, _, _, _, rfl, rfl, SqT.of ht, rfl, ?_⟩
  refine ⟨_, rfl, t, _, _, _, rfl, rfl, SqT.of ht, rfl, ?_⟩
  refine ⟨_, rfl, t, c, rfl, ch, fun p fv H1 s1 n1 h1 r1 => ?_⟩
  -- the boxes
  refine ⟨_, rfl, .inl ⟨rfl, _, SqL.of h1⟩, _, rfl, tb, bv, c.bxs, rfl, s1 _ _ htb, BxsIn.mono hbs (KeepT.of s1), sm.bxs, sm.bnm, fun p2 fv2 H2 s2 n2 h2 r2 => ?_⟩
  have b1 : (boundFs c).length ≤ 3 := by
    unfold boundFs
    have z1 := one_len "order" (!([("inner" : Str), "outer"].contains c.order))
    have z2 := one_len "letters" (!within 0 12 c.letters)
    have z3 := one_len "turns" (!within 1 20 c.turns)
    simp only [List.length_append]
    omega
  have b2 : (boxFs c.bxs).length ≤ 61 := by
    unfold boxFs
    have z1 := one_len "boxes" (decide (6 < c.bxs.length))
    have z2 := marks_len "box" c.bxs.length (badBx c.bxs)
    have := sm.bxs
    simp only [List.length_append]
    omega
  have b3 : (evFs c.evs).length ≤ 61 := by
    unfold evFs
    have z1 := one_len "events" (decide (8 < c.evs.length))
    have z2 := marks_len "event" c.evs.length (badEv c.evs)
    have := sm.evs
    simp only [List.length_append]
    omega
  have b4 : (roomFs c.bxs c.evs.length c.rooms).length ≤ 61 := by
    unfold roomFs
    have z1 := one_len "rooms" (decide (c.rooms.length = 0) || decide (40 < c.rooms.length))
    have z2 := marks_len "room" c.rooms.length (badRo c.bxs c.evs.length c.rooms)
    have := sm.rooms
    simp only [List.length_append]
    omega
  have b5 : (doorFs c.bxs c.evs.length c.rooms c.doors).length ≤ 101 := by
    unfold doorFs
    have z1 := one_len "doors" (decide (60 < c.doors.length))
    have z2 := marks_len "door" c.doors.length (badDrAt c.bxs c.evs.length c.rooms c.doors)
    have := sm.doors
    simp only [List.length_append]
    omega
  have l1 := r1.length
  have l2 := r2.length
  refine ⟨p, p2, fv, fv2, rfl, rfl, s2 _ _ h1, h2, small_le (by omega), ?_⟩
  obtain ⟨s3, r3⟩ := extS s1 n1 h1 r1 s2 h2 r2
  have h3 : upd H2 p (.lst (fv ++ fv2)) p = some (.lst (fv ++ fv2)) := upd_same
  clear h1 r1 s2 n2 h2 r2
  -- the events
  refine ⟨_, rfl, .inl ⟨rfl, _, SqL.of h3⟩, _, rfl, te, c.evs, rfl, s3 _ _ hte, sm.evs, sm.enm, fun p4 fv4 H4 s4 n4 h4 r4 => ?_⟩
  have l3 := r3.length
  have l4 := r4.length
  rw [List.length_append] at l3
  refine ⟨p, p4, _, fv4, rfl, rfl, s4 _ _ h3, h4, small_le (by rw [List.length_append] at l3 ⊢; omega), ?_⟩
  obtain ⟨s5, r5⟩ := extS s3 n1 h3 r3 s4 h4 r4
  have h5 : upd H4 p (.lst (fv ++ fv2 ++ fv4)) p = some (.lst (fv ++ fv2 ++ fv4)) := upd_same
  clear h3 r3 s4 n4 h4 r4
  -- the rooms
  refine ⟨_, rfl, .inl ⟨rfl, _, SqL.of h5⟩, _, rfl, _, rfl, _, rfl, tr, tb, te, rv, bv, c.rooms, c.bxs, c.evs, rfl, s5 _ _ htr, RosIn.mono hrs (KeepT.of s5), sm.rooms, fun r hr => sm.rms r hr, s5 _ _ htb, BxsIn.mono hbs (KeepT.of s5), sm.bxs, s5 _ _ hte, sm.evs, fun p6 fv6 H6 s6 n6 h6 r6 => ?_⟩
  have l5 := r5.length
  have l6 := r6.length
  rw [List.length_append, List.length_append] at l5
  refine ⟨p, p6, _, fv6, rfl, rfl, s6 _ _ h5, h6, small_le (by simp only [List.length_append] at l5 ⊢; omega), ?_⟩
  obtain ⟨s7, r7⟩ := extS s5 n1 h5 r5 s6 h6 r6
  have h7 : upd H6 p (.lst (fv ++ fv2 ++ fv4 ++ fv6)) p = some (.lst (fv ++ fv2 ++ fv4 ++ fv6)) := upd_same
  clear h5 r5 s6 n6 h6 r6
  -- the doors
  refine ⟨_, rfl, .inl ⟨rfl, _, SqL.of h7⟩, _, rfl, t, _, _, _, rfl, rfl, SqT.of (s7 _ _ ht), rfl, _, rfl, _, rfl, _, rfl, td, tb, te, tr, dv, bv, rv, c.doors, c.bxs, c.evs, c.rooms, rfl, s7 _ _ htd, DrsIn.mono hds (KeepT.of s7), sm.doors, sm.drs, s7 _ _ htb, BxsIn.mono hbs (KeepT.of s7), sm.bxs, s7 _ _ hte, sm.evs, s7 _ _ htr, RosIn.mono hrs (KeepT.of s7), sm.rooms, fun p8 fv8 H8 s8 n8 h8 r8 => ?_⟩
  have l7 := r7.length
  have l8 := r8.length
  rw [List.length_append, List.length_append, List.length_append] at l7
  refine ⟨p, p8, _, fv8, rfl, rfl, s8 _ _ h7, h8, small_le (by simp only [List.length_append] at l7 ⊢; omega), ?_⟩
  obtain ⟨s9, r9⟩ := extS s7 n1 h7 r7 s8 h8 r8
  exact ⟨_, rfl, q p _ _ s9 n1 upd_same r9⟩
end
end Prg

namespace Prg
open PySem L2 Mix Gds Dds Wds Cht
/-! deeds, guards and doors -/
def numO (n : Nat) : Option Int → Bool
  | none => false
  | some i => numOf n i
def okSay (d : Dd) : Prop := ∀ z, d = .say z → z.length ≤ 1000
def spNum : Sp := fun vs H Q _ => ∃ (o : Option Int) (t : Addr) (xs : List V), vs = [gv o, .ref t] ∧ H t = some (.tup xs) ∧ Q (.bl (numO xs.length o)) H
def spReach : Sp := fun vs H Q _ => ∃ n : Int, vs = [.int n] ∧ Q (.bl (within (-big) big n)) H
def rch : Gd → List Bool
  | .is _ n => [within (-big) big n]
  | .under _ n => [within (-big) big n]
  | _ => []
def guardF (nb nr : Nat) (g : Gd) : Bool := decide (6 < g.ht) || (g.bxs.any (fun b => !numOf nb b) || (g.rms.any (fun r => !numOf nr r) || (g.plains.flatMap rch).any (fun b => !b)))
theorem badGd_eq (nb nr : Nat) : ∀ g : Gd, badGd nb nr g = (g.bxs.any (fun b => !numOf nb b) || (g.rms.any (fun r => !numOf nr r) || (g.plains.flatMap rch).any (fun b => !b)))
  | .yes => rfl
  | .is b n => by simp [badGd, Gd.bxs, Gd.rms, Gd.plains, rch]
  | .under b n => by simp [badGd, Gd.bxs, Gd.rms, Gd.plains, rch]
  | .inn r => by simp [badGd, Gd.bxs, Gd.rms, Gd.plains, rch]
  | .neg g => badGd_eq nb nr g
  | .both g h => by
    show (badGd nb nr g || badGd nb nr h) = ((g.bxs ++ h.bxs).any _ || ((g.rms ++ h.rms).any _ || ((g.plains ++ h.plains).flatMap rch).any _))
    rw [badGd_eq nb nr g, badGd_eq nb nr h, List.any_append, List.any_append, List.flatMap_append, List.any_append]
    generalize g.bxs.any _ = a1
    generalize h.bxs.any _ = a2
    generalize g.rms.any _ = a3
    generalize h.rms.any _ = a4
    generalize (g.plains.flatMap rch).any _ = a5
    generalize (h.plains.flatMap rch).any _ = a6
    cases a1 <;> cases a2 <;> cases a3 <;> cases a4 <;> cases a5 <;> cases a6 <;> rfl
  | .either g h => by
    show (badGd nb nr g || badGd nb nr h) = ((g.bxs ++ h.bxs).any _ || ((g.rms ++ h.rms).any _ || ((g.plains ++ h.plains).flatMap rch).any _))
    rw [badGd_eq nb nr g, badGd_eq nb nr h, List.any_append, List.any_append, List.flatMap_append, List.any_append]
    generalize g.bxs.any _ = a1
    generalize h.bxs.any _ = a2
    generalize g.rms.any _ = a3
    generalize h.rms.any _ = a4
    generalize (g.plains.flatMap rch).any _ = a5
    generalize (h.plains.flatMap rch).any _ = a6
    cases a1 <;> cases a2 <;> cases a3 <;> cases a4 <;> cases a5 <;> cases a6 <;> rfl
theorem all_srt {bs ns : List Int} (s : Srt bs ns) (f : Int → Bool) : (!((bs.map f).all id)) = ns.any fun b => !f b := by
  rw [List.all_map, Bool.eq_iff_iff, Bool.not_eq_true', List.all_eq_false, List.any_eq_true]
  constructor
  · rintro ⟨x, hx, h⟩
    exact ⟨x, (s.2 x).mp hx, by simpa using h⟩
  · rintro ⟨x, hx, h⟩
    exact ⟨x, (s.2 x).mpr hx, by simpa using h⟩
theorem all_not (l : List Bool) : (!(l.all id)) = l.any fun b => !b := by
  induction l with
  | nil => rfl
  | cons b l ih =>
    rw [List.all_cons, List.any_cons, ← ih]
    cases b <;> rfl
def spGuardF : Sp := fun vs H Q _ => ∃ (vg : V) (tb tr : Addr) (g : Gd) (bv rv : List V), vs = [vg, .ref tb, .ref tr] ∧ GdIn H vg g ∧ g.ht ≤ 20 ∧ g.lv ≤ 900 ∧ g.fit ∧ H tb = some (.tup bv) ∧ H tr = some (.tup rv) ∧ ∀ H', Same H H' → Q (.bl (decide (6 < g.ht) || badGd bv.length rv.length g)) H'
def spGoalF : Sp := fun vs H Q _ => ∃ (w : Str) (o : Option Int) (t : Addr) (rv : List V) (rs : List Ro), vs = [.str w, gv o, .ref t] ∧ H t = some (.tup rv) ∧ RosIn H rv rs ∧ Q (.bl (badWay rs w o)) H
def okDoor (d : Dr) : Prop := d.guard.ht ≤ 20 ∧ d.guard.lv ≤ 900 ∧ d.guard.fit ∧ okDs okSay d.deeds
section
variable {P : Program} {w : World} {K : PySem.W.Frag} {mg : Str → Option Value} {base : Heap}
theorem sc_is_number_of : FnScope ["number", "things"] ["number", "things"] (defScope sNumHF) := ⟨rfl, rfl, rfl, by decide +kernel, rfl, by decide +kernel, by decide +kernel⟩
theorem ok_num {f : Addr} {fd : FuncData} (F : Fun K "is_number_of" "is_number_of" sNumHF f fd) (m_len : mg "len" = none) : FnOk P w K mg base CX0 1 f fd ["number", "things"] spNum := by
  refine F.ok sc_is_number_of (fun vs H Q E h => ?_) (fun cdv A outer s H vs Q E hr h => ?_)
  · obtain ⟨o, t, xs, rfl, _⟩ := h
    rfl
  obtain ⟨o, t, xs, rfl, ht, q⟩ := h
  refine ⟨_, (pss_one (ps_ret (pe_and (pe_cmpR op_notN (pv 0) pe_non (nomark _)) (pe_one (pe_chV op_le op_lt pe_int (pv 0) (pe_callB call_len_seq rfl m_len PySem.boot_len (pa_cons (pv 1) pa_nil))))))), ?_⟩
  cases o with
  | none => exact ⟨_, rfl, rfl, _, rfl, ifF rfl q⟩
  | some i => exact ⟨_, rfl, rfl, _, rfl, ifT rfl ⟨_, rfl, _, _, (xs.length : Int), rfl, rfl, ⟨_, rfl, t, _, rfl, .inr (SqT.of ht), rfl, rfl⟩, q⟩⟩
theorem sc_is_in_reach : FnScope ["number"] ["number"] (defScope sReachHF) := ⟨rfl, rfl, rfl, by decide +kernel, rfl, by decide +kernel, by decide +kernel⟩
theorem ok_reach {f : Addr} {fd : FuncData} {tG : Tok} (F : Fun K "is_in_reach" "is_in_reach" sReachHF f fd) (g_GREATEST : mg "GREATEST" = some (.int big tG)) : FnOk P w K mg base CX0 1 f fd ["number"] spReach := by
  refine F.ok sc_is_in_reach (fun vs H Q E h => ?_) (fun cdv A outer s H vs Q E hr h => ?_)
  · obtain ⟨n, rfl, _⟩ := h
    rfl
  obtain ⟨n, rfl, q⟩ := h
  refine ⟨_, (pss_one (ps_ret (pe_chV op_le op_le (pe_un un_neg (pe_glob (v := .int big) rfl g_GREATEST ⟨_, rfl⟩)) (pv 0) (pe_glob (v := .int big) rfl g_GREATEST ⟨_, rfl⟩)))), ?_⟩
  exact ⟨_, rfl, _, rfl, _, _, big, rfl, rfl, ⟨rfl, rfl⟩, q⟩
theorem sc_deed_has_fault : FnScope ["deed", "boxes", "events", "kind", "size"] ["deed", "boxes", "events"] (defScope sDeedHF) := ⟨rfl, rfl, rfl, by decide +kernel, rfl, by decide +kernel, by decide +kernel⟩
theorem ok_deedF {n : Nat} {f gw gn gr : Addr} {fd dw dn dr : FuncData} (F : Fun K "deed_has_fault" "deed_has_fault" sDeedHF f fd) (G_is_word : FnOk P w K mg base CX0 n gw dw ["text"] spWord) (b_is_word : Binds K dw ["text"] []) (k_is_word : PySem.W.keepIn K (.ref gw) = true) (m_is_word : mg "is_word" = some (.ref gw))
    (G_is_number_of : FnOk P w K mg base CX0 n gn dn ["number", "things"] spNum) (b_is_number_of : Binds K dn ["number", "things"] []) (k_is_number_of : PySem.W.keepIn K (.ref gn) = true) (m_is_number_of : mg "is_number_of" = some (.ref gn))
    (G_is_in_reach : FnOk P w K mg base CX0 n gr dr ["number"] spReach) (b_is_in_reach : Binds K dr ["number"] []) (k_is_in_reach : PySem.W.keepIn K (.ref gr) = true) (m_is_in_reach : mg "is_in_reach" = some (.ref gr)) :
    FnOk P w K mg base CX0 (n + 1) f fd ["deed", "boxes", "events"] (spDeedF okSay) := by
  refine F.ok sc_deed_has_fault (fun vs H Q E h => ?_) (fun cdv A outer s H vs Q E hr h => ?_)
  · obtain ⟨v, tb, te, d, bv, bs, es, rfl, _⟩ := h
    rfl
  obtain ⟨v, tb, te, d, bv, bs, es, rfl, hd, hok, htb, hbs, b60, hte, e60, q⟩ := h
  refine ⟨_, (pss_cons (ps_set (i := 3) sc_deed_has_fault.nd rfl (Or.inl rfl) (pe_ix ix_tup (pv 0) pe_int (fun _ _ => rfl)))
    (pss_cons (ps_if (pt_cmpR op_eq (pv 3) pe_str (nomark _))
      (pss_one (ps_ret (pe_not (pe_call G_is_word hr rfl m_is_word k_is_word b_is_word .nil pass0 (pa_cons (pe_ix ix_tup (pv 0) pe_int (fun _ _ => rfl)) pa_nil)))))
      pss_nil)
    (pss_cons (ps_if (pt_cmpR op_eq (pv 3) pe_str (nomark _))
      (pss_one (ps_ret (pe_not (pe_call G_is_number_of hr rfl m_is_number_of k_is_number_of b_is_number_of .nil pass0 (pa_cons (pe_ix ix_tup (pv 0) pe_int (fun _ _ => rfl)) (pa_cons (pv 2) pa_nil))))))
      pss_nil)
    (pss_cons (ps_if (pt_not (pt_val (pe_call G_is_number_of hr rfl m_is_number_of k_is_number_of b_is_number_of .nil pass0 (pa_cons (pe_ix ix_tup (pv 0) pe_int (fun _ _ => rfl)) (pa_cons (pv 1) pa_nil)))))
      (pss_one (ps_ret pe_bl))
      pss_nil)
    (pss_cons (ps_if (pt_cmpR op_eq (pv 3) pe_str (nomark _))
      (pss_cons (ps_set (i := 4) sc_deed_has_fault.nd rfl (Or.inl rfl) (pe_ix ix_tup (pe_ix ix_tup (pv 1) (pe_ix ix_tup (pv 0) pe_int (fun _ _ => rfl)) (fun _ _ => rfl)) pe_int (fun _ _ => rfl)))
      (pss_one (ps_ret (pe_not (pe_chV op_le op_lt pe_int (pe_ix ix_tup (pv 0) pe_int (fun _ _ => rfl)) (pv 4))))))
      pss_nil)
    (pss_one (ps_ret (pe_not (pe_call G_is_in_reach hr rfl m_is_in_reach k_is_in_reach b_is_in_reach .nil pass0 (pa_cons (pe_ix ix_tup (pv 0) pe_int (fun _ _ => rfl)) pa_nil)))))))))), ?_⟩
  have hbl := hbs.length
  have hel : (es.map V.str).length = es.length := List.length_map _
  cases hd with
  | @say a z e =>
    refine ⟨_, rfl, a, _, _, _, rfl, rfl, SqT.of e, rfl, _, rfl, rfl, _, rfl, strEq ?_⟩
    exact ⟨_, rfl, a, _, _, _, rfl, rfl, SqT.of e, rfl, z, rfl, hok z rfl, fun H1 s1 => ⟨_, rfl, q H1 s1⟩⟩
  | @send a i e =>
    refine ⟨_, rfl, a, _, _, _, rfl, rfl, SqT.of e, rfl, _, rfl, rfl, _, rfl, strNe (by decide +kernel) ?_⟩
    refine ⟨_, rfl, rfl, _, rfl, strEq ?_⟩
    refine ⟨_, rfl, a, _, _, _, rfl, rfl, SqT.of e, rfl, _, rfl, some i, te, _, rfl, hte, _, rfl, ?_⟩
    rw [hel]
    exact q H (Same.refl _)
  | @set a b n e =>
    refine ⟨_, rfl, a, _, _, _, rfl, rfl, SqT.of e, rfl, _, rfl, rfl, _, rfl, strNe (by decide +kernel) ?_⟩
    refine ⟨_, rfl, rfl, _, rfl, strNe (by decide +kernel) ?_⟩
    refine ⟨_, rfl, a, _, _, _, rfl, rfl, SqT.of e, rfl, _, rfl, some b, tb, _, rfl, htb, _, rfl, ?_⟩
    have q' := q H (Same.refl _)
    have eb : badDeed bs es.length (.set b n) = (!numO bv.length (some b) || !(decide (0 ≤ n) && decide (n < (bs.map (·.size)).getD b.toNat 0))) := by rw [hbl]; rfl
    rw [eb] at q'
    refine itB (fun c => ?_) (fun c => ?_)
    · rw [c, Bool.true_or] at q'
      exact q'
    rw [c, Bool.false_or] at q'
    refine ⟨_, rfl, rfl, _, rfl, strEq ?_⟩
    have c' : numOf bv.length b = true := by
      have c0 : (!numOf bv.length b) = false := c
      simpa using c0
    unfold numOf at c'
    rw [Bool.and_eq_true, decide_eq_true_iff, decide_eq_true_iff] at c'
    have hk : b.toNat < bs.length := by omega
    have er := List.getElem?_eq_getElem hk
    obtain ⟨v2, hv2, a2, rfl, ha2⟩ := hbs.get er
    have hat : atI bv b = some (.ref a2) := by
      have z := atI_nat hv2
      rw [Int.toNat_of_nonneg c'.1] at z
      exact z
    have em : (bs.map (·.size)).getD b.toNat 0 = bs[b.toNat].size := by
      rw [List.getD_eq_getElem?_getD, List.getElem?_map, er]
      rfl
    rw [em] at q'
    exact ⟨_, rfl, _, rfl, a, _, _, _, rfl, rfl, SqT.of e, rfl, tb, _, _, _, rfl, rfl, SqT.of htb, hat, a2, _, _, _, rfl, rfl, SqT.of ha2, rfl, _, rfl, a, _, _, _, rfl, rfl, SqT.of e, rfl, _, _, _, rfl, rfl, ⟨_, rfl, rfl, rfl⟩, _, rfl, q'⟩
  | @add a b n e =>
    refine ⟨_, rfl, a, _, _, _, rfl, rfl, SqT.of e, rfl, _, rfl, rfl, _, rfl, strNe (by decide +kernel) ?_⟩
    refine ⟨_, rfl, rfl, _, rfl, strNe (by decide +kernel) ?_⟩
    refine ⟨_, rfl, a, _, _, _, rfl, rfl, SqT.of e, rfl, _, rfl, some b, tb, _, rfl, htb, _, rfl, ?_⟩
    have q' := q H (Same.refl _)
    have eb : badDeed bs es.length (.add b n) = (!numO bv.length (some b) || !within (-big) big n) := by rw [hbl]; rfl
    rw [eb] at q'
    refine itB (fun c => ?_) (fun c => ?_)
    · rw [c, Bool.true_or] at q'
      exact q'
    rw [c, Bool.false_or] at q'
    refine ⟨_, rfl, rfl, _, rfl, strNe (by decide +kernel) ?_⟩
    exact ⟨_, rfl, a, _, _, _, rfl, rfl, SqT.of e, rfl, n, rfl, _, rfl, q'⟩
theorem sc_goal_has_fault : FnScope ["way", "goal", "rooms"] ["way", "goal", "rooms"] (defScope sGoalHF) := ⟨rfl, rfl, rfl, by decide +kernel, rfl, by decide +kernel, by decide +kernel⟩
theorem badWay_to (rs : List Ro) (o : Option Int) : badWay rs "to" o = !numO rs.length o := by
  unfold badWay
  rw [if_neg (by decide +kernel), if_pos rfl]
  cases o <;> rfl
theorem badWay_back (rs : List Ro) (o : Option Int) : badWay rs "back" o = (!numO rs.length o || decide ((rs.map (·.keeps)).getD (o.getD 0).toNat ("" : Str) = ("" : Str))) := by
  unfold badWay
  rw [if_neg (by decide +kernel), if_neg (by decide +kernel), if_pos rfl]
  cases o <;> rfl
theorem badWay_else (rs : List Ro) (w : Str) (o : Option Int) (h1 : w ≠ "to") (h2 : w ≠ "back") : badWay rs w o = (!decide (w = "stay") || !decide (gv o = V.non)) := by
  unfold badWay
  by_cases h : w = "stay"
  · rw [if_pos h, decide_eq_true h]
    cases o <;> rfl
  · rw [if_neg h, if_neg h1, if_neg h2, decide_eq_false h]
    rfl
theorem ok_goalF {n : Nat} {f gn : Addr} {fd dn : FuncData} (F : Fun K "goal_has_fault" "goal_has_fault" sGoalHF f fd) (G_is_number_of : FnOk P w K mg base CX0 n gn dn ["number", "things"] spNum) (b_is_number_of : Binds K dn ["number", "things"] []) (k_is_number_of : PySem.W.keepIn K (.ref gn) = true) (m_is_number_of : mg "is_number_of" = some (.ref gn)) :
    FnOk P w K mg base CX0 (n + 1) f fd ["way", "goal", "rooms"] spGoalF := by
  refine F.ok sc_goal_has_fault (fun vs H Q E h => ?_) (fun cdv A outer s H vs Q E hr h => ?_)
  · obtain ⟨w, o, t, rv, rs, rfl, _⟩ := h
    rfl
  obtain ⟨w', o, t, rv, rs, rfl, ht, hrs, q⟩ := h
  refine ⟨_, (pss_cons (ps_if (pt_cmpR op_eq (pv 0) pe_str (nomark _))
      (pss_one (ps_ret (pe_not (pe_call G_is_number_of hr rfl m_is_number_of k_is_number_of b_is_number_of .nil pass0 (pa_cons (pv 1) (pa_cons (pv 2) pa_nil))))))
      pss_nil)
    (pss_cons (ps_if (pt_cmpR op_eq (pv 0) pe_str (nomark _))
      (pss_one (ps_ret (pe_or (pe_not (pe_call G_is_number_of hr rfl m_is_number_of k_is_number_of b_is_number_of .nil pass0 (pa_cons (pv 1) (pa_cons (pv 2) pa_nil)))) (pe_one (pe_cmpR op_eq (pe_ix ix_tup (pe_ix ix_tup (pv 2) (pv 1) (fun _ _ => rfl)) pe_int (fun _ _ => rfl)) pe_str (nomark _))))))
      pss_nil)
    (pss_one (ps_ret (pe_or (pe_cmpR op_ne (pv 0) pe_str (nomark _)) (pe_one (pe_cmpR op_notN (pv 1) pe_non (nomark _)))))))), ?_⟩
  have hrl := hrs.length
  refine ⟨_, rfl, rfl, _, rfl, ?_⟩
  refine itB (fun c => ?_) (fun c => ?_)
  · rw [dstr] at c
    have e := of_decide_eq_true c
    rw [e, badWay_to, ← hrl] at q
    exact ⟨_, rfl, _, rfl, o, t, _, rfl, ht, _, rfl, q⟩
  rw [dstr] at c
  have h1 := of_decide_eq_false c
  refine ⟨_, rfl, rfl, _, rfl, ?_⟩
  refine itB (fun d => ?_) (fun d => ?_)
  · rw [dstr] at d
    have e := of_decide_eq_true d
    rw [e, badWay_back, ← hrl] at q
    refine ⟨_, rfl, _, rfl, o, t, _, rfl, ht, _, rfl, _, rfl, ?_⟩
    refine itB (fun m => ?_) (fun m => ?_)
    · rw [m, Bool.true_or] at q
      exact q
    rw [m, Bool.false_or] at q
    cases o with
    | none => cases m
    | some i =>
      have m' : numOf rv.length i = true := by
        have m0 : (!numOf rv.length i) = false := m
        simpa using m0
      unfold numOf at m'
      rw [Bool.and_eq_true, decide_eq_true_iff, decide_eq_true_iff] at m'
      have hk : i.toNat < rs.length := by omega
      have er := List.getElem?_eq_getElem hk
      obtain ⟨v2, hv2, a2, vi, vo, rfl, ha2, _⟩ := hrs.get er
      have hat : atI rv i = some (.ref a2) := by
        have z := atI_nat hv2
        rw [Int.toNat_of_nonneg m'.1] at z
        exact z
      have em : (rs.map (·.keeps)).getD i.toNat ("" : Str) = rs[i.toNat].keeps := by
        rw [List.getD_eq_getElem?_getD, List.getElem?_map, er]
        rfl
      have q2 : Q (.bl (decide ((rs.map (·.keeps)).getD i.toNat ("" : Str) = ("" : Str)))) H := q
      rw [em, ← dstr] at q2
      exact ⟨_, rfl, _, rfl, t, _, _, _, rfl, rfl, SqT.of ht, hat, a2, _, _, _, rfl, rfl, SqT.of ha2, rfl, rfl, q2⟩
  · rw [dstr] at d
    have h2 := of_decide_eq_false d
    rw [badWay_else rs w' o h1 h2, ← dstr] at q
    refine ⟨_, rfl, rfl, _, rfl, ?_⟩
    refine itB (fun m => ?_) (fun m => ?_)
    · rw [m, Bool.true_or] at q
      exact q
    · rw [m, Bool.false_or] at q
      exact ⟨_, rfl, rfl, q⟩
end
end Prg

namespace Prg
open PySem L2 Mix Gds Dds Wds Cht Gdp
section
variable {P : Program} {w : World} {K : PySem.W.Frag} {mg : Str → Option Value} {base : Heap}
theorem flat_le' {α β : Type} (f : α → List β) (L : List α) (i : Nat) : ((L.take i).flatMap f).length ≤ (L.flatMap f).length := by
  rw [← List.take_append_drop i L, List.flatMap_append, List.length_append, List.take_append_drop]
  omega
theorem rch_len (l : List Gd) : (l.flatMap rch).length ≤ l.length := by
  induction l with
  | nil => exact Nat.le_refl _
  | cons g l ih =>
    rw [List.flatMap_cons, List.length_append, List.length_cons]
    have : (rch g).length ≤ 1 := by cases g <;> simp [rch]
    omega
theorem sc_guard_has_fault : FnScope ["guard", "boxes", "rooms", "wanted"] ["guard", "boxes", "rooms"] (defScope sGuardHF) := ⟨rfl, rfl, rfl, by decide +kernel, rfl, by decide +kernel, by decide +kernel⟩
theorem ok_guardF {f gh ga gn gp gr : Addr} {fd dh da dn dp dr : FuncData} {tH : Tok} (F : Fun K "guard_has_fault" "guard_has_fault" sGuardHF f fd)
    (G_height : FnOk P w K mg base CX0 22 gh dh ["guard"] (spHeight 20)) (b_height : Binds K dh ["guard"] []) (k_height : PySem.W.keepIn K (.ref gh) = true) (m_height : mg "height" = some (.ref gh))
    (G_asked : FnOk P w K mg base CX0 22 ga da ["guard"] spAsked) (b_asked : Binds K da ["guard"] []) (k_asked : PySem.W.keepIn K (.ref ga) = true) (m_asked : mg "asked" = some (.ref ga))
    (G_is_number_of : FnOk P w K mg base CX0 22 gn dn ["number", "things"] spNum) (b_is_number_of : Binds K dn ["number", "things"] []) (k_is_number_of : PySem.W.keepIn K (.ref gn) = true) (m_is_number_of : mg "is_number_of" = some (.ref gn))
    (G_plain_guards : FnOk P w K mg base CX0 22 gp dp ["guard"] (spPlain 20)) (b_plain_guards : Binds K dp ["guard"] []) (k_plain_guards : PySem.W.keepIn K (.ref gp) = true) (m_plain_guards : mg "plain_guards" = some (.ref gp))
    (G_is_in_reach : FnOk P w K mg base CX0 22 gr dr ["number"] spReach) (b_is_in_reach : Binds K dr ["number"] []) (k_is_in_reach : PySem.W.keepIn K (.ref gr) = true) (m_is_in_reach : mg "is_in_reach" = some (.ref gr))
    (m_all : mg "all" = none) (g_HIGHEST : mg "HIGHEST" = some (.int 6 tH)) : FnOk P w K mg base CX0 23 f fd ["guard", "boxes", "rooms"] spGuardF := by
  refine F.ok sc_guard_has_fault (fun vs H Q E h => ?_) (fun cdv A outer s H vs Q E hr h => ?_)
  · obtain ⟨vg, tb, tr, g, bv, rv, rfl, _⟩ := h
    rfl
  obtain ⟨vg, tb, tr, g, bv, rv, rfl, hg, hht, hlv, hfit, htb, htr, q⟩ := h
  refine ⟨_, (pss_cons (ps_if (pt_cmpR op_gt (pe_call G_height hr rfl m_height k_height b_height .nil pass0 (pa_cons (pv 0) pa_nil)) (pe_glob (v := .int 6) rfl g_HIGHEST ⟨_, rfl⟩) (nomark _))
      (pss_one (ps_ret pe_bl))
      pss_nil)
    (pss_cons (ps_set (i := 3) sc_guard_has_fault.nd rfl (Or.inl rfl) (pe_call G_asked hr rfl m_asked k_asked b_asked .nil pass0 (pa_cons (pv 0) pa_nil)))
    (pss_cons (ps_if (pt_not (pt_val (pe_callB (call_allB rfl) rfl m_all PyProof.Rows.boot_all (pa_cons (pe_comp (caps := [(1, "boxes")]) rfl (show CompSc (defScope sGuardHF) ["guard", "boxes", "rooms", "wanted"] _ _ _ from ⟨rfl, rfl, by decide +kernel, by decide +kernel, by decide +kernel, by decide +kernel, by decide +kernel⟩) (pi_list (pe_ix ix_tup (pv 3) pe_int (fun _ _ => rfl))) (fun _ _ _ _ _ _ => pifs_nil) (fun _ _ _ _ _ _ => (pe_call G_is_number_of hr rfl m_is_number_of k_is_number_of b_is_number_of .nil pass0 (pa_cons (pv 0) (pa_cons (pv 1) pa_nil))))) pa_nil))))
      (pss_one (ps_ret pe_bl))
      pss_nil)
    (pss_cons (ps_if (pt_not (pt_val (pe_callB (call_allB rfl) rfl m_all PyProof.Rows.boot_all (pa_cons (pe_comp (caps := [(2, "rooms")]) rfl (show CompSc (defScope sGuardHF) ["guard", "boxes", "rooms", "wanted"] _ _ _ from ⟨rfl, rfl, by decide +kernel, by decide +kernel, by decide +kernel, by decide +kernel, by decide +kernel⟩) (pi_list (pe_ix ix_tup (pv 3) pe_int (fun _ _ => rfl))) (fun _ _ _ _ _ _ => pifs_nil) (fun _ _ _ _ _ _ => (pe_call G_is_number_of hr rfl m_is_number_of k_is_number_of b_is_number_of .nil pass0 (pa_cons (pv 0) (pa_cons (pv 1) pa_nil))))) pa_nil))))
      (pss_one (ps_ret pe_bl))
      pss_nil)
    (pss_one (ps_ret (pe_not (pe_callB (call_allB rfl) rfl m_all PyProof.Rows.boot_all (pa_cons (pe_comp (caps := []) rfl (show CompSc (defScope sGuardHF) ["guard", "boxes", "rooms", "wanted"] _ _ _ from ⟨rfl, rfl, by decide +kernel, by decide +kernel, by decide +kernel, by decide +kernel, by decide +kernel⟩) (pi_list (pe_call G_plain_guards hr rfl m_plain_guards k_plain_guards b_plain_guards .nil pass0 (pa_cons (pv 0) pa_nil))) (fun _ _ _ _ _ _ => pifs_one (pt_cmpR (r := rIn K false) op_in_seq (pe_ix (r := rIxT K) ix_tup (pv 0) pe_int (fun _ _ => rfl)) (pe_tup (pa_cons pe_str (pa_cons pe_str pa_nil))) rfl)) (fun _ _ _ _ _ _ => (pe_call G_is_in_reach hr rfl m_is_in_reach k_is_in_reach b_is_in_reach .nil pass0 (pa_cons (pe_ix (r := rIxT K) ix_tup (pv 0) pe_int (fun _ _ => rfl)) pa_nil)))) pa_nil))))))))), ?_⟩
  have ec : decide ((6 : Int) < (g.ht : Int)) = decide (6 < g.ht) := decide_eq_decide.mpr (by omega)
  rw [badGd_eq] at q
  refine ⟨_, rfl, vg, g, rfl, hg, hht, fun H1 s1 => ⟨_, _, rfl, rfl, _, rfl, ?_⟩⟩
  refine itB (fun c => ?_) (fun c => ?_)
  · have z := q H1 s1
    rw [← ec, c, Bool.true_or] at z
    exact z
  rw [← ec, c, Bool.false_or] at q
  refine ⟨_, rfl, vg, g, rfl, hg.mono (KeepT.of s1), hht, by omega, hfit, fun t p1 p2 bs rs H2 s2 n1 n2 n12 ht h1 h2 hb hr' => ?_⟩
  have lb : bs.length ≤ 63 := Sw.few_of1 bs hb.1 fun k hk => hfit.1 k ((hb.2 k).mp hk)
  have lr : rs.length ≤ 63 := Sw.few_of1 rs hr'.1 fun k hk => hfit.2 k ((hr'.2 k).mp hk)
  have s12 := s1.trans s2
  -- the boxes that are asked
  refine ⟨_, rfl, t, _, _, _, rfl, rfl, SqT.of ht, rfl, p1, rfl, ⟨_, SqL.of h1⟩, ?_⟩
  refine comp_list (K := K) (a := p1) (xs := bs.map V.int) (fun i acc H' => H' = H2 ∧ acc = ((bs.take i).map (numOf bv.length)).map V.bl) ⟨rfl, rfl⟩ (fun i acc H' ⟨e, _⟩ => by subst e; exact SqL.of h1) (fun i x acc H' hx ⟨e1, e2⟩ => ?_) (fun acc H' ⟨e1, e2⟩ p hp => ?_)
  · subst e1 e2
    have hi : i < bs.length := by
      have := (List.getElem?_eq_some_iff.mp hx).1
      rw [List.length_map] at this
      exact this
    have eb := List.getElem?_eq_getElem hi
    obtain rfl : x = .int bs[i] := by
      rw [List.getElem?_map, eb] at hx
      exact (Option.some.inj hx).symm
    refine ⟨_, rfl, _, rfl, some bs[i], tb, bv, rfl, s12 _ _ htb, small1000 (by rw [List.length_map, List.length_map, List.length_take]; omega), rfl, ?_⟩
    rw [List.take_add_one, eb, List.map_append, List.map_append]
    rfl
  subst e1 e2
  rw [List.length_map, List.take_length]
  refine ⟨p, _, rfl, SqL.of upd_same, _, rfl, ?_⟩
  have s3 := s12.trans (same_new hp (.lst ((bs.map (numOf bv.length)).map V.bl)))
  refine itB (fun d => ?_) (fun d => ?_)
  · have d := (all_srt hb (numOf bv.length)).symm.trans d
    have z := q _ s3
    rw [d, Bool.true_or] at z
    exact z
  have d := (all_srt hb (numOf bv.length)).symm.trans d
  rw [d, Bool.false_or] at q
  have ht3 := same_new hp (.lst ((bs.map (numOf bv.length)).map V.bl)) _ _ ht
  have h23 := same_new hp (.lst ((bs.map (numOf bv.length)).map V.bl)) _ _ h2
  -- the rooms that are asked
  refine ⟨_, rfl, t, _, _, _, rfl, rfl, SqT.of ht3, rfl, p2, rfl, ⟨_, SqL.of h23⟩, ?_⟩
  refine comp_list (K := K) (a := p2) (xs := rs.map V.int) (fun i acc H3 => H3 = upd H' p (.lst ((bs.map (numOf bv.length)).map V.bl)) ∧ acc = ((rs.take i).map (numOf rv.length)).map V.bl) ⟨rfl, rfl⟩ (fun i acc H3 ⟨e, _⟩ => by subst e; exact SqL.of h23) (fun i x acc H3 hx ⟨e1, e2⟩ => ?_) (fun acc H3 ⟨e1, e2⟩ p4 hp4 => ?_)
  · subst e1 e2
    have hi : i < rs.length := by
      have := (List.getElem?_eq_some_iff.mp hx).1
      rw [List.length_map] at this
      exact this
    have eb := List.getElem?_eq_getElem hi
    obtain rfl : x = .int rs[i] := by
      rw [List.getElem?_map, eb] at hx
      exact (Option.some.inj hx).symm
    refine ⟨_, rfl, _, rfl, some rs[i], tr, rv, rfl, s3 _ _ htr, small1000 (by rw [List.length_map, List.length_map, List.length_take]; omega), rfl, ?_⟩
    rw [List.take_add_one, eb, List.map_append, List.map_append]
    rfl
  subst e1 e2
  rw [List.length_map, List.take_length]
  refine ⟨p4, _, rfl, SqL.of upd_same, _, rfl, ?_⟩
  have s4 := s3.trans (same_new hp4 (.lst ((rs.map (numOf rv.length)).map V.bl)))
  refine itB (fun m => ?_) (fun m => ?_)
  · have m := (all_srt hr' (numOf rv.length)).symm.trans m
    have z := q _ s4
    rw [m, Bool.true_or] at z
    exact z
  have m := (all_srt hr' (numOf rv.length)).symm.trans m
  rw [m, Bool.false_or] at q
  -- the numbers
  refine ⟨_, rfl, vg, g, rfl, hg.mono (KeepT.of s4), hht, by omega, fun p5 us H5 s5 hp5 h5 hI => ⟨p5, rfl, ⟨_, SqL.of h5⟩, ?_⟩⟩
  have lu := hI.length
  have lp := g.plains_len
  have lc := rch_len g.plains
  refine comp_list (K := K) (a := p5) (xs := us) (fun i acc H' => Same H5 H' ∧ acc = ((g.plains.take i).flatMap rch).map V.bl) ⟨Same.refl _, rfl⟩ (fun i acc H' ⟨s6, _⟩ => SqL.of (s6 _ _ h5)) (fun i x acc H' hx ⟨s6, e2⟩ => ?_) (fun acc H' ⟨s6, e2⟩ p6 hp6 => ?_)
  · obtain ⟨k, hk, hgk⟩ := hI.get hx
    have leaf := g.plains_leaf k (List.mem_of_getElem? hk)
    have l5 := flat_le' rch g.plains i
    have lacc : acc.length < sizeLine := by
      rw [e2, List.length_map]
      exact small1000 (by omega)
    have stay : ∀ H'' : Hp, Same H' H'' → rch k = [] → Same H5 H'' ∧ acc = ((g.plains.take (i + 1)).flatMap rch).map V.bl := fun H'' s3 e => by
      refine ⟨s6.trans s3, ?_⟩
      rw [flat_succ rch hk, e, List.append_nil]
      exact e2
    have more : ∀ (H'' : Hp) (b : Bool), Same H' H'' → rch k = [b] → acc.length < sizeLine ∧ Same H5 H'' ∧ acc ++ [V.bl b] = ((g.plains.take (i + 1)).flatMap rch).map V.bl := fun H'' b s3 e => by
      refine ⟨lacc, s6.trans s3, ?_⟩
      rw [flat_succ rch hk, e, List.map_append, ← e2]
      rfl
    have hgk' := hgk.mono (KeepT.of s6)
    cases hgk' with
    | @yes a e => exact ⟨_, rfl, a, _, _, _, rfl, rfl, SqT.of e, rfl, small_le (by show 2 ≤ 1000; decide), fun pt hpt => ⟨pt, _, rfl, .inr (SqT.of upd_same), rfl, rfl, _, rfl, ifF (by decide +kernel) (stay _ (same_new hpt _) rfl)⟩⟩
    | @is a b n e =>
      refine ⟨_, rfl, a, _, _, _, rfl, rfl, SqT.of e, rfl, small_le (by show 2 ≤ 1000; decide), fun pt hpt => ⟨pt, _, rfl, .inr (SqT.of upd_same), rfl, rfl, _, rfl, ifT (by decide +kernel) ?_⟩⟩
      exact ⟨_, rfl, a, _, _, _, rfl, rfl, SqT.of ((same_new hpt _) _ _ e), rfl, n, rfl, more _ _ (same_new hpt _) rfl⟩
    | @under a b n e =>
      refine ⟨_, rfl, a, _, _, _, rfl, rfl, SqT.of e, rfl, small_le (by show 2 ≤ 1000; decide), fun pt hpt => ⟨pt, _, rfl, .inr (SqT.of upd_same), rfl, rfl, _, rfl, ifT (by decide +kernel) ?_⟩⟩
      exact ⟨_, rfl, a, _, _, _, rfl, rfl, SqT.of ((same_new hpt _) _ _ e), rfl, n, rfl, more _ _ (same_new hpt _) rfl⟩
    | @inn a r e => exact ⟨_, rfl, a, _, _, _, rfl, rfl, SqT.of e, rfl, small_le (by show 2 ≤ 1000; decide), fun pt hpt => ⟨pt, _, rfl, .inr (SqT.of upd_same), rfl, rfl, _, rfl, ifF (by decide +kernel) (stay _ (same_new hpt _) rfl)⟩⟩
    | neg => cases leaf
    | both => cases leaf
    | either => cases leaf
  · rw [List.take_of_length_le (by omega)] at e2
    subst e2
    refine ⟨p6, _, rfl, SqL.of upd_same, _, rfl, ?_⟩
    rw [← all_not] at q
    exact q _ (((s4.trans s5).trans s6).trans (same_new hp6 _))
theorem sc_door_has_fault : FnScope ["door", "boxes", "events", "rooms"] ["door", "boxes", "events", "rooms"] (defScope sDoorHF) := ⟨rfl, rfl, rfl, by decide +kernel, rfl, by decide +kernel, by decide +kernel⟩
theorem ok_doorF {n : Nat} {f gn gg gs gl : Addr} {fd dn dg dds dl : FuncData} (F : Fun K "door_has_fault" "door_has_fault" sDoorHF f fd)
    (G_is_number_of : FnOk P w K mg base CX0 n gn dn ["number", "things"] spNum) (b_is_number_of : Binds K dn ["number", "things"] []) (k_is_number_of : PySem.W.keepIn K (.ref gn) = true) (m_is_number_of : mg "is_number_of" = some (.ref gn))
    (G_guard_has_fault : FnOk P w K mg base CX0 n gg dg ["guard", "boxes", "rooms"] spGuardF) (b_guard_has_fault : Binds K dg ["guard", "boxes", "rooms"] []) (k_guard_has_fault : PySem.W.keepIn K (.ref gg) = true) (m_guard_has_fault : mg "guard_has_fault" = some (.ref gg))
    (G_deeds_have_fault : FnOk P w K mg base CX0 n gs dds ["deeds", "boxes", "events"] (spDeedsF okSay)) (b_deeds_have_fault : Binds K dds ["deeds", "boxes", "events"] []) (k_deeds_have_fault : PySem.W.keepIn K (.ref gs) = true) (m_deeds_have_fault : mg "deeds_have_fault" = some (.ref gs))
    (G_goal_has_fault : FnOk P w K mg base CX0 n gl dl ["way", "goal", "rooms"] spGoalF) (b_goal_has_fault : Binds K dl ["way", "goal", "rooms"] []) (k_goal_has_fault : PySem.W.keepIn K (.ref gl) = true) (m_goal_has_fault : mg "goal_has_fault" = some (.ref gl)) :
    FnOk P w K mg base CX0 (n + 1) f fd ["door", "boxes", "events", "rooms"] (spDoorF okDoor) := by
  refine F.ok sc_door_has_fault (fun vs H Q E h => ?_) (fun cdv A outer s H vs Q E hr h => ?_)
  · obtain ⟨v, tb, te, tr, d, bv, rv, bs, es, rs, rfl, _⟩ := h
    rfl
  obtain ⟨v, tb, te, tr, d, bv, rv, bs, es, rs, rfl, ⟨a, vg, vd, rfl, ha, hvg, hvd⟩, ⟨ok1, ok2, ok3, ok4⟩, htb, hbs, b60, hte, e60, htr, hrs, r60, q⟩ := h
  refine ⟨_, (pss_cons (ps_if (pt_cut (PW.pt (pw_or (pt_not (pt_val (pe_call G_is_number_of hr rfl m_is_number_of k_is_number_of b_is_number_of .nil pass0 (pa_cons (pe_ix ix_tup (pv 0) pe_int (fun _ _ => rfl)) (pa_cons (pv 3) pa_nil))))) (pw_or1 (pt_not (pt_val (pe_call G_is_number_of hr rfl m_is_number_of k_is_number_of b_is_number_of .nil pass0 (pa_cons (pe_ix ix_tup (pv 0) pe_int (fun _ _ => rfl)) (pa_cons (pv 2) pa_nil)))))))))
      (pss_one (ps_ret pe_bl))
      pss_nil)
    (pss_cons (ps_if (pt_cut (PW.pt (pw_or (pt_val (pe_call G_guard_has_fault hr rfl m_guard_has_fault k_guard_has_fault b_guard_has_fault .nil pass0 (pa_cons (pe_ix ix_tup (pv 0) pe_int (fun _ _ => rfl)) (pa_cons (pv 1) (pa_cons (pv 3) pa_nil))))) (pw_or1 (pt_val (pe_call G_deeds_have_fault hr rfl m_deeds_have_fault k_deeds_have_fault b_deeds_have_fault .nil pass0 (pa_cons (pe_ix ix_tup (pv 0) pe_int (fun _ _ => rfl)) (pa_cons (pv 1) (pa_cons (pv 2) pa_nil)))))))))
      (pss_one (ps_ret pe_bl))
      pss_nil)
    (pss_one (ps_ret (pe_call G_goal_has_fault hr rfl m_goal_has_fault k_goal_has_fault b_goal_has_fault .nil pass0 (pa_cons (pe_ix ix_tup (pv 0) pe_int (fun _ _ => rfl)) (pa_cons (pe_ix ix_tup (pv 0) pe_int (fun _ _ => rfl)) (pa_cons (pv 3) pa_nil)))))))), ?_⟩
  have hbl := hbs.length
  have hrl := hrs.length
  have hel : (es.map V.str).length = es.length := List.length_map _
  have eb : badDr bs es.length rs d = ((!numOf rs.length d.room || !numOf es.length d.event) || (((decide (6 < d.guard.ht) || badGd bs.length rs.length d.guard) || badDeeds bs es.length d.deeds) || badWay rs d.way d.goal)) := by
    unfold badDr
    simp only [Bool.or_assoc]
  refine ⟨fun c H' => H' = H ∧ c = (!numOf rs.length d.room || !numOf es.length d.event), ?_, ?_⟩
  · refine ⟨_, rfl, a, _, _, _, rfl, rfl, SqT.of ha, rfl, _, rfl, some d.room, tr, rv, rfl, htr, _, rfl, ?_⟩
    rw [hrl]
    refine itB (fun c => ⟨rfl, ?_⟩) (fun c => ?_)
    · have c' : (!numOf rs.length d.room) = true := c
      rw [c']
      rfl
    · have c' : (!numOf rs.length d.room) = false := c
      refine ⟨_, rfl, a, _, _, _, rfl, rfl, SqT.of ha, rfl, _, rfl, some d.event, te, _, rfl, hte, _, rfl, rfl, ?_⟩
      rw [hel, c', Bool.false_or]
      rfl
  rintro c H1 ⟨rfl, rfl⟩
  refine itB (fun c => ?_) (fun c => ?_)
  · have z := q H1 (Same.refl _)
    rw [eb, c, Bool.true_or] at z
    exact z
  rw [eb, c, Bool.false_or] at q
  refine ⟨fun c H' => Same H1 H' ∧ c = ((decide (6 < d.guard.ht) || badGd bs.length rs.length d.guard) || badDeeds bs es.length d.deeds), ?_, ?_⟩
  · refine ⟨_, rfl, a, _, _, _, rfl, rfl, SqT.of ha, rfl, _, rfl, _, rfl, vg, tb, tr, d.guard, bv, rv, rfl, hvg, ok1, ok2, ok3, htb, htr, fun H2 s2 => ⟨_, rfl, ?_⟩⟩
    rw [hbl, hrl]
    refine itB (fun m => ⟨s2, by rw [m]; rfl⟩) (fun m => ?_)
    refine ⟨_, rfl, a, _, _, _, rfl, rfl, SqT.of (s2 _ _ ha), rfl, _, rfl, _, rfl, vd, tb, te, d.deeds, bv, bs, es, rfl, hvd.mono (KeepT.of s2), ok4, s2 _ _ htb, BxsIn.mono hbs (KeepT.of s2), b60, s2 _ _ hte, e60, fun H3 s3 => ⟨_, rfl, s2.trans s3, ?_⟩⟩
    rw [m, Bool.false_or]
  rintro c2 H2 ⟨s2, rfl⟩
  refine itB (fun m => ?_) (fun m => ?_)
  · have z := q H2 s2
    rw [m, Bool.true_or] at z
    exact z
  · rw [m, Bool.false_or] at q
    exact ⟨_, rfl, a, _, _, _, rfl, rfl, SqT.of (s2 _ _ ha), rfl, _, rfl, a, _, _, _, rfl, rfl, SqT.of (s2 _ _ ha), rfl, _, rfl, d.way, d.goal, tr, rv, rs, rfl, s2 _ _ htr, RosIn.mono hrs (KeepT.of s2), q H2 s2⟩
end
end Prg

namespace K11
open PySem L2 Mix Gds Dds Wds Cht
/-- the law's draw of a number: any from -1 on, one too many at most -/
def spAround : Sp := fun vs H Q _ => ∃ (n m : Int), vs = [.int n, .int m] ∧ (0 ≤ n) ∧ (0 ≤ m ∧ m ≤ 60) ∧ ∀ r : Int, -1 ≤ r → r ≤ m → Q (.int r) H
def spEdge (K : PySem.W.Frag) : Sp := fun vs H Q _ => ∃ (a : Addr) (ns : List Int) (k n : Int), vs = [.ref a, .int k, .int n] ∧ SqL K H a (ns.map V.int) ∧ ns.length ≤ 63 ∧ 0 ≤ n ∧ ∀ (r : Int) (H' : Hp), Same H H' → Q (.int r) H'
def spText : Sp := fun vs H Q _ => ∃ n : Int, vs = [.int n] ∧ 0 ≤ n ∧ ∀ z : Str, z.length ≤ 20 → Q (.str z) H
section
variable {P : Program} {w : World} {K : PySem.W.Frag} {mg : Str → Option Value} {base : Heap}
theorem sc_law_around : FnScope ["_law_number", "_law_many"] ["_law_number", "_law_many"] (defScope sAround) := ⟨rfl, rfl, rfl, by decide +kernel, rfl, by decide +kernel, by decide +kernel⟩
theorem ok_around {f : Addr} {fd : FuncData} (F : Fun K "_law_around" "_law_around" sAround f fd) : FnOk P w K mg base CX0 1 f fd ["_law_number", "_law_many"] spAround := by
  refine F.ok sc_law_around (fun vs H Q E h => ?_) (fun cdv A outer s H vs Q E hr h => ?_)
  · obtain ⟨n, m, rfl, _⟩ := h
    rfl
  obtain ⟨n, m, rfl, n0, ⟨m0, m1⟩, q⟩ := h
  refine ⟨_, (pss_cons (ps_if (pt_cut (PW.pt (pw_and (pt_cmpR op_gt (pe_op op_mod (pv 0) pe_int) pe_int (nomark _)) (pw_and1 (pt_cmpR op_gt (pv 1) pe_int (nomark _))))))
      (pss_one (ps_ret (pe_op op_mod (pe_op op_fdiv (pv 0) pe_int) (pv 1))))
      pss_nil)
    (pss_one (ps_ret (pe_op op_sub (pe_op op_mod (pe_op op_fdiv (pv 0) pe_int) (pe_op op_add (pv 1) pe_int)) pe_int)))), ?_⟩
  refine ⟨fun c H' => H' = H ∧ (c = true → 0 < m), ?_, ?_⟩
  · refine ⟨_, rfl, _, _, rfl, rfl, (by show (0 : Int) < 4; decide), _, _, rfl, rfl, _, rfl, ?_⟩
    refine itB (fun _ => ?_) (fun _ => ⟨rfl, fun z => by cases z⟩)
    exact ⟨_, rfl, _, _, rfl, rfl, _, rfl, rfl, fun z => of_decide_eq_true z⟩
  rintro c H1 ⟨rfl, hc⟩
  refine itB (fun d => ?_) (fun d => ?_)
  · have m2 := hc d
    refine ⟨_, rfl, _, _, rfl, rfl, ⟨by decide, by decide⟩, _, rfl, _, _, rfl, rfl, m2, q _ ?_ ?_⟩
    · have := Int.emod_nonneg (n / 4) (show m ≠ 0 by omega)
      omega
    · have := Int.emod_lt_of_pos (n / 4) m2
      omega
  · refine ⟨_, rfl, _, _, rfl, rfl, ⟨by decide, by decide⟩, _, rfl, _, _, rfl, rfl, _, _, rfl, rfl, (by show (0 : Int) < m + 2; omega), _, _, rfl, rfl, q _ ?_ ?_⟩
    · have := Int.emod_nonneg (n / 4) (show m + 2 ≠ 0 by omega)
      omega
    · have := Int.emod_lt_of_pos (n / 4) (show 0 < m + 2 by omega)
      omega
theorem sc_law_edge : FnScope ["_law_script", "_law_k", "_law_number", "_law_cell", "_law_near"] ["_law_script", "_law_k", "_law_number"] (defScope sEdge) := ⟨rfl, rfl, rfl, by decide +kernel, rfl, by decide +kernel, by decide +kernel⟩
theorem ok_edge {f gc : Addr} {fd dc : FuncData} (F : Fun K "_law_edge" "_law_edge" sEdge f fd) (G_law_cell_at : FnOk P w K mg base CX0 2 gc dc ["_law_script", "_law_k"] (spCell K)) (b_law_cell_at : Binds K dc ["_law_script", "_law_k"] []) (k_law_cell_at : PySem.W.keepIn K (.ref gc) = true) (m_law_cell_at : mg "_law_cell_at" = some (.ref gc)) :
    FnOk P w K mg base CX0 3 f fd ["_law_script", "_law_k", "_law_number"] (spEdge K) := by
  refine F.ok sc_law_edge (fun vs H Q E h => ?_) (fun cdv A outer s H vs Q E hr h => ?_)
  · obtain ⟨a, ns, k, n, rfl, _⟩ := h
    rfl
  obtain ⟨a, ns, k, n, rfl, hS, h63, n0, q⟩ := h
  refine ⟨_, RSs.p (r_cons (r_st (ps_set (i := 3) sc_law_edge.nd rfl (Or.inl rfl) (pe_cut (pe_op op_sub (pe_op op_mod (pe_call G_law_cell_at hr rfl m_law_cell_at k_law_cell_at b_law_cell_at .nil pass0 (pa_cons (pv 0) (pa_cons (pv 1) pa_nil))) (pe_op op_mul pe_int (pe_op op_pow pe_int pe_int))) (pe_op op_mul pe_int (pe_op op_pow pe_int pe_int))))))
    (r_cons (r_st (ps_set (i := 4) sc_law_edge.nd rfl (Or.inl rfl) (pe_cut (pe_op op_sub (pe_op op_mod (pv 3) (pe_op op_add (pe_op op_mul pe_int (pe_op op_pow pe_int pe_int)) pe_int)) (pe_op op_pow pe_int pe_int)))))
    (r_one (r_ret (r_ixL (r_lst (ra_c (pv 4) (ra_c (pv 4) (ra_c (pv 3) (ra_c (pe_op op_pow pe_int pe_int) (ra_c (pe_un un_neg (pe_op op_pow pe_int pe_int)) (ra_c (pe_op op_add (pe_op op_pow pe_int pe_int) pe_int) (ra_c (pe_op op_sub (pe_un un_neg (pe_op op_pow pe_int pe_int)) pe_int) (ra_c (pv 4) (ra_con (vs := [.int 3, .int 0]) (by rfl))))))))))) (pe_op op_mod (pv 2) pe_int) (fun _ _ => rfl)))))), ?_⟩
  refine ⟨fun v H' => H' = H ∧ ∃ x : Int, v = .int x, ?_, ?_⟩
  · exact ⟨_, rfl, _, rfl, a, ns, _, rfl, hS, h63, fun x => ⟨_, _, rfl, rfl, ⟨by decide, by decide, by decide⟩, _, _, rfl, rfl, mulIn (by decide) (by decide), _, _, rfl, rfl, (by show (0 : Int) < 3 * 10 ^ (30 : Int).toNat; decide), _, _, rfl, rfl, ⟨by decide, by decide, by decide⟩, _, _, rfl, rfl, mulIn (by decide) (by decide), _, _, rfl, rfl, rfl, _, rfl⟩⟩
  rintro v H1 ⟨rfl, x, rfl⟩
  refine ⟨fun v H' => H' = H1 ∧ ∃ x : Int, v = .int x, ?_, ?_⟩
  · exact ⟨_, rfl, _, _, rfl, rfl, ⟨by decide, by decide, by decide⟩, _, _, rfl, rfl, mulIn (by decide) (by decide), _, _, rfl, rfl, _, _, rfl, rfl, (by show (0 : Int) < 2 * 10 ^ (30 : Int).toNat + 1; decide), _, _, rfl, rfl, ⟨by decide, by decide, by decide⟩, _, _, rfl, rfl, rfl, _, rfl⟩
  rintro v H2 ⟨rfl, y, rfl⟩
  obtain ⟨r, hv⟩ := atI_int (ns := [y, y, x, 10 ^ (30 : Int).toNat, -(10 ^ (30 : Int).toNat), 10 ^ (30 : Int).toNat + 1, -(10 ^ (30 : Int).toNat) - 1, y, 3, 0]) (i := n % 10) (by omega) (by show _ < (10 : Int); omega)
  exact ⟨_, rfl, _, rfl, _, rfl, _, _, rfl, rfl, ⟨by decide, by decide, by decide⟩, _, _, rfl, rfl, ⟨by decide, by decide, by decide⟩, _, rfl, _, _, rfl, rfl, ⟨by decide, by decide, by decide⟩, _, _, rfl, rfl, _, _, rfl, rfl, ⟨by decide, by decide, by decide⟩, _, rfl, _, _, rfl, rfl, _, rfl, small_le (by show 10 ≤ 1000; decide), fun p hp => ⟨_, rfl, _, _, rfl, rfl, (by show (0 : Int) < 10; decide), p, _, _, _, rfl, rfl, SqL.of upd_same, hv, q r _ (same_new hp _)⟩⟩
end
end K11

namespace K11
open PySem L2 Mix Gds Dds Wds Cht
section
variable {P : Program} {w : World} {K : PySem.W.Frag} {mg : Str → Option Value} {base : Heap}
theorem len1 (c : Nat) : (⟨#[c]⟩ : Str).length = 1 := rfl
theorem sc_law_text : FnScope ["_law_number", "_law_way", "_law_some", "_law_signs", "_law_at"] ["_law_number"] (defScope sTextF) := ⟨rfl, rfl, rfl, by decide +kernel, rfl, by decide +kernel, by decide +kernel⟩
theorem ok_text {f : Addr} {fd : FuncData} (F : Fun K "_law_text" "_law_text" sTextF f fd) (m_len : mg "len" = none) : FnOk P w K mg base CX0 1 f fd ["_law_number"] spText := by
  refine F.ok sc_law_text (fun vs H Q E h => ?_) (fun cdv A outer s H vs Q E hr h => ?_)
  · obtain ⟨n, rfl, _⟩ := h
    rfl
  obtain ⟨n, rfl, n0, q⟩ := h
  refine ⟨_, (pss_cons (ps_set (i := 1) sc_law_text.nd rfl (Or.inl rfl) (pe_op op_mod (pv 0) pe_int))
    (pss_cons (ps_set (i := 2) sc_law_text.nd rfl (Or.inl rfl) (pe_op op_fdiv (pv 0) pe_int))
    (pss_cons (ps_if (pt_cmpR op_lt (pv 1) pe_int (nomark _))
      (pss_one (ps_ret (pe_slice sl_str (pe_slice sl_str pe_str (po_some (pe_op op_mod (pv 2) pe_int)) po_none) po_none (po_some (pe_op op_add pe_int (pe_op op_mod (pe_op op_fdiv (pv 2) pe_int) pe_int))))))
      pss_nil)
    (pss_cons (ps_if (pt_cmpR op_eq (pv 1) pe_int (nomark _))
      (pss_one (ps_ret (pe_slice sl_str pe_str po_none (po_some (pe_op op_mod (pv 2) pe_int)))))
      pss_nil)
    (pss_cons (ps_set (i := 3) sc_law_text.nd rfl (Or.inl rfl) (pe_cut pe_str))
    (pss_cons (ps_set (i := 4) sc_law_text.nd rfl (Or.inl rfl) (pe_op op_mod (pv 2) pe_int))
    (pss_one (ps_ret (pe_op op_add_str (pe_op op_add_str (pe_slice sl_str pe_str po_none (po_some (pv 4))) (pe_ix ix_str (pv 3) (pe_op op_mod (pe_op op_fdiv (pv 2) pe_int) (pe_callB call_len_str rfl m_len PySem.boot_len (pa_cons (pv 3) pa_nil))) (fun _ _ => rfl))) (pe_slice sl_str pe_str (po_some (pv 4)) po_none)))))))))), ?_⟩
  have sl : ∀ (z : Str) (a b : Option Int) (m : Nat), z.length ≤ m → (Txt.slice z a b).length ≤ m := fun z a b m h => Nat.le_trans (Txt.slice_le _ _ _) h
  refine ⟨_, rfl, _, _, rfl, rfl, (by show (0 : Int) < 5; decide), ?_⟩
  refine ⟨_, rfl, _, _, rfl, rfl, ⟨by decide, by decide⟩, ?_⟩
  refine ⟨_, rfl, _, _, rfl, rfl, _, rfl, ?_⟩
  refine ite2 (fun _ => ?_) (fun _ => ?_)
  · have l1 := sl "bellfoxhaymow" (some (n / 5 % 3)) none 13 (by decide +kernel)
    refine ⟨_, rfl, _, _, rfl, rfl, (by show (0 : Int) < 3; decide), _, rfl, _, rfl, small_le (by decide +kernel), _, rfl, _, _, rfl, rfl, ⟨by decide, by decide⟩, _, _, rfl, rfl, (by show (0 : Int) < 12; decide), _, _, rfl, rfl, _, rfl, _, rfl, small_le (by omega), ?_⟩
    exact q _ (Nat.le_trans (sl _ _ _ 13 l1) (by decide))
  refine ⟨_, rfl, rfl, _, rfl, ?_⟩
  refine ite2 (fun _ => ?_) (fun _ => ?_)
  · refine ⟨_, rfl, _, _, rfl, rfl, (by show (0 : Int) < 15; decide), _, rfl, _, rfl, small_le (by decide +kernel), ?_⟩
    exact q _ (Nat.le_trans (sl "lampwicklampwick" none (some (n / 5 % 15)) 16 (by decide +kernel)) (by decide))
  refine ⟨fun v H' => H' = H ∧ ∃ z : Str, v = .str z ∧ 0 < z.length ∧ z.length ≤ 100, ⟨rfl, _, rfl, by decide +kernel, by decide +kernel⟩, ?_⟩
  rintro _ H' ⟨rfl, z, rfl, z0, z1⟩
  refine ⟨_, rfl, _, _, rfl, rfl, (by show (0 : Int) < 6; decide), ?_⟩
  have l1 := sl "cellar" none (some (n / 5 % 6)) 6 (by decide +kernel)
  have l2 := sl "cellar" (some (n / 5 % 6)) none 6 (by decide +kernel)
  obtain ⟨c, _, hc⟩ := atI_some (xs := z.cps.toList) (i := n / 5 / 6 % ((z.length : Nat) : Int)) (Int.emod_nonneg _ (by omega)) (by
    have e : z.cps.toList.length = z.length := by simp [Str.length]
    rw [e]
    exact Int.emod_lt_of_pos _ (by omega))
  refine ⟨_, rfl, _, rfl, _, rfl, small_le (by decide +kernel), _, rfl, _, rfl, _, _, rfl, rfl, ⟨by decide, by decide⟩, _, rfl, z, rfl, small_le (by omega), _, _, rfl, rfl, (by show (0 : Int) < ((z.length : Nat) : Int); omega), _, _, c, rfl, rfl, small_le (by omega), hc, _, _, rfl, rfl, small_le (by rw [len1]; omega), _, rfl, _, rfl, _, rfl, small_le (by decide +kernel), _, _, rfl, rfl, small_le (by rw [Str.length_append, len1]; omega), ?_⟩
  refine q _ ?_
  rw [Str.length_append, Str.length_append, len1]
  omega
end
end K11

namespace K11
open PySem L2 Mix Gds Dds Wds Cht
/-! guards: leaves, what is within, heights, faults -/
def fitN (g : Gd) : Prop := g.fit
def spLeaf (K : PySem.W.Frag) : Sp := fun vs H Q _ => ∃ (a : Addr) (ns : List Int) (k n nb nr : Int), vs = [.ref a, .int k, .int n, .int nb, .int nr] ∧ SqL K H a (ns.map V.int) ∧ ns.length ≤ 63 ∧ 0 ≤ n ∧ (0 ≤ nb ∧ nb ≤ 60) ∧ (0 ≤ nr ∧ nr ≤ 60) ∧
  ∀ (v : V) (g : Gd) (H' : Hp), Same H H' → GdIn H' v g → g.ht = 1 → g.lv = 1 → g.fit → Q v H'
def spInner : Sp := fun vs H Q _ => ∃ (vg : V) (g : Gd), vs = [vg] ∧ GdIn H vg g ∧ ∀ (p : Addr) (us : List V) (H' : Hp), Same H H' → H p = none → H' p = some (.lst us) → Ins H' us g.inner → Q (.ref p) H'
def spHt (n : Nat) : Sp := fun vs H Q _ => ∃ (vg : V) (g : Gd), vs = [vg] ∧ GdIn H vg g ∧ g.ht ≤ n ∧ ∀ H', Same H H' → Q (.int (g.ht : Int)) H'
def spBG (n : Nat) : Sp := fun vs H Q _ => ∃ (vg : V) (g : Gd) (nb nr : Nat), vs = [vg, .int (nb : Int), .int (nr : Int)] ∧ GdIn H vg g ∧ g.ht ≤ n ∧ ∀ H', Same H H' → Q (.bl (badGd nb nr g)) H'
def isR : V → Bool
  | .ref _ => true
  | _ => false
theorem cut1 (xs : List V) (h : 1 ≤ xs.length) : cutV xs (some 1) none = xs.drop 1 := cutFrom xs (k := 0) h
theorem gd_tail {H : Hp} {v : V} {g : Gd} (x : GdIn H v g) : ∃ (a : Addr) (xs : List V), v = .ref a ∧ H a = some (.tup xs) ∧ 1 ≤ xs.length ∧ xs.length ≤ 3 ∧ (∀ u ∈ xs.drop 1, (∃ i : Int, u = .int i) ∨ ∃ (b : Addr) (ys : List V), u = .ref b ∧ H b = some (.tup ys)) ∧ Ins H ((xs.drop 1).filter isR) g.inner := by
  have tp : ∀ {v : V} {g : Gd}, GdIn H v g → ∃ (b : Addr) (ys : List V), v = .ref b ∧ H b = some (.tup ys) := fun x => by
    cases x with
    | yes e => exact ⟨_, _, rfl, e⟩
    | is e => exact ⟨_, _, rfl, e⟩
    | under e => exact ⟨_, _, rfl, e⟩
    | inn e => exact ⟨_, _, rfl, e⟩
    | neg e _ => exact ⟨_, _, rfl, e⟩
    | both e _ _ => exact ⟨_, _, rfl, e⟩
    | either e _ _ => exact ⟨_, _, rfl, e⟩
  cases x with
  | yes e => exact ⟨_, _, rfl, e, (by show 1 ≤ 1; decide), (by show 1 ≤ 3; decide), fun u hu => (by cases hu), .nil⟩
  | is e =>
    refine ⟨_, _, rfl, e, (by show 1 ≤ 3; decide), (by show 3 ≤ 3; decide), fun u hu => .inl ?_, .nil⟩
    rcases List.mem_cons.mp hu with rfl | hu
    · exact ⟨_, rfl⟩
    · rw [List.mem_singleton.mp hu]
      exact ⟨_, rfl⟩
  | under e =>
    refine ⟨_, _, rfl, e, (by show 1 ≤ 3; decide), (by show 3 ≤ 3; decide), fun u hu => .inl ?_, .nil⟩
    rcases List.mem_cons.mp hu with rfl | hu
    · exact ⟨_, rfl⟩
    · rw [List.mem_singleton.mp hu]
      exact ⟨_, rfl⟩
  | inn e =>
    refine ⟨_, _, rfl, e, (by show 1 ≤ 2; decide), (by show 2 ≤ 3; decide), fun u hu => .inl ?_, .nil⟩
    rw [List.mem_singleton.mp hu]
    exact ⟨_, rfl⟩
  | @neg a v1 g1 e h1 =>
    obtain ⟨b, ys, rfl, hb⟩ := tp h1
    refine ⟨_, _, rfl, e, (by show 1 ≤ 2; decide), (by show 2 ≤ 3; decide), fun u hu => .inr ?_, .cons h1 .nil⟩
    rw [List.mem_singleton.mp hu]
    exact ⟨_, _, rfl, hb⟩
  | @both a v1 u1 g1 k1 e h1 h2 =>
    obtain ⟨b, ys, rfl, hb⟩ := tp h1
    obtain ⟨c, zs, rfl, hc⟩ := tp h2
    refine ⟨_, _, rfl, e, (by show 1 ≤ 3; decide), (by show 3 ≤ 3; decide), fun u hu => .inr ?_, .cons h1 (.cons h2 .nil)⟩
    rcases List.mem_cons.mp hu with rfl | hu
    · exact ⟨_, _, rfl, hb⟩
    · rw [List.mem_singleton.mp hu]
      exact ⟨_, _, rfl, hc⟩
  | @either a v1 u1 g1 k1 e h1 h2 =>
    obtain ⟨b, ys, rfl, hb⟩ := tp h1
    obtain ⟨c, zs, rfl, hc⟩ := tp h2
    refine ⟨_, _, rfl, e, (by show 1 ≤ 3; decide), (by show 3 ≤ 3; decide), fun u hu => .inr ?_, .cons h1 (.cons h2 .nil)⟩
    rcases List.mem_cons.mp hu with rfl | hu
    · exact ⟨_, _, rfl, hb⟩
    · rw [List.mem_singleton.mp hu]
      exact ⟨_, _, rfl, hc⟩
def rIsi (K : PySem.W.Frag) : List V → Hp → VK → Prop := fun xs H Q => ∃ (x : V) (T : String) (t : Value) (b : Bool), xs = [x, .ty T] ∧ TyOf K H x t ∧ PySem.W.kitOne K t (.type T) = some b ∧ Q (.bl b) H
theorem kit_it (K : PySem.W.Frag) : PySem.W.kitOne K (.type "int") (.type "tuple") = some false := by rfl
theorem mx_inner (g : Gd) (ns : List Int) (h : ns = 0 :: g.inner.map fun k : Gd => (k.ht : Int)) : 1 + ns.getD (argBest (fun i j => decide (ns.getD i 0 > ns.getD j 0)) (ns.length - 1)) 0 = (g.ht : Int) := by
  subst h
  have two : ∀ a b : Nat, 1 ≤ a → 1 ≤ b → 1 + ([0, (a : Int), (b : Int)] : List Int).getD (argBest (fun i j => decide (([0, (a : Int), (b : Int)] : List Int).getD i 0 > ([0, (a : Int), (b : Int)] : List Int).getD j 0)) 2) 0 = ((1 + max a b : Nat) : Int) := fun a b ha hb => by
    have e1 : argBest (fun i j => decide (([0, (a : Int), (b : Int)] : List Int).getD i 0 > ([0, (a : Int), (b : Int)] : List Int).getD j 0)) 1 = 1 := by
      show (if decide ((a : Int) > 0) = true then 1 else 0) = 1
      rw [if_pos (decide_eq_true (by omega))]
    have e2 : argBest (fun i j => decide (([0, (a : Int), (b : Int)] : List Int).getD i 0 > ([0, (a : Int), (b : Int)] : List Int).getD j 0)) 2 = if (b : Int) > (a : Int) then 2 else 1 := by
      show (if decide (([0, (a : Int), (b : Int)] : List Int).getD 2 0 > ([0, (a : Int), (b : Int)] : List Int).getD (argBest _ 1) 0) = true then 2 else argBest _ 1) = _
      rw [e1]
      show (if decide ((b : Int) > (a : Int)) = true then 2 else 1) = _
      by_cases h : (b : Int) > (a : Int)
      · rw [if_pos h, if_pos (decide_eq_true h)]
      · rw [if_neg h, if_neg (by rw [decide_eq_false h]; decide)]
    rw [e2]
    by_cases h : (b : Int) > (a : Int)
    · rw [if_pos h]
      show 1 + (b : Int) = _
      omega
    · rw [if_neg h]
      show 1 + (a : Int) = _
      omega
  cases g with
  | neg g =>
    have := g.ht_pos
    show 1 + ([0, (g.ht : Int)] : List Int).getD (if decide ((g.ht : Int) > 0) = true then 1 else 0) 0 = ((g.ht + 1 : Nat) : Int)
    rw [if_pos (decide_eq_true (by omega))]
    show 1 + (g.ht : Int) = _
    omega
  | both g h => exact two g.ht h.ht g.ht_pos h.ht_pos
  | either g h => exact two g.ht h.ht g.ht_pos h.ht_pos
  | _ => rfl
theorem inner_lt {g k : Gd} (h : k ∈ g.inner) : k.ht + 1 ≤ g.ht := by
  cases g with
  | neg g =>
    rw [List.mem_singleton.mp (show k ∈ [g] from h)]
    exact Nat.le_refl _
  | both g j =>
    rcases List.mem_cons.mp (show k ∈ [g, j] from h) with e | e
    · rw [e]
      show g.ht + 1 ≤ 1 + max g.ht j.ht
      omega
    · rw [List.mem_singleton.mp e]
      show j.ht + 1 ≤ 1 + max g.ht j.ht
      omega
  | either g j =>
    rcases List.mem_cons.mp (show k ∈ [g, j] from h) with e | e
    · rw [e]
      show g.ht + 1 ≤ 1 + max g.ht j.ht
      omega
    · rw [List.mem_singleton.mp e]
      show j.ht + 1 ≤ 1 + max g.ht j.ht
      omega
  | _ => cases h
theorem inner_few (g : Gd) : g.inner.length ≤ 2 := by cases g <;> simp [Gd.inner]
section
variable {P : Program} {w : World} {K : PySem.W.Frag} {mg : Str → Option Value} {base : Heap}
theorem sc_law_leaf : FnScope ["_law_script", "_law_k", "_law_number", "_law_boxes", "_law_rooms_here", "_law_some"] ["_law_script", "_law_k", "_law_number", "_law_boxes", "_law_rooms_here"] (defScope sLeafF) := ⟨rfl, rfl, rfl, by decide +kernel, rfl, by decide +kernel, by decide +kernel⟩
theorem ok_leaf {f ga ge : Addr} {fd da de : FuncData} (F : Fun K "_law_leaf" "_law_leaf" sLeafF f fd) (G_law_around : FnOk P w K mg base CX0 3 ga da ["_law_number", "_law_many"] spAround) (b_law_around : Binds K da ["_law_number", "_law_many"] []) (k_law_around : PySem.W.keepIn K (.ref ga) = true) (m_law_around : mg "_law_around" = some (.ref ga))
    (G_law_edge : FnOk P w K mg base CX0 3 ge de ["_law_script", "_law_k", "_law_number"] (spEdge K)) (b_law_edge : Binds K de ["_law_script", "_law_k", "_law_number"] []) (k_law_edge : PySem.W.keepIn K (.ref ge) = true) (m_law_edge : mg "_law_edge" = some (.ref ge)) :
    FnOk P w K mg base CX0 4 f fd ["_law_script", "_law_k", "_law_number", "_law_boxes", "_law_rooms_here"] (spLeaf K) := by
  refine F.ok sc_law_leaf (fun vs H Q E h => ?_) (fun cdv A outer s H vs Q E hr h => ?_)
  · obtain ⟨a, ns, k, n, nb, nr, rfl, _⟩ := h
    rfl
  obtain ⟨a, ns, k, n, nb, nr, rfl, hS, h63, n0, ⟨nb0, nb1⟩, ⟨nr0, nr1⟩, q⟩ := h
  refine ⟨_, (pss_cons (ps_set (i := 5) sc_law_leaf.nd rfl (Or.inl rfl) (pe_op op_fdiv (pv 2) pe_int))
    (pss_cons (ps_if (pt_cmpR op_eq (pe_op op_mod (pv 2) pe_int) pe_int (nomark _))
      (pss_one (ps_ret (pe_tup (pa_cons pe_str (pa_cons (pe_call G_law_around hr rfl m_law_around k_law_around b_law_around .nil pass0 (pa_cons (pv 5) (pa_cons (pv 3) pa_nil))) (pa_cons (pe_call G_law_edge hr rfl m_law_edge k_law_edge b_law_edge .nil pass0 (pa_cons (pv 0) (pa_cons (pv 1) (pa_cons (pe_op op_fdiv (pv 5) pe_int) pa_nil)))) pa_nil))))))
      pss_nil)
    (pss_cons (ps_if (pt_cmpR op_eq (pe_op op_mod (pv 2) pe_int) pe_int (nomark _))
      (pss_one (ps_ret (pe_tup (pa_cons pe_str (pa_cons (pe_call G_law_around hr rfl m_law_around k_law_around b_law_around .nil pass0 (pa_cons (pv 5) (pa_cons (pv 3) pa_nil))) (pa_cons (pe_call G_law_edge hr rfl m_law_edge k_law_edge b_law_edge .nil pass0 (pa_cons (pv 0) (pa_cons (pv 1) (pa_cons (pe_op op_fdiv (pv 5) pe_int) pa_nil)))) pa_nil))))))
      pss_nil)
    (pss_cons (ps_if (pt_cmpR op_eq (pe_op op_mod (pv 2) pe_int) pe_int (nomark _))
      (pss_one (ps_ret (pe_tup (pa_cons pe_str (pa_cons (pe_call G_law_around hr rfl m_law_around k_law_around b_law_around .nil pass0 (pa_cons (pv 5) (pa_cons (pv 4) pa_nil))) pa_nil)))))
      pss_nil)
    (pss_one (ps_ret (pe_tup (pa_cons pe_str pa_nil)))))))), ?_⟩
  have d0 : 0 ≤ n / 4 := by omega
  have d1 : 0 ≤ n / 4 / 90 := by omega
  have f0 : ∀ m ∈ ([] : List Int), -1 ≤ m ∧ m < ((62 : Nat) : Int) := fun m hm => by cases hm
  have f1 : ∀ b : Int, -1 ≤ b → b ≤ 60 → ∀ m ∈ [b], -1 ≤ m ∧ m < ((62 : Nat) : Int) := fun b h1 h2 m hm => by
    rw [List.mem_singleton.mp hm]
    omega
  refine ⟨_, rfl, _, _, rfl, rfl, ⟨by decide, by decide⟩, ?_⟩
  refine ⟨_, rfl, _, _, rfl, rfl, (by show (0 : Int) < 4; decide), rfl, _, rfl, ?_⟩
  refine ite2 (fun _ => ?_) (fun _ => ?_)
  · exact ⟨_, rfl, _, rfl, _, _, rfl, d0, ⟨nb0, nb1⟩, fun b b0 b1 => ⟨_, rfl, _, rfl, _, rfl, _, _, rfl, rfl, ⟨by decide, by decide⟩, a, ns, _, _, rfl, hS, h63, d1, fun r H1 s1 => ⟨small_le (by show 3 ≤ 1000; decide), fun t ht => q _ (.is b r) _ (s1.trans (same_new ht _)) (.is upd_same) rfl rfl ⟨f1 b b0 (by omega), f0⟩⟩⟩⟩
  refine ⟨_, rfl, _, _, rfl, rfl, (by show (0 : Int) < 4; decide), rfl, _, rfl, ?_⟩
  refine ite2 (fun _ => ?_) (fun _ => ?_)
  · exact ⟨_, rfl, _, rfl, _, _, rfl, d0, ⟨nb0, nb1⟩, fun b b0 b1 => ⟨_, rfl, _, rfl, _, rfl, _, _, rfl, rfl, ⟨by decide, by decide⟩, a, ns, _, _, rfl, hS, h63, d1, fun r H1 s1 => ⟨small_le (by show 3 ≤ 1000; decide), fun t ht => q _ (.under b r) _ (s1.trans (same_new ht _)) (.under upd_same) rfl rfl ⟨f1 b b0 (by omega), f0⟩⟩⟩⟩
  refine ⟨_, rfl, _, _, rfl, rfl, (by show (0 : Int) < 4; decide), rfl, _, rfl, ?_⟩
  refine ite2 (fun _ => ?_) (fun _ => ?_)
  · exact ⟨_, rfl, _, rfl, _, _, rfl, d0, ⟨nr0, nr1⟩, fun b b0 b1 => ⟨small_le (by show 2 ≤ 1000; decide), fun t ht => q _ (.inn b) _ (same_new ht _) (.inn upd_same) rfl rfl ⟨f0, f1 b b0 (by omega)⟩⟩⟩
  · exact ⟨small_le (by show 1 ≤ 1000; decide), fun t ht => q _ .yes _ (same_new ht _) (.yes upd_same) rfl rfl ⟨f0, f0⟩⟩
theorem sc_law_inner : FnScope ["_law_guard_here"] ["_law_guard_here"] (defScope sInnerF) := ⟨rfl, rfl, rfl, by decide +kernel, rfl, by decide +kernel, by decide +kernel⟩
theorem ok_inner {f : Addr} {fd : FuncData} (F : Fun K "_law_inner" "_law_inner" sInnerF f fd) (m_isinstance : mg "isinstance" = none) (m_tuple : mg "tuple" = none) : FnOk P w K mg base CX0 1 f fd ["_law_guard_here"] spInner := by
  refine F.ok sc_law_inner (fun vs H Q E h => ?_) (fun cdv A outer s H vs Q E hr h => ?_)
  · obtain ⟨vg, g, rfl, _⟩ := h
    rfl
  obtain ⟨vg, g, rfl, hg, q⟩ := h
  refine ⟨_, (pss_one (ps_ret (pe_comp (caps := []) rfl (show CompSc (defScope sInnerF) ["_law_guard_here"] _ _ _ from ⟨rfl, rfl, by decide +kernel, by decide +kernel, by decide +kernel, by decide +kernel, by decide +kernel⟩) (pi_tup (pe_slice sl_tup (pv 0) (po_some pe_int) po_none)) (fun _ _ _ _ _ _ => pifs_one (pt_val (pe_callB (r := rIsi K) call_isinst rfl m_isinstance PyProof.Rows.boot_isinstance (pa_cons (pv 0) (pa_cons (pe_bltn (v := .ty "tuple") rfl m_tuple PyProof.Rows.boot_tuple rfl) pa_nil))))) (fun _ _ _ _ _ _ => (pv 0))))), ?_⟩
  obtain ⟨a, xs, rfl, ha, l1, l3, hk, hI⟩ := gd_tail hg
  refine ⟨_, rfl, _, rfl, a, xs, rfl, SqT.of ha, ?_, fun p1 hp1 => ?_⟩
  · rw [show (1 : Int) = ((1 : Nat) : Int) from rfl, HT.sIx_nat]
    omega
  have s1 := same_new hp1 (.tup (cutV xs (some 1) none))
  have h1 : upd H p1 (.tup (cutV xs (some 1) none)) p1 = some (.tup (xs.drop 1)) := by rw [upd_same, cut1 _ l1]
  refine ⟨p1, rfl, ⟨_, SqT.of h1⟩, ?_⟩
  refine comp_tup (K := K) (a := p1) (xs := xs.drop 1) (fun i acc H' => H' = upd H p1 (.tup (cutV xs (some 1) none)) ∧ acc = ((xs.drop 1).take i).filter isR) ⟨rfl, rfl⟩ (fun i acc H' ⟨e, _⟩ => by subst e; exact SqT.of h1) (fun i x acc H' hx ⟨e1, e2⟩ => ?_) (fun acc H' ⟨e1, e2⟩ p hp => ?_)
  · subst e1 e2
    have st : ∀ b : Bool, isR x = b → ((xs.drop 1).take (i + 1)).filter isR = ((xs.drop 1).take i).filter isR ++ (if b = true then [x] else []) := fun b hb => by
      rw [List.take_add_one, hx, List.filter_append]
      congr 1
      show [x].filter isR = _
      rw [List.filter_cons, hb]
      cases b <;> rfl
    rcases hk x (List.mem_of_getElem? hx) with ⟨j, rfl⟩ | ⟨b, ys, rfl, hb⟩
    · refine ⟨_, rfl, _, "tuple", _, false, rfl, .int j, kit_it K, _, rfl, ifF rfl ⟨rfl, ?_⟩⟩
      rw [st false rfl]
      simp
    · refine ⟨_, rfl, _, "tuple", _, true, rfl, .tup (s1 _ _ hb), kit_tt K, _, rfl, ifT rfl ⟨_, rfl, ?_, rfl, ?_⟩⟩
      · have l := List.length_filter_le isR ((xs.drop 1).take i)
        rw [List.length_take, List.length_drop] at l
        exact small1000 (by omega)
      · rw [st true rfl]
        rfl
  · subst e1 e2
    rw [List.take_length]
    exact q p _ _ (s1.trans (same_new hp _)) (s1.free hp) upd_same (hI.mono (KeepT.of (s1.trans (same_new hp _))))
end
end K11

namespace K11
open PySem L2 Mix Gds Dds Wds Cht
def spBadDeed : Sp := fun vs H Q _ => ∃ (v : V) (tb te : Addr) (d : Dd) (bv : List V) (bs : List Bx) (es : List Str), vs = [v, .ref tb, .ref te] ∧ DdIn H v d ∧ (∀ z, d = .say z → z.length ≤ 1000) ∧ H tb = some (.tup bv) ∧ BxsIn H bv bs ∧ H te = some (.tup (es.map V.str)) ∧ Q (.bl (badDeed bs es.length d)) H
def spBadDeeds : Sp := fun vs H Q _ => ∃ (v : V) (tb te : Addr) (ds : List Dd) (bv : List V) (bs : List Bx) (es : List Str), vs = [v, .ref tb, .ref te] ∧ DtIn H v ds ∧ ds.length ≤ 60 ∧ (∀ d ∈ ds, ∀ z, d = .say z → z.length ≤ 1000) ∧ H tb = some (.tup bv) ∧ BxsIn H bv bs ∧ H te = some (.tup (es.map V.str)) ∧ ∀ H', Same H H' → Q (.bl (badDeeds bs es.length ds)) H'
theorem badGd_inner (nb nr : Nat) (g : Gd) (h : g.inner ≠ []) : badGd nb nr g = g.inner.any (badGd nb nr) := by
  cases g with
  | neg g => simp [badGd, Gd.inner]
  | both g j => simp [badGd, Gd.inner]
  | either g j => simp [badGd, Gd.inner]
  | _ => exact absurd rfl h
section
variable {P : Program} {w : World} {K : PySem.W.Frag} {mg : Str → Option Value} {base : Heap}
theorem sc_law_height : FnScope ["_law_guard_here"] ["_law_guard_here"] (defScope sHeightF) := ⟨rfl, rfl, rfl, by decide +kernel, rfl, by decide +kernel, by decide +kernel⟩
theorem ok_ht {n : Nat} {f gi : Addr} {fd di : FuncData} (F : Fun K "_law_height" "_law_height" sHeightF f fd) (G_law_height : FnOk P w K mg base CX0 (n + 1) f fd ["_law_guard_here"] (spHt n)) (b_law_height : Binds K fd ["_law_guard_here"] []) (k_law_height : PySem.W.keepIn K (.ref f) = true) (m_law_height : mg "_law_height" = some (.ref f))
    (G_law_inner : FnOk P w K mg base CX0 (n + 1) gi di ["_law_guard_here"] spInner) (b_law_inner : Binds K di ["_law_guard_here"] []) (k_law_inner : PySem.W.keepIn K (.ref gi) = true) (m_law_inner : mg "_law_inner" = some (.ref gi)) (m_max : mg "max" = none) :
    FnOk P w K mg base CX0 (n + 2) f fd ["_law_guard_here"] (spHt (n + 1)) := by
  refine F.ok sc_law_height (fun vs H Q E h => ?_) (fun cdv A outer s H vs Q E hr h => ?_)
  · obtain ⟨vg, g, rfl, _⟩ := h
    rfl
  obtain ⟨vg, g, rfl, hg, hht, q⟩ := h
  refine ⟨_, (pss_one (ps_ret (pe_op op_add pe_int (pe_callB (call_maxG rfl) rfl m_max PyProof.Rows.boot_max (pa_cons (pe_op op_cat (pe_lst (pa_cons pe_int pa_nil)) (pe_comp (caps := []) rfl (show CompSc (defScope sHeightF) ["_law_guard_here"] _ _ _ from ⟨rfl, rfl, by decide +kernel, by decide +kernel, by decide +kernel, by decide +kernel, by decide +kernel⟩) (pi_list (pe_call G_law_inner hr rfl m_law_inner k_law_inner b_law_inner .nil pass0 (pa_cons (pv 0) pa_nil))) (fun _ _ _ _ _ _ => pifs_nil) (fun _ _ _ _ _ _ => (pe_call G_law_height hr rfl m_law_height k_law_height b_law_height .nil pass0 (pa_cons (pv 0) pa_nil))))) pa_nil))))), ?_⟩
  refine ⟨small_le (by show 1 ≤ 1000; decide), fun p hp => ?_⟩
  have s1 := same_new hp (.lst [.int 0])
  refine ⟨_, rfl, vg, g, rfl, hg.mono (KeepT.of s1), fun pi us H2 s2 hpi h2 hI => ⟨pi, rfl, ⟨_, SqL.of h2⟩, ?_⟩⟩
  have lu := hI.length
  have few := inner_few g
  refine comp_list (K := K) (a := pi) (xs := us) (fun i acc H' => Same H2 H' ∧ acc = ((g.inner.take i).map fun k : Gd => (k.ht : Int)).map V.int) ⟨Same.refl _, rfl⟩ (fun i acc H' ⟨s3, _⟩ => SqL.of (s3 _ _ h2)) (fun i x acc H' hx ⟨s3, e2⟩ => ?_) (fun acc H' ⟨s3, e2⟩ p3 hp3 => ?_)
  · subst e2
    obtain ⟨k, hk, hgk⟩ := hI.get hx
    have := inner_lt (List.mem_of_getElem? hk)
    refine ⟨_, rfl, x, k, rfl, hgk.mono (KeepT.of s3), by omega, fun H4 s4 => ⟨small1000 (by rw [List.length_map, List.length_map, List.length_take]; omega), s3.trans s4, ?_⟩⟩
    rw [List.take_add_one, hk, List.map_append, List.map_append]
    rfl
  · subst e2
    rw [List.take_of_length_le (by omega)]
    have s5 := same_new hp3 (.lst ((g.inner.map fun k : Gd => (k.ht : Int)).map V.int))
    have sA := (s2.trans s3).trans s5
    refine ⟨p, p3, _, _, rfl, rfl, sA _ _ upd_same, upd_same, small_le (by rw [List.length_map, List.length_map]; show 1 + _ ≤ 1000; omega), fun p4 hp4 => ?_⟩
    refine ⟨p4, 0 :: g.inner.map fun k : Gd => (k.ht : Int), rfl, SqL.of upd_same, by simp, _, _, rfl, rfl, ?_⟩
    have z := q _ ((s1.trans sA).trans (same_new hp4 (.lst ([.int 0] ++ (g.inner.map fun k : Gd => (k.ht : Int)).map V.int))))
    rw [← mx_inner g _ rfl] at z
    exact z
theorem none_ht {f : Addr} {fd : FuncData} : FnOk P w K mg base CX0 1 f fd ["_law_guard_here"] (spHt 0) := by
  have no : ∀ vs H Q E, ¬ spHt 0 vs H Q E := fun vs H Q E h => by
    obtain ⟨vg, g, _, _, h2, _⟩ := h
    have := g.ht_pos
    omega
  exact ⟨fun vs H Q E h => absurd h (no vs H Q E), fun A outer s H args us vs Q E _ _ _ _ h => absurd h (no vs H Q E)⟩
theorem all_ht {f gi : Addr} {fd di : FuncData} (F : Fun K "_law_height" "_law_height" sHeightF f fd) (b_law_height : Binds K fd ["_law_guard_here"] []) (m_law_height : mg "_law_height" = some (.ref f)) (G_law_inner : FnOk P w K mg base CX0 1 gi di ["_law_guard_here"] spInner) (b_law_inner : Binds K di ["_law_guard_here"] []) (k_law_inner : PySem.W.keepIn K (.ref gi) = true) (m_law_inner : mg "_law_inner" = some (.ref gi)) (m_max : mg "max" = none) :
    ∀ n : Nat, FnOk P w K mg base CX0 (n + 1) f fd ["_law_guard_here"] (spHt n)
  | 0 => none_ht
  | n + 1 => ok_ht F (all_ht F b_law_height m_law_height G_law_inner b_law_inner k_law_inner m_law_inner m_max n) b_law_height F.kp m_law_height (G_law_inner.mono (show 1 ≤ n + 1 by omega)) b_law_inner k_law_inner m_law_inner m_max
theorem sc_law_bad_guard : FnScope ["_law_guard_here", "_law_boxes", "_law_rooms_here", "_law_part"] ["_law_guard_here", "_law_boxes", "_law_rooms_here"] (defScope sBadGuard) := ⟨rfl, rfl, rfl, by decide +kernel, rfl, by decide +kernel, by decide +kernel⟩
theorem ok_bg {n : Nat} {f gi : Addr} {fd di : FuncData} (F : Fun K "_law_bad_guard" "_law_bad_guard" sBadGuard f fd) (G_law_bad_guard : FnOk P w K mg base CX0 (n + 1) f fd ["_law_guard_here", "_law_boxes", "_law_rooms_here"] (spBG n)) (b_law_bad_guard : Binds K fd ["_law_guard_here", "_law_boxes", "_law_rooms_here"] []) (k_law_bad_guard : PySem.W.keepIn K (.ref f) = true) (m_law_bad_guard : mg "_law_bad_guard" = some (.ref f))
    (G_law_inner : FnOk P w K mg base CX0 (n + 1) gi di ["_law_guard_here"] spInner) (b_law_inner : Binds K di ["_law_guard_here"] []) (k_law_inner : PySem.W.keepIn K (.ref gi) = true) (m_law_inner : mg "_law_inner" = some (.ref gi)) :
    FnOk P w K mg base CX0 (n + 2) f fd ["_law_guard_here", "_law_boxes", "_law_rooms_here"] (spBG (n + 1)) := by
  refine F.ok sc_law_bad_guard (fun vs H Q E h => ?_) (fun cdv A outer s H vs Q E hr h => ?_)
  · obtain ⟨vg, g, nb, nr, rfl, _⟩ := h
    rfl
  obtain ⟨vg, g, nb, nr, rfl, hg, hht, q⟩ := h
  refine ⟨_, (pss_cut (ps_for PassesOwn.never rfl (pi_list (pe_call G_law_inner hr rfl m_law_inner k_law_inner b_law_inner .nil pass0 (pa_cons (pv 0) pa_nil))) (pg_name (i := 3) sc_law_bad_guard.nd rfl (Or.inl rfl))
      (pss_one (ps_if (pt_val (pe_call G_law_bad_guard hr rfl m_law_bad_guard k_law_bad_guard b_law_bad_guard .nil pass0 (pa_cons (pv 3) (pa_cons (pv 1) (pa_cons (pv 2) pa_nil)))))
        (pss_one (ps_ret pe_bl))
        pss_nil)))
    (pss_cons (ps_if (pt_cmpR op_eq (pe_ix ix_tup (pv 0) pe_int (fun _ _ => rfl)) pe_str (nomark _))
      (pss_one (ps_ret (pe_not (pe_chV op_le op_lt pe_int (pe_ix ix_tup (pv 0) pe_int (fun _ _ => rfl)) (pv 2)))))
      pss_nil)
    (pss_cons (ps_if (pt_cut (PW.pt (pw_or (pt_cmpR op_eq (pe_ix ix_tup (pv 0) pe_int (fun _ _ => rfl)) pe_str (nomark _)) (pw_or1 (pt_cmpR op_eq (pe_ix ix_tup (pv 0) pe_int (fun _ _ => rfl)) pe_str (nomark _))))))
      (pss_one (ps_ret (pe_or (pe_not (pe_chV op_le op_lt pe_int (pe_ix ix_tup (pv 0) pe_int (fun _ _ => rfl)) (pv 1))) (pe_one (pe_not (pe_chV op_le op_le (pe_un un_neg (pe_op op_pow pe_int pe_int)) (pe_ix ix_tup (pv 0) pe_int (fun _ _ => rfl)) (pe_op op_pow pe_int pe_int)))))))
      pss_nil)
    (pss_one (ps_ret pe_bl))))), ?_⟩
  refine ⟨fun σ' H' => Same H H' ∧ (g.inner ≠ [] → badGd nb nr g = false) ∧ ∃ o3 : Option V, σ' = [some vg, some (.int (nb : Int)), some (.int (nr : Int)), o3], ?_, ?_⟩
  · refine ⟨_, rfl, vg, g, rfl, hg, fun pi us H2 s2 hpi h2 hI => ⟨pi, rfl, ⟨_, SqL.of h2⟩, ?_⟩⟩
    have lu := hI.length
    refine for_list (K := K) (a := pi) (xs := us) (fun i σ' H' => Same H2 H' ∧ (∀ (j : Nat) (k : Gd), j < i → g.inner[j]? = some k → badGd nb nr k = false) ∧ ∃ o3 : Option V, σ' = [some vg, some (.int (nb : Int)), some (.int (nr : Int)), o3]) ⟨Same.refl _, fun j k h => by omega, none, rfl⟩ (fun i σ' H' _ ⟨s3, _⟩ => SqL.of (s3 _ _ h2)) ?_ ?_
    · rintro i x σ' H' hx ⟨s3, hall, o3, rfl⟩
      obtain ⟨k, hk, hgk⟩ := hI.get hx
      have hmem := List.mem_of_getElem? hk
      have := inner_lt hmem
      refine ⟨_, rfl, _, rfl, _, rfl, x, k, nb, nr, rfl, hgk.mono (KeepT.of s3), by omega, fun H4 s4 => ⟨_, rfl, ?_⟩⟩
      refine itB (fun c => ?_) (fun c => ?_)
      · have e : badGd nb nr g = true := by
          rw [badGd_inner nb nr g (fun z => by rw [z] at hmem; cases hmem), List.any_eq_true]
          exact ⟨k, hmem, c⟩
        have z := q H4 ((s2.trans s3).trans s4)
        rw [e] at z
        exact z
      · refine ⟨s3.trans s4, fun j k' hj hk' => ?_, _, rfl⟩
        by_cases e : j = i
        · subst e
          rw [hk] at hk'
          cases hk'
          exact c
        · exact hall j k' (by omega) hk'
    · rintro σ' H' ⟨s3, hall, o3, rfl⟩
      refine ⟨s2.trans s3, fun hne => ?_, o3, rfl⟩
      rw [badGd_inner nb nr g hne, List.any_eq_false]
      intro k hk
      obtain ⟨j, hj⟩ := List.mem_iff_getElem?.mp hk
      rw [hall j k (by have := (List.getElem?_eq_some_iff.mp hj).1; omega) hj]
      decide
  rintro σ' H' ⟨s1, hin, o3, rfl⟩
  have q' := q H' s1
  have hg' := hg.mono (KeepT.of s1)
  cases hg' with
  | @yes a e => exact ⟨_, rfl, a, _, _, _, rfl, rfl, SqT.of e, rfl, rfl, _, rfl, strNe (by decide +kernel) ⟨fun c H2 => H2 = H' ∧ c = false, ⟨_, rfl, a, _, _, _, rfl, rfl, SqT.of e, rfl, rfl, _, rfl, strNe (by decide +kernel) ⟨_, rfl, a, _, _, _, rfl, rfl, SqT.of e, rfl, rfl, _, rfl, rfl, decide_eq_false (by decide +kernel)⟩⟩, fun c H2 ⟨e1, e2⟩ => by subst e1 e2; exact ifF rfl q'⟩⟩
  | @is a b m e =>
    refine ⟨_, rfl, a, _, _, _, rfl, rfl, SqT.of e, rfl, rfl, _, rfl, strNe (by decide +kernel) ⟨fun c H2 => H2 = H' ∧ c = true, ⟨_, rfl, a, _, _, _, rfl, rfl, SqT.of e, rfl, rfl, _, rfl, strEq ⟨rfl, rfl⟩⟩, fun c H2 ⟨e1, e2⟩ => ?_⟩⟩
    subst e1 e2
    refine ifT rfl ⟨_, rfl, a, _, _, _, rfl, rfl, SqT.of e, rfl, _, _, _, rfl, rfl, ⟨_, rfl, rfl, rfl⟩, _, rfl, _, rfl, ?_⟩
    have eb : badGd nb nr (.is b m) = (!(decide (0 ≤ b) && decide (b < (nb : Int))) || !(decide (-big ≤ m) && decide (m ≤ big))) := rfl
    rw [eb] at q'
    refine itB (fun c => ?_) (fun c => ?_)
    · rw [c, Bool.true_or] at q'
      exact q'
    · rw [c, Bool.false_or] at q'
      exact ⟨_, _, rfl, rfl, ⟨by decide, by decide, by decide⟩, _, rfl, _, rfl, a, _, _, _, rfl, rfl, SqT.of e, rfl, _, _, big, rfl, rfl, ⟨_, _, rfl, rfl, ⟨by decide, by decide, by decide⟩, rfl, rfl⟩, _, rfl, q'⟩
  | @under a b m e =>
    refine ⟨_, rfl, a, _, _, _, rfl, rfl, SqT.of e, rfl, rfl, _, rfl, strNe (by decide +kernel) ⟨fun c H2 => H2 = H' ∧ c = true, ⟨_, rfl, a, _, _, _, rfl, rfl, SqT.of e, rfl, rfl, _, rfl, strNe (by decide +kernel) ⟨_, rfl, a, _, _, _, rfl, rfl, SqT.of e, rfl, rfl, _, rfl, rfl, decide_eq_true rfl⟩⟩, fun c H2 ⟨e1, e2⟩ => ?_⟩⟩
    subst e1 e2
    refine ifT rfl ⟨_, rfl, a, _, _, _, rfl, rfl, SqT.of e, rfl, _, _, _, rfl, rfl, ⟨_, rfl, rfl, rfl⟩, _, rfl, _, rfl, ?_⟩
    have eb : badGd nb nr (.under b m) = (!(decide (0 ≤ b) && decide (b < (nb : Int))) || !(decide (-big ≤ m) && decide (m ≤ big))) := rfl
    rw [eb] at q'
    refine itB (fun c => ?_) (fun c => ?_)
    · rw [c, Bool.true_or] at q'
      exact q'
    · rw [c, Bool.false_or] at q'
      exact ⟨_, _, rfl, rfl, ⟨by decide, by decide, by decide⟩, _, rfl, _, rfl, a, _, _, _, rfl, rfl, SqT.of e, rfl, _, _, big, rfl, rfl, ⟨_, _, rfl, rfl, ⟨by decide, by decide, by decide⟩, rfl, rfl⟩, _, rfl, q'⟩
  | @inn a r e => exact ⟨_, rfl, a, _, _, _, rfl, rfl, SqT.of e, rfl, rfl, _, rfl, strEq ⟨_, rfl, a, _, _, _, rfl, rfl, SqT.of e, rfl, _, _, _, rfl, rfl, ⟨_, rfl, rfl, rfl⟩, _, rfl, q'⟩⟩
  | @neg a v1 g1 e h1 =>
    rw [hin (by simp [Gd.inner])] at q'
    exact ⟨_, rfl, a, _, _, _, rfl, rfl, SqT.of e, rfl, rfl, _, rfl, strNe (by decide +kernel) ⟨fun c H2 => H2 = H' ∧ c = false, ⟨_, rfl, a, _, _, _, rfl, rfl, SqT.of e, rfl, rfl, _, rfl, strNe (by decide +kernel) ⟨_, rfl, a, _, _, _, rfl, rfl, SqT.of e, rfl, rfl, _, rfl, rfl, decide_eq_false (by decide +kernel)⟩⟩, fun c H2 ⟨e1, e2⟩ => by subst e1 e2; exact ifF rfl q'⟩⟩
  | @both a v1 u1 g1 k1 e h1 h2 =>
    rw [hin (by simp [Gd.inner])] at q'
    exact ⟨_, rfl, a, _, _, _, rfl, rfl, SqT.of e, rfl, rfl, _, rfl, strNe (by decide +kernel) ⟨fun c H2 => H2 = H' ∧ c = false, ⟨_, rfl, a, _, _, _, rfl, rfl, SqT.of e, rfl, rfl, _, rfl, strNe (by decide +kernel) ⟨_, rfl, a, _, _, _, rfl, rfl, SqT.of e, rfl, rfl, _, rfl, rfl, decide_eq_false (by decide +kernel)⟩⟩, fun c H2 ⟨e1, e2⟩ => by subst e1 e2; exact ifF rfl q'⟩⟩
  | @either a v1 u1 g1 k1 e h1 h2 =>
    rw [hin (by simp [Gd.inner])] at q'
    exact ⟨_, rfl, a, _, _, _, rfl, rfl, SqT.of e, rfl, rfl, _, rfl, strNe (by decide +kernel) ⟨fun c H2 => H2 = H' ∧ c = false, ⟨_, rfl, a, _, _, _, rfl, rfl, SqT.of e, rfl, rfl, _, rfl, strNe (by decide +kernel) ⟨_, rfl, a, _, _, _, rfl, rfl, SqT.of e, rfl, rfl, _, rfl, rfl, decide_eq_false (by decide +kernel)⟩⟩, fun c H2 ⟨e1, e2⟩ => by subst e1 e2; exact ifF rfl q'⟩⟩
theorem none_bg {f : Addr} {fd : FuncData} : FnOk P w K mg base CX0 1 f fd ["_law_guard_here", "_law_boxes", "_law_rooms_here"] (spBG 0) := by
  have no : ∀ vs H Q E, ¬ spBG 0 vs H Q E := fun vs H Q E h => by
    obtain ⟨vg, g, _, _, _, _, h2, _⟩ := h
    have := g.ht_pos
    omega
  exact ⟨fun vs H Q E h => absurd h (no vs H Q E), fun A outer s H args us vs Q E _ _ _ _ h => absurd h (no vs H Q E)⟩
theorem all_bg {f gi : Addr} {fd di : FuncData} (F : Fun K "_law_bad_guard" "_law_bad_guard" sBadGuard f fd) (b_law_bad_guard : Binds K fd ["_law_guard_here", "_law_boxes", "_law_rooms_here"] []) (m_law_bad_guard : mg "_law_bad_guard" = some (.ref f)) (G_law_inner : FnOk P w K mg base CX0 1 gi di ["_law_guard_here"] spInner) (b_law_inner : Binds K di ["_law_guard_here"] []) (k_law_inner : PySem.W.keepIn K (.ref gi) = true) (m_law_inner : mg "_law_inner" = some (.ref gi)) :
    ∀ n : Nat, FnOk P w K mg base CX0 (n + 1) f fd ["_law_guard_here", "_law_boxes", "_law_rooms_here"] (spBG n)
  | 0 => none_bg
  | n + 1 => ok_bg F (all_bg F b_law_bad_guard m_law_bad_guard G_law_inner b_law_inner k_law_inner m_law_inner n) b_law_bad_guard F.kp m_law_bad_guard (G_law_inner.mono (show 1 ≤ n + 1 by omega)) b_law_inner k_law_inner m_law_inner
end
end K11

namespace K11
open PySem L2 Mix Gds Dds Wds Cht
section
variable {P : Program} {w : World} {K : PySem.W.Frag} {mg : Str → Option Value} {base : Heap}
theorem sc_law_bad_deed : FnScope ["_law_deed_here", "_law_boxes", "_law_events"] ["_law_deed_here", "_law_boxes", "_law_events"] (defScope sBadDeed) := ⟨rfl, rfl, rfl, by decide +kernel, rfl, by decide +kernel, by decide +kernel⟩
theorem ok_bad_deed {f gw : Addr} {fd dw : FuncData} (F : Fun K "_law_bad_deed" "_law_bad_deed" sBadDeed f fd) (G_law_word : FnOk P w K mg base CX0 1 gw dw ["_law_text_here"] spWordF) (b_law_word : Binds K dw ["_law_text_here"] []) (k_law_word : PySem.W.keepIn K (.ref gw) = true) (m_law_word : mg "_law_word" = some (.ref gw)) (m_len : mg "len" = none) :
    FnOk P w K mg base CX0 2 f fd ["_law_deed_here", "_law_boxes", "_law_events"] spBadDeed := by
  refine F.ok sc_law_bad_deed (fun vs H Q E h => ?_) (fun cdv A outer s H vs Q E hr h => ?_)
  · obtain ⟨v, tb, te, d, bv, bs, es, rfl, _⟩ := h
    rfl
  obtain ⟨v, tb, te, d, bv, bs, es, rfl, hd, hok, htb, hbs, hte, q⟩ := h
  refine ⟨_, (pss_cons (ps_if (pt_cmpR op_eq (pe_ix ix_tup (pv 0) pe_int (fun _ _ => rfl)) pe_str (nomark _))
      (pss_one (ps_ret (pe_not (pe_call G_law_word hr rfl m_law_word k_law_word b_law_word .nil pass0 (pa_cons (pe_ix ix_tup (pv 0) pe_int (fun _ _ => rfl)) pa_nil)))))
      pss_nil)
    (pss_cons (ps_if (pt_cmpR op_eq (pe_ix ix_tup (pv 0) pe_int (fun _ _ => rfl)) pe_str (nomark _))
      (pss_one (ps_ret (pe_not (pe_chV op_le op_lt pe_int (pe_ix ix_tup (pv 0) pe_int (fun _ _ => rfl)) (pe_callB call_len_seq rfl m_len PySem.boot_len (pa_cons (pv 2) pa_nil))))))
      pss_nil)
    (pss_cons (ps_if (pt_not (pt_chV op_le op_lt pe_int (pe_ix ix_tup (pv 0) pe_int (fun _ _ => rfl)) (pe_callB call_len_seq rfl m_len PySem.boot_len (pa_cons (pv 1) pa_nil))))
      (pss_one (ps_ret pe_bl))
      pss_nil)
    (pss_cons (ps_if (pt_cmpR op_eq (pe_ix ix_tup (pv 0) pe_int (fun _ _ => rfl)) pe_str (nomark _))
      (pss_one (ps_ret (pe_not (pe_chV op_le op_lt pe_int (pe_ix ix_tup (pv 0) pe_int (fun _ _ => rfl)) (pe_ix ix_tup (pe_ix ix_tup (pv 1) (pe_ix ix_tup (pv 0) pe_int (fun _ _ => rfl)) (fun _ _ => rfl)) pe_int (fun _ _ => rfl))))))
      pss_nil)
    (pss_one (ps_ret (pe_not (pe_chV op_le op_le (pe_un un_neg (pe_op op_pow pe_int pe_int)) (pe_ix ix_tup (pv 0) pe_int (fun _ _ => rfl)) (pe_op op_pow pe_int pe_int))))))))), ?_⟩
  have hbl := hbs.length
  have hel : (es.map V.str).length = es.length := List.length_map _
  cases hd with
  | @say a z e =>
    refine ⟨_, rfl, a, _, _, _, rfl, rfl, SqT.of e, rfl, rfl, _, rfl, strEq ?_⟩
    exact ⟨_, rfl, a, _, _, _, rfl, rfl, SqT.of e, rfl, z, rfl, hok z rfl, _, rfl, q⟩
  | @send a i e =>
    refine ⟨_, rfl, a, _, _, _, rfl, rfl, SqT.of e, rfl, rfl, _, rfl, strNe (by decide +kernel) ?_⟩
    refine ⟨_, rfl, a, _, _, _, rfl, rfl, SqT.of e, rfl, rfl, _, rfl, strEq ?_⟩
    exact ⟨_, rfl, a, _, _, _, rfl, rfl, SqT.of e, rfl, _, _, (es.length : Int), rfl, rfl, ⟨_, rfl, te, _, rfl, .inr (SqT.of hte), by rw [hel], rfl⟩, _, rfl, q⟩
  | @set a b n e =>
    refine ⟨_, rfl, a, _, _, _, rfl, rfl, SqT.of e, rfl, rfl, _, rfl, strNe (by decide +kernel) ?_⟩
    refine ⟨_, rfl, a, _, _, _, rfl, rfl, SqT.of e, rfl, rfl, _, rfl, strNe (by decide +kernel) ?_⟩
    refine ⟨_, rfl, a, _, _, _, rfl, rfl, SqT.of e, rfl, _, _, (bs.length : Int), rfl, rfl, ⟨_, rfl, tb, _, rfl, .inr (SqT.of htb), by rw [hbl], rfl⟩, _, rfl, ?_⟩
    have eb : badDeed bs es.length (.set b n) = (!(decide (0 ≤ b) && decide (b < (bs.length : Int))) || !(decide (0 ≤ n) && decide (n < (bs.map (·.size)).getD b.toNat 0))) := rfl
    rw [eb] at q
    refine itB (fun c => ?_) (fun c => ?_)
    · rw [c, Bool.true_or] at q
      exact q
    rw [c, Bool.false_or] at q
    refine ⟨_, rfl, a, _, _, _, rfl, rfl, SqT.of e, rfl, rfl, _, rfl, strEq ?_⟩
    have c' : (decide (0 ≤ b) && decide (b < (bs.length : Int))) = true := by simpa using c
    rw [Bool.and_eq_true, decide_eq_true_iff, decide_eq_true_iff] at c'
    have hk : b.toNat < bs.length := by omega
    have er := List.getElem?_eq_getElem hk
    obtain ⟨v2, hv2, a2, rfl, ha2⟩ := hbs.get er
    have hat : atI bv b = some (.ref a2) := by
      have z := atI_nat hv2
      rw [Int.toNat_of_nonneg c'.1] at z
      exact z
    have em : (bs.map (·.size)).getD b.toNat 0 = bs[b.toNat].size := by
      rw [List.getD_eq_getElem?_getD, List.getElem?_map, er]
      rfl
    rw [em] at q
    exact ⟨_, rfl, a, _, _, _, rfl, rfl, SqT.of e, rfl, _, _, _, rfl, rfl, ⟨_, rfl, _, rfl, a, _, _, _, rfl, rfl, SqT.of e, rfl, tb, _, _, _, rfl, rfl, SqT.of htb, hat, a2, _, _, _, rfl, rfl, SqT.of ha2, rfl, rfl, rfl⟩, _, rfl, q⟩
  | @add a b n e =>
    refine ⟨_, rfl, a, _, _, _, rfl, rfl, SqT.of e, rfl, rfl, _, rfl, strNe (by decide +kernel) ?_⟩
    refine ⟨_, rfl, a, _, _, _, rfl, rfl, SqT.of e, rfl, rfl, _, rfl, strNe (by decide +kernel) ?_⟩
    refine ⟨_, rfl, a, _, _, _, rfl, rfl, SqT.of e, rfl, _, _, (bs.length : Int), rfl, rfl, ⟨_, rfl, tb, _, rfl, .inr (SqT.of htb), by rw [hbl], rfl⟩, _, rfl, ?_⟩
    have eb : badDeed bs es.length (.add b n) = (!(decide (0 ≤ b) && decide (b < (bs.length : Int))) || !(decide (-big ≤ n) && decide (n ≤ big))) := rfl
    rw [eb] at q
    refine itB (fun c => ?_) (fun c => ?_)
    · rw [c, Bool.true_or] at q
      exact q
    rw [c, Bool.false_or] at q
    refine ⟨_, rfl, a, _, _, _, rfl, rfl, SqT.of e, rfl, rfl, _, rfl, strNe (by decide +kernel) ?_⟩
    exact ⟨_, _, rfl, rfl, ⟨by decide, by decide, by decide⟩, _, rfl, _, rfl, a, _, _, _, rfl, rfl, SqT.of e, rfl, _, _, big, rfl, rfl, ⟨_, _, rfl, rfl, ⟨by decide, by decide, by decide⟩, rfl, rfl⟩, _, rfl, q⟩
theorem sc_law_bad_deeds : FnScope ["_law_deeds_here", "_law_boxes", "_law_events"] ["_law_deeds_here", "_law_boxes", "_law_events"] (defScope sBadDeeds) := ⟨rfl, rfl, rfl, by decide +kernel, rfl, by decide +kernel, by decide +kernel⟩
theorem ok_bad_deeds {f gd : Addr} {fd dd : FuncData} (F : Fun K "_law_bad_deeds" "_law_bad_deeds" sBadDeeds f fd) (G_law_bad_deed : FnOk P w K mg base CX0 2 gd dd ["_law_deed_here", "_law_boxes", "_law_events"] spBadDeed) (b_law_bad_deed : Binds K dd ["_law_deed_here", "_law_boxes", "_law_events"] []) (k_law_bad_deed : PySem.W.keepIn K (.ref gd) = true) (m_law_bad_deed : mg "_law_bad_deed" = some (.ref gd)) (m_len : mg "len" = none) (m_any : mg "any" = none) :
    FnOk P w K mg base CX0 3 f fd ["_law_deeds_here", "_law_boxes", "_law_events"] spBadDeeds := by
  refine F.ok sc_law_bad_deeds (fun vs H Q E h => ?_) (fun cdv A outer s H vs Q E hr h => ?_)
  · obtain ⟨v, tb, te, ds, bv, bs, es, rfl, _⟩ := h
    rfl
  obtain ⟨v, tb, te, ds, bv, bs, es, rfl, ⟨td, dv, rfl, htd, hds⟩, d60, dok, htb, hbs, hte, q⟩ := h
  refine ⟨_, (pss_one (ps_ret (pe_or (pe_cmpR op_gt (pe_callB call_len_seq rfl m_len PySem.boot_len (pa_cons (pv 0) pa_nil)) pe_int (nomark _)) (pe_one (pe_callB (call_anyB rfl) rfl m_any PyProof.Rows.boot_any (pa_cons (pe_comp (caps := [(1, "_law_boxes"), (2, "_law_events")]) rfl (show CompSc (defScope sBadDeeds) ["_law_deeds_here", "_law_boxes", "_law_events"] _ _ _ from ⟨rfl, rfl, by decide +kernel, by decide +kernel, by decide +kernel, by decide +kernel, by decide +kernel⟩) (pi_tup (pv 0)) (fun _ _ _ _ _ _ => pifs_nil) (fun _ _ _ _ _ _ => (pe_call G_law_bad_deed hr rfl m_law_bad_deed k_law_bad_deed b_law_bad_deed .nil pass0 (pa_cons (pv 0) (pa_cons (pv 1) (pa_cons (pv 2) pa_nil)))))) pa_nil)))))), ?_⟩
  have hl := hds.length
  have ec : decide ((8 : Int) < (dv.length : Int)) = decide (8 < ds.length) := decide_eq_decide.mpr (by omega)
  refine ⟨_, rfl, td, _, rfl, .inr (SqT.of htd), _, _, rfl, rfl, _, rfl, ?_⟩
  refine itB (fun c => ?_) (fun c => ?_)
  · have q' := q H (Same.refl _)
    unfold badDeeds at q'
    rw [← ec, c, Bool.true_or] at q'
    exact q'
  refine ⟨_, rfl, td, rfl, ⟨_, SqT.of htd⟩, ?_⟩
  refine comp_tup (K := K) (a := td) (xs := dv) (fun i acc H' => H' = H ∧ acc = ((ds.take i).map (badDeed bs es.length)).map V.bl) ⟨rfl, rfl⟩ (fun i acc H' ⟨e, _⟩ => by subst e; exact SqT.of htd) (fun i x acc H' hx ⟨e1, e2⟩ => ?_) (fun acc H' ⟨e1, e2⟩ p hp => ?_)
  · subst e1 e2
    have hi : i < ds.length := by
      have := (List.getElem?_eq_some_iff.mp hx).1
      omega
    have ed := List.getElem?_eq_getElem hi
    obtain ⟨v, hv, hd⟩ := hds.get ed
    rw [hv] at hx
    obtain rfl : v = x := Option.some.inj hx
    refine ⟨_, rfl, _, rfl, _, rfl, v, tb, te, ds[i], bv, bs, es, rfl, hd, dok _ (List.getElem_mem hi), htb, hbs, hte, small1000 ?_, rfl, ?_⟩
    · rw [List.length_map, List.length_map, List.length_take]
      omega
    · rw [List.take_add_one, ed, List.map_append, List.map_append]
      rfl
  · subst e1 e2
    rw [hl, List.take_length]
    refine ⟨p, _, rfl, SqL.of upd_same, ?_⟩
    have q' := q _ (same_new hp (.lst ((ds.map (badDeed bs es.length)).map V.bl)))
    unfold badDeeds at q'
    rw [← ec, c, Bool.false_or] at q'
    rw [List.any_map]
    exact q'
end
end K11

namespace K11
open PySem L2 Mix Gds Dds Wds Cht
def okS (d : Dd) : Prop := ∀ z, d = .say z → z.length ≤ 1000
def spDeed (K : PySem.W.Frag) : Sp := fun vs H Q _ => ∃ (a tb te : Addr) (ns : List Int) (k salt : Int) (bv : List V) (bs : List Bx) (es : List Str), vs = [.ref a, .int k, .int salt, .ref tb, .ref te] ∧ SqL K H a (ns.map V.int) ∧ ns.length ≤ 63 ∧ (0 ≤ k ∧ k ≤ 1000) ∧ (0 ≤ salt ∧ salt ≤ 500) ∧ H tb = some (.tup bv) ∧ BxsIn H bv bs ∧ bs.length ≤ 60 ∧ H te = some (.tup (es.map V.str)) ∧ es.length ≤ 60 ∧
  ∀ (v : V) (d : Dd) (H' : Hp), Same H H' → DdIn H' v d → okS d → Q v H'
def spDeeds (K : PySem.W.Frag) : Sp := fun vs H Q _ => ∃ (a tb te : Addr) (ns : List Int) (k salt : Int) (bv : List V) (bs : List Bx) (es : List Str), vs = [.ref a, .int k, .int salt, .ref tb, .ref te] ∧ SqL K H a (ns.map V.int) ∧ ns.length ≤ 63 ∧ (0 ≤ k ∧ k ≤ 1000) ∧ (0 ≤ salt ∧ salt ≤ 100) ∧ H tb = some (.tup bv) ∧ BxsIn H bv bs ∧ bs.length ≤ 60 ∧ H te = some (.tup (es.map V.str)) ∧ es.length ≤ 60 ∧
  ∀ (v : V) (ds : List Dd) (H' : Hp), Same H H' → DtIn H' v ds → ds.length ≤ 9 → (∀ d ∈ ds, okS d) → Q v H'
theorem okS_no {d : Dd} (h : ∀ z, d ≠ .say z) : okS d := fun z e => absurd e (h z)
section
variable {P : Program} {w : World} {K : PySem.W.Frag} {mg : Str → Option Value} {base : Heap}
theorem sc_law_deed : FnScope ["_law_script", "_law_k", "_law_salt", "_law_boxes", "_law_events", "_law_number", "_law_some", "_law_b", "_law_size", "_law_edge_here"] ["_law_script", "_law_k", "_law_salt", "_law_boxes", "_law_events"] (defScope sDeedF) := ⟨rfl, rfl, rfl, by decide +kernel, rfl, by decide +kernel, by decide +kernel⟩
theorem ok_deed {f gc gm gt ga ge : Addr} {fd dc dm dt da de : FuncData} (F : Fun K "_law_deed" "_law_deed" sDeedF f fd) (G_law_cell_at : FnOk P w K mg base CX0 3 gc dc ["_law_script", "_law_k"] (spCell K)) (b_law_cell_at : Binds K dc ["_law_script", "_law_k"] []) (k_law_cell_at : PySem.W.keepIn K (.ref gc) = true) (m_law_cell_at : mg "_law_cell_at" = some (.ref gc))
    (G_law_mixed : FnOk P w K mg base CX0 3 gm dm ["_law_script", "_law_k", "_law_salt"] (spMixed K)) (b_law_mixed : Binds K dm ["_law_script", "_law_k", "_law_salt"] []) (k_law_mixed : PySem.W.keepIn K (.ref gm) = true) (m_law_mixed : mg "_law_mixed" = some (.ref gm))
    (G_law_text : FnOk P w K mg base CX0 3 gt dt ["_law_number"] spText) (b_law_text : Binds K dt ["_law_number"] []) (k_law_text : PySem.W.keepIn K (.ref gt) = true) (m_law_text : mg "_law_text" = some (.ref gt))
    (G_law_around : FnOk P w K mg base CX0 3 ga da ["_law_number", "_law_many"] spAround) (b_law_around : Binds K da ["_law_number", "_law_many"] []) (k_law_around : PySem.W.keepIn K (.ref ga) = true) (m_law_around : mg "_law_around" = some (.ref ga))
    (G_law_edge : FnOk P w K mg base CX0 3 ge de ["_law_script", "_law_k", "_law_number"] (spEdge K)) (b_law_edge : Binds K de ["_law_script", "_law_k", "_law_number"] []) (k_law_edge : PySem.W.keepIn K (.ref ge) = true) (m_law_edge : mg "_law_edge" = some (.ref ge))
    (m_len : mg "len" = none) (m_max : mg "max" = none) : FnOk P w K mg base CX0 4 f fd ["_law_script", "_law_k", "_law_salt", "_law_boxes", "_law_events"] (spDeed K) := by
  refine F.ok sc_law_deed (fun vs H Q E h => ?_) (fun cdv A outer s H vs Q E hr h => ?_)
  · obtain ⟨a, tb, te, ns, k, salt, bv, bs, es, rfl, _⟩ := h
    rfl
  obtain ⟨a, tb, te, ns, k, salt, bv, bs, es, rfl, hS, h63, ⟨k0, k1⟩, ⟨t0, t1⟩, htb, hbs, b60, hte, e60, q⟩ := h
  refine ⟨_, RSs.p (r_cons (r_st (ps_set (i := 5) sc_law_deed.nd rfl (Or.inl rfl) (pe_call G_law_mixed hr rfl m_law_mixed k_law_mixed b_law_mixed .nil pass0 (pa_cons (pv 0) (pa_cons (pv 1) (pa_cons (pv 2) pa_nil))))))
    (r_cons (r_st (ps_set (i := 6) sc_law_deed.nd rfl (Or.inl rfl) (pe_op op_fdiv (pv 5) pe_int)))
    (r_cons (r_st (ps_if (pt_cmpR op_eq (pe_op op_mod (pv 5) pe_int) pe_int (nomark _))
      (pss_one (ps_ret (pe_tup (pa_cons pe_str (pa_cons (pe_call G_law_text hr rfl m_law_text k_law_text b_law_text .nil pass0 (pa_cons (pv 6) pa_nil)) pa_nil)))))
      pss_nil))
    (r_cons (r_st (ps_if (pt_cmpR op_eq (pe_op op_mod (pv 5) pe_int) pe_int (nomark _))
      (pss_one (ps_ret (pe_tup (pa_cons pe_str (pa_cons (pe_call G_law_around hr rfl m_law_around k_law_around b_law_around .nil pass0 (pa_cons (pv 6) (pa_cons (pe_callB call_len_seq rfl m_len PySem.boot_len (pa_cons (pv 4) pa_nil)) pa_nil))) pa_nil)))))
      pss_nil))
    (r_cons (r_st (ps_set (i := 7) sc_law_deed.nd rfl (Or.inl rfl) (pe_call G_law_around hr rfl m_law_around k_law_around b_law_around .nil pass0 (pa_cons (pv 6) (pa_cons (pe_callB call_len_seq rfl m_len PySem.boot_len (pa_cons (pv 3) pa_nil)) pa_nil)))))
    (r_cons (r_st (ps_if (pt_cmpR op_eq (pe_op op_mod (pv 5) pe_int) pe_int (nomark _))
      (pss_one (ps_ret (pe_tup (pa_cons pe_str (pa_cons (pv 7) (pa_cons (pe_call G_law_edge hr rfl m_law_edge k_law_edge b_law_edge .nil pass0 (pa_cons (pv 0) (pa_cons (pv 1) (pa_cons (pe_op op_fdiv (pv 6) pe_int) pa_nil)))) pa_nil))))))
      pss_nil))
    (r_cons (r_st (ps_set (i := 8) sc_law_deed.nd rfl (Or.inl rfl) pe_int))
    (r_cut (r_st (ps_if (pt_chV op_le op_lt pe_int (pv 7) (pe_callB call_len_seq rfl m_len PySem.boot_len (pa_cons (pv 3) pa_nil)))
      (pss_one (ps_set (i := 8) sc_law_deed.nd rfl (Or.inl rfl) (pe_callB (call_max2 rfl) rfl m_max PyProof.Rows.boot_max (pa_cons pe_int (pa_cons (pe_ix ix_tup (pe_ix ix_tup (pv 3) (pv 7) (fun _ _ => rfl)) pe_int (fun _ _ => rfl)) pa_nil)))))
      pss_nil))
    (r_cons (r_set (i := 9) sc_law_deed.nd rfl (Or.inl rfl) (r_lst (ra_c (pe_op op_mod (pv 6) (pv 8)) (ra_c (pe_op op_mod (pe_op op_add (pe_call G_law_cell_at hr rfl m_law_cell_at k_law_cell_at b_law_cell_at .nil pass0 (pa_cons (pv 0) (pa_cons (pv 1) pa_nil))) (pv 6)) (pv 8)) (ra_c pe_int (ra_c (pe_op op_sub (pv 8) pe_int) (ra_c (pv 8) (ra_con (vs := [.int (-1)]) (by rfl)))))))))
    (r_one (r_st (ps_ret (pe_tup (pa_cons pe_str (pa_cons (pv 7) (pa_cons (pe_ix ix_list (pv 9) (pe_op op_mod (pe_op op_fdiv (pv 6) pe_int) pe_int) (fun _ _ => rfl)) pa_nil)))))))))))))))), ?_⟩
  have hbl := hbs.length
  have hel : (es.map V.str).length = es.length := List.length_map _
  refine ⟨_, rfl, _, rfl, _, rfl, a, ns, k, salt, rfl, hS, h63, ⟨by omega, by omega⟩, ⟨by omega, by omega⟩, fun x x0 x1 => ?_⟩
  have d0 : 0 ≤ x / 4 := by omega
  refine ⟨_, rfl, _, _, rfl, rfl, ⟨by decide, by decide⟩, ?_⟩
  refine ⟨_, rfl, _, _, rfl, rfl, (by show (0 : Int) < 4; decide), rfl, _, rfl, ?_⟩
  refine ite2 (fun _ => ?_) (fun _ => ?_)
  · refine ⟨_, rfl, _, rfl, d0, fun z hz => ⟨small_le (by show 2 ≤ 1000; decide), fun t ht => q _ (.say z) _ (same_new ht _) (.say upd_same) fun z' e => ?_⟩⟩
    cases e
    omega
  refine ⟨_, rfl, _, _, rfl, rfl, (by show (0 : Int) < 4; decide), rfl, _, rfl, ?_⟩
  refine ite2 (fun _ => ?_) (fun _ => ?_)
  · exact ⟨_, rfl, _, rfl, te, _, rfl, .inr (SqT.of hte), _, _, rfl, d0, ⟨by omega, by omega⟩, fun r r0 r1 => ⟨small_le (by show 2 ≤ 1000; decide), fun t ht => q _ (.send r) _ (same_new ht _) (.send upd_same) (okS_no fun z e => by cases e)⟩⟩
  refine ⟨_, rfl, _, rfl, tb, _, rfl, .inr (SqT.of htb), _, _, rfl, d0, ⟨by omega, by omega⟩, fun b b0 b1 => ?_⟩
  refine ⟨_, rfl, _, _, rfl, rfl, (by show (0 : Int) < 4; decide), rfl, _, rfl, ?_⟩
  refine ite2 (fun _ => ?_) (fun _ => ?_)
  · exact ⟨_, rfl, _, rfl, _, rfl, _, rfl, _, _, rfl, rfl, ⟨by decide, by decide⟩, a, ns, _, _, rfl, hS, h63, by omega, fun r H1 s1 => ⟨small_le (by show 3 ≤ 1000; decide), fun t ht => q _ (.add b r) _ (s1.trans (same_new ht _)) (.add upd_same) (okS_no fun z e => by cases e)⟩⟩
  refine ⟨fun σ' H' => H' = H ∧ ∃ sz : Int, 0 < sz ∧ σ' = [some (.ref a), some (.int k), some (.int salt), some (.ref tb), some (.ref te), some (.int x), some (.int (x / 4)), some (.int b), some (.int sz), none], ?_, ?_⟩
  · refine ⟨_, rfl, _, _, (bv.length : Int), rfl, rfl, ⟨_, rfl, tb, _, rfl, .inr (SqT.of htb), rfl, rfl⟩, _, rfl, ?_⟩
    refine itB (fun c => ?_) (fun c => ⟨rfl, 5, by decide, rfl⟩)
    rw [Bool.and_eq_true, decide_eq_true_iff, decide_eq_true_iff] at c
    have hk : b.toNat < bs.length := by omega
    obtain ⟨v2, hv2, a2, rfl, ha2⟩ := hbs.get (List.getElem?_eq_getElem hk)
    have hat : atI bv b = some (.ref a2) := by
      have z := atI_nat hv2
      rw [Int.toNat_of_nonneg c.1] at z
      exact z
    refine ⟨_, rfl, _, rfl, tb, _, _, _, rfl, rfl, SqT.of htb, hat, a2, _, _, _, rfl, rfl, SqT.of ha2, rfl, _, _, rfl, rfl, _, ?_, rfl⟩
    split <;> omega
  rintro σ1 H1 ⟨rfl, sz, sz0, rfl⟩
  refine ⟨_, rfl, _, rfl, _, _, rfl, rfl, sz0, _, rfl, _, rfl, a, ns, _, rfl, hS, h63, fun v => ?_⟩
  obtain ⟨r, hv⟩ := atI_int (ns := [x / 4 % sz, (v + x / 4) % sz, 0, sz - 1, sz, -1]) (i := x / 4 / 90 % 6) (by omega) (by show _ < (6 : Int); omega)
  exact ⟨_, rfl, _, _, rfl, rfl, _, rfl, _, _, rfl, rfl, sz0, _, rfl, _, _, rfl, rfl, _, rfl, small_le (by show 6 ≤ 1000; decide), fun p hp => ⟨_, rfl, _, rfl, _, rfl, _, _, rfl, rfl, ⟨by decide, by decide⟩, _, _, rfl, rfl, (by show (0 : Int) < 6; decide), p, _, _, _, rfl, rfl, SqL.of upd_same, hv, small_le (by show 3 ≤ 1000; decide), fun t ht => q _ (.set b r) _ ((same_new hp _).trans (same_new ht _)) (.set upd_same) (okS_no fun z e => by cases e)⟩⟩
theorem sc_law_deeds : FnScope ["_law_script", "_law_k", "_law_salt", "_law_boxes", "_law_events", "_law_number", "_law_many", "_law_deeds_here", "_law_j", "_law_deed_here"] ["_law_script", "_law_k", "_law_salt", "_law_boxes", "_law_events"] (defScope sDeedsF) := ⟨rfl, rfl, rfl, by decide +kernel, rfl, by decide +kernel, by decide +kernel⟩
theorem ok_deeds {f gm gd gb : Addr} {fd dm dd db : FuncData} (F : Fun K "_law_deeds" "_law_deeds" sDeedsF f fd)
    (G_law_mixed : FnOk P w K mg base CX0 4 gm dm ["_law_script", "_law_k", "_law_salt"] (spMixed K)) (b_law_mixed : Binds K dm ["_law_script", "_law_k", "_law_salt"] []) (k_law_mixed : PySem.W.keepIn K (.ref gm) = true) (m_law_mixed : mg "_law_mixed" = some (.ref gm))
    (G_law_deed : FnOk P w K mg base CX0 4 gd dd ["_law_script", "_law_k", "_law_salt", "_law_boxes", "_law_events"] (spDeed K)) (b_law_deed : Binds K dd ["_law_script", "_law_k", "_law_salt", "_law_boxes", "_law_events"] []) (k_law_deed : PySem.W.keepIn K (.ref gd) = true) (m_law_deed : mg "_law_deed" = some (.ref gd))
    (G_law_bad_deed : FnOk P w K mg base CX0 4 gb db ["_law_deed_here", "_law_boxes", "_law_events"] spBadDeed) (b_law_bad_deed : Binds K db ["_law_deed_here", "_law_boxes", "_law_events"] []) (k_law_bad_deed : PySem.W.keepIn K (.ref gb) = true) (m_law_bad_deed : mg "_law_bad_deed" = some (.ref gb))
    (m_range : mg "range" = none) (m_tuple : mg "tuple" = none) : FnOk P w K mg base CX0 5 f fd ["_law_script", "_law_k", "_law_salt", "_law_boxes", "_law_events"] (spDeeds K) := by
  refine F.ok sc_law_deeds (fun vs H Q E h => ?_) (fun cdv A outer s H vs Q E hr h => ?_)
  · obtain ⟨a, tb, te, ns, k, salt, bv, bs, es, rfl, _⟩ := h
    rfl
  obtain ⟨a, tb, te, ns, k, salt, bv, bs, es, rfl, hS, h63, ⟨k0, k1⟩, ⟨t0, t1⟩, htb, hbs, b60, hte, e60, q⟩ := h
  refine ⟨_, RSs.p (r_cons (r_st (ps_set (i := 5) sc_law_deeds.nd rfl (Or.inl rfl) (pe_call G_law_mixed hr rfl m_law_mixed k_law_mixed b_law_mixed .nil pass0 (pa_cons (pv 0) (pa_cons (pv 1) (pa_cons (pv 2) pa_nil))))))
    (r_cons (r_set (i := 6) sc_law_deeds.nd rfl (Or.inl rfl) (r_ixL (r_lst (ra_c pe_int (ra_c pe_int (ra_c pe_int (ra_c pe_int (ra_c pe_int (ra_c pe_int (ra_c pe_int (ra_c pe_int (ra_c (pe_op op_add pe_int (pe_op op_mod (pe_op op_fdiv (pv 5) pe_int) pe_int)) (ra_con (vs := []) (by rfl)))))))))))) (pe_op op_mod (pv 5) pe_int) (fun _ _ => rfl)))
    (r_cons (r_st (ps_set (i := 7) sc_law_deeds.nd rfl (Or.inl rfl) (pe_lst pa_nil)))
    (r_cut (r_st (ps_for PassesOwn.never rfl (pi_range1 rfl m_range (pa_cons (pv 6) pa_nil)) (pg_name (i := 8) sc_law_deeds.nd rfl (Or.inl rfl))
      (pss_cons (ps_set (i := 9) sc_law_deeds.nd rfl (Or.inl rfl) (pe_call G_law_deed hr rfl m_law_deed k_law_deed b_law_deed .nil pass0 (pa_cons (pv 0) (pa_cons (pv 1) (pa_cons (pe_op op_add (pe_op op_add (pv 2) pe_int) (pv 8)) (pa_cons (pv 3) (pa_cons (pv 4) pa_nil)))))))
      (pss_cut (ps_if (pt_cut (PW.pt (pw_and (pt_cmpR op_gt (pe_op op_mod (pe_op op_fdiv (pv 5) pe_int) pe_int) pe_int (nomark _)) (pw_and1 (pt_val (pe_call G_law_bad_deed hr rfl m_law_bad_deed k_law_bad_deed b_law_bad_deed .nil pass0 (pa_cons (pv 9) (pa_cons (pv 3) (pa_cons (pv 4) pa_nil)))))))))
        (pss_one (ps_set (i := 9) sc_law_deeds.nd rfl (Or.inl rfl) (pe_tup (pa_cons pe_str (pa_cons pe_str pa_nil)))))
        pss_nil)
      (pss_one (ps_expr (pe_bm PySem.F.plainAttrs_list PySem.F.slot_list_append PySem.F.type_list_append mt_append (pv 7) (pa_cons (pv 9) pa_nil))))))))
    (r_one (r_st (ps_ret (pe_callTy call_tuple_of rfl m_tuple PyProof.Rows.boot_tuple (pa_cons (pv 7) pa_nil))))))))), ?_⟩
  refine ⟨_, rfl, _, rfl, _, rfl, a, ns, k, salt, rfl, hS, h63, ⟨by omega, by omega⟩, ⟨by omega, by omega⟩, fun x x0 x1 => ?_⟩
  obtain ⟨m, hm0, hv⟩ : ∃ m : Int, (0 ≤ m ∧ m ≤ 9) ∧ atI (([0, 0, 1, 1, 2, 3, 1, 0, 7 + x / 9 % 3] : List Int).map V.int) (x % 9) = some (.int m) := by
    obtain ⟨v, hv, e⟩ := atI_some (xs := ([0, 0, 1, 1, 2, 3, 1, 0, 7 + x / 9 % 3] : List Int).map V.int) (i := x % 9) (by omega) (by show _ < (9 : Int); omega)
    obtain ⟨m, hm, rfl⟩ := List.mem_map.mp hv
    refine ⟨m, ?_, e⟩
    simp only [List.mem_cons, List.not_mem_nil, or_false] at hm
    omega
  refine ⟨_, rfl, _, _, rfl, rfl, ⟨by decide, by decide⟩, _, _, rfl, rfl, (by show (0 : Int) < 3; decide), _, _, rfl, rfl, small_le (by show 9 ≤ 1000; decide), fun p hp => ⟨_, rfl, _, _, rfl, rfl, (by show (0 : Int) < 9; decide), p, _, _, _, rfl, rfl, SqL.of upd_same, hv, ?_⟩⟩
  have s1 := same_new hp (.lst (([0, 0, 1, 1, 2, 3, 1, 0, 7 + x / 9 % 3] : List Int).map V.int))
  refine ⟨Nat.zero_le _, fun pl hpl => ?_⟩
  have hpl0 : H pl = none := s1.free hpl
  have s2 := s1.trans (same_new hpl (.lst []))
  refine ⟨fun σ' H' => ∃ (dv : List V) (ds : List Dd) (o8 o9 : Option V), Same H H' ∧ H' pl = some (.lst dv) ∧ All2 (DdIn H') dv ds ∧ ds.length ≤ 9 ∧ (∀ d ∈ ds, okS d) ∧ σ' = [some (.ref a), some (.int k), some (.int salt), some (.ref tb), some (.ref te), some (.int x), some (.int m), some (.ref pl), o8, o9], ?_, ?_⟩
  · refine ⟨_, rfl, m, rfl, by omega, by omega, ?_⟩
    refine for_range (fun i σ' H' => ∃ (dv : List V) (ds : List Dd) (o8 o9 : Option V), Same H H' ∧ H' pl = some (.lst dv) ∧ All2 (DdIn H') dv ds ∧ ds.length = i ∧ (∀ d ∈ ds, okS d) ∧ σ' = [some (.ref a), some (.int k), some (.int salt), some (.ref tb), some (.ref te), some (.int x), some (.int m), some (.ref pl), o8, o9]) ⟨[], [], none, none, s2, upd_same, .nil, rfl, fun d hd => (by cases hd), rfl⟩ ?_ ?_
    · rintro i σ' H' hi ⟨dv, ds, o8, o9, s3, h3, r3, l3, ok3, rfl⟩
      have hi' : i < 9 := by omega
      have l3' := r3.length
      refine ⟨_, rfl, _, rfl, _, rfl, _, _, rfl, rfl, _, rfl, _, _, rfl, rfl, _, rfl, _, rfl, a, tb, te, ns, k, _, bv, bs, es, rfl, s3.seq hS, h63, ⟨k0, k1⟩, ⟨by omega, by omega⟩, s3 _ _ htb, BxsIn.mono hbs (KeepT.of s3), b60, s3 _ _ hte, e60, fun v d H4 s4 hd okd => ?_⟩
      refine ⟨fun σ' H5 => ∃ (v' : V) (d' : Dd), Same H4 H5 ∧ DdIn H5 v' d' ∧ okS d' ∧ σ' = [some (.ref a), some (.int k), some (.int salt), some (.ref tb), some (.ref te), some (.int x), some (.int m), some (.ref pl), some (.int (0 + (i : Int))), some v'], ?_, ?_⟩
      · refine ⟨fun c H5 => H5 = H4, ?_, ?_⟩
        · refine ⟨_, rfl, _, _, rfl, rfl, ⟨by decide, by decide⟩, _, _, rfl, rfl, (by show (0 : Int) < 3; decide), _, _, rfl, rfl, _, rfl, ?_⟩
          refine itB (fun _ => ?_) (fun _ => rfl)
          have s34 := s3.trans s4
          exact ⟨_, rfl, _, rfl, _, rfl, v, tb, te, d, bv, bs, es, rfl, hd, okd, s34 _ _ htb, BxsIn.mono hbs (KeepT.of s34), s34 _ _ hte, _, rfl, rfl⟩
        rintro c H5 rfl
        refine itB (fun _ => ?_) (fun _ => ⟨v, d, Same.refl _, hd, okd, rfl⟩)
        refine ⟨small_le (by show 2 ≤ 1000; decide), fun t ht => ⟨_, .say "hum", same_new ht _, .say upd_same, fun z e => ?_, rfl⟩⟩
        cases e
        decide +kernel
      rintro σ5 H5 ⟨v', d', s5, hd', okd', rfl⟩
      have s45 := s4.trans s5
      have h5 := s45 _ _ h3
      have kk : KeepT H5 (upd H5 pl (.lst (dv ++ [v']))) := KeepT.lst h5 _
      refine ⟨_, rfl, .inl ⟨rfl, _, SqL.of h5⟩, _, rfl, pl, _, _, rfl, rfl, h5, small1000 (by omega), dv ++ [v'], ds ++ [d'], _, _, fun b o e => ?_, upd_same, ?_, by simp [l3], fun d hd => ?_, rfl⟩
      · rw [upd_ne (ne_of_none e hpl0)]
        exact (s3.trans s45) _ _ e
      · exact (r3.imp fun _ _ z => (z.mono (KeepT.of s45)).mono kk).snoc (hd'.mono kk)
      · rcases List.mem_append.mp hd with h | h
        · exact ok3 d h
        · rw [List.mem_singleton.mp h]
          exact okd'
    · rintro σ' H' ⟨dv, ds, o8, o9, s3, h3, r3, l3, ok3, rfl⟩
      exact ⟨dv, ds, o8, o9, s3, h3, r3, by omega, ok3, rfl⟩
  rintro σ' H' ⟨dv, ds, o8, o9, s3, h3, r3, l3, ok3, rfl⟩
  refine ⟨_, rfl, pl, _, rfl, .inl ⟨SqL.of h3, fun t ht => ?_⟩⟩
  exact q _ ds _ (s3.trans (same_new ht _)) ⟨t, dv, rfl, upd_same, r3.imp fun _ _ z => z.mono (KeepT.of (same_new ht _))⟩ l3 ok3
end
end K11

namespace K11
open PySem L2 Mix Gds Dds Wds Cht
def spGuard (K : PySem.W.Frag) : Sp := fun vs H Q _ => ∃ (a : Addr) (ns : List Int) (k nb nr : Int), vs = [.ref a, .int k, .int nb, .int nr] ∧ SqL K H a (ns.map V.int) ∧ ns.length ≤ 63 ∧ (0 ≤ k ∧ k ≤ 1000) ∧ (0 ≤ nb ∧ nb ≤ 60) ∧ (0 ≤ nr ∧ nr ≤ 60) ∧
  ∀ (v : V) (g : Gd) (H' : Hp), Same H H' → GdIn H' v g → g.ht ≤ 20 → g.lv ≤ 40 → g.fit → Q v H'
theorem fit_yes : Gd.yes.fit := ⟨fun n h => (by cases h), fun n h => (by cases h)⟩
theorem fit_neg {g : Gd} (x : g.fit) : (Gd.neg g).fit := x
theorem fit_both {g h : Gd} (x : g.fit) (y : h.fit) : (Gd.both g h).fit := ⟨fun n m => (List.mem_append.mp m).elim (x.1 n) (y.1 n), fun n m => (List.mem_append.mp m).elim (x.2 n) (y.2 n)⟩
theorem fit_either {g h : Gd} (x : g.fit) (y : h.fit) : (Gd.either g h).fit := ⟨fun n m => (List.mem_append.mp m).elim (x.1 n) (y.1 n), fun n m => (List.mem_append.mp m).elim (x.2 n) (y.2 n)⟩
theorem at4 {a b c d : V} {i : Int} (h0 : 0 ≤ i) (h4 : i < 4) (P : V → Prop) (pa : P a) (pb : P b) (pc : P c) (pd : P d) : ∃ v, atI [a, b, c, d] i = some v ∧ P v := by
  obtain ⟨v, hv, e⟩ := atI_some (xs := [a, b, c, d]) (i := i) h0 (by show _ < (4 : Int); omega)
  refine ⟨v, e, ?_⟩
  simp only [List.mem_cons, List.not_mem_nil, or_false] at hv
  rcases hv with rfl | rfl | rfl | rfl
  · exact pa
  · exact pb
  · exact pc
  · exact pd
section
variable {P : Program} {w : World} {K : PySem.W.Frag} {mg : Str → Option Value} {base : Heap}
theorem sc_law_guard : FnScope ["_law_script", "_law_k", "_law_boxes", "_law_rooms_here", "_law_number", "_law_guard_here", "_law_step", "_law_some"] ["_law_script", "_law_k", "_law_boxes", "_law_rooms_here"] (defScope sGuardF) := ⟨rfl, rfl, rfl, by decide +kernel, rfl, by decide +kernel, by decide +kernel⟩
theorem ok_guard {f gm gl gh : Addr} {fd dm dl dh : FuncData} (F : Fun K "_law_guard" "_law_guard" sGuardF f fd)
    (G_law_mixed : FnOk P w K mg base CX0 4 gm dm ["_law_script", "_law_k", "_law_salt"] (spMixed K)) (b_law_mixed : Binds K dm ["_law_script", "_law_k", "_law_salt"] []) (k_law_mixed : PySem.W.keepIn K (.ref gm) = true) (m_law_mixed : mg "_law_mixed" = some (.ref gm))
    (G_law_leaf : FnOk P w K mg base CX0 4 gl dl ["_law_script", "_law_k", "_law_number", "_law_boxes", "_law_rooms_here"] (spLeaf K)) (b_law_leaf : Binds K dl ["_law_script", "_law_k", "_law_number", "_law_boxes", "_law_rooms_here"] []) (k_law_leaf : PySem.W.keepIn K (.ref gl) = true) (m_law_leaf : mg "_law_leaf" = some (.ref gl))
    (G_law_height : FnOk P w K mg base CX0 4 gh dh ["_law_guard_here"] (spHt 3)) (b_law_height : Binds K dh ["_law_guard_here"] []) (k_law_height : PySem.W.keepIn K (.ref gh) = true) (m_law_height : mg "_law_height" = some (.ref gh))
    (m_range : mg "range" = none) : FnOk P w K mg base CX0 5 f fd ["_law_script", "_law_k", "_law_boxes", "_law_rooms_here"] (spGuard K) := by
  refine F.ok sc_law_guard (fun vs H Q E h => ?_) (fun cdv A outer s H vs Q E hr h => ?_)
  · obtain ⟨a, ns, k, nb, nr, rfl, _⟩ := h
    rfl
  obtain ⟨a, ns, k, nb, nr, rfl, hS, h63, ⟨k0, k1⟩, ⟨nb0, nb1⟩, ⟨nr0, nr1⟩, q⟩ := h
  refine ⟨_, (pss_cons (ps_set (i := 4) sc_law_guard.nd rfl (Or.inl rfl) (pe_call G_law_mixed hr rfl m_law_mixed k_law_mixed b_law_mixed .nil pass0 (pa_cons (pv 0) (pa_cons (pv 1) (pa_cons pe_int pa_nil)))))
    (pss_cons (ps_set (i := 5) sc_law_guard.nd rfl (Or.inl rfl) (pe_call G_law_leaf hr rfl m_law_leaf k_law_leaf b_law_leaf .nil pass0 (pa_cons (pv 0) (pa_cons (pv 1) (pa_cons (pe_call G_law_mixed hr rfl m_law_mixed k_law_mixed b_law_mixed .nil pass0 (pa_cons (pv 0) (pa_cons (pv 1) (pa_cons pe_int pa_nil)))) (pa_cons (pv 2) (pa_cons (pv 3) pa_nil)))))))
    (pss_cut (ps_if (pt_cmpR op_eq (pe_op op_mod (pv 4) pe_int) pe_int (nomark _))
      (pss_one (ps_set (i := 5) sc_law_guard.nd rfl (Or.inl rfl) (pe_tup (pa_cons pe_str (pa_cons (pv 5) (pa_cons (pe_call G_law_leaf hr rfl m_law_leaf k_law_leaf b_law_leaf .nil pass0 (pa_cons (pv 0) (pa_cons (pv 1) (pa_cons (pe_call G_law_mixed hr rfl m_law_mixed k_law_mixed b_law_mixed .nil pass0 (pa_cons (pv 0) (pa_cons (pv 1) (pa_cons pe_int pa_nil)))) (pa_cons (pv 2) (pa_cons (pv 3) pa_nil)))))) pa_nil))))))
      pss_nil)
    (pss_cut (ps_if (pt_cmpR op_eq (pe_op op_mod (pe_op op_fdiv (pv 4) pe_int) pe_int) pe_int (nomark _))
      (pss_one (ps_set (i := 5) sc_law_guard.nd rfl (Or.inl rfl) (pe_tup (pa_cons pe_str (pa_cons (pe_call G_law_leaf hr rfl m_law_leaf k_law_leaf b_law_leaf .nil pass0 (pa_cons (pv 0) (pa_cons (pv 1) (pa_cons (pe_call G_law_mixed hr rfl m_law_mixed k_law_mixed b_law_mixed .nil pass0 (pa_cons (pv 0) (pa_cons (pv 1) (pa_cons pe_int pa_nil)))) (pa_cons (pv 2) (pa_cons (pv 3) pa_nil)))))) (pa_cons (pv 5) pa_nil))))))
      pss_nil)
    (pss_cut (ps_if (pt_cmpR op_eq (pe_op op_mod (pe_op op_fdiv (pv 4) pe_int) pe_int) pe_int (nomark _))
      (pss_one (ps_for PassesOwn.never rfl (pi_range1 rfl m_range (pa_cons (pe_op op_sub (pe_ix ix_list (pe_lst (pa_consts (vs := ([5, 6, 7, 8, 20] : List Int).map V.int) rfl)) (pe_op op_mod (pe_op op_fdiv (pv 4) pe_int) pe_int) (fun _ _ => rfl)) (pe_call G_law_height hr rfl m_law_height k_law_height b_law_height .nil pass0 (pa_cons (pv 5) pa_nil))) pa_nil)) (pg_name (i := 6) sc_law_guard.nd rfl (Or.inl rfl))
        (pss_cons (ps_set (i := 7) sc_law_guard.nd rfl (Or.inl rfl) (pe_lst (pa_cons (pe_tup (pa_cons pe_str (pa_cons (pv 5) pa_nil))) (pa_cons (pe_tup (pa_cons pe_str (pa_cons (pv 5) (pa_cons (pe_tup (pa_cons pe_str pa_nil)) pa_nil)))) (pa_cons (pe_tup (pa_cons pe_str (pa_cons (pe_tup (pa_cons pe_str pa_nil)) (pa_cons (pv 5) pa_nil)))) (pa_cons (pe_tup (pa_cons pe_str (pa_cons (pv 5) (pa_cons (pe_tup (pa_cons pe_str pa_nil)) pa_nil)))) pa_nil))))))
        (pss_one (ps_set (i := 5) sc_law_guard.nd rfl (Or.inl rfl) (pe_ix ix_list (pv 7) (pe_op op_mod (pe_call G_law_mixed hr rfl m_law_mixed k_law_mixed b_law_mixed .nil pass0 (pa_cons (pv 0) (pa_cons (pv 1) (pa_cons (pe_op op_add pe_int (pv 6)) pa_nil)))) pe_int) (fun _ _ => rfl)))))))
      pss_nil)
    (pss_one (ps_ret (pv 5)))))))), ?_⟩
  refine ⟨_, rfl, _, rfl, a, ns, _, _, rfl, hS, h63, ⟨by omega, by omega⟩, ⟨by decide, by decide⟩, fun x x0 x1 => ?_⟩
  refine ⟨_, rfl, _, rfl, _, rfl, _, rfl, a, ns, _, _, rfl, hS, h63, ⟨by omega, by omega⟩, ⟨by decide, by decide⟩, fun y y0 y1 => ?_⟩
  refine ⟨_, rfl, _, rfl, a, ns, _, _, _, _, rfl, hS, h63, y0, ⟨nb0, nb1⟩, ⟨nr0, nr1⟩, fun v1 g1 H1 s1 hg1 ht1 lv1 fit1 => ?_⟩
  refine ⟨fun σ' H' => ∃ (v : V) (g : Gd), Same H H' ∧ GdIn H' v g ∧ g.ht ≤ 2 ∧ g.lv ≤ 2 ∧ g.fit ∧ σ' = [some (.ref a), some (.int k), some (.int nb), some (.int nr), some (.int x), some v, none, none], ?_, ?_⟩
  · refine ⟨_, rfl, _, _, rfl, rfl, (by show (0 : Int) < 3; decide), rfl, _, rfl, ?_⟩
    refine ite2 (fun _ => ?_) (fun _ => ⟨v1, g1, s1, hg1, by omega, by omega, fit1, rfl⟩)
    refine ⟨_, rfl, _, rfl, _, rfl, _, rfl, _, rfl, a, ns, _, _, rfl, s1.seq hS, h63, ⟨by omega, by omega⟩, ⟨by decide, by decide⟩, fun z z0 z1 => ?_⟩
    refine ⟨_, rfl, _, rfl, a, ns, _, _, _, _, rfl, s1.seq hS, h63, z0, ⟨nb0, nb1⟩, ⟨nr0, nr1⟩, fun v2 g2 H2 s2 hg2 ht2 lv2 fit2 => ?_⟩
    refine ⟨small_le (by show 3 ≤ 1000; decide), fun t ht => ⟨_, .both g1 g2, (s1.trans s2).trans (same_new ht _), .both upd_same (hg1.mono (KeepT.of (s2.trans (same_new ht _)))) (hg2.mono (KeepT.of (same_new ht _))), ?_, ?_, fit_both fit1 fit2, rfl⟩⟩
    · show 1 + max g1.ht g2.ht ≤ 2
      omega
    · show g1.lv + g2.lv ≤ 2
      omega
  clear hg1 ht1 lv1 fit1 s1
  rintro σ1 H1 ⟨v1, g1, s1, hg1, ht1, lv1, fit1, rfl⟩
  refine ⟨fun σ' H' => ∃ (v : V) (g : Gd), Same H H' ∧ GdIn H' v g ∧ g.ht ≤ 3 ∧ g.lv ≤ 3 ∧ g.fit ∧ σ' = [some (.ref a), some (.int k), some (.int nb), some (.int nr), some (.int x), some v, none, none], ?_, ?_⟩
  · refine ⟨_, rfl, _, _, rfl, rfl, ⟨by decide, by decide⟩, _, _, rfl, rfl, (by show (0 : Int) < 3; decide), rfl, _, rfl, ?_⟩
    refine ite2 (fun _ => ?_) (fun _ => ⟨v1, g1, s1, hg1, by omega, by omega, fit1, rfl⟩)
    refine ⟨_, rfl, _, rfl, _, rfl, _, rfl, a, ns, _, _, rfl, s1.seq hS, h63, ⟨by omega, by omega⟩, ⟨by decide, by decide⟩, fun z z0 z1 => ?_⟩
    refine ⟨_, rfl, _, rfl, a, ns, _, _, _, _, rfl, s1.seq hS, h63, z0, ⟨nb0, nb1⟩, ⟨nr0, nr1⟩, fun v2 g2 H2 s2 hg2 ht2 lv2 fit2 => ?_⟩
    refine ⟨_, rfl, small_le (by show 3 ≤ 1000; decide), fun t ht => ⟨_, .either g2 g1, (s1.trans s2).trans (same_new ht _), .either upd_same (hg2.mono (KeepT.of (same_new ht _))) (hg1.mono (KeepT.of (s2.trans (same_new ht _)))), ?_, ?_, fit_either fit2 fit1, rfl⟩⟩
    · show 1 + max g2.ht g1.ht ≤ 3
      omega
    · show g2.lv + g1.lv ≤ 3
      omega
  clear hg1 ht1 lv1 fit1 s1
  rintro σ1 H1 ⟨v1, g1, s1, hg1, ht1, lv1, fit1, rfl⟩
  refine ⟨fun σ' H' => ∃ (v : V) (g : Gd) (o6 o7 : Option V), Same H H' ∧ GdIn H' v g ∧ g.ht ≤ 20 ∧ g.lv ≤ 40 ∧ g.fit ∧ σ' = [some (.ref a), some (.int k), some (.int nb), some (.int nr), some (.int x), some v, o6, o7], ?_, ?_⟩
  · refine ⟨_, rfl, _, _, rfl, rfl, ⟨by decide, by decide⟩, _, _, rfl, rfl, (by show (0 : Int) < 4; decide), rfl, _, rfl, ?_⟩
    refine ite2 (fun _ => ?_) (fun _ => ⟨v1, g1, _, _, s1, hg1, by omega, by omega, fit1, rfl⟩)
    obtain ⟨m, hm0, hv⟩ : ∃ m : Int, (5 ≤ m ∧ m ≤ 20) ∧ atI (([5, 6, 7, 8, 20] : List Int).map V.int) (x / 36 % 5) = some (.int m) := by
      obtain ⟨v, hv, e⟩ := atI_some (xs := ([5, 6, 7, 8, 20] : List Int).map V.int) (i := x / 36 % 5) (by omega) (by show _ < (5 : Int); omega)
      obtain ⟨m, hm, rfl⟩ := List.mem_map.mp hv
      refine ⟨m, ?_, e⟩
      simp only [List.mem_cons, List.not_mem_nil, or_false] at hm
      omega
    refine ⟨small_le (by show 5 ≤ 1000; decide), fun p hp => ⟨_, rfl, _, _, rfl, rfl, ⟨by decide, by decide⟩, _, _, rfl, rfl, (by show (0 : Int) < 5; decide), p, _, _, _, rfl, rfl, SqL.of upd_same, hv, ?_⟩⟩
    have s2 := same_new hp (.lst (([5, 6, 7, 8, 20] : List Int).map V.int))
    refine ⟨_, rfl, v1, g1, rfl, hg1.mono (KeepT.of s2), ht1, fun H2 s3 => ⟨_, _, rfl, rfl, _, rfl, by omega, by omega, ?_⟩⟩
    have g1p := g1.ht_pos
    refine for_range (fun i σ' H' => ∃ (v : V) (g : Gd) (o6 o7 : Option V), Same H H' ∧ GdIn H' v g ∧ g.ht = g1.ht + i ∧ g.lv ≤ 3 + i ∧ g.fit ∧ σ' = [some (.ref a), some (.int k), some (.int nb), some (.int nr), some (.int x), some v, o6, o7]) ⟨v1, g1, _, _, (s1.trans s2).trans s3, hg1.mono (KeepT.of (s2.trans s3)), rfl, by omega, fit1, rfl⟩ ?_ ?_
    · rintro i σ' H' hi ⟨v, g, o6, o7, s4, hg, hht, hlv, hfit, rfl⟩
      have hi' : i < 20 := by omega
      have gp := g.ht_pos
      refine ⟨_, rfl, small_le (by show 2 ≤ 1000; decide), fun t1 ht1 => ?_⟩
      refine ⟨_, rfl, small_le (by show 1 ≤ 1000; decide), fun t2 ht2 => ⟨small_le (by show 3 ≤ 1000; decide), fun t3 ht3 => ?_⟩⟩
      refine ⟨small_le (by show 1 ≤ 1000; decide), fun t4 ht4 => ⟨_, rfl, small_le (by show 3 ≤ 1000; decide), fun t5 ht5 => ?_⟩⟩
      refine ⟨_, rfl, small_le (by show 1 ≤ 1000; decide), fun t6 ht6 => ⟨small_le (by show 3 ≤ 1000; decide), fun t7 ht7 => ⟨small_le (by show 4 ≤ 1000; decide), fun t8 ht8 => ?_⟩⟩⟩
      have w8 := same_new ht8 (.lst [.ref t1, .ref t3, .ref t5, .ref t7])
      have w7 := (same_new ht7 (.tup [.str "either", v, .ref t6])).trans w8
      have w6 := (same_new ht6 (.tup [.str "yes"])).trans w7
      have w5 := (same_new ht5 (.tup [.str "either", .ref t4, v])).trans w6
      have w4 := (same_new ht4 (.tup [.str "yes"])).trans w5
      have w3 := (same_new ht3 (.tup [.str "both", v, .ref t2])).trans w4
      have w2 := (same_new ht2 (.tup [.str "yes"])).trans w3
      have w1 := (same_new ht1 (.tup [.str "not", v])).trans w2
      have hg' := hg.mono (KeepT.of w1)
      refine ⟨_, rfl, _, rfl, _, rfl, _, rfl, _, _, rfl, rfl, a, ns, _, _, rfl, (s4.trans w1).seq hS, h63, ⟨by omega, by omega⟩, ⟨by omega, by omega⟩, fun z z0 z1 => ?_⟩
      obtain ⟨u, hu, g', hgu, e1, e2, e3⟩ := at4 (a := .ref t1) (b := .ref t3) (c := .ref t5) (d := .ref t7) (i := z % 4) (by omega) (by omega) (fun u => ∃ g' : Gd, GdIn _ u g' ∧ g'.ht = g1.ht + (i + 1) ∧ g'.lv ≤ 3 + (i + 1) ∧ g'.fit)
        ⟨.neg g, .neg (w2 _ _ upd_same) hg', (by show g.ht + 1 = _; omega), (by show g.lv ≤ _; omega), fit_neg hfit⟩
        ⟨.both g .yes, .both (w4 _ _ upd_same) hg' (.yes (w3 _ _ upd_same)), (by show 1 + max g.ht 1 = _; omega), (by show g.lv + 1 ≤ _; omega), fit_both hfit fit_yes⟩
        ⟨.either .yes g, .either (w6 _ _ upd_same) (.yes (w5 _ _ upd_same)) hg', (by show 1 + max 1 g.ht = _; omega), (by show 1 + g.lv ≤ _; omega), fit_either fit_yes hfit⟩
        ⟨.either g .yes, .either (w8 _ _ upd_same) hg' (.yes (w7 _ _ upd_same)), (by show 1 + max g.ht 1 = _; omega), (by show g.lv + 1 ≤ _; omega), fit_either hfit fit_yes⟩
      exact ⟨_, _, rfl, rfl, (by show (0 : Int) < 4; decide), t8, _, _, _, rfl, rfl, SqL.of upd_same, hu, u, g', _, _, s4.trans w1, hgu, e1, e2, e3, rfl⟩
    · rintro σ' H' ⟨v, g, o6, o7, s4, hg, hht, hlv, hfit, rfl⟩
      exact ⟨v, g, o6, o7, s4, hg, by omega, by omega, hfit, rfl⟩
  rintro σ1 H2 ⟨v, g, o6, o7, s4, hg, hht, hlv, hfit, rfl⟩
  exact ⟨_, rfl, q v g _ s4 hg hht hlv hfit⟩
end
end K11

namespace K11
open PySem L2 Mix Gds Dds Wds Cht
def spBadDoor : Sp := fun vs H Q _ => ∃ (v : V) (tb te tr : Addr) (d : Dr) (bv rv : List V) (bs : List Bx) (es : List Str) (rs : List Ro), vs = [v, .ref tb, .ref te, .ref tr] ∧ DrIn H v d ∧ d.guard.ht ≤ 20 ∧ d.deeds.length ≤ 60 ∧ (∀ x ∈ d.deeds, okS x) ∧ H tb = some (.tup bv) ∧ BxsIn H bv bs ∧ H te = some (.tup (es.map V.str)) ∧ H tr = some (.tup rv) ∧ RosIn H rv rs ∧
  ∀ H', Same H H' → Q (.bl (badDr bs es.length rs d)) H'
theorem badWay_stay (rs : List Ro) (o : Option Int) : badWay rs "stay" o = !decide (gv o = V.non) := by
  unfold badWay
  rw [if_pos rfl]
  cases o <;> rfl
theorem badWay_no (rs : List Ro) (w : Str) (o : Option Int) (h : (!([("to" : Str), "back", "stay"].contains w)) = true) : badWay rs w o = true := by
  have h' : w ≠ "to" ∧ w ≠ "back" ∧ w ≠ "stay" := by simpa using h
  unfold badWay
  rw [if_neg h'.2.2, if_neg h'.1, if_neg h'.2.1]
theorem way_yes (w : Str) (h : (!([("to" : Str), "back", "stay"].contains w)) = false) : w = "to" ∨ w = "back" ∨ w = "stay" := by
  by_cases h1 : w = "to"
  · exact .inl h1
  by_cases h2 : w = "back"
  · exact .inr (.inl h2)
  have h' : ¬w = "to" → ¬w = "back" → w = "stay" := by simpa using h
  exact .inr (.inr (h' h1 h2))
section
variable {P : Program} {w : World} {K : PySem.W.Frag} {mg : Str → Option Value} {base : Heap}
theorem sc_law_bad_door : FnScope ["_law_door_here", "_law_boxes", "_law_events", "_law_rooms_here", "_law_room", "_law_event", "_law_guard_here", "_law_deeds_here", "_law_way", "_law_goal"] ["_law_door_here", "_law_boxes", "_law_events", "_law_rooms_here"] (defScope sBadDoor) := ⟨rfl, rfl, rfl, by decide +kernel, rfl, by decide +kernel, by decide +kernel⟩
theorem ok_bad_door {f gd gh gg : Addr} {fd dd dh dg : FuncData} (F : Fun K "_law_bad_door" "_law_bad_door" sBadDoor f fd)
    (G_law_bad_deeds : FnOk P w K mg base CX0 21 gd dd ["_law_deeds_here", "_law_boxes", "_law_events"] spBadDeeds) (b_law_bad_deeds : Binds K dd ["_law_deeds_here", "_law_boxes", "_law_events"] []) (k_law_bad_deeds : PySem.W.keepIn K (.ref gd) = true) (m_law_bad_deeds : mg "_law_bad_deeds" = some (.ref gd))
    (G_law_height : FnOk P w K mg base CX0 21 gh dh ["_law_guard_here"] (spHt 20)) (b_law_height : Binds K dh ["_law_guard_here"] []) (k_law_height : PySem.W.keepIn K (.ref gh) = true) (m_law_height : mg "_law_height" = some (.ref gh))
    (G_law_bad_guard : FnOk P w K mg base CX0 21 gg dg ["_law_guard_here", "_law_boxes", "_law_rooms_here"] (spBG 20)) (b_law_bad_guard : Binds K dg ["_law_guard_here", "_law_boxes", "_law_rooms_here"] []) (k_law_bad_guard : PySem.W.keepIn K (.ref gg) = true) (m_law_bad_guard : mg "_law_bad_guard" = some (.ref gg))
    (m_len : mg "len" = none) : FnOk P w K mg base CX0 22 f fd ["_law_door_here", "_law_boxes", "_law_events", "_law_rooms_here"] spBadDoor := by
  refine F.ok sc_law_bad_door (fun vs H Q E h => ?_) (fun cdv A outer s H vs Q E hr h => ?_)
  · obtain ⟨v, tb, te, tr, d, bv, rv, bs, es, rs, rfl, _⟩ := h
    rfl
  obtain ⟨v, tb, te, tr, d, bv, rv, bs, es, rs, rfl, ⟨a, vg, vd, rfl, ha, hvg, hvd⟩, d20, d60, dok, htb, hbs, hte, htr, hrs, q⟩ := h
  refine ⟨_, (pss_cons (ps_asg (pv 0) (pg_tup rfl (pgs_cons (pg_name (i := 4) sc_law_bad_door.nd rfl (Or.inl rfl)) (pgs_cons (pg_name (i := 5) sc_law_bad_door.nd rfl (Or.inl rfl)) (pgs_cons (pg_name (i := 6) sc_law_bad_door.nd rfl (Or.inl rfl)) (pgs_cons (pg_name (i := 7) sc_law_bad_door.nd rfl (Or.inl rfl)) (pgs_cons (pg_name (i := 8) sc_law_bad_door.nd rfl (Or.inl rfl)) (pgs_cons (pg_name (i := 9) sc_law_bad_door.nd rfl (Or.inl rfl)) pgs_nil))))))))
    (pss_cons (ps_if (pt_cut (PW.pt (pw_or (pt_not (pt_chV op_le op_lt pe_int (pv 4) (pe_callB call_len_seq rfl m_len PySem.boot_len (pa_cons (pv 3) pa_nil)))) (pw_or (pt_not (pt_chV op_le op_lt pe_int (pv 5) (pe_callB call_len_seq rfl m_len PySem.boot_len (pa_cons (pv 2) pa_nil)))) (pw_or1 (pt_val (pe_call G_law_bad_deeds hr rfl m_law_bad_deeds k_law_bad_deeds b_law_bad_deeds .nil pass0 (pa_cons (pv 7) (pa_cons (pv 1) (pa_cons (pv 2) pa_nil))))))))))
      (pss_one (ps_ret pe_bl))
      pss_nil)
    (pss_cons (ps_if (pt_cut (PW.pt (pw_or (pt_cmpR op_gt (pe_call G_law_height hr rfl m_law_height k_law_height b_law_height .nil pass0 (pa_cons (pv 6) pa_nil)) pe_int (nomark _)) (pw_or1 (pt_val (pe_call G_law_bad_guard hr rfl m_law_bad_guard k_law_bad_guard b_law_bad_guard .nil pass0 (pa_cons (pv 6) (pa_cons (pe_callB call_len_seq rfl m_len PySem.boot_len (pa_cons (pv 1) pa_nil)) (pa_cons (pe_callB call_len_seq rfl m_len PySem.boot_len (pa_cons (pv 3) pa_nil)) pa_nil)))))))))
      (pss_one (ps_ret pe_bl))
      pss_nil)
    (pss_cons (ps_if (pt_cmpR op_notIn_seq (pv 8) (pe_lst (pa_cons pe_str (pa_cons pe_str (pa_cons pe_str pa_nil)))) rfl)
      (pss_one (ps_ret pe_bl))
      pss_nil)
    (pss_cons (ps_if (pt_cmpR op_eq (pv 8) pe_str (nomark _))
      (pss_one (ps_ret (pe_cmpR op_notN (pv 9) pe_non (nomark _))))
      pss_nil)
    (pss_cons (ps_if (pt_cut (PW.pt (pw_or (pt_cmpR op_isN (pv 9) pe_non (nomark _)) (pw_or1 (pt_not (pt_chV op_le op_lt pe_int (pv 9) (pe_callB call_len_seq rfl m_len PySem.boot_len (pa_cons (pv 3) pa_nil))))))))
      (pss_one (ps_ret pe_bl))
      pss_nil)
    (pss_one (ps_ret (pe_and (pe_cmpR op_eq (pv 8) pe_str (nomark _)) (pe_one (pe_cmpR op_eq (pe_ix ix_tup (pe_ix ix_tup (pv 3) (pv 9) (fun _ _ => rfl)) pe_int (fun _ _ => rfl)) pe_str (nomark _)))))))))))), ?_⟩
  have hbl := hbs.length
  have hrl := hrs.length
  have hel : (es.map V.str).length = es.length := List.length_map _
  have eb : badDr bs es.length rs d = ((!numOf rs.length d.room || (!numOf es.length d.event || badDeeds bs es.length d.deeds)) || ((decide (6 < d.guard.ht) || badGd bs.length rs.length d.guard) || badWay rs d.way d.goal)) := by
    unfold badDr
    generalize (!numOf rs.length d.room) = b1
    generalize (!numOf es.length d.event) = b2
    generalize badDeeds bs es.length d.deeds = b3
    generalize decide (6 < d.guard.ht) = b4
    generalize badGd bs.length rs.length d.guard = b5
    generalize badWay rs d.way d.goal = b6
    revert b1 b2 b3 b4 b5 b6
    decide
  refine ⟨_, rfl, a, _, rfl, SqT.of ha, rfl, _, _, rfl, _, _, rfl, _, _, rfl, _, _, rfl, _, _, rfl, _, _, rfl, rfl, ?_⟩
  refine ⟨fun c H' => Same H H' ∧ c = (!numOf rs.length d.room || (!numOf es.length d.event || badDeeds bs es.length d.deeds)), ?_, ?_⟩
  · refine ⟨_, rfl, _, _, (rs.length : Int), rfl, rfl, ⟨_, rfl, tr, _, rfl, .inr (SqT.of htr), by rw [hrl], rfl⟩, _, rfl, ?_⟩
    refine itB (fun c => ?_) (fun c => ?_)
    · have c' : (!numOf rs.length d.room) = true := c
      exact ⟨Same.refl _, by rw [c']; rfl⟩
    have c' : (!numOf rs.length d.room) = false := c
    refine ⟨_, rfl, _, _, (es.length : Int), rfl, rfl, ⟨_, rfl, te, _, rfl, .inr (SqT.of hte), by rw [hel], rfl⟩, _, rfl, ?_⟩
    refine itB (fun m => ?_) (fun m => ?_)
    · have m' : (!numOf es.length d.event) = true := m
      exact ⟨Same.refl _, by rw [c', m']; rfl⟩
    have m' : (!numOf es.length d.event) = false := m
    exact ⟨_, rfl, _, rfl, _, rfl, vd, tb, te, d.deeds, bv, bs, es, rfl, hvd, d60, dok, htb, hbs, hte, fun H2 s2 => ⟨_, rfl, s2, by rw [c', m', Bool.false_or, Bool.false_or]⟩⟩
  rintro c H1 ⟨s1, rfl⟩
  refine itB (fun c => ?_) (fun c => ?_)
  · have z := q H1 s1
    rw [eb, c, Bool.true_or] at z
    exact z
  rw [eb, c, Bool.false_or] at q
  have ec : decide ((6 : Int) < (d.guard.ht : Int)) = decide (6 < d.guard.ht) := decide_eq_decide.mpr (by omega)
  refine ⟨fun c H' => Same H H' ∧ c = (decide (6 < d.guard.ht) || badGd bs.length rs.length d.guard), ?_, ?_⟩
  · refine ⟨_, rfl, vg, d.guard, rfl, hvg.mono (KeepT.of s1), d20, fun H2 s2 => ⟨_, _, rfl, rfl, _, rfl, ?_⟩⟩
    have s12 := s1.trans s2
    refine itB (fun c => ⟨s12, by rw [← ec, c]; rfl⟩) (fun c => ?_)
    refine ⟨_, rfl, _, rfl, tb, _, rfl, .inr (SqT.of (s12 _ _ htb)), _, rfl, tr, _, rfl, .inr (SqT.of (s12 _ _ htr)), vg, d.guard, bv.length, rv.length, rfl, hvg.mono (KeepT.of s12), d20, fun H3 s3 => ⟨_, rfl, s12.trans s3, ?_⟩⟩
    rw [← ec, c, hbl, hrl, Bool.false_or]
  clear c
  rintro c H2 ⟨s2, rfl⟩
  refine itB (fun c => ?_) (fun c => ?_)
  · have z := q H2 s2
    rw [c, Bool.true_or] at z
    exact z
  rw [c, Bool.false_or] at q
  refine ⟨_, rfl, small_le (by show 3 ≤ 1000; decide), fun p hp => ⟨p, _, rfl, .inl (SqL.of upd_same), rfl, rfl, _, rfl, ?_⟩⟩
  have s3 := s2.trans (same_new hp (.lst [.str "to", .str "back", .str "stay"]))
  have ei : (!inV (V.str d.way) [V.str "to", V.str "back", V.str "stay"]) = !([("to" : Str), "back", "stay"].contains d.way) := congrArg _ (in_strs d.way [("to" : Str), "back", "stay"])
  refine itB (fun m => ?_) (fun m => ?_)
  · have m' : (!inV (V.str d.way) [V.str "to", V.str "back", V.str "stay"]) = true := m
    rw [ei] at m'
    have z := q _ s3
    rw [badWay_no rs d.way d.goal m'] at z
    exact z
  have m' : (!inV (V.str d.way) [V.str "to", V.str "back", V.str "stay"]) = false := m
  rw [ei] at m'
  have q := q _ s3
  have yes := way_yes d.way m'
  clear m m' c
  refine ⟨_, rfl, rfl, _, rfl, ?_⟩
  refine itB (fun c => ?_) (fun c => ?_)
  · rw [Prg.dstr] at c
    rw [of_decide_eq_true c, badWay_stay] at q
    exact ⟨_, rfl, rfl, q⟩
  rw [Prg.dstr] at c
  have ns := of_decide_eq_false c
  have htr3 := s3 _ _ htr
  have hrs3 := RosIn.mono hrs (KeepT.of s3)
  refine ⟨fun c H' => H' = upd H2 p (.lst [.str "to", .str "back", .str "stay"]) ∧ c = !Prg.numO rs.length d.goal, ?_, ?_⟩
  · cases hgo : d.goal with
    | none => exact ⟨_, rfl, rfl, _, rfl, ifT rfl ⟨rfl, rfl⟩⟩
    | some i => exact ⟨_, rfl, rfl, _, rfl, ifF rfl ⟨_, rfl, _, _, (rs.length : Int), rfl, rfl, ⟨_, rfl, tr, _, rfl, .inr (SqT.of htr3), by rw [hrl], rfl⟩, _, rfl, rfl, rfl⟩⟩
  rintro c2 H3 ⟨rfl, rfl⟩
  have both : badWay rs d.way d.goal = (!Prg.numO rs.length d.goal || (decide (d.way = "back") && decide ((rs.map (·.keeps)).getD (d.goal.getD 0).toNat ("" : Str) = ("" : Str)))) := by
    rcases yes with e | e | e
    · rw [e, Prg.badWay_to, decide_eq_false (by decide +kernel), Bool.false_and, Bool.or_false]
    · rw [e, Prg.badWay_back, decide_eq_true rfl, Bool.true_and]
    · exact absurd e ns
  rw [both] at q
  refine itB (fun m => ?_) (fun m => ?_)
  · rw [m, Bool.true_or] at q
    exact q
  rw [m, Bool.false_or] at q
  refine ⟨_, rfl, rfl, _, rfl, ?_⟩
  refine itB (fun b => ?_) (fun b => ?_)
  · have b' := b
    rw [Prg.dstr] at b'
    rw [b', Bool.true_and] at q
    cases hgo : d.goal with
    | none => rw [hgo] at m; cases m
    | some i =>
      rw [hgo] at m q
      have m' : numOf rs.length i = true := by
        have m0 : (!numOf rs.length i) = false := m
        simpa using m0
      unfold numOf at m'
      rw [Bool.and_eq_true, decide_eq_true_iff, decide_eq_true_iff] at m'
      have hk : i.toNat < rs.length := by omega
      have er := List.getElem?_eq_getElem hk
      obtain ⟨v2, hv2, a2, vi, vo, rfl, ha2, _⟩ := hrs3.get er
      have hat : atI rv i = some (.ref a2) := by
        have z := atI_nat hv2
        rw [Int.toNat_of_nonneg m'.1] at z
        exact z
      have em : (rs.map (·.keeps)).getD i.toNat ("" : Str) = rs[i.toNat].keeps := by
        rw [List.getD_eq_getElem?_getD, List.getElem?_map, er]
        rfl
      have q2 : Q (.bl (decide ((rs.map (·.keeps)).getD i.toNat ("" : Str) = ("" : Str)))) (upd H2 p (.lst [.str "to", .str "back", .str "stay"])) := q
      rw [em, ← Prg.dstr] at q2
      exact ⟨_, rfl, _, rfl, tr, _, _, _, rfl, rfl, SqT.of htr3, hat, a2, _, _, _, rfl, rfl, SqT.of ha2, rfl, rfl, q2⟩
  · have b' := b
    rw [Prg.dstr] at b'
    rw [b', Bool.false_and] at q
    exact q
end
end K11

namespace K11
open PySem L2 Mix Gds Dds Wds Cht
def okDr (d : Dr) : Prop := d.guard.ht ≤ 20 ∧ d.guard.lv ≤ 40 ∧ d.guard.fit ∧ d.deeds.length ≤ 9 ∧ ∀ x ∈ d.deeds, okS x
def spDoor (K : PySem.W.Frag) : Sp := fun vs H Q _ => ∃ (a tb te tr : Addr) (ns : List Int) (k : Int) (bv rv : List V) (bs : List Bx) (es : List Str), vs = [.ref a, .int k, .ref tb, .ref te, .ref tr] ∧ SqL K H a (ns.map V.int) ∧ ns.length ≤ 63 ∧ (0 ≤ k ∧ k ≤ 1000) ∧ H tb = some (.tup bv) ∧ BxsIn H bv bs ∧ bs.length ≤ 60 ∧ H te = some (.tup (es.map V.str)) ∧ es.length ≤ 60 ∧ H tr = some (.tup rv) ∧ rv.length ≤ 60 ∧
  ∀ (v : V) (d : Dr) (H' : Hp), Same H H' → DrIn H' v d → okDr d → Q v H'
theorem atI_strs {zs : List Str} {i : Int} (h0 : 0 ≤ i) (h1 : i < (zs.length : Int)) : ∃ z ∈ zs, atI (zs.map V.str) i = some (.str z) := by
  obtain ⟨v, hv, e⟩ := atI_some (xs := zs.map V.str) (i := i) h0 (by rw [List.length_map]; exact h1)
  obtain ⟨z, hz, rfl⟩ := List.mem_map.mp hv
  exact ⟨z, hz, e⟩
section
variable {P : Program} {w : World} {K : PySem.W.Frag} {mg : Str → Option Value} {base : Heap}
theorem sc_law_door : FnScope ["_law_script", "_law_k", "_law_boxes", "_law_events", "_law_rooms_here", "_law_number", "_law_way", "_law_goal", "_law_room", "_law_event", "_law_guard_here"] ["_law_script", "_law_k", "_law_boxes", "_law_events", "_law_rooms_here"] (defScope sDoorF) := ⟨rfl, rfl, rfl, by decide +kernel, rfl, by decide +kernel, by decide +kernel⟩
theorem ok_door {f gm ga gg gd : Addr} {fd dm da dg dd : FuncData} (F : Fun K "_law_door" "_law_door" sDoorF f fd)
    (G_law_mixed : FnOk P w K mg base CX0 5 gm dm ["_law_script", "_law_k", "_law_salt"] (spMixed K)) (b_law_mixed : Binds K dm ["_law_script", "_law_k", "_law_salt"] []) (k_law_mixed : PySem.W.keepIn K (.ref gm) = true) (m_law_mixed : mg "_law_mixed" = some (.ref gm))
    (G_law_around : FnOk P w K mg base CX0 5 ga da ["_law_number", "_law_many"] spAround) (b_law_around : Binds K da ["_law_number", "_law_many"] []) (k_law_around : PySem.W.keepIn K (.ref ga) = true) (m_law_around : mg "_law_around" = some (.ref ga))
    (G_law_guard : FnOk P w K mg base CX0 5 gg dg ["_law_script", "_law_k", "_law_boxes", "_law_rooms_here"] (spGuard K)) (b_law_guard : Binds K dg ["_law_script", "_law_k", "_law_boxes", "_law_rooms_here"] []) (k_law_guard : PySem.W.keepIn K (.ref gg) = true) (m_law_guard : mg "_law_guard" = some (.ref gg))
    (G_law_deeds : FnOk P w K mg base CX0 5 gd dd ["_law_script", "_law_k", "_law_salt", "_law_boxes", "_law_events"] (spDeeds K)) (b_law_deeds : Binds K dd ["_law_script", "_law_k", "_law_salt", "_law_boxes", "_law_events"] []) (k_law_deeds : PySem.W.keepIn K (.ref gd) = true) (m_law_deeds : mg "_law_deeds" = some (.ref gd))
    (m_len : mg "len" = none) : FnOk P w K mg base CX0 6 f fd ["_law_script", "_law_k", "_law_boxes", "_law_events", "_law_rooms_here"] (spDoor K) := by
  refine F.ok sc_law_door (fun vs H Q E h => ?_) (fun cdv A outer s H vs Q E hr h => ?_)
  · obtain ⟨a, tb, te, tr, ns, k, bv, rv, bs, es, rfl, _⟩ := h
    rfl
  obtain ⟨a, tb, te, tr, ns, k, bv, rv, bs, es, rfl, hS, h63, ⟨k0, k1⟩, htb, hbs, b60, hte, e60, htr, r60, q⟩ := h
  refine ⟨_, RSs.p (r_cons (r_st (ps_set (i := 5) sc_law_door.nd rfl (Or.inl rfl) (pe_call G_law_mixed hr rfl m_law_mixed k_law_mixed b_law_mixed .nil pass0 (pa_cons (pv 0) (pa_cons (pv 1) (pa_cons pe_int pa_nil))))))
    (r_cons (r_set (i := 6) sc_law_door.nd rfl (Or.inl rfl) (r_ixL (r_lst (ra_con (vs := [("to" : Str), "to", "back", "back", "stay", "stay", "back", "to", "turn", "", "To"].map V.str) (by rfl))) (pe_op op_mod (pv 5) pe_int) (fun _ _ => rfl)))
    (r_cons (r_st (ps_set (i := 7) sc_law_door.nd rfl (Or.inl rfl) (pe_call G_law_around hr rfl m_law_around k_law_around b_law_around .nil pass0 (pa_cons (pe_op op_fdiv (pv 5) pe_int) (pa_cons (pe_callB call_len_seq rfl m_len PySem.boot_len (pa_cons (pv 4) pa_nil)) pa_nil)))))
    (r_cut (r_st (ps_if (pt_cut (PW.pt (pw_or (pt_cmpR op_eq (pe_op op_mod (pe_op op_fdiv (pv 5) pe_int) pe_int) pe_int (nomark _)) (pw_or1 (PW.pt (pw_and (pt_cmpR op_eq (pv 6) pe_str (nomark _)) (pw_and1 (pt_cmpR op_gt (pe_op op_mod (pe_op op_fdiv (pv 5) pe_int) pe_int) pe_int (nomark _)))))))))
      (pss_one (ps_set (i := 7) sc_law_door.nd rfl (Or.inl rfl) pe_non))
      pss_nil))
    (r_cons (r_st (ps_set (i := 8) sc_law_door.nd rfl (Or.inl rfl) (pe_call G_law_around hr rfl m_law_around k_law_around b_law_around .nil pass0 (pa_cons (pe_op op_fdiv (pe_call G_law_mixed hr rfl m_law_mixed k_law_mixed b_law_mixed .nil pass0 (pa_cons (pv 0) (pa_cons (pv 1) (pa_cons pe_int pa_nil)))) pe_int) (pa_cons (pe_callB call_len_seq rfl m_len PySem.boot_len (pa_cons (pv 4) pa_nil)) pa_nil)))))
    (r_cons (r_st (ps_set (i := 9) sc_law_door.nd rfl (Or.inl rfl) (pe_call G_law_around hr rfl m_law_around k_law_around b_law_around .nil pass0 (pa_cons (pe_op op_fdiv (pe_call G_law_mixed hr rfl m_law_mixed k_law_mixed b_law_mixed .nil pass0 (pa_cons (pv 0) (pa_cons (pv 1) (pa_cons pe_int pa_nil)))) pe_int) (pa_cons (pe_callB call_len_seq rfl m_len PySem.boot_len (pa_cons (pv 3) pa_nil)) pa_nil)))))
    (r_cons (r_st (ps_set (i := 10) sc_law_door.nd rfl (Or.inl rfl) (pe_call G_law_guard hr rfl m_law_guard k_law_guard b_law_guard .nil pass0 (pa_cons (pv 0) (pa_cons (pv 1) (pa_cons (pe_callB call_len_seq rfl m_len PySem.boot_len (pa_cons (pv 2) pa_nil)) (pa_cons (pe_callB call_len_seq rfl m_len PySem.boot_len (pa_cons (pv 4) pa_nil)) pa_nil)))))))
    (r_one (r_st (ps_ret (pe_tup (pa_cons (pv 8) (pa_cons (pv 9) (pa_cons (pv 10) (pa_cons (pe_call G_law_deeds hr rfl m_law_deeds k_law_deeds b_law_deeds .nil pass0 (pa_cons (pv 0) (pa_cons (pv 1) (pa_cons pe_int (pa_cons (pv 2) (pa_cons (pv 3) pa_nil)))))) (pa_cons (pv 6) (pa_cons (pv 7) pa_nil))))))))))))))))), ?_⟩
  have hbl := hbs.length
  have hel : (es.map V.str).length = es.length := List.length_map _
  refine ⟨_, rfl, _, rfl, a, ns, _, _, rfl, hS, h63, ⟨by omega, by omega⟩, ⟨by decide, by decide⟩, fun x x0 x1 => ?_⟩
  obtain ⟨z, hz, hv⟩ := atI_strs (zs := [("to" : Str), "to", "back", "back", "stay", "stay", "back", "to", "turn", "", "To"]) (i := x % 11) (by omega) (by show _ < (11 : Int); omega)
  refine ⟨small_le (by show 11 ≤ 1000; decide), fun p hp => ⟨_, rfl, _, _, rfl, rfl, (by show (0 : Int) < 11; decide), p, _, _, _, rfl, rfl, SqL.of upd_same, hv, ?_⟩⟩
  have s1 := same_new hp (.lst ([("to" : Str), "to", "back", "back", "stay", "stay", "back", "to", "turn", "", "To"].map V.str))
  generalize upd H p (.lst ([("to" : Str), "to", "back", "back", "stay", "stay", "back", "to", "turn", "", "To"].map V.str)) = H1 at s1 ⊢
  refine ⟨_, rfl, _, _, rfl, rfl, ⟨by decide, by decide⟩, _, rfl, tr, _, rfl, .inr (SqT.of (s1 _ _ htr)), _, _, rfl, by omega, ⟨by omega, by omega⟩, fun r r0 r1 => ?_⟩
  refine ⟨fun σ' H' => H' = H1 ∧ ∃ o : Option Int, σ' = [some (.ref a), some (.int k), some (.ref tb), some (.ref te), some (.ref tr), some (.int x), some (.str z), some (gv o), none, none, none], ?_, ?_⟩
  · refine ⟨fun c H' => H' = H1, ?_, ?_⟩
    · refine ⟨_, rfl, _, _, rfl, rfl, ⟨by decide, by decide⟩, _, _, rfl, rfl, (by show (0 : Int) < 9; decide), rfl, _, rfl, ?_⟩
      refine itB (fun _ => rfl) (fun _ => ⟨_, rfl, rfl, _, rfl, ?_⟩)
      refine itB (fun _ => ?_) (fun _ => rfl)
      exact ⟨_, rfl, _, _, rfl, rfl, ⟨by decide, by decide⟩, _, _, rfl, rfl, (by show (0 : Int) < 9; decide), _, _, rfl, rfl, _, rfl, rfl⟩
    rintro c H2 rfl
    exact itB (fun _ => ⟨rfl, none, rfl⟩) (fun _ => ⟨rfl, some r, rfl⟩)
  rintro σ1 H2 ⟨rfl, o, rfl⟩
  refine ⟨_, rfl, _, rfl, a, ns, _, _, rfl, s1.seq hS, h63, ⟨by omega, by omega⟩, ⟨by decide, by decide⟩, fun y y0 y1 => ?_⟩
  refine ⟨_, _, rfl, rfl, ⟨by decide, by decide⟩, _, rfl, tr, _, rfl, .inr (SqT.of (s1 _ _ htr)), _, _, rfl, by omega, ⟨by omega, by omega⟩, fun rm rm0 rm1 => ?_⟩
  refine ⟨_, rfl, _, rfl, a, ns, _, _, rfl, s1.seq hS, h63, ⟨by omega, by omega⟩, ⟨by decide, by decide⟩, fun y2 y20 y21 => ?_⟩
  refine ⟨_, _, rfl, rfl, ⟨by decide, by decide⟩, _, rfl, te, _, rfl, .inr (SqT.of (s1 _ _ hte)), _, _, rfl, by omega, ⟨by omega, by omega⟩, fun ev ev0 ev1 => ?_⟩
  refine ⟨_, rfl, _, rfl, _, rfl, tb, _, rfl, .inr (SqT.of (s1 _ _ htb)), _, rfl, tr, _, rfl, .inr (SqT.of (s1 _ _ htr)), a, ns, _, _, _, rfl, s1.seq hS, h63, ⟨k0, k1⟩, ⟨by omega, by omega⟩, ⟨by omega, by omega⟩, fun vg g H3 s2 hg ht lv fit => ?_⟩
  have s3 := s1.trans s2
  refine ⟨_, rfl, _, rfl, _, rfl, _, rfl, _, rfl, _, rfl, _, rfl, a, tb, te, ns, k, 70, bv, bs, es, rfl, s3.seq hS, h63, ⟨k0, k1⟩, ⟨by decide, by decide⟩, s3 _ _ htb, BxsIn.mono hbs (KeepT.of s3), b60, s3 _ _ hte, e60, fun vd ds H4 s4 hd l9 okd => ?_⟩
  refine ⟨_, rfl, _, rfl, small_le (by show 6 ≤ 1000; decide), fun t hT => q _ ⟨rm, ev, g, ds, z, o⟩ _ ((s3.trans s4).trans (same_new hT _)) ⟨t, vg, vd, rfl, upd_same, hg.mono (KeepT.of (s4.trans (same_new hT _))), hd.mono (KeepT.of (same_new hT _))⟩ ⟨ht, lv, fit, l9, okd⟩⟩
end
end K11

namespace K11
open PySem L2 Mix Gds Dds Wds Cht
/-! the rooms that the law draws -/
def nmR (k : Nat) : Str := [("rooma" : Str), "roomb", "roomc", "roomd", "roome", "roomf"].getD k ""
def DepOk (dl : List Int) : Prop := ∀ (k : Nat) (d : Int), dl[k]? = some d → (k = 0 → d = 0) ∧ (k ≠ 0 → 1 ≤ d ∧ d ≤ dl.getD (k - 1) 0 + 1) ∧ 0 ≤ d ∧ d ≤ (k : Int)
theorem dep_one : DepOk [0] := fun k d h => by
  cases k with
  | zero =>
    obtain rfl : (0 : Int) = d := by simpa using h
    exact ⟨fun _ => rfl, fun z => absurd rfl z, by decide, by decide⟩
  | succ k => simp at h
theorem dep_snoc {dl : List Int} {n : Nat} {x : Int} (g : DepOk dl) (hl : dl.length = n + 1) (x1 : 1 ≤ x) (x2 : x ≤ dl.getD n 0 + 1) : DepOk (dl ++ [x]) := fun k d h => by
  have hn : dl[n]? = some (dl.getD n 0) := by
    rw [List.getD_eq_getElem?_getD, List.getElem?_eq_getElem (by omega)]
    rfl
  have gn := (g n _ hn).2.2
  by_cases hk : k < dl.length
  · rw [List.getElem?_append_left hk] at h
    have z := g k d h
    refine ⟨z.1, fun k0 => ?_, z.2.2⟩
    have e : (dl ++ [x]).getD (k - 1) 0 = dl.getD (k - 1) 0 := by
      rw [List.getD_eq_getElem?_getD, List.getD_eq_getElem?_getD, List.getElem?_append_left (by omega)]
    rw [e]
    exact z.2.1 k0
  · have hk2 : k = n + 1 := by
      have := (List.getElem?_eq_some_iff.mp h).1
      rw [List.length_append, List.length_singleton] at this
      omega
    subst hk2
    obtain rfl : x = d := by
      rw [List.getElem?_append_right (by omega), hl] at h
      simpa using h
    refine ⟨fun z => by omega, fun _ => ⟨x1, ?_⟩, by omega, by omega⟩
    have e : (dl ++ [x]).getD (n + 1 - 1) 0 = dl.getD n 0 := by
      rw [List.getD_eq_getElem?_getD, List.getD_eq_getElem?_getD, List.getElem?_append_left (by omega)]
      rfl
    rw [e]
    exact x2
def deepD (dl : List Int) (k : Nat) : Bool := match dl[k + 1]? with
  | none => false
  | some d => decide (dl.getD k 0 < d)
def KK (b : Bool) (kd kp : Str) : Prop := (b = false ∧ kd = "plain" ∧ kp = "") ∨ (b = true ∧ ((kd = "one" ∧ (kp = "" ∨ kp = "deep" ∨ kp = "near")) ∨ (kd = "all" ∧ (kp = "" ∨ kp = "deep"))))
structure RmOk (dl : List Int) (k : Nat) (r : Ro) : Prop where
  nm : r.nm = nmR k
  dp : dl[k]? = some r.depth
  kk : KK (deepD dl k) r.kind r.keeps
  lamp : r.lamp.length ≤ 20
  il : r.ins.length ≤ 9
  iok : ∀ d ∈ r.ins, okS d
  ol : r.outs.length ≤ 9
  ook : ∀ d ∈ r.outs, okS d
def RsOk (dl : List Int) (rs : List Ro) : Prop := ∀ (k : Nat) (r : Ro), rs[k]? = some r → RmOk dl k r
theorem rs_snoc {dl : List Int} {rs : List Ro} {i : Nat} {r : Ro} (g : RsOk dl rs) (hl : rs.length = i) (x : RmOk dl i r) : RsOk dl (rs ++ [r]) := fun k d h => by
  by_cases hk : k < rs.length
  · rw [List.getElem?_append_left hk] at h
    exact g k d h
  · have hk2 : k = i := by
      have := (List.getElem?_eq_some_iff.mp h).1
      rw [List.length_append, List.length_singleton] at this
      omega
    subst hk2
    rw [List.getElem?_append_right (by omega), hl] at h
    obtain rfl : r = d := by simpa using h
    exact x
def spRooms (K : PySem.W.Frag) : Sp := fun vs H Q _ => ∃ (a tb te : Addr) (ns : List Int) (bv : List V) (bs : List Bx) (es : List Str), vs = [.ref a, .ref tb, .ref te] ∧ SqL K H a (ns.map V.int) ∧ ns.length ≤ 63 ∧ H tb = some (.tup bv) ∧ BxsIn H bv bs ∧ bs.length ≤ 60 ∧ H te = some (.tup (es.map V.str)) ∧ es.length ≤ 60 ∧
  ∀ (t : Addr) (rv : List V) (rs : List Ro) (dl : List Int) (H' : Hp), Same H H' → H' t = some (.tup rv) → RosIn H' rv rs → 1 ≤ rs.length → rs.length ≤ 6 → dl.length = rs.length → DepOk dl → RsOk dl rs → Q (.ref t) H'
theorem nm_room : ∀ i : Nat, i < 6 → ∃ c : Nat, atI ("abcdef" : Str).cps.toList (0 + (i : Int)) = some c ∧ ("room" : Str) ++ (⟨#[c]⟩ : Str) = nmR i
  | 0, _ => ⟨97, by rfl, by decide +kernel⟩
  | 1, _ => ⟨98, by rfl, by decide +kernel⟩
  | 2, _ => ⟨99, by rfl, by decide +kernel⟩
  | 3, _ => ⟨100, by rfl, by decide +kernel⟩
  | 4, _ => ⟨101, by rfl, by decide +kernel⟩
  | 5, _ => ⟨102, by rfl, by decide +kernel⟩
  | n + 6, h => absurd h (by omega)
theorem two_at {x : Int} : ∃ kd th : Str, ((kd = "one" ∧ th = "near") ∨ (kd = "all" ∧ th = "deep")) ∧ atI ([("one" : Str), "all"].map V.str) (x % 2) = some (.str kd) ∧ atI ([("near" : Str), "deep"].map V.str) (x % 2) = some (.str th) := by
  rcases (by omega : x % 2 = 0 ∨ x % 2 = 1) with e | e
  · rw [e]
    exact ⟨_, _, .inl ⟨rfl, rfl⟩, rfl, rfl⟩
  · rw [e]
    exact ⟨_, _, .inr ⟨rfl, rfl⟩, rfl, rfl⟩
section
variable {P : Program} {w : World} {K : PySem.W.Frag} {mg : Str → Option Value} {base : Heap}
theorem sc_law_rooms : FnScope ["_law_script", "_law_boxes", "_law_events", "_law_many", "_law_depths", "_law_k", "_law_rooms_here", "_law_number", "_law_kind", "_law_keeps", "_law_ins", "_law_outs", "_law_lamp"] ["_law_script", "_law_boxes", "_law_events"] (defScope sRoomsF) := ⟨rfl, rfl, rfl, by decide +kernel, rfl, by decide +kernel, by decide +kernel⟩
theorem ok_rooms {f gm gd : Addr} {fd dm dd : FuncData} (F : Fun K "_law_rooms" "_law_rooms" sRoomsF f fd)
    (G_law_mixed : FnOk P w K mg base CX0 5 gm dm ["_law_script", "_law_k", "_law_salt"] (spMixed K)) (b_law_mixed : Binds K dm ["_law_script", "_law_k", "_law_salt"] []) (k_law_mixed : PySem.W.keepIn K (.ref gm) = true) (m_law_mixed : mg "_law_mixed" = some (.ref gm))
    (G_law_deeds : FnOk P w K mg base CX0 5 gd dd ["_law_script", "_law_k", "_law_salt", "_law_boxes", "_law_events"] (spDeeds K)) (b_law_deeds : Binds K dd ["_law_script", "_law_k", "_law_salt", "_law_boxes", "_law_events"] []) (k_law_deeds : PySem.W.keepIn K (.ref gd) = true) (m_law_deeds : mg "_law_deeds" = some (.ref gd))
    (m_range : mg "range" = none) (m_tuple : mg "tuple" = none) : FnOk P w K mg base CX0 6 f fd ["_law_script", "_law_boxes", "_law_events"] (spRooms K) := by
  refine F.ok sc_law_rooms (fun vs H Q E h => ?_) (fun cdv A outer s H vs Q E hr h => ?_)
  · obtain ⟨a, tb, te, ns, bv, bs, es, rfl, _⟩ := h
    rfl
  obtain ⟨a, tb, te, ns, bv, bs, es, rfl, hS, h63, htb, hbs, b60, hte, e60, q⟩ := h
  refine ⟨_, (pss_cons (ps_set (i := 3) sc_law_rooms.nd rfl (Or.inl rfl) (pe_op op_add pe_int (pe_op op_mod (pe_call G_law_mixed hr rfl m_law_mixed k_law_mixed b_law_mixed .nil pass0 (pa_cons (pv 0) (pa_cons pe_int (pa_cons pe_int pa_nil)))) pe_int)))
    (pss_cons (ps_set (i := 4) sc_law_rooms.nd rfl (Or.inl rfl) (pe_lst (pa_cons pe_int pa_nil)))
    (pss_cut (ps_for PassesOwn.never rfl (pi_range2 rfl m_range (pa_cons pe_int (pa_cons (pv 3) pa_nil))) (pg_name (i := 5) sc_law_rooms.nd rfl (Or.inl rfl))
      (pss_one (ps_expr (pe_bm PySem.F.plainAttrs_list PySem.F.slot_list_append PySem.F.type_list_append mt_append (pv 4) (pa_cons (pe_op op_add pe_int (pe_op op_mod (pe_call G_law_mixed hr rfl m_law_mixed k_law_mixed b_law_mixed .nil pass0 (pa_cons (pv 0) (pa_cons (pv 5) (pa_cons pe_int pa_nil)))) (pe_op op_add (pe_ix ix_list (pv 4) (pe_op op_sub (pv 5) pe_int) (fun _ _ => rfl)) pe_int))) pa_nil)))))
    (pss_cons (ps_set (i := 6) sc_law_rooms.nd rfl (Or.inl rfl) (pe_lst pa_nil))
    (pss_cut (ps_for PassesOwn.never rfl (pi_range1 rfl m_range (pa_cons (pv 3) pa_nil)) (pg_name (i := 5) sc_law_rooms.nd rfl (Or.inl rfl))
      (pss_cons (ps_set (i := 7) sc_law_rooms.nd rfl (Or.inl rfl) (pe_call G_law_mixed hr rfl m_law_mixed k_law_mixed b_law_mixed .nil pass0 (pa_cons (pv 0) (pa_cons (pv 5) (pa_cons pe_int pa_nil)))))
      (pss_cons (ps_set (i := 8) sc_law_rooms.nd rfl (Or.inl rfl) pe_str)
      (pss_cons (ps_set (i := 9) sc_law_rooms.nd rfl (Or.inl rfl) pe_str)
      (pss_cut (ps_if (pt_cut (PW.pt (pw_and (pt_cmpR op_lt (pe_op op_add (pv 5) pe_int) (pv 3) (nomark _)) (pw_and1 (pt_cmpR op_gt (pe_ix ix_list (pv 4) (pe_op op_add (pv 5) pe_int) (fun _ _ => rfl)) (pe_ix ix_list (pv 4) (pv 5) (fun _ _ => rfl)) (nomark _))))))
        (pss_cons (ps_set (i := 8) sc_law_rooms.nd rfl (Or.inl rfl) (pe_ix ix_list (pe_lst (pa_cons pe_str (pa_cons pe_str pa_nil))) (pe_op op_mod (pv 7) pe_int) (fun _ _ => rfl)))
        (pss_one (ps_set (i := 9) sc_law_rooms.nd rfl (Or.inl rfl) (pe_ix ix_list (pe_lst (pa_cons pe_str (pa_cons pe_str (pa_cons (pe_ix ix_list (pe_lst (pa_cons pe_str (pa_cons pe_str pa_nil))) (pe_op op_mod (pv 7) pe_int) (fun _ _ => rfl)) pa_nil)))) (pe_op op_mod (pe_op op_fdiv (pv 7) pe_int) pe_int) (fun _ _ => rfl)))))
        pss_nil)
      (pss_cons (ps_set (i := 10) sc_law_rooms.nd rfl (Or.inl rfl) (pe_call G_law_deeds hr rfl m_law_deeds k_law_deeds b_law_deeds .nil pass0 (pa_cons (pv 0) (pa_cons (pv 5) (pa_cons pe_int (pa_cons (pv 1) (pa_cons (pv 2) pa_nil)))))))
      (pss_cons (ps_set (i := 11) sc_law_rooms.nd rfl (Or.inl rfl) (pe_call G_law_deeds hr rfl m_law_deeds k_law_deeds b_law_deeds .nil pass0 (pa_cons (pv 0) (pa_cons (pv 5) (pa_cons pe_int (pa_cons (pv 1) (pa_cons (pv 2) pa_nil)))))))
      (pss_cons (ps_set (i := 12) sc_law_rooms.nd rfl (Or.inl rfl) (pe_ix ix_list (pe_lst (pa_consts (vs := [("" : Str), "red", "", "green", "Red", "red red"].map V.str) rfl)) (pe_op op_mod (pe_op op_fdiv (pv 7) pe_int) pe_int) (fun _ _ => rfl)))
      (pss_one (ps_expr (pe_bm PySem.F.plainAttrs_list PySem.F.slot_list_append PySem.F.type_list_append mt_append (pv 6) (pa_cons (pe_tup (pa_cons (pe_op op_add_str pe_str (pe_ix ix_str pe_str (pv 5) (fun _ _ => rfl))) (pa_cons (pv 8) (pa_cons (pe_ix ix_list (pv 4) (pv 5) (fun _ _ => rfl)) (pa_cons (pv 9) (pa_cons (pv 12) (pa_cons (pv 10) (pa_cons (pv 11) pa_nil)))))))) pa_nil))))))))))))
    (pss_one (ps_ret (pe_callTy call_tuple_of rfl m_tuple PyProof.Rows.boot_tuple (pa_cons (pv 6) pa_nil))))))))), ?_⟩
  refine ⟨_, rfl, a, ns, _, _, rfl, hS, h63, ⟨by decide, by decide⟩, ⟨by decide, by decide⟩, fun x x0 x1 => ⟨_, _, rfl, rfl, (by show (0 : Int) < 6; decide), _, _, rfl, rfl, ?_⟩⟩
  obtain ⟨m, em, m1, m6⟩ : ∃ m : Nat, (fun i j : Int => V.int (i + j)) 1 (x % 6) = V.int (m : Int) ∧ 1 ≤ m ∧ m ≤ 6 := ⟨(1 + x % 6).toNat, (by show V.int (1 + x % 6) = _; rw [show (((1 + x % 6).toNat : Nat) : Int) = 1 + x % 6 by omega]), by omega, by omega⟩
  rw [em]
  clear em
  refine ⟨small_le (by show 1 ≤ 1000; decide), fun pd hpd => ?_⟩
  refine ⟨fun σ' H' => ∃ dl : List Int, Same H H' ∧ H' pd = some (.lst (dl.map V.int)) ∧ DepOk dl ∧ dl.length = m ∧ ∃ o5 : Option V, σ' = [some (.ref a), some (.ref tb), some (.ref te), some (.int (m : Int)), some (.ref pd), o5, none, none, none, none, none, none, none], ?_, ?_⟩
  · refine ⟨_, rfl, 1, (m : Int), rfl, ⟨by decide, by decide, by omega, by omega⟩, ?_⟩
    refine for_range (fun i σ' H' => ∃ dl : List Int, Same H H' ∧ H' pd = some (.lst (dl.map V.int)) ∧ DepOk dl ∧ dl.length = i + 1 ∧ ∃ o5 : Option V, σ' = [some (.ref a), some (.ref tb), some (.ref te), some (.int (m : Int)), some (.ref pd), o5, none, none, none, none, none, none, none])
      ⟨[0], same_new hpd _, upd_same, dep_one, rfl, none, rfl⟩ ?_ ?_
    · rintro i σ' H2 hi ⟨dl, s2, h2, good, hl, o5, rfl⟩
      have hn : dl[i]? = some (dl.getD i 0) := by
        rw [List.getD_eq_getElem?_getD, List.getElem?_eq_getElem (by omega)]
        rfl
      have gn := (good i _ hn).2.2
      have hat : atI (dl.map V.int) (1 + (i : Int) - 1) = some (.int (dl.getD i 0)) := by
        rw [show (1 + (i : Int)) - 1 = (i : Int) by omega]
        exact atI_nat (by rw [List.getElem?_map, hn]; rfl)
      refine ⟨_, rfl, .inl ⟨rfl, _, SqL.of h2⟩, _, rfl, _, rfl, a, ns, _, _, rfl, s2.seq hS, h63, ⟨by omega, by omega⟩, ⟨by decide, by decide⟩, fun y y0 y1 => ?_⟩
      have hy0 := Int.emod_nonneg y (show dl.getD i 0 + 1 ≠ 0 by omega)
      have hy1 := Int.emod_lt_of_pos y (show 0 < dl.getD i 0 + 1 by omega)
      refine ⟨_, rfl, _, rfl, _, _, rfl, rfl, pd, _, _, _, rfl, rfl, SqL.of h2, hat, _, _, rfl, rfl, _, _, rfl, rfl, (by show (0 : Int) < dl.getD i 0 + 1; omega), _, _, rfl, rfl, pd, _, _, rfl, rfl, h2, small1000 (by rw [List.length_map]; omega), ?_⟩
      refine ⟨dl ++ [1 + y % (dl.getD i 0 + 1)], fun b o e => ?_, ?_, dep_snoc good hl (by omega) (by omega), by simp [hl], _, rfl⟩
      · rw [upd_ne (ne_of_none e hpd)]
        exact s2 _ _ e
      · rw [upd_same, List.map_append]
        rfl
    · rintro σ' H2 ⟨dl, s2, h2, good, hl, o5, rfl⟩
      exact ⟨dl, s2, h2, good, by omega, o5, rfl⟩
  rintro σ1 H1 ⟨dl, s1, h1, good, hl, o5, rfl⟩
  refine ⟨Nat.zero_le _, fun pl hpl => ?_⟩
  have hpl0 : H pl = none := s1.free hpl
  have s2 := s1.trans (same_new hpl (.lst []))
  have hd0 := same_new hpl (.lst []) _ _ h1
  have npd : pl ≠ pd := fun e => by
    rw [e, h1] at hpl
    cases hpl
  have hdn : ∀ i : Nat, i < m → dl[i]? = some (dl.getD i 0) := fun i hi => by
    rw [List.getD_eq_getElem?_getD, List.getElem?_eq_getElem (by omega)]
    rfl
  have hdat : ∀ i : Nat, i < m → atI (dl.map V.int) (0 + (i : Int)) = some (.int (dl.getD i 0)) := fun i hi => by
    rw [Int.zero_add]
    exact atI_nat (by rw [List.getElem?_map, hdn i hi]; rfl)
  refine ⟨fun σ' H' => ∃ (rv : List V) (rs : List Ro), Same H H' ∧ H' pl = some (.lst rv) ∧ RosIn H' rv rs ∧ rs.length = m ∧ RsOk dl rs ∧ ∃ o5 o7 o8 o9 o10 o11 o12 : Option V, σ' = [some (.ref a), some (.ref tb), some (.ref te), some (.int (m : Int)), some (.ref pd), o5, some (.ref pl), o7, o8, o9, o10, o11, o12], ?_, ?_⟩
  · refine ⟨_, rfl, (m : Int), rfl, by omega, by omega, ?_⟩
    refine for_range (fun i σ' H' => ∃ (rv : List V) (rs : List Ro), Same H H' ∧ H' pl = some (.lst rv) ∧ H' pd = some (.lst (dl.map V.int)) ∧ RosIn H' rv rs ∧ rs.length = i ∧ RsOk dl rs ∧ ∃ o5 o7 o8 o9 o10 o11 o12 : Option V, σ' = [some (.ref a), some (.ref tb), some (.ref te), some (.int (m : Int)), some (.ref pd), o5, some (.ref pl), o7, o8, o9, o10, o11, o12])
      ⟨[], [], s2, upd_same, hd0, .nil, rfl, fun k r h => by simp at h, _, _, _, _, _, _, _, rfl⟩ ?_ ?_
    · rintro i σ' H3 hi ⟨rv, rs, s3, h3, hd3, r3, l3, ok3, o5, o7, o8, o9, o10, o11, o12, rfl⟩
      have hi' : i < m := by omega
      have l3' := r3.length
      refine ⟨_, rfl, _, rfl, a, ns, _, _, rfl, s3.seq hS, h63, ⟨by omega, by omega⟩, ⟨by decide, by decide⟩, fun y y0 y1 => ?_⟩
      refine ⟨fun σ' H4 => Same H3 H4 ∧ ∃ kd kp : Str, KK (deepD dl i) kd kp ∧ σ' = [some (.ref a), some (.ref tb), some (.ref te), some (.int (m : Int)), some (.ref pd), some (.int (0 + (i : Int))), some (.ref pl), some (.int y), some (.str kd), some (.str kp), o10, o11, o12], ?_, ?_⟩
      · refine ⟨fun c H4 => H4 = H3 ∧ c = deepD dl i, ?_, ?_⟩
        · refine ⟨_, rfl, _, _, rfl, rfl, _, rfl, _, _, rfl, rfl, _, rfl, ?_⟩
          refine itB (fun c => ?_) (fun c => ?_)
          · have c' := of_decide_eq_true c
            have h1 : i + 1 < m := by omega
            have hat : atI (dl.map V.int) (0 + (i : Int) + 1) = some (.int (dl.getD (i + 1) 0)) := by
              rw [show 0 + (i : Int) + 1 = 0 + ((i + 1 : Nat) : Int) by omega]
              exact hdat _ h1
            refine ⟨_, rfl, _, rfl, _, _, rfl, rfl, pd, _, _, _, rfl, rfl, SqL.of hd3, hat, _, rfl, _, rfl, pd, _, _, _, rfl, rfl, SqL.of hd3, hdat i hi', _, _, rfl, rfl, _, rfl, rfl, ?_⟩
            unfold deepD
            rw [hdn _ h1]
          · have c' := of_decide_eq_false c
            refine ⟨rfl, ?_⟩
            unfold deepD
            rw [List.getElem?_eq_none (by omega)]
        rintro c H4 ⟨rfl, rfl⟩
        refine itB (fun c => ?_) (fun c => ⟨Same.refl _, _, _, .inl ⟨c, rfl, rfl⟩, rfl⟩)
        obtain ⟨kd, th, hkt, ha1, ha2⟩ := two_at (x := y)
        refine ⟨small_le (by show 2 ≤ 1000; decide), fun p1 hp1 => ⟨_, rfl, _, _, rfl, rfl, (by show (0 : Int) < 2; decide), p1, _, _, _, rfl, rfl, SqL.of upd_same, ha1, ?_⟩⟩
        refine ⟨small_le (by show 2 ≤ 1000; decide), fun p2 hp2 => ⟨_, rfl, _, _, rfl, rfl, (by show (0 : Int) < 2; decide), p2, _, _, _, rfl, rfl, SqL.of upd_same, ha2, ?_⟩⟩
        obtain ⟨kp, hkp, ha3⟩ := atI_strs (zs := [("" : Str), "deep", th]) (i := y / 2 % 3) (by omega) (by show _ < (3 : Int); omega)
        refine ⟨small_le (by show 3 ≤ 1000; decide), fun p3 hp3 => ⟨_, rfl, _, _, rfl, rfl, ⟨by decide, by decide⟩, _, _, rfl, rfl, (by show (0 : Int) < 3; decide), p3, _, _, _, rfl, rfl, SqL.of upd_same, ha3, ?_⟩⟩
        refine ⟨((same_new hp1 _).trans (same_new hp2 _)).trans (same_new hp3 _), kd, kp, .inr ⟨c, ?_⟩, rfl⟩
        simp only [List.mem_cons, List.not_mem_nil, or_false] at hkp
        rcases hkt with ⟨rfl, rfl⟩ | ⟨rfl, rfl⟩
        · exact .inl ⟨rfl, hkp⟩
        · refine .inr ⟨rfl, ?_⟩
          rcases hkp with e | e | e
          · exact .inl e
          · exact .inr e
          · exact .inr e
      rintro σ4 H4 ⟨s4, kd, kp, hkk, rfl⟩
      have s34 := s3.trans s4
      refine ⟨_, rfl, _, rfl, _, rfl, _, rfl, a, tb, te, ns, _, 50, bv, bs, es, rfl, s34.seq hS, h63, ⟨by omega, by omega⟩, ⟨by decide, by decide⟩, s34 _ _ htb, BxsIn.mono hbs (KeepT.of s34), b60, s34 _ _ hte, e60, fun vi di H5 s5 hi5 li oki => ?_⟩
      have s35 := s34.trans s5
      refine ⟨_, rfl, _, rfl, _, rfl, _, rfl, a, tb, te, ns, _, 60, bv, bs, es, rfl, s35.seq hS, h63, ⟨by omega, by omega⟩, ⟨by decide, by decide⟩, s35 _ _ htb, BxsIn.mono hbs (KeepT.of s35), b60, s35 _ _ hte, e60, fun vo dou H6 s6 ho6 lo oko => ?_⟩
      obtain ⟨lp, hlp, ha4⟩ := atI_strs (zs := [("" : Str), "red", "", "green", "Red", "red red"]) (i := y / 6 % 6) (by omega) (by show _ < (6 : Int); omega)
      have llp := (by decide +kernel : ∀ z ∈ [("" : Str), "red", "", "green", "Red", "red red"], z.length ≤ 20) lp hlp
      refine ⟨small_le (by show 6 ≤ 1000; decide), fun p7 hp7 => ⟨_, rfl, _, _, rfl, rfl, ⟨by decide, by decide⟩, _, _, rfl, rfl, (by show (0 : Int) < 6; decide), p7, _, _, _, rfl, rfl, SqL.of upd_same, ha4, ?_⟩⟩
      have s7 := same_new hp7 (.lst ([("" : Str), "red", "", "green", "Red", "red red"].map V.str))
      have s47 := ((s4.trans s5).trans s6).trans s7
      generalize upd H6 p7 (.lst ([("" : Str), "red", "", "green", "Red", "red red"].map V.str)) = H7 at s7 s47 ⊢
      obtain ⟨c, hc, ec⟩ := nm_room i (by omega)
      refine ⟨_, rfl, .inl ⟨rfl, _, SqL.of (s47 _ _ h3)⟩, _, rfl, _, _, c, rfl, rfl, small_le (by decide +kernel), hc, _, _, rfl, rfl, small_le (by rw [len1]; decide +kernel), _, rfl, _, rfl, _, rfl, pd, _, _, _, rfl, rfl, SqL.of (s47 _ _ hd3), hdat i hi', _, rfl, _, rfl, _, rfl, _, rfl, small_le (by show 7 ≤ 1000; decide), fun t8 ht8 => ?_⟩
      have s8 := same_new ht8 (.tup [.str (("room" : Str) ++ ⟨#[c]⟩), .str kd, .int (dl.getD i 0), .str kp, .str lp, vi, vo])
      have s48 := s47.trans s8
      have h8 := s48 _ _ h3
      refine ⟨pl, _, _, rfl, rfl, h8, small1000 (by omega), rv ++ [.ref t8], rs ++ [⟨nmR i, kd, dl.getD i 0, kp, lp, di, dou⟩], fun b o e => ?_, upd_same, ?_, ?_, by simp [l3], rs_snoc ok3 l3 ⟨rfl, hdn i hi', hkk, llp, li, oki, lo, oko⟩, _, _, _, _, _, _, _, rfl⟩
      · rw [upd_ne (ne_of_none e hpl0)]
        exact (s3.trans s48) _ _ e
      · rw [upd_ne npd.symm]
        exact s48 _ _ hd3
      · have kk := KeepT.lst h8 (.lst (rv ++ [V.ref t8]))
        refine (RosIn.mono (RosIn.mono r3 (KeepT.of s48)) kk).snoc ⟨t8, vi, vo, rfl, ?_, (hi5.mono (KeepT.of ((s6.trans s7).trans s8))).mono kk, (ho6.mono (KeepT.of (s7.trans s8))).mono kk⟩
        refine kk _ _ ?_
        rw [upd_same, ec]
    · rintro σ' H2 ⟨rv, rs, s3, h3, hd3, r3, l3, ok3, rest⟩
      exact ⟨rv, rs, s3, h3, r3, by omega, ok3, rest⟩
  rintro σ' H' ⟨rv, rs, s3, h3, r3, l3, ok3, o5, o7, o8, o9, o10, o11, o12, rfl⟩
  refine ⟨_, rfl, pl, _, rfl, .inl ⟨SqL.of h3, fun t ht => ?_⟩⟩
  exact q t rv rs dl _ (s3.trans (same_new ht _)) upd_same (RosIn.mono r3 (KeepT.of (same_new ht _))) (by omega) (by omega) (by omega) good ok3
end
end K11

namespace K11
open PySem L2 Mix Gds Dds Wds Cht
/-! what the law's own counting comes to -/
def nmB (k : Nat) : Str := [("boxx" : Str), "boxy", "boxz"].getD k ""
def BOk (bs : List Bx) : Prop := ∀ (k : Nat) (b : Bx), bs[k]? = some b → b.nm = nmB k ∧ (b.start = 0 ∨ b.start = b.size - 1)
theorem bs_snoc {bs : List Bx} {i : Nat} {b : Bx} (g : BOk bs) (hl : bs.length = i) (x : b.nm = nmB i ∧ (b.start = 0 ∨ b.start = b.size - 1)) : BOk (bs ++ [b]) := fun k d h => by
  by_cases hk : k < bs.length
  · rw [List.getElem?_append_left hk] at h
    exact g k d h
  · have hk2 : k = i := by
      have := (List.getElem?_eq_some_iff.mp h).1
      rw [List.length_append, List.length_singleton] at this
      omega
    subst hk2
    rw [List.getElem?_append_right (by omega), hl, Nat.sub_self] at h
    cases h
    exact x
theorem take_not {α : Type} {l : List α} {f : α → Str} {nm : Nat → Str} {k : Nat} (h : ∀ (i : Nat) (x : α), l[i]? = some x → f x = nm i) (d : ∀ i, i < k → nm i ≠ nm k) : ((l.take k).map f).contains (nm k) = false := by
  rw [Bool.eq_false_iff]
  intro z
  obtain ⟨x, hx, e⟩ := List.mem_map.mp (List.mem_of_elem_eq_true z)
  obtain ⟨i, hi⟩ := List.mem_iff_getElem?.mp hx
  rw [List.getElem?_take] at hi
  split at hi
  · rename_i hk
    exact d i hk ((h i x hi).symm.trans e)
  · cases hi
theorem nmB_w : ∀ k, k < 3 → isW (nmB k) = true := by decide +kernel
theorem nmB_d : ∀ k, k < 3 → ∀ i, i < k → nmB i ≠ nmB k := by decide +kernel
theorem nmR_w : ∀ k, k < 6 → isW (nmR k) = true := by decide +kernel
theorem nmR_d : ∀ k, k < 6 → ∀ i, i < k → nmR i ≠ nmR k := by decide +kernel
theorem badBx_eq {bs : List Bx} {k : Nat} {b : Bx} (h : BOk bs) (hl : bs.length ≤ 3) (e : bs[k]? = some b) : badBx bs k = !within 1 big b.size := by
  have hk : k < bs.length := (List.getElem?_eq_some_iff.mp e).1
  obtain ⟨h1, h2⟩ := h k b e
  unfold badBx
  rw [e]
  show (!isW b.nm || ((bs.take k).map (·.nm)).contains b.nm || !within 1 big b.size || !(decide (0 ≤ b.start) && decide (b.start < b.size))) = _
  rw [h1, nmB_w k (by omega), take_not (nm := nmB) (fun i x hx => (h i x hx).1) (nmB_d k (by omega))]
  unfold within
  rw [Bool.eq_iff_iff]
  simp only [Bool.or_eq_true, Bool.not_eq_true', Bool.and_eq_false_iff, decide_eq_false_iff_not, Bool.not_true, Bool.false_or]
  omega
theorem deps_eq {dl : List Int} {rs : List Ro} (hd : dl.length = rs.length) (R : RsOk dl rs) : rs.map (·.depth) = dl := by
  apply List.ext_getElem?
  intro i
  rw [List.getElem?_map]
  by_cases h : i < rs.length
  · have e : rs[i]? = some rs[i] := List.getElem?_eq_getElem h
    rw [(R i _ e).dp, e]
    rfl
  · rw [List.getElem?_eq_none (by omega), List.getElem?_eq_none (by omega)]
    rfl
theorem badRo_eq (bs : List Bx) (ne : Nat) {dl : List Int} {rs : List Ro} {k : Nat} {r : Ro} (hl : rs.length ≤ 6) (hd : dl.length = rs.length) (D : DepOk dl) (R : RsOk dl rs) (e : rs[k]? = some r) :
    badRo bs ne rs k = ((badDeeds bs ne r.ins || badDeeds bs ne r.outs) || (!decide (r.lamp = "") && !isW r.lamp)) := by
  have hk : k < rs.length := (List.getElem?_eq_some_iff.mp e).1
  have g := R k r e
  have hdp := D k _ g.dp
  have hm := deps_eq hd R
  have eD : deeper rs k r.depth = deepD dl k := by
    unfold deeper deepD
    rw [← hm, List.getElem?_map]
    have e0 : (rs.map (·.depth)).getD k 0 = r.depth := by
      rw [List.getD_eq_getElem?_getD, List.getElem?_map, e]
      rfl
    cases rs[k + 1]? with
    | none => rfl
    | some r2 =>
      show decide (r.depth < r2.depth) = decide ((rs.map (·.depth)).getD k 0 < r2.depth)
      rw [e0]
  have eS : badShape rs k r = false := by
    unfold badShape
    rw [eD, hm]
    have e3 : (if k = 0 then decide (r.depth ≠ 0) else !within 1 (min 12 (dl.getD (k - 1) 0 + 1)) r.depth) = false := by
      split
      · rename_i h0
        simp [hdp.1 h0]
      · rename_i h0
        have := hdp.2.1 h0
        have h5 := hdp.2.2.2
        unfold within
        rw [decide_eq_true (by omega : 1 ≤ r.depth), decide_eq_true (by omega : r.depth ≤ min 12 (dl.getD (k - 1) 0 + 1))]
        rfl
    rw [e3]
    rcases g.kk with ⟨k1, k2, k3⟩ | ⟨k1, ⟨k2, k3⟩ | ⟨k2, k3⟩⟩ <;> rw [k1, k2] <;> decide +kernel
  have eK : badKeeps r = false := by
    unfold badKeeps
    rcases g.kk with ⟨k1, k2, k3⟩ | ⟨k1, ⟨k2, k3 | k3 | k3⟩ | ⟨k2, k3 | k3⟩⟩ <;> rw [k2, k3] <;> decide +kernel
  unfold badRo
  rw [e]
  show (!isW r.nm || ((rs.take k).map (·.nm)).contains r.nm || badShape rs k r || badKeeps r || (!decide (r.lamp = "") && !isW r.lamp) || badDeeds bs ne r.ins || badDeeds bs ne r.outs) = _
  rw [eS, eK, g.nm, nmR_w k (by omega), take_not (nm := nmR) (fun i x hx => (R i x hx).nm) (nmR_d k (by omega))]
  generalize (!decide (r.lamp = "") && !isW r.lamp) = b1
  generalize badDeeds bs ne r.ins = b2
  generalize badDeeds bs ne r.outs = b3
  cases b1 <;> cases b2 <;> cases b3 <;> rfl
def E3 : List Str := ["knock", "ring", "call"]
theorem marks_no {nm : Str} {n : Nat} {bad : Nat → Bool} (h : ∀ k, k < n → bad k = false) : marks nm n bad = [] := by
  unfold marks
  have : (List.range n).filter bad = [] := List.filter_eq_nil_iff.mpr fun k hk => by
    rw [h k (List.mem_range.mp hk)]
    decide
  rw [this]
  rfl
theorem ev_ok : ∀ m, m < 4 → ∀ k, k < 3 → badEv (E3.take m) k = false := by decide +kernel
theorem ev_len (m : Nat) : (E3.take m).length ≤ 3 := by
  rw [List.length_take]
  exact Nat.min_le_right _ _
theorem ev_nm : ∀ e ∈ E3, e.length ≤ 1000 := by decide +kernel
def dueOf (bs : List Bx) (ne : Nat) (rs : List Ro) (ds : List Dr) : List Ft :=
  marks "box" bs.length (badBx bs) ++ one "rooms" (decide (rs.length = 0)) ++ marks "room" rs.length (badRo bs ne rs) ++ one "doors" (decide (60 < ds.length)) ++ marks "door" ds.length (badDrAt bs ne rs ds)
theorem faults_eq {z : Str} {bs : List Bx} {m : Nat} {rs : List Ro} {ds : List Dr} (hz : z = "inner" ∨ z = "outer") (hb : bs.length ≤ 3) (hm : m < 4) (hr : rs.length ≤ 6) :
    faultsOf ⟨z, 3, 4, bs, E3.take m, rs, ds⟩ = dueOf bs (E3.take m).length rs ds := by
  unfold faultsOf dueOf
  have e1 : one "order" (!([("inner" : Str), "outer"].contains z)) = [] := by
    rcases hz with e | e <;> rw [e] <;> decide +kernel
  have e2 : one "letters" (!within 0 12 3) = [] := by decide +kernel
  have e3 : one "turns" (!within 1 20 4) = [] := by decide +kernel
  have e4 : one "boxes" (decide (6 < bs.length)) = [] := by rw [decide_eq_false (by omega)]; rfl
  have l := ev_len m
  have e5 : one "events" (decide (8 < (E3.take m).length)) = [] := by rw [decide_eq_false (by omega)]; rfl
  have e6 : marks "event" (E3.take m).length (badEv (E3.take m)) = [] := marks_no fun k hk => ev_ok m hm k (by omega)
  have e7 : (decide (rs.length = 0) || decide (40 < rs.length)) = decide (rs.length = 0) := by rw [decide_eq_false (by omega : ¬ 40 < rs.length), Bool.or_false]
  show one "order" _ ++ one "letters" (!within 0 12 3) ++ one "turns" (!within 1 20 4) ++ one "boxes" (decide (6 < bs.length)) ++ marks "box" bs.length (badBx bs) ++ one "events" (decide (8 < (E3.take m).length)) ++ marks "event" (E3.take m).length (badEv (E3.take m)) ++ one "rooms" (decide (rs.length = 0) || decide (40 < rs.length)) ++ marks "room" rs.length (badRo bs (E3.take m).length rs) ++ one "doors" (decide (60 < ds.length)) ++ marks "door" ds.length (badDrAt bs (E3.take m).length rs ds) = _
  rw [e1, e2, e3, e4, e5, e6, e7]
  simp only [List.nil_append, List.append_nil]
theorem due_len {bs : List Bx} {ne : Nat} {rs : List Ro} {ds : List Dr} (hb : bs.length ≤ 3) (hr : rs.length ≤ 6) (hd : ds.length ≤ 62) : (dueOf bs ne rs ds).length ≤ 1000 := by
  unfold dueOf
  have g1 := marks_len "box" bs.length (badBx bs)
  have g2 := one_len "rooms" (decide (rs.length = 0))
  have g3 := marks_len "room" rs.length (badRo bs ne rs)
  have g4 := one_len "doors" (decide (60 < ds.length))
  have g5 := marks_len "door" ds.length (badDrAt bs ne rs ds)
  simp only [List.length_append]
  omega
theorem atI_ints {zs : List Int} {i : Int} (h0 : 0 ≤ i) (h1 : i < (zs.length : Int)) : ∃ z ∈ zs, atI (zs.map V.int) i = some (.int z) := by
  obtain ⟨v, hv, e⟩ := atI_some (xs := zs.map V.int) (i := i) h0 (by rw [List.length_map]; exact h1)
  obtain ⟨z, hz, rfl⟩ := List.mem_map.mp hv
  exact ⟨z, hz, e⟩
theorem nm_box : ∀ i : Nat, i < 3 → ∃ c : Nat, atI ("xyz" : Str).cps.toList (0 + (i : Int)) = some c ∧ ("box" : Str) ++ (⟨#[c]⟩ : Str) = nmB i
  | 0, _ => ⟨120, by rfl, by decide +kernel⟩
  | 1, _ => ⟨121, by rfl, by decide +kernel⟩
  | 2, _ => ⟨122, by rfl, by decide +kernel⟩
  | n + 3, h => absurd h (by omega)
end K11

namespace K11
open PySem L2 Mix Gds Dds Wds Cht
def spLaw (K : PySem.W.Frag) : Sp := fun vs H Q _ => ∃ (a : Addr) (ns : List Int), vs = [.ref a] ∧ SqL K H a (ns.map V.int) ∧ ns.length ≤ 63 ∧ ∀ H', Q (.bl true) H'
/-- what is drawn so far -/
structure Bs (H0 H : Hp) (tb : Addr) (bs : List Bx) : Prop where
  same : Same H0 H
  ex : ∃ bv, H tb = some (.tup bv) ∧ BxsIn H bv bs
  len : bs.length ≤ 3
  ok : BOk bs
structure Rs (H : Hp) (tr : Addr) (rs : List Ro) (dl : List Int) : Prop where
  ex : ∃ rv, H tr = some (.tup rv) ∧ RosIn H rv rs
  len : rs.length ≤ 6
  dep : rs ≠ [] → dl.length = rs.length ∧ DepOk dl
  ok : RsOk dl rs
structure Ds (H : Hp) (td : Addr) (ds : List Dr) : Prop where
  ex : ∃ dv, H td = some (.tup dv) ∧ DrsIn H dv ds
  ok : ∀ d ∈ ds, okDr d
theorem Bs.mono {H0 H H' : Hp} {tb : Addr} {bs : List Bx} (x : Bs H0 H tb bs) (s : Same H H') : Bs H0 H' tb bs := by
  obtain ⟨a, ⟨bv, b, c⟩, d, e⟩ := x
  exact ⟨a.trans s, ⟨bv, s _ _ b, BxsIn.mono c (KeepT.of s)⟩, d, e⟩
theorem Rs.mono {H H' : Hp} {tr : Addr} {rs : List Ro} {dl : List Int} (x : Rs H tr rs dl) (s : Same H H') : Rs H' tr rs dl := by
  obtain ⟨⟨rv, b, c⟩, d, e, f⟩ := x
  exact ⟨⟨rv, s _ _ b, RosIn.mono c (KeepT.of s)⟩, d, e, f⟩
theorem Ds.mono {H H' : Hp} {td : Addr} {ds : List Dr} (x : Ds H td ds) (s : Same H H') : Ds H' td ds := by
  obtain ⟨⟨dv, b, c⟩, d⟩ := x
  exact ⟨⟨dv, s _ _ b, DrsIn.mono c (KeepT.of s)⟩, d⟩
section
variable {P : Program} {w : World} {K : PySem.W.Frag} {mg : Str → Option Value} {base : Heap}
theorem sc_law : FnScope ["_law_script", "_law_boxes", "_law_k", "_law_number", "_law_size", "_law_events", "_law_rooms_here", "_law_many", "_law_doors", "_law_due", "_law_bad", "_law_chart", "_law_found"] ["_law_script"] (defScope sLawF) := ⟨rfl, rfl, rfl, by decide +kernel, rfl, by decide +kernel, by decide +kernel⟩
theorem ok_law {n : Nat} {f gc gm gr go gw gb gd gf gl : Addr} {fd dc dm dr do' dw db dd df dl' : FuncData} (F : Fun K "law" "law" sLawF f fd)
    (G_law_cell_at : FnOk P w K mg base CX0 n gc dc ["_law_script", "_law_k"] (spCell K)) (b_law_cell_at : Binds K dc ["_law_script", "_law_k"] []) (k_law_cell_at : PySem.W.keepIn K (.ref gc) = true) (m_law_cell_at : mg "_law_cell_at" = some (.ref gc))
    (G_law_mixed : FnOk P w K mg base CX0 n gm dm ["_law_script", "_law_k", "_law_salt"] (spMixed K)) (b_law_mixed : Binds K dm ["_law_script", "_law_k", "_law_salt"] []) (k_law_mixed : PySem.W.keepIn K (.ref gm) = true) (m_law_mixed : mg "_law_mixed" = some (.ref gm))
    (G_law_rooms : FnOk P w K mg base CX0 n gr dr ["_law_script", "_law_boxes", "_law_events"] (spRooms K)) (b_law_rooms : Binds K dr ["_law_script", "_law_boxes", "_law_events"] []) (k_law_rooms : PySem.W.keepIn K (.ref gr) = true) (m_law_rooms : mg "_law_rooms" = some (.ref gr))
    (G_law_door : FnOk P w K mg base CX0 n go do' ["_law_script", "_law_k", "_law_boxes", "_law_events", "_law_rooms_here"] (spDoor K)) (b_law_door : Binds K do' ["_law_script", "_law_k", "_law_boxes", "_law_events", "_law_rooms_here"] []) (k_law_door : PySem.W.keepIn K (.ref go) = true) (m_law_door : mg "_law_door" = some (.ref go))
    (G_law_word : FnOk P w K mg base CX0 n gw dw ["_law_text_here"] spWordF) (b_law_word : Binds K dw ["_law_text_here"] []) (k_law_word : PySem.W.keepIn K (.ref gw) = true) (m_law_word : mg "_law_word" = some (.ref gw))
    (G_law_bad_deeds : FnOk P w K mg base CX0 n gb db ["_law_deeds_here", "_law_boxes", "_law_events"] spBadDeeds) (b_law_bad_deeds : Binds K db ["_law_deeds_here", "_law_boxes", "_law_events"] []) (k_law_bad_deeds : PySem.W.keepIn K (.ref gb) = true) (m_law_bad_deeds : mg "_law_bad_deeds" = some (.ref gb))
    (G_law_bad_door : FnOk P w K mg base CX0 n gd dd ["_law_door_here", "_law_boxes", "_law_events", "_law_rooms_here"] spBadDoor) (b_law_bad_door : Binds K dd ["_law_door_here", "_law_boxes", "_law_events", "_law_rooms_here"] []) (k_law_bad_door : PySem.W.keepIn K (.ref gd) = true) (m_law_bad_door : mg "_law_bad_door" = some (.ref gd))
    (G_faults : FnOk P w K mg base CX0 n gf df ["chart"] (spFaultsP (okDs Prg.okSay) Prg.okDoor)) (b_faults : Binds K df ["chart"] []) (k_faults : PySem.W.keepIn K (.ref gf) = true) (m_faults : mg "faults" = some (.ref gf))
    (G_law_told : FnOk P w K mg base CX0 n gl dl' ["_law_found", sDueName] spFtold) (b_law_told : Binds K dl' ["_law_found", sDueName] []) (k_law_told : PySem.W.keepIn K (.ref gl) = true) (m_law_told : mg "_law_told" = some (.ref gl))
    (m_range : mg "range" = none) (m_tuple : mg "tuple" = none) (m_len : mg "len" = none) : FnOk P w K mg base CX0 (n + 1) f fd ["_law_script"] (spLaw K) := by
  refine F.ok sc_law (fun vs H Q E h => ?_) (fun cdv A outer s H vs Q E hr h => ?_)
  · obtain ⟨a, ns, rfl, _⟩ := h
    rfl
  obtain ⟨a, ns, rfl, hS, h63, q⟩ := h
  refine ⟨_, (pss_cons (ps_set (i := 1) sc_law.nd rfl (Or.inr rfl) (pe_lst pa_nil))
    (pss_cut (ps_for PassesOwn.never rfl (pi_range1 rfl m_range (pa_cons (pe_op op_mod (pe_call G_law_mixed hr rfl m_law_mixed k_law_mixed b_law_mixed .nil pass0 (pa_cons (pv 0) (pa_cons pe_int (pa_cons pe_int pa_nil)))) pe_int) pa_nil)) (pg_name (i := 2) sc_law.nd rfl (Or.inl rfl))
      (pss_cons (ps_set (i := 3) sc_law.nd rfl (Or.inl rfl) (pe_call G_law_mixed hr rfl m_law_mixed k_law_mixed b_law_mixed .nil pass0 (pa_cons (pv 0) (pa_cons (pv 2) (pa_cons pe_int pa_nil)))))
      (pss_cons (ps_set (i := 4) sc_law.nd rfl (Or.inl rfl) (pe_ix ix_list (pe_lst (pa_cons (pe_op op_add pe_int (pe_op op_mod (pe_op op_fdiv (pv 3) pe_int) pe_int)) (pa_cons (pe_op op_pow pe_int pe_int) (pa_cons (pe_op op_add pe_int (pe_op op_mod (pe_call G_law_cell_at hr rfl m_law_cell_at k_law_cell_at b_law_cell_at .nil pass0 (pa_cons (pv 0) (pa_cons (pv 2) pa_nil))) (pe_op op_pow pe_int pe_int))) (pa_cons pe_int pa_nil))))) (pe_op op_mod (pv 3) pe_int) (fun _ _ => rfl)))
      (pss_cut (ps_if (pt_cmpR op_eq (pe_op op_mod (pe_op op_fdiv (pv 3) pe_int) pe_int) pe_int (nomark _))
        (pss_one (ps_set (i := 4) sc_law.nd rfl (Or.inl rfl) (pe_ix ix_list (pe_lst (pa_cons pe_int (pa_cons (pe_un un_neg pe_int) (pa_cons (pe_op op_add (pe_op op_pow pe_int pe_int) pe_int) (pa_cons pe_int pa_nil))))) (pe_op op_mod (pe_op op_fdiv (pv 3) pe_int) pe_int) (fun _ _ => rfl))))
        pss_nil)
      (pss_one (ps_expr (pe_bm PySem.F.plainAttrs_list PySem.F.slot_list_append PySem.F.type_list_append mt_append (pv 1) (pa_cons (pe_tup (pa_cons (pe_op op_add_str pe_str (pe_ix ix_str pe_str (pv 2) (fun _ _ => rfl))) (pa_cons (pv 4) (pa_cons (pe_ix ix_list (pe_lst (pa_cons pe_int (pa_cons (pe_op op_sub (pv 4) pe_int) pa_nil))) (pe_op op_mod (pe_op op_fdiv (pv 3) pe_int) pe_int) (fun _ _ => rfl)) pa_nil)))) pa_nil))))))))
    (pss_cut (ps_set (i := 1) sc_law.nd rfl (Or.inr rfl) (pe_callTy call_tuple_of rfl m_tuple PyProof.Rows.boot_tuple (pa_cons (pv 1) pa_nil)))
    (pss_cut (ps_set (i := 5) sc_law.nd rfl (Or.inr rfl) (pe_slice sl_tupA (pe_tup (pa_cons pe_str (pa_cons pe_str (pa_cons pe_str pa_nil)))) po_none (po_some (pe_op op_fdiv (pe_op op_add (pe_op op_mod (pe_call G_law_mixed hr rfl m_law_mixed k_law_mixed b_law_mixed .nil pass0 (pa_cons (pv 0) (pa_cons pe_int (pa_cons pe_int pa_nil)))) pe_int) pe_int) pe_int))))
    (pss_cut (ps_set (i := 6) sc_law.nd rfl (Or.inr rfl) (pe_call G_law_rooms hr rfl m_law_rooms k_law_rooms b_law_rooms .nil pass0 (pa_cons (pv 0) (pa_cons (pv 1) (pa_cons (pv 5) pa_nil)))))
    (pss_cut (ps_if (pt_cmpR op_eq (pe_op op_mod (pe_call G_law_mixed hr rfl m_law_mixed k_law_mixed b_law_mixed .nil pass0 (pa_cons (pv 0) (pa_cons pe_int (pa_cons pe_int pa_nil)))) pe_int) pe_int (nomark _))
      (pss_one (ps_set (i := 6) sc_law.nd rfl (Or.inr rfl) (pe_tup pa_nil)))
      pss_nil)
    (pss_cons (ps_set (i := 7) sc_law.nd rfl (Or.inl rfl) (pe_op op_mod (pe_call G_law_mixed hr rfl m_law_mixed k_law_mixed b_law_mixed .nil pass0 (pa_cons (pv 0) (pa_cons pe_int (pa_cons pe_int pa_nil)))) pe_int))
    (pss_cut (ps_if (pt_cmpR op_eq (pe_op op_mod (pe_call G_law_mixed hr rfl m_law_mixed k_law_mixed b_law_mixed .nil pass0 (pa_cons (pv 0) (pa_cons pe_int (pa_cons pe_int pa_nil)))) pe_int) pe_int (nomark _))
      (pss_one (ps_set (i := 7) sc_law.nd rfl (Or.inl rfl) (pe_op op_add pe_int (pe_op op_mod (pe_call G_law_mixed hr rfl m_law_mixed k_law_mixed b_law_mixed .nil pass0 (pa_cons (pv 0) (pa_cons pe_int (pa_cons pe_int pa_nil)))) pe_int))))
      pss_nil)
    (pss_cut (ps_set (i := 8) sc_law.nd rfl (Or.inr rfl) (pe_callTy call_tuple_of rfl m_tuple PyProof.Rows.boot_tuple (pa_cons (pe_comp (caps := [(0, "_law_script"), (1, "_law_boxes"), (5, "_law_events"), (6, "_law_rooms_here")]) rfl (show CompSc (defScope sLawF) ["_law_script", "_law_boxes", "_law_k", "_law_number", "_law_size", "_law_events", "_law_rooms_here", "_law_many", "_law_doors", "_law_due", "_law_bad", "_law_chart", "_law_found"] _ _ _ from ⟨rfl, rfl, by decide +kernel, by decide +kernel, by decide +kernel, by decide +kernel, by decide +kernel⟩) (pi_range1 rfl m_range (pa_cons (pv 7) pa_nil)) (fun _ _ _ _ _ _ => pifs_nil) (fun _ _ _ _ _ _ => (pe_call G_law_door hr rfl m_law_door k_law_door b_law_door .nil pass0 (pa_cons (pv 1) (pa_cons (pe_op op_add pe_int (pv 0)) (pa_cons (pv 2) (pa_cons (pv 3) (pa_cons (pv 4) pa_nil)))))))) pa_nil)))
    (pss_cut (ps_setC (i := 9) (caps := [(1, "_law_boxes")]) rfl sc_law.nd rfl (Or.inl rfl) (show CompSc (defScope sLawF) ["_law_script", "_law_boxes", "_law_k", "_law_number", "_law_size", "_law_events", "_law_rooms_here", "_law_many", "_law_doors", "_law_due", "_law_bad", "_law_chart", "_law_found"] _ _ _ from ⟨rfl, rfl, by decide +kernel, by decide +kernel, by decide +kernel, by decide +kernel, by decide +kernel⟩) (pi_range1 rfl m_range (pa_cons (pe_callB call_len_seq rfl m_len PySem.boot_len (pa_cons (pv 1) pa_nil)) pa_nil)) (fun _ _ _ _ _ _ => pifs_one (pt_not (pt_chV op_le op_le pe_int (pe_ix (r := rIxT K) ix_tup (pe_ix (r := rIxT K) ix_tup (pv 1) (pv 0) (fun _ _ => rfl)) pe_int (fun _ _ => rfl)) (pe_op op_pow pe_int pe_int)))) (fun _ _ _ _ _ _ => (pe_tup (pa_cons pe_str (pa_cons (pv 0) pa_nil)))))
    (pss_cut (ps_if (pt_cmpR op_eq (pe_callB call_len_seq rfl m_len PySem.boot_len (pa_cons (pv 6) pa_nil)) pe_int (nomark _))
      (pss_one (ps_expr (pe_bm PySem.F.plainAttrs_list PySem.F.slot_list_append PySem.F.type_list_append mt_append (pv 9) (pa_cons (pe_tup (pa_cons pe_str (pa_cons pe_int pa_nil))) pa_nil))))
      pss_nil)
    (pss_cut (ps_for PassesOwn.never rfl (pi_range1 rfl m_range (pa_cons (pe_callB call_len_seq rfl m_len PySem.boot_len (pa_cons (pv 6) pa_nil)) pa_nil)) (pg_name (i := 2) sc_law.nd rfl (Or.inl rfl))
      (pss_cons (ps_set (i := 10) sc_law.nd rfl (Or.inl rfl) (pe_cut (pe_or (pe_call G_law_bad_deeds hr rfl m_law_bad_deeds k_law_bad_deeds b_law_bad_deeds .nil pass0 (pa_cons (pe_ix (r := rIxT K) ix_tup (pe_ix (r := rIxT K) ix_tup (pv 6) (pv 2) (fun _ _ => rfl)) pe_int (fun _ _ => rfl)) (pa_cons (pv 1) (pa_cons (pv 5) pa_nil)))) (pe_one (pe_call G_law_bad_deeds hr rfl m_law_bad_deeds k_law_bad_deeds b_law_bad_deeds .nil pass0 (pa_cons (pe_ix (r := rIxT K) ix_tup (pe_ix (r := rIxT K) ix_tup (pv 6) (pv 2) (fun _ _ => rfl)) pe_int (fun _ _ => rfl)) (pa_cons (pv 1) (pa_cons (pv 5) pa_nil))))))))
      (pss_one (ps_if (pt_cut (PW.pt (pw_or (pt_val (pv 10)) (pw_or1 (PW.pt (pw_and (pt_cmpR op_ne (pe_ix (r := rIxT K) ix_tup (pe_ix (r := rIxT K) ix_tup (pv 6) (pv 2) (fun _ _ => rfl)) pe_int (fun _ _ => rfl)) pe_str (nomark _)) (pw_and1 (pt_not (pt_val (pe_call G_law_word hr rfl m_law_word k_law_word b_law_word .nil pass0 (pa_cons (pe_ix (r := rIxT K) ix_tup (pe_ix (r := rIxT K) ix_tup (pv 6) (pv 2) (fun _ _ => rfl)) pe_int (fun _ _ => rfl)) pa_nil)))))))))))
        (pss_one (ps_expr (pe_bm PySem.F.plainAttrs_list PySem.F.slot_list_append PySem.F.type_list_append mt_append (pv 9) (pa_cons (pe_tup (pa_cons pe_str (pa_cons (pv 2) pa_nil))) pa_nil))))
        pss_nil))))
    (pss_cut (ps_if (pt_cmpR op_gt (pv 7) pe_int (nomark _))
      (pss_one (ps_expr (pe_bm PySem.F.plainAttrs_list PySem.F.slot_list_append PySem.F.type_list_append mt_append (pv 9) (pa_cons (pe_tup (pa_cons pe_str (pa_cons pe_int pa_nil))) pa_nil))))
      pss_nil)
    (pss_cut (ps_set (i := 9) sc_law.nd rfl (Or.inl rfl) (pe_op op_cat (pv 9) (pe_comp (caps := [(1, "_law_boxes"), (5, "_law_events"), (6, "_law_rooms_here"), (8, "_law_doors")]) rfl (show CompSc (defScope sLawF) ["_law_script", "_law_boxes", "_law_k", "_law_number", "_law_size", "_law_events", "_law_rooms_here", "_law_many", "_law_doors", "_law_due", "_law_bad", "_law_chart", "_law_found"] _ _ _ from ⟨rfl, rfl, by decide +kernel, by decide +kernel, by decide +kernel, by decide +kernel, by decide +kernel⟩) (pi_range1 rfl m_range (pa_cons (pv 7) pa_nil)) (fun _ _ _ _ _ _ => pifs_one (pt_val (pe_call G_law_bad_door hr rfl m_law_bad_door k_law_bad_door b_law_bad_door .nil pass0 (pa_cons (pe_ix (r := rIxT K) ix_tup (pv 4) (pv 0) (fun _ _ => rfl)) (pa_cons (pv 1) (pa_cons (pv 2) (pa_cons (pv 3) pa_nil))))))) (fun _ _ _ _ _ _ => (pe_tup (pa_cons pe_str (pa_cons (pv 0) pa_nil)))))))
    (pss_cut (ps_set (i := 11) sc_law.nd rfl (Or.inl rfl) (pe_tup (pa_cons (pe_ix ix_list (pe_lst (pa_cons pe_str (pa_cons pe_str pa_nil))) (pe_op op_mod (pe_call G_law_mixed hr rfl m_law_mixed k_law_mixed b_law_mixed .nil pass0 (pa_cons (pv 0) (pa_cons pe_int (pa_cons pe_int pa_nil)))) pe_int) (fun _ _ => rfl)) (pa_cons pe_int (pa_cons pe_int (pa_cons (pv 1) (pa_cons (pv 5) (pa_cons (pv 6) (pa_cons (pv 8) pa_nil)))))))))
    (pss_cons (ps_set (i := 12) sc_law.nd rfl (Or.inl rfl) (pe_call G_faults hr rfl m_faults k_faults b_faults .nil pass0 (pa_cons (pv 11) pa_nil)))
    (pss_cons (ps_if (pt_not (pt_val (pe_call G_law_told hr rfl m_law_told k_law_told b_law_told .nil pass0 (pa_cons (pv 12) (pa_cons (pv 9) pa_nil)))))
      (pss_one (ps_ret pe_bl))
      pss_nil)
    (pss_cons (ps_expr (pe_bm PySem.F.plainAttrs_list PySem.F.slot_list_append PySem.F.type_list_append mt_append (pv 12) (pa_cons (pe_tup (pa_cons pe_str (pa_cons pe_int pa_nil))) pa_nil)))
    (pss_one (ps_ret (pe_call G_law_told hr rfl m_law_told k_law_told b_law_told .nil pass0 (pa_cons (pe_call G_faults hr rfl m_faults k_faults b_faults .nil pass0 (pa_cons (pv 11) pa_nil)) (pa_cons (pv 9) pa_nil))))))))))))))))))))))), ?_⟩
  refine ⟨Nat.zero_le _, fun pl hpl => ?_⟩
  -- the boxes
  refine ⟨fun σ' H' => ∃ (bv : List V) (bs : List Bx), Same H H' ∧ H' pl = some (.lst bv) ∧ BxsIn H' bv bs ∧ bs.length ≤ 3 ∧ BOk bs ∧ ∃ o2 o3 o4 : Option V, σ' = [some (.ref a), some (.ref pl), o2, o3, o4, none, none, none, none, none, none, none, none], ?_, ?_⟩
  · have s0 := same_new hpl (.lst [])
    refine ⟨_, rfl, a, ns, 2, 7, rfl, s0.seq hS, h63, ⟨by decide, by decide⟩, ⟨by decide, by decide⟩, fun x x0 x1 => ⟨_, _, rfl, rfl, (by show (0 : Int) < 4; decide), _, rfl, by omega, by omega, ?_⟩⟩
    refine for_range (fun i σ' H' => ∃ (bv : List V) (bs : List Bx), Same H H' ∧ H' pl = some (.lst bv) ∧ BxsIn H' bv bs ∧ bs.length = i ∧ BOk bs ∧ ∃ o2 o3 o4 : Option V, σ' = [some (.ref a), some (.ref pl), o2, o3, o4, none, none, none, none, none, none, none, none])
      ⟨[], [], s0, upd_same, .nil, rfl, fun k b h => by simp at h, none, none, none, rfl⟩ ?_ ?_
    · rintro i σ' H2 hi ⟨bv, bs, s2, h2, r2, l2, ok2, o2, o3, o4, rfl⟩
      have hi' : i < 3 := by omega
      have l2' := r2.length
      refine ⟨_, rfl, _, rfl, a, ns, _, _, rfl, s2.seq hS, h63, ⟨by omega, by omega⟩, ⟨by decide, by decide⟩, fun y y0 y1 => ?_⟩
      refine ⟨_, rfl, _, _, rfl, rfl, ⟨by decide, by decide⟩, _, _, rfl, rfl, (by show (0 : Int) < 4; decide), _, _, rfl, rfl, _, _, rfl, rfl, ⟨by decide, by decide, by decide⟩, _, rfl, _, rfl, a, ns, _, rfl, s2.seq hS, h63, fun v => ⟨_, _, rfl, rfl, ⟨by decide, by decide, by decide⟩, _, _, rfl, rfl, (by show (0 : Int) < 10 ^ (30 : Int).toNat; decide), _, _, rfl, rfl, small_le (by show 4 ≤ 1000; decide), fun p1 hp1 => ?_⟩⟩
      obtain ⟨sz0, _, hat⟩ := atI_ints (zs := [1 + y / 4 % 4, 10 ^ (30 : Int).toNat, 1 + v % 10 ^ (30 : Int).toNat, 2]) (i := y % 4) (by omega) (by show _ < (4 : Int); omega)
      have s3 := same_new hp1 (.lst ([1 + y / 4 % 4, 10 ^ (30 : Int).toNat, 1 + v % 10 ^ (30 : Int).toNat, 2].map V.int))
      refine ⟨_, rfl, _, _, rfl, rfl, (by show (0 : Int) < 4; decide), p1, _, _, _, rfl, rfl, SqL.of upd_same, hat, ?_⟩
      refine ⟨fun σ' H' => ∃ sz : Int, Same H2 H' ∧ σ' = [some (.ref a), some (.ref pl), some (.int (0 + (i : Int))), some (.int y), some (.int sz), none, none, none, none, none, none, none, none], ?_, ?_⟩
      · refine ⟨_, rfl, _, _, rfl, rfl, ⟨by decide, by decide⟩, _, _, rfl, rfl, (by show (0 : Int) < 8; decide), rfl, _, rfl, ?_⟩
        refine ite2 (fun _ => ?_) (fun _ => ⟨_, s3, rfl⟩)
        obtain ⟨sz1, _, hat1⟩ := atI_ints (zs := [0, -3, 10 ^ (30 : Int).toNat + 5, 0]) (i := y / 256 % 4) (by omega) (by show _ < (4 : Int); omega)
        refine ⟨_, rfl, _, _, rfl, rfl, ⟨by decide, by decide, by decide⟩, _, _, rfl, rfl, small_le (by show 4 ≤ 1000; decide), fun p2 hp2 => ⟨_, rfl, _, _, rfl, rfl, ⟨by decide, by decide⟩, _, _, rfl, rfl, (by show (0 : Int) < 4; decide), p2, _, _, _, rfl, rfl, SqL.of upd_same, hat1, ?_⟩⟩
        exact ⟨_, s3.trans (same_new hp2 _), rfl⟩
      rintro σ4 H4 ⟨sz, s4, rfl⟩
      obtain ⟨c, hc, ec⟩ := nm_box i hi'
      obtain ⟨st, hst, hat2⟩ := atI_ints (zs := [0, sz - 1]) (i := y / 16 % 2) (by omega) (by show _ < (2 : Int); omega)
      refine ⟨_, rfl, .inl ⟨rfl, _, SqL.of (s4 _ _ h2)⟩, _, rfl, _, _, c, rfl, rfl, small_le (by decide +kernel), hc, _, _, rfl, rfl, small_le (by rw [len1]; decide +kernel), _, rfl, _, rfl, _, _, rfl, rfl, small_le (by show 2 ≤ 1000; decide), fun p3 hp3 => ⟨_, rfl, _, _, rfl, rfl, ⟨by decide, by decide⟩, _, _, rfl, rfl, (by show (0 : Int) < 2; decide), p3, _, _, _, rfl, rfl, SqL.of upd_same, hat2, small_le (by show 3 ≤ 1000; decide), fun t8 ht8 => ?_⟩⟩
      have s5 := same_new hp3 (.lst ([0, sz - 1].map V.int))
      have s8 := same_new ht8 (.tup [.str (("box" : Str) ++ ⟨#[c]⟩), .int sz, .int st])
      have s48 := (s4.trans s5).trans s8
      have h8 := s48 _ _ h2
      refine ⟨pl, _, _, rfl, rfl, h8, small1000 (by omega), bv ++ [.ref t8], bs ++ [⟨nmB i, sz, st⟩], fun b o e => ?_, upd_same, ?_, by simp [l2], bs_snoc ok2 l2 ⟨rfl, ?_⟩, _, _, _, rfl⟩
      · rw [upd_ne (ne_of_none e hpl)]
        exact (s2.trans s48) _ _ e
      · have kk := KeepT.lst h8 (.lst (bv ++ [V.ref t8]))
        refine (BxsIn.mono (BxsIn.mono r2 (KeepT.of s48)) kk).snoc ⟨t8, rfl, ?_⟩
        refine kk _ _ ?_
        rw [← ec]
        exact upd_same
      · simpa using hst
    · rintro σ' H2 ⟨bv, bs, s2, h2, r2, l2, ok2, rest⟩
      exact ⟨bv, bs, s2, h2, r2, by omega, ok2, rest⟩
  rintro σ1 H1 ⟨bv, bs, s1, h1, r1, l1, ok1, o2, o3, o4, rfl⟩
  -- as a tuple
  refine ⟨fun σ' H' => ∃ tb : Addr, Bs H H' tb bs ∧ σ' = [some (.ref a), some (.ref tb), o2, o3, o4, none, none, none, none, none, none, none, none], ?_, ?_⟩
  · refine ⟨_, rfl, pl, _, rfl, .inl ⟨SqL.of h1, fun t ht => ?_⟩⟩
    exact ⟨t, ⟨s1.trans (same_new ht _), ⟨bv, upd_same, BxsIn.mono r1 (KeepT.of (same_new ht _))⟩, l1, ok1⟩, rfl⟩
  rintro σ2 H2 ⟨tb, B2, rfl⟩
  clear r1 h1 s1
  -- the events
  refine ⟨fun σ' H' => ∃ (te : Addr) (m : Nat), m < 4 ∧ Bs H H' tb bs ∧ H' te = some (.tup ((E3.take m).map V.str)) ∧ σ' = [some (.ref a), some (.ref tb), o2, o3, o4, some (.ref te), none, none, none, none, none, none, none], ?_, ?_⟩
  · refine ⟨small_le (by show 3 ≤ 1000; decide), fun p3 hp3 => ?_⟩
    have s3 := same_new hp3 (.tup (E3.map V.str))
    have B3 := B2.mono s3
    refine ⟨_, rfl, a, ns, 1, 7, rfl, B3.same.seq hS, h63, ⟨by decide, by decide⟩, ⟨by decide, by decide⟩, fun x x0 x1 => ?_⟩
    obtain ⟨m, em, m4⟩ : ∃ m : Nat, (x % 7 + 1) / 2 = (m : Int) ∧ m < 4 := ⟨((x % 7 + 1) / 2).toNat, by omega, by omega⟩
    refine ⟨_, _, rfl, rfl, (by show (0 : Int) < 7; decide), _, _, rfl, rfl, _, _, rfl, rfl, ⟨by decide, by decide⟩, (m : Int), (by show V.int ((x % 7 + 1) / 2) = _; rw [em]), ?_⟩
    have l3 : (E3.map V.str).length = 3 := rfl
    refine ⟨p3, E3.map V.str, rfl, SqT.of upd_same, fun hw => ?_, fun hw p4 hp4 => ?_⟩
    · have e3 : m = 3 := by
        have h2 := hw.2
        rw [HT.sIx_nat, l3] at h2
        omega
      subst e3
      exact ⟨p3, 3, by decide, B3, upd_same, rfl⟩
    · refine ⟨p4, m, m4, B3.mono (same_new hp4 _), ?_, rfl⟩
      rw [upd_same, cutTo _ (by rw [l3]; omega), List.map_take]
  rintro σ3 H3 ⟨te, m, m4, B3, hte, rfl⟩
  have les := ev_len m
  have lbs := B3.len
  -- the rooms
  refine ⟨fun σ' H' => ∃ (tr : Addr) (rs : List Ro) (dl : List Int), Bs H H' tb bs ∧ H' te = some (.tup ((E3.take m).map V.str)) ∧ Rs H' tr rs dl ∧ σ' = [some (.ref a), some (.ref tb), o2, o3, o4, some (.ref te), some (.ref tr), none, none, none, none, none, none], ?_, ?_⟩
  · obtain ⟨bv3, hb3, rb3⟩ := B3.ex
    refine ⟨_, rfl, _, rfl, _, rfl, a, tb, te, ns, bv3, bs, E3.take m, rfl, B3.same.seq hS, h63, hb3, rb3, by omega, hte, by omega, fun tr rv rs dl H4 s4 htr hrs l1 l6 ld dok rok => ?_⟩
    exact ⟨tr, rs, dl, B3.mono s4, s4 _ _ hte, ⟨⟨rv, htr, hrs⟩, l6, fun _ => ⟨ld, dok⟩, rok⟩, rfl⟩
  rintro σ4 H4 ⟨tr, rs, dl, B4, hte4, R4, rfl⟩
  refine ⟨fun σ' H' => ∃ (tr : Addr) (rs : List Ro) (dl : List Int), Bs H H' tb bs ∧ H' te = some (.tup ((E3.take m).map V.str)) ∧ Rs H' tr rs dl ∧ σ' = [some (.ref a), some (.ref tb), o2, o3, o4, some (.ref te), some (.ref tr), none, none, none, none, none, none], ?_, ?_⟩
  · refine ⟨_, rfl, a, ns, 1, 9, rfl, B4.same.seq hS, h63, ⟨by decide, by decide⟩, ⟨by decide, by decide⟩, fun x x0 x1 => ⟨_, _, rfl, rfl, (by show (0 : Int) < 16; decide), rfl, _, rfl, ?_⟩⟩
    refine ite2 (fun _ => ?_) (fun _ => ⟨tr, rs, dl, B4, hte4, R4, rfl⟩)
    refine ⟨Nat.zero_le _, fun p hp => ?_⟩
    have s5 := same_new hp (.tup [])
    exact ⟨p, [], [], B4.mono s5, s5 _ _ hte4, ⟨⟨[], upd_same, .nil⟩, by decide, fun h => absurd rfl h, fun k r h => by simp at h⟩, rfl⟩
  clear R4 hte4 B4 tr rs dl
  rintro σ5 H5 ⟨tr, rs, dl, B5, hte5, R5, rfl⟩
  have lrs := R5.len
  -- how many doors
  refine ⟨_, rfl, a, ns, 3, 7, rfl, B5.same.seq hS, h63, ⟨by decide, by decide⟩, ⟨by decide, by decide⟩, fun x x0 x1 => ⟨_, _, rfl, rfl, (by show (0 : Int) < 8; decide), ?_⟩⟩
  refine ⟨fun σ' H' => H' = H5 ∧ ∃ mn : Nat, mn ≤ 62 ∧ σ' = [some (.ref a), some (.ref tb), o2, o3, o4, some (.ref te), some (.ref tr), some (.int (mn : Int)), none, none, none, none, none], ?_, ?_⟩
  · refine ⟨_, rfl, a, ns, 4, 7, rfl, B5.same.seq hS, h63, ⟨by decide, by decide⟩, ⟨by decide, by decide⟩, fun y y0 y1 => ⟨_, _, rfl, rfl, (by show (0 : Int) < 8; decide), rfl, _, rfl, ?_⟩⟩
    refine ite2 (fun _ => ?_) (fun _ => ⟨rfl, (x % 8).toNat, by omega, ?_⟩)
    · refine ⟨_, rfl, a, ns, 5, 7, rfl, B5.same.seq hS, h63, ⟨by decide, by decide⟩, ⟨by decide, by decide⟩, fun z z0 z1 => ⟨_, _, rfl, rfl, (by show (0 : Int) < 5; decide), _, _, rfl, rfl, rfl, (58 + z % 5).toNat, by omega, ?_⟩⟩
      rw [show (((58 + z % 5).toNat : Nat) : Int) = 58 + z % 5 by omega]
      rfl
    · rw [show (((x % 8).toNat : Nat) : Int) = x % 8 by omega]
      rfl
  rintro σ6 H6 ⟨rfl, mn, hmn, rfl⟩
  -- the doors
  refine ⟨fun σ' H' => ∃ (td : Addr) (ds : List Dr), Bs H H' tb bs ∧ H' te = some (.tup ((E3.take m).map V.str)) ∧ Rs H' tr rs dl ∧ Ds H' td ds ∧ ds.length = mn ∧ σ' = [some (.ref a), some (.ref tb), o2, o3, o4, some (.ref te), some (.ref tr), some (.int (mn : Int)), some (.ref td), none, none, none, none], ?_, ?_⟩
  · refine ⟨_, rfl, (mn : Int), rfl, by omega, by omega, ?_⟩
    refine comp_range (fun i acc H' => ∃ ds : List Dr, Same H6 H' ∧ DrsIn H' acc ds ∧ ds.length = i ∧ ∀ d ∈ ds, okDr d) ⟨[], Same.refl _, .nil, rfl, fun d hd => by cases hd⟩ (fun i acc H' hi ⟨ds, s7, r7, l7, ok7⟩ => ?_) (fun acc H' ⟨ds, s7, r7, l7, ok7⟩ p hp => ?_)
    · obtain ⟨bv, hb, rb⟩ := (B5.mono s7).ex
      obtain ⟨rv, hrv, rr⟩ := (R5.mono s7).ex
      have lrv := rr.length
      have lac := r7.length
      refine ⟨_, rfl, _, rfl, _, _, rfl, rfl, _, rfl, _, rfl, _, rfl, a, tb, te, tr, ns, _, bv, rv, bs, E3.take m, rfl, (B5.same.trans s7).seq hS, h63, ⟨by omega, by omega⟩, hb, rb, by omega, s7 _ _ hte5, by omega, hrv, by omega, fun v d H8 s8 hd okd => ?_⟩
      refine ⟨small1000 (by omega), ds ++ [d], s7.trans s8, (DrsIn.mono r7 (KeepT.of s8)).snoc hd, by simp [l7], fun x hx => ?_⟩
      rcases List.mem_append.mp hx with h | h
      · exact ok7 x h
      · rw [List.mem_singleton.mp h]
        exact okd
    · refine ⟨p, _, rfl, .inl ⟨SqL.of upd_same, fun t ht => ?_⟩⟩
      have s8 := (same_new hp (.lst acc)).trans (same_new ht (.tup acc))
      have s9 := s7.trans s8
      exact ⟨t, ds, B5.mono s9, s9 _ _ hte5, R5.mono s9, ⟨⟨acc, upd_same, DrsIn.mono r7 (KeepT.of s8)⟩, ok7⟩, by omega, rfl⟩
  rintro σ7 H7 ⟨td, ds, B7, hte7, R7, D7, lds, rfl⟩
  clear B5 hte5 R5 B3 hte
  -- what is due: boxes
  refine ⟨fun σ' H' => ∃ pd : Addr, DueS H7 (marks "box" bs.length (badBx bs)) H' pd ∧ σ' = [some (.ref a), some (.ref tb), o2, o3, o4, some (.ref te), some (.ref tr), some (.int (mn : Int)), some (.ref td), some (.ref pd), none, none, none], ?_, ?_⟩
  · obtain ⟨bv, hb, rb⟩ := B7.ex
    have lbv := rb.length
    refine ⟨_, rfl, tb, _, rfl, .inr (SqT.of hb), (bv.length : Int), rfl, by omega, by omega, ?_⟩
    refine comp_range (fun i acc H' => Same H7 H' ∧ FtsIn H' acc (marks "box" i (badBx bs))) ⟨Same.refl _, .nil⟩ (fun i acc H' hi ⟨s8, r8⟩ => ?_) (fun acc H' ⟨s8, r8⟩ p hp => ?_)
    · have hi' : i < bs.length := by omega
      obtain ⟨v, hv, t1, rfl, ht1⟩ := (BxsIn.mono rb (KeepT.of s8)).at hi'
      have eb := badBx_eq B7.ok B7.len (List.getElem?_eq_getElem hi')
      have lac := r8.length
      have lm := marks_len "box" i (badBx bs)
      refine ⟨_, rfl, _, rfl, tb, _, _, _, rfl, rfl, SqT.of (s8 _ _ hb), (by rw [Int.zero_add]; exact hv), t1, _, _, _, rfl, rfl, SqT.of ht1, rfl, _, _, _, rfl, rfl, ⟨_, _, rfl, rfl, ⟨by decide, by decide, by decide⟩, rfl, rfl⟩, _, rfl, ?_⟩
      refine itB (fun c => ?_) (fun c => ?_)
      · refine ⟨_, rfl, small_le (by show 2 ≤ 1000; decide), fun p hp => ⟨small1000 (by omega), s8.trans (same_new hp _), ?_⟩⟩
        have c' : badBx bs i = true := eb.trans c
        rw [marks_succ, c', if_pos rfl]
        exact (FtsIn.mono r8 (KeepT.of (same_new hp _))).snoc ⟨p, rfl, by rw [upd_same, Int.zero_add]⟩
      · have c' : badBx bs i = false := eb.trans c
        refine ⟨s8, ?_⟩
        rw [marks_succ, c', if_neg (by decide), List.append_nil]
        exact r8
    · have e : (bv.length : Int).toNat = bs.length := by omega
      rw [e] at r8
      exact ⟨p, ⟨s8.trans (same_new hp _), s8.free hp, acc, upd_same, FtsIn.mono r8 (KeepT.of (same_new hp _))⟩, rfl⟩
  rintro σ8 H8 ⟨pd, U8, rfl⟩
  -- no rooms
  refine ⟨fun σ' H' => DueS H7 (marks "box" bs.length (badBx bs) ++ one "rooms" (decide (rs.length = 0))) H' pd ∧ σ' = [some (.ref a), some (.ref tb), o2, o3, o4, some (.ref te), some (.ref tr), some (.int (mn : Int)), some (.ref td), some (.ref pd), none, none, none], ?_, ?_⟩
  · obtain ⟨rv, hrv, rr⟩ := (R7.mono U8.same).ex
    obtain ⟨fv, hfv, rf⟩ := U8.ex
    have lrv := rr.length
    have lfv := rf.length
    have lm := marks_len "box" bs.length (badBx bs)
    refine ⟨_, rfl, tr, _, rfl, .inr (SqT.of hrv), rfl, _, rfl, ?_⟩
    refine itB (fun c => ?_) (fun c => ?_)
    · have e0 : rs.length = 0 := by
        have := of_decide_eq_true c
        injection this with e
        omega
      rw [decide_eq_true e0, one_t]
      exact ⟨_, rfl, .inl ⟨rfl, _, SqL.of hfv⟩, small_le (by show 2 ≤ 1000; decide), fun t ht => ⟨pd, _, _, rfl, rfl, same_new ht _ _ _ hfv, small1000 (by omega), DueS.app U8.same U8.new hfv rf ht, rfl⟩⟩
    · have e0 : ¬ rs.length = 0 := by
        have := of_decide_eq_false c
        intro e
        exact this (by rw [lrv, e]; rfl)
      rw [decide_eq_false e0, one_f, List.append_nil]
      exact ⟨U8, rfl⟩
  rintro σ9 H9 ⟨U9, rfl⟩
  clear U8
  -- the rooms
  refine ⟨fun σ' H' => DueS H7 (marks "box" bs.length (badBx bs) ++ one "rooms" (decide (rs.length = 0)) ++ marks "room" rs.length (badRo bs (E3.take m).length rs)) H' pd ∧ ∃ k2 o10 : Option V, σ' = [some (.ref a), some (.ref tb), k2, o3, o4, some (.ref te), some (.ref tr), some (.int (mn : Int)), some (.ref td), some (.ref pd), o10, none, none], ?_, ?_⟩
  · obtain ⟨rv, hrv, rr⟩ := (R7.mono U9.same).ex
    have lrv := rr.length
    refine ⟨_, rfl, tr, _, rfl, .inr (SqT.of hrv), (rv.length : Int), rfl, by omega, by omega, ?_⟩
    refine for_range (fun i σ' H' => DueS H7 (marks "box" bs.length (badBx bs) ++ one "rooms" (decide (rs.length = 0)) ++ marks "room" i (badRo bs (E3.take m).length rs)) H' pd ∧ ∃ k2 o10 : Option V, σ' = [some (.ref a), some (.ref tb), k2, o3, o4, some (.ref te), some (.ref tr), some (.int (mn : Int)), some (.ref td), some (.ref pd), o10, none, none]) ⟨by rw [show marks "room" 0 (badRo bs (E3.take m).length rs) = [] from rfl, List.append_nil]; exact U9, o2, none, rfl⟩ ?_ ?_
    · rintro i σ' H10 hi ⟨U10, k2, o10, rfl⟩
      have hi' : i < rs.length := by omega
      have er := List.getElem?_eq_getElem hi'
      have gr := R7.ok i _ er
      obtain ⟨dd1, dd2⟩ := R7.dep (fun e => by rw [e] at hi'; exact absurd hi' (Nat.not_lt_zero _))
      have eb := badRo_eq bs (E3.take m).length R7.len dd1 dd2 R7.ok er
      obtain ⟨rv1, hrv1, rr1⟩ := (R7.mono U10.same).ex
      obtain ⟨v, hv, t1, vi, vo, rfl, ht1, hvi, hvo⟩ := rr1.at hi'
      have hv' : atI rv1 (0 + (i : Int)) = some (.ref t1) := by rw [Int.zero_add]; exact hv
      obtain ⟨bv, hb, rb⟩ := (B7.mono U10.same).ex
      have hte10 := U10.same _ _ hte7
      refine ⟨fun v H' => Same H10 H' ∧ v = .bl (badDeeds bs (E3.take m).length rs[i].ins || badDeeds bs (E3.take m).length rs[i].outs), ?_, ?_⟩
      · refine ⟨_, rfl, _, rfl, tr, _, _, _, rfl, rfl, SqT.of hrv1, hv', t1, _, _, _, rfl, rfl, SqT.of ht1, rfl, _, rfl, _, rfl, vi, tb, te, rs[i].ins, bv, bs, E3.take m, rfl, hvi, by have := gr.il; omega, gr.iok, hb, rb, hte10, fun H11 s11 => ⟨_, rfl, ?_⟩⟩
        refine itB (fun c => ⟨s11, by rw [c, Bool.true_or]⟩) (fun c => ?_)
        refine ⟨_, rfl, _, rfl, tr, _, _, _, rfl, rfl, SqT.of (s11 _ _ hrv1), hv', t1, _, _, _, rfl, rfl, SqT.of (s11 _ _ ht1), rfl, _, rfl, _, rfl, vo, tb, te, rs[i].outs, bv, bs, E3.take m, rfl, hvo.mono (KeepT.of s11), by have := gr.ol; omega, gr.ook, s11 _ _ hb, BxsIn.mono rb (KeepT.of s11), s11 _ _ hte10, fun H12 s12 => ?_⟩
        exact ⟨s11.trans s12, by rw [c, Bool.false_or]⟩
      rintro vb H11 ⟨s11, rfl⟩
      have ht11 := s11 _ _ ht1
      have hrv11 := s11 _ _ hrv1
      have U11 := U10.keep s11
      refine ⟨fun c H' => H' = H11 ∧ c = badRo bs (E3.take m).length rs i, ?_, ?_⟩
      · refine ⟨_, rfl, _, rfl, ?_⟩
        refine itB (fun c => ⟨rfl, by rw [eb, c, Bool.true_or]⟩) (fun c => ?_)
        refine ⟨_, rfl, _, rfl, tr, _, _, _, rfl, rfl, SqT.of hrv11, hv', t1, _, _, _, rfl, rfl, SqT.of ht11, rfl, rfl, _, rfl, ?_⟩
        have el : (!decide (V.str rs[i].lamp = V.str ("" : Str))) = !decide (rs[i].lamp = ("" : Str)) := by
          by_cases e : rs[i].lamp = ("" : Str)
          · rw [e]
            simp
          · have e2 : ¬ V.str rs[i].lamp = V.str ("" : Str) := fun h => e (by injection h)
            rw [decide_eq_false e, decide_eq_false e2]
        refine itB (fun c2 => ?_) (fun c2 => ?_)
        · have c3 := el.symm.trans c2
          refine ⟨_, rfl, _, rfl, tr, _, _, _, rfl, rfl, SqT.of hrv11, hv', t1, _, _, _, rfl, rfl, SqT.of ht11, rfl, rs[i].lamp, rfl, by have := gr.lamp; omega, _, rfl, rfl, ?_⟩
          rw [eb, c, c3, Bool.false_or, Bool.true_and]
        · have c3 := el.symm.trans c2
          refine ⟨rfl, ?_⟩
          rw [eb, c, c3, Bool.false_or, Bool.false_and]
      rintro c H12 ⟨rfl, rfl⟩
      obtain ⟨fv, hfv, rf⟩ := U11.ex
      have lfv := rf.length
      have lm1 := marks_len "box" bs.length (badBx bs)
      have lm2 := one_len "rooms" (decide (rs.length = 0))
      have lm3 := marks_len "room" i (badRo bs (E3.take m).length rs)
      rw [List.length_append, List.length_append] at lfv
      refine itB (fun c => ?_) (fun c => ?_)
      · refine ⟨_, rfl, .inl ⟨rfl, _, SqL.of hfv⟩, _, rfl, small_le (by show 2 ≤ 1000; decide), fun t ht => ⟨pd, _, _, rfl, rfl, same_new ht _ _ _ hfv, small1000 (by omega), ?_, _, _, rfl⟩⟩
        rw [marks_succ, c, if_pos rfl, ← List.append_assoc, Int.zero_add]
        exact DueS.app U11.same U11.new hfv rf ht
      · refine ⟨?_, _, _, rfl⟩
        rw [marks_succ, c, if_neg (by decide), List.append_nil]
        exact U11
    · rintro σ' H10 ⟨U10, rest⟩
      have e : (rv.length : Int).toNat = rs.length := by omega
      rw [e] at U10
      exact ⟨U10, rest⟩
  rintro σ10 H10 ⟨U10, k2, o10, rfl⟩
  clear U9
  -- too many doors
  refine ⟨fun σ' H' => DueS H7 (marks "box" bs.length (badBx bs) ++ one "rooms" (decide (rs.length = 0)) ++ marks "room" rs.length (badRo bs (E3.take m).length rs) ++ one "doors" (decide (60 < ds.length))) H' pd ∧ σ' = [some (.ref a), some (.ref tb), k2, o3, o4, some (.ref te), some (.ref tr), some (.int (mn : Int)), some (.ref td), some (.ref pd), o10, none, none], ?_, ?_⟩
  · obtain ⟨fv, hfv, rf⟩ := U10.ex
    have lfv := rf.length
    have lm1 := marks_len "box" bs.length (badBx bs)
    have lm2 := one_len "rooms" (decide (rs.length = 0))
    have lm3 := marks_len "room" rs.length (badRo bs (E3.take m).length rs)
    rw [List.length_append, List.length_append] at lfv
    refine ⟨_, rfl, _, _, rfl, rfl, _, rfl, ?_⟩
    refine itB (fun c => ?_) (fun c => ?_)
    · have e0 : 60 < ds.length := by
        have := of_decide_eq_true c
        omega
      rw [decide_eq_true e0, one_t]
      exact ⟨_, rfl, .inl ⟨rfl, _, SqL.of hfv⟩, small_le (by show 2 ≤ 1000; decide), fun t ht => ⟨pd, _, _, rfl, rfl, same_new ht _ _ _ hfv, small1000 (by omega), DueS.app U10.same U10.new hfv rf ht, rfl⟩⟩
    · have e0 : ¬ 60 < ds.length := by
        have := of_decide_eq_false c
        omega
      rw [decide_eq_false e0, one_f, List.append_nil]
      exact ⟨U10, rfl⟩
  rintro σ11 H11 ⟨U11, rfl⟩
  clear U10
  -- the doors
  refine ⟨fun σ' H' => ∃ pd2 : Addr, DueS H7 (dueOf bs (E3.take m).length rs ds) H' pd2 ∧ σ' = [some (.ref a), some (.ref tb), k2, o3, o4, some (.ref te), some (.ref tr), some (.int (mn : Int)), some (.ref td), some (.ref pd2), o10, none, none], ?_, ?_⟩
  · obtain ⟨fv, hfv, rf⟩ := U11.ex
    have lfv := rf.length
    have lm1 := marks_len "box" bs.length (badBx bs)
    have lm2 := one_len "rooms" (decide (rs.length = 0))
    have lm3 := marks_len "room" rs.length (badRo bs (E3.take m).length rs)
    have lm4 := one_len "doors" (decide (60 < ds.length))
    rw [List.length_append, List.length_append, List.length_append] at lfv
    refine ⟨_, rfl, _, rfl, (mn : Int), rfl, by omega, by omega, ?_⟩
    refine comp_range (fun i acc H' => Same H11 H' ∧ FtsIn H' acc (marks "door" i (badDrAt bs (E3.take m).length rs ds))) ⟨Same.refl _, .nil⟩ (fun i acc H' hi ⟨s12, r12⟩ => ?_) (fun acc H' ⟨s12, r12⟩ p hp => ?_)
    · have hi' : i < ds.length := by omega
      have sA := U11.same.trans s12
      obtain ⟨dv, hdv, rd⟩ := (D7.mono sA).ex
      obtain ⟨bv, hb, rb⟩ := (B7.mono sA).ex
      obtain ⟨rv, hrv, rr⟩ := (R7.mono sA).ex
      obtain ⟨v, hv, hd⟩ := rd.at hi'
      have hv' : atI dv (0 + (i : Int)) = some v := by rw [Int.zero_add]; exact hv
      obtain ⟨k1, k2', k3, k4, k5⟩ := D7.ok _ (List.getElem_mem hi')
      have eb : badDrAt bs (E3.take m).length rs ds i = badDr bs (E3.take m).length rs ds[i] := by
        unfold badDrAt
        rw [List.getElem?_eq_getElem hi']
      have lac := r12.length
      have lm := marks_len "door" i (badDrAt bs (E3.take m).length rs ds)
      refine ⟨_, rfl, _, rfl, td, _, _, _, rfl, rfl, SqT.of hdv, hv', _, rfl, _, rfl, _, rfl, v, tb, te, tr, ds[i], bv, rv, bs, E3.take m, rs, rfl, hd, k1, by omega, k5, hb, rb, sA _ _ hte7, hrv, rr, fun H13 s13 => ⟨_, rfl, ?_⟩⟩
      refine itB (fun c => ?_) (fun c => ?_)
      · refine ⟨_, rfl, small_le (by show 2 ≤ 1000; decide), fun p hp => ⟨small1000 (by omega), (s12.trans s13).trans (same_new hp _), ?_⟩⟩
        rw [marks_succ, eb, c, if_pos rfl]
        exact (FtsIn.mono r12 (KeepT.of (s13.trans (same_new hp _)))).snoc ⟨p, rfl, by rw [upd_same, Int.zero_add]⟩
      · refine ⟨s12.trans s13, ?_⟩
        rw [marks_succ, eb, c, if_neg (by decide), List.append_nil]
        exact FtsIn.mono r12 (KeepT.of s13)
    · have e : (mn : Int).toNat = ds.length := by omega
      rw [e] at r12
      have lac := r12.length
      have lm := marks_len "door" ds.length (badDrAt bs (E3.take m).length rs ds)
      have s13 := same_new hp (.lst acc)
      refine ⟨pd, p, fv, acc, rfl, rfl, (s12.trans s13) _ _ hfv, upd_same, small_le (by omega), fun p2 hp2 => ?_⟩
      have s14 := same_new hp2 (.lst (fv ++ acc))
      have sB := (s12.trans s13).trans s14
      refine ⟨p2, ⟨U11.same.trans sB, (U11.same.trans (s12.trans s13)).free hp2, _, upd_same, ?_⟩, rfl⟩
      unfold dueOf
      exact (FtsIn.mono rf (KeepT.of sB)).append (FtsIn.mono r12 (KeepT.of (s13.trans s14)))
  rintro σ12 H12 ⟨pd2, U12, rfl⟩
  clear U11
  -- the chart
  refine ⟨fun σ' H' => ∃ (tc : Addr) (z : Str), (z = "inner" ∨ z = "outer") ∧ ChIn H' tc ⟨z, 3, 4, bs, E3.take m, rs, ds⟩ ∧ DueS H7 (dueOf bs (E3.take m).length rs ds) H' pd2 ∧ σ' = [some (.ref a), some (.ref tb), k2, o3, o4, some (.ref te), some (.ref tr), some (.int (mn : Int)), some (.ref td), some (.ref pd2), o10, some (.ref tc), none], ?_, ?_⟩
  · refine ⟨small_le (by show 2 ≤ 1000; decide), fun p1 hp1 => ?_⟩
    have s13 := same_new hp1 (.lst [.str "inner", .str "outer"])
    refine ⟨_, rfl, a, ns, 6, 7, rfl, ((B7.same.trans U12.same).trans s13).seq hS, h63, ⟨by decide, by decide⟩, ⟨by decide, by decide⟩, fun x x0 x1 => ?_⟩
    obtain ⟨z, hz, hat⟩ := atI_strs (zs := [("inner" : Str), "outer"]) (i := x % 2) (by omega) (by show _ < (2 : Int); omega)
    refine ⟨_, _, rfl, rfl, (by show (0 : Int) < 2; decide), p1, _, _, _, rfl, rfl, SqL.of upd_same, hat, _, rfl, _, rfl, _, rfl, _, rfl, small_le (by show 7 ≤ 1000; decide), fun tc htc => ?_⟩
    have s14 := same_new htc (.tup [.str z, .int 3, .int 4, .ref tb, .ref te, .ref tr, .ref td])
    have sA := s13.trans s14
    have sB := U12.same.trans sA
    obtain ⟨dv, hdv, rd⟩ := (D7.mono sB).ex
    obtain ⟨bv, hb, rb⟩ := (B7.mono sB).ex
    obtain ⟨rv, hrv, rr⟩ := (R7.mono sB).ex
    exact ⟨tc, z, by simpa using hz, ⟨tb, te, tr, td, bv, rv, dv, upd_same, hb, rb, sB _ _ hte7, hrv, rr, hdv, rd⟩, U12.keep sA, rfl⟩
  rintro σ13 H13 ⟨tc, z, hz, ch, U13, rfl⟩
  clear U12
  have fe := faults_eq (ds := ds) hz lbs m4 lrs
  have fl := due_len (ne := (E3.take m).length) (rs := rs) (ds := ds) lbs lrs (by omega)
  have sm : SmallP (okDs Prg.okSay) Prg.okDoor ⟨z, 3, 4, bs, E3.take m, rs, ds⟩ := by
    refine ⟨?_, by show bs.length ≤ 60; omega, fun b hb => ?_, by show (E3.take m).length ≤ 60; omega, fun e he => ev_nm e (List.mem_of_mem_take he), by show rs.length ≤ 60; omega, fun r hr => ?_, by show ds.length ≤ 100; omega, fun d hd => ?_⟩
    · show z.length ≤ 1000
      rcases hz with e | e <;> rw [e] <;> decide +kernel
    · obtain ⟨k, hk⟩ := List.mem_iff_getElem?.mp hb
      have hk' : k < bs.length := (List.getElem?_eq_some_iff.mp hk).1
      rw [(B7.ok k b hk).1]
      exact (by decide +kernel : ∀ k, k < 3 → (nmB k).length ≤ 1000) k (by have : bs.length ≤ 3 := lbs; omega)
    · obtain ⟨k, hk⟩ := List.mem_iff_getElem?.mp hr
      have hk' : k < rs.length := (List.getElem?_eq_some_iff.mp hk).1
      have g := R7.ok k r hk
      have h1 : r.nm.length ≤ 1000 := by
        rw [g.nm]
        exact (by decide +kernel : ∀ k, k < 6 → (nmR k).length ≤ 1000) k (by have : rs.length ≤ 6 := lrs; omega)
      have h2 : r.kind.length ≤ 1000 ∧ r.keeps.length ≤ 1000 := by
        rcases g.kk with ⟨k1, k2, k3⟩ | ⟨k1, ⟨k2, k3 | k3 | k3⟩ | ⟨k2, k3 | k3⟩⟩ <;> rw [k2, k3] <;> decide +kernel
      exact ⟨⟨by have := g.il; omega, g.iok⟩, ⟨by have := g.ol; omega, g.ook⟩, h1, h2.1, h2.2, by have := g.lamp; omega⟩
    · obtain ⟨g1, g2, g3, g4, g5⟩ := D7.ok d hd
      exact ⟨g1, by omega, g3, ⟨by omega, g5⟩⟩
  obtain ⟨fvd, hpd, rd⟩ := U13.ex
  refine ⟨_, rfl, tc, _, rfl, ch, sm, fun pf fvf H14 s14 npf hpf rf => ?_⟩
  rw [fe] at rf
  have npp : pd2 ≠ pf := ne_of_none hpd npf
  refine ⟨_, rfl, _, rfl, pf, pd2, fvf, fvd, _, rfl, hpf, s14 _ _ hpd, rf, FtsIn.mono rd (KeepT.of s14), fl, _, rfl, ifF rfl ?_⟩
  refine ⟨_, rfl, .inl ⟨rfl, _, SqL.of hpf⟩, small_le (by show 2 ≤ 1000; decide), fun t7 ht7 => ⟨pf, _, _, rfl, rfl, same_new ht7 _ _ _ hpf, small1000 (by have := rf.length; omega), ?_⟩⟩
  have s15 := same_new ht7 (.tup [.str "door", .int 99])
  have k15 : KeepT H14 (upd (upd H14 t7 (.tup [.str "door", .int 99])) pf (.lst (fvf ++ [.ref t7]))) := (KeepT.of s15).trans (KeepT.lst (s15 _ _ hpf) _)
  refine ⟨_, rfl, tc, _, rfl, ch.mono ((KeepT.of s14).trans k15), sm, fun pg fvg H16 s16 npg hpg rg => ?_⟩
  rw [fe] at rg
  refine ⟨_, rfl, pg, pd2, fvg, fvd, _, rfl, hpg, s16 _ _ (by rw [upd_ne npp]; exact s15 _ _ (s14 _ _ hpd)), rg, FtsIn.mono rd (((KeepT.of s14).trans k15).trans (KeepT.of s16)), fl, q _⟩
end
end K11

namespace K11
open PySem L2 Mix Gds Wds Cht Dds
/-! the top -/
def fnD (x q : Str) (st : Stmt) (pm cd : Value) : FuncData := PySem.W.fnOf x q (defArgs st) (defBody st) (defScope st) .none .none .none pm none cd .none
def fnB (d : FuncData) : Obj := ⟨.type "function", none, .func d, #[]⟩
def fd1 : FuncData := fnD "_law_cell_at" "_law_cell_at" sCell (.str "law_nesthall_k11_faults_of_doors" 441) (.ref 185)
def fd2 : FuncData := fnD "_law_mixed" "_law_mixed" sMixed (.str "law_nesthall_k11_faults_of_doors" 441) (.ref 192)
def fd3 : FuncData := fnD "_law_whole" "_law_whole" sWhole (.str "law_nesthall_k11_faults_of_doors" 441) (.ref 199)
def fd4 : FuncData := fnD "guards_within" "guards_within" Gdp.sWithin (.str "nesthall.guards" 187) (.ref 20)
def fd5 : FuncData := fnD "height" "height" Gdp.sHeight (.str "nesthall.guards" 187) (.ref 25)
def fd6 : FuncData := fnD "plain_guards" "plain_guards" Gdp.sPlain (.str "nesthall.guards" 187) (.ref 32)
def fd7 : FuncData := fnD "asked" "asked" Gdp.sAsked (.str "nesthall.guards" 187) (.ref 37)
def fd8 : FuncData := fnD "is_word" "is_word" sIsWord (.str "nesthall.words" 218) (.ref 42)
def fd9 : FuncData := fnD "is_number_of" "is_number_of" sNumHF (.str "nesthall.charts" 230) (.ref 51)
def fd10 : FuncData := fnD "is_in_reach" "is_in_reach" sReachHF (.str "nesthall.charts" 230) (.ref 58)
def fd11 : FuncData := fnD "name_has_fault" "name_has_fault" sNameHF (.str "nesthall.charts" 230) (.ref 70)
def fd12 : FuncData := fnD "names_of" "names_of" sNamesOf (.str "nesthall.charts" 230) (.ref 63)
def fd13 : FuncData := fnD "box_has_fault" "box_has_fault" sBoxHF (.str "nesthall.charts" 230) (.ref 77)
def fd14 : FuncData := fnD "deed_has_fault" "deed_has_fault" sDeedHF (.str "nesthall.charts" 230) (.ref 84)
def fd15 : FuncData := fnD "deeds_have_fault" "deeds_have_fault" sDeedsHF (.str "nesthall.charts" 230) (.ref 89)
def fd16 : FuncData := fnD "depth_has_fault" "depth_has_fault" sDepthHF (.str "nesthall.charts" 230) (.ref 96)
def fd17 : FuncData := fnD "keeps_has_fault" "keeps_has_fault" sKeepsHF (.str "nesthall.charts" 230) (.ref 103)
def fd18 : FuncData := fnD "room_has_fault" "room_has_fault" sRoomHF (.str "nesthall.charts" 230) (.ref 110)
def fd19 : FuncData := fnD "end_has_fault" "end_has_fault" sEndHF (.str "nesthall.charts" 230) (.ref 117)
def fd20 : FuncData := fnD "guard_has_fault" "guard_has_fault" sGuardHF (.str "nesthall.charts" 230) (.ref 122)
def fd21 : FuncData := fnD "goal_has_fault" "goal_has_fault" sGoalHF (.str "nesthall.charts" 230) (.ref 129)
def fd22 : FuncData := fnD "door_has_fault" "door_has_fault" sDoorHF (.str "nesthall.charts" 230) (.ref 136)
def fd23 : FuncData := fnD "bound_faults" "bound_faults" sBoundFs (.str "nesthall.charts" 230) (.ref 143)
def fd24 : FuncData := fnD "box_faults" "box_faults" sBoxFs (.str "nesthall.charts" 230) (.ref 150)
def fd25 : FuncData := fnD "event_faults" "event_faults" sEvFs (.str "nesthall.charts" 230) (.ref 157)
def fd26 : FuncData := fnD "room_faults" "room_faults" sRoomFs (.str "nesthall.charts" 230) (.ref 164)
def fd27 : FuncData := fnD "door_faults" "door_faults" sDoorFs (.str "nesthall.charts" 230) (.ref 171)
def fd28 : FuncData := fnD "faults" "faults" sFaults (.str "nesthall.charts" 230) (.ref 178)
def fd29 : FuncData := fnD "_law_told" "_law_told" sToldF (.str "law_nesthall_k11_faults_of_doors" 441) (.ref 206)
def fd30 : FuncData := fnD "_law_around" "_law_around" sAround (.str "law_nesthall_k11_faults_of_doors" 441) (.ref 213)
def fd31 : FuncData := fnD "_law_edge" "_law_edge" sEdge (.str "law_nesthall_k11_faults_of_doors" 441) (.ref 220)
def fd32 : FuncData := fnD "_law_text" "_law_text" sTextF (.str "law_nesthall_k11_faults_of_doors" 441) (.ref 227)
def fd33 : FuncData := fnD "_law_word" "_law_word" sWordF (.str "law_nesthall_k11_faults_of_doors" 441) (.ref 279)
def fd34 : FuncData := fnD "_law_bad_deed" "_law_bad_deed" sBadDeed (.str "law_nesthall_k11_faults_of_doors" 441) (.ref 286)
def fd35 : FuncData := fnD "_law_bad_deeds" "_law_bad_deeds" sBadDeeds (.str "law_nesthall_k11_faults_of_doors" 441) (.ref 291)
def fd36 : FuncData := fnD "_law_deed" "_law_deed" sDeedF (.str "law_nesthall_k11_faults_of_doors" 441) (.ref 234)
def fd37 : FuncData := fnD "_law_deeds" "_law_deeds" sDeedsF (.str "law_nesthall_k11_faults_of_doors" 441) (.ref 241)
def fd38 : FuncData := fnD "_law_leaf" "_law_leaf" sLeafF (.str "law_nesthall_k11_faults_of_doors" 441) (.ref 248)
def fd39 : FuncData := fnD "_law_inner" "_law_inner" sInnerF (.str "law_nesthall_k11_faults_of_doors" 441) (.ref 260)
def fd40 : FuncData := fnD "_law_height" "_law_height" sHeightF (.str "law_nesthall_k11_faults_of_doors" 441) (.ref 265)
def fd41 : FuncData := fnD "_law_bad_guard" "_law_bad_guard" sBadGuard (.str "law_nesthall_k11_faults_of_doors" 441) (.ref 272)
def fd42 : FuncData := fnD "_law_guard" "_law_guard" sGuardF (.str "law_nesthall_k11_faults_of_doors" 441) (.ref 255)
def fd43 : FuncData := fnD "_law_bad_door" "_law_bad_door" sBadDoor (.str "law_nesthall_k11_faults_of_doors" 441) (.ref 298)
def fd44 : FuncData := fnD "_law_rooms" "_law_rooms" sRoomsF (.str "law_nesthall_k11_faults_of_doors" 441) (.ref 305)
def fd45 : FuncData := fnD "_law_door" "_law_door" sDoorF (.str "law_nesthall_k11_faults_of_doors" 441) (.ref 312)
def fd46 : FuncData := fnD "law" "law" sLawF (.str "law_nesthall_k11_faults_of_doors" 441) (.ref 317)
def KO (P : Params) : PySem.W.Frag := [
  (3, ⟨.type "dict", none, .dict #[⟨PyData.keyHash P "__name__", .str "__name__" 165, .str "law_nesthall_k11_faults_of_doors" 441⟩, ⟨PyData.keyHash P "__doc__", .str "__doc__" 166, .none⟩, ⟨PyData.keyHash P "__package__", .str "__package__" 167, .none⟩, ⟨PyData.keyHash P "__loader__", .str "__loader__" 168, .builtin "__main__.__loader__#opaque"⟩, ⟨PyData.keyHash P "__spec__", .str "__spec__" 169, .none⟩, ⟨PyData.keyHash P "__annotations__", .str "__annotations__" 170, .ref 6⟩, ⟨PyData.keyHash P "__builtins__", .str "__builtins__" 171, .ref 4⟩, ⟨PyData.keyHash P "__file__", .str "__file__" 173, .str "/claim/cut.py" 172⟩, ⟨PyData.keyHash P "__cached__", .str "__cached__" 174, .none⟩, ⟨PyData.keyHash P "guards_within", .str "guards_within" 195, .ref 21⟩, ⟨PyData.keyHash P "height", .str "height" 201, .ref 26⟩, ⟨PyData.keyHash P "plain_guards", .str "plain_guards" 211, .ref 33⟩, ⟨PyData.keyHash P "asked", .str "asked" 217, .ref 38⟩, ⟨PyData.keyHash P "SMALL_LETTERS", .str "SMALL_LETTERS" 221, .str "abcdefghijklmnopqrstuvwxyz" 220⟩, ⟨PyData.keyHash P "LONGEST", .str "LONGEST" 223, .int (12) 222⟩, ⟨PyData.keyHash P "is_word", .str "is_word" 229, .ref 43⟩, ⟨PyData.keyHash P "ORDERS", .str "ORDERS" 234, .ref 44⟩, ⟨PyData.keyHash P "KINDS", .str "KINDS" 238, .ref 45⟩, ⟨PyData.keyHash P "MOST_LETTERS", .str "MOST_LETTERS" 240, .int (12) 239⟩, ⟨PyData.keyHash P "MOST_TURNS", .str "MOST_TURNS" 242, .int (20) 241⟩, ⟨PyData.keyHash P "MOST_BOXES", .str "MOST_BOXES" 244, .int (6) 243⟩, ⟨PyData.keyHash P "MOST_EVENTS", .str "MOST_EVENTS" 246, .int (8) 245⟩, ⟨PyData.keyHash P "MOST_ROOMS", .str "MOST_ROOMS" 248, .int (40) 247⟩, ⟨PyData.keyHash P "MOST_DOORS", .str "MOST_DOORS" 250, .int (60) 249⟩, ⟨PyData.keyHash P "MOST_DEEDS", .str "MOST_DEEDS" 252, .int (8) 251⟩, ⟨PyData.keyHash P "DEEPEST", .str "DEEPEST" 254, .int (12) 253⟩, ⟨PyData.keyHash P "HIGHEST", .str "HIGHEST" 256, .int (6) 255⟩, ⟨PyData.keyHash P "GREATEST", .str "GREATEST" 258, .int (1000000000000000000000000000000) 257⟩, ⟨PyData.keyHash P "is_number_of", .str "is_number_of" 266, .ref 52⟩, ⟨PyData.keyHash P "is_in_reach", .str "is_in_reach" 273, .ref 59⟩, ⟨PyData.keyHash P "names_of", .str "names_of" 279, .ref 64⟩, ⟨PyData.keyHash P "name_has_fault", .str "name_has_fault" 287, .ref 71⟩, ⟨PyData.keyHash P "box_has_fault", .str "box_has_fault" 297, .ref 78⟩, ⟨PyData.keyHash P "deed_has_fault", .str "deed_has_fault" 308, .ref 85⟩, ⟨PyData.keyHash P "deeds_have_fault", .str "deeds_have_fault" 314, .ref 90⟩, ⟨PyData.keyHash P "depth_has_fault", .str "depth_has_fault" 322, .ref 97⟩, ⟨PyData.keyHash P "keeps_has_fault", .str "keeps_has_fault" 330, .ref 104⟩, ⟨PyData.keyHash P "room_has_fault", .str "room_has_fault" 342, .ref 111⟩, ⟨PyData.keyHash P "end_has_fault", .str "end_has_fault" 351, .ref 118⟩, ⟨PyData.keyHash P "guard_has_fault", .str "guard_has_fault" 357, .ref 123⟩, ⟨PyData.keyHash P "goal_has_fault", .str "goal_has_fault" 366, .ref 130⟩, ⟨PyData.keyHash P "door_has_fault", .str "door_has_fault" 376, .ref 137⟩, ⟨PyData.keyHash P "bound_faults", .str "bound_faults" 384, .ref 144⟩, ⟨PyData.keyHash P "box_faults", .str "box_faults" 394, .ref 151⟩, ⟨PyData.keyHash P "event_faults", .str "event_faults" 404, .ref 158⟩, ⟨PyData.keyHash P "room_faults", .str "room_faults" 416, .ref 165⟩, ⟨PyData.keyHash P "door_faults", .str "door_faults" 429, .ref 172⟩, ⟨PyData.keyHash P "faults", .str "faults" 440, .ref 179⟩, ⟨PyData.keyHash P "_law_cell_at", .str "_law_cell_at" 450, .ref 186⟩, ⟨PyData.keyHash P "_law_mixed", .str "_law_mixed" 462, .ref 193⟩, ⟨PyData.keyHash P "_law_whole", .str "_law_whole" 469, .ref 200⟩, ⟨PyData.keyHash P "_law_told", .str "_law_told" 478, .ref 207⟩, ⟨PyData.keyHash P "_law_around", .str "_law_around" 486, .ref 214⟩, ⟨PyData.keyHash P "_law_edge", .str "_law_edge" 497, .ref 221⟩, ⟨PyData.keyHash P "_law_text", .str "_law_text" 508, .ref 228⟩, ⟨PyData.keyHash P "_law_deed", .str "_law_deed" 524, .ref 235⟩, ⟨PyData.keyHash P "_law_deeds", .str "_law_deeds" 540, .ref 242⟩, ⟨PyData.keyHash P "_law_leaf", .str "_law_leaf" 552, .ref 249⟩, ⟨PyData.keyHash P "_law_guard", .str "_law_guard" 566, .ref 256⟩, ⟨PyData.keyHash P "_law_inner", .str "_law_inner" 572, .ref 261⟩, ⟨PyData.keyHash P "_law_height", .str "_law_height" 578, .ref 266⟩, ⟨PyData.keyHash P "_law_bad_guard", .str "_law_bad_guard" 588, .ref 273⟩, ⟨PyData.keyHash P "_law_word", .str "_law_word" 596, .ref 280⟩, ⟨PyData.keyHash P "_law_bad_deed", .str "_law_bad_deed" 605, .ref 287⟩, ⟨PyData.keyHash P "_law_bad_deeds", .str "_law_bad_deeds" 611, .ref 292⟩, ⟨PyData.keyHash P "_law_bad_door", .str "_law_bad_door" 627, .ref 299⟩, ⟨PyData.keyHash P "_law_rooms", .str "_law_rooms" 646, .ref 306⟩, ⟨PyData.keyHash P "_law_door", .str "_law_door" 663, .ref 313⟩, ⟨PyData.keyHash P "law", .str "law" 669, .ref 318⟩] 69, #[]⟩),
  (185, ⟨.type "code", none, .fields #[.str "_law_cell_at" 443, .str "_law_cell_at" 444, .str "/claim/cut.py" 445, .int (159) 0, .int (2) 0, .int (0) 0, .int (0) 0, .int (3) 0, .ref 180, .bool true, .int (181) 0, .ref 181, .none, .ref 182, .ref 183, .ref 184, .int (448) 0, .int (159) 0, .str "/claim/cut.py" 449], #[]⟩),
  (186, fnB fd1),
  (192, ⟨.type "code", none, .fields #[.str "_law_mixed" 451, .str "_law_mixed" 452, .str "/claim/cut.py" 453, .int (163) 0, .int (3) 0, .int (0) 0, .int (0) 0, .int (3) 0, .ref 187, .bool true, .int (181) 0, .ref 188, .none, .ref 189, .ref 190, .ref 191, .int (460) 0, .int (163) 0, .str "/claim/cut.py" 461], #[]⟩),
  (193, fnB fd2),
  (199, ⟨.type "code", none, .fields #[.str "_law_whole" 463, .str "_law_whole" 464, .str "/claim/cut.py" 465, .int (170) 0, .int (1) 0, .int (0) 0, .int (0) 0, .int (3) 0, .ref 194, .bool true, .int (181) 0, .ref 195, .none, .ref 196, .ref 197, .ref 198, .int (467) 0, .int (170) 0, .str "/claim/cut.py" 468], #[]⟩),
  (200, fnB fd3),
  (20, ⟨.type "code", none, .fields #[.str "guards_within" 189, .str "guards_within" 190, .str "/claim/cut.py" 191, .int (2) 0, .int (1) 0, .int (0) 0, .int (0) 0, .int (3) 0, .ref 15, .bool true, .int (181) 0, .ref 16, .none, .ref 17, .ref 18, .ref 19, .int (193) 0, .int (2) 0, .str "/claim/cut.py" 194], #[]⟩),
  (21, fnB fd4),
  (25, ⟨.type "code", none, .fields #[.str "height" 196, .str "height" 197, .str "/claim/cut.py" 198, .int (8) 0, .int (1) 0, .int (0) 0, .int (0) 0, .int (3) 0, .ref 22, .bool true, .int (181) 0, .ref 23, .none, .none, .none, .ref 24, .int (199) 0, .int (8) 0, .str "/claim/cut.py" 200], #[]⟩),
  (26, fnB fd5),
  (32, ⟨.type "code", none, .fields #[.str "plain_guards" 202, .str "plain_guards" 203, .str "/claim/cut.py" 204, .int (10) 0, .int (1) 0, .int (0) 0, .int (0) 0, .int (3) 0, .ref 27, .bool true, .int (181) 0, .ref 28, .none, .ref 29, .ref 30, .ref 31, .int (209) 0, .int (10) 0, .str "/claim/cut.py" 210], #[]⟩),
  (33, fnB fd6),
  (37, ⟨.type "code", none, .fields #[.str "asked" 212, .str "asked" 213, .str "/claim/cut.py" 214, .int (18) 0, .int (1) 0, .int (0) 0, .int (0) 0, .int (3) 0, .ref 34, .bool true, .int (181) 0, .ref 35, .none, .none, .none, .ref 36, .int (215) 0, .int (18) 0, .str "/claim/cut.py" 216], #[]⟩),
  (38, fnB fd7),
  (42, ⟨.type "code", none, .fields #[.str "is_word" 224, .str "is_word" 225, .str "/claim/cut.py" 226, .int (26) 0, .int (1) 0, .int (0) 0, .int (0) 0, .int (3) 0, .ref 39, .bool true, .int (181) 0, .ref 40, .none, .none, .none, .ref 41, .int (227) 0, .int (26) 0, .str "/claim/cut.py" 228], #[]⟩),
  (43, fnB fd8),
  (51, ⟨.type "code", none, .fields #[.str "is_number_of" 259, .str "is_number_of" 260, .str "/claim/cut.py" 261, .int (41) 0, .int (2) 0, .int (0) 0, .int (0) 0, .int (3) 0, .ref 46, .bool true, .int (181) 0, .ref 47, .none, .ref 48, .ref 49, .ref 50, .int (264) 0, .int (41) 0, .str "/claim/cut.py" 265], #[]⟩),
  (52, fnB fd9),
  (58, ⟨.type "code", none, .fields #[.str "is_in_reach" 267, .str "is_in_reach" 268, .str "/claim/cut.py" 269, .int (43) 0, .int (1) 0, .int (0) 0, .int (0) 0, .int (3) 0, .ref 53, .bool true, .int (181) 0, .ref 54, .none, .ref 55, .ref 56, .ref 57, .int (271) 0, .int (43) 0, .str "/claim/cut.py" 272], #[]⟩),
  (59, fnB fd10),
  (70, ⟨.type "code", none, .fields #[.str "name_has_fault" 280, .str "name_has_fault" 281, .str "/claim/cut.py" 282, .int (47) 0, .int (2) 0, .int (0) 0, .int (0) 0, .int (3) 0, .ref 65, .bool true, .int (181) 0, .ref 66, .none, .ref 67, .ref 68, .ref 69, .int (285) 0, .int (47) 0, .str "/claim/cut.py" 286], #[]⟩),
  (71, fnB fd11),
  (63, ⟨.type "code", none, .fields #[.str "names_of" 274, .str "names_of" 275, .str "/claim/cut.py" 276, .int (45) 0, .int (1) 0, .int (0) 0, .int (0) 0, .int (3) 0, .ref 60, .bool true, .int (181) 0, .ref 61, .none, .none, .none, .ref 62, .int (277) 0, .int (45) 0, .str "/claim/cut.py" 278], #[]⟩),
  (64, fnB fd12),
  (77, ⟨.type "code", none, .fields #[.str "box_has_fault" 288, .str "box_has_fault" 289, .str "/claim/cut.py" 290, .int (49) 0, .int (2) 0, .int (0) 0, .int (0) 0, .int (3) 0, .ref 72, .bool true, .int (181) 0, .ref 73, .none, .ref 74, .ref 75, .ref 76, .int (295) 0, .int (49) 0, .str "/claim/cut.py" 296], #[]⟩),
  (78, fnB fd13),
  (84, ⟨.type "code", none, .fields #[.str "deed_has_fault" 298, .str "deed_has_fault" 299, .str "/claim/cut.py" 300, .int (55) 0, .int (3) 0, .int (0) 0, .int (0) 0, .int (3) 0, .ref 79, .bool true, .int (181) 0, .ref 80, .none, .ref 81, .ref 82, .ref 83, .int (306) 0, .int (55) 0, .str "/claim/cut.py" 307], #[]⟩),
  (85, fnB fd14),
  (89, ⟨.type "code", none, .fields #[.str "deeds_have_fault" 309, .str "deeds_have_fault" 310, .str "/claim/cut.py" 311, .int (67) 0, .int (3) 0, .int (0) 0, .int (0) 0, .int (3) 0, .ref 86, .bool true, .int (181) 0, .ref 87, .none, .none, .none, .ref 88, .int (312) 0, .int (67) 0, .str "/claim/cut.py" 313], #[]⟩),
  (90, fnB fd15),
  (96, ⟨.type "code", none, .fields #[.str "depth_has_fault" 315, .str "depth_has_fault" 316, .str "/claim/cut.py" 317, .int (69) 0, .int (2) 0, .int (0) 0, .int (0) 0, .int (3) 0, .ref 91, .bool true, .int (181) 0, .ref 92, .none, .ref 93, .ref 94, .ref 95, .int (320) 0, .int (69) 0, .str "/claim/cut.py" 321], #[]⟩),
  (97, fnB fd16),
  (103, ⟨.type "code", none, .fields #[.str "keeps_has_fault" 323, .str "keeps_has_fault" 324, .str "/claim/cut.py" 325, .int (73) 0, .int (2) 0, .int (0) 0, .int (0) 0, .int (3) 0, .ref 98, .bool true, .int (181) 0, .ref 99, .none, .ref 100, .ref 101, .ref 102, .int (328) 0, .int (73) 0, .str "/claim/cut.py" 329], #[]⟩),
  (104, fnB fd17),
  (110, ⟨.type "code", none, .fields #[.str "room_has_fault" 331, .str "room_has_fault" 332, .str "/claim/cut.py" 333, .int (79) 0, .int (4) 0, .int (0) 0, .int (0) 0, .int (3) 0, .ref 105, .bool true, .int (181) 0, .ref 106, .none, .ref 107, .ref 108, .ref 109, .int (340) 0, .int (79) 0, .str "/claim/cut.py" 341], #[]⟩),
  (111, fnB fd18),
  (117, ⟨.type "code", none, .fields #[.str "end_has_fault" 343, .str "end_has_fault" 344, .str "/claim/cut.py" 345, .int (89) 0, .int (2) 0, .int (0) 0, .int (0) 0, .int (3) 0, .ref 112, .bool true, .int (181) 0, .ref 113, .none, .ref 114, .ref 115, .ref 116, .int (349) 0, .int (89) 0, .str "/claim/cut.py" 350], #[]⟩),
  (118, fnB fd19),
  (122, ⟨.type "code", none, .fields #[.str "guard_has_fault" 352, .str "guard_has_fault" 353, .str "/claim/cut.py" 354, .int (94) 0, .int (3) 0, .int (0) 0, .int (0) 0, .int (3) 0, .ref 119, .bool true, .int (181) 0, .ref 120, .none, .none, .none, .ref 121, .int (355) 0, .int (94) 0, .str "/claim/cut.py" 356], #[]⟩),
  (123, fnB fd20),
  (129, ⟨.type "code", none, .fields #[.str "goal_has_fault" 358, .str "goal_has_fault" 359, .str "/claim/cut.py" 360, .int (103) 0, .int (3) 0, .int (0) 0, .int (0) 0, .int (3) 0, .ref 124, .bool true, .int (181) 0, .ref 125, .none, .ref 126, .ref 127, .ref 128, .int (364) 0, .int (103) 0, .str "/claim/cut.py" 365], #[]⟩),
  (130, fnB fd21),
  (136, ⟨.type "code", none, .fields #[.str "door_has_fault" 367, .str "door_has_fault" 368, .str "/claim/cut.py" 369, .int (109) 0, .int (4) 0, .int (0) 0, .int (0) 0, .int (3) 0, .ref 131, .bool true, .int (181) 0, .ref 132, .none, .ref 133, .ref 134, .ref 135, .int (374) 0, .int (109) 0, .str "/claim/cut.py" 375], #[]⟩),
  (137, fnB fd22),
  (143, ⟨.type "code", none, .fields #[.str "bound_faults" 377, .str "bound_faults" 378, .str "/claim/cut.py" 379, .int (115) 0, .int (1) 0, .int (0) 0, .int (0) 0, .int (3) 0, .ref 138, .bool true, .int (181) 0, .ref 139, .none, .ref 140, .ref 141, .ref 142, .int (382) 0, .int (115) 0, .str "/claim/cut.py" 383], #[]⟩),
  (144, fnB fd23),
  (150, ⟨.type "code", none, .fields #[.str "box_faults" 385, .str "box_faults" 386, .str "/claim/cut.py" 387, .int (124) 0, .int (1) 0, .int (0) 0, .int (0) 0, .int (3) 0, .ref 145, .bool true, .int (181) 0, .ref 146, .none, .ref 147, .ref 148, .ref 149, .int (392) 0, .int (124) 0, .str "/claim/cut.py" 393], #[]⟩),
  (151, fnB fd24),
  (157, ⟨.type "code", none, .fields #[.str "event_faults" 395, .str "event_faults" 396, .str "/claim/cut.py" 397, .int (130) 0, .int (1) 0, .int (0) 0, .int (0) 0, .int (3) 0, .ref 152, .bool true, .int (181) 0, .ref 153, .none, .ref 154, .ref 155, .ref 156, .int (402) 0, .int (130) 0, .str "/claim/cut.py" 403], #[]⟩),
  (158, fnB fd25),
  (164, ⟨.type "code", none, .fields #[.str "room_faults" 405, .str "room_faults" 406, .str "/claim/cut.py" 407, .int (136) 0, .int (3) 0, .int (0) 0, .int (0) 0, .int (3) 0, .ref 159, .bool true, .int (181) 0, .ref 160, .none, .ref 161, .ref 162, .ref 163, .int (414) 0, .int (136) 0, .str "/claim/cut.py" 415], #[]⟩),
  (165, fnB fd26),
  (171, ⟨.type "code", none, .fields #[.str "door_faults" 417, .str "door_faults" 418, .str "/claim/cut.py" 419, .int (142) 0, .int (4) 0, .int (0) 0, .int (0) 0, .int (3) 0, .ref 166, .bool true, .int (181) 0, .ref 167, .none, .ref 168, .ref 169, .ref 170, .int (427) 0, .int (142) 0, .str "/claim/cut.py" 428], #[]⟩),
  (172, fnB fd27),
  (178, ⟨.type "code", none, .fields #[.str "faults" 430, .str "faults" 431, .str "/claim/cut.py" 432, .int (148) 0, .int (1) 0, .int (0) 0, .int (0) 0, .int (3) 0, .ref 173, .bool true, .int (181) 0, .ref 174, .none, .ref 175, .ref 176, .ref 177, .int (438) 0, .int (148) 0, .str "/claim/cut.py" 439], #[]⟩),
  (179, fnB fd28),
  (206, ⟨.type "code", none, .fields #[.str "_law_told" 470, .str "_law_told" 471, .str "/claim/cut.py" 472, .int (172) 0, .int (2) 0, .int (0) 0, .int (0) 0, .int (3) 0, .ref 201, .bool true, .int (181) 0, .ref 202, .none, .ref 203, .ref 204, .ref 205, .int (476) 0, .int (172) 0, .str "/claim/cut.py" 477], #[]⟩),
  (207, fnB fd29),
  (213, ⟨.type "code", none, .fields #[.str "_law_around" 479, .str "_law_around" 480, .str "/claim/cut.py" 481, .int (183) 0, .int (2) 0, .int (0) 0, .int (0) 0, .int (3) 0, .ref 208, .bool true, .int (181) 0, .ref 209, .none, .ref 210, .ref 211, .ref 212, .int (484) 0, .int (183) 0, .str "/claim/cut.py" 485], #[]⟩),
  (214, fnB fd30),
  (220, ⟨.type "code", none, .fields #[.str "_law_edge" 487, .str "_law_edge" 488, .str "/claim/cut.py" 489, .int (187) 0, .int (3) 0, .int (0) 0, .int (0) 0, .int (3) 0, .ref 215, .bool true, .int (181) 0, .ref 216, .none, .ref 217, .ref 218, .ref 219, .int (495) 0, .int (187) 0, .str "/claim/cut.py" 496], #[]⟩),
  (221, fnB fd31),
  (227, ⟨.type "code", none, .fields #[.str "_law_text" 498, .str "_law_text" 499, .str "/claim/cut.py" 500, .int (191) 0, .int (1) 0, .int (0) 0, .int (0) 0, .int (3) 0, .ref 222, .bool true, .int (181) 0, .ref 223, .none, .ref 224, .ref 225, .ref 226, .int (506) 0, .int (191) 0, .str "/claim/cut.py" 507], #[]⟩),
  (228, fnB fd32),
  (279, ⟨.type "code", none, .fields #[.str "_law_word" 589, .str "_law_word" 590, .str "/claim/cut.py" 591, .int (260) 0, .int (1) 0, .int (0) 0, .int (0) 0, .int (3) 0, .ref 274, .bool true, .int (181) 0, .ref 275, .none, .ref 276, .ref 277, .ref 278, .int (594) 0, .int (260) 0, .str "/claim/cut.py" 595], #[]⟩),
  (280, fnB fd33),
  (286, ⟨.type "code", none, .fields #[.str "_law_bad_deed" 597, .str "_law_bad_deed" 598, .str "/claim/cut.py" 599, .int (267) 0, .int (3) 0, .int (0) 0, .int (0) 0, .int (3) 0, .ref 281, .bool true, .int (181) 0, .ref 282, .none, .ref 283, .ref 284, .ref 285, .int (603) 0, .int (267) 0, .str "/claim/cut.py" 604], #[]⟩),
  (287, fnB fd34),
  (291, ⟨.type "code", none, .fields #[.str "_law_bad_deeds" 606, .str "_law_bad_deeds" 607, .str "/claim/cut.py" 608, .int (277) 0, .int (3) 0, .int (0) 0, .int (0) 0, .int (3) 0, .ref 288, .bool true, .int (181) 0, .ref 289, .none, .none, .none, .ref 290, .int (609) 0, .int (277) 0, .str "/claim/cut.py" 610], #[]⟩),
  (292, fnB fd35),
  (234, ⟨.type "code", none, .fields #[.str "_law_deed" 509, .str "_law_deed" 510, .str "/claim/cut.py" 511, .int (201) 0, .int (5) 0, .int (0) 0, .int (0) 0, .int (3) 0, .ref 229, .bool true, .int (181) 0, .ref 230, .none, .ref 231, .ref 232, .ref 233, .int (522) 0, .int (201) 0, .str "/claim/cut.py" 523], #[]⟩),
  (235, fnB fd36),
  (241, ⟨.type "code", none, .fields #[.str "_law_deeds" 525, .str "_law_deeds" 526, .str "/claim/cut.py" 527, .int (216) 0, .int (5) 0, .int (0) 0, .int (0) 0, .int (3) 0, .ref 236, .bool true, .int (181) 0, .ref 237, .none, .ref 238, .ref 239, .ref 240, .int (538) 0, .int (216) 0, .str "/claim/cut.py" 539], #[]⟩),
  (242, fnB fd37),
  (248, ⟨.type "code", none, .fields #[.str "_law_leaf" 541, .str "_law_leaf" 542, .str "/claim/cut.py" 543, .int (226) 0, .int (5) 0, .int (0) 0, .int (0) 0, .int (3) 0, .ref 243, .bool true, .int (181) 0, .ref 244, .none, .ref 245, .ref 246, .ref 247, .int (550) 0, .int (226) 0, .str "/claim/cut.py" 551], #[]⟩),
  (249, fnB fd38),
  (260, ⟨.type "code", none, .fields #[.str "_law_inner" 567, .str "_law_inner" 568, .str "/claim/cut.py" 569, .int (247) 0, .int (1) 0, .int (0) 0, .int (0) 0, .int (3) 0, .ref 257, .bool true, .int (181) 0, .ref 258, .none, .none, .none, .ref 259, .int (570) 0, .int (247) 0, .str "/claim/cut.py" 571], #[]⟩),
  (261, fnB fd39),
  (265, ⟨.type "code", none, .fields #[.str "_law_height" 573, .str "_law_height" 574, .str "/claim/cut.py" 575, .int (249) 0, .int (1) 0, .int (0) 0, .int (0) 0, .int (3) 0, .ref 262, .bool true, .int (181) 0, .ref 263, .none, .none, .none, .ref 264, .int (576) 0, .int (249) 0, .str "/claim/cut.py" 577], #[]⟩),
  (266, fnB fd40),
  (272, ⟨.type "code", none, .fields #[.str "_law_bad_guard" 579, .str "_law_bad_guard" 580, .str "/claim/cut.py" 581, .int (251) 0, .int (3) 0, .int (0) 0, .int (0) 0, .int (3) 0, .ref 267, .bool true, .int (181) 0, .ref 268, .none, .ref 269, .ref 270, .ref 271, .int (586) 0, .int (251) 0, .str "/claim/cut.py" 587], #[]⟩),
  (273, fnB fd41),
  (255, ⟨.type "code", none, .fields #[.str "_law_guard" 553, .str "_law_guard" 554, .str "/claim/cut.py" 555, .int (235) 0, .int (4) 0, .int (0) 0, .int (0) 0, .int (3) 0, .ref 250, .bool true, .int (181) 0, .ref 251, .none, .ref 252, .ref 253, .ref 254, .int (564) 0, .int (235) 0, .str "/claim/cut.py" 565], #[]⟩),
  (256, fnB fd42),
  (298, ⟨.type "code", none, .fields #[.str "_law_bad_door" 612, .str "_law_bad_door" 613, .str "/claim/cut.py" 614, .int (279) 0, .int (4) 0, .int (0) 0, .int (0) 0, .int (3) 0, .ref 293, .bool true, .int (181) 0, .ref 294, .none, .ref 295, .ref 296, .ref 297, .int (625) 0, .int (279) 0, .str "/claim/cut.py" 626], #[]⟩),
  (299, fnB fd43),
  (305, ⟨.type "code", none, .fields #[.str "_law_rooms" 628, .str "_law_rooms" 629, .str "/claim/cut.py" 630, .int (292) 0, .int (3) 0, .int (0) 0, .int (0) 0, .int (3) 0, .ref 300, .bool true, .int (181) 0, .ref 301, .none, .ref 302, .ref 303, .ref 304, .int (644) 0, .int (292) 0, .str "/claim/cut.py" 645], #[]⟩),
  (306, fnB fd44),
  (312, ⟨.type "code", none, .fields #[.str "_law_door" 647, .str "_law_door" 648, .str "/claim/cut.py" 649, .int (310) 0, .int (5) 0, .int (0) 0, .int (0) 0, .int (3) 0, .ref 307, .bool true, .int (181) 0, .ref 308, .none, .ref 309, .ref 310, .ref 311, .int (661) 0, .int (310) 0, .str "/claim/cut.py" 662], #[]⟩),
  (313, fnB fd45),
  (317, ⟨.type "code", none, .fields #[.str "law" 664, .str "law" 665, .str "/claim/cut.py" 666, .int (320) 0, .int (1) 0, .int (0) 0, .int (0) 0, .int (3) 0, .ref 314, .bool true, .int (181) 0, .ref 315, .none, .none, .none, .ref 316, .int (667) 0, .int (320) 0, .str "/claim/cut.py" 668], #[]⟩),
  (318, fnB fd46),
  (44, ⟨.type "tuple", none, .seq #[.str "inner" 232, .str "outer" 233] 0, #[]⟩),
  (45, ⟨.type "tuple", none, .seq #[.str "plain" 235, .str "one" 236, .str "all" 237] 0, #[]⟩)]
def KA : List Addr := [3, 185, 186, 192, 193, 199, 200, 20, 21, 25, 26, 32, 33, 37, 38, 42, 43, 51, 52, 58, 59, 70, 71, 63, 64, 77, 78, 84, 85, 89, 90, 96, 97, 103, 104, 110, 111, 117, 118, 122, 123, 129, 130, 136, 137, 143, 144, 150, 151, 157, 158, 164, 165, 171, 172, 178, 179, 206, 207, 213, 214, 220, 221, 227, 228, 279, 280, 286, 287, 291, 292, 234, 235, 241, 242, 248, 249, 260, 261, 265, 266, 272, 273, 255, 256, 298, 299, 305, 306, 312, 313, 317, 318, 44, 45]
def PW : Program := PySem.Challenge.pw_nesthall_k11_faults_of_doors
def QV : Program := PySem.W.view PW [63]
def LS : List Str := [Str.ofString "__name__", Str.ofString "guards_within", Str.ofString "height", Str.ofString "plain_guards", Str.ofString "asked", Str.ofString "SMALL_LETTERS", Str.ofString "LONGEST", Str.ofString "is_word", Str.ofString "ORDERS", Str.ofString "KINDS", Str.ofString "MOST_LETTERS", Str.ofString "MOST_TURNS", Str.ofString "MOST_BOXES", Str.ofString "MOST_EVENTS", Str.ofString "MOST_ROOMS", Str.ofString "MOST_DOORS", Str.ofString "MOST_DEEDS", Str.ofString "DEEPEST", Str.ofString "HIGHEST", Str.ofString "GREATEST", Str.ofString "is_number_of", Str.ofString "is_in_reach", Str.ofString "names_of", Str.ofString "name_has_fault", Str.ofString "box_has_fault", Str.ofString "deed_has_fault", Str.ofString "deeds_have_fault", Str.ofString "depth_has_fault", Str.ofString "keeps_has_fault", Str.ofString "room_has_fault", Str.ofString "end_has_fault", Str.ofString "guard_has_fault", Str.ofString "goal_has_fault", Str.ofString "door_has_fault", Str.ofString "bound_faults", Str.ofString "box_faults", Str.ofString "event_faults", Str.ofString "room_faults", Str.ofString "door_faults", Str.ofString "faults", Str.ofString "_law_cell_at", Str.ofString "_law_mixed", Str.ofString "_law_whole", Str.ofString "_law_told", Str.ofString "_law_around", Str.ofString "_law_edge", Str.ofString "_law_text", Str.ofString "_law_deed", Str.ofString "_law_deeds", Str.ofString "_law_leaf", Str.ofString "_law_guard", Str.ofString "_law_inner", Str.ofString "_law_height", Str.ofString "_law_bad_guard", Str.ofString "_law_word", Str.ofString "_law_bad_deed", Str.ofString "_law_bad_deeds", Str.ofString "_law_bad_door", Str.ofString "_law_rooms", Str.ofString "_law_door"]
def HK : PySem.W.Hook := PySem.W.kHook KO KA fun _ => by kernel_rfl
def defPos : Stmt → Pos
  | .FunctionDef _ _ _ _ _ _ _ _ _ p => p
  | _ => ⟨0, 0, 0, 0⟩
def dLaw : DefRec := ⟨"law", defArgs sLawF, defBody sLawF, defScope sLawF, defPos sLawF⟩
set_option maxHeartbeats 0 in
theorem said : PySem.Challenge.rw_nesthall_k11_faults_of_doors.wellSaid = true := by kernel_rfl
set_option maxHeartbeats 0 in
theorem left : PySem.W.LeftO PW QV LS (fun s => PySem.W.xlAt QV [] s && PySem.W.recOk [] s) HK.obs HK.val 4336 := fun w => by kernel_rfl
theorem hdef : PySem.W.defOf QV "law" = some (dLaw, []) := by kernel_rfl
theorem hok : (PySem.W.chainsOk QV && PySem.W.opensWell PW && (PySem.W.frees PySem.Challenge.rw_nesthall_k11_faults_of_doors.row.toRowW && PySem.Challenge.rw_nesthall_k11_faults_of_doors.row.within.isEmpty)) = true := by kernel_rfl
theorem hbare : PW.bare := ⟨rfl, rfl, rfl, rfl, rfl, by decide +kernel⟩
theorem hkw : PySem.W.kwWritten? dLaw.params.kwonlyargs dLaw.params.kw_defaults = some [] := by kernel_rfl
theorem hthe : PW.theDef "law" = some (dLaw.params, dLaw.body, dLaw.scope) := by kernel_rfl
theorem a1 (P : Params) : PySem.W.nsIn (KO P) mainGlobals "_law_cell_at" = some (some (.ref 186)) := by kernel_rfl
theorem u1 (P : Params) : Fun (KO P) "_law_cell_at" "_law_cell_at" sCell 186 fd1 := fun_mk (show (KO P).lookup 186 = some (fnB fd1) by kernel_rfl) (by kernel_rfl) (by kernel_rfl)
theorem a2 (P : Params) : PySem.W.nsIn (KO P) mainGlobals "_law_mixed" = some (some (.ref 193)) := by kernel_rfl
theorem u2 (P : Params) : Fun (KO P) "_law_mixed" "_law_mixed" sMixed 193 fd2 := fun_mk (show (KO P).lookup 193 = some (fnB fd2) by kernel_rfl) (by kernel_rfl) (by kernel_rfl)
theorem a3 (P : Params) : PySem.W.nsIn (KO P) mainGlobals "_law_whole" = some (some (.ref 200)) := by kernel_rfl
theorem u3 (P : Params) : Fun (KO P) "_law_whole" "_law_whole" sWhole 200 fd3 := fun_mk (show (KO P).lookup 200 = some (fnB fd3) by kernel_rfl) (by kernel_rfl) (by kernel_rfl)
theorem a4 (P : Params) : PySem.W.nsIn (KO P) mainGlobals "guards_within" = some (some (.ref 21)) := by kernel_rfl
theorem u4 (P : Params) : Fun (KO P) "guards_within" "guards_within" Gdp.sWithin 21 fd4 := fun_mk (show (KO P).lookup 21 = some (fnB fd4) by kernel_rfl) (by kernel_rfl) (by kernel_rfl)
theorem a5 (P : Params) : PySem.W.nsIn (KO P) mainGlobals "height" = some (some (.ref 26)) := by kernel_rfl
theorem u5 (P : Params) : Fun (KO P) "height" "height" Gdp.sHeight 26 fd5 := fun_mk (show (KO P).lookup 26 = some (fnB fd5) by kernel_rfl) (by kernel_rfl) (by kernel_rfl)
theorem a6 (P : Params) : PySem.W.nsIn (KO P) mainGlobals "plain_guards" = some (some (.ref 33)) := by kernel_rfl
theorem u6 (P : Params) : Fun (KO P) "plain_guards" "plain_guards" Gdp.sPlain 33 fd6 := fun_mk (show (KO P).lookup 33 = some (fnB fd6) by kernel_rfl) (by kernel_rfl) (by kernel_rfl)
theorem a7 (P : Params) : PySem.W.nsIn (KO P) mainGlobals "asked" = some (some (.ref 38)) := by kernel_rfl
theorem u7 (P : Params) : Fun (KO P) "asked" "asked" Gdp.sAsked 38 fd7 := fun_mk (show (KO P).lookup 38 = some (fnB fd7) by kernel_rfl) (by kernel_rfl) (by kernel_rfl)
theorem a8 (P : Params) : PySem.W.nsIn (KO P) mainGlobals "is_word" = some (some (.ref 43)) := by kernel_rfl
theorem u8 (P : Params) : Fun (KO P) "is_word" "is_word" sIsWord 43 fd8 := fun_mk (show (KO P).lookup 43 = some (fnB fd8) by kernel_rfl) (by kernel_rfl) (by kernel_rfl)
theorem a9 (P : Params) : PySem.W.nsIn (KO P) mainGlobals "is_number_of" = some (some (.ref 52)) := by kernel_rfl
theorem u9 (P : Params) : Fun (KO P) "is_number_of" "is_number_of" sNumHF 52 fd9 := fun_mk (show (KO P).lookup 52 = some (fnB fd9) by kernel_rfl) (by kernel_rfl) (by kernel_rfl)
theorem a10 (P : Params) : PySem.W.nsIn (KO P) mainGlobals "is_in_reach" = some (some (.ref 59)) := by kernel_rfl
theorem u10 (P : Params) : Fun (KO P) "is_in_reach" "is_in_reach" sReachHF 59 fd10 := fun_mk (show (KO P).lookup 59 = some (fnB fd10) by kernel_rfl) (by kernel_rfl) (by kernel_rfl)
theorem a11 (P : Params) : PySem.W.nsIn (KO P) mainGlobals "name_has_fault" = some (some (.ref 71)) := by kernel_rfl
theorem u11 (P : Params) : Fun (KO P) "name_has_fault" "name_has_fault" sNameHF 71 fd11 := fun_mk (show (KO P).lookup 71 = some (fnB fd11) by kernel_rfl) (by kernel_rfl) (by kernel_rfl)
theorem a12 (P : Params) : PySem.W.nsIn (KO P) mainGlobals "names_of" = some (some (.ref 64)) := by kernel_rfl
theorem u12 (P : Params) : Fun (KO P) "names_of" "names_of" sNamesOf 64 fd12 := fun_mk (show (KO P).lookup 64 = some (fnB fd12) by kernel_rfl) (by kernel_rfl) (by kernel_rfl)
theorem a13 (P : Params) : PySem.W.nsIn (KO P) mainGlobals "box_has_fault" = some (some (.ref 78)) := by kernel_rfl
theorem u13 (P : Params) : Fun (KO P) "box_has_fault" "box_has_fault" sBoxHF 78 fd13 := fun_mk (show (KO P).lookup 78 = some (fnB fd13) by kernel_rfl) (by kernel_rfl) (by kernel_rfl)
theorem a14 (P : Params) : PySem.W.nsIn (KO P) mainGlobals "deed_has_fault" = some (some (.ref 85)) := by kernel_rfl
theorem u14 (P : Params) : Fun (KO P) "deed_has_fault" "deed_has_fault" sDeedHF 85 fd14 := fun_mk (show (KO P).lookup 85 = some (fnB fd14) by kernel_rfl) (by kernel_rfl) (by kernel_rfl)
theorem a15 (P : Params) : PySem.W.nsIn (KO P) mainGlobals "deeds_have_fault" = some (some (.ref 90)) := by kernel_rfl
theorem u15 (P : Params) : Fun (KO P) "deeds_have_fault" "deeds_have_fault" sDeedsHF 90 fd15 := fun_mk (show (KO P).lookup 90 = some (fnB fd15) by kernel_rfl) (by kernel_rfl) (by kernel_rfl)
theorem a16 (P : Params) : PySem.W.nsIn (KO P) mainGlobals "depth_has_fault" = some (some (.ref 97)) := by kernel_rfl
theorem u16 (P : Params) : Fun (KO P) "depth_has_fault" "depth_has_fault" sDepthHF 97 fd16 := fun_mk (show (KO P).lookup 97 = some (fnB fd16) by kernel_rfl) (by kernel_rfl) (by kernel_rfl)
theorem a17 (P : Params) : PySem.W.nsIn (KO P) mainGlobals "keeps_has_fault" = some (some (.ref 104)) := by kernel_rfl
theorem u17 (P : Params) : Fun (KO P) "keeps_has_fault" "keeps_has_fault" sKeepsHF 104 fd17 := fun_mk (show (KO P).lookup 104 = some (fnB fd17) by kernel_rfl) (by kernel_rfl) (by kernel_rfl)
theorem a18 (P : Params) : PySem.W.nsIn (KO P) mainGlobals "room_has_fault" = some (some (.ref 111)) := by kernel_rfl
theorem u18 (P : Params) : Fun (KO P) "room_has_fault" "room_has_fault" sRoomHF 111 fd18 := fun_mk (show (KO P).lookup 111 = some (fnB fd18) by kernel_rfl) (by kernel_rfl) (by kernel_rfl)
theorem a19 (P : Params) : PySem.W.nsIn (KO P) mainGlobals "end_has_fault" = some (some (.ref 118)) := by kernel_rfl
theorem u19 (P : Params) : Fun (KO P) "end_has_fault" "end_has_fault" sEndHF 118 fd19 := fun_mk (show (KO P).lookup 118 = some (fnB fd19) by kernel_rfl) (by kernel_rfl) (by kernel_rfl)
theorem a20 (P : Params) : PySem.W.nsIn (KO P) mainGlobals "guard_has_fault" = some (some (.ref 123)) := by kernel_rfl
theorem u20 (P : Params) : Fun (KO P) "guard_has_fault" "guard_has_fault" sGuardHF 123 fd20 := fun_mk (show (KO P).lookup 123 = some (fnB fd20) by kernel_rfl) (by kernel_rfl) (by kernel_rfl)
theorem a21 (P : Params) : PySem.W.nsIn (KO P) mainGlobals "goal_has_fault" = some (some (.ref 130)) := by kernel_rfl
theorem u21 (P : Params) : Fun (KO P) "goal_has_fault" "goal_has_fault" sGoalHF 130 fd21 := fun_mk (show (KO P).lookup 130 = some (fnB fd21) by kernel_rfl) (by kernel_rfl) (by kernel_rfl)
theorem a22 (P : Params) : PySem.W.nsIn (KO P) mainGlobals "door_has_fault" = some (some (.ref 137)) := by kernel_rfl
theorem u22 (P : Params) : Fun (KO P) "door_has_fault" "door_has_fault" sDoorHF 137 fd22 := fun_mk (show (KO P).lookup 137 = some (fnB fd22) by kernel_rfl) (by kernel_rfl) (by kernel_rfl)
theorem a23 (P : Params) : PySem.W.nsIn (KO P) mainGlobals "bound_faults" = some (some (.ref 144)) := by kernel_rfl
theorem u23 (P : Params) : Fun (KO P) "bound_faults" "bound_faults" sBoundFs 144 fd23 := fun_mk (show (KO P).lookup 144 = some (fnB fd23) by kernel_rfl) (by kernel_rfl) (by kernel_rfl)
theorem a24 (P : Params) : PySem.W.nsIn (KO P) mainGlobals "box_faults" = some (some (.ref 151)) := by kernel_rfl
theorem u24 (P : Params) : Fun (KO P) "box_faults" "box_faults" sBoxFs 151 fd24 := fun_mk (show (KO P).lookup 151 = some (fnB fd24) by kernel_rfl) (by kernel_rfl) (by kernel_rfl)
theorem a25 (P : Params) : PySem.W.nsIn (KO P) mainGlobals "event_faults" = some (some (.ref 158)) := by kernel_rfl
theorem u25 (P : Params) : Fun (KO P) "event_faults" "event_faults" sEvFs 158 fd25 := fun_mk (show (KO P).lookup 158 = some (fnB fd25) by kernel_rfl) (by kernel_rfl) (by kernel_rfl)
theorem a26 (P : Params) : PySem.W.nsIn (KO P) mainGlobals "room_faults" = some (some (.ref 165)) := by kernel_rfl
theorem u26 (P : Params) : Fun (KO P) "room_faults" "room_faults" sRoomFs 165 fd26 := fun_mk (show (KO P).lookup 165 = some (fnB fd26) by kernel_rfl) (by kernel_rfl) (by kernel_rfl)
theorem a27 (P : Params) : PySem.W.nsIn (KO P) mainGlobals "door_faults" = some (some (.ref 172)) := by kernel_rfl
theorem u27 (P : Params) : Fun (KO P) "door_faults" "door_faults" sDoorFs 172 fd27 := fun_mk (show (KO P).lookup 172 = some (fnB fd27) by kernel_rfl) (by kernel_rfl) (by kernel_rfl)
theorem a28 (P : Params) : PySem.W.nsIn (KO P) mainGlobals "faults" = some (some (.ref 179)) := by kernel_rfl
theorem u28 (P : Params) : Fun (KO P) "faults" "faults" sFaults 179 fd28 := fun_mk (show (KO P).lookup 179 = some (fnB fd28) by kernel_rfl) (by kernel_rfl) (by kernel_rfl)
theorem a29 (P : Params) : PySem.W.nsIn (KO P) mainGlobals "_law_told" = some (some (.ref 207)) := by kernel_rfl
theorem u29 (P : Params) : Fun (KO P) "_law_told" "_law_told" sToldF 207 fd29 := fun_mk (show (KO P).lookup 207 = some (fnB fd29) by kernel_rfl) (by kernel_rfl) (by kernel_rfl)
theorem a30 (P : Params) : PySem.W.nsIn (KO P) mainGlobals "_law_around" = some (some (.ref 214)) := by kernel_rfl
theorem u30 (P : Params) : Fun (KO P) "_law_around" "_law_around" sAround 214 fd30 := fun_mk (show (KO P).lookup 214 = some (fnB fd30) by kernel_rfl) (by kernel_rfl) (by kernel_rfl)
theorem a31 (P : Params) : PySem.W.nsIn (KO P) mainGlobals "_law_edge" = some (some (.ref 221)) := by kernel_rfl
theorem u31 (P : Params) : Fun (KO P) "_law_edge" "_law_edge" sEdge 221 fd31 := fun_mk (show (KO P).lookup 221 = some (fnB fd31) by kernel_rfl) (by kernel_rfl) (by kernel_rfl)
theorem a32 (P : Params) : PySem.W.nsIn (KO P) mainGlobals "_law_text" = some (some (.ref 228)) := by kernel_rfl
theorem u32 (P : Params) : Fun (KO P) "_law_text" "_law_text" sTextF 228 fd32 := fun_mk (show (KO P).lookup 228 = some (fnB fd32) by kernel_rfl) (by kernel_rfl) (by kernel_rfl)
theorem a33 (P : Params) : PySem.W.nsIn (KO P) mainGlobals "_law_word" = some (some (.ref 280)) := by kernel_rfl
theorem u33 (P : Params) : Fun (KO P) "_law_word" "_law_word" sWordF 280 fd33 := fun_mk (show (KO P).lookup 280 = some (fnB fd33) by kernel_rfl) (by kernel_rfl) (by kernel_rfl)
theorem a34 (P : Params) : PySem.W.nsIn (KO P) mainGlobals "_law_bad_deed" = some (some (.ref 287)) := by kernel_rfl
theorem u34 (P : Params) : Fun (KO P) "_law_bad_deed" "_law_bad_deed" sBadDeed 287 fd34 := fun_mk (show (KO P).lookup 287 = some (fnB fd34) by kernel_rfl) (by kernel_rfl) (by kernel_rfl)
theorem a35 (P : Params) : PySem.W.nsIn (KO P) mainGlobals "_law_bad_deeds" = some (some (.ref 292)) := by kernel_rfl
theorem u35 (P : Params) : Fun (KO P) "_law_bad_deeds" "_law_bad_deeds" sBadDeeds 292 fd35 := fun_mk (show (KO P).lookup 292 = some (fnB fd35) by kernel_rfl) (by kernel_rfl) (by kernel_rfl)
theorem a36 (P : Params) : PySem.W.nsIn (KO P) mainGlobals "_law_deed" = some (some (.ref 235)) := by kernel_rfl
theorem u36 (P : Params) : Fun (KO P) "_law_deed" "_law_deed" sDeedF 235 fd36 := fun_mk (show (KO P).lookup 235 = some (fnB fd36) by kernel_rfl) (by kernel_rfl) (by kernel_rfl)
theorem a37 (P : Params) : PySem.W.nsIn (KO P) mainGlobals "_law_deeds" = some (some (.ref 242)) := by kernel_rfl
theorem u37 (P : Params) : Fun (KO P) "_law_deeds" "_law_deeds" sDeedsF 242 fd37 := fun_mk (show (KO P).lookup 242 = some (fnB fd37) by kernel_rfl) (by kernel_rfl) (by kernel_rfl)
theorem a38 (P : Params) : PySem.W.nsIn (KO P) mainGlobals "_law_leaf" = some (some (.ref 249)) := by kernel_rfl
theorem u38 (P : Params) : Fun (KO P) "_law_leaf" "_law_leaf" sLeafF 249 fd38 := fun_mk (show (KO P).lookup 249 = some (fnB fd38) by kernel_rfl) (by kernel_rfl) (by kernel_rfl)
theorem a39 (P : Params) : PySem.W.nsIn (KO P) mainGlobals "_law_inner" = some (some (.ref 261)) := by kernel_rfl
theorem u39 (P : Params) : Fun (KO P) "_law_inner" "_law_inner" sInnerF 261 fd39 := fun_mk (show (KO P).lookup 261 = some (fnB fd39) by kernel_rfl) (by kernel_rfl) (by kernel_rfl)
theorem a40 (P : Params) : PySem.W.nsIn (KO P) mainGlobals "_law_height" = some (some (.ref 266)) := by kernel_rfl
theorem u40 (P : Params) : Fun (KO P) "_law_height" "_law_height" sHeightF 266 fd40 := fun_mk (show (KO P).lookup 266 = some (fnB fd40) by kernel_rfl) (by kernel_rfl) (by kernel_rfl)
theorem a41 (P : Params) : PySem.W.nsIn (KO P) mainGlobals "_law_bad_guard" = some (some (.ref 273)) := by kernel_rfl
theorem u41 (P : Params) : Fun (KO P) "_law_bad_guard" "_law_bad_guard" sBadGuard 273 fd41 := fun_mk (show (KO P).lookup 273 = some (fnB fd41) by kernel_rfl) (by kernel_rfl) (by kernel_rfl)
theorem a42 (P : Params) : PySem.W.nsIn (KO P) mainGlobals "_law_guard" = some (some (.ref 256)) := by kernel_rfl
theorem u42 (P : Params) : Fun (KO P) "_law_guard" "_law_guard" sGuardF 256 fd42 := fun_mk (show (KO P).lookup 256 = some (fnB fd42) by kernel_rfl) (by kernel_rfl) (by kernel_rfl)
theorem a43 (P : Params) : PySem.W.nsIn (KO P) mainGlobals "_law_bad_door" = some (some (.ref 299)) := by kernel_rfl
theorem u43 (P : Params) : Fun (KO P) "_law_bad_door" "_law_bad_door" sBadDoor 299 fd43 := fun_mk (show (KO P).lookup 299 = some (fnB fd43) by kernel_rfl) (by kernel_rfl) (by kernel_rfl)
theorem a44 (P : Params) : PySem.W.nsIn (KO P) mainGlobals "_law_rooms" = some (some (.ref 306)) := by kernel_rfl
theorem u44 (P : Params) : Fun (KO P) "_law_rooms" "_law_rooms" sRoomsF 306 fd44 := fun_mk (show (KO P).lookup 306 = some (fnB fd44) by kernel_rfl) (by kernel_rfl) (by kernel_rfl)
theorem a45 (P : Params) : PySem.W.nsIn (KO P) mainGlobals "_law_door" = some (some (.ref 313)) := by kernel_rfl
theorem u45 (P : Params) : Fun (KO P) "_law_door" "_law_door" sDoorF 313 fd45 := fun_mk (show (KO P).lookup 313 = some (fnB fd45) by kernel_rfl) (by kernel_rfl) (by kernel_rfl)
theorem a46 (P : Params) : PySem.W.nsIn (KO P) mainGlobals "law" = some (some (.ref 318)) := by kernel_rfl
theorem u46 (P : Params) : Fun (KO P) "law" "law" sLawF 318 fd46 := fun_mk (show (KO P).lookup 318 = some (fnB fd46) by kernel_rfl) (by kernel_rfl) (by kernel_rfl)
theorem z1 (P : Params) : PySem.W.nsIn (KO P) mainGlobals "len" = some none := by kernel_rfl
theorem z2 (P : Params) : PySem.W.nsIn (KO P) mainGlobals "max" = some none := by kernel_rfl
theorem z3 (P : Params) : PySem.W.nsIn (KO P) mainGlobals "min" = some none := by kernel_rfl
theorem z4 (P : Params) : PySem.W.nsIn (KO P) mainGlobals "range" = some none := by kernel_rfl
theorem z5 (P : Params) : PySem.W.nsIn (KO P) mainGlobals "list" = some none := by kernel_rfl
theorem z6 (P : Params) : PySem.W.nsIn (KO P) mainGlobals "tuple" = some none := by kernel_rfl
theorem z7 (P : Params) : PySem.W.nsIn (KO P) mainGlobals "isinstance" = some none := by kernel_rfl
theorem z8 (P : Params) : PySem.W.nsIn (KO P) mainGlobals "int" = some none := by kernel_rfl
theorem z9 (P : Params) : PySem.W.nsIn (KO P) mainGlobals "bool" = some none := by kernel_rfl
theorem z10 (P : Params) : PySem.W.nsIn (KO P) mainGlobals "str" = some none := by kernel_rfl
theorem z11 (P : Params) : PySem.W.nsIn (KO P) mainGlobals "all" = some none := by kernel_rfl
theorem z12 (P : Params) : PySem.W.nsIn (KO P) mainGlobals "any" = some none := by kernel_rfl
theorem z13 (P : Params) : PySem.W.nsIn (KO P) mainGlobals "enumerate" = some none := by kernel_rfl
theorem z14 (P : Params) : PySem.W.nsIn (KO P) mainGlobals "sorted" = some none := by kernel_rfl
theorem z15 (P : Params) : PySem.W.nsIn (KO P) mainGlobals "set" = some none := by kernel_rfl
theorem v1 (P : Params) : PySem.W.nsIn (KO P) mainGlobals "SMALL_LETTERS" = some (some (.str "abcdefghijklmnopqrstuvwxyz" 220)) := by kernel_rfl
theorem v2 (P : Params) : PySem.W.nsIn (KO P) mainGlobals "LONGEST" = some (some (.int (12) 222)) := by kernel_rfl
theorem v3 (P : Params) : PySem.W.nsIn (KO P) mainGlobals "MOST_LETTERS" = some (some (.int (12) 239)) := by kernel_rfl
theorem v4 (P : Params) : PySem.W.nsIn (KO P) mainGlobals "MOST_TURNS" = some (some (.int (20) 241)) := by kernel_rfl
theorem v5 (P : Params) : PySem.W.nsIn (KO P) mainGlobals "MOST_BOXES" = some (some (.int (6) 243)) := by kernel_rfl
theorem v6 (P : Params) : PySem.W.nsIn (KO P) mainGlobals "MOST_EVENTS" = some (some (.int (8) 245)) := by kernel_rfl
theorem v7 (P : Params) : PySem.W.nsIn (KO P) mainGlobals "MOST_ROOMS" = some (some (.int (40) 247)) := by kernel_rfl
theorem v8 (P : Params) : PySem.W.nsIn (KO P) mainGlobals "MOST_DOORS" = some (some (.int (60) 249)) := by kernel_rfl
theorem v9 (P : Params) : PySem.W.nsIn (KO P) mainGlobals "MOST_DEEDS" = some (some (.int (8) 251)) := by kernel_rfl
theorem v10 (P : Params) : PySem.W.nsIn (KO P) mainGlobals "DEEPEST" = some (some (.int (12) 253)) := by kernel_rfl
theorem v11 (P : Params) : PySem.W.nsIn (KO P) mainGlobals "HIGHEST" = some (some (.int (6) 255)) := by kernel_rfl
theorem v12 (P : Params) : PySem.W.nsIn (KO P) mainGlobals "GREATEST" = some (some (.int (1000000000000000000000000000000) 257)) := by kernel_rfl
theorem vT1 (P : Params) : PySem.W.nsIn (KO P) mainGlobals "ORDERS" = some (some (.ref 44)) := by kernel_rfl
theorem vT2 (P : Params) : PySem.W.nsIn (KO P) mainGlobals "KINDS" = some (some (.ref 45)) := by kernel_rfl
set_option maxHeartbeats 0 in
theorem law_ok {w : World} {mg : Str → Option Value} {h base : Heap} (X : (KO w.params).In h) (G : h.Ns mainGlobals mg) : FnOk PW w (KO w.params) mg base CX0 27 318 fd46 ["_law_script"] (spLaw (KO w.params)) := by
  have F1 := u1 w.params
  have b1 := F1.binds (ps := ["_law_script", "_law_k"]) fun _ _ _ _ _ _ us hl => match us, hl with | [_, _], _ => rfl
  have m1 := PySem.W.mg_of X G (a1 w.params)
  have k1 := F1.kp
  have F2 := u2 w.params
  have b2 := F2.binds (ps := ["_law_script", "_law_k", "_law_salt"]) fun _ _ _ _ _ _ us hl => match us, hl with | [_, _, _], _ => rfl
  have m2 := PySem.W.mg_of X G (a2 w.params)
  have k2 := F2.kp
  have F3 := u3 w.params
  have b3 := F3.binds (ps := ["_law_found"]) fun _ _ _ _ _ _ us hl => match us, hl with | [_], _ => rfl
  have m3 := PySem.W.mg_of X G (a3 w.params)
  have k3 := F3.kp
  have F4 := u4 w.params
  have b4 := F4.binds (ps := ["guard"]) fun _ _ _ _ _ _ us hl => match us, hl with | [_], _ => rfl
  have m4 := PySem.W.mg_of X G (a4 w.params)
  have k4 := F4.kp
  have F5 := u5 w.params
  have b5 := F5.binds (ps := ["guard"]) fun _ _ _ _ _ _ us hl => match us, hl with | [_], _ => rfl
  have m5 := PySem.W.mg_of X G (a5 w.params)
  have k5 := F5.kp
  have F6 := u6 w.params
  have b6 := F6.binds (ps := ["guard"]) fun _ _ _ _ _ _ us hl => match us, hl with | [_], _ => rfl
  have m6 := PySem.W.mg_of X G (a6 w.params)
  have k6 := F6.kp
  have F7 := u7 w.params
  have b7 := F7.binds (ps := ["guard"]) fun _ _ _ _ _ _ us hl => match us, hl with | [_], _ => rfl
  have m7 := PySem.W.mg_of X G (a7 w.params)
  have k7 := F7.kp
  have F8 := u8 w.params
  have b8 := F8.binds (ps := ["text"]) fun _ _ _ _ _ _ us hl => match us, hl with | [_], _ => rfl
  have m8 := PySem.W.mg_of X G (a8 w.params)
  have k8 := F8.kp
  have F9 := u9 w.params
  have b9 := F9.binds (ps := ["number", "things"]) fun _ _ _ _ _ _ us hl => match us, hl with | [_, _], _ => rfl
  have m9 := PySem.W.mg_of X G (a9 w.params)
  have k9 := F9.kp
  have F10 := u10 w.params
  have b10 := F10.binds (ps := ["number"]) fun _ _ _ _ _ _ us hl => match us, hl with | [_], _ => rfl
  have m10 := PySem.W.mg_of X G (a10 w.params)
  have k10 := F10.kp
  have F11 := u11 w.params
  have b11 := F11.binds (ps := ["name", "ahead"]) fun _ _ _ _ _ _ us hl => match us, hl with | [_, _], _ => rfl
  have m11 := PySem.W.mg_of X G (a11 w.params)
  have k11 := F11.kp
  have F12 := u12 w.params
  have b12 := F12.binds (ps := ["things"]) fun _ _ _ _ _ _ us hl => match us, hl with | [_], _ => rfl
  have m12 := PySem.W.mg_of X G (a12 w.params)
  have k12 := F12.kp
  have F13 := u13 w.params
  have b13 := F13.binds (ps := ["box", "ahead"]) fun _ _ _ _ _ _ us hl => match us, hl with | [_, _], _ => rfl
  have m13 := PySem.W.mg_of X G (a13 w.params)
  have k13 := F13.kp
  have F14 := u14 w.params
  have b14 := F14.binds (ps := ["deed", "boxes", "events"]) fun _ _ _ _ _ _ us hl => match us, hl with | [_, _, _], _ => rfl
  have m14 := PySem.W.mg_of X G (a14 w.params)
  have k14 := F14.kp
  have F15 := u15 w.params
  have b15 := F15.binds (ps := ["deeds", "boxes", "events"]) fun _ _ _ _ _ _ us hl => match us, hl with | [_, _, _], _ => rfl
  have m15 := PySem.W.mg_of X G (a15 w.params)
  have k15 := F15.kp
  have F16 := u16 w.params
  have b16 := F16.binds (ps := ["depth", "ahead"]) fun _ _ _ _ _ _ us hl => match us, hl with | [_, _], _ => rfl
  have m16 := PySem.W.mg_of X G (a16 w.params)
  have k16 := F16.kp
  have F17 := u17 w.params
  have b17 := F17.binds (ps := ["keeps", "kind"]) fun _ _ _ _ _ _ us hl => match us, hl with | [_, _], _ => rfl
  have m17 := PySem.W.mg_of X G (a17 w.params)
  have k17 := F17.kp
  have F18 := u18 w.params
  have b18 := F18.binds (ps := ["room", "ahead", "boxes", "events"]) fun _ _ _ _ _ _ us hl => match us, hl with | [_, _, _, _], _ => rfl
  have m18 := PySem.W.mg_of X G (a18 w.params)
  have k18 := F18.kp
  have F19 := u19 w.params
  have b19 := F19.binds (ps := ["room", "behind"]) fun _ _ _ _ _ _ us hl => match us, hl with | [_, _], _ => rfl
  have m19 := PySem.W.mg_of X G (a19 w.params)
  have k19 := F19.kp
  have F20 := u20 w.params
  have b20 := F20.binds (ps := ["guard", "boxes", "rooms"]) fun _ _ _ _ _ _ us hl => match us, hl with | [_, _, _], _ => rfl
  have m20 := PySem.W.mg_of X G (a20 w.params)
  have k20 := F20.kp
  have F21 := u21 w.params
  have b21 := F21.binds (ps := ["way", "goal", "rooms"]) fun _ _ _ _ _ _ us hl => match us, hl with | [_, _, _], _ => rfl
  have m21 := PySem.W.mg_of X G (a21 w.params)
  have k21 := F21.kp
  have F22 := u22 w.params
  have b22 := F22.binds (ps := ["door", "boxes", "events", "rooms"]) fun _ _ _ _ _ _ us hl => match us, hl with | [_, _, _, _], _ => rfl
  have m22 := PySem.W.mg_of X G (a22 w.params)
  have k22 := F22.kp
  have F23 := u23 w.params
  have b23 := F23.binds (ps := ["chart"]) fun _ _ _ _ _ _ us hl => match us, hl with | [_], _ => rfl
  have m23 := PySem.W.mg_of X G (a23 w.params)
  have k23 := F23.kp
  have F24 := u24 w.params
  have b24 := F24.binds (ps := ["boxes"]) fun _ _ _ _ _ _ us hl => match us, hl with | [_], _ => rfl
  have m24 := PySem.W.mg_of X G (a24 w.params)
  have k24 := F24.kp
  have F25 := u25 w.params
  have b25 := F25.binds (ps := ["events"]) fun _ _ _ _ _ _ us hl => match us, hl with | [_], _ => rfl
  have m25 := PySem.W.mg_of X G (a25 w.params)
  have k25 := F25.kp
  have F26 := u26 w.params
  have b26 := F26.binds (ps := ["rooms", "boxes", "events"]) fun _ _ _ _ _ _ us hl => match us, hl with | [_, _, _], _ => rfl
  have m26 := PySem.W.mg_of X G (a26 w.params)
  have k26 := F26.kp
  have F27 := u27 w.params
  have b27 := F27.binds (ps := ["doors", "boxes", "events", "rooms"]) fun _ _ _ _ _ _ us hl => match us, hl with | [_, _, _, _], _ => rfl
  have m27 := PySem.W.mg_of X G (a27 w.params)
  have k27 := F27.kp
  have F28 := u28 w.params
  have b28 := F28.binds (ps := ["chart"]) fun _ _ _ _ _ _ us hl => match us, hl with | [_], _ => rfl
  have m28 := PySem.W.mg_of X G (a28 w.params)
  have k28 := F28.kp
  have F29 := u29 w.params
  have b29 := F29.binds (ps := ["_law_found", "_law_due"]) fun _ _ _ _ _ _ us hl => match us, hl with | [_, _], _ => rfl
  have m29 := PySem.W.mg_of X G (a29 w.params)
  have k29 := F29.kp
  have F30 := u30 w.params
  have b30 := F30.binds (ps := ["_law_number", "_law_many"]) fun _ _ _ _ _ _ us hl => match us, hl with | [_, _], _ => rfl
  have m30 := PySem.W.mg_of X G (a30 w.params)
  have k30 := F30.kp
  have F31 := u31 w.params
  have b31 := F31.binds (ps := ["_law_script", "_law_k", "_law_number"]) fun _ _ _ _ _ _ us hl => match us, hl with | [_, _, _], _ => rfl
  have m31 := PySem.W.mg_of X G (a31 w.params)
  have k31 := F31.kp
  have F32 := u32 w.params
  have b32 := F32.binds (ps := ["_law_number"]) fun _ _ _ _ _ _ us hl => match us, hl with | [_], _ => rfl
  have m32 := PySem.W.mg_of X G (a32 w.params)
  have k32 := F32.kp
  have F33 := u33 w.params
  have b33 := F33.binds (ps := ["_law_text_here"]) fun _ _ _ _ _ _ us hl => match us, hl with | [_], _ => rfl
  have m33 := PySem.W.mg_of X G (a33 w.params)
  have k33 := F33.kp
  have F34 := u34 w.params
  have b34 := F34.binds (ps := ["_law_deed_here", "_law_boxes", "_law_events"]) fun _ _ _ _ _ _ us hl => match us, hl with | [_, _, _], _ => rfl
  have m34 := PySem.W.mg_of X G (a34 w.params)
  have k34 := F34.kp
  have F35 := u35 w.params
  have b35 := F35.binds (ps := ["_law_deeds_here", "_law_boxes", "_law_events"]) fun _ _ _ _ _ _ us hl => match us, hl with | [_, _, _], _ => rfl
  have m35 := PySem.W.mg_of X G (a35 w.params)
  have k35 := F35.kp
  have F36 := u36 w.params
  have b36 := F36.binds (ps := ["_law_script", "_law_k", "_law_salt", "_law_boxes", "_law_events"]) fun _ _ _ _ _ _ us hl => match us, hl with | [_, _, _, _, _], _ => rfl
  have m36 := PySem.W.mg_of X G (a36 w.params)
  have k36 := F36.kp
  have F37 := u37 w.params
  have b37 := F37.binds (ps := ["_law_script", "_law_k", "_law_salt", "_law_boxes", "_law_events"]) fun _ _ _ _ _ _ us hl => match us, hl with | [_, _, _, _, _], _ => rfl
  have m37 := PySem.W.mg_of X G (a37 w.params)
  have k37 := F37.kp
  have F38 := u38 w.params
  have b38 := F38.binds (ps := ["_law_script", "_law_k", "_law_number", "_law_boxes", "_law_rooms_here"]) fun _ _ _ _ _ _ us hl => match us, hl with | [_, _, _, _, _], _ => rfl
  have m38 := PySem.W.mg_of X G (a38 w.params)
  have k38 := F38.kp
  have F39 := u39 w.params
  have b39 := F39.binds (ps := ["_law_guard_here"]) fun _ _ _ _ _ _ us hl => match us, hl with | [_], _ => rfl
  have m39 := PySem.W.mg_of X G (a39 w.params)
  have k39 := F39.kp
  have F40 := u40 w.params
  have b40 := F40.binds (ps := ["_law_guard_here"]) fun _ _ _ _ _ _ us hl => match us, hl with | [_], _ => rfl
  have m40 := PySem.W.mg_of X G (a40 w.params)
  have k40 := F40.kp
  have F41 := u41 w.params
  have b41 := F41.binds (ps := ["_law_guard_here", "_law_boxes", "_law_rooms_here"]) fun _ _ _ _ _ _ us hl => match us, hl with | [_, _, _], _ => rfl
  have m41 := PySem.W.mg_of X G (a41 w.params)
  have k41 := F41.kp
  have F42 := u42 w.params
  have b42 := F42.binds (ps := ["_law_script", "_law_k", "_law_boxes", "_law_rooms_here"]) fun _ _ _ _ _ _ us hl => match us, hl with | [_, _, _, _], _ => rfl
  have m42 := PySem.W.mg_of X G (a42 w.params)
  have k42 := F42.kp
  have F43 := u43 w.params
  have b43 := F43.binds (ps := ["_law_door_here", "_law_boxes", "_law_events", "_law_rooms_here"]) fun _ _ _ _ _ _ us hl => match us, hl with | [_, _, _, _], _ => rfl
  have m43 := PySem.W.mg_of X G (a43 w.params)
  have k43 := F43.kp
  have F44 := u44 w.params
  have b44 := F44.binds (ps := ["_law_script", "_law_boxes", "_law_events"]) fun _ _ _ _ _ _ us hl => match us, hl with | [_, _, _], _ => rfl
  have m44 := PySem.W.mg_of X G (a44 w.params)
  have k44 := F44.kp
  have F45 := u45 w.params
  have b45 := F45.binds (ps := ["_law_script", "_law_k", "_law_boxes", "_law_events", "_law_rooms_here"]) fun _ _ _ _ _ _ us hl => match us, hl with | [_, _, _, _, _], _ => rfl
  have m45 := PySem.W.mg_of X G (a45 w.params)
  have k45 := F45.kp
  have F46 := u46 w.params
  have n_len := PySem.W.mg_none_of X G (z1 w.params)
  have n_max := PySem.W.mg_none_of X G (z2 w.params)
  have n_min := PySem.W.mg_none_of X G (z3 w.params)
  have n_range := PySem.W.mg_none_of X G (z4 w.params)
  have n_list := PySem.W.mg_none_of X G (z5 w.params)
  have n_tuple := PySem.W.mg_none_of X G (z6 w.params)
  have n_isinstance := PySem.W.mg_none_of X G (z7 w.params)
  have n_int := PySem.W.mg_none_of X G (z8 w.params)
  have n_bool := PySem.W.mg_none_of X G (z9 w.params)
  have n_str := PySem.W.mg_none_of X G (z10 w.params)
  have n_all := PySem.W.mg_none_of X G (z11 w.params)
  have n_any := PySem.W.mg_none_of X G (z12 w.params)
  have n_enumerate := PySem.W.mg_none_of X G (z13 w.params)
  have n_sorted := PySem.W.mg_none_of X G (z14 w.params)
  have n_set := PySem.W.mg_none_of X G (z15 w.params)
  have g_ORDERS := PySem.W.mg_of X G (vT1 w.params)
  have r_ORDERS : ∀ H : Hp, SqT (KO w.params) H 44 [.str "inner", .str "outer"] := fun H => .inr ⟨_, _, _, show (KO w.params).lookup 44 = some (Obj.mk (.type "tuple") none (.seq #[.str "inner" 232, .str "outer" 233] 0) #[]) by kernel_rfl, rfl, rfl, small_le (by show 2 ≤ 1000; decide), (.cons ⟨_, rfl⟩ (.cons ⟨_, rfl⟩ .nil))⟩
  have g_KINDS := PySem.W.mg_of X G (vT2 w.params)
  have r_KINDS : ∀ H : Hp, SqT (KO w.params) H 45 [.str "plain", .str "one", .str "all"] := fun H => .inr ⟨_, _, _, show (KO w.params).lookup 45 = some (Obj.mk (.type "tuple") none (.seq #[.str "plain" 235, .str "one" 236, .str "all" 237] 0) #[]) by kernel_rfl, rfl, rfl, small_le (by show 3 ≤ 1000; decide), (.cons ⟨_, rfl⟩ (.cons ⟨_, rfl⟩ (.cons ⟨_, rfl⟩ .nil)))⟩
  have g_SMALL_LETTERS := PySem.W.mg_of X G (v1 w.params)
  have g_LONGEST := PySem.W.mg_of X G (v2 w.params)
  have g_MOST_LETTERS := PySem.W.mg_of X G (v3 w.params)
  have g_MOST_TURNS := PySem.W.mg_of X G (v4 w.params)
  have g_MOST_BOXES := PySem.W.mg_of X G (v5 w.params)
  have g_MOST_EVENTS := PySem.W.mg_of X G (v6 w.params)
  have g_MOST_ROOMS := PySem.W.mg_of X G (v7 w.params)
  have g_MOST_DOORS := PySem.W.mg_of X G (v8 w.params)
  have g_MOST_DEEDS := PySem.W.mg_of X G (v9 w.params)
  have g_DEEPEST := PySem.W.mg_of X G (v10 w.params)
  have g_HIGHEST := PySem.W.mg_of X G (v11 w.params)
  have g_GREATEST := PySem.W.mg_of X G (v12 w.params)
  have G1 := ok_cell (P := PW) (w := w) (base := base) (mg := mg) F1 n_len
  have G2 := ok_mixed (P := PW) (w := w) (base := base) (mg := mg) F2 G1 b1 k1 m1 n_len n_max
  have G3 := ok_whole (P := PW) (w := w) (base := base) (mg := mg) F3 n_isinstance n_int n_bool
  have G4 := Gdp.ok_within (P := PW) (w := w) (base := base) (mg := mg) F4
  have GA5 := Gdp.all_height (P := PW) (w := w) (base := base) (mg := mg) F5 b5 m5 G4 b4 k4 m4 n_max
  have G5 := GA5 20
  have GA6 := Gdp.all_plain (P := PW) (w := w) (base := base) (mg := mg) F6 b6 m6 G4 b4 k4 m4 n_len
  have G6 := GA6 20
  have G7 := Gdp.ok_asked (P := PW) (w := w) (base := base) (mg := mg) F7 G6 b6 k6 m6 n_sorted n_set
  have G8 := Prg.ok_is_word (P := PW) (w := w) (base := base) (mg := mg) F8 n_len n_all g_LONGEST g_SMALL_LETTERS
  have G9 := Prg.ok_num (P := PW) (w := w) (base := base) (mg := mg) F9 n_len
  have G10 := Prg.ok_reach (P := PW) (w := w) (base := base) (mg := mg) F10 g_GREATEST
  have G11 := Prg.ok_name (P := PW) (w := w) (base := base) (mg := mg) F11 G8 b8 k8 m8
  have G12 := Prg.ok_names (P := PW) (w := w) (base := base) (mg := mg) F12
  have G13 := Prg.ok_boxF (P := PW) (w := w) (base := base) (mg := mg) F13 (G12.mono (show 1 ≤ 2 by decide)) b12 k12 m12 G11 b11 k11 m11 g_GREATEST
  have G14 := Prg.ok_deedF (P := PW) (w := w) (base := base) (mg := mg) F14 G8 b8 k8 m8 G9 b9 k9 m9 G10 b10 k10 m10
  have G15 := Prg.ok_deedsF (P := PW) (w := w) (base := base) (mg := mg) F15 G14 b14 k14 m14 n_len n_any g_MOST_DEEDS
  have G16 := Prg.ok_depthF (P := PW) (w := w) (base := base) (mg := mg) F16 n_len g_DEEPEST
  have G17 := Prg.ok_keepsF (P := PW) (w := w) (base := base) (mg := mg) F17
  have G18 := Prg.ok_roomF (P := PW) (w := w) (base := base) (mg := mg) F18 (G12.mono (show 1 ≤ 3 by decide)) b12 k12 m12 (G11.mono (show 2 ≤ 3 by decide)) b11 k11 m11 (G16.mono (show 1 ≤ 3 by decide)) b16 k16 m16 (G17.mono (show 1 ≤ 3 by decide)) b17 k17 m17 (G8.mono (show 1 ≤ 3 by decide)) b8 k8 m8 G15 b15 k15 m15 g_KINDS r_KINDS
  have G19 := Prg.ok_endF (P := PW) (w := w) (base := base) (mg := mg) F19 n_len
  have G20 := Prg.ok_guardF (P := PW) (w := w) (base := base) (mg := mg) F20 (G5.mono (show 21 ≤ 22 by decide)) b5 k5 m5 G7 b7 k7 m7 (G9.mono (show 1 ≤ 22 by decide)) b9 k9 m9 (G6.mono (show 21 ≤ 22 by decide)) b6 k6 m6 (G10.mono (show 1 ≤ 22 by decide)) b10 k10 m10 n_all g_HIGHEST
  have G21 := Prg.ok_goalF (P := PW) (w := w) (base := base) (mg := mg) F21 G9 b9 k9 m9
  have G22 := Prg.ok_doorF (P := PW) (w := w) (base := base) (mg := mg) F22 (G9.mono (show 1 ≤ 23 by decide)) b9 k9 m9 G20 b20 k20 m20 (G15.mono (show 3 ≤ 23 by decide)) b15 k15 m15 (G21.mono (show 2 ≤ 23 by decide)) b21 k21 m21
  have G23 := Prg.ok_boundFs (P := PW) (w := w) (base := base) (mg := mg) F23 g_ORDERS r_ORDERS g_MOST_LETTERS g_MOST_TURNS
  have G24 := Prg.ok_boxFs (P := PW) (w := w) (base := base) (mg := mg) F24 G13 b13 k13 m13 n_len n_enumerate g_MOST_BOXES
  have G25 := Prg.ok_evFs (P := PW) (w := w) (base := base) (mg := mg) F25 G11 b11 k11 m11 n_len n_enumerate g_MOST_EVENTS
  have G26 := Prg.ok_roomFs (P := PW) (w := w) (base := base) (mg := mg) F26 G18 b18 k18 m18 (G19.mono (show 1 ≤ 4 by decide)) b19 k19 m19 n_len n_enumerate g_MOST_ROOMS
  have G27 := Prg.ok_doorFs (P := PW) (w := w) (base := base) (mg := mg) F27 G22 b22 k22 m22 n_len n_enumerate g_MOST_DOORS
  have G28 := Prg.ok_faults (P := PW) (w := w) (base := base) (mg := mg) F28 (G23.mono (show 1 ≤ 25 by decide)) b23 k23 m23 (G24.mono (show 4 ≤ 25 by decide)) b24 k24 m24 (G25.mono (show 3 ≤ 25 by decide)) b25 k25 m25 (G26.mono (show 5 ≤ 25 by decide)) b26 k26 m26 G27 b27 k27 m27
  have G29 := ok_told (P := PW) (w := w) (base := base) (mg := mg) F29 G3 b3 k3 m3 n_isinstance n_list n_tuple n_str n_len n_range
  have G30 := ok_around (P := PW) (w := w) (base := base) (mg := mg) F30
  have G31 := ok_edge (P := PW) (w := w) (base := base) (mg := mg) F31 (G1.mono (show 1 ≤ 2 by decide)) b1 k1 m1
  have G32 := ok_text (P := PW) (w := w) (base := base) (mg := mg) F32 n_len
  have G33 := ok_wordF (P := PW) (w := w) (base := base) (mg := mg) F33 n_len
  have G34 := ok_bad_deed (P := PW) (w := w) (base := base) (mg := mg) F34 G33 b33 k33 m33 n_len
  have G35 := ok_bad_deeds (P := PW) (w := w) (base := base) (mg := mg) F35 G34 b34 k34 m34 n_len n_any
  have G36 := ok_deed (P := PW) (w := w) (base := base) (mg := mg) F36 (G1.mono (show 1 ≤ 3 by decide)) b1 k1 m1 (G2.mono (show 2 ≤ 3 by decide)) b2 k2 m2 (G32.mono (show 1 ≤ 3 by decide)) b32 k32 m32 (G30.mono (show 1 ≤ 3 by decide)) b30 k30 m30 G31 b31 k31 m31 n_len n_max
  have G37 := ok_deeds (P := PW) (w := w) (base := base) (mg := mg) F37 (G2.mono (show 2 ≤ 4 by decide)) b2 k2 m2 G36 b36 k36 m36 (G34.mono (show 2 ≤ 4 by decide)) b34 k34 m34 n_range n_tuple
  have G38 := ok_leaf (P := PW) (w := w) (base := base) (mg := mg) F38 (G30.mono (show 1 ≤ 3 by decide)) b30 k30 m30 G31 b31 k31 m31
  have G39 := ok_inner (P := PW) (w := w) (base := base) (mg := mg) F39 n_isinstance n_tuple
  have GA40 := all_ht (P := PW) (w := w) (base := base) (mg := mg) F40 b40 m40 G39 b39 k39 m39 n_max
  have G40 := GA40 20
  have GA41 := all_bg (P := PW) (w := w) (base := base) (mg := mg) F41 b41 m41 G39 b39 k39 m39
  have G41 := GA41 20
  have G42 := ok_guard (P := PW) (w := w) (base := base) (mg := mg) F42 (G2.mono (show 2 ≤ 4 by decide)) b2 k2 m2 G38 b38 k38 m38 (GA40 3) b40 k40 m40 n_range
  have G43 := ok_bad_door (P := PW) (w := w) (base := base) (mg := mg) F43 (G35.mono (show 3 ≤ 21 by decide)) b35 k35 m35 G40 b40 k40 m40 G41 b41 k41 m41 n_len
  have G44 := ok_rooms (P := PW) (w := w) (base := base) (mg := mg) F44 (G2.mono (show 2 ≤ 5 by decide)) b2 k2 m2 G37 b37 k37 m37 n_range n_tuple
  have G45 := ok_door (P := PW) (w := w) (base := base) (mg := mg) F45 (G2.mono (show 2 ≤ 5 by decide)) b2 k2 m2 (G30.mono (show 1 ≤ 5 by decide)) b30 k30 m30 G42 b42 k42 m42 G37 b37 k37 m37 n_len
  exact ok_law (n := 26) F46 (G1.mono (show 1 ≤ 26 by decide)) b1 k1 m1 (G2.mono (show 2 ≤ 26 by decide)) b2 k2 m2 (G44.mono (show 6 ≤ 26 by decide)) b44 k44 m44 (G45.mono (show 6 ≤ 26 by decide)) b45 k45 m45 (G33.mono (show 1 ≤ 26 by decide)) b33 k33 m33 (G35.mono (show 3 ≤ 26 by decide)) b35 k35 m35 (G43.mono (show 22 ≤ 26 by decide)) b43 k43 m43 G28 b28 k28 m28 (G29.mono (show 2 ≤ 26 by decide)) b29 k29 m29 n_range n_tuple n_len
theorem walk : PySem.W.WalkO QV LS (PySem.W.XL QV []) HK.says PySem.Challenge.rw_nesthall_k11_faults_of_doors.row.toRowW dLaw [] (fun f vs => PySem.call f vs) := by
  refine L2.walk_of (l := PySem.Challenge.rw_nesthall_k11_faults_of_doors) (n := 63) (k := 27) (x := "_law_script") (K := KO) (CX := fun _ => CX0) (sp := fun w => spLaw (KO w.params)) rfl (by decide) rfl ⟨rfl, by decide, by decide⟩ (fun w h Y => Y) ?_ (fun _ _ a ns hl _ hS => ⟨a, ns, rfl, hS, hl, fun _ => rfl⟩) fun _ _ _ _ _ z => z
  intro w mg fa h KX G hmg
  have e := hmg.symm.trans (PySem.W.mg_of KX G (a46 w.params))
  cases e
  exact ⟨fd46, fun s v => .of_eq rfl, fun base _ _ => law_ok KX G⟩
end K11
open PySem PySem.W PyProof.Rows
set_option maxRecDepth 100000 in
set_option maxHeartbeats 0 in
theorem PySem.Challenge.cw_nesthall_k11_faults_of_doors_holds : PySem.Challenge.rw_nesthall_k11_faults_of_doors.Holds := by
  refine holds_law K11.said fun said => ?_
  refine PySem.W.holds_open (r := PySem.Challenge.rw_nesthall_k11_faults_of_doors.row) K11.left K11.HK.of K11.HK.keeps
    (fun s e => xl_of s (Bool.and_eq_true_iff.mp e).1) XL.keeps K11.hdef K11.hthe K11.hkw
    (fun s e => recFacts_of (Bool.and_eq_true_iff.mp e).2) rfl said K11.hok K11.hbare ?hw K11.walk
  case hw => w_witness2
