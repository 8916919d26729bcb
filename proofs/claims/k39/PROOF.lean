import PyProof.Rows.All
import Wide.All
import OpenK.AllK
import Wide.FinOn
import Lean
import PyProof.EqAt
import PyProof.EqKinds
import PyProof.TupleCall
import PySem.Challenge.RW_nesthall_k39_shrunk_again
set_option Elab.async false
set_option linter.all false
set_option maxRecDepth 100000
/-! THE HAND LAYER, for ints, bools, texts, own classes, LISTS and tuples (index, slices, in, append, pop ..), calls, loops. Paste it whole ahead of your own text; what your proof does not reach may be deleted. -/
namespace L2
open PySem PySem.Spec PyProof.Rows

/-- a key: an int or a str -/
abbrev Key := Sum Int Str
def keyIs : Key → Value → Bool
  | .inl k, v => Value.isInt k v
  | .inr x, v => Value.isStrOf x v
def keyH (w : World) : Key → Int
  | .inl k => hashInt k
  | .inr x => hashStr w x
theorem keyIs_shape : ∀ {k : Key} {v : Value}, keyIs k v = true → (∃ i t, k = Sum.inl i ∧ v = Value.int i t) ∨ (∃ x t, k = Sum.inr x ∧ v = Value.str x t)
  | .inl i, v, h => by
    obtain ⟨t, e⟩ := Value.isInt_shape (k := i) (v := v) h
    exact .inl ⟨i, t, rfl, e⟩
  | .inr x, v, h => by
    obtain ⟨t, e⟩ := Value.isStrOf_shape (x := x) (v := v) h
    exact .inr ⟨x, t, rfl, e⟩
theorem keyIs_int (i : Int) (t : Tok) : keyIs (.inl i) (.int i t) = true := by simp [keyIs, Value.isInt]
theorem keyIs_str (x : Str) (t : Tok) : keyIs (.inr x) (.str x t) = true := by simp [keyIs, Value.isStrOf]
theorem key_ll (a b : Int) : decide ((Sum.inl a : Key) = Sum.inl b) = (a == b) := by
  by_cases e : a = b
  · subst e; simp
  · have h : ¬ (Sum.inl a : Key) = Sum.inl b := fun q => e (Sum.inl.inj q)
    rw [decide_eq_false h]
    exact (beq_eq_false_iff_ne.mpr e).symm
theorem key_rr (a b : Str) : decide ((Sum.inr a : Key) = Sum.inr b) = decide (a = b) := by
  by_cases e : a = b
  · subst e; simp
  · have h : ¬ (Sum.inr a : Key) = Sum.inr b := fun q => e (Sum.inr.inj q)
    rw [decide_eq_false h, decide_eq_false e]
theorem key_lr (a : Int) (b : Str) : decide ((Sum.inl a : Key) = Sum.inr b) = false := decide_eq_false (fun q => nomatch q)
theorem key_rl (a : Str) (b : Int) : decide ((Sum.inr a : Key) = Sum.inl b) = false := decide_eq_false (fun q => nomatch q)

def mixKind (prog : Program) (w : World) : PySem.KeyKind prog w Key where
  is := keyIs
  hash := keyH w
  inj := fun v a b ha hb => by
    rcases keyIs_shape ha with ⟨i, t, rfl, rfl⟩ | ⟨x, t, rfl, rfl⟩
    · rcases keyIs_shape hb with ⟨j, u, rfl, e⟩ | ⟨y, u, rfl, e⟩
      · injection e with e1 _; rw [e1]
      · exact nomatch e
    · rcases keyIs_shape hb with ⟨j, u, rfl, e⟩ | ⟨y, u, rfl, e⟩
      · exact nomatch e
      · injection e with e1 _; rw [e1]
  byValue := fun k v h => by
    rcases keyIs_shape h with ⟨i, t, rfl, rfl⟩ | ⟨x, t, rfl, rfl⟩ <;> rfl
  pyHash := fun hv h => by
    rcases keyIs_shape hv with ⟨i, t, rfl, rfl⟩ | ⟨x, t, rfl, rfl⟩
    · exact wpAny_pyHash_int h
    · exact wpAny_pyHash_str h
  eqBool := fun hu hv h => by
    rcases keyIs_shape hu with ⟨i, t, rfl, rfl⟩ | ⟨x, t, rfl, rfl⟩
    · rcases keyIs_shape hv with ⟨j, u, rfl, rfl⟩ | ⟨y, u, rfl, rfl⟩
      · rw [key_ll] at h; exact wpAny_eqBool_int h
      · rw [key_lr] at h; exact SeqAt.EqAt.int_str i t y u _ _ _ _ h
    · rcases keyIs_shape hv with ⟨j, u, rfl, rfl⟩ | ⟨y, u, rfl, rfl⟩
      · rw [key_rl] at h; exact SeqAt.EqAt.str_int x t j u _ _ _ _ h
      · rw [key_rr] at h; exact wpAny_eqBool_str h
  «strs» := fun k x t v h => by
    rcases keyIs_shape h with ⟨i, u, rfl, e⟩ | ⟨y, u, rfl, e⟩
    · exact nomatch e
    · injection e with e1 _
      subst e1
      cases v <;> rfl

theorem mixKind_int (prog : Program) (w : World) (i : Int) (t : Tok) : (mixKind prog w).is (.inl i) (.int i t) = true := keyIs_int i t
theorem mixKind_str (prog : Program) (w : World) (x : Str) (t : Tok) : (mixKind prog w).is (.inr x) (.str x t) = true := keyIs_str x t
end L2

namespace L2
open PySem PySem.Spec PyProof.Rows

/-- a value, without the heap -/
inductive V where
  | non | bl (b : Bool) | int (i : Int) | str (x : Str) | byt (b : Array UInt8) | flt (b : UInt64) | ref (a : Addr) | ty (n : String)
  deriving DecidableEq

def RelV : V → Value → Prop
  | .non, u => u = Value.none
  | .bl b, u => u = Value.bool b
  | .int i, u => ∃ t, u = Value.int i t
  | .str x, u => ∃ t, u = Value.str x t
  | .byt b, u => ∃ t, u = Value.bytes b t
  | .flt b, u => ∃ t, u = Value.float b t
  | .ref a, u => u = Value.ref a
  | .ty n, u => u = Value.type n

abbrev Vals : List V → List Value → Prop := Paired RelV
theorem Vals.length {xs : List V} {us : List Value} (r : Vals xs us) : xs.length = us.length := Paired.length r
theorem Vals.get : ∀ {xs : List V} {us : List Value} {i : Nat} {x : V}, Vals xs us → xs[i]? = some x → ∃ u, us[i]? = some u ∧ RelV x u
  | _, _, _, _, .nil, e => by simp at e
  | _, _, 0, _, .cons r _, e => by simp at e; subst e; exact ⟨_, rfl, r⟩
  | _, _, i + 1, x, .cons _ t, e => by
    obtain ⟨u, h1, h2⟩ := Vals.get (i := i) (x := x) t (by simpa using e)
    exact ⟨u, by simpa using h1, h2⟩
theorem Vals.append : ∀ {xs ys : List V} {us ws : List Value}, Vals xs us → Vals ys ws → Vals (xs ++ ys) (us ++ ws)
  | _, _, _, _, .nil, s => s
  | _, _, _, _, .cons r t, s => .cons r (Vals.append t s)
def RelO : Option V → Option Value → Prop
  | some v, some u => RelV v u
  | none, none => True
  | _, _ => False
def KV {κ : Type} : List (κ × V) → List (κ × Value) → Prop := Paired fun (p : κ × V) (q : κ × Value) => p.1 = q.1 ∧ RelV p.2 q.2

/-- a key of a dict (00_mix): an int or a text -/
def kV : Key → V
  | .inl i => .int i
  | .inr x => .str x

/-- what stands at a tracked address -/
inductive HO where
  /-- a list -/
  | lst (xs : List V)
  /-- a tuple (never changes) -/
  | tup (xs : List V)
  /-- a dict whose keys are ints and texts; one whose keys are tuples of ints and texts (the empty one is both) -/
  | dK (kvs : List (Key × V)) | dT (kvs : List (List Key × V))
  /-- a set of ints: its members, its size -/
  | set (S : Int → Bool) (n : Nat)
  /-- an instance of the class at C, its dict at dx, its attributes -/
  | ins (C dx : Addr) (fs : List (Str × V))
  /-- the dict of the instance at x -/
  | own (x : Addr)
  /-- the dict of an exception -/
  | xd (fs : List (Str × V))
  /-- a bound method, f of x -/
  | met (f x : Addr)
  /-- a range object lo, lo + 1, .. below hi -/
  | rng (lo hi : Int)
  /-- a thing that is known to the object (the script; a dict while a loop walks it): read, never written while it is so -/
  | frz (o : Obj) (u : HO)
  /-- a code object's table -/
  | tbl (ps : Array Value)
  /-- any other thing, by what is true of its one object (a def of one's own: SetO a S n := HO.ext fun h => ..) -/
  | ext (φ : Heap → Prop)

abbrev Hp := Addr → Option HO
def upd (H : Hp) (a : Addr) (o : HO) : Hp := fun b => if b = a then some o else H b
theorem upd_same {H : Hp} {a : Addr} {o : HO} : upd H a o a = some o := by unfold upd; rw [if_pos rfl]
theorem upd_ne {H : Hp} {a b : Addr} {o : HO} (h : b ≠ a) : upd H a o b = H b := by unfold upd; rw [if_neg h]
/-- two objects of different content stand apart -/
theorem ne_of {H : Hp} {a b : Addr} {o u : HO} (h : H a = some o) (h' : H b = some u) (d : o ≠ u) : a ≠ b := by
  intro e; subst e; rw [h] at h'; exact d (Option.some.inj h')
theorem ne_of_none {H : Hp} {a b : Addr} {o : HO} (h : H a = some o) (h' : H b = none) : a ≠ b := by
  intro e; subst e; rw [h] at h'; cases h'

section
variable (P : Program) (w : World)
def ObjOk (H : Hp) (h : Heap) (a : Addr) : HO → Prop
  | .lst xs => xs.length ≤ sizeLine ∧ ∃ (its : List Value) (n : Nat), Vals xs its ∧ h.get? a = some { cls := .type "list", data := .seq its.toArray n }
  | .tup xs => xs.length ≤ sizeLine ∧ ∃ its : List Value, Vals xs its ∧ IsTup h a its.toArray
  | .dK kvs => kvs.length ≤ sizeLine ∧ (a == sysModules) = false ∧ ∃ vs, KV kvs vs ∧ h.DictOf (mixKind P w) a vs
  | .dT kvs => kvs.length ≤ sizeLine ∧ (a == sysModules) = false ∧ ∃ xs : List (List Key × Addr × Value),
      Paired (fun (p : List Key × V) (q : List Key × Addr × Value) => p.1 = q.1 ∧ H q.2.1 = some (.tup (p.1.map kV)) ∧ RelV p.2 q.2.2) kvs xs ∧
      ∃ o es ep, h.get? a = some o ∧ o.ExactDict ∧ o.data = .dict es ep ∧ es.toList = xs.map (entryOfKey (tupleKind (mixKind P w))) ∧ (xs.map (·.1)).Nodup
  | .set S n => h.SetOf (intKind P w) a S n
  | .ins C dx fs => H dx = some (.own a) ∧ fs.length ≤ 1000 ∧ dx ≠ a ∧ h.get? a = some (PySem.W.instObj C dx) ∧
      ∃ mA, h.Ns1 dx mA ∧ (∀ f, RelO (fs.lookup f) (mA f)) ∧ PySem.Within mA (fs.map (·.1))
  | .own _ => ∃ o, h.get? a = some o
  | .xd fs => ∃ mA, h.Ns1 a mA ∧ ∀ f, RelO (fs.lookup f) (mA f)
  | .rng lo hi => ∃ t u v, h.get? a = some { cls := .type "range", data := .fields #[.int lo t, .int hi u, .int 1 v] }
  | .frz o u => h.get? a = some o ∧ ObjOk H h a u
  | .tbl ps => h.get? a = some { cls := .none, data := .fields ps }
  | .met f x => h.get? a = some (PySem.W.methodObj (.ref f) (.ref x))
  | .ext φ => φ h ∧ (∃ o, h.get? a = some o) ∧ ∀ h1 h2 : Heap, φ h1 → (∀ o, h1.get? a = some o → h2.get? a = some o) → φ h2
/-- the abstract heap is held -/
def HOk (H : Hp) (h : Heap) : Prop := ∀ a o, H a = some o → ObjOk P w H h a o
end

section
variable {P : Program} {w : World} {H H' : Hp} {h h' : Heap} {a : Addr} {o : HO}
theorem ObjOk.lt (x : ObjOk P w H h a o) : a < h.objs.size := by
  cases o with
  | lst xs => obtain ⟨_, _, _, _, e⟩ := x; exact Heap.lt_size e
  | tup xs => obtain ⟨_, _, _, p⟩ := x; exact p.lt
  | dK kvs => obtain ⟨_, _, _, _, o, _, _, e, _⟩ := x; exact Heap.lt_size e
  | dT kvs => obtain ⟨_, _, _, _, o, _, _, e, _⟩ := x; exact Heap.lt_size e
  | set S n => obtain ⟨o, _, _, _, e, _⟩ := x; exact Heap.lt_size e
  | ins C dx fs => obtain ⟨_, _, _, e, _⟩ := x; exact Heap.lt_size e
  | own y => obtain ⟨_, e⟩ := x; exact Heap.lt_size e
  | xd fs => obtain ⟨_, ⟨_, _, _, e, _⟩, _⟩ := x; exact Heap.lt_size e
  | rng lo hi => obtain ⟨_, _, _, e⟩ := x; exact Heap.lt_size e
  | frz ob u => obtain ⟨e, _⟩ := x; exact Heap.lt_size e
  | tbl ps => exact Heap.lt_size (show h.get? a = some _ from x)
  | met f y => exact Heap.lt_size (show h.get? a = some _ from x)
  | ext φ => obtain ⟨_, ⟨_, e⟩, _⟩ := x; exact Heap.lt_size e
theorem Paired.mapP {α β : Type} {F G : α → β → Prop} : ∀ {l₁ : List α} {l₂ : List β}, Paired F l₁ l₂ → (∀ a b, F a b → G a b) → Paired G l₁ l₂
  | _, _, .nil, _ => .nil
  | _, _, .cons r t, f => .cons (f _ _ r) (Paired.mapP t f)
/-- what an object's description leans on: its own object, its own dict, the tuples -/
theorem ObjOk.stay (x : ObjOk P w H h a o) (k : ∀ b u, (b = a ∨ H b = some (.own a)) → h.get? b = some u → h'.get? b = some u)
    (ho : ∀ b, H b = some (.own a) → H' b = some (.own a)) (ht : ∀ b xs, H b = some (.tup xs) → H' b = some (.tup xs)) : ObjOk P w H' h' a o := by
  induction o with
  | lst xs => obtain ⟨z, its, n, r, e⟩ := x; exact ⟨z, its, n, r, k _ _ (.inl rfl) e⟩
  | tup xs => obtain ⟨z, its, r, ob, e, c⟩ := x; exact ⟨z, its, r, ob, k _ _ (.inl rfl) e, c⟩
  | dK kvs => obtain ⟨z, y, vs, r, ob, es, ep, e, c⟩ := x; exact ⟨z, y, vs, r, ob, es, ep, k _ _ (.inl rfl) e, c⟩
  | dT kvs =>
    obtain ⟨z, y, xs, r, ob, es, ep, e, c⟩ := x
    exact ⟨z, y, xs, Paired.mapP r fun p q z => ⟨z.1, ht _ _ z.2.1, z.2.2⟩, ob, es, ep, k _ _ (.inl rfl) e, c⟩
  | set S n => obtain ⟨ob, es, ep, t, e, c⟩ := x; exact ⟨ob, es, ep, t, k _ _ (.inl rfl) e, c⟩
  | ins C dx fs =>
    obtain ⟨d, z, ne, e, mA, ⟨od, es, ep, e2, c⟩, r⟩ := x
    exact ⟨ho _ d, z, ne, k _ _ (.inl rfl) e, mA, ⟨od, es, ep, k _ _ (.inr d) e2, c⟩, r⟩
  | own y => obtain ⟨ob, e⟩ := x; exact ⟨ob, k _ _ (.inl rfl) e⟩
  | xd fs => obtain ⟨mA, ⟨od, es, ep, e, c⟩, r⟩ := x; exact ⟨mA, ⟨od, es, ep, k _ _ (.inl rfl) e, c⟩, r⟩
  | rng lo hi => obtain ⟨t, u, v, e⟩ := x; exact ⟨t, u, v, k _ _ (.inl rfl) e⟩
  | frz ob u ih => obtain ⟨e, q⟩ := x; exact ⟨k _ _ (.inl rfl) e, ih q⟩
  | tbl ps =>
    have e : h.get? a = some { cls := .none, data := .fields ps } := x
    show h'.get? a = some { cls := .none, data := .fields ps }
    exact k a _ (.inl rfl) e
  | met f y =>
    have e : h.get? a = some (PySem.W.methodObj (.ref f) (.ref y)) := x
    show h'.get? a = some (PySem.W.methodObj (.ref f) (.ref y))
    exact k a _ (.inl rfl) e
  | ext φ => obtain ⟨p, ⟨o, e⟩, st⟩ := x; exact ⟨st _ _ p fun o q => k _ _ (.inl rfl) q, ⟨o, k _ _ (.inl rfl) e⟩, st⟩
theorem HOk.lt (x : HOk P w H h) (e : H a = some o) : a < h.objs.size := (x a o e).lt
theorem HOk.fresh (x : HOk P w H h) (e : h.objs.size ≤ a) : H a = none := by
  cases q : H a with
  | none => rfl
  | some u => exact absurd (Nat.lt_of_lt_of_le (x.lt q) e) (Nat.lt_irrefl _)
/-- every object of the heap is kept -/
theorem HOk.kept (x : HOk P w H h) (k : ∀ b u, h.get? b = some u → h'.get? b = some u) : HOk P w H h' := fun a o e =>
  (x a o e).stay (fun b u _ q => k b u q) (fun _ q => q) fun _ _ q => q
/-- a new object is laid and tracked -/
theorem HOk.laid (x : HOk P w H h) (k : ∀ b u, h.get? b = some u → h'.get? b = some u) (hp : h.objs.size ≤ a) (new : ObjOk P w (upd H a o) h' a o) : HOk P w (upd H a o) h' := fun b u e => by
  have hn := x.fresh hp
  by_cases hb : b = a
  · subst hb; rw [upd_same] at e; cases e; exact new
  · rw [upd_ne hb] at e
    exact (x b u e).stay (fun c v _ q => k c v q) (fun c q => by rw [upd_ne (ne_of_none q hn)]; exact q) fun c xs q => by rw [upd_ne (ne_of_none q hn)]; exact q
end

/-- what may be read as u: it is u, or a known u -/
def Rd (H : Hp) (a : Addr) (u : HO) : Prop := H a = some u ∨ ∃ o, H a = some (.frz o u)
theorem Rd.ok {P : Program} {w : World} {H : Hp} {h : Heap} {a : Addr} {u : HO} (r : Rd H a u) (x : HOk P w H h) : ObjOk P w H h a u := by
  rcases r with r | ⟨o, r⟩
  · exact x a u r
  · obtain ⟨_, q⟩ := x a _ r
    exact q
/-- what may be written -/
def Mut : Option HO → Prop
  | some (.lst _) => True
  | some (.dK _) => True
  | some (.dT _) => True
  | some (.set _ _) => True
  | some (.ins _ _ _) => True
  | some (.ext _) => True
  | _ => False
section
variable {P : Program} {w : World} {H : Hp} {h h' : Heap} {x e : Addr} {o' : HO}
/-- the object at e is changed: x itself, or the dict of the instance x -/
theorem HOk.write (ok : HOk P w H h) (mu : Mut (H x)) (he : e = x ∨ H e = some (.own x)) (k : ∀ b u, b ≠ e → h.get? b = some u → h'.get? b = some u) (heo : ∃ u, h'.get? e = some u)
    (new : ObjOk P w (upd H x o') h' x o') : HOk P w (upd H x o') h' := fun b u q => by
  have nown : ∀ c y, H c = some (.own y) → c ≠ x := fun c y r z => by subst z; rw [r] at mu; exact mu
  have ntup : ∀ c xs, H c = some (.tup xs) → c ≠ x := fun c xs r z => by subst z; rw [r] at mu; exact mu
  by_cases hb : b = x
  · subst hb; rw [upd_same] at q; cases q; exact new
  · rw [upd_ne hb] at q
    by_cases hbe : b = e
    · have q' : H b = some (.own x) := by
        rcases he with z | z
        · exact absurd (hbe.trans z) hb
        · rw [hbe]; exact z
      rw [q] at q'; cases q'
      obtain ⟨v, hv⟩ := heo
      exact ⟨v, by rw [hbe]; exact hv⟩
    · refine (ok b u q).stay (fun c v hc r => k c v ?_ r) (fun c r => by rw [upd_ne (nown c b r)]; exact r) fun c xs r => by rw [upd_ne (ntup c xs r)]; exact r
      rcases hc with rfl | hc
      · exact hbe
      · rintro rfl
        rcases he with z | z
        · exact nown c b hc z
        · rw [hc] at z; cases z; exact hb rfl
end

/-! ### kept unless tracked; of the frames at fs (the callers') the slots may change (an exception that passes writes there); of the records at ex (iterators) nothing is said -/
structure Un (fs ex : List Addr) (H H' : Hp) (h h' : Heap) : Prop where
  keep : ∀ b o, h.get? b = some o → H b = none → b ∉ fs → b ∉ ex → h'.get? b = some o
  slot : ∀ b o, h.get? b = some o → H b = none → b ∈ fs → b ∉ ex → ∃ sl, h'.get? b = some { o with slots := sl }
  free : ∀ b o, h.get? b = some o → H b = none → b ∉ ex → H' b = none
  there : ∀ b o, h.get? b = some o → b ∉ ex → ∃ o', h'.get? b = some o'
  tups : ∀ b xs, H b = some (.tup xs) → H' b = some (.tup xs)
  frzs : ∀ b o u, H b = some (.frz o u) → H' b = some (.frz o u)
  tbls : ∀ b ps, H b = some (.tbl ps) → ∃ more, H' b = some (.tbl (ps ++ more))
section
variable {fs fs' ex ex' : List Addr} {H H1 H2 : Hp} {h h1 h2 h' : Heap} {a x e : Addr} {o : HO}
theorem Un.any (u : Un fs ex H H1 h h1) {b : Addr} {ob : Obj} (q : h.get? b = some ob) (n : H b = none) (hx : b ∉ ex) : ∃ sl, h1.get? b = some { ob with slots := sl } := by
  by_cases hb : b ∈ fs
  · exact u.slot b ob q n hb hx
  · exact ⟨ob.slots, u.keep b ob q n hb hx⟩
theorem Un.kept (k : ∀ b u, h.get? b = some u → h'.get? b = some u) : Un fs ex H H h h' :=
  ⟨fun b ob q _ _ _ => k b ob q, fun b ob q _ _ _ => ⟨ob.slots, k b ob q⟩, fun _ _ _ n _ => n, fun b ob q _ => ⟨ob, k b ob q⟩, fun _ _ q => q, fun _ _ _ q => q, fun _ ps q => ⟨#[], by rw [q]; simp⟩⟩
theorem Un.refl : Un fs ex H H h h := Un.kept fun _ _ q => q
theorem Un.laid (k : ∀ b u, h.get? b = some u → h'.get? b = some u) (hp : h.objs.size ≤ a) (hn : H a = none) : Un fs ex H (upd H a o) h h' where
  keep := fun b u q _ _ _ => k b u q
  slot := fun b u q _ _ _ => ⟨u.slots, k b u q⟩
  free := fun b u q n _ => by rw [upd_ne (Nat.ne_of_lt (Nat.lt_of_lt_of_le (Heap.lt_size q) hp))]; exact n
  there := fun b u q _ => ⟨u, k b u q⟩
  tups := fun b xs q => by rw [upd_ne (ne_of_none q hn)]; exact q
  frzs := fun b u xs q => by rw [upd_ne (ne_of_none q hn)]; exact q
  tbls := fun b ps q => ⟨#[], by rw [upd_ne (ne_of_none q hn), q]; simp⟩
theorem Un.write (mu : Mut (H x)) (he : e = x ∨ H e = some (.own x)) (k : ∀ b u, b ≠ e → h.get? b = some u → h'.get? b = some u) (heo : ∃ u, h'.get? e = some u) : Un fs ex H (upd H x o) h h' := by
  have hx : ∀ b, H b = none → b ≠ x := fun b n z => by subst z; rw [n] at mu; exact mu
  have hb : ∀ b, H b = none → b ≠ e := fun b n z => by
    subst z
    rcases he with r | r
    · exact hx b n r
    · rw [n] at r; cases r
  have hm : ∀ b u, H b = some u → ¬ Mut (some u) → b ≠ x := fun b u q nm z => by subst z; rw [q] at mu; exact nm mu
  refine ⟨fun b u q n _ _ => k b u (hb b n) q, fun b u q n _ _ => ⟨u.slots, k b u (hb b n) q⟩, fun b u q n _ => by rw [upd_ne (hx b n)]; exact n, fun b u q _ => ?_,
    fun b xs q => by rw [upd_ne (hm b _ q fun z => z)]; exact q, fun b u xs q => by rw [upd_ne (hm b _ q fun z => z)]; exact q, fun b ps q => ⟨#[], by rw [upd_ne (hm b _ q fun z => z), q]; simp⟩⟩
  by_cases hbe : b = e
  · subst hbe; exact heo
  · exact ⟨u, k b u hbe q⟩
end

/-! ### the heap without what is tracked -/
def trk (h : Heap) (H : Hp) : List Addr := (List.range h.objs.size).filter fun a => (H a).isSome
def hidT (h : Heap) (H : Hp) : Heap := PySem.W.hideAll h (trk h H)
theorem hidT_size (h : Heap) (H : Hp) : (hidT h H).objs.size = h.objs.size := PySem.W.hideAll_size _ _
theorem hidT_get {h : Heap} {H : Hp} {b : Addr} {o : Obj} (e : h.get? b = some o) (n : H b = none) : (hidT h H).get? b = some o :=
  PySem.W.hideAll_get _ e fun hm => by
    have q : (H b).isSome = true := (List.mem_filter.mp hm).2
    rw [n] at q; simp at q
theorem of_hidT {h : Heap} {H : Hp} {b : Addr} {o : Obj} (e : (hidT h H).get? b = some o) : h.get? b = some o ∧ H b = none := by
  have e' : h.get? b = some o := PySem.W.of_hideAll (trk h H) e
  refine ⟨e', ?_⟩
  cases q : H b with
  | none => rfl
  | some x =>
    have hm : b ∈ trk h H := List.mem_filter.mpr ⟨List.mem_range.mpr (Heap.lt_size e'), by simp [q]⟩
    have z : (hidT h H).get? b = none := PySem.W.hideAll_none (trk h H) hm
    rw [z] at e; cases e

/-! ### OpenK's ledger, filled with every new object but one -/
def allNews (g h : Heap) (L : Addr) : List (Addr × Obj) := (List.range h.objs.size).filterMap fun a => if a = L ∨ (g.get? a).isSome = true then none else (h.get? a).map fun o => (a, o)
def rest (g h : Heap) (L d : Addr) : List (Addr × Obj) := (allNews g h L).filter fun p => decide (p.1 ≠ d)
end L2

namespace L2
open PySem PySem.Spec PyProof.Rows

/-- the module's facts, over the base: the heap at the law's entry without what is tracked there -/
structure Mod (K : PySem.W.Frag) (mg : Str → Option Value) (base : Heap) : Prop where
  kin : K.In base
  glob : base.Ns mainGlobals mg
  blt : ∃ mb, base.Ns builtinsNs mb ∧ ∀ x : Str, x ≠ "__name__" → mb x = bootBuiltins x
  nolimit : base.NoLimit

/-- the context: a def's body (or a comprehension's block) running. base: fixed through the whole law; s₀, H₀: the entry; outer: the frames whose slots others may change (a def's callers); stack: all frames that run;
   ex: iterators that were made ahead of the entry and are walked here (a comprehension's); fn: the names whose cells were made at the entry (a def: all; a comprehension's block: its own); calm: not within an except suite; pn: pins that every state bears; xe: what is wanted of an exception that leaves the code -/
structure Cx where
  prog : Program
  w : World
  K : PySem.W.Frag
  mg : Str → Option Value
  base : Heap
  A : Around
  N : List Str
  s₀ : Shared
  H₀ : Hp
  env : Env
  outer : List Env
  stack : List Env
  ex : List Addr
  fn : Str → Bool
  calm : Bool
  pn : List (Addr × Obj)
  xe : Value → Shared → Prop
/-- the callers' frames -/
def frs (l : List Env) : List Addr := l.filterMap (·.frame)
abbrev Cx.fs (X : Cx) : List Addr := frs X.outer

def Vis (sc : Scope) (x : Str) : Prop := sc.names.lookup x = some .local ∨ sc.names.lookup x = some .cell ∨ sc.names.lookup x = some .free
def Loc (sc : Scope) (x : Str) : Prop := sc.names.lookup x = some .local ∨ sc.names.lookup x = some .cell
def Look (env : Env) (h : Heap) (m : Str → Option Value) (x : Str) (u : Value) : Prop :=
  (env.kindOf x = some .local ∧ m x = some u) ∨ ((env.kindOf x = some .cell ∨ env.kindOf x = some .free) ∧ ∃ c, env.cells.lookup x = some c ∧ h.IsCell c (some u))

structure Cx.Ok (X : Cx) : Prop where
  mod : Mod X.K X.mg X.base
  kind : X.env.scope.kind = .function
  glob : X.env.globals = mainGlobals
  blt : X.env.builtins = builtinsNs
  above : X.s₀.heap.objs.size ≤ X.env.locals
  inj : ∀ x y c, X.env.cells.lookup x = some c → X.env.cells.lookup y = some c → x = y
  has : ∀ x, (X.env.kindOf x = some .cell ∨ X.env.kindOf x = some .free) → ∃ c, X.env.cells.lookup x = some c
  cab : ∀ x c, X.fn x = true → X.env.cells.lookup x = some c → X.s₀.heap.objs.size ≤ c
  hd : X.calm = true → X.A.handled = none
  frames : X.A.frames = some X.stack
  stk : X.stack = X.outer ∨ (X.stack = X.env :: X.outer ∧ X.env.frame = some X.env.locals)
  exf : ∀ b ∈ X.ex, b ≠ X.env.locals ∧ ∀ x c, X.env.cells.lookup x = some c → c ≠ b
  bs : ∀ b o, X.base.get? b = some o → X.s₀.heap.get? b = some o ∧ X.H₀ b = none
  bsz : X.base.objs.size ≤ X.s₀.heap.objs.size
  noex : ∀ b o, X.base.get? b = some o → b ∉ X.ex
  exfs : ∀ b ∈ X.ex, b ∉ X.fs
  funs : X.s₀.heap.FunFrames X.base X.outer
  frf : ∀ b ∈ X.fs, X.H₀ b = none

structure Inv (X : Cx) (pins : List (Addr × Obj)) (σ : List (Option V)) (H : Hp) (s : Shared) : Prop where
  ok : X.Ok
  os : s.os = X.s₀.os
  bare : AllBare s.gens
  base : Un X.fs X.ex X.H₀ H X.s₀.heap s.heap
  loc : ∃ m, s.heap.Ns X.env.locals m ∧ ∀ (i : Nat) (x : Str) (v : V), X.N[i]? = some x → σ[i]? = some (some v) → Vis X.env.scope x → ∃ u, RelV v u ∧ Look X.env s.heap m x u
  cell : ∀ x c, X.env.cells.lookup x = some c → ∃ v, s.heap.IsCell c v
  free : H X.env.locals = none
  freeC : ∀ x c, X.env.cells.lookup x = some c → H c = none
  pin : ∀ p ∈ X.pn ++ pins, s.heap.get? p.1 = some p.2 ∧ H p.1 = none ∧ p.1 ≠ X.env.locals ∧ p.1 ∉ X.fs ∧ ∀ v, p.2.data ≠ .cell v
  hok : HOk X.prog X.w H s.heap
  len : σ.length = X.N.length

section
variable {X : Cx} {pins : List (Addr × Obj)} {σ : List (Option V)} {H H' : Hp} {s : Shared} {h' : Heap}

theorem Cx.Ok.nofr (ok : X.Ok) {b : Addr} {o : Obj} (e : X.base.get? b = some o) : b ∉ X.fs := fun hb => by
  have := (ok.funs.mem hb).1
  rw [e] at this; cases this
theorem Inv.bs (I : Inv X pins σ H s) : ∀ b o, X.base.get? b = some o → s.heap.get? b = some o ∧ H b = none := fun b o e =>
  ⟨I.base.keep b o (I.ok.bs b o e).1 (I.ok.bs b o e).2 (I.ok.nofr e) (I.ok.noex b o e), I.base.free b o (I.ok.bs b o e).1 (I.ok.bs b o e).2 (I.ok.noex b o e)⟩
theorem Inv.bk (I : Inv X pins σ H s) : ∀ b o, X.base.get? b = some o → s.heap.get? b = some o := fun b o e => (I.bs b o e).1
theorem Inv.mod (I : Inv X pins σ H s) : Mod X.K X.mg X.base := I.ok.mod
theorem Inv.kIn (I : Inv X pins σ H s) : X.K.In s.heap := I.ok.mod.kin.keeps I.bk
theorem Inv.lt (I : Inv X pins σ H s) : X.env.locals < s.heap.objs.size := let ⟨_, hn, _⟩ := I.loc; hn.lt
theorem Inv.sz (I : Inv X pins σ H s) : X.s₀.heap.objs.size ≤ s.heap.objs.size := Nat.le_trans I.ok.above (Nat.le_of_lt I.lt)
theorem Inv.nofs (I : Inv X pins σ H s) {a : Addr} (h : s.heap.objs.size ≤ a) : a ∉ X.fs := fun hb => by
  obtain ⟨_, o, ho, _⟩ := I.ok.funs.mem hb
  exact absurd (Nat.lt_of_lt_of_le (Heap.lt_size ho) (Nat.le_trans I.sz h)) (Nat.lt_irrefl _)
theorem Inv.cne (I : Inv X pins σ H s) : ∀ x c, X.env.cells.lookup x = some c → c ≠ X.env.locals := fun x c e z => by
  obtain ⟨v, o, ho, hd⟩ := I.cell x c e
  obtain ⟨m, ⟨o', es, ep, ho', hd', _⟩, _⟩ := I.loc
  rw [z, ho'] at ho; cases ho; rw [hd'] at hd; cases hd
theorem Inv.funs (I : Inv X pins σ H s) : s.heap.FunFrames X.base X.outer := by
  have all : ∀ (l : List Env), (∀ b ∈ frs l, b ∈ X.fs) → X.s₀.heap.FunFrames X.base l → s.heap.FunFrames X.base l := by
    intro l
    induction l with
    | nil => intro _ _; trivial
    | cons env r ih =>
      intro hs hl
      obtain ⟨hk, ⟨L, o, hf, hn, ho, hd⟩, hr⟩ := hl
      have hL : L ∈ X.fs := hs L (by unfold frs; rw [List.filterMap_cons, hf]; exact List.mem_cons_self)
      obtain ⟨sl, e⟩ := I.base.slot L o ho (I.ok.frf L hL) hL fun z => I.ok.exfs L z hL
      exact ⟨hk, ⟨L, _, hf, hn, e, hd⟩, ih (fun b hb => hs b (by unfold frs; rw [List.filterMap_cons, hf]; exact List.mem_cons_of_mem _ hb)) hr⟩
  exact all X.outer (fun _ hb => hb) I.ok.funs

/-- the frames that run, for a call -/
theorem Inv.stack (I : Inv X pins σ H s) : s.heap.FunFrames X.base X.stack := by
  rcases I.ok.stk with e | ⟨e, hf⟩
  · rw [e]; exact I.funs
  · rw [e]
    obtain ⟨m, hn, _⟩ := I.loc
    refine .cons (by rw [I.ok.kind]; decide) hf hn ?_ I.funs
    exact Heap.get?_none_of_le (Nat.le_trans I.ok.bsz I.ok.above)
theorem Inv.stkSub (I : Inv X pins σ H s) : ∀ b ∈ frs X.stack, b ∈ X.env.locals :: X.fs := fun b hb => by
  rcases I.ok.stk with e | ⟨e, hf⟩
  · rw [e] at hb; exact List.mem_cons_of_mem _ hb
  · rw [e] at hb
    unfold frs at hb
    rw [List.filterMap_cons, hf] at hb
    exact hb
theorem Inv.stkFree (I : Inv X pins σ H s) : ∀ b ∈ frs X.stack, H b = none := fun b hb => by
  rcases List.mem_cons.mp (I.stkSub b hb) with e | hb
  · rw [e]; exact I.free
  · obtain ⟨_, o, ho, _⟩ := I.ok.funs.mem hb
    exact I.base.free b o ho (I.ok.frf b hb) fun z => I.ok.exfs b z hb

/-- THE STEP: the untracked objects but the frame and the records at ch are kept (the callers' frames up to slots), the frame's map is kept, the new abstract heap is held -/
theorem Inv.step {g' : Array GenState} {t' : Nat} {d' : Drawn} {ch : List Addr} (I : Inv X pins σ H s)
    (hch : ∀ b ∈ ch, (b ∈ X.ex ∨ X.s₀.heap.objs.size ≤ b) ∧ b ≠ X.env.locals ∧ (∀ x c, X.env.cells.lookup x = some c → c ≠ b) ∧ ∀ p ∈ X.pn ++ pins, p.1 ≠ b)
    (keep : ∀ b o, b ≠ X.env.locals → b ∉ X.fs → b ∉ ch → s.heap.get? b = some o → H b = none → h'.get? b = some o)
    (slot : ∀ b o, b ≠ X.env.locals → b ∈ X.fs → b ∉ ch → s.heap.get? b = some o → H b = none → ∃ sl, h'.get? b = some { o with slots := sl }) (free : ∀ b o, b ∉ ch → s.heap.get? b = some o → H b = none → H' b = none)
    (there : ∀ b o, b ∉ ch → s.heap.get? b = some o → ∃ o', h'.get? b = some o')
    (tups : ∀ b xs, H b = some (.tup xs) → H' b = some (.tup xs)) (frzs : ∀ b o u, H b = some (.frz o u) → H' b = some (.frz o u)) (tbls : ∀ b ps, H b = some (.tbl ps) → ∃ more, H' b = some (.tbl (ps ++ more)))
    (ns : ∀ m, s.heap.Ns X.env.locals m → h'.Ns X.env.locals m) (hok : HOk X.prog X.w H' h') (hg : AllBare g') :
    Inv X pins σ H' { s with heap := h', gens := g', drawn := d', toks := t' } := by
  have neL : ∀ b o, X.s₀.heap.get? b = some o → b ≠ X.env.locals := fun b o e => Nat.ne_of_lt (Nat.lt_of_lt_of_le (Heap.lt_size e) I.ok.above)
  have neC : ∀ b o, X.s₀.heap.get? b = some o → b ∉ X.ex → b ∉ ch := fun b o e hx hb => by
    rcases (hch b hb).1 with z | z
    · exact hx z
    · exact absurd (Nat.lt_of_lt_of_le (Heap.lt_size e) z) (Nat.lt_irrefl _)
  have cellK : ∀ x c, X.env.cells.lookup x = some c → ∀ v, s.heap.IsCell c v → h'.IsCell c v := fun x c e v ⟨o, ho, hd⟩ => by
    have nch : c ∉ ch := fun z => (hch c z).2.2.1 x c e rfl
    by_cases hc : c ∈ X.fs
    · obtain ⟨sl, q⟩ := slot c o (I.cne x c e) hc nch ho (I.freeC x c e)
      exact ⟨_, q, hd⟩
    · exact ⟨o, keep c o (I.cne x c e) hc nch ho (I.freeC x c e), hd⟩
  refine ⟨I.ok, I.os, hg, ⟨fun b o e n hb hx => ?_, fun b o e n hb hx => ?_, fun b o e n hx => ?_, fun b o e hx => ?_, fun b xs e => tups b xs (I.base.tups b xs e), fun b o xs e => frzs b o xs (I.base.frzs b o xs e), fun b ps e => ?_⟩, ?_, fun x c e => ?_, ?_, fun x c e => ?_, fun p hp => ?_, hok, I.len⟩
  · exact keep b o (neL b o e) hb (neC b o e hx) (I.base.keep b o e n hb hx) (I.base.free b o e n hx)
  · obtain ⟨sl, e1⟩ := I.base.slot b o e n hb hx
    obtain ⟨sl', e2⟩ := slot b _ (neL b o e) hb (neC b o e hx) e1 (I.base.free b o e n hx)
    exact ⟨sl', e2⟩
  · obtain ⟨o', e1⟩ := I.base.there b o e hx
    exact free b o' (neC b o e hx) e1 (I.base.free b o e n hx)
  · obtain ⟨o', e1⟩ := I.base.there b o e hx
    exact there b o' (neC b o e hx) e1
  · obtain ⟨m1, e1⟩ := I.base.tbls b ps e
    obtain ⟨m2, e2⟩ := tbls b _ e1
    exact ⟨m1 ++ m2, by rw [e2, Array.append_assoc]⟩
  · obtain ⟨m, hn, hl⟩ := I.loc
    refine ⟨m, ns m hn, fun i x v e1 e2 e3 => ?_⟩
    obtain ⟨u, r, l⟩ := hl i x v e1 e2 e3
    refine ⟨u, r, ?_⟩
    rcases l with l | ⟨k, c, e, z⟩
    · exact .inl l
    · exact .inr ⟨k, c, e, cellK x c e _ z⟩
  · obtain ⟨v, z⟩ := I.cell x c e
    exact ⟨v, cellK x c e v z⟩
  · obtain ⟨m, ⟨o, _, _, ho, _⟩, _⟩ := I.loc
    exact free _ o (fun z => (hch _ z).2.1 rfl) ho I.free
  · obtain ⟨v, o, ho, hd⟩ := I.cell x c e
    exact free c o (fun z => (hch c z).2.2.1 x c e rfl) ho (I.freeC x c e)
  · obtain ⟨e, n, ne, nf, d⟩ := I.pin p hp
    have nch : p.1 ∉ ch := fun z => (hch p.1 z).2.2.2 p hp rfl
    exact ⟨keep p.1 p.2 ne nf nch e n, free p.1 p.2 nch e n, ne, nf, d⟩
/-- .. where the frame's own object is kept too -/
theorem Inv.un {t' : Nat} (I : Inv X pins σ H s) (u : Un X.fs [] H H' s.heap h') (hok : HOk X.prog X.w H' h') : Inv X pins σ H' { s with heap := h', toks := t' } := by
  obtain ⟨m, ⟨o, es, ep, ho, r⟩, _⟩ := id I.loc
  obtain ⟨sl, hL⟩ := u.any ho I.free (by simp)
  exact I.step (g' := s.gens) (d' := s.drawn) (ch := []) (fun _ z => nomatch z) (fun b o _ hb _ e n => u.keep b o e n hb (by simp)) (fun b o _ hb _ e n => u.slot b o e n hb (by simp)) (fun b o _ e n => u.free b o e n (by simp)) (fun b o _ e => u.there b o e (by simp)) u.tups u.frzs u.tbls (fun m' hm => by
    obtain ⟨o', es', ep', ho', r'⟩ := hm
    rw [ho] at ho'; cases ho'
    exact ⟨_, es', ep', hL, r'⟩) hok I.bare
/-- behind a call (or a comprehension's block): the slots of this frame may have changed too, the records at ch may have turned -/
theorem Inv.call {g' : Array GenState} {t' : Nat} {d' : Drawn} {ch : List Addr} (I : Inv X pins σ H s) (u : Un (frs X.stack) ch H H' s.heap h') (hok : HOk X.prog X.w H' h') (hg : AllBare g')
    (hch : ∀ b ∈ ch, (b ∈ X.ex ∨ X.s₀.heap.objs.size ≤ b) ∧ b ≠ X.env.locals ∧ (∀ x c, X.env.cells.lookup x = some c → c ≠ b) ∧ ∀ p ∈ X.pn ++ pins, p.1 ≠ b) :
    Inv X pins σ H' { s with heap := h', gens := g', drawn := d', toks := t' } := by
  obtain ⟨m, ⟨o, es, ep, ho, r⟩, _⟩ := id I.loc
  obtain ⟨sl, hL⟩ := u.any ho I.free fun z => (hch _ z).2.1 rfl
  exact I.step (ch := ch) hch (fun b o hL hb hc e n => u.keep b o e n (fun z => (List.mem_cons.mp (I.stkSub b z)).elim hL hb) hc) (fun b o _ _ hc e n => u.any e n hc) (fun b o hc e n => u.free b o e n hc) (fun b o hc e => u.there b o e hc) u.tups u.frzs u.tbls (fun m' hm => by
    obtain ⟨o', es', ep', ho', r'⟩ := hm
    rw [ho] at ho'; cases ho'
    exact ⟨_, es', ep', hL, r'⟩) hok hg
/-- an untracked record of ours (an iterator) has turned -/
theorem Inv.turned {t' : Nat} {it : Addr} (I : Inv X pins σ H s) (k : ∀ b o, b ≠ it → s.heap.get? b = some o → h'.get? b = some o) (hn : H it = none) (hL : it ≠ X.env.locals)
    (h1 : it ∈ X.ex ∨ X.s₀.heap.objs.size ≤ it) (h2 : ∀ x c, X.env.cells.lookup x = some c → c ≠ it) (h3 : ∀ p ∈ X.pn ++ pins, p.1 ≠ it) : Inv X pins σ H { s with heap := h', toks := t' } := by
  have nit : ∀ b u, H b = some u → b ≠ it := fun b u e z => by rw [z, hn] at e; cases e
  refine I.step (g' := s.gens) (d' := s.drawn) (ch := [it]) (fun b hb => ?_) (fun b o _ _ hc e _ => k b o (fun z => hc (by simp [z])) e) (fun b o _ _ hc e _ => ⟨o.slots, k b o (fun z => hc (by simp [z])) e⟩) (fun _ _ _ _ n => n)
    (fun b o hc e => ⟨o, k b o (fun z => hc (by simp [z])) e⟩) (fun _ _ e => e) (fun _ _ _ e => e) (fun b ps e => ⟨#[], by rw [e]; simp⟩) (fun m hm => ?_) (fun b u e => ?_) I.bare
  · have e : b = it := by simpa using hb
    subst e
    exact ⟨h1, hL, h2, h3⟩
  · obtain ⟨o, es, ep, ho, r⟩ := hm
    exact ⟨o, es, ep, k _ o (Ne.symm hL) ho, r⟩
  · refine (I.hok b u e).stay (fun c v hc q => k c v ?_ q) (fun _ q => q) fun _ _ q => q
    rcases hc with z | z
    · rw [z]; exact nit b u e
    · exact nit c _ z
theorem Inv.tok (I : Inv X pins σ H s) (t : Nat) : Inv X pins σ H { s with toks := t } := I.un (h' := s.heap) (t' := t) Un.refl I.hok
/-- all objects kept -/
theorem Inv.kept {t' : Nat} (I : Inv X pins σ H s) (k : ∀ b u, s.heap.get? b = some u → h'.get? b = some u) : Inv X pins σ H { s with heap := h', toks := t' } := I.un (Un.kept k) (I.hok.kept k)
/-- a new object laid and tracked -/
theorem Inv.laid {a : Addr} {o : HO} {t' : Nat} (I : Inv X pins σ H s) (k : ∀ b u, s.heap.get? b = some u → h'.get? b = some u) (hp : s.heap.objs.size ≤ a) (new : ObjOk X.prog X.w (upd H a o) h' a o) :
    Inv X pins σ (upd H a o) { s with heap := h', toks := t' } := I.un (Un.laid k hp (I.hok.fresh hp)) (I.hok.laid k hp new)
/-- an object written -/
theorem Inv.write {x e : Addr} {o : HO} {t' : Nat} (I : Inv X pins σ H s) (mu : Mut (H x)) (he : e = x ∨ H e = some (.own x)) (k : ∀ b u, b ≠ e → s.heap.get? b = some u → h'.get? b = some u) (heo : ∃ u, h'.get? e = some u)
    (new : ObjOk X.prog X.w (upd H x o) h' x o) : Inv X pins σ (upd H x o) { s with heap := h', toks := t' } := I.un (Un.write mu he k heo) (I.hok.write mu he k heo new)
theorem Inv.pins_of {pins' : List (Addr × Obj)} (I : Inv X pins σ H s) (h : ∀ p ∈ pins', s.heap.get? p.1 = some p.2 ∧ H p.1 = none ∧ p.1 ≠ X.env.locals ∧ p.1 ∉ X.fs ∧ ∀ v, p.2.data ≠ .cell v) : Inv X pins' σ H s :=
  ⟨I.ok, I.os, I.bare, I.base, I.loc, I.cell, I.free, I.freeC, fun p hp => (List.mem_append.mp hp).elim (fun z => I.pin p (List.mem_append_left _ z)) (h p), I.hok, I.len⟩

theorem nodup_ix {N : List Str} (hN : N.Nodup) {i j : Nat} {x : Str} (a : N[i]? = some x) (b : N[j]? = some x) : i = j := by
  obtain ⟨h1, e1⟩ := List.getElem?_eq_some_iff.mp a
  obtain ⟨h2, e2⟩ := List.getElem?_eq_some_iff.mp b
  exact (List.getElem_inj hN).mp (e1.trans e2.symm)

/-- a name is stored; what changed -/
theorem store_ok2 {M : Model} {A : Around} {E : Value → Shared → Prop} {i : Nat} {x : Str} {v : V} {u : Value} {Q : Unit → Shared → Prop} (I : Inv X pins σ H s) (hN : X.N.Nodup) (hi : X.N[i]? = some x) (hx : Loc X.env.scope x) (r : RelV v u)
    (h : ∀ s', Inv X pins (σ.set i (some v)) H s' → (∃ a, Heap.SameBut a s.heap s'.heap ∧ (a = X.env.locals ∨ X.env.cells.lookup x = some a)) → Q () s') (hf : X.fn x = true ∨ X.env.scope.names.lookup x = some .local := by first | exact .inl rfl | exact .inr rfl | assumption) : wpAny M A (storeName X.env x u) Q E s := by
  obtain ⟨m, hn, hl⟩ := id I.loc
  have hcls : (X.env.scope.kind == .class || (X.env.scope.kind == .module && X.env.locals != X.env.globals)) = false := by rw [I.ok.kind]; rfl
  have hiσ : i < σ.length := by rw [I.len]; exact (List.getElem?_eq_some_iff.mp hi).1
  have cne := I.cne
  have tracked : ∀ {a : Addr} {h' : Heap}, (∃ o, s.heap.get? a = some o ∧ H a = none) → Heap.SameBut a s.heap h' → HOk X.prog X.w H h' := fun {a h'} ha hs b ob e => by
    obtain ⟨_, _, hfree⟩ := ha
    refine (I.hok b ob e).stay (fun c w' hc q => (hs.2 c ?_).trans q) (fun _ q => q) fun _ _ q => q
    rintro rfl
    rcases hc with rfl | hc
    · rw [hfree] at e; cases e
    · rw [hfree] at hc; cases hc
  rcases hx with hk | hk
  · refine wpAny_storeName_local hk hn (fun h' hn' hs => ?_) hcls
    obtain ⟨oL, _, _, hoL, _⟩ := id hn
    refine h _ ⟨I.ok, I.os, I.bare, ⟨fun b o e n hb hx => ?_, fun b o e n hb hx => ?_, I.base.free, fun b o e hx => ?_, I.base.tups, I.base.frzs, I.base.tbls⟩, ⟨_, hn', fun j y v' e1 e2 e3 => ?_⟩, fun y c e => ?_, I.free, I.freeC, fun p hp => ?_, tracked ⟨oL, hoL, I.free⟩ hs, by simpa using I.len⟩ ⟨_, hs, .inl rfl⟩
    · exact (hs.2 b (Nat.ne_of_lt (Nat.lt_of_lt_of_le (Heap.lt_size e) I.ok.above))).trans (I.base.keep b o e n hb hx)
    · obtain ⟨sl, e1⟩ := I.base.slot b o e n hb hx
      exact ⟨sl, (hs.2 b (Nat.ne_of_lt (Nat.lt_of_lt_of_le (Heap.lt_size e) I.ok.above))).trans e1⟩
    · obtain ⟨o', e1⟩ := I.base.there b o e hx
      exact ⟨o', (hs.2 b (Nat.ne_of_lt (Nat.lt_of_lt_of_le (Heap.lt_size e) I.ok.above))).trans e1⟩
    · by_cases hj : j = i
      · subst hj
        rw [hi] at e1; cases e1
        rw [List.getElem?_set_self hiσ] at e2
        cases e2
        exact ⟨u, r, .inl ⟨hk, by simp⟩⟩
      · rw [List.getElem?_set_ne (Ne.symm hj)] at e2
        obtain ⟨u', r', q⟩ := hl j y v' e1 e2 e3
        refine ⟨u', r', ?_⟩
        rcases q with ⟨k, e⟩ | ⟨k, c, e, z⟩
        · refine .inl ⟨k, ?_⟩
          have : y ≠ x := fun e => hj (nodup_ix hN e1 (e ▸ hi))
          simp [this, e]
        · exact .inr ⟨k, c, e, z.sameBut hs (cne y c e)⟩
    · obtain ⟨w', z⟩ := I.cell y c e
      exact ⟨w', z.sameBut hs (cne y c e)⟩
    · obtain ⟨e, n, ne, nf, d⟩ := I.pin p hp
      exact ⟨(hs.2 p.1 ne).trans e, n, ne, nf, d⟩
  · have hfn : X.fn x = true := by
      rcases hf with z | z
      · exact z
      · rw [z] at hk; cases hk
    obtain ⟨c, hc⟩ := I.ok.has x (.inl hk)
    obtain ⟨w', z⟩ := I.cell x c hc
    refine wpAny_storeName_cell I.ok.kind hk hc z (fun h' hc' hs => ?_)
    obtain ⟨oc, hoc, hocd⟩ := id z
    refine h { s with heap := h' } ⟨I.ok, I.os, I.bare, ⟨fun b o e n hb hx => ?_, fun b o e n hb hx => ?_, I.base.free, fun b o e hx => ?_, I.base.tups, I.base.frzs, I.base.tbls⟩, ⟨m, hn.sameBut hs (Ne.symm (cne x c hc)), fun j y v' e1 e2 e3 => ?_⟩, fun y c' e => ?_, I.free, I.freeC, fun p hp => ?_, tracked ⟨oc, hoc, I.freeC x c hc⟩ hs, by simpa using I.len⟩ ⟨c, hs, .inr hc⟩
    · exact (hs.2 b (Nat.ne_of_lt (Nat.lt_of_lt_of_le (Heap.lt_size e) (I.ok.cab x c hfn hc)))).trans (I.base.keep b o e n hb hx)
    · obtain ⟨sl, e1⟩ := I.base.slot b o e n hb hx
      exact ⟨sl, (hs.2 b (Nat.ne_of_lt (Nat.lt_of_lt_of_le (Heap.lt_size e) (I.ok.cab x c hfn hc)))).trans e1⟩
    · obtain ⟨o', e1⟩ := I.base.there b o e hx
      exact ⟨o', (hs.2 b (Nat.ne_of_lt (Nat.lt_of_lt_of_le (Heap.lt_size e) (I.ok.cab x c hfn hc)))).trans e1⟩
    · by_cases hj : j = i
      · subst hj
        rw [hi] at e1; cases e1
        rw [List.getElem?_set_self hiσ] at e2
        cases e2
        exact ⟨u, r, .inr ⟨.inl hk, c, hc, hc'⟩⟩
      · rw [List.getElem?_set_ne (Ne.symm hj)] at e2
        obtain ⟨u', r', q⟩ := hl j y v' e1 e2 e3
        refine ⟨u', r', ?_⟩
        rcases q with q | ⟨k, c', e, z'⟩
        · exact .inl q
        · refine .inr ⟨k, c', e, z'.sameBut hs ?_⟩
          rintro rfl
          exact hj (nodup_ix hN e1 (I.ok.inj _ _ _ e hc ▸ hi))
    · by_cases hcc : c' = c
      · subst hcc; exact ⟨_, hc'⟩
      · obtain ⟨w2, z2⟩ := I.cell y c' e
        exact ⟨w2, z2.sameBut hs hcc⟩
    · obtain ⟨e, n, ne, nf, d⟩ := I.pin p hp
      refine ⟨(hs.2 p.1 ?_).trans e, n, ne, nf, d⟩
      intro q
      rw [q, hoc] at e
      have q' : oc = p.2 := Option.some.inj e
      exact d w' (by rw [← q']; exact hocd)
theorem store_ok {M : Model} {A : Around} {E : Value → Shared → Prop} {i : Nat} {x : Str} {v : V} {u : Value} {Q : Unit → Shared → Prop} (I : Inv X pins σ H s) (hN : X.N.Nodup) (hi : X.N[i]? = some x) (hx : Loc X.env.scope x) (r : RelV v u)
    (h : ∀ s', Inv X pins (σ.set i (some v)) H s' → Q () s') (hf : X.fn x = true ∨ X.env.scope.names.lookup x = some .local := by first | exact .inl rfl | exact .inr rfl | assumption) : wpAny M A (storeName X.env x u) Q E s :=
  store_ok2 I hN hi hx r (fun s' I' _ => h s' I') hf
/-- behind a call or a block, the state as it is -/
theorem Inv.call' {s' : Shared} {ch : List Addr} (I : Inv X pins σ H s) (ho : s'.os = s.os) (u : Un (frs X.stack) ch H H' s.heap s'.heap) (hok : HOk X.prog X.w H' s'.heap) (hg : AllBare s'.gens)
    (hch : ∀ b ∈ ch, (b ∈ X.ex ∨ X.s₀.heap.objs.size ≤ b) ∧ b ≠ X.env.locals ∧ (∀ x c, X.env.cells.lookup x = some c → c ≠ b) ∧ ∀ p ∈ X.pn ++ pins, p.1 ≠ b) : Inv X pins σ H' s' := by
  obtain ⟨h', g', d', t', o'⟩ := s'
  have e : o' = s.os := ho
  subst e
  exact I.call (g' := g') (t' := t') (d' := d') u hok hg hch
end

/-! ### the judgements -/
/-- an exception: its class, its own dict's address (where it has one), the abstract heap behind it -/
abbrev XK := Value → Option Addr → Hp → Prop
abbrev St := List (Option V)
abbrev VK := V → Hp → Prop
/-- an expression's reading; a test's; an argument list's -/
abbrev TE := St → Hp → VK → Prop
abbrev TT := St → Hp → (Bool → Hp → Prop) → Prop
abbrev TA := St → Hp → (List V → Hp → Prop) → Prop
/-- what is wanted behind a statement -/
structure Ends where
  nx : St → Hp → Prop
  rt : VK
  bk : St → Hp → Prop := fun _ _ => False
  ct : St → Hp → Prop := fun _ _ => False
abbrev TS := Ends → St → Hp → Prop

def EP (X : Cx) (pins : List (Addr × Obj)) (σ : St) (Q : VK) (u : Value) (s' : Shared) : Prop := ∃ v H', Inv X pins σ H' s' ∧ RelV v u ∧ Q v H'
def TP (X : Cx) (pins : List (Addr × Obj)) (σ : St) (Q : Bool → Hp → Prop) (b : Bool) (s' : Shared) : Prop := ∃ H', Inv X pins σ H' s' ∧ Q b H'
def AP (X : Cx) (pins : List (Addr × Obj)) (σ : St) (Q : List V → Hp → Prop) (us : List Value) (s' : Shared) : Prop := ∃ vs H', Inv X pins σ H' s' ∧ Vals vs us ∧ Q vs H'
def SP (X : Cx) (pins : List (Addr × Obj)) (D : Ends) (f : Flow) (s' : Shared) : Prop :=
  match f with
  | .next => ∃ σ' H', Inv X pins σ' H' s' ∧ D.nx σ' H'
  | .brk => ∃ σ' H', Inv X pins σ' H' s' ∧ D.bk σ' H'
  | .cont => ∃ σ' H', Inv X pins σ' H' s' ∧ D.ct σ' H'
  | .ret u => ∃ v σ' H', Inv X pins σ' H' s' ∧ RelV v u ∧ D.rt v H'

def PE (X : Cx) (e : Expr) (t : TE) : Prop :=
  ∀ (pins : List (Addr × Obj)) (s : Shared) (σ : St) (H : Hp) (Q : VK), Inv X pins σ H s → t σ H Q → wpAny (model X.prog X.w) X.A (eval e X.env) (EP X pins σ Q) X.xe s
def PT (X : Cx) (e : Expr) (t : TT) : Prop :=
  ∀ (pins : List (Addr × Obj)) (s : Shared) (σ : St) (H : Hp) (Q : Bool → Hp → Prop), Inv X pins σ H s → t σ H Q → wpAny (model X.prog X.w) X.A (isTrue e X.env (eval e X.env)) (TP X pins σ Q) X.xe s
/-- a test whatever its 'whole' is (and, or) -/
def PW (X : Cx) (e : Expr) (t : TT) : Prop :=
  ∀ (whole : Sem Value) (pins : List (Addr × Obj)) (s : Shared) (σ : St) (H : Hp) (Q : Bool → Hp → Prop), Inv X pins σ H s → t σ H Q → wpAny (model X.prog X.w) X.A (isTrue e X.env whole) (TP X pins σ Q) X.xe s
theorem PW.pt {X : Cx} {e : Expr} {t : TT} (h : PW X e t) : PT X e t := h _
/-- an argument list (no star), from the left -/
def PA (X : Cx) (es : List Expr) (t : TA) : Prop :=
  ∀ (pos : Pos) (pins : List (Addr × Obj)) (s : Shared) (σ : St) (H : Hp) (Q : List V → Hp → Prop), Inv X pins σ H s → t σ H Q → wpAny (model X.prog X.w) X.A (spliced (backTo pos (starEach es X.env))) (AP X pins σ Q) X.xe s
def PS (X : Cx) (st : Stmt) (t : TS) : Prop :=
  ∀ (pins : List (Addr × Obj)) (s : Shared) (σ : St) (H : Hp) (D : Ends), Inv X pins σ H s → t D σ H → wpAny (model X.prog X.w) X.A (exec st X.env) (SP X pins D) X.xe s
def PSs (X : Cx) (st : List Stmt) (t : TS) : Prop :=
  ∀ (pins : List (Addr × Obj)) (s : Shared) (σ : St) (H : Hp) (D : Ends), Inv X pins σ H s → t D σ H → wpAny (model X.prog X.w) X.A (execs st X.env) (SP X pins D) X.xe s
/-- weaken the end -/
theorem thn {α : Type} {t : Sem α} {Q Q' : α → Shared → Prop} {M : Model} {A : Around} {E : Value → Shared → Prop} {s : Shared} (h : wpAny M A t Q E s) (hQ : ∀ a s, Q a s → Q' a s) : wpAny M A t Q' E s := wpAny_mono h hQ fun _ _ x => x
end L2

namespace L2
open PySem PySem.Spec PyProof.Rows
section
variable {X : Cx}

/-! ### names and constants -/
def tVar (i : Nat) : TE := fun σ H Q => ∃ v, σ[i]? = some (some v) ∧ Q v H
def tC (v : V) : TE := fun _ H Q => Q v H
theorem pe_var {i : Nat} {x : Str} {pos : Pos} (hN : X.N[i]? = some x) (hv : Vis X.env.scope x) (hd : (x == ("__debug__" : Str)) = false := by decide) (hcd : (x == ("__classdict__" : Str)) = false := by decide) : PE X (.Name x pos) (tVar i) := by
  intro pins s σ H Q I h
  obtain ⟨v, e, h⟩ := h
  obtain ⟨m, hn, hl⟩ := I.loc
  obtain ⟨u, r, l⟩ := hl i x v hN e hv
  have fin : EP X pins σ Q u s := ⟨v, H, I, r, h⟩
  rcases l with ⟨hk, hm⟩ | ⟨hk, c, hc, hcell⟩
  · exact wpAny_Name (wpAny_loadName_local I.ok.kind hk hn hm fin) hd
  · rcases hk with hk | hk
    · exact wpAny_Name (wpAny_loadName_cell I.ok.kind hk hc hcell fin) hd
    · exact wpAny_Name (wpAny_loadName_free I.ok.kind hk hc hcell fin hcd) hd
theorem pe_int {i j pos} : PE X (.Constant (.int i) j pos) (tC (.int i)) := fun _ _ _ H _ I h => wpAny_Constant_int ⟨.int i, H, I.tok _, ⟨_, rfl⟩, h⟩
theorem pe_bl {b j pos} : PE X (.Constant (.bool b) j pos) (tC (.bl b)) := fun _ _ _ H _ I h => Constant_bool ⟨.bl b, H, I, rfl, h⟩
theorem pe_str {x j pos} : PE X (.Constant (.str x) j pos) (tC (.str x)) := fun _ _ _ H _ I h => Calls.Constant_str ⟨.str x, H, I.tok _, ⟨_, rfl⟩, h⟩

/-- a global name of the def -/
def Gl (X : Cx) (x : Str) : Prop := X.env.kindOf x = some .globalImplicit
theorem ld_glob {E : Value → Shared → Prop} {pins : List (Addr × Obj)} {s : Shared} {σ : St} {H : Hp} {x : Str} {u : Value} {pos : Pos} {Q : Value → Shared → Prop} (I : Inv X pins σ H s) (hg : Gl X x) (hm : X.mg x = some u) (h : Q u s)
    (hd : (x == ("__debug__" : Str)) = false := by decide) : wpAny (model X.prog X.w) X.A (eval (.Name x pos) X.env) Q E s :=
  Calls.Name_function_global I.ok.kind hg (Calls.loadGlobal_global (by rw [I.ok.glob]; exact I.mod.glob.keeps I.bk) hm h) hd
theorem ld_blt {E : Value → Shared → Prop} {pins : List (Addr × Obj)} {s : Shared} {σ : St} {H : Hp} {x : Str} {u : Value} {pos : Pos} {Q : Value → Shared → Prop} (I : Inv X pins σ H s) (hg : Gl X x) (hm : X.mg x = none) (hv : bootBuiltins x = some u) (h : Q u s)
    (hn : x ≠ "__name__" := by decide) (hd : (x == ("__debug__" : Str)) = false := by decide) : wpAny (model X.prog X.w) X.A (eval (.Name x pos) X.env) Q E s := by
  obtain ⟨mb, h1, h2⟩ := I.mod.blt
  exact Calls.Name_function_global I.ok.kind hg (Calls.loadGlobal_builtin (by rw [I.ok.glob]; exact I.mod.glob.keeps I.bk) hm (by rw [I.ok.blt]; exact h1.keeps I.bk) ((h2 x hn).trans hv) h) hd
/-! ### arithmetic -/
/-- two ints -/
def t2I (ta tb : TE) (k : Int → Int → Hp → Prop) : St → Hp → Prop := fun σ H => ta σ H fun x H1 => tb σ H1 fun y H2 => ∃ i j, x = .int i ∧ y = .int j ∧ k i j H2
def tAdd (ta tb : TE) : TE := fun σ H Q => t2I ta tb (fun i j H2 => Q (.int (i + j)) H2) σ H
def tSub (ta tb : TE) : TE := fun σ H Q => t2I ta tb (fun i j H2 => Q (.int (i - j)) H2) σ H
/-- the left factor below 2^64 -/
def tMul (ta tb : TE) : TE := fun σ H Q => t2I ta tb (fun i j H2 => (-(2 ^ 64) < i ∧ i < 2 ^ 64) ∧ Q (.int (i * j)) H2) σ H
variable {a b : Expr} {ta tb : TE} {pos : Pos}
/-! ### comparisons -/
def PC (X : Cx) (op : CmpOp) (a b : Expr) (t : TE) : Prop :=
  ∀ (pins : List (Addr × Obj)) (s : Shared) (σ : St) (H : Hp) (Q : VK), Inv X pins σ H s → t σ H Q →
    wpAny (model X.prog X.w) X.A (eval a X.env) (fun v s₁ => wpAny (model X.prog X.w) X.A (eval b X.env) (fun u s₂ => wpAny (model X.prog X.w) X.A (compareOp op v u) (EP X pins σ Q) X.xe s₂) X.xe s₁) X.xe s
def tCmp (p : Int → Int → Bool) (ta tb : TE) : TE := fun σ H Q => t2I ta tb (fun i j H2 => Q (.bl (p i j)) H2) σ H
abbrev tLt : TE → TE → TE := tCmp fun i j => decide (i < j)
abbrev tLe : TE → TE → TE := tCmp fun i j => decide (i ≤ j)
abbrev tGt : TE → TE → TE := tCmp fun i j => decide (j < i)
abbrev tGe : TE → TE → TE := tCmp fun i j => decide (j ≤ i)
abbrev tEqI : TE → TE → TE := tCmp fun i j => decide (i = j)
abbrev tNeI : TE → TE → TE := tCmp fun i j => !decide (i = j)
/-- is None -/
def tIsN (ta : TE) : TE := fun σ H Q => ta σ H fun x H1 => Q (.bl (decide (x = .non))) H1
def tNotN (ta : TE) : TE := fun σ H Q => ta σ H fun x H1 => Q (.bl (!decide (x = .non))) H1
/-- a comparison as a value, as a test -/
def tB (t : TE) : TT := fun σ H Q => t σ H fun x H1 => ∃ c, x = .bl c ∧ Q c H1
/-! ### and, or, not -/
variable {tA tB' : TT} {rest : List Expr}
def tAnd (t u : TT) : TT := fun σ H Q => t σ H fun c H1 => if c = true then u σ H1 Q else Q false H1
def tOr (t u : TT) : TT := fun σ H Q => t σ H fun c H1 => if c = true then Q true H1 else u σ H1 Q
def tNot (t : TT) : TT := fun σ H Q => t σ H fun c H1 => Q (!c) H1
theorem pw_or1 (ha : PT X a tA) : PW X (.BoolOp .Or [a] pos) tA := by
  intro wh pins s σ H Q I h
  refine isTrue_or (thn (ha pins s σ H Q I h) fun c s1 e => ?_)
  cases c with
  | false => exact isTrue_or_nil e
  | true => exact e
theorem pw_or (ha : PT X a tA) (hb : PW X (.BoolOp .Or (b :: rest) pos) tB') : PW X (.BoolOp .Or (a :: b :: rest) pos) (tOr tA tB') := by
  intro wh pins s σ H Q I h
  refine isTrue_or (thn (ha pins s σ H _ I h) fun c s1 ⟨H1, I1, q1⟩ => ?_)
  cases c with
  | true => exact ⟨H1, I1, q1⟩
  | false => exact hb wh pins s1 σ H1 Q I1 q1
/-- .. as values (bools) -/
def tAndV (ta tb : TE) : TE := fun σ H Q => ta σ H fun x H1 => ∃ c, x = .bl c ∧ if c = true then tb σ H1 Q else Q (.bl false) H1
def tOrV (ta tb : TE) : TE := fun σ H Q => ta σ H fun x H1 => ∃ c, x = .bl c ∧ if c = true then Q (.bl true) H1 else tb σ H1 Q
def tNotV (ta : TE) : TE := fun σ H Q => ta σ H fun x H1 => ∃ c, x = .bl c ∧ Q (.bl (!c)) H1
theorem pe_one {op} {t : TE} (h : PE X a t) : PE X (.BoolOp op [a] pos) t := fun pins s σ H Q I hw => BoolOp_one (h pins s σ H Q I hw)
theorem pe_and (ha : PE X a ta) (hb : PE X (.BoolOp .And (b :: rest) pos) tb) : PE X (.BoolOp .And (a :: b :: rest) pos) (tAndV ta tb) := by
  intro pins s σ H Q I h
  refine BoolOp_and (thn (ha pins s σ H _ I h) fun v s1 ⟨x, H1, I1, r1, q1⟩ => ?_)
  obtain ⟨c, rfl, q1⟩ := q1
  cases r1
  refine wpAny_truthy_bool ?_
  cases c with
  | true => exact hb pins s1 σ H1 Q I1 q1
  | false => exact ⟨.bl false, H1, I1, rfl, q1⟩
/-- a if t else b -/
def tIf (t : TT) (ta tb : TE) : TE := fun σ H Q => t σ H fun c H1 => if c = true then ta σ H1 Q else tb σ H1 Q
end
end L2

namespace L2
open PySem PySem.Spec PyProof.Rows

/-! ### a list, a tuple that is read: tracked, frozen, or an object of the module -/
def SqL (K : PySem.W.Frag) (H : Hp) (a : Addr) (xs : List V) : Prop :=
  Rd H a (.lst xs) ∨
    ∃ (o : Obj) (its : Array Value) (n : Nat), K.lookup a = some o ∧ o.cls = .type "list" ∧ o.dict = none ∧ o.data = .seq its n ∧ its.size ≤ sizeLine ∧ Vals xs its.toList
def SqT (K : PySem.W.Frag) (H : Hp) (a : Addr) (xs : List V) : Prop :=
  Rd H a (.tup xs) ∨
    ∃ (o : Obj) (its : Array Value) (n : Nat), K.lookup a = some o ∧ o.cls = .type "tuple" ∧ o.data = .seq its n ∧ its.size ≤ sizeLine ∧ Vals xs its.toList
def absV : Value → Option V
  | .none => some .non
  | .bool b => some (.bl b)
  | .int i _ => some (.int i)
  | .str x _ => some (.str x)
  | .bytes b _ => some (.byt b)
  | .float b _ => some (.flt b)
  | .ref a => some (.ref a)
  | .type n => some (.ty n)
  | _ => none
theorem RelV.abs {x : V} {u : Value} (r : RelV x u) : absV u = some x := by
  cases x with
  | non => cases r; rfl
  | bl _ => cases r; rfl
  | int _ => obtain ⟨t, rfl⟩ := r; rfl
  | str _ => obtain ⟨t, rfl⟩ := r; rfl
  | byt _ => obtain ⟨t, rfl⟩ := r; rfl
  | flt _ => obtain ⟨t, rfl⟩ := r; rfl
  | ref _ => cases r; rfl
  | ty _ => cases r; rfl
theorem RelV.inj {x y : V} {u : Value} (r : RelV x u) (q : RelV y u) : x = y := Option.some.inj (r.abs.symm.trans q.abs)
theorem Vals.inj : ∀ {xs ys : List V} {us : List Value}, Vals xs us → Vals ys us → xs = ys
  | _, _, _, .nil, .nil => rfl
  | _, _, _, .cons r t, .cons r' t' => by rw [r.inj r', Vals.inj t t']
section
variable {X : Cx} {pins : List (Addr × Obj)} {σ : St} {H : Hp} {s : Shared} {a : Addr} {xs ys : List V}
theorem SqL.of {K : PySem.W.Frag} (h : H a = some (.lst xs)) : SqL K H a xs := .inl (.inl h)
theorem SqT.of {K : PySem.W.Frag} (h : H a = some (.tup xs)) : SqT K H a xs := .inl (.inl h)
theorem Inv.list (I : Inv X pins σ H s) (h : SqL X.K H a xs) : ∃ its : List Value, Vals xs its ∧ PlainL s.heap a its.toArray ∧ xs.length ≤ sizeLine := by
  rcases h with h | ⟨o, its, n, hk, hc, hd, hs, hz, r⟩
  · obtain ⟨z, its, n, r, e⟩ := h.ok I.hok
    exact ⟨its, r, ⟨_, n, e, rfl, rfl, rfl⟩, z⟩
  · refine ⟨its.toList, r, ⟨o, n, I.kIn a o hk, hc, hd, by simpa using hs⟩, ?_⟩
    have e := r.length
    simp only [Array.length_toList] at e
    omega
theorem Inv.tuple (I : Inv X pins σ H s) (h : SqT X.K H a xs) : ∃ its : List Value, Vals xs its ∧ IsTup s.heap a its.toArray ∧ xs.length ≤ sizeLine := by
  rcases h with h | ⟨o, its, n, hk, hc, hs, hz, r⟩
  · obtain ⟨z, its, r, p⟩ := h.ok I.hok
    exact ⟨its, r, p, z⟩
  · refine ⟨its.toList, r, ⟨o, I.kIn a o hk, hc, n, by simpa using hs⟩, ?_⟩
    have e := r.length
    simp only [Array.length_toList] at e
    omega
theorem Inv.list_inj (I : Inv X pins σ H s) (h : SqL X.K H a xs) (h' : SqL X.K H a ys) : xs = ys := by
  obtain ⟨its, r, ⟨o, n, e, _, _, d⟩, _⟩ := I.list h
  obtain ⟨its', r', ⟨o', n', e', _, _, d'⟩, _⟩ := I.list h'
  rw [e] at e'; cases e'
  rw [d] at d'
  injection d' with d1 _
  have : its = its' := by simpa using congrArg Array.toList d1
  subst this
  exact r.inj r'
theorem Inv.tuple_inj (I : Inv X pins σ H s) (h : SqT X.K H a xs) (h' : SqT X.K H a ys) : xs = ys := by
  obtain ⟨its, r, ⟨o, e, _, n, d⟩, _⟩ := I.tuple h
  obtain ⟨its', r', ⟨o', e', _, n', d'⟩, _⟩ := I.tuple h'
  rw [e] at e'; cases e'
  rw [d] at d'
  injection d' with d1 _
  have : its = its' := by simpa using congrArg Array.toList d1
  subst this
  exact r.inj r'
end

/-! ### another wish about exceptions -/
abbrev Cx.wish (X : Cx) (E : Value → Shared → Prop) : Cx := { X with xe := E }
/-- no exception leaves -/
abbrev Cx.nox (X : Cx) : Cx := X.wish fun _ _ => False
theorem Cx.Ok.wish {X : Cx} (ok : X.Ok) (E : Value → Shared → Prop) : (X.wish E).Ok :=
  ⟨ok.mod, ok.kind, ok.glob, ok.blt, ok.above, ok.inj, ok.has, ok.cab, ok.hd, ok.frames, ok.stk, ok.exf, ok.bs, ok.bsz, ok.noex, ok.exfs, ok.funs, ok.frf⟩
theorem Cx.Ok.unwish {X : Cx} {E : Value → Shared → Prop} (ok : (X.wish E).Ok) : X.Ok :=
  ⟨ok.mod, ok.kind, ok.glob, ok.blt, ok.above, ok.inj, ok.has, ok.cab, ok.hd, ok.frames, ok.stk, ok.exf, ok.bs, ok.bsz, ok.noex, ok.exfs, ok.funs, ok.frf⟩
section
variable {X : Cx} {pins : List (Addr × Obj)} {σ : St} {H : Hp} {s : Shared} {E : Value → Shared → Prop}
theorem Inv.wish (I : Inv X pins σ H s) (E : Value → Shared → Prop) : Inv (X.wish E) pins σ H s := ⟨I.ok.wish E, I.os, I.bare, I.base, I.loc, I.cell, I.free, I.freeC, I.pin, I.hok, I.len⟩
theorem Inv.unwish (I : Inv (X.wish E) pins σ H s) : Inv X pins σ H s := ⟨I.ok.unwish, I.os, I.bare, I.base, I.loc, I.cell, I.free, I.freeC, I.pin, I.hok, I.len⟩
theorem SP.unwish {D : Ends} {f : Flow} {s' : Shared} (h : SP (X.wish E) pins D f s') : SP X pins D f s' := by
  cases f with
  | next => obtain ⟨σ', H', I, q⟩ := h; exact ⟨σ', H', I.unwish, q⟩
  | brk => obtain ⟨σ', H', I, q⟩ := h; exact ⟨σ', H', I.unwish, q⟩
  | cont => obtain ⟨σ', H', I, q⟩ := h; exact ⟨σ', H', I.unwish, q⟩
  | ret u => obtain ⟨v, σ', H', I, r, q⟩ := h; exact ⟨v, σ', H', I.unwish, r, q⟩
theorem PSs.nox {st : List Stmt} {t : TS} (h : PSs X.nox st t) : PSs X st t := fun pins s σ H D I hw =>
  wpAny_mono (h pins s σ H D (I.wish _) hw) (fun _ _ q => q.unwish) fun _ _ z => False.elim z
end

/-! ### blocks and small statements -/
section
variable {X : Cx} {st : Stmt} {rest : List Stmt} {t u : TS} {e : Expr} {te : TE} {pos : Pos}
def tNext : TS := fun D σ H => D.nx σ H
def tSeq (t u : TS) : TS := fun D σ H => t { D with nx := u D } σ H
theorem pss_nil : PSs X [] tNext := fun _ _ σ H _ I h => wpAny_execs_nil ⟨σ, H, I, h⟩
theorem pss_cons (h1 : PS X st t) (h2 : PSs X rest u) : PSs X (st :: rest) (tSeq t u) := by
  intro pins s σ H D I h
  refine wpAny_execs_cons (thn (h1 pins s σ H { D with nx := u D } I h) fun f s1 q => ?_)
  cases f with
  | next =>
    obtain ⟨σ', H', I', q⟩ := q
    exact h2 pins s1 σ' H' D I' q
  | ret v => exact q
  | brk => exact q
  | cont => exact q
theorem pss_one (h1 : PS X st t) : PSs X [st] t := by
  intro pins s σ H D I h
  refine wpAny_execs_cons (thn (h1 pins s σ H D I h) fun f s1 q => ?_)
  cases f with
  | next => exact wpAny_execs_nil q
  | ret v => exact q
  | brk => exact q
  | cont => exact q
def tBreak : TS := fun D σ H => D.bk σ H
def tCont : TS := fun D σ H => D.ct σ H
/-- in a def's body nothing is shown -/
theorem Inv.quiet {pins : List (Addr × Obj)} {σ : St} {H : Hp} {s : Shared} (I : Inv X pins σ H s) : interactive X.env = false := by simp [interactive, I.ok.kind]
/-- an expression whose value is dropped -/
def tDrop (te : TE) : TS := fun D σ H => te σ H fun _ H1 => D.nx σ H1
theorem ps_expr (he : PE X e te) (hs : swapsWith e none pos.line X.env = pure false := by rfl) : PS X (.Expr e pos) (tDrop te) := by
  intro pins s σ H D I h
  exact wpAny_Expr_any (thn (he pins s σ H _ I h) fun v s1 ⟨x, H1, I1, r1, q1⟩ => ⟨σ, H1, I1, q1⟩) I.quiet hs
def tRet (te : TE) : TS := fun D σ H => te σ H D.rt
theorem ps_ret (he : PE X e te) : PS X (.Return (some e) pos) (tRet te) := by
  intro pins s σ H D I h
  exact wpAny_Return_some (thn (he pins s σ H _ I h) fun v s1 ⟨x, H1, I1, r1, q1⟩ => ⟨x, σ, H1, I1, r1, q1⟩)
def tRetN : TS := fun D _ H => D.rt .non H
def tIfS (c : TT) (t u : TS) : TS := fun D σ H => c σ H fun b H1 => if b = true then t D σ H1 else u D σ H1
theorem ps_if {c : Expr} {a b : List Stmt} {tc : TT} (hc : PT X c tc) (ha : PSs X a t) (hb : PSs X b u) : PS X (.If c a b pos) (tIfS tc t u) := by
  intro pins s σ H D I h
  refine wpAny_If (thn (hc pins s σ H _ I h) fun d s1 ⟨H1, I1, q1⟩ => ?_)
  cases d with
  | true => exact ha pins s1 σ H1 D I1 q1
  | false => exact hb pins s1 σ H1 D I1 q1
/-- code that the proof never comes to -/
def tNever : TS := fun _ _ _ => False
end

/-! ### targets -/
abbrev TG := V → St → Hp → (St → Hp → Prop) → Prop
abbrev TGs := List V → St → Hp → (St → Hp → Prop) → Prop
def PG (X : Cx) (target : Expr) (t : TG) : Prop :=
  ∀ (pins : List (Addr × Obj)) (s : Shared) (σ : St) (H : Hp) (v : V) (u : Value) (Q : St → Hp → Prop), Inv X pins σ H s → RelV v u → t v σ H Q →
    wpAny (model X.prog X.w) X.A (assign target X.env u) (fun _ s' => ∃ σ' H', Inv X pins σ' H' s' ∧ Q σ' H') X.xe s
/-- several targets, one after another -/
def PGs (X : Cx) (ts : List Expr) (t : TGs) : Prop :=
  ∀ (pins : List (Addr × Obj)) (s : Shared) (σ : St) (H : Hp) (vs : List V) (us : List Value) (Q : St → Hp → Prop), Inv X pins σ H s → Vals vs us → t vs σ H Q →
    wpAny (model X.prog X.w) X.A (assignInOrder ((assignEach ts X.env).map (·.2)) us) (fun _ s' => ∃ σ' H', Inv X pins σ' H' s' ∧ Q σ' H') X.xe s
/-- o[i] = v, by values -/
abbrev TSet := V → V → V → Hp → (Hp → Prop) → Prop
def PSet (X : Cx) (t : TSet) : Prop :=
  ∀ (pins : List (Addr × Obj)) (s : Shared) (σ : St) (H : Hp) (o i v : V) (ov iv u : Value) (Q : Hp → Prop), Inv X pins σ H s → RelV o ov → RelV i iv → RelV v u → t o i v H Q →
    wpAny (model X.prog X.w) X.A (setItem ov iv u) (fun _ s' => ∃ H', Inv X pins σ H' s' ∧ Q H') X.xe s
/-- a op= b, by values -/
abbrev TIp := V → V → Hp → VK → Prop
def PIp (X : Cx) (op : Operator) (t : TIp) : Prop :=
  ∀ (pins : List (Addr × Obj)) (s : Shared) (σ : St) (H : Hp) (x y : V) (v u : Value) (Q : VK), Inv X pins σ H s → RelV x v → RelV y u → t x y H Q →
    wpAny (model X.prog X.w) X.A (inplaceOp op v u) (EP X pins σ Q) X.xe s
section
variable {X : Cx} {pos : Pos}
def gName (i : Nat) : TG := fun v σ H Q => Q (σ.set i (some v)) H
theorem pg_name {i : Nat} {x : Str} (hN : X.N.Nodup) (hi : X.N[i]? = some x) (hx : Loc X.env.scope x) (hf : X.fn x = true ∨ X.env.scope.names.lookup x = some .local := by first | exact .inl rfl | exact .inr rfl | assumption) : PG X (.Name x pos) (gName i) := by
  intro pins s σ H v u Q I r h
  exact wpAny_assign_Name (store_ok I hN hi hx r (fun s' I' => ⟨_, H, I', h⟩) hf)
def gNil : TGs := fun vs σ H Q => vs = [] ∧ Q σ H
def gCons (t : TG) (u : TGs) : TGs := fun vs σ H Q => ∃ v r, vs = v :: r ∧ t v σ H fun σ' H' => u r σ' H' Q
theorem pgs_nil : PGs X [] gNil := by
  intro pins s σ H vs us Q I r h
  obtain ⟨e, h⟩ := h
  subst e
  cases r
  exact assignInOrder_nil ⟨σ, H, I, h⟩
theorem pgs_cons {e : Expr} {es : List Expr} {t : TG} {u : TGs} (h1 : PG X e t) (h2 : PGs X es u)
    (hs : (assignEach (e :: es) X.env).map (·.2) = assign e X.env :: (assignEach es X.env).map (·.2) := by rfl) : PGs X (e :: es) (gCons t u) := by
  intro pins s σ H vs us Q I r h
  obtain ⟨v, vr, e1, h⟩ := h
  subst e1
  cases r with
  | cons r rr =>
    rw [hs]
    refine assignInOrder_cons (thn (h1 pins s σ H _ _ _ I r h) fun _ s1 ⟨σ1, H1, I1, q1⟩ => ?_)
    exact h2 pins s1 σ1 H1 _ _ Q I1 rr q1
/-- (a, b, ..) = a tuple of that length -/
def gTup (K : PySem.W.Frag) (n : Nat) (t : TGs) : TG := fun v σ H Q => ∃ a xs, v = .ref a ∧ SqT K H a xs ∧ xs.length = n ∧ t xs σ H Q
theorem pg_tup {es : List Expr} {k : Nat} {t : TGs} {n : Nat} (hc : X.calm = true) (h : PGs X es t)
    (hn : (assignEach es X.env).length = n := by rfl) (hst : (assignEach es X.env).findIdx? (·.1) = none := by rfl) : PG X (.Tuple es k pos) (gTup X.K n t) := by
  intro pins s σ H v u Q I r hw
  obtain ⟨a, xs, e1, hq, hl, hw⟩ := hw
  subst e1
  cases r
  obtain ⟨its, rv, ht, hz⟩ := I.tuple hq
  refine assign_Tuple_tuple (I.ok.hd hc) ht (by simp [hn, ← hl, rv.length]) hst fun h' hx => ?_
  have I1 : Inv X pins σ H { s with heap := h' } := I.kept (t' := s.toks) fun b o e => hx b o (Nat.ne_of_lt (Heap.lt_size e)) e
  exact h pins _ σ H xs _ Q I1 (by simpa using rv) hw
/-- o[i] = .. -/
def gSub (to ti : TE) (t : TSet) : TG := fun v σ H Q => to σ H fun o H1 => ti σ H1 fun i H2 => t o i v H2 fun H3 => Q σ H3
/-- target = value -/
def tAsg (te : TE) (g : TG) : TS := fun D σ H => te σ H fun x H1 => g x σ H1 D.nx
/-- name = value -/
theorem ps_set {i : Nat} {x : Str} {e : Expr} {te : TE} {pos' : Pos} (hN : X.N.Nodup) (hi : X.N[i]? = some x) (hx : Loc X.env.scope x) (he : PE X e te) (hs : swapsWith e (some (.Name x pos')) pos.line X.env = pure false := by rfl) (hf : X.fn x = true ∨ X.env.scope.names.lookup x = some .local := by first | exact .inl rfl | exact .inr rfl | assumption) :
    PS X (.Assign [.Name x pos'] e pos) (tAsg te (gName i)) := by
  intro pins s σ H D I h
  refine wpAny_Assign_Name (thn (he pins s σ H _ I h) fun v s1 ⟨y, H1, I1, r1, q1⟩ => ?_) hs
  exact store_ok I1 hN hi hx r1 (fun s2 I2 => ⟨_, H1, I2, q1⟩) hf
/-- a, b = x, y with plain local names: stored from the right; the pair itself is not tracked (the opening rows as in PyProof/Rows/TupAssign.lean:23) -/
def tPar (i j : Nat) (ta : TA) : TS := fun D σ H => ta σ H fun vs H1 => ∃ v w, vs = [v, w] ∧ D.nx ((σ.set i (some v)).set j (some w)) H1
/-- name op= e -/
def tAug (i : Nat) (te : TE) (ti : TIp) : TS := fun D σ H => ∃ x, σ[i]? = some (some x) ∧ te σ H fun y H1 => ti x y H1 fun z H2 => D.nx (σ.set i (some z)) H2
/-- o[i] op= e -/
def tAugS (to ti te : TE) (tget : V → V → Hp → VK → Prop) (tip : TIp) (tset : TSet) : TS := fun D σ H => to σ H fun o H1 => ti σ H1 fun i H2 => tget o i H2 fun x H3 => te σ H3 fun y H4 => tip x y H4 fun z H5 => tset o i z H5 fun H6 => D.nx σ H6
/-- o[i], by values -/
def PGet (X : Cx) (t : V → V → Hp → VK → Prop) : Prop :=
  ∀ (pins : List (Addr × Obj)) (s : Shared) (σ : St) (H : Hp) (o i : V) (ov iv : Value) (Q : VK), Inv X pins σ H s → RelV o ov → RelV i iv → t o i H Q →
    wpAny (model X.prog X.w) X.A (getItem ov iv) (EP X pins σ Q) X.xe s
/-- ints -/
def ipI (f : Int → Int → Int) : TIp := fun x y H Q => ∃ i j, x = .int i ∧ y = .int j ∧ Q (.int (f i j)) H
end

/-! ### while -/
section
variable {X : Cx} {pos : Pos}
/-- the invariant W with its measure -/
def tWhile (c : TT) (tb : TS) : TS := fun D σ H => ∃ W : Nat → St → Hp → Prop, (∃ m, W m σ H) ∧ ∀ m σ H, W m σ H →
  c σ H fun b H1 => if b = true then ∃ N : St → Hp → Prop, (∀ σ' H', N σ' H' → ∃ m', m' < m ∧ W m' σ' H') ∧ tb { D with nx := N, ct := N, bk := D.nx } σ H1 else D.nx σ H1
theorem ps_while {c : Expr} {body : List Stmt} {tc : TT} {tb : TS} (hp : PassesOwn (model X.prog X.w) X.A X.env X.xe) (hc : PT X c tc) (hb : PSs X body tb) : PS X (.While c body [] pos) (tWhile tc tb) := by
  intro pins s σ H D I h
  obtain ⟨W, ⟨m0, w0⟩, turn⟩ := h
  refine wpAny_While (codeAny_whileLoop (fun n s' => ∃ σ' H', Inv X pins σ' H' s' ∧ W n σ' H') ?_ m0 ⟨σ, H, I, w0⟩)
  rintro n s1 ⟨σ1, H1, I1, w1⟩
  refine wpAny_passesOwn hp (thn (hc pins s1 σ1 H1 _ I1 (turn n σ1 H1 w1)) fun b s2 ⟨H2, I2, q2⟩ => ?_)
  cases b with
  | true =>
    obtain ⟨N, hN, q2⟩ := q2
    rw [if_pos rfl]
    refine wpAny_passesOwn hp (thn (hb pins s2 σ1 H2 _ I2 q2) fun f s3 q3 => ?_)
    cases f with
    | next =>
      obtain ⟨σ3, H3, I3, n3⟩ := q3
      obtain ⟨m', hm, w3⟩ := hN σ3 H3 n3
      exact ⟨m', hm, σ3, H3, I3, w3⟩
    | cont =>
      obtain ⟨σ3, H3, I3, n3⟩ := q3
      obtain ⟨m', hm, w3⟩ := hN σ3 H3 n3
      exact ⟨m', hm, σ3, H3, I3, w3⟩
    | brk => exact q3
    | ret v => exact q3
  | false =>
    rw [if_neg Bool.false_ne_true]
    exact wpAny_execs_nil ⟨σ1, H2, I2, q2⟩
end

/-! ### what a loop or a comprehension walks -/
/-- at turn i: it yields x (the heap may grow), or it stops -/
structure It where
  go : Nat → Hp → Prop
  yld : Nat → Hp → V → Hp → Prop
  stop : Nat → Hp → Prop
/-- the iterator's own objects may turn: they are not the frame's, not pinned, younger than the entry (or a comprehension's own) -/
def FpOk (X : Cx) (pins : List (Addr × Obj)) (H : Hp) (b : Addr) : Prop :=
  H b = none ∧ b ≠ X.env.locals ∧ b ∉ X.fs ∧ (b ∈ X.ex ∨ X.s₀.heap.objs.size ≤ b) ∧ (∀ x c, X.env.cells.lookup x = some c → c ≠ b) ∧ ∀ p ∈ X.pn ++ pins, p.1 ≠ b
theorem Inv.fpOk {X : Cx} {pins : List (Addr × Obj)} {σ : St} {H H' : Hp} {s : Shared} {b : Addr} (I : Inv X pins σ H s) (hb : s.heap.objs.size ≤ b) (hn : H' b = none) : FpOk X pins H' b := by
  refine ⟨hn, Nat.ne_of_gt (Nat.lt_of_lt_of_le I.lt hb), I.nofs hb, .inr (Nat.le_trans I.sz hb), fun x c e z => ?_, fun p hp z => ?_⟩
  · obtain ⟨v, q⟩ := I.cell x c e
    exact absurd (Nat.lt_of_lt_of_le q.lt (by rw [z]; exact hb)) (Nat.lt_irrefl _)
  · exact absurd (Nat.lt_of_lt_of_le (Heap.lt_size (I.pin p hp).1) (by rw [z]; exact hb)) (Nat.lt_irrefl _)
structure Turn (P : Program) (w : World) (K : PySem.W.Frag) (tg : Expr) (J : It) (fp : List Addr) (it : Addr) (tn : Nat → Heap → Prop) : Prop where
  mem : it ∈ fp
  obj : ∀ i h, tn i h → ∀ b ∈ fp, ∃ o, h.get? b = some o ∧ ∀ v, o.data ≠ .cell v
  keep : ∀ i h h', tn i h → (∀ b ∈ fp, ∀ o, h.get? b = some o → h'.get? b = some o) → tn i h'
  item : ∀ (X : Cx), X.prog = P → X.w = w → X.K = K → X.calm = true → ∀ (i : Nat) (pins : List (Addr × Obj)) (s : Shared) (σ : St) (H : Hp) (E : Value → Shared → Prop), Inv X pins σ H s → (∀ b ∈ fp, FpOk X pins H b) → tn i s.heap → J.go i H →
    wpAny (model P w) X.A (pyNext (.ref it)) (fun r s1 => ∃ u, r = some u ∧
      wpAny (model P w) X.A (letOwnedTupleGo tg (.ref it) u) (fun _ s2 => ∃ x H', Inv X pins σ H' s2 ∧ RelV x u ∧ J.yld i H x H' ∧ tn (i + 1) s2.heap ∧ ∀ b ∈ fp, H' b = none) E s1) E s
  done : ∀ (X : Cx), X.prog = P → X.w = w → X.K = K → X.calm = true → ∀ (i : Nat) (pins : List (Addr × Obj)) (s : Shared) (σ : St) (H : Hp) (E : Value → Shared → Prop), Inv X pins σ H s → (∀ b ∈ fp, FpOk X pins H b) → tn i s.heap → J.stop i H →
    wpAny (model P w) X.A (pyNext (.ref it)) (fun r s1 => r = none ∧ Inv X pins σ H s1) E s
  self : ∀ (A : Around) (i : Nat) (s : Shared) (Q : Value → Shared → Prop) (E : Value → Shared → Prop), tn i s.heap → Q (.ref it) s → wpAny (model P w) A (pyIter (.ref it)) Q E s
abbrev TI := St → Hp → (It → Hp → Prop) → Prop
/-- an iterator has come -/
def PIE (X : Cx) (pins : List (Addr × Obj)) (σ : St) (tg : Expr) (R : It → Hp → Prop) (itv : Value) (s2 : Shared) : Prop :=
  ∃ (it : Addr) (fp : List Addr) (tn : Nat → Heap → Prop) (J : It) (H' : Hp), itv = .ref it ∧ Inv X pins σ H' s2 ∧ Turn X.prog X.w X.K tg J fp it tn ∧ tn 0 s2.heap ∧ (∀ b ∈ fp, FpOk X pins H' b) ∧ R J H'
def PI (X : Cx) (tg iter : Expr) (wi : TI) : Prop :=
  ∀ (pins : List (Addr × Obj)) (s : Shared) (σ : St) (H : Hp) (R : It → Hp → Prop), Inv X pins σ H s → wi σ H R →
    wpAny (model X.prog X.w) X.A (eval iter X.env) (fun v s1 => wpAny (model X.prog X.w) X.A (pyIter v) (PIE X pins σ tg R) X.xe s1) X.xe s

/-- the step ahead of the store is nothing for an iterator that keeps no tuple -/
theorem go_of {M : Model} {A : Around} {E : Value → Shared → Prop} {s : Shared} {tg : Expr} {it : Addr} {u : Value} {o : Obj} {n : String} {vs : Array Value} {Q : Unit → Shared → Prop} (ho : s.heap.get? it = some o) (hc : o.cls = .type n) (hd : o.data = .fields vs)
    (hn : ["enumerate", "zip", "dict_itemiterator", "dict_reverseitemiterator", "odict_iterator", "itertools.zip_longest", "itertools.pairwise"].contains n = false) (hQ : Q () s) : wpAny M A (letOwnedTupleGo tg (.ref it) u) Q E s := by
  unfold letOwnedTupleGo
  cases tg <;> first
    | exact wpAny_pure hQ
    | (cases u <;> first
        | exact wpAny_pure hQ
        | (refine wpAny_bind (wpAny_load ho ?_)
           rw [hc, hd]
           show wpAny M A (if (["enumerate", "zip", "dict_itemiterator", "dict_reverseitemiterator", "odict_iterator", "itertools.zip_longest", "itertools.pairwise"].contains n && vs[0]? == some (rawInt _)) = true then _ else _) Q E s
           rw [if_neg (by intro h; rw [hn, Bool.false_and] at h; cases h)]
           exact wpAny_pure hQ))

/-- the list at a, as it stands at each turn (a loop may append to it) -/
def Itl (K : PySem.W.Frag) (a : Addr) : It :=
  ⟨fun i H => ∃ xs x, SqL K H a xs ∧ xs[i]? = some x, fun i H x H' => H' = H ∧ ∀ xs, SqL K H a xs → xs[i]? = some x, fun i H => ∃ xs, SqL K H a xs ∧ xs.length ≤ i⟩
def Itt (K : PySem.W.Frag) (a : Addr) : It :=
  ⟨fun i H => ∃ xs x, SqT K H a xs ∧ xs[i]? = some x, fun i H x H' => H' = H ∧ ∀ xs, SqT K H a xs → xs[i]? = some x, fun i H => ∃ xs, SqT K H a xs ∧ xs.length ≤ i⟩
/-- lo, lo + 1, .. (n of them) -/
def Itr (lo : Int) (n : Nat) : It := ⟨fun i _ => i < n, fun i H x H' => H' = H ∧ x = .int (lo + i), fun i _ => n ≤ i⟩
theorem turn_list {P : Program} {w : World} {K : PySem.W.Frag} {tg : Expr} (a it : Addr) : Turn P w K tg (Itl K a) [it] it (fun i h => h.IsListIter it a i) where
  mem := by simp
  obj := fun i h st b hb => by
    have e : b = it := by simpa using hb
    subst e
    obtain ⟨o, e, c, d⟩ := st
    exact ⟨o, e, fun v z => by rw [d] at z; cases z⟩
  keep := fun i h h' st k => st.at fun o e => k it (by simp) o e
  item := by
    intro X hP hw hK hc i pins s σ H E I hf st hg
    subst hP hw hK
    obtain ⟨xs, x, hq, hx⟩ := hg
    obtain ⟨its, rv, p, hz⟩ := I.list hq
    obtain ⟨u, hu, ru⟩ := rv.get hx
    obtain ⟨f0, f1, f2, f3, f4, f5⟩ := hf it (by simp)
    refine wpAny_pyNext_list_item st p.isList (x := u) (by simpa using hu) fun h' st' sb => ?_
    have I1 : Inv X pins σ H { s with heap := h' } := I.turned (t' := s.toks) (fun b o hb e => (sb.2 b hb).trans e) f0 f1 f3 f4 f5
    obtain ⟨o, e, c, d⟩ := id st'
    exact ⟨u, rfl, go_of (s := { s with heap := h' }) e c d (by decide) ⟨x, H, I1, ru, ⟨rfl, fun ys hy => by rw [I.list_inj hy hq]; exact hx⟩, st', fun b hb => (hf b hb).1⟩⟩
  done := by
    intro X hP hw hK hc i pins s σ H E I hf st hg
    subst hP hw hK
    obtain ⟨xs, hq, hx⟩ := hg
    obtain ⟨its, rv, p, hz⟩ := I.list hq
    obtain ⟨f0, f1, f2, f3, f4, f5⟩ := hf it (by simp)
    have hl := rv.length
    exact wpAny_pyNext_list_end (I.ok.hd hc) st p.isList (by simp; omega) fun h' eb => ⟨rfl, I.turned (t' := s.toks) (fun b o hb e => eb b o hb e) f0 f1 f3 f4 f5⟩
  self := fun _ _ _ _ _ st h => wpAny_pyIter_listiter st h
theorem turn_tuple {P : Program} {w : World} {K : PySem.W.Frag} {tg : Expr} (a it : Addr) : Turn P w K tg (Itt K a) [it] it (fun i h => h.IsTupleIter it a i) where
  mem := by simp
  obj := fun i h st b hb => by
    have e : b = it := by simpa using hb
    subst e
    obtain ⟨o, e, c, d⟩ := st
    exact ⟨o, e, fun v z => by rw [d] at z; cases z⟩
  keep := fun i h h' st k => st.at fun o e => k it (by simp) o e
  item := by
    intro X hP hw hK hc i pins s σ H E I hf st hg
    subst hP hw hK
    obtain ⟨xs, x, hq, hx⟩ := hg
    obtain ⟨its, rv, p, hz⟩ := I.tuple hq
    obtain ⟨u, hu, ru⟩ := rv.get hx
    obtain ⟨f0, f1, f2, f3, f4, f5⟩ := hf it (by simp)
    refine wpAny_pyNext_tuple_item st (show s.heap.IsTuple a its.toArray from p) (x := u) (by simpa using hu) fun h' st' sb => ?_
    have I1 : Inv X pins σ H { s with heap := h' } := I.turned (t' := s.toks) (fun b o hb e => (sb.2 b hb).trans e) f0 f1 f3 f4 f5
    obtain ⟨o, e, c, d⟩ := id st'
    exact ⟨u, rfl, go_of (s := { s with heap := h' }) e c d (by decide) ⟨x, H, I1, ru, ⟨rfl, fun ys hy => by rw [I.tuple_inj hy hq]; exact hx⟩, st', fun b hb => (hf b hb).1⟩⟩
  done := by
    intro X hP hw hK hc i pins s σ H E I hf st hg
    subst hP hw hK
    obtain ⟨xs, hq, hx⟩ := hg
    obtain ⟨its, rv, p, hz⟩ := I.tuple hq
    obtain ⟨f0, f1, f2, f3, f4, f5⟩ := hf it (by simp)
    have hl := rv.length
    exact wpAny_pyNext_tuple_end (I.ok.hd hc) st (show s.heap.IsTuple a its.toArray from p) (by simp; omega) fun h' eb => ⟨rfl, I.turned (t' := s.toks) (fun b o hb e => eb b o hb e) f0 f1 f3 f4 f5⟩
  self := fun _ _ _ _ _ st h => wpAny_pyIter_tupleiter st h
theorem turn_range {P : Program} {w : World} {K : PySem.W.Frag} {tg : Expr} (it : Addr) (lo : Int) (n : Nat) : Turn P w K tg (Itr lo n) [it] it (fun i h => IsRangeIter h it (lo + (i : Nat) * 1) ((n : Int) - (i : Nat)) 1) where
  mem := by simp
  obj := fun i h st b hb => by
    have e : b = it := by simpa using hb
    subst e
    exact ⟨_, st, fun v z => by
      have z' : Data.fields _ = Data.cell v := z
      cases z'⟩
  keep := fun i h h' st k => k it (by simp) _ st
  item := by
    intro X hP hw hK hc i pins s σ H E I hf st hg
    subst hP hw hK
    obtain ⟨f0, f1, f2, f3, f4, f5⟩ := hf it (by simp)
    have W := Walks.range (prog := X.prog) (w := X.w) (I.ok.hd hc) it lo 1 n
    refine W.item i s _ _ hg st fun v h' tk hv st' kk => ?_
    obtain ⟨t, rfl⟩ := hv
    have I1 : Inv X pins σ H { s with heap := h', toks := tk } := I.turned (fun b o hb e => kk b o (by simpa using hb) e) f0 f1 f3 f4 f5
    refine ⟨_, rfl, go_of (s := { s with heap := h', toks := tk }) (n := "range_iterator") st' rfl rfl (by decide) ⟨.int (lo + i), H, I1, ⟨t, ?_⟩, ⟨rfl, rfl⟩, st', fun b hb => (hf b hb).1⟩⟩
    rw [Int.mul_one]
  done := by
    intro X hP hw hK hc i pins s σ H E I hf st hg
    subst hP hw hK
    obtain ⟨f0, f1, f2, f3, f4, f5⟩ := hf it (by simp)
    exact wpAny_pyNext_range_end (I.ok.hd hc) st (by have : n ≤ i := hg; omega) fun h' eb => ⟨rfl, I.turned (t' := s.toks) (fun b o hb e => eb b o hb e) f0 f1 f3 f4 f5⟩
  self := fun _ _ _ _ _ st h => wpAny_pyIter_rangeiter st h
end L2

namespace L2
open PySem PySem.Spec PyProof.Rows
section
variable {X : Cx} {tg : Expr}
def iList (K : PySem.W.Frag) (tl : TE) : TI := fun σ H R => tl σ H fun x H1 => ∃ a, x = .ref a ∧ (∃ xs, SqL K H1 a xs) ∧ R (Itl K a) H1
def iTup (K : PySem.W.Frag) (tl : TE) : TI := fun σ H R => tl σ H fun x H1 => ∃ a, x = .ref a ∧ (∃ xs, SqT K H1 a xs) ∧ R (Itt K a) H1
theorem pi_list {l : Expr} {tl : TE} (hl : PE X l tl) : PI X tg l (iList X.K tl) := by
  intro pins s σ H R I h
  refine thn (hl pins s σ H _ I h) fun v s1 ⟨x, H1, I1, r1, q1⟩ => ?_
  obtain ⟨a, e, ⟨xs, hq⟩, q⟩ := q1
  subst e
  cases r1
  obtain ⟨its, rv, p, hz⟩ := I1.list hq
  refine wpAny_pyIter_list p.isList ?_
  refine ⟨s1.heap.objs.size, [s1.heap.objs.size], _, _, H1, rfl, I1.kept (t' := s1.toks) fun b o e => Heap.get?_push_of_some _ e, turn_list a _, ⟨_, Heap.get?_push_size _ rfl, rfl, rfl⟩, fun b hb => ?_, q⟩
  have e : b = s1.heap.objs.size := by simpa using hb
  subst e
  exact I1.fpOk (Nat.le_refl _) (I1.hok.fresh (Nat.le_refl _))
theorem pi_tup {l : Expr} {tl : TE} (hl : PE X l tl) : PI X tg l (iTup X.K tl) := by
  intro pins s σ H R I h
  refine thn (hl pins s σ H _ I h) fun v s1 ⟨x, H1, I1, r1, q1⟩ => ?_
  obtain ⟨a, e, ⟨xs, hq⟩, q⟩ := q1
  subst e
  cases r1
  obtain ⟨its, rv, p, hz⟩ := I1.tuple hq
  refine wpAny_pyIter_tuple (show s1.heap.IsTuple a its.toArray from p) ?_
  refine ⟨s1.heap.objs.size, [s1.heap.objs.size], _, _, H1, rfl, I1.kept (t' := s1.toks) fun b o e => Heap.get?_push_of_some _ e, turn_tuple a _, ⟨_, Heap.get?_push_size _ rfl, rfl, rfl⟩, fun b hb => ?_, q⟩
  have e : b = s1.heap.objs.size := by simpa using hb
  subst e
  exact I1.fpOk (Nat.le_refl _) (I1.hok.fresh (Nat.le_refl _))
/-- a range object just made, walked -/
theorem range_it {pins : List (Addr × Obj)} {σ : St} {H : Hp} {s : Shared} {R : It → Hp → Prop} {E : Value → Shared → Prop} {lo hi : Int} {t u v : Tok} {tk : Nat} (I : Inv X pins σ H s) (h1 : -(2 ^ 62) ≤ lo) (h2 : lo < 2 ^ 62) (h3 : -(2 ^ 62) ≤ hi) (h4 : hi < 2 ^ 62)
    (q : R (Itr lo (hi - lo).toNat) H) : wpAny (model X.prog X.w) X.A (pyIter (.ref s.heap.objs.size)) (PIE X pins σ tg R) E { s with heap := s.heap.push { cls := .type "range", data := .fields #[.int lo t, .int hi u, .int 1 v] }, toks := tk } := by
  refine wpAny_pyIter_range (IsRange.new ..) (small_one h1 h2 h3 h4) ?_
  have I1 : Inv X pins σ H { s with heap := s.heap.push { cls := .type "range", data := .fields #[.int lo t, .int hi u, .int 1 v] }, toks := tk } := I.kept fun b o e => Heap.get?_push_of_some _ e
  refine ⟨(s.heap.push { cls := .type "range", data := .fields #[.int lo t, .int hi u, .int 1 v] }).objs.size, [(s.heap.push { cls := .type "range", data := .fields #[.int lo t, .int hi u, .int 1 v] }).objs.size], _, _, H, rfl,
    I1.kept (t' := tk) fun b o e => Heap.get?_push_of_some _ e, turn_range _ lo (hi - lo).toNat, ?_, fun b hb => ?_, q⟩
  · have e1 : lo + ((0 : Nat) : Int) * 1 = lo := by simp
    have e2 : (((hi - lo).toNat : Nat) : Int) - ((0 : Nat) : Int) = Builtin.Range.rangeSize lo hi 1 := by rw [rangeSize_one]; split <;> omega
    show IsRangeIter _ _ (lo + ((0 : Nat) : Int) * 1) ((((hi - lo).toNat : Nat) : Int) - ((0 : Nat) : Int)) 1
    rw [e1, e2]
    exact Heap.get?_push_size _ rfl
  · have e : b = (s.heap.push { cls := .type "range", data := .fields #[.int lo t, .int hi u, .int 1 v] }).objs.size := by simpa using hb
    subst e
    exact I1.fpOk (Nat.le_refl _) (I1.hok.fresh (Nat.le_refl _))
def iRng1 (ta : TA) : TI := fun σ H R => ta σ H fun vs H1 => ∃ j : Int, vs = [.int j] ∧ -(2 ^ 62) ≤ j ∧ j < 2 ^ 62 ∧ R (Itr 0 j.toNat) H1
def iRng2 (ta : TA) : TI := fun σ H R => ta σ H fun vs H1 => ∃ i j : Int, vs = [.int i, .int j] ∧ (-(2 ^ 62) ≤ i ∧ i < 2 ^ 62 ∧ -(2 ^ 62) ≤ j ∧ j < 2 ^ 62) ∧ R (Itr i (j - i).toNat) H1
theorem pi_range1 {a : Expr} {ta : TA} {p pos : Pos} (hg : Gl X "range") (hm : X.mg "range" = none) (ha : PA X [a] ta) (hs : starEach [a] X.env = [(false, eval a X.env)] := by rfl) : PI X tg (.Call (.Name "range" p) [a] [] pos) (iRng1 ta) := by
  intro pins s σ H R I h
  refine Call_ (ld_blt I hg hm boot_range (PyProof.Rows.callWith_type1 (thn (ha pos pins s σ H _ I h) fun us s1 ⟨vs, H1, I1, r1, q1⟩ => ?_) hs rfl))
  obtain ⟨j, e, q1, q2, q⟩ := q1
  subst e
  cases r1 with
  | cons r rr =>
    cases rr
    obtain ⟨t, rfl⟩ := r
    exact call_range_1 (range_it I1 (by omega) (by omega) q1 q2 (by simpa using q))
/-! ### for -/
/-- W: the invariant by the turn and a measure; N: what the body is to reach -/
def tFor (wi : TI) (g : TG) (tb : TS) : TS := fun D σ H => wi σ H fun J H1 => ∃ W : Nat → Nat → St → Hp → Prop, (∃ m, W 0 m σ H1) ∧ ∀ i m σ H, W i m σ H →
  (J.stop i H ∧ D.nx σ H) ∨ (J.go i H ∧ ∃ N : St → Hp → Prop, (∀ σ' H', N σ' H' → ∃ m', m' < m ∧ W (i + 1) m' σ' H') ∧ ∀ x H', J.yld i H x H' → g x σ H' fun σ2 H2 => tb { D with nx := N, ct := N, bk := D.nx } σ2 H2)
/-- the records at fp as they stand -/
def pinsAt (fp : List Addr) (h : Heap) : List (Addr × Obj) := fp.filterMap fun b => (h.get? b).map fun o => (b, o)
theorem mem_pinsAt {fp : List Addr} {h : Heap} {b : Addr} {o : Obj} (hb : b ∈ fp) (e : h.get? b = some o) : (b, o) ∈ pinsAt fp h := List.mem_filterMap.mpr ⟨b, hb, by rw [e]; rfl⟩
theorem of_pinsAt {fp : List Addr} {h : Heap} {p : Addr × Obj} (hp : p ∈ pinsAt fp h) : p.1 ∈ fp ∧ h.get? p.1 = some p.2 := by
  obtain ⟨b, hb, e⟩ := List.mem_filterMap.mp hp
  cases q : h.get? b with
  | none => rw [q] at e; cases e
  | some o =>
    rw [q] at e
    have e' : (b, o) = p := Option.some.inj e
    subst e'
    exact ⟨hb, q⟩
theorem Inv.pinned {pins : List (Addr × Obj)} {σ : St} {H : Hp} {s : Shared} {fp : List Addr} (I : Inv X pins σ H s) (hf : ∀ b ∈ fp, FpOk X pins H b) (ho : ∀ b ∈ fp, ∃ o, s.heap.get? b = some o ∧ ∀ v, o.data ≠ .cell v) : Inv X (pins ++ pinsAt fp s.heap) σ H s :=
  I.pins_of fun p hp => (List.mem_append.mp hp).elim (fun z => I.pin p (List.mem_append_right _ z)) fun z => by
    obtain ⟨hb, e⟩ := of_pinsAt z
    obtain ⟨f0, f1, f2, _⟩ := hf p.1 hb
    obtain ⟨o, e', d⟩ := ho p.1 hb
    rw [e] at e'; cases e'
    exact ⟨e, f0, f1, f2, d⟩
theorem Inv.unpinned {pins pl : List (Addr × Obj)} {σ : St} {H : Hp} {s : Shared} (I : Inv X (pins ++ pl) σ H s) : Inv X pins σ H s := I.pins_of fun p hp => I.pin p (List.mem_append_right _ (List.mem_append_left _ hp))
theorem ps_for {iter : Expr} {body : List Stmt} {wi : TI} {g : TG} {tb : TS} {pos : Pos} (hp : PassesOwn (model X.prog X.w) X.A X.env X.xe) (hc : X.calm = true) (hi : PI X tg iter wi) (hg : PG X tg g) (hb : PSs X body tb)
    (hs : ∀ x, foldedSetIterable iter X.env x = pure x := by intro _; rfl) : PS X (.For tg iter body [] pos) (tFor wi g tb) := by
  intro pins s σ H D I h
  refine wpAny_For (thn (hi pins s σ H _ I h) fun v s1 h1 => thn h1 fun itv s2 h2 => ?_) hs
  obtain ⟨it, fp, tn, J, H2, e, I2, T, st2, f2, W, ⟨m0, w0⟩, turn⟩ := h2
  subst e
  -- what stays true of the iterator's objects through the loop
  have stat : ∀ {H' : Hp}, (∀ b ∈ fp, H' b = none) → ∀ b ∈ fp, FpOk X pins H' b := fun hn b hb => ⟨hn b hb, (f2 b hb).2⟩
  refine codeAny_forLoop_any (fun n s' => ∃ i σ' H', Inv X pins σ' H' s' ∧ tn i s'.heap ∧ (∀ b ∈ fp, H' b = none) ∧ W i n σ' H') ?_ m0 ⟨0, σ, H2, I2, st2, fun b hb => (f2 b hb).1, w0⟩
  rintro n s3 ⟨i, σ3, H3, I3, st3, fr3, w3⟩
  rcases turn i n σ3 H3 w3 with ⟨stop, qn⟩ | ⟨go, N, hN, step⟩
  · refine wpAny_passesOwn hp (thn (T.done X rfl rfl rfl hc i pins s3 σ3 H3 X.xe I3 (stat fr3) st3 stop) fun r s4 ⟨hr, I4⟩ => ?_)
    subst hr
    exact wpAny_execs_nil ⟨σ3, H3, I4, qn⟩
  · refine wpAny_passesOwn hp (thn (T.item X rfl rfl rfl hc i pins s3 σ3 H3 X.xe I3 (stat fr3) st3 go) fun r s4 ⟨u, hr, h4⟩ => ?_)
    subst hr
    refine wpAny_passesOwn hp (thn h4 fun _ s5 ⟨x, H5, I5, r5, y5, st5, fr5⟩ => ?_)
    have I5' := I5.pinned (stat fr5) (T.obj _ _ st5)
    refine wpAny_passesOwn hp (thn (hg _ s5 σ3 H5 x u _ I5' r5 (step x H5 y5)) fun _ s6 ⟨σ6, H6, I6, q6⟩ => ?_)
    refine wpAny_passesOwn hp (thn (hb _ s6 σ6 H6 _ I6 q6) fun f s7 q7 => ?_)
    have again : ∀ {σ7 : St} {H7 : Hp}, Inv X (pins ++ pinsAt fp s5.heap) σ7 H7 s7 → N σ7 H7 → ∃ m, m < n ∧ ∃ i σ' H', Inv X pins σ' H' s7 ∧ tn i s7.heap ∧ (∀ b ∈ fp, H' b = none) ∧ W i m σ' H' := fun {σ7 H7} I7 n7 => by
      obtain ⟨m', hm, w7⟩ := hN σ7 H7 n7
      refine ⟨m', hm, i + 1, σ7, H7, I7.unpinned, T.keep _ _ _ st5 fun b hb o e => (I7.pin (b, o) (List.mem_append_right _ (List.mem_append_right _ (mem_pinsAt hb e)))).1, fun b hb => ?_, w7⟩
      obtain ⟨o, e, d⟩ := T.obj _ _ st5 b hb
      exact (I7.pin (b, o) (List.mem_append_right _ (List.mem_append_right _ (mem_pinsAt hb e)))).2.1
    cases f with
    | next => obtain ⟨σ7, H7, I7, n7⟩ := q7; exact again I7 n7
    | cont => obtain ⟨σ7, H7, I7, n7⟩ := q7; exact again I7 n7
    | brk => obtain ⟨σ7, H7, I7, q7⟩ := q7; exact ⟨σ7, H7, I7.unpinned, q7⟩
    | ret v => obtain ⟨x7, σ7, H7, I7, r7, q7⟩ := q7; exact ⟨x7, σ7, H7, I7.unpinned, r7, q7⟩
end

/-! ### the forms one uses -/
/-- over a list that the body leaves as it is -/
theorem for_list {K : PySem.W.Frag} {a : Addr} {xs : List V} {g : TG} {tb : TS} {D : Ends} {σ : St} {H : Hp} (Pv : Nat → St → Hp → Prop) (h0 : Pv 0 σ H) (hl : ∀ i σ H, i ≤ xs.length → Pv i σ H → SqL K H a xs)
    (hs : ∀ i x σ H, xs[i]? = some x → Pv i σ H → g x σ H fun σ2 H2 => tb { D with nx := Pv (i + 1), ct := Pv (i + 1), bk := D.nx } σ2 H2) (hd : ∀ σ H, Pv xs.length σ H → D.nx σ H) :
    ∃ W : Nat → Nat → St → Hp → Prop, (∃ m, W 0 m σ H) ∧ ∀ i m σ H, W i m σ H →
      ((Itl K a).stop i H ∧ D.nx σ H) ∨ ((Itl K a).go i H ∧ ∃ N : St → Hp → Prop, (∀ σ' H', N σ' H' → ∃ m', m' < m ∧ W (i + 1) m' σ' H') ∧ ∀ x H', (Itl K a).yld i H x H' → g x σ H' fun σ2 H2 => tb { D with nx := N, ct := N, bk := D.nx } σ2 H2) := by
  refine ⟨fun i m σ H => m = xs.length - i ∧ i ≤ xs.length ∧ Pv i σ H, ⟨xs.length, by simp, Nat.zero_le _, h0⟩, ?_⟩
  rintro i m σ H ⟨rfl, hi, p⟩
  have q := hl i σ H hi p
  by_cases hlt : i < xs.length
  · refine .inr ⟨⟨xs, xs[i], q, by simp [hlt]⟩, Pv (i + 1), fun σ' H' p' => ⟨xs.length - (i + 1), by omega, rfl, hlt, p'⟩, fun x H' y => ?_⟩
    obtain ⟨e, y⟩ := y
    subst e
    exact hs i x σ _ (y xs q) p
  · have e : i = xs.length := by omega
    subst e
    exact .inl ⟨⟨xs, q, Nat.le_refl _⟩, hd σ H p⟩
theorem for_tup {K : PySem.W.Frag} {a : Addr} {xs : List V} {g : TG} {tb : TS} {D : Ends} {σ : St} {H : Hp} (Pv : Nat → St → Hp → Prop) (h0 : Pv 0 σ H) (hl : ∀ i σ H, i ≤ xs.length → Pv i σ H → SqT K H a xs)
    (hs : ∀ i x σ H, xs[i]? = some x → Pv i σ H → g x σ H fun σ2 H2 => tb { D with nx := Pv (i + 1), ct := Pv (i + 1), bk := D.nx } σ2 H2) (hd : ∀ σ H, Pv xs.length σ H → D.nx σ H) :
    ∃ W : Nat → Nat → St → Hp → Prop, (∃ m, W 0 m σ H) ∧ ∀ i m σ H, W i m σ H →
      ((Itt K a).stop i H ∧ D.nx σ H) ∨ ((Itt K a).go i H ∧ ∃ N : St → Hp → Prop, (∀ σ' H', N σ' H' → ∃ m', m' < m ∧ W (i + 1) m' σ' H') ∧ ∀ x H', (Itt K a).yld i H x H' → g x σ H' fun σ2 H2 => tb { D with nx := N, ct := N, bk := D.nx } σ2 H2) := by
  refine ⟨fun i m σ H => m = xs.length - i ∧ i ≤ xs.length ∧ Pv i σ H, ⟨xs.length, by simp, Nat.zero_le _, h0⟩, ?_⟩
  rintro i m σ H ⟨rfl, hi, p⟩
  have q := hl i σ H hi p
  by_cases hlt : i < xs.length
  · refine .inr ⟨⟨xs, xs[i], q, by simp [hlt]⟩, Pv (i + 1), fun σ' H' p' => ⟨xs.length - (i + 1), by omega, rfl, hlt, p'⟩, fun x H' y => ?_⟩
    obtain ⟨e, y⟩ := y
    subst e
    exact hs i x σ _ (y xs q) p
  · have e : i = xs.length := by omega
    subst e
    exact .inl ⟨⟨xs, q, Nat.le_refl _⟩, hd σ H p⟩
theorem for_range {lo : Int} {n : Nat} {g : TG} {tb : TS} {D : Ends} {σ : St} {H : Hp} (Pv : Nat → St → Hp → Prop) (h0 : Pv 0 σ H)
    (hs : ∀ i σ H, i < n → Pv i σ H → g (.int (lo + i)) σ H fun σ2 H2 => tb { D with nx := Pv (i + 1), ct := Pv (i + 1), bk := D.nx } σ2 H2) (hd : ∀ σ H, Pv n σ H → D.nx σ H) :
    ∃ W : Nat → Nat → St → Hp → Prop, (∃ m, W 0 m σ H) ∧ ∀ i m σ H, W i m σ H →
      ((Itr lo n).stop i H ∧ D.nx σ H) ∨ ((Itr lo n).go i H ∧ ∃ N : St → Hp → Prop, (∀ σ' H', N σ' H' → ∃ m', m' < m ∧ W (i + 1) m' σ' H') ∧ ∀ x H', (Itr lo n).yld i H x H' → g x σ H' fun σ2 H2 => tb { D with nx := N, ct := N, bk := D.nx } σ2 H2) := by
  refine ⟨fun i m σ H => m = n - i ∧ i ≤ n ∧ Pv i σ H, ⟨n, by simp, Nat.zero_le _, h0⟩, ?_⟩
  rintro i m σ H ⟨rfl, hi, p⟩
  by_cases hlt : i < n
  · refine .inr ⟨hlt, Pv (i + 1), fun σ' H' p' => ⟨n - (i + 1), by omega, rfl, hlt, p'⟩, fun x H' y => ?_⟩
    obtain ⟨e, y⟩ := y
    subst e y
    exact hs i σ _ hlt p
  · have e : i = n := by omega
    subst e
    exact .inl ⟨Nat.le_refl _, hd σ H p⟩
end L2

namespace L2
open PySem PySem.Spec PyProof.Rows

abbrev R2 := V → V → Hp → VK → Prop
/-- a two-place operation on values: f is binaryOp op, inplaceOp op or compareOp op -/
def OpR (X : Cx) (f : Value → Value → Sem Value) (r : R2) : Prop :=
  ∀ (pins : List (Addr × Obj)) (s : Shared) (σ : St) (H : Hp) (x y : V) (v u : Value) (Q : VK), Inv X pins σ H s → RelV x v → RelV y u → r x y H Q →
    wpAny (model X.prog X.w) X.A (f v u) (EP X pins σ Q) X.xe s
/-- a one-place operation -/
def UnR (X : Cx) (f : Value → Sem Value) (r : V → Hp → VK → Prop) : Prop :=
  ∀ (pins : List (Addr × Obj)) (s : Shared) (σ : St) (H : Hp) (x : V) (v : Value) (Q : VK), Inv X pins σ H s → RelV x v → r x H Q →
    wpAny (model X.prog X.w) X.A (f v) (EP X pins σ Q) X.xe s
/-- a call of a value that is known (a builtin, a type) with values -/
def CallR (X : Cx) (f : Value) (r : List V → Hp → VK → Prop) : Prop :=
  ∀ (pins : List (Addr × Obj)) (s : Shared) (σ : St) (H : Hp) (xs : List V) (us : List Value) (Q : VK), Inv X pins σ H s → Vals xs us → r xs H Q →
    wpAny (model X.prog X.w) X.A (call f us) (EP X pins σ Q) X.xe s
/-- a value's truth -/
def TruR (X : Cx) (r : V → Hp → (Bool → Hp → Prop) → Prop) : Prop :=
  ∀ (pins : List (Addr × Obj)) (s : Shared) (σ : St) (H : Hp) (x : V) (v : Value) (Q : Bool → Hp → Prop), Inv X pins σ H s → RelV x v → r x H Q →
    wpAny (model X.prog X.w) X.A (truthy v) (TP X pins σ Q) X.xe s

def tOp (r : R2) (ta tb : TE) : TE := fun σ H Q => ta σ H fun x H1 => tb σ H1 fun y H2 => r x y H2 Q
def tUn (r : V → Hp → VK → Prop) (ta : TE) : TE := fun σ H Q => ta σ H fun x H1 => r x H1 Q
/-- ints in, under C, and a value out -/
def rI (C : Int → Int → Prop) (g : Int → Int → V) : R2 := fun x y H Q => ∃ i j, x = .int i ∧ y = .int j ∧ C i j ∧ Q (g i j) H
def rI0 (g : Int → Int → V) : R2 := fun x y H Q => ∃ i j, x = .int i ∧ y = .int j ∧ Q (g i j) H
def rU (g : Int → V) : V → Hp → VK → Prop := fun x H Q => ∃ i, x = .int i ∧ Q (g i) H

section
variable {X : Cx} {a b c : Expr} {ta tb tc : TE} {pos : Pos}

theorem binT (ha : PE X a ta) (hb : PE X b tb) {pins : List (Addr × Obj)} {s : Shared} {σ : St} {H : Hp} {R : V → V → Hp → Prop} (I : Inv X pins σ H s)
    (h : ta σ H fun x H1 => tb σ H1 fun y H2 => R x y H2) {Q : Value → Shared → Prop} {f : Value → Value → Sem Value}
    (hf : ∀ v u s2 x y H2, Inv X pins σ H2 s2 → RelV x v → RelV y u → R x y H2 → wpAny (model X.prog X.w) X.A (f v u) Q X.xe s2) :
    wpAny (model X.prog X.w) X.A (eval a X.env) (fun v s₁ => wpAny (model X.prog X.w) X.A (eval b X.env) (fun u s₂ => wpAny (model X.prog X.w) X.A (f v u) Q X.xe s₂) X.xe s₁) X.xe s := by
  refine thn (ha pins s σ H _ I h) fun v s1 ⟨x, H1, I1, r1, q1⟩ => ?_
  refine thn (hb pins s1 σ H1 _ I1 q1) fun u s2 ⟨y, H2, I2, r2, q2⟩ => ?_
  exact hf v u s2 x y H2 I2 r1 r2 q2

theorem pe_op {op : Operator} {r : R2} (ho : OpR X (binaryOp op) r) (ha : PE X a ta) (hb : PE X b tb) : PE X (.BinOp a op b pos) (tOp r ta tb) := by
  intro pins s σ H Q I h
  exact wpAny_BinOp (binT ha hb I h fun v u s2 x y H2 I2 rx ry q => ho pins s2 σ H2 x y v u Q I2 rx ry q)
theorem pe_un {op : UnaryOp} {r : V → Hp → VK → Prop} (ho : UnR X (unaryOp op) r) (ha : PE X a ta) : PE X (.UnaryOp op a pos) (tUn r ta) := by
  intro pins s σ H Q I h
  exact UnaryOp_ (thn (ha pins s σ H _ I h) fun v s1 ⟨x, H1, I1, r1, q1⟩ => ho pins s1 σ H1 x v Q I1 r1 q1)
/-! ### ints -/
theorem opI {f : Value → Value → Sem Value} {C : Int → Int → Prop} {g : Int → Int → Int}
    (rule : ∀ (i j : Int) (t u : Tok) (s : Shared) (Q : Value → Shared → Prop) (E : Value → Shared → Prop), C i j → Q (.int (g i j) s.toks) { s with toks := s.toks + 1 } → wpAny (model X.prog X.w) X.A (f (.int i t) (.int j u)) Q E s) :
    OpR X f (rI C fun i j => .int (g i j)) := by
  intro pins s σ H x y v u Q I rx ry h
  obtain ⟨i, j, rfl, rfl, hc, q⟩ := h
  obtain ⟨t, rfl⟩ := rx
  obtain ⟨t', rfl⟩ := ry
  exact rule i j t t' s _ _ hc ⟨.int (g i j), H, I.tok _, ⟨_, rfl⟩, q⟩
theorem opI0 {f : Value → Value → Sem Value} {g : Int → Int → Int}
    (rule : ∀ (i j : Int) (t u : Tok) (s : Shared) (Q : Value → Shared → Prop) (E : Value → Shared → Prop), Q (.int (g i j) s.toks) { s with toks := s.toks + 1 } → wpAny (model X.prog X.w) X.A (f (.int i t) (.int j u)) Q E s) :
    OpR X f (rI0 fun i j => .int (g i j)) := by
  intro pins s σ H x y v u Q I rx ry h
  obtain ⟨i, j, rfl, rfl, q⟩ := h
  obtain ⟨t, rfl⟩ := rx
  obtain ⟨t', rfl⟩ := ry
  exact rule i j t t' s _ _ ⟨.int (g i j), H, I.tok _, ⟨_, rfl⟩, q⟩
def CDiv (i j : Int) : Prop := 0 < j ∧ j < 1073741824
def CDivN (i j : Int) : Prop := j ≠ 0 ∧ j.natAbs < 1073741824
def CPow (i j : Int) : Prop := 0 ≤ j ∧ j ≤ 1000000 ∧ i.natAbs < 2 ^ 64
def CMul (i j : Int) : Prop := (-(2 ^ 64) < i ∧ i < 2 ^ 64) ∨ (-(2 ^ 64) < j ∧ j < 2 ^ 64)
theorem CMul.ok {i j : Int} (h : CMul i j) : IntMulOk i j := by
  rcases h with ⟨h1, h2⟩ | ⟨h1, h2⟩
  · exact .of_left (intBits_le_64 h1 h2)
  · exact .of_right (intBits_le_64 h1 h2)
theorem two_pow_nn (k : Nat) : (0 : Int) ≤ 2 ^ k := by
  rw [two_pow_cast]
  exact Int.natCast_nonneg _

theorem op_add : OpR X (binaryOp .Add) (rI0 fun i j => .int (i + j)) := opI0 fun _ _ _ _ _ _ _ q => add_int q
theorem op_sub : OpR X (binaryOp .Sub) (rI0 fun i j => .int (i - j)) := opI0 fun _ _ _ _ _ _ _ q => sub_int q
theorem op_mul : OpR X (binaryOp .Mult) (rI CMul fun i j => .int (i * j)) := opI fun _ _ _ _ _ _ _ hc q => mul_int q hc.ok
/-- // by a positive divisor -/
theorem op_fdiv : OpR X (binaryOp .FloorDiv) (rI CDiv fun i j => .int (i / j)) := opI fun i j _ _ _ _ _ hc q => by
  have h1 : (0 : Int) < j := hc.1
  have h2 : j < 1073741824 := hc.2
  exact floordiv_int (by omega) (by rw [Int.fdiv_eq_ediv_of_nonneg i (by omega)]; exact q) (.inl (PyProof.noPylong_small (by omega)))
/-- % by a positive divisor of any size -/
theorem op_mod : OpR X (binaryOp .Mod) (rI (fun _ j => 0 < j) fun i j => .int (i % j)) := opI fun i j _ _ _ _ _ hc q => by
  have h1 : (0 : Int) < j := hc
  exact mod_int' (by omega) (by rw [Int.fmod_eq_emod_of_nonneg i (by omega)]; exact q)
theorem op_shr : OpR X (binaryOp .RShift) (rI (fun _ j => 0 ≤ j) fun i j => .int (i / 2 ^ j.toNat)) := opI fun i j _ _ _ _ _ hc q =>
  rshift_int hc (by rw [Int.fdiv_eq_ediv_of_nonneg i (two_pow_nn _)]; exact q)
theorem op_and : OpR X (binaryOp .BitAnd) (rI0 fun i j => .int (Builtin.bitAnd i j)) := opI0 fun _ _ _ _ _ _ _ q => and_int q
theorem unI {f : Value → Sem Value} {g : Int → Int}
    (rule : ∀ (i : Int) (t : Tok) (s : Shared) (Q : Value → Shared → Prop) (E : Value → Shared → Prop), Q (.int (g i) s.toks) { s with toks := s.toks + 1 } → wpAny (model X.prog X.w) X.A (f (.int i t)) Q E s) :
    UnR X f (rU fun i => .int (g i)) := by
  intro pins s σ H x v Q I rx h
  obtain ⟨i, rfl, q⟩ := h
  obtain ⟨t, rfl⟩ := rx
  exact rule i t s _ _ ⟨.int (g i), H, I.tok _, ⟨_, rfl⟩, q⟩
theorem un_neg : UnR X (unaryOp .USub) (rU fun i => .int (-i)) := unI fun _ _ _ _ _ q => neg_int q
/-! ### bools among ints: n += (a < b) -/
end

/-! ### comparisons -/
/-- the scalars that == tells apart as data does -/
def scal : V → V → Bool
  | .non, .non => true | .non, .int _ => true | .int _, .non => true | .non, .bl _ => true | .bl _, .non => true | .non, .str _ => true | .str _, .non => true
  | .int _, .int _ => true | .bl _, .bl _ => true | .str _, .str _ => true | .byt _, .byt _ => true
  | .int _, .str _ => true | .str _, .int _ => true | .bl _, .str _ => true | .str _, .bl _ => true
  | _, _ => false
def rEq : R2 := fun x y H Q => scal x y = true ∧ Q (.bl (decide (x = y))) H
def rNe : R2 := fun x y H Q => scal x y = true ∧ Q (.bl (!decide (x = y))) H

theorem dec_int {i j : Int} : decide (V.int i = V.int j) = (i == j) := by
  rw [Bool.eq_iff_iff]
  simp
theorem dec_bl {i j : Bool} : decide (V.bl i = V.bl j) = (i == j) := by
  rw [Bool.eq_iff_iff]
  simp
theorem dec_str {i j : Str} : decide (V.str i = V.str j) = (i == j) := by
  rw [Bool.eq_iff_iff]
  simp
theorem dec_byt {i j : Array UInt8} : decide (V.byt i = V.byt j) = (i.toList == j.toList) := by
  rw [Bool.eq_iff_iff]
  cases i
  cases j
  simp

section
variable {X : Cx} {a b c : Expr} {ta tb tc : TE} {pos : Pos}
theorem fin_bl {pins : List (Addr × Obj)} {σ : St} {H : Hp} {s : Shared} {Q : VK} {k k' : Bool} (I : Inv X pins σ H s) (q : Q (.bl k) H) (e : k = k') : EP X pins σ Q (.bool k') s := by
  subst e
  exact ⟨.bl k, H, I, rfl, q⟩
theorem op_eq : OpR X (compareOp .Eq) rEq := by
  intro pins s σ H x y v u Q I rx ry h
  obtain ⟨hs, q⟩ := h
  cases x with
  | non =>
    cases rx
    cases y with
    | non => cases ry; exact PySem.EqNone.eq_none_none (fin_bl I q (by simp))
    | bl j => cases ry; exact PySem.EqNone.eq_none_bool (fin_bl I q (by simp))
    | int j => obtain ⟨t', rfl⟩ := ry; exact PySem.EqNone.eq_none_int (fin_bl I q (by simp))
    | str j => obtain ⟨t', rfl⟩ := ry; exact PySem.EqNone.eq_none_str (fin_bl I q (by simp))
    | _ => exact absurd (show false = true from hs) Bool.false_ne_true
  | bl i =>
    cases rx
    cases y with
    | non => cases ry; exact PySem.EqNone.eq_bool_none (fin_bl I q (by simp))
    | bl j => cases ry; exact eq_bool (fin_bl I q dec_bl)
    | str j => obtain ⟨t', rfl⟩ := ry; exact PySem.EqMixed.eq_bool_str (fin_bl I q (by simp))
    | _ => exact absurd (show false = true from hs) Bool.false_ne_true
  | int i =>
    obtain ⟨t, rfl⟩ := rx
    cases y with
    | non => cases ry; exact PySem.EqNone.eq_int_none (fin_bl I q (by simp))
    | int j => obtain ⟨t', rfl⟩ := ry; exact eq_int (fin_bl I q dec_int)
    | str j => obtain ⟨t', rfl⟩ := ry; exact PySem.EqMixed.eq_int_str (fin_bl I q (by simp))
    | _ => exact absurd (show false = true from hs) Bool.false_ne_true
  | str i =>
    obtain ⟨t, rfl⟩ := rx
    cases y with
    | non => cases ry; exact PySem.EqNone.eq_str_none (fin_bl I q (by simp))
    | bl j => cases ry; exact PySem.EqMixed.eq_str_bool (fin_bl I q (by simp))
    | int j => obtain ⟨t', rfl⟩ := ry; exact PySem.EqMixed.eq_str_int (fin_bl I q (by simp))
    | str j => obtain ⟨t', rfl⟩ := ry; exact eq_str (fin_bl I q dec_str)
    | _ => exact absurd (show false = true from hs) Bool.false_ne_true
  | byt i =>
    obtain ⟨t, rfl⟩ := rx
    cases y with
    | byt j => obtain ⟨t', rfl⟩ := ry; exact PySem.W.eq_bytes (fin_bl I q dec_byt)
    | _ => exact absurd (show false = true from hs) Bool.false_ne_true
  | _ => cases y <;> exact absurd (show false = true from hs) Bool.false_ne_true
/-- is, is not of two objects that are tracked lists or instances -/
def isObj : HO → Bool
  | .lst _ => true
  | .ins _ _ _ => true
  | _ => false
theorem nomark (b : Expr) {op : CmpOp} (h : op ≠ .In := by decide) (h2 : op ≠ .NotIn := by decide) : behindInMarks op b = false := by
  have e1 : (op == CmpOp.In) = false := by cases op <;> first | rfl | exact absurd rfl h
  have e2 : (op == CmpOp.NotIn) = false := by cases op <;> first | rfl | exact absurd rfl h2
  cases b <;> simp [behindInMarks, e1, e2]
/-- a comparison as a value; hm: nomark b, or (for in, not in) by with_unfolding_all rfl -/
theorem pe_cmpR {op : CmpOp} {r : R2} (ho : OpR X (compareOp op) r) (ha : PE X a ta) (hb : PE X b tb) (hm : behindInMarks op b = false) : PE X (.Compare a [op] [b] pos) (tOp r ta tb) := by
  intro pins s σ H Q I h
  exact wpAny_Compare1 (binT ha hb I h fun v u s2 x y H2 I2 rx ry q => ho pins s2 σ H2 x y v u Q I2 rx ry q) hm
/-- a reading of a value as a test -/
def tTest (t : TE) : TT := fun σ H Q => t σ H fun x H' => ∃ k, x = .bl k ∧ Q k H'
theorem pt_cmpR {op : CmpOp} {r : R2} (ho : OpR X (compareOp op) r) (ha : PE X a ta) (hb : PE X b tb) (hm : behindInMarks op b = false) : PT X (.Compare a [op] [b] pos) (tTest (tOp r ta tb)) := by
  intro pins s σ H Q I h
  refine wpAny_isTrue_Compare1 (thn (ha pins s σ H _ I h) fun v s1 ⟨x, H1, I1, r1, q1⟩ => thn (hb pins s1 σ H1 _ I1 q1) fun u s2 ⟨y, H2, I2, r2, q2⟩ =>
    thn (ho pins s2 σ H2 x y v u _ I2 r1 r2 q2) fun c s3 ⟨z, H3, I3, r3, k, e, q3⟩ => ?_) hm
  subst e
  cases r3
  exact wpAny_truthy_bool ⟨H3, I3, q3⟩
/-- a op1 b op2 c -/
def tChain (r r' : R2) (ta tb tc : TE) : TE := fun σ H Q => ta σ H fun x H1 => tb σ H1 fun y H2 => r x y H2 fun z H3 => ∃ k, z = .bl k ∧
  (if k = true then tc σ H3 fun w' H4 => r' y w' H4 Q else Q (.bl false) H3)
/-! ### truth -/
/-- a value's truth by the abstract heap -/
def TruV (K : PySem.W.Frag) (x : V) (H : Hp) (k : Bool) : Prop :=
  match x with
  | .non => k = false
  | .bl b => k = b
  | .int i => k = (i != 0)
  | .str y => y.length ≤ sizeLine ∧ k = ((y.length : Int) != 0)
  | .byt y => y.size ≤ sizeLine ∧ k = ((y.size : Int) != 0)
  | .ref p => (∃ xs, SqL K H p xs ∧ k = !xs.isEmpty) ∨ (∃ xs, SqT K H p xs ∧ k = !xs.isEmpty) ∨ ∃ kvs, H p = some (.dK kvs) ∧ k = !kvs.isEmpty
  | _ => False
theorem line63 : (sizeLine : Nat) < 2 ^ 63 := by rw [sizeLine_eq]; decide
/-! ### strs and bytes -/
def PlainIxT (b : Expr) : Prop := ∀ o i, subscripted b false o i = operate [o, i] (getItem o i)
/-! ### scalar builtins, by CallR -/
theorem vals1 {x : V} {us : List Value} (r : Vals [x] us) : ∃ u, us = [u] ∧ RelV x u := by
  cases r with
  | cons r1 r2 => cases r2; exact ⟨_, rfl, r1⟩
theorem vals2 {x y : V} {us : List Value} (r : Vals [x, y] us) : ∃ u w', us = [u, w'] ∧ RelV x u ∧ RelV y w' := by
  cases r with
  | cons r1 r2 =>
    cases r2 with
    | cons r3 r4 => cases r4; exact ⟨_, _, rfl, r1, r3⟩
theorem call_max2 (hc : X.calm = true) : CallR X (.builtin "max") (fun xs H Q => ∃ i j, xs = [.int i, .int j] ∧ Q (.int (if j > i then j else i)) H) := by
  intro pins s σ H xs us Q I r h
  obtain ⟨i, j, rfl, q⟩ := h
  obtain ⟨u, w', rfl, ⟨t, rfl⟩, ⟨t', rfl⟩⟩ := vals2 r
  refine max_two_ints (I.ok.hd hc) fun h' tk k => ⟨_, H, I.kept k, ?_, q⟩
  by_cases hj : j > i
  · rw [if_pos hj, if_pos hj]; exact ⟨_, rfl⟩
  · rw [if_neg hj, if_neg hj]; exact ⟨_, rfl⟩
/-- len of a str, a bytes, a list, a tuple -/
def LenV (K : PySem.W.Frag) (x : V) (H : Hp) (n : Nat) : Prop :=
  match x with
  | .str y => y.length ≤ sizeLine ∧ n = y.length
  | .byt y => y.size ≤ sizeLine ∧ n = y.size
  | .ref p => (∃ xs, SqL K H p xs ∧ n = xs.length) ∨ ∃ xs, SqT K H p xs ∧ n = xs.length
  | _ => False
end
end L2

namespace L2
open PySem PySem.Spec PyProof.Rows

/-! ### an instance, its attributes a map -/
structure ObjM (h : Heap) (x dx C : Addr) (mA : Str → Option Value) : Prop where
  obj : h.get? x = some (PySem.W.instObj C dx)
  ns : h.Ns1 dx mA
  ne : dx ≠ x

section
variable {prog : Program} {w : World} {A : Around} {E : Value → Shared → Prop} {s : Shared} {K : PySem.W.Frag} {x dx C f : Addr} {mA : Str → Option Value} {name : Str} {v : Value}

end

/-! ### the attributes as a list of pairs -/
def putF (f : Str) (v : V) : List (Str × V) → List (Str × V)
  | [] => [(f, v)]
  | (g, x) :: r => if g = f then (g, v) :: r else (g, x) :: putF f v r
section
variable {P : Program} {w : World} {H H' : Hp} {h h' : Heap} {a C dx : Addr} {fs fs' : List (Str × V)}
end

/-! ### what of the text a class must have -/
structure Cls (K : PySem.W.Frag) (C : Addr) : Prop where
  pg : PySem.W.plainGet K C Str.empty = true
  hd : PySem.W.hasDictIn K C = true
  po : PySem.W.plainOver K C = true
  sa : PySem.W.findIn K (.ref C) "__setattr__" = some (some (.builtin "object.__setattr__"))
/-- no class of it has the name -/
def NoAttr (K : PySem.W.Frag) (C : Addr) (f : Str) : Prop := PySem.W.findIn K (.ref C) f = some none
/-- a constant of the class -/
structure Con (K : PySem.W.Frag) (C : Addr) (f : Str) (v : V) (u : Value) : Prop where
  at_ : PySem.W.findIn K (.ref C) f = some (some u)
  rel : RelV v u
  get : PySem.W.specialIn K u "__get__" = some none
  cp : PySem.W.copiedNames.contains f = false
/-- a method: a plain def of the class or of one above it -/
structure Meth (K : PySem.W.Frag) (C : Addr) (m : Str) (f : Addr) : Prop where
  at_ : PySem.W.findIn K (.ref C) m = some (some (.ref f))
  fn : PySem.W.isFn K (.ref f) = true
  kp : PySem.W.keepIn K (.ref f) = true

section
variable {X : Cx} {pins : List (Addr × Obj)} {σ : St} {H : Hp} {s : Shared} {a C dx : Addr} {fs : List (Str × V)} {f : Str} {v : V} {A : Around} {E : Value → Shared → Prop}

end

/-! ### readings and rules -/
/-- e.f, an attribute of the instance -/
def tFld (K : PySem.W.Frag) (ta : TE) (f : Str) : TE := fun σ H Q => ta σ H fun x H1 => ∃ a C dx fs v, x = .ref a ∧ H1 a = some (.ins C dx fs) ∧ Cls K C ∧ NoAttr K C f ∧ fs.lookup f = some v ∧ Q v H1
/-- e.f, a constant of the class -/
def tCon (K : PySem.W.Frag) (ta : TE) (f : Str) : TE := fun σ H Q => ta σ H fun x H1 => ∃ a C dx fs v u, x = .ref a ∧ H1 a = some (.ins C dx fs) ∧ Cls K C ∧ Con K C f v u ∧ fs.lookup f = none ∧ Q v H1
/-- e.f = value -/
def sFld (K : PySem.W.Frag) (ta tv : TE) (f : Str) : TS := fun D σ H => tv σ H fun y H1 => ta σ H1 fun x H2 => ∃ a C dx fs, x = .ref a ∧ H2 a = some (.ins C dx fs) ∧ Cls K C ∧ NoAttr K C f ∧ fs.length < 1000 ∧
  D.nx σ (upd H2 a (.ins C dx (putF f y fs)))
/-- an augmented operator on two values -/
def InOp (X : Cx) (op : Operator) (rd : V → V → Hp → VK → Prop) : Prop :=
  ∀ (pins : List (Addr × Obj)) (s : Shared) (σ : St) (H : Hp) (x y : V) (u v : Value) (Q : VK), Inv X pins σ H s → RelV x u → RelV y v → rd x y H Q → wpAny (model X.prog X.w) X.A (inplaceOp op u v) (EP X pins σ Q) X.xe s
/-- e.f op= value -/
def sFldAug (K : PySem.W.Frag) (ta tv : TE) (rd : V → V → Hp → VK → Prop) (f : Str) : TS := fun D σ H => ta σ H fun x H1 => ∃ a C dx fs v, x = .ref a ∧ H1 a = some (.ins C dx fs) ∧ Cls K C ∧ NoAttr K C f ∧ fs.lookup f = some v ∧
  tv σ H1 fun y H2 => rd v y H2 fun z H3 => ∃ dx' fs', H3 a = some (.ins C dx' fs') ∧ fs'.length < 1000 ∧ D.nx σ (upd H3 a (.ins C dx' (putF f z fs')))

section
variable {X : Cx} {o e value : Expr} {f : Str} {pos pos' tpos : Pos} {ta tv : TE}
def rAdd : V → V → Hp → VK → Prop := fun x y H Q => ∃ i j, x = .int i ∧ y = .int j ∧ Q (.int (i + j)) H
def rSub : V → V → Hp → VK → Prop := fun x y H Q => ∃ i j, x = .int i ∧ y = .int j ∧ Q (.int (i - j)) H
end

/-! ### isinstance -/
section
variable {X : Cx} {pins : List (Addr × Obj)} {σ : St} {H : Hp} {s : Shared} {A : Around} {E : Value → Shared → Prop} {Q : Value → Shared → Prop} {c : Value} {b : Bool}
/-- the type of a value, as the fragment's deciders take it; for an instance its class -/
inductive TyOf (K : PySem.W.Frag) (H : Hp) : V → Value → Prop where
  | non : TyOf K H .non (.type "NoneType")
  | bl (x : Bool) : TyOf K H (.bl x) (.type "bool")
  | int (i : Int) : TyOf K H (.int i) (.type "int")
  | str (x : Str) : TyOf K H (.str x) (.type "str")
  | flt (x : UInt64) : TyOf K H (.flt x) (.type "float")
  | lst {a : Addr} {xs : List V} (e : H a = some (.lst xs)) : TyOf K H (.ref a) (.type "list")
  | frz {a : Addr} {o : Obj} {xs : List V} (e : H a = some (.frz o (.lst xs))) : TyOf K H (.ref a) (.type "list")
  | tup {a : Addr} {xs : List V} (e : H a = some (.tup xs)) : TyOf K H (.ref a) (.type "tuple")
  | dK {a : Addr} {kvs : List (Key × V)} (e : H a = some (.dK kvs)) : TyOf K H (.ref a) (.type "dict")
  | dT {a : Addr} {kvs : List (List Key × V)} (e : H a = some (.dT kvs)) : TyOf K H (.ref a) (.type "dict")
  | ins {a C dx : Addr} {fs : List (Str × V)} (e : H a = some (.ins C dx fs)) (cl : Cls K C) (ha : PySem.W.findIn K (.ref C) "__class__" = some (some (.builtin "object.__class__")))
      (hn : PySem.W.specialIn K (.builtin "object.__class__") "__get__" = some (some (.builtin "getset_descriptor.__get__"))) (htk : PySem.W.takesIn K (.builtin "object.__class__") = some true)
      (hm : PySem.W.mroIn K C (.type "object") = some true) : TyOf K H (.ref a) (.ref C)
end
end L2

namespace L2
open PySem PySem.Spec PyProof.Rows

/-! ### room -/
structure Room (k : Nat) (A : Around) : Prop where
  hd : A.handled = none
  dp : A.depth + 3 * k + 5 < recursionLimit
  un : A.units + 16 * k + 200 < cLine
theorem Room.mono {j k : Nat} {A : Around} (r : Room k A) (h : j ≤ k) : Room j A := ⟨r.hd, by have := r.dp; omega, by have := r.un; omega⟩
theorem Room.deeper {k : Nat} {A : Around} (r : Room (k + 1) A) (env : Env) : Room k (A.deeper env) :=
  ⟨r.hd, by have := r.dp; show A.depth + 1 + 3 * k + 5 < _; omega, by have := r.un; show A.units + 3 + 16 * k + 200 < _; omega⟩
theorem Room.depth {k : Nat} {A : Around} (r : Room k A) : A.depth < recursionLimit := by have := r.dp; omega
theorem Room.units {k : Nat} {A : Around} (r : Room k A) : A.units + 64 < cLine := by have := r.un; omega
theorem Room.units0 {k : Nat} {A : Around} (r : Room k A) : A.units < cLine := by have := r.un; omega

/-! ### argument lists and displays -/
def tNil : TA := fun _ H Q => Q [] H
def tCons (ta : TE) (tr : TA) : TA := fun σ H Q => ta σ H fun x H1 => tr σ H1 fun xs H2 => Q (x :: xs) H2
section
variable {X : Cx} {e : Expr} {es : List Expr} {te : TE} {t : TA} {pos : Pos}
theorem pa_nil : PA X [] tNil := fun _ _ _ _ H Q I h => Calls.spliced_nil ⟨[], H, I, .nil, h⟩
theorem pa_cons (ha : PE X e te) (hr : PA X es t) (hs : starEach (e :: es) X.env = (false, eval e X.env) :: starEach es X.env := by rfl) : PA X (e :: es) (tCons te t) := by
  intro pos pins s σ H Q I h
  rw [hs]
  show wpAny _ _ (spliced ((false, eval e X.env) :: backTo pos (starEach es X.env))) _ _ s
  refine Calls.spliced_cons (thn (ha pins s σ H _ I h) fun u s1 ⟨x, H1, I1, r1, q1⟩ => ?_)
  exact thn (hr pos pins s1 σ H1 _ I1 q1) fun us s2 ⟨xs, H2, I2, r2, q2⟩ => ⟨x :: xs, H2, I2, .cons r1 r2, q2⟩

/-- a tuple, a list of written items -/
def tTup (t : TA) : TE := fun σ H Q => t σ H fun xs H1 => xs.length ≤ sizeLine ∧ ∀ p, H1 p = none → Q (.ref p) (upd H1 p (.tup xs))
def tLst (t : TA) : TE := fun σ H Q => t σ H fun xs H1 => xs.length ≤ sizeLine ∧ ∀ p, H1 p = none → Q (.ref p) (upd H1 p (.lst xs))
theorem pe_tup {x1} (h : PA X es t) : PE X (.Tuple es x1 pos) (tTup t) := by
  intro pins s σ H Q I hq
  refine wpAny_Tuple_spliced (thn (h pos pins s σ H _ I hq) fun us s1 ⟨xs, H1, I1, r, z, q⟩ => ⟨by rw [← r.length]; exact z, ?_⟩)
  have hf : H1 s1.heap.objs.size = none := I1.hok.fresh (Nat.le_refl _)
  refine ⟨.ref s1.heap.objs.size, upd H1 s1.heap.objs.size (.tup xs), I1.laid (t' := s1.toks) (fun b u e => Heap.get?_push_of_some _ e) (Nat.le_refl _) ?_, rfl, q _ hf⟩
  exact ⟨z, us, r, ⟨_, Heap.get?_push_size _ rfl, rfl, _, rfl⟩⟩
theorem pe_lst (h : PA X es t) : PE X (.List es pos) (tLst t) := by
  intro pins s σ H Q I hq
  refine wpAny_List_spliced (thn (h pos pins s σ H _ I hq) fun us s1 ⟨xs, H1, I1, r, z, q⟩ => ⟨by rw [← r.length]; exact z, ?_⟩)
  have hf : H1 s1.heap.objs.size = none := I1.hok.fresh (Nat.le_refl _)
  refine ⟨.ref s1.heap.objs.size, upd H1 s1.heap.objs.size (.lst xs), I1.laid (t' := s1.toks) (fun b u e => Heap.get?_push_of_some _ e) (Nat.le_refl _) ?_, rfl, q _ hf⟩
  exact ⟨z, us, 0, r, Heap.get?_push_size _ rfl⟩
end

/-! ### what a def promises -/
/-- a def's promise: the bound arguments in the parameters' order, the heap, the wanted end, the wanted exception -/
abbrev Sp := List V → Hp → VK → XK → Prop
/-- how an exception lies behind a call (file 08 gives it): the callers' frames, abstract heap and state ahead of the call, the wish, the exception, the state -/
abbrev CXT := List Env → Hp → Shared → XK → Value → Shared → Prop

/-- the state at a call -/
structure Env0 (P : Program) (w : World) (K : PySem.W.Frag) (mg : Str → Option Value) (base : Heap) (A : Around) (outer : List Env) (s : Shared) (H : Hp) : Prop where
  frames : A.frames = some outer
  mod : Mod K mg base
  bs : ∀ b o, base.get? b = some o → s.heap.get? b = some o ∧ H b = none
  bsz : base.objs.size ≤ s.heap.objs.size
  funs : s.heap.FunFrames base outer
  frf : ∀ b ∈ frs outer, H b = none
  hok : HOk P w H s.heap
  bare : AllBare s.gens
/-- a call's end -/
def CE (outer : List Env) (P : Program) (w : World) (H : Hp) (s : Shared) (Q : VK) (u : Value) (s' : Shared) : Prop :=
  ∃ v H', s'.os = s.os ∧ AllBare s'.gens ∧ Un (frs outer) [] H H' s.heap s'.heap ∧ HOk P w H' s'.heap ∧ RelV v u ∧ Q v H'
def CR (CX : CXT) (outer : List Env) (P : Program) (w : World) (H : Hp) (s : Shared) (Q : VK) (E : XK) (r : Result) (s' : Shared) : Prop :=
  match r with
  | .ok (.ret u) => CE outer P w H s Q u s'
  | .ok _ => False
  | .error e => CX outer H s E e s'
structure FnOk (P : Program) (w : World) (K : PySem.W.Frag) (mg : Str → Option Value) (base : Heap) (CX : CXT) (k : Nat) (f : Addr) (fd : FuncData) (ps : List Str) (sp : Sp) : Prop where
  len : ∀ vs H Q E, sp vs H Q E → vs.length = ps.length
  run : ∀ (A : Around) (outer : List Env) (s : Shared) (H : Hp) (args : Args) (us : List Value) (vs : List V) (Q : VK) (E : XK), Room k A → Env0 P w K mg base A outer s H → BindsTo s fd args (ps.zip us) → Vals vs us → sp vs H Q E →
    codeAny (model P w) A (.call (.ref f) args) (CR CX outer P w H s Q E) s
theorem FnOk.mono {P : Program} {w : World} {K : PySem.W.Frag} {mg : Str → Option Value} {base : Heap} {CX : CXT} {j k : Nat} {f : Addr} {fd : FuncData} {ps : List Str} {sp : Sp} (F : FnOk P w K mg base CX j f fd ps sp) (h : j ≤ k) :
    FnOk P w K mg base CX k f fd ps sp := ⟨F.len, fun A outer s H args us vs Q E hr => F.run A outer s H args us vs Q E (hr.mono h)⟩
section
variable {X : Cx} {pins : List (Addr × Obj)} {σ : St} {H : Hp} {s s' : Shared}
/-- from a body: what a callee wants -/
theorem Inv.env0 (I : Inv X pins σ H s) : Env0 X.prog X.w X.K X.mg X.base X.A X.stack s H :=
  ⟨I.ok.frames, I.ok.mod, I.bs, Nat.le_trans I.ok.bsz I.sz, I.stack, I.stkFree, I.hok, I.bare⟩
/-- behind a call -/
theorem Inv.after {Q : VK} {u : Value} (I : Inv X pins σ H s) (h : CE X.stack X.prog X.w H s Q u s') : EP X pins σ Q u s' := by
  obtain ⟨v, H', os, bare, un, hok, r, q⟩ := h
  obtain ⟨hh, g, d, t, os'⟩ := s'
  obtain rfl : os' = s.os := os
  exact ⟨v, H', I.call (h' := hh) (g' := g) (d' := d) (t' := t) (ch := []) un hok bare (fun b z => absurd z (by simp)), r, q⟩
end

/-! ### calls -/
/-- f(..): the written arguments, then the defaults dvs; E: what is wanted of an exception -/
def tCall (sp : Sp) (dvs : List V) (E : XK) (t : TA) : TE := fun σ H Q => t σ H fun vs H1 => sp (vs ++ dvs) H1 Q E
/-- o.m(..) of an instance of the class at C -/
def tMeth (C : Addr) (m : Str) (sp : Sp) (dvs : List V) (E : XK) (ta : TE) (t : TA) : TE := fun σ H Q => ta σ H fun x H1 => ∃ a dx fs, x = .ref a ∧ H1 a = some (.ins C dx fs) ∧ fs.lookup m = none ∧
  t σ H1 fun vs H2 => sp (x :: (vs ++ dvs)) H2 Q E
/-- C(..): a new instance and its dict, then __init__ -/
def tMake (C : Addr) (sp : Sp) (dvs : List V) (E : XK) (t : TA) : TE := fun σ H Q => t σ H fun vs H1 => ∀ x dx, H1 x = none → H1 dx = none → dx ≠ x →
  sp (.ref x :: (vs ++ dvs)) (upd (upd H1 dx (.own x)) x (.ins C dx [])) (fun v H2 => v = .non ∧ Q (.ref x) H2) E

/-- how the parameters are bound: us the positional arguments, kw the keywords' values by name, ds the defaults that fill up -/
def Binds (K : PySem.W.Frag) (fd : FuncData) (ps : List Str) (ds : List Value) : Prop :=
  ∀ (s : Shared) (us : List Value), K.In s.heap → (us ++ ds).length = ps.length → BindsTo s fd ⟨us, []⟩ (ps.zip (us ++ ds))
/-- every parameter is given -/
theorem Binds.all {K : PySem.W.Frag} {fd : FuncData} {ps : List Str} (h : ∀ us : List Value, us.length = ps.length → bindArgs fd ⟨us, []⟩ = pure (ps.zip us)) : Binds K fd ps [] := fun s us _ hl => by
  rw [List.append_nil] at hl ⊢
  exact .of_eq (h us hl)

/-- an exception of a callee reaches what this body wants of exceptions -/
def Passes (CX : CXT) (X : Cx) (E : XK) : Prop := ∀ (pins : List (Addr × Obj)) (σ : St) (H : Hp) (s : Shared) (e : Value) (s' : Shared), Inv X pins σ H s → CX X.stack H s E e s' → X.xe e s'

section
variable {X : Cx} {CX : CXT} {k : Nat} {f C : Addr} {fd : FuncData} {ps : List Str} {sp : Sp} {dvs : List V} {ds : List Value} {E : XK} {x m : Str} {p pos apos : Pos} {e o : Expr} {es : List Expr} {ta : TE} {t : TA}

/-- the callee runs -/
theorem run_fn {pins : List (Addr × Obj)} {σ : St} {H : Hp} {s : Shared} {Q : VK} {us : List Value} {vs : List V} (F : FnOk X.prog X.w X.K X.mg X.base CX k f fd ps sp) (hr : Room k X.A) (hb : Binds X.K fd ps ds) (hd : Vals dvs ds) (hx : Passes CX X E)
    (I : Inv X pins σ H s) (r : Vals vs us) (h : sp (vs ++ dvs) H Q E) : wpAny (model X.prog X.w) X.A (call (.ref f) us) (EP X pins σ Q) X.xe s := by
  have r2 : Vals (vs ++ dvs) (us ++ ds) := r.append hd
  have hl : (us ++ ds).length = ps.length := by rw [← r2.length]; exact F.len _ _ _ _ h
  refine wpAny_call (codeAny_mono (F.run X.A X.stack s H ⟨us, []⟩ (us ++ ds) (vs ++ dvs) Q E hr I.env0 (hb s us I.kIn hl) r2 h) fun r s' hq => ?_)
  cases r with
  | error e => exact hx pins σ H s e s' I hq
  | ok fl =>
    cases fl with
    | ret u => exact I.after hq
    | next => exact False.elim hq
    | brk => exact False.elim hq
    | cont => exact False.elim hq

theorem pe_call (F : FnOk X.prog X.w X.K X.mg X.base CX k f fd ps sp) (hr : Room k X.A) (hg : Gl X x) (hm : X.mg x = some (.ref f)) (hk : PySem.W.keepIn X.K (.ref f) = true) (hb : Binds X.K fd ps ds) (hd : Vals dvs ds) (hx : Passes CX X E)
    (ha : PA X (e :: es) t) (hdb : (x == ("__debug__" : Str)) = false := by decide) (he : starEach (e :: es) X.env = (false, eval e X.env) :: starEach es X.env := by rfl) (hpl : (backTo pos (starEach es X.env)).any (·.1) = false := by rfl) :
    PE X (.Call (.Name x p) (e :: es) [] pos) (tCall sp dvs E t) := by
  intro pins s σ H Q I h
  refine wpAny_Call_Name_kw (ld_glob I hg hm ?_ hdb)
  refine PySem.W.callWith_K (h₀ := X.base) I.ok.mod.kin hk (thn (ha pos pins s σ H _ I h) fun us s1 ⟨vs, H1, I1, r, q⟩ => ⟨I1.kIn, ?_⟩) he hpl
  exact run_fn F hr hb hd hx I1 r q
/-- what a class must have to be made -/
structure Mk (K : PySem.W.Frag) (C f : Addr) : Prop where
  makes : PySem.W.makesIn K C = true
  init : PySem.W.findIn K (.ref C) "__init__" = some (some (.ref f))
  fn : PySem.W.isFn K (.ref f) = true
  kp : PySem.W.keepIn K (.ref C) = true

end

/-! ### keywords -/
/-- the values of the keywords, from the left -/
def PK (X : Cx) (kws : List Keyword) (t : TA) : Prop :=
  ∀ (pos : Pos) (pins : List (Addr × Obj)) (s : Shared) (σ : St) (H : Hp) (Q : List V → Hp → Prop), Inv X pins σ H s → t σ H Q → wpAny (model X.prog X.w) X.A (evalAll ((backToKw pos (keywordEach kws X.env)).map (·.2))) (AP X pins σ Q) X.xe s
section
variable {X : Cx} {CX : CXT} {k : Nat} {f C : Addr} {fd : FuncData} {ps ks : List Str} {sp : Sp} {E : XK} {x m : Str} {p pos apos kpos : Pos} {e o : Expr} {es : List Expr} {kws : List Keyword} {te ta : TE} {t tk : TA} {nm : Option Str}
/-- how a call with keywords binds: g puts the positional values us and the keywords' values ws (names ks) in the parameters' order, defaults among them -/
structure KBinds (K : PySem.W.Frag) (fd : FuncData) (ps ks : List Str) (g : List Value → List Value → List Value) (gV : List V → List V → List V) : Prop where
  to : ∀ (s : Shared) (us ws : List Value), K.In s.heap → (g us ws).length = ps.length → BindsTo s fd ⟨us, ks.zip ws⟩ (ps.zip (g us ws))
  rel : ∀ {vs : List V} {us : List Value} {zs : List V} {ws : List Value}, Vals vs us → Vals zs ws → Vals (gV vs zs) (g us ws)
def tCallK (sp : Sp) (gV : List V → List V → List V) (E : XK) (t tk : TA) : TE := fun σ H Q => t σ H fun vs H1 => tk σ H1 fun zs H2 => sp (gV vs zs) H2 Q E
variable {g : List Value → List Value → List Value} {gV : List V → List V → List V}
end

/-! ### a def's body keeps its promise -/
/-- names: the parameters first -/
structure FnScope (N P : List Str) (sc : Scope) : Prop where
  kind : sc.kind = .function
  co : sc.isCoroutine = false
  gen : sc.isGenerator = false
  nd : N.Nodup
  pre : N.take P.length = P
  par : ∀ x ∈ P, sc.names.lookup x = some .local ∨ sc.names.lookup x = some .cell
  nofree : ∀ y ∈ sc.names, y.2 ≠ .free

theorem bindL_out {kindOf : Str → Option NameKind} {x : Str} : ∀ {binds : List (Str × Value)} {m : Str → Option Value}, (∀ v, (x, v) ∉ binds) → bindL kindOf binds m x = m x
  | [], _, _ => rfl
  | (n, v) :: r, m, h => by
    unfold bindL
    rw [bindL_out fun w hw => h w (List.mem_cons_of_mem _ hw)]
    split
    · have : x ≠ n := by rintro rfl; exact h v List.mem_cons_self
      simp [this]
    · rfl
theorem bindC_out {kindOf : Str → Option NameKind} {x : Str} : ∀ {binds : List (Str × Value)} {m : Str → Option Value}, (∀ v, (x, v) ∉ binds) → bindC kindOf binds m x = m x
  | [], _, _ => rfl
  | (n, v) :: r, m, h => by
    unfold bindC
    rw [bindC_out fun w hw => h w (List.mem_cons_of_mem _ hw)]
    split
    · rfl
    · have : x ≠ n := by rintro rfl; exact h v List.mem_cons_self
      simp [this]
theorem bindL_get {kindOf : Str → Option NameKind} {x : Str} {v : Value} : ∀ {P : List Str} {vs : List Value} {i : Nat} {m : Str → Option Value}, P.Nodup → P[i]? = some x → vs[i]? = some v → kindOf x = some .local →
    bindL kindOf (P.zip vs) m x = some v
  | [], _, _, _, _, h, _, _ => by simp at h
  | _ :: _, [], _, _, _, _, h, _ => by simp at h
  | p :: P, w :: vs, 0, m, nd, h1, h2, hk => by
    simp at h1 h2; subst h1; subst h2
    show bindL kindOf ((p, w) :: P.zip vs) m p = _
    unfold bindL
    rw [bindL_out fun v hv => (List.nodup_cons.mp nd).1 (List.of_mem_zip hv).1, if_pos hk]
    simp
  | p :: P, w :: vs, i + 1, m, nd, h1, h2, hk => by
    show bindL kindOf ((p, w) :: P.zip vs) m x = _
    unfold bindL
    exact bindL_get (i := i) (List.nodup_cons.mp nd).2 (by simpa using h1) (by simpa using h2) hk
theorem bindC_get {kindOf : Str → Option NameKind} {x : Str} {v : Value} : ∀ {P : List Str} {vs : List Value} {i : Nat} {m : Str → Option Value}, P.Nodup → P[i]? = some x → vs[i]? = some v → kindOf x ≠ some .local →
    bindC kindOf (P.zip vs) m x = some v
  | [], _, _, _, _, h, _, _ => by simp at h
  | _ :: _, [], _, _, _, _, h, _ => by simp at h
  | p :: P, w :: vs, 0, m, nd, h1, h2, hk => by
    simp at h1 h2; subst h1; subst h2
    show bindC kindOf ((p, w) :: P.zip vs) m p = _
    unfold bindC
    rw [bindC_out fun v hv => (List.nodup_cons.mp nd).1 (List.of_mem_zip hv).1, if_neg hk]
    simp
  | p :: P, w :: vs, i + 1, m, nd, h1, h2, hk => by
    show bindC kindOf ((p, w) :: P.zip vs) m x = _
    unfold bindC
    exact bindC_get (i := i) (List.nodup_cons.mp nd).2 (by simpa using h1) (by simpa using h2) hk

/-- the names' values at the entry -/
def start (N : List Str) (vs : List V) : St := vs.map some ++ List.replicate (N.length - vs.length) none

/-- the context of a def's body, at its entry; an exception leaves the frame, then lies as CX says -/
def cxOf (CX : CXT) (P : Program) (w : World) (K : PySem.W.Frag) (mg : Str → Option Value) (base : Heap) (N : List Str) (qual : Str) (scope : Scope) (f : Addr) (cd : Value) (A : Around) (outer : List Env) (s : Shared) (H : Hp) (E : XK) : Cx where
  prog := P
  w := w
  K := K
  mg := mg
  base := base
  A := A.deeper (envOfC qual scope s.heap.objs.size f cd)
  N := N
  s₀ := s
  H₀ := H
  env := envOfC qual scope s.heap.objs.size f cd
  outer := outer
  stack := envOfC qual scope s.heap.objs.size f cd :: outer
  ex := []
  calm := true
  fn := fun _ => true
  pn := []
  xe := fun e s' => wpAny (model P w) (A.deeper (envOfC qual scope s.heap.objs.size f cd)) (leaving (envOfC qual scope s.heap.objs.size f cd) e) (fun _ s'' => CX outer H s E e s'') (fun e' s'' => CX outer H s E e' s'') s'

theorem cell_has {sc : Scope} {n : Nat} {x : Str} (h : sc.names.lookup x = some .cell) : ∃ c, (cellsFrom n sc.names []).lookup x = some c := by
  have q := PySem.W.cellsFrom_some sc.names n [] (.inl h)
  exact Option.isSome_iff_exists.mp q

theorem inv_start {CX : CXT} {P : Program} {w : World} {K : PySem.W.Frag} {mg : Str → Option Value} {base : Heap} {N ps : List Str} {qual : Str} {scope : Scope} {f : Addr} {cd : Value} {A : Around} {outer : List Env} {s s1 : Shared} {H : Hp} {E : XK} {us : List Value} {vs : List V}
    (S : FnScope N ps scope) (hd : A.handled = none) (e0 : Env0 P w K mg base A outer s H) (hl : vs.length = ps.length) (r : Vals vs us)
    (x : InCallC s s.heap.objs.size (bindL (envOfC qual scope s.heap.objs.size f cd).kindOf (ps.zip us) fun _ => none) (cellsFrom (s.heap.objs.size + 1) scope.names []) (bindC (envOfC qual scope s.heap.objs.size f cd).kindOf (ps.zip us) fun _ => none) s1) :
    Inv (cxOf CX P w K mg base N qual scope f cd A outer s H E) [] (start N vs) H s1 := by
  have hpl : ps.length ≤ N.length := by have := congrArg List.length S.pre; rw [List.length_take] at this; omega
  obtain ⟨h1, tk, rfl, hk⟩ := x.done
  have noA : ∀ b : Addr, b ∉ (cxOf CX P w K mg base N qual scope f cd A outer s H E).ex := fun b z => absurd (show b ∈ ([] : List Addr) from z) (by simp)
  refine ⟨⟨e0.mod, S.kind, rfl, rfl, Nat.le_refl _, fun y z c h1 h2 => ?_, fun y hy => ?_, fun y c _ h => ?_, fun _ => hd, Around.frames_deeper e0.frames, .inr ⟨rfl, rfl⟩, fun b z => absurd z (noA b), e0.bs, e0.bsz, fun b _ _ => noA b, fun b z => absurd z (noA b), e0.funs, e0.frf⟩,
    rfl, e0.bare, Un.kept hk, ⟨_, x.toInCall.ns, fun i y v h1 h2 h3 => ?_⟩, fun y c h => ⟨_, x.cell y c h⟩, e0.hok.fresh (Nat.le_refl _), fun y c h => ?_, fun p hp => absurd (show p ∈ ([] : List (Addr × Obj)) from hp) (by simp), e0.hok.kept hk, ?_⟩
  · exact name_of_addr x.apart (PySem.mem_of_lookup h1) (PySem.mem_of_lookup h2)
  · have hy : scope.names.lookup y = some .cell ∨ scope.names.lookup y = some .free := hy
    rcases hy with hy | hy
    · exact cell_has hy
    · exact absurd rfl (S.nofree _ (PySem.mem_of_lookup hy))
  · exact Nat.le_of_lt (x.above y c (PySem.mem_of_lookup h))
  · have hi : i < vs.length := by
      unfold start at h2
      by_cases hi : i < vs.length
      · exact hi
      · rw [List.getElem?_append_right (by simpa using hi)] at h2
        rw [List.getElem?_replicate] at h2
        split at h2 <;> cases h2
    have ha : vs[i]? = some v := by
      unfold start at h2
      rw [List.getElem?_append_left (by simpa using hi), List.getElem?_map] at h2
      cases e : vs[i]? with
      | none => rw [e] at h2; cases h2
      | some a => rw [e] at h2; cases h2; rfl
    obtain ⟨u, hu, rv⟩ := r.get ha
    have hp : ps[i]? = some y := by
      rw [← S.pre, List.getElem?_take_of_lt (by omega)]; exact h1
    have ndP : ps.Nodup := by rw [← S.pre]; exact S.nd.sublist (List.take_sublist _ _)
    refine ⟨u, rv, ?_⟩
    rcases S.par y (List.mem_of_getElem? hp) with k | k
    · exact .inl ⟨k, bindL_get ndP hp hu k⟩
    · obtain ⟨c, e⟩ := cell_has (n := s.heap.objs.size + 1) k
      refine .inr ⟨.inl k, c, e, ?_⟩
      have q := x.cell y c e
      rw [bindC_get ndP hp hu (by show scope.names.lookup y ≠ _; rw [k]; decide)] at q
      exact q
  · exact e0.hok.fresh (Nat.le_of_lt (x.above y c (PySem.mem_of_lookup h)))
  · unfold start
    show _ = N.length
    rw [List.length_append, List.length_map, List.length_replicate]
    omega

/-- THE RULE: a def (or a method) of the text, by its body. The body's reading t is chosen for each entry; it is run at the parameters' values -/
theorem fn_of {CX : CXT} {P : Program} {w : World} {K : PySem.W.Frag} {mg : Str → Option Value} {base : Heap} {k : Nat} {f : Addr} {name qual : Str} {params : Arguments} {body : List Stmt} {scope : Scope} {dV kV doc pm cdv ct oc : Value} {an od : Option Addr}
    {osl : Array (Option Value)} {N ps : List Str} {sp : Sp} (lk : K.lookup f = some ⟨oc, od, .func (PySem.W.fnOf name qual params body scope dV kV doc pm an cdv ct), osl⟩) (hcd : PySem.W.codeIn K cdv qual = true) (S : FnScope N ps scope)
    (len : ∀ vs H Q E, sp vs H Q E → vs.length = ps.length)
    (hbody : ∀ (A : Around) (outer : List Env) (s : Shared) (H : Hp) (vs : List V) (Q : VK) (E : XK), Room k (A.deeper (envOfC qual scope s.heap.objs.size f cdv)) → sp vs H Q E →
      ∃ t, PSs (cxOf CX P w K mg base N qual scope f cdv A outer s H E) body t ∧ t { nx := fun _ H' => Q .non H', rt := Q } (start N vs) H) :
    FnOk P w K mg base CX (k + 1) f (PySem.W.fnOf name qual params body scope dV kV doc pm an cdv ct) ps sp := by
  refine ⟨len, fun A outer s H args us vs Q E hr e0 hb r hsp => ?_⟩
  have hl := len _ _ _ _ hsp
  have KX : K.In s.heap := e0.mod.kin.keeps fun b o e => (e0.bs b o e).1
  have lim : s.heap.NoLimit := e0.mod.nolimit.keeps fun b o e => (e0.bs b o e).1
  have hkind : ∀ y ∈ ps.zip us, scope.names.lookup y.1 = some .local ∨ (scope.names.lookup y.1 = some .cell ∧ ((cellsFrom (s.heap.objs.size + 1) scope.names []).lookup y.1).isSome = true) := fun ⟨n, v⟩ hy => by
    rcases S.par n (List.of_mem_zip hy).1 with q | q
    · exact .inl q
    · exact .inr ⟨q, PySem.W.cellsFrom_some _ _ _ (.inl q)⟩
  refine codeAny_call_function hr.depth (KX _ _ lk) rfl S.co S.gen rfl (PySem.W.codeRec_of KX hcd) (hb _ _ _ _ ?_)
  refine wpAny_newFunctionEnv_cells S.kind hkind fun env he s1 x => ?_
  subst he
  refine ⟨lim.keeps x.toInCall.keep, codeAny_func ?_⟩
  obtain ⟨t, ht, hq⟩ := hbody A outer s H vs Q E (hr.deeper _) hsp
  have I : Inv (cxOf CX P w K mg base N qual scope f cdv A outer s H E) [] (start N vs) H s1 := inv_start S hr.hd e0 hl r x
  refine wpAny_mono (ht [] s1 (start N vs) H _ I hq) (fun fl s' hs => ?_) fun e s' hs => hs
  have fin : ∀ {σ' : St} {H' : Hp} {v : V} {u : Value}, Inv (cxOf CX P w K mg base N qual scope f cdv A outer s H E) [] σ' H' s' → RelV v u → Q v H' → CE outer P w H s Q u s' :=
    fun {σ' H' v u} J rv q => ⟨v, H', J.os, J.bare, J.base, J.hok, rv, q⟩
  cases fl with
  | ret u =>
    obtain ⟨v, σ', H', J, rv, q⟩ := hs
    exact fin J rv q
  | next =>
    obtain ⟨σ', H', J, q⟩ := hs
    exact fin (v := V.non) (u := Value.none) J rfl q
  | brk =>
    obtain ⟨_, _, _, q⟩ := hs
    exact False.elim q
  | cont =>
    obtain ⟨_, _, _, q⟩ := hs
    exact False.elim q
end L2

namespace L2
open PySem PySem.Spec PyProof.Rows
section
variable {X : Cx} {x : Str} {p pos : Pos} {e : Expr} {es : List Expr} {t : TA} {id T : String} {r : List V → Hp → VK → Prop}

def tCB (r : List V → Hp → VK → Prop) (t : TA) : TE := fun σ H Q => t σ H fun vs H1 => r vs H1 Q
/-- f(e, ..), f a built-in function -/
theorem pe_callB (hc : CallR X (.builtin id) r) (hg : Gl X x) (hm : X.mg x = none) (hv : bootBuiltins x = some (.builtin id)) (ha : PA X (e :: es) t) (hn : x ≠ "__name__" := by decide) (hdb : (x == ("__debug__" : Str)) = false := by decide)
    (he : starEach (e :: es) X.env = (false, eval e X.env) :: starEach es X.env := by rfl) (hpl : (backTo pos (starEach es X.env)).any (·.1) = false := by rfl) : PE X (.Call (.Name x p) (e :: es) [] pos) (tCB r t) := by
  intro pins s σ H Q I h
  refine wpAny_Call_Name_kw (ld_blt I hg hm hv ?_ hn hdb)
  exact PyProof.Rows.callWith_builtin1 (thn (ha pos pins s σ H _ I h) fun us s1 ⟨vs, H1, I1, r1, q1⟩ => hc pins s1 σ H1 vs us Q I1 r1 q1) he hpl
/-- T(e, ..), T a built-in type -/
theorem pe_callTy (hc : CallR X (.type T) r) (hg : Gl X x) (hm : X.mg x = none) (hv : bootBuiltins x = some (.type T)) (ha : PA X (e :: es) t) (hn : x ≠ "__name__" := by decide) (hdb : (x == ("__debug__" : Str)) = false := by decide)
    (he : starEach (e :: es) X.env = (false, eval e X.env) :: starEach es X.env := by rfl) (hpl : (backTo pos (starEach es X.env)).any (·.1) = false := by rfl) : PE X (.Call (.Name x p) (e :: es) [] pos) (tCB r t) := by
  intro pins s σ H Q I h
  refine wpAny_Call_Name_kw (ld_blt I hg hm hv ?_ hn hdb)
  exact PyProof.Rows.callWith_type1 (thn (ha pos pins s σ H _ I h) fun us s1 ⟨vs, H1, I1, r1, q1⟩ => hc pins s1 σ H1 vs us Q I1 r1 q1) he hpl
end
end L2

namespace HT
open PySem PyProof.Rows

/-- t < u of tuples of ints -/
def lexLt : List Int → List Int → Bool
  | [], [] => false
  | [], _ :: _ => true
  | _ :: _, [] => false
  | x :: xs, y :: ys => if x = y then lexLt xs ys else decide (x < y)
section
open PySem.SeqAt
open PySem.AutoSeq1 (wpAny_loadPart')
open PySem.MeetsSeq PySem.MeetsSeq2 PySem.MeetsSeq3

end

section
variable {prog : Program} {w : World} {A : Around} {E : Value → Shared → Prop} {s : Shared}

/-! ### t[a:b], not the whole -/
/-- a slice's bound as a place among n (d where it is left out) -/
def sIx (n d : Nat) : Option Int → Nat
  | none => d
  | some v => if v < 0 then (v + (n : Int)).toNat else min v.toNat n
end
end HT

namespace L2
open PySem PySem.Spec PyProof.Rows

/-! ### the parts of a slice -/
abbrev TO := St → Hp → (Option Int → Hp → Prop) → Prop
/-- a slice's part (left out, or an int) -/
def PO (X : Cx) (e : Option Expr) (t : TO) : Prop :=
  ∀ (pins : List (Addr × Obj)) (s : Shared) (σ : St) (H : Hp) (Q : Option Int → Hp → Prop), Inv X pins σ H s → t σ H Q →
    wpAny (model X.prog X.w) X.A (evalPart e X.env) (fun u s' => ∃ o H', Inv X pins σ H' s' ∧ IsPart u o ∧ Q o H') X.xe s
def tNoPart : TO := fun _ H Q => Q none H
def tPart (t : TE) : TO := fun σ H Q => t σ H fun x H1 => ∃ i, x = .int i ∧ Q (some i) H1

section
variable {X : Cx} {e : Expr} {te : TE} {lo hi : Option Expr} {tl th : TO} {pos p2 : Pos}

/-- what a slice of a value is, by values: the slice object stands at sl -/
def SlR (X : Cx) (r : V → Option Int → Option Int → Hp → VK → Prop) : Prop :=
  ∀ (pins : List (Addr × Obj)) (s : Shared) (σ : St) (H : Hp) (x : V) (v vl vu : Value) (lo hi : Option Int) (sl : Addr) (Q : VK), Inv X pins σ H s → RelV x v → s.heap.IsSliceOf sl vl vu .none → IsPart vl lo → IsPart vu hi → r x lo hi H Q →
    ∃ T id, typeLookup (.type T) "__getitem__" = pure (some (.builtin id)) ∧ s.TypeIs v T ∧ wpAny (model X.prog X.w) X.A (getItem v (.ref sl)) (EP X pins σ Q) X.xe s
def tSl (r : V → Option Int → Option Int → Hp → VK → Prop) (te : TE) (tl th : TO) : TE := fun σ H Q => te σ H fun x H1 => tl σ H1 fun l H2 => th σ H2 fun u H3 => r x l u H3 Q
/-- the items of xs[lo:hi] -/
def cutV (xs : List V) (lo hi : Option Int) : List V := (xs.drop (HT.sIx xs.length 0 lo)).take (HT.sIx xs.length xs.length hi - HT.sIx xs.length 0 lo)
/-- t[lo:hi], not the whole of it (the whole would be t itself) -/
def rSlT (K : PySem.W.Frag) : V → Option Int → Option Int → Hp → VK → Prop := fun x lo hi H Q => ∃ a xs, x = .ref a ∧ SqT K H a xs ∧
  ¬ (HT.sIx xs.length 0 lo = 0 ∧ HT.sIx xs.length xs.length hi = xs.length) ∧ ∀ p, H p = none → Q (.ref p) (upd H p (.tup (cutV xs lo hi)))
/-! ### t < u, t + u -/
def rLtT (K : PySem.W.Frag) : R2 := fun x y H Q => ∃ a b ns ms, x = .ref a ∧ y = .ref b ∧ SqT K H a (ns.map V.int) ∧ SqT K H b (ms.map V.int) ∧ Q (.bl (HT.lexLt ns ms)) H
/-- t + u, t not empty: u empty gives t itself -/
def rCatT (K : PySem.W.Frag) : R2 := fun x y H Q => ∃ a b xs ys, x = .ref a ∧ y = .ref b ∧ SqT K H a xs ∧ SqT K H b ys ∧ xs ≠ [] ∧ xs.length + ys.length ≤ sizeLine ∧
  (ys = [] → Q (.ref a) H) ∧ (ys ≠ [] → ∀ p, H p = none → Q (.ref p) (upd H p (.tup (xs ++ ys))))
end
end L2

namespace L2
open PySem PySem.Spec PyProof.Rows

/-! ### places -/
/-- the place that an index of any sign means -/
def ixN (n : Nat) (i : Int) : Option Nat := if 0 ≤ i then (if i < n then some i.toNat else none) else if -(n : Int) ≤ i then some (i + n).toNat else none
def atI {α : Type} (xs : List α) (i : Int) : Option α := (ixN xs.length i).bind fun j => xs[j]?
theorem ixN_seq {n : Nat} {i : Int} {j : Nat} (h : ixN n i = some j) : seqIndex? i n = some j ∧ j < n ∧ -(n : Int) ≤ i ∧ i < n := by
  unfold ixN at h
  by_cases h0 : 0 ≤ i
  · rw [if_pos h0] at h
    by_cases h1 : i < n
    · rw [if_pos h1] at h
      have e : i.toNat = j := Option.some.inj h
      exact ⟨by rw [seqIndex_of h0 h1, e], by omega, by omega, h1⟩
    · rw [if_neg h1] at h; cases h
  · rw [if_neg h0] at h
    by_cases h1 : -(n : Int) ≤ i
    · rw [if_pos h1] at h
      have e : (i + n).toNat = j := Option.some.inj h
      exact ⟨by rw [seqIndex_neg (by omega) h1, e], by omega, h1, by omega⟩
    · rw [if_neg h1] at h; cases h
theorem atI_get {α : Type} {xs : List α} {i : Int} {v : α} (h : atI xs i = some v) : ∃ j, seqIndex? i xs.length = some j ∧ xs[j]? = some v ∧ j < xs.length ∧ -(xs.length : Int) ≤ i ∧ i < xs.length := by
  unfold atI at h
  cases e : ixN xs.length i with
  | none => rw [e] at h; cases h
  | some j =>
    rw [e] at h
    obtain ⟨h1, h2, h3, h4⟩ := ixN_seq e
    exact ⟨j, h1, h, h2, h3, h4⟩
theorem atI_nat {α : Type} {xs : List α} {j : Nat} {v : α} (h : xs[j]? = some v) : atI xs (j : Int) = some v := by
  have hj : j < xs.length := (List.getElem?_eq_some_iff.mp h).1
  have e : ixN xs.length (j : Int) = some j := by
    unfold ixN
    rw [if_pos (by omega), if_pos (by omega)]; simp
  unfold atI; rw [e]; exact h
/-! ### what may be subscripted -/
/-- what stands as an index of a plain subscript -/
def PlainIx (b : Expr) : Prop := ∀ o i, subscripted b false o i = operate [o, i] (getItem o i)
/-- a subscript by values -/
def IxR (X : Cx) (r : R2) : Prop :=
  ∀ (value slice : Expr) (pins : List (Addr × Obj)) (s : Shared) (σ : St) (H : Hp) (x y : V) (v u : Value) (Q : VK), Inv X pins σ H s → RelV x v → RelV y u → r x y H Q →
    subscripted slice false v u = operate [v, u] (getItem v u) → wpAny (model X.prog X.w) X.A (subscriptTail value slice v u) (EP X pins σ Q) X.xe s
/-- a call of a builtin's method by values: the receiver, the arguments -/
def MtR (X : Cx) (id : String) (r : V → List V → Hp → VK → Prop) : Prop :=
  ∀ (pins : List (Addr × Obj)) (s : Shared) (σ : St) (H : Hp) (x : V) (xs : List V) (v : Value) (us : List Value) (Q : VK), Inv X pins σ H s → RelV x v → Vals xs us → r x xs H Q →
    wpAny (model X.prog X.w) X.A (call (.builtin id) (v :: us)) (EP X pins σ Q) X.xe s
section
variable {X : Cx} {a b : Expr} {ta tb : TE} {pos : Pos}
/-- a[b] -/
theorem pe_ix {r : R2} (hr : IxR X r) (ha : PE X a ta) (hb : PE X b tb) (hs : PlainIx b) : PE X (.Subscript a b pos) (tOp r ta tb) := by
  intro pins s σ H Q I h
  exact Subscript_ (binT ha hb I h fun v u s2 x y H2 I2 rx ry q => hr a b pins s2 σ H2 x y v u Q I2 rx ry q (hs _ _))

def rIxL (K : PySem.W.Frag) : R2 := fun x y H Q => ∃ p xs i v, x = .ref p ∧ y = .int i ∧ SqL K H p xs ∧ atI xs i = some v ∧ Q v H
def rIxT (K : PySem.W.Frag) : R2 := fun x y H Q => ∃ p xs i v, x = .ref p ∧ y = .int i ∧ SqT K H p xs ∧ atI xs i = some v ∧ Q v H
def rIxS : R2 := fun x y H Q => ∃ z i c, x = .str z ∧ y = .int i ∧ z.length ≤ sizeLine ∧ atI z.cps.toList i = some c ∧ Q (.str ⟨#[c]⟩) H
theorem ix_list : IxR X (rIxL X.K) := by
  intro value slice pins s σ H x y v u Q I rx ry h hs
  obtain ⟨p, xs, i, z, rfl, rfl, hq, he, q⟩ := h
  cases rx
  obtain ⟨t, rfl⟩ := ry
  obtain ⟨its, r, pl, hz⟩ := I.list hq
  obtain ⟨j, h1, h2, h3, h4, h5⟩ := atI_get he
  obtain ⟨w, ew, rw'⟩ := r.get h2
  have hl := r.length
  have hn := line63
  have fin : EP X pins σ Q w s := ⟨z, H, I, rw', q⟩
  by_cases h0 : 0 ≤ i
  · have hj : i.toNat = j := by
      rw [seqIndex_of h0 h5] at h1
      exact Option.some.inj h1
    exact item_listR pl.isList h0 (by omega) (by rw [hj]; simpa using ew) fin hs
  · have hj : (i + (its.toArray.size : Int)).toNat = j := by
      rw [seqIndex_neg (by omega) h4] at h1
      rw [List.size_toArray, ← hl]
      exact Option.some.inj h1
    exact subscriptTail_builtinR (x := w) pl.isList.typeIs slot_list_getitem.lookup
      (wpAny_getItem_list_neg (Q := fun r s' => r = w ∧ EP X pins σ Q r s') pl.isList (by omega) (by rw [List.size_toArray] <;> omega) (by omega) (by rw [hj]; simpa using ew) ⟨rfl, fin⟩) hs
theorem ix_tup : IxR X (rIxT X.K) := by
  intro value slice pins s σ H x y v u Q I rx ry h hs
  obtain ⟨p, xs, i, z, rfl, rfl, hq, he, q⟩ := h
  cases rx
  obtain ⟨t, rfl⟩ := ry
  obtain ⟨its, r, pl, hz⟩ := I.tuple hq
  obtain ⟨j, h1, h2, h3, h4, h5⟩ := atI_get he
  obtain ⟨w, ew, rw'⟩ := r.get h2
  have hl := r.length
  have hn := line63
  have fin : EP X pins σ Q w s := ⟨z, H, I, rw', q⟩
  exact subscriptTail_builtinR (x := w) pl.typeIs slot_tuple_getitem.lookup
    (getItem_tuple (j := j) (Q := fun r s' => r = w ∧ EP X pins σ Q r s') pl (by omega) (by omega) (by rw [List.size_toArray, ← hl]; exact h1) (by simpa using ew) ⟨rfl, fin⟩) hs
/-- list, tuple or str -/
def rIx (K : PySem.W.Frag) : R2 := fun x y H Q => rIxL K x y H Q ∨ rIxT K x y H Q ∨ rIxS x y H Q
/-! ### xs[i] = v, any sign -/
def rSetL : V → V → V → Hp → (Hp → Prop) → Prop := fun o i v H Q => ∃ p xs k j, o = .ref p ∧ i = .int k ∧ H p = some (.lst xs) ∧ ixN xs.length k = some j ∧ Q (upd H p (.lst (xs.set j v)))
/-! ### slices -/
/-- xs[lo:hi] of a list: a new list -/
def rSlL (K : PySem.W.Frag) : V → Option Int → Option Int → Hp → VK → Prop := fun x lo hi H Q => ∃ a xs, x = .ref a ∧ SqL K H a xs ∧ ∀ p, H p = none → Q (.ref p) (upd H p (.lst (cutV xs lo hi)))
/-! ### in, not in: flat items -/
def flatV : V → Bool
  | .non => true
  | .bl _ => true
  | .int _ => true
  | .str _ => true
  | _ => false
/-- == of flat values -/
def eqV : V → V → Bool
  | .non, .non => true
  | .bl a, .bl b => a == b
  | .bl a, .int b => (if a then 1 else 0) == b
  | .int a, .bl b => a == (if b then 1 else 0)
  | .int a, .int b => a == b
  | .str a, .str b => a == b
  | _, _ => false
theorem eqAt_V {A : Around} {s : Shared} {y x : V} {u v : Value} (ry : RelV y u) (rx : RelV x v) (fy : flatV y = true) (fx : flatV x = true) : SeqAt.EqAt A s u v (eqV y x) := by
  cases y with
  | non =>
    cases ry
    cases x with
    | non => cases rx; exact SeqAt.EqAt.same _
    | bl b => cases rx; exact SeqAt.EqAt.none_bool b
    | int b => obtain ⟨t, rfl⟩ := rx; exact SeqAt.EqAt.none_int b t
    | str b => obtain ⟨t, rfl⟩ := rx; exact SeqAt.EqAt.none_str b t
    | _ => exact absurd (show false = true from fx) Bool.false_ne_true
  | bl a =>
    cases ry
    cases x with
    | non => cases rx; exact SeqAt.EqAt.bool_none a
    | bl b => cases rx; exact SeqAt.EqAt.bool_bool a b
    | int b => obtain ⟨t, rfl⟩ := rx; exact SeqAt.EqAt.bool_int a b t
    | str b => obtain ⟨t, rfl⟩ := rx; exact SeqAt.EqAt.bool_str a b t
    | _ => exact absurd (show false = true from fx) Bool.false_ne_true
  | int a =>
    obtain ⟨t', rfl⟩ := ry
    cases x with
    | non => cases rx; exact SeqAt.EqAt.int_none a t'
    | bl b => cases rx; exact SeqAt.EqAt.int_bool a t' b
    | int b => obtain ⟨t, rfl⟩ := rx; exact SeqAt.EqAt.int_int a t' b t
    | str b => obtain ⟨t, rfl⟩ := rx; exact SeqAt.EqAt.int_str a t' b t
    | _ => exact absurd (show false = true from fx) Bool.false_ne_true
  | str a =>
    obtain ⟨t', rfl⟩ := ry
    cases x with
    | non => cases rx; exact SeqAt.EqAt.str_none a t'
    | bl b => cases rx; exact SeqAt.EqAt.str_bool a t' b
    | int b => obtain ⟨t, rfl⟩ := rx; exact SeqAt.EqAt.str_int a t' b t
    | str b => obtain ⟨t, rfl⟩ := rx; exact SeqAt.EqAt.str_str a t' b t
    | _ => exact absurd (show false = true from fx) Bool.false_ne_true
  | _ => exact absurd (show false = true from fy) Bool.false_ne_true
/-- the items' answers, read off the values (a value's own answer does not lean on its token) -/
def eqU (x : V) (u : Value) : Bool := match u with
  | .none => eqV .non x
  | .bool b => eqV (.bl b) x
  | .int i _ => eqV (.int i) x
  | .str z _ => eqV (.str z) x
  | _ => false
def inV (x : V) (xs : List V) : Bool := xs.any fun y => eqV y x
/-- x in a list or tuple of flat items -/
def rIn (K : PySem.W.Frag) (neg : Bool) : R2 := fun x y H Q => ∃ p xs, y = .ref p ∧ (SqL K H p xs ∨ SqT K H p xs) ∧ flatV x = true ∧ xs.all flatV = true ∧ Q (.bl (if neg then !inV x xs else inV x xs)) H
/-! ### len, list(x), tuple(x) of any list or tuple that is read -/
theorem call_len_seq : CallR X (.builtin "len") (fun xs H Q => ∃ p ys, xs = [.ref p] ∧ (SqL X.K H p ys ∨ SqT X.K H p ys) ∧ Q (.int ys.length) H) := by
  intro pins s σ H xs us Q I r h
  obtain ⟨p, ys, rfl, hq, q⟩ := h
  obtain ⟨u, rfl, rx⟩ := vals1 r
  cases rx
  have hn := line63
  rcases hq with hq | hq
  · obtain ⟨its, r', pl, hz⟩ := I.list hq
    have hlen := r'.length
    exact Calls.call_len_list pl.isList (by simp only [List.size_toArray] <;> omega) ⟨.int ys.length, H, I.tok _, ⟨s.toks + 1, by rw [List.size_toArray, hlen]⟩, q⟩
  · obtain ⟨its, r', pl, hz⟩ := I.tuple hq
    have hlen := r'.length
    exact len_tuple pl (by simp only [List.size_toArray] <;> omega) ⟨.int ys.length, H, I.tok _, ⟨s.toks + 1, by rw [List.size_toArray, hlen]⟩, q⟩
theorem call_list_of : CallR X (.type "list") (fun xs H Q => ∃ p ys, xs = [.ref p] ∧ (SqL X.K H p ys ∨ SqT X.K H p ys) ∧ ∀ l, H l = none → Q (.ref l) (upd H l (.lst ys))) := by
  intro pins s σ H xs us Q I r h
  obtain ⟨p, ys, rfl, hq, q⟩ := h
  obtain ⟨u, rfl, rx⟩ := vals1 r
  cases rx
  have fin : ∀ (its : List Value), Vals ys its → ys.length ≤ sizeLine → ∀ (h' : Heap) (c' : Nat), (∀ b o', s.heap.get? b = some o' → h'.get? b = some o') →
      h'.get? s.heap.objs.size = some { cls := .type "list", dict := none, data := .seq its.toArray c', slots := #[] } → EP X pins σ Q (.ref s.heap.objs.size) { s with heap := h' } := fun its r' hz h' c' kp e =>
    ⟨.ref s.heap.objs.size, _, I.laid (t' := s.toks) kp (Nat.le_refl _) (show ObjOk X.prog X.w _ h' _ (.lst ys) from ⟨hz, its, c', r', e⟩), rfl, q _ (I.hok.fresh (Nat.le_refl _))⟩
  rcases hq with hq | hq
  · obtain ⟨its, r', pl, hz⟩ := I.list hq
    have hlen := r'.length
    obtain ⟨o, ho, hc, n, hd⟩ := pl.isList
    exact call_list_seq p (.inl rfl) ho hc hd (fun h' c' kp e => fin its r' hz h' c' kp e) (by simp only [List.size_toArray] <;> omega)
  · obtain ⟨its, r', pl, hz⟩ := I.tuple hq
    have hlen := r'.length
    obtain ⟨o, ho, hc, n, hd⟩ := pl
    exact call_list_seq p (.inr rfl) ho hc hd (fun h' c' kp e => fin its r' hz h' c' kp e) (by simp only [List.size_toArray] <;> omega)
theorem call_tuple_of : CallR X (.type "tuple") (fun xs H Q => ∃ p ys, xs = [.ref p] ∧ ((SqL X.K H p ys ∧ ∀ l, H l = none → Q (.ref l) (upd H l (.tup ys))) ∨ (SqT X.K H p ys ∧ Q (.ref p) H))) := by
  intro pins s σ H xs us Q I r h
  obtain ⟨p, ys, rfl, h⟩ := h
  obtain ⟨u, rfl, rx⟩ := vals1 r
  cases rx
  rcases h with ⟨hq, q⟩ | ⟨hq, q⟩
  · obtain ⟨its, r', pl, hz⟩ := I.list hq
    have hlen := r'.length
    refine call_tuple_list pl.isList (fun h' kp => ?_) (by simp only [List.size_toArray] <;> omega)
    have I1 : Inv X pins σ H { s with heap := h' } := I.kept (t' := s.toks) kp
    have I2 : Inv X pins σ (upd H h'.objs.size (.tup ys)) { s with heap := h'.push { cls := .type "tuple", data := .seq its.toArray } } :=
      I1.laid (t' := s.toks) (fun b o e => Heap.get?_push_of_some _ e) (Nat.le_refl _) (show ObjOk X.prog X.w _ _ _ (.tup ys) from ⟨hz, its, r', IsTup.new _ _⟩)
    exact ⟨.ref h'.objs.size, _, I2, rfl, q _ (I1.hok.fresh (Nat.le_refl _))⟩
  · obtain ⟨its, r', pl, hz⟩ := I.tuple hq
    exact call_tuple_same pl ⟨.ref p, H, I, rfl, q⟩

/-! ### the call of a builtin's method: o.m(..) -/
/-- the value is of that builtin type -/
def tyV (K : PySem.W.Frag) (T : String) (x : V) (H : Hp) : Prop := match x with
  | .str _ => T = "str"
  | .int _ => T = "int"
  | .ref p => (T = "list" ∧ ∃ xs, SqL K H p xs) ∨ (T = "tuple" ∧ ∃ o, K.lookup p = some o ∧ o.cls = .type "tuple" ∧ o.dict = none) ∨
      (T = "dict" ∧ ((∃ kvs, H p = some (.dK kvs)) ∨ ∃ kvs, H p = some (.dT kvs))) ∨ (T = "set" ∧ ∃ S n, H p = some (.set S n))
  | _ => False
theorem tyV_is {pins : List (Addr × Obj)} {σ : St} {H : Hp} {s : Shared} {T : String} {x : V} {v : Value} (I : Inv X pins σ H s) (r : RelV x v) (ty : tyV X.K T x H) :
    s.TypeIs v T ∧ ∀ a, v = .ref a → ∃ ob, s.heap.get? a = some ob ∧ ob.dict = none := by
  cases x with
  | str z =>
    obtain ⟨t, rfl⟩ := r
    cases (show T = "str" from ty)
    exact ⟨typeIs_str s z t, fun _ e => nomatch e⟩
  | int i =>
    obtain ⟨t, rfl⟩ := r
    cases (show T = "int" from ty)
    exact ⟨typeIs_int s i t, fun _ e => nomatch e⟩
  | ref p =>
    cases r
    rcases ty with ⟨rfl, xs, hq⟩ | ⟨rfl, o, hk, hc, hd⟩ | ⟨rfl, hk⟩ | ⟨rfl, S, n, hk⟩
    · obtain ⟨its, _, pl, _⟩ := I.list hq
      refine ⟨pl.isList.typeIs, fun a e => ?_⟩
      cases e
      obtain ⟨o, n, e, c, hd, _⟩ := pl
      exact ⟨o, e, hd⟩
    · refine ⟨⟨o, I.kIn p o hk, hc⟩, fun a e => ?_⟩
      cases e
      exact ⟨o, I.kIn _ o hk, hd⟩
    · have z : ∃ o, s.heap.get? p = some o ∧ o.ExactDict := by
        rcases hk with ⟨kvs, hk⟩ | ⟨kvs, hk⟩
        · obtain ⟨_, _, _, _, o, _, _, e, ex, _⟩ := I.hok p _ hk
          exact ⟨o, e, ex⟩
        · obtain ⟨_, _, _, _, o, _, _, e, ex, _⟩ := I.hok p _ hk
          exact ⟨o, e, ex⟩
      obtain ⟨o, e, ex⟩ := z
      refine ⟨⟨o, e, ex.1⟩, fun a e2 => ?_⟩
      cases e2
      exact ⟨o, e, ex.2.1⟩
    · obtain ⟨o, _, _, _, e, ex, _⟩ := I.hok p _ hk
      refine ⟨⟨o, e, ex.1⟩, fun a e2 => ?_⟩
      cases e2
      exact ⟨o, e, ex.2.1⟩
  | _ => exact False.elim ty
def tBM0 (K : PySem.W.Frag) (T : String) (r : V → List V → Hp → VK → Prop) (to : TE) : TE := fun σ H Q => to σ H fun x H1 => tyV K T x H1 ∧ r x [] H1 Q
def tBM (K : PySem.W.Frag) (T : String) (r : V → List V → Hp → VK → Prop) (to : TE) (t : TA) : TE := fun σ H Q => to σ H fun x H1 => tyV K T x H1 ∧ t σ H1 fun xs H2 => r x xs H2 Q
variable {o e : Expr} {es : List Expr} {to : TE} {t : TA} {name : Str} {apos cpos : Pos} {T id : String} {r : V → List V → Hp → VK → Prop}
theorem pe_bm (pa : PlainAttrs T) (slot : Slot T name id) (hty : typeOf (.builtin id) = pure (.type "method_descriptor")) (hm : MtR X id r) (ho : PE X o to) (ha : PA X (e :: es) t)
    (hbase : attributeBase o name X.env (eval o X.env) = eval o X.env := by rfl)
    (hfew : ((backTo cpos (starEach (e :: es) X.env)).all (fun x => !x.1) && (backToKw cpos (keywordEach [] X.env)).all (fun x => x.1.isSome)
      && decide ((e :: es).length + ([] : List Keyword).length + (if ([] : List Keyword).isEmpty then 0 else 1) < 30)) = true := by rfl)
    (hline : (apos.endLine == cpos.line) = true := by rfl) (hs : starEach (e :: es) X.env = (false, eval e X.env) :: starEach es X.env := by rfl) (hplain : (backTo cpos (starEach es X.env)).any (·.1) = false := by rfl) :
    PE X (.Call (.Attribute o name apos) (e :: es) [] cpos) (tBM X.K T r to t) := by
  intro pins s σ H Q I h
  refine wpAny_Call_method_late hbase hfew hline rfl (thn (ho pins s σ H _ I h) fun v s1 ⟨x, H1, I1, r1, ty, q1⟩ => ?_)
  obtain ⟨h1, h2⟩ := tyV_is I1 r1 ty
  refine ⟨T, id, pa, slot, hty, h1, h2, ?_⟩
  have hA := ha cpos pins s1 σ H1 _ I1 q1
  rw [hs] at hA ⊢
  refine Calls.callWith_builtin (by show (false || (backTo cpos (starEach es X.env)).any (·.1)) = false; rw [hplain] <;> rfl) (Calls.evalArgs_plain ?_)
  exact thn hA fun us s2 ⟨vs, H2, I2, r2, q2⟩ => hm pins s2 σ H2 x vs v us Q I2 r1 r2 q2
/- xs.append(e), list.index on a module's tuple .. are MtR facts of 06m -/
end
end L2

namespace L2
open PySem PySem.Spec PyProof.Rows

def MtM (X : Cx) (id : String) (r : V → List V → Hp → VK → Prop) : Prop :=
  ∀ (pins : List (Addr × Obj)) (s : Shared) (σ : St) (H : Hp) (x : V) (xs : List V) (v : Value) (us : List Value) (Q : VK), Inv X pins σ H s → RelV x v → Vals xs us → r x xs H Q →
    wpAny (model X.prog X.w) X.A (call (.builtin id) (v :: us)) (EP X pins σ Q) X.xe s

/-! ### lists of values -/
theorem Vals.one : ∀ {x : V} {us : List Value}, Vals [x] us → ∃ u, us = [u] ∧ RelV x u
  | _, _, .cons r .nil => ⟨_, rfl, r⟩
section
variable {X : Cx} {pins : List (Addr × Obj)} {σ : St} {H : Hp} {s : Shared} {l b : Addr} {xs ys zs : List V}

/-! ### the two steps: a tracked list is rewritten, a new list is laid -/
theorem Inv.lset {its its' : List Value} {n : Nat} {f : Array Value → Array Value} {t' : Nat} (I : Inv X pins σ H s) (hH : H l = some (.lst xs))
    (e : s.heap.get? l = some { cls := .type "list", data := .seq its.toArray n }) (hf : f its.toArray = its'.toArray) (hv : Vals ys its') (hz : ys.length ≤ sizeLine) :
    Inv X pins σ (upd H l (.lst ys)) { s with heap := s.heap.update l (Obj.mapSeq f), toks := t' } := by
  have q := PySem.IsL.update e f
  rw [hf] at q
  refine I.write (x := l) (e := l) (by rw [hH]; exact trivial) (.inl rfl) (fun b' u hb hu => (Heap.get?_update_other s.heap (Obj.mapSeq f) (Ne.symm hb)).trans hu) ⟨_, q⟩ ?_
  exact ⟨hz, its', _, hv, q⟩
theorem Inv.lnew {its : List Value} {t' : Nat} (I : Inv X pins σ H s) (hv : Vals ys its) (hz : ys.length ≤ sizeLine) :
    Inv X pins σ (upd H s.heap.objs.size (.lst ys)) { s with heap := s.heap.push { cls := .type "list", data := .seq its.toArray }, toks := t' } :=
  I.laid (fun _ _ q => Heap.get?_push_of_some _ q) (Nat.le_refl _) ⟨hz, its, 0, hv, Heap.get?_push_size _ rfl⟩
theorem Inv.fresh (I : Inv X pins σ H s) : H s.heap.objs.size = none := I.hok.fresh (Nat.le_refl _)
theorem Inv.lstM (I : Inv X pins σ H s) (hH : H l = some (.lst xs)) : xs.length ≤ sizeLine ∧ ∃ (its : List Value) (n : Nat), Vals xs its ∧ xs.length = its.length ∧ s.heap.get? l = some { cls := .type "list", data := .seq its.toArray n } := by
  obtain ⟨z, its, n, r, e⟩ := I.hok l _ hH
  exact ⟨z, its, n, r, r.length, e⟩

end

section
variable {X : Cx}

/-! ### methods -/
def rAppend : V → List V → Hp → VK → Prop := fun x vs H Q => ∃ l xs y, x = .ref l ∧ vs = [y] ∧ H l = some (.lst xs) ∧ xs.length < sizeLine ∧ Q .non (upd H l (.lst (xs ++ [y])))
theorem mt_append : MtM X "list.append" rAppend := by
  intro pins s σ H x vs v us Q I rx rv h
  obtain ⟨l, xs, y, rfl, rfl, hH, hz, q⟩ := h
  cases rx
  obtain ⟨u, rfl, ru⟩ := rv.one
  obtain ⟨z, its, n, r, hl, e⟩ := I.lstM hH
  refine call_meets F.slot_list_append ⟨_, e, rfl⟩ F.entry_list_append (F.args_list_append_2 _ _) (PySem.list_append l its.toArray n u (by rw [List.size_toArray]; omega)) ⟨e, ?_⟩
  refine ⟨.non, _, I.lset (its' := its ++ [u]) hH e (by simp) (r.append (.cons ru .nil)) ?_, rfl, q⟩
  rw [List.length_append, List.length_singleton]
  omega

def rExtend : V → List V → Hp → VK → Prop := fun x vs H Q => ∃ l b xs zs, x = .ref l ∧ vs = [.ref b] ∧ H l = some (.lst xs) ∧ H b = some (.lst zs) ∧ xs.length + zs.length ≤ sizeLine ∧ Q .non (upd H l (.lst (xs ++ zs)))
def rPop : V → List V → Hp → VK → Prop := fun x vs H Q => ∃ l xs y, x = .ref l ∧ vs = [] ∧ H l = some (.lst xs) ∧ xs[xs.length - 1]? = some y ∧ Q y (upd H l (.lst xs.dropLast))
def rPopAt : V → List V → Hp → VK → Prop := fun x vs H Q => ∃ l xs i k y, x = .ref l ∧ vs = [.int i] ∧ H l = some (.lst xs) ∧ -(2 ^ 63) ≤ i ∧ i < 2 ^ 63 ∧ seqIndex? i xs.length = some k ∧ xs[k]? = some y ∧ Q y (upd H l (.lst (xs.eraseIdx k)))
def rReverse : V → List V → Hp → VK → Prop := fun x vs H Q => ∃ l xs, x = .ref l ∧ vs = [] ∧ H l = some (.lst xs) ∧ Q .non (upd H l (.lst xs.reverse))
def rClear : V → List V → Hp → VK → Prop := fun x vs H Q => ∃ l xs, x = .ref l ∧ vs = [] ∧ H l = some (.lst xs) ∧ Q .non (upd H l (.lst []))
/-! ### list + list, list += list, list * int -/
def rCat : R2 := fun x y H Q => ∃ l b xs zs, x = .ref l ∧ y = .ref b ∧ H l = some (.lst xs) ∧ H b = some (.lst zs) ∧ xs.length + zs.length ≤ sizeLine ∧ ∀ p, H p = none → Q (.ref p) (upd H p (.lst (xs ++ zs)))
theorem op_cat : OpR X (binaryOp .Add) rCat := by
  intro pins s σ H x y v u Q I rx ry h
  obtain ⟨l, b, xs, zs, rfl, rfl, hH, hB, hz, q⟩ := h
  cases rx
  cases ry
  obtain ⟨z, its, n, r, hl, e⟩ := I.lstM hH
  obtain ⟨z2, its2, n2, r2, hl2, e2⟩ := I.lstM hB
  refine PySem.P.add_list e e2 ?_ (by rw [List.size_toArray, List.size_toArray]; omega)
  have ea : its.toArray ++ its2.toArray = (its ++ its2).toArray := by simp
  rw [ea]
  exact ⟨.ref _, _, I.lnew (t' := s.toks) (r.append r2) (by rw [List.length_append]; omega), rfl, q _ I.fresh⟩
/-- a list times an int (a negative one is nothing) -/
def rRep : R2 := fun x y H Q => ∃ l k xs, x = .ref l ∧ y = .int k ∧ H l = some (.lst xs) ∧ -(2 ^ 63) ≤ k ∧ k < 2 ^ 63 ∧ xs.length * k.toNat ≤ sizeLine ∧
  ∀ p, H p = none → Q (.ref p) (upd H p (.lst (List.replicate k.toNat xs).flatten))
/-! ### del xs[i] -/
end

/-! ### xs[a:b] = ys -/
section
variable {prog : Program} {w : World} {A : Around} {E : Value → Shared → Prop} {s : Shared}
end

section
variable {X : Cx}
end
end L2

namespace Att
open PySem PySem.W PySem.Calls PyProof.Rows

/-! ### the script -/
theorem ints_of_wellAll {P : Params} {h : Heap} : ∀ (ns : List Int) (vs : List Value), WellAll P h vs (ns.map WData.int) → IntsAre vs ns := by
  intro ns
  induction ns with
  | nil =>
    intro vs w
    rw [List.map_nil] at w
    cases w
    exact .nil
  | cons n ns ih =>
    intro vs w
    rw [List.map_cons] at w
    cases w with
    | cons a b =>
      cases a
      exact .cons _ _ (ih _ b)

theorem script_of {l : OpenLaw} {n : Nat} (hn : l.most = some n) {P : Params} {h : Heap} {args : List WData} {vals : List Value}
    (hpre : l.row.toRowW.claim.pre args = true) (hwl : WellAll P h vals args) :
    ∃ a vs ns, vals = [Value.ref a] ∧ args = [WData.list (ns.map WData.int)] ∧ h.get? a = some { cls := .type "list", data := .seq vs.toArray } ∧ IntsAre vs ns ∧ ns.length ≤ n := by
  have hsh : WShape.hasAll [] args [.list .int] = true := (pre_splitW hpre).1
  have hc : l.pre.holds [] { args := args } = true := (pre_splitW hpre).2
  obtain ⟨d, r, rfl, h1, h2⟩ := hasAllW_cons hsh
  obtain rfl := hasAllW_nil h2
  obtain ⟨xs, rfl, h3⟩ := hasW_list h1
  obtain ⟨ns, rfl⟩ := items_int h3
  have hlen : ns.length ≤ n := by
    unfold OpenLaw.pre at hc
    have h4 : (WTm.not (.lt (.lit (.int (n : Int))) (.len (.arg 0)))).holds [] { args := [.list (ns.map .int)] } = true := by
      have h4 := (holds_andW hc).1
      rw [hn] at h4
      exact h4
    have h5 := condW_of h4 (w_not (w_lt w_lit (w_len_list (w_arg rfl))))
    rw [List.length_map] at h5
    refine Nat.le_of_not_lt fun q => ?_
    have q' : (n : Int) < ((ns.length : Nat) : Int) := by omega
    first
      | (rw [decide_eq_true q'] at h5; exact absurd h5 (by decide))
      | (simp at h5; omega)
  cases hwl with
  | cons w1 w2 =>
    cases w2
    cases w1 with
    | list ho hall => exact ⟨_, _, ns, rfl, rfl, ho, ints_of_wellAll ns _ hall, hlen⟩

theorem post_true (l : OpenLaw) (args : List WData) : l.row.toRowW.claim.post args (.bool true) args = true :=
  postW_of (r := l.row.toRowW) (X := (true == true))
    (show WShape.has [] (.bool true) .bool = true by first | rfl | decide | simp [WShape.has, WShape.arms, WShape.armsAll])
    (show (WTm.eq .res (.lit (.bool true))).value [] { args := args, res := some (.bool true), after := args } = some (.bool (true == true)) from w_eq_bool (w_res rfl) w_lit) rfl

/-! ### the attachment: holds_open's last premise (the goal 'hc' behind k_head) from a wpAny of the law's body -/
/-- the same from a codeAny of the CALL (for a layer whose function contracts speak of calls) -/
theorem attach_call {l : OpenLaw} {n : Nat} {q : Program} {loose : List Str} {XP : (Str → Option Value) → Heap → Prop} {YP : World → Heap → Prop} {d : DefRec}
    (hn : l.most = some n) (hdf : d.params.defaults = [])
    (call : ∀ (w : World) (s₀ s₁ : Shared) (mg mb : Str → Option Value) (fa : Addr) (o : Obj) (pm cd doc : Value) (a : Addr) (vs : List Value) (ns : List Int),
      Ground q loose [] XP w s₀ mg mb s₁.heap → YP w s₁.heap →
      s₁.heap.get? fa = some o → o.data = .func (docDef d.name d.params d.body d.scope pm cd doc) → s₁.heap.CodeRec cd d.name → mg d.name = some (.ref fa) →
      s₁.heap.get? a = some { cls := .type "list", data := .seq vs.toArray } → IntsAre vs ns → ns.length ≤ n → s₁.gens = #[] →
      codeAny (model l.prog w) callerA (.call (.ref fa) ⟨[.ref a], []⟩) (fun r s' => r = .ok (.ret (.bool true)) ∧ OldK s₁.heap s'.heap ∧ s'.os = s₁.os ∧ AllBare s'.gens) s₁) :
    WalkO q loose XP YP l.row.toRowW d [] (fun f vs => PySem.call f vs) := by
  intro w s₀ s₁ mg mb G Y fa o pm cd doc dV kV ho hd hcd hD hmg hg args vals as hpre hlay hrd hwl hlo
  obtain rfl : dV = .none := Dflts.none hD hdf
  obtain rfl : kV = .none := Dflts.noKw hD
  obtain ⟨a, vs, ns, rfl, rfl, hobj, hints, hlen⟩ := script_of hn hpre hwl
  refine enter_call (codeAny_mono (call w s₀ s₁ mg mb fa o pm cd doc a vs ns G Y ho (fd_plain hd) hcd hmg hobj hints hlen hg) fun r s' hq => ?_)
  obtain ⟨rfl, h2, h3, h4⟩ := hq
  exact ⟨.inl ⟨.bool true, .bool true, [], rfl, fun _ => rfl, .bool true, post_true l _, fun _ => ⟨List.Pairwise.nil, fun _ hm => (nomatch hm)⟩⟩, h2, h3, h4⟩

/-! ### rules over ANY heap (no ledger) from facts about the written part K: the library's own take a ledger (News) for what they write -/
section
variable {prog : Program} {w : World} {A : Around} {E : Value → Shared → Prop} {s : Shared} {K : Frag}

/-! the whole heap as the ledger: makes every rule that writes through a ledger a rule over any heap -/
def noObjs (h : Heap) : Heap := { h with objs := #[] }
def ledger (h : Heap) (L d : Addr) : List (Addr × Obj) := (List.range h.objs.size).filterMap fun a => if a = L ∨ a = d then none else (h.get? a).map fun o => (a, o)
end
end Att

namespace L2
open PySem PySem.Spec PyProof.Rows

theorem vals_ints : ∀ {vs : List Value} {ns : List Int}, IntsAre vs ns → Vals (ns.map V.int) vs
  | _, _, .nil => .nil
  | _, _, .cons n t h => .cons ⟨t, rfl⟩ (vals_ints h)

/-- nothing is tracked but the script, known to the object (or it is an object of the module) -/
def Only (H : Hp) : Prop := ∀ b, H b = none ∨ ∃ o xs, H b = some (.frz o (.lst xs))

/-- THE HEAD: the law's promise, at the heap behind the top. F, the promise of the law's def, may use that base is part of the heap (so K.In base, base.Ns mainGlobals mg stand in Mod) -/
theorem law_call {P : Program} {w : World} {K : PySem.W.Frag} {mg mb : Str → Option Value} {CX : CXT} {k : Nat} {fa a : Addr} {fd : FuncData} {x : Str} {sp : Sp} {s₁ : Shared} {vs : List Value} {ns : List Int}
    (KX : K.In s₁.heap) (hns : s₁.heap.Ns mainGlobals mg) (hb : s₁.heap.Ns builtinsNs mb) (hbb : ∀ x : Str, x ≠ "__name__" → mb x = bootBuiltins x) (hlim : s₁.heap.NoLimit) (hg : s₁.gens = #[])
    (ha : s₁.heap.get? a = some { cls := .type "list", data := .seq vs.toArray }) (hi : IntsAre vs ns) (hl : ns.length ≤ sizeLine) (hr : Room k callerA)
    (F : ∀ base : Heap, K.In base → base.Ns mainGlobals mg → FnOk P w K mg base CX k fa fd [x] sp) (hbind : ∀ (s : Shared) (u : Value), BindsTo s fd ⟨[u], []⟩ [(x, u)])
    (hsp : ∀ H : Hp, Only H → SqL K H a (ns.map V.int) → sp [.ref a] H (fun v _ => v = .bl true) fun _ _ _ => False)
    (hCX : ∀ H e s', CX [] H s₁ (fun _ _ _ => False) e s' → False) :
    codeAny (model P w) callerA (.call (.ref fa) ⟨[.ref a], []⟩) (fun r s' => r = .ok (.ret (.bool true)) ∧ OldK s₁.heap s'.heap ∧ s'.os = s₁.os ∧ AllBare s'.gens) s₁ := by
  have rv := vals_ints hi
  have lenV := hi.length
  -- from an abstract heap in which nothing but the script may be tracked
  have core : ∀ H : Hp, Only H → SqL K H a (ns.map V.int) → HOk P w H s₁.heap → (∀ b, H b ≠ none → b = a) → (H a ≠ none → K.lookup a = none) →
      codeAny (model P w) callerA (.call (.ref fa) ⟨[.ref a], []⟩) (fun r s' => r = .ok (.ret (.bool true)) ∧ OldK s₁.heap s'.heap ∧ s'.os = s₁.os ∧ AllBare s'.gens) s₁ := by
    intro H hO hS hok hA hK
    have base_of : ∀ {b : Addr} {o : Obj}, s₁.heap.get? b = some o → H b = none → (hidT s₁.heap H).get? b = some o := fun e n => hidT_get e n
    have noA : ∀ {b : Addr} {o : Obj} {es : Array DictEntry} {ep : Nat}, s₁.heap.get? b = some o → o.data = .dict es ep → H b = none := fun {b o es ep} e d => by
      cases q : H b with
      | none => rfl
      | some u =>
        have e' : b = a := hA b (by rw [q]; simp)
        subst e'
        rw [ha] at e; cases e
        have d' : Data.seq vs.toArray _ = Data.dict es ep := d
        cases d'
    have nsK : ∀ {b : Addr} {m : Str → Option Value}, s₁.heap.Ns b m → (hidT s₁.heap H).Ns b m := fun {b m} ⟨o, es, ep, e, d, r⟩ => ⟨o, es, ep, base_of e (noA e d), d, r⟩
    have hKb : K.In (hidT s₁.heap H) := fun b o e => base_of (KX b o e) (by
      cases q : H b with
      | none => rfl
      | some u =>
        have e' : b = a := hA b (by rw [q]; simp)
        subst e'
        rw [hK (by rw [q]; simp)] at e; cases e)
    have hM : Mod K mg (hidT s₁.heap H) := ⟨hKb, nsK hns, ⟨mb, nsK hb, hbb⟩, let ⟨mc, h1, h2⟩ := hlim; ⟨mc, nsK h1, h2⟩⟩
    have e0 : Env0 P w K mg (hidT s₁.heap H) callerA [] s₁ H := ⟨rfl, hM, fun b o e => of_hidT e, Nat.le_of_eq (hidT_size _ _), trivial, fun b hb => absurd (show b ∈ ([] : List Addr) from hb) (by simp), hok, .of_eq hg⟩
    refine codeAny_mono ((F _ hKb (nsK hns)).run callerA [] s₁ H ⟨[.ref a], []⟩ [.ref a] [.ref a] _ _ hr e0 (hbind s₁ (.ref a)) (.cons rfl .nil) (hsp H hO hS)) fun r s' h => ?_
    cases r with
    | error e => exact (hCX H e s' h).elim
    | ok fl =>
      cases fl with
      | next => exact False.elim h
      | brk => exact False.elim h
      | cont => exact False.elim h
      | ret u =>
        obtain ⟨v, H', os, bare, un, hok', r', q⟩ := h
        have q' : v = .bl true := q
        subst q'
        obtain rfl : u = Value.bool true := r'
        refine ⟨rfl, OldK.of_keep fun b o e => ?_, os, bare⟩
        cases q : H b with
        | none => exact un.keep b o e q (by intro z; exact absurd (show b ∈ ([] : List Addr) from z) (by simp)) (by simp)
        | some u =>
          rcases hO b with z | ⟨ob, xs, z⟩
          · rw [q] at z; cases z
          · have z2 := un.frzs b ob _ z
            obtain ⟨e1, _⟩ := hok b _ z
            obtain ⟨e2, _⟩ := hok' b _ z2
            rw [e] at e1; cases e1
            exact e2
  cases hk : K.lookup a with
  | some o =>
    -- the script is one of the module's own objects
    have e := KX a o hk
    rw [ha] at e
    cases e
    refine core (fun _ => none) (fun _ => .inl rfl) (.inr ⟨_, vs.toArray, _, hk, rfl, rfl, rfl, by rw [List.size_toArray, lenV]; exact hl, by simpa using rv⟩) (fun b u z => by have z' : (none : Option HO) = some u := z; cases z') (fun b z => absurd rfl z) fun z => absurd rfl z
  | none =>
    refine core (fun b => if b = a then some (.frz { cls := .type "list", data := .seq vs.toArray } (.lst (ns.map V.int))) else none) (fun b => ?_) (.inl (.inr ⟨{ cls := .type "list", data := .seq vs.toArray }, if_pos rfl⟩)) (fun b u z => ?_) (fun b z => ?_) fun _ => hk
    · by_cases hb : b = a
      · exact .inr ⟨_, _, if_pos hb⟩
      · exact .inl (if_neg hb)
    · by_cases hb : b = a
      · have z' := (if_pos hb).symm.trans z
        cases z'
        subst hb
        exact ⟨ha, by rw [List.length_map]; exact hl, vs, _, rv, ha⟩
      · have z' := (if_neg hb).symm.trans z
        cases z'
    · by_cases hb : b = a
      · exact hb
      · exact absurd (if_neg hb) z
end L2

namespace L2
open PySem PySem.Spec PyProof.Rows

abbrev KOf {K : PySem.W.Frag} {h : Heap} (_ : K.In h) : PySem.W.Frag := K

/-- the goal that k_head leaves (case hc), from the law's promise. F gives the function object fd (K's own) once, then the promise over every base -/
theorem walk_of {l : PySem.W.OpenLaw} {n k : Nat} {q : Program} {loose : List Str} {XP : (Str → Option Value) → Heap → Prop} {YP : World → Heap → Prop} {d : DefRec} {K : Params → PySem.W.Frag} {CX : World → CXT} {sp : World → Sp} {x : Str}
    (hn : l.most = some n) (hn2 : n ≤ sizeLine) (hdf : d.params.defaults = []) (hr : Room k callerA)
    (hY : ∀ (w : World) (h : Heap), YP w h → (K w.params).In h)
    (F : ∀ (w : World) (mg : Str → Option Value) (fa : Addr) (h : Heap), (K w.params).In h → h.Ns mainGlobals mg → mg d.name = some (.ref fa) →
      ∃ fd : FuncData, (∀ (s : Shared) (u : Value), BindsTo s fd ⟨[u], []⟩ [(x, u)]) ∧
        ∀ base : Heap, (K w.params).In base → base.Ns mainGlobals mg → FnOk l.prog w (K w.params) mg base (CX w) k fa fd [x] (sp w))
    (hsp : ∀ (w : World) (H : Hp) (a : Addr) (ns : List Int), ns.length ≤ n → Only H → SqL (K w.params) H a (ns.map V.int) → sp w [.ref a] H (fun v _ => v = .bl true) fun _ _ _ => False)
    (hCX : ∀ (w : World) (H : Hp) (s : Shared) (e : Value) (s' : Shared), CX w [] H s (fun _ _ _ => False) e s' → False) :
    PySem.W.WalkO q loose XP YP l.row.toRowW d [] (fun f vs => PySem.call f vs) := by
  refine Att.attach_call hn hdf fun w s₀ s₁ mg mb fa o pm cd doc a vs ns G Y ho hd hcd hmg hobj hints hlen hg => ?_
  have KX := hY w _ Y
  obtain ⟨fd, hb, hF⟩ := F w mg fa _ KX G.T.g hmg
  exact law_call KX G.T.g G.T.b G.T.builtins G.T.nolimit hg hobj hints (Nat.le_trans hlen hn2) hr hF hb (fun H hO hS => hsp w H a ns hlen hO hS) fun H e s' => hCX w H s₁ e s'
end L2

/- THE LAST THEOREM (shape; LID, My.* are yours):
   My.Adr: a structure of the addresses that your layer names (classes, functions); My.Txt K t: a structure (Prop) of the equations over K;
   My.txt_mk : {K} {implicit addresses ..} (e1 : nsIn K mainGlobals "law" = some (some (.ref f))) (e2 : K.lookup f = some ⟨oc, od, .func (fnOf "law" "law" params body scope dV kV doc pm an cdv ct), sl⟩) (e3 : codeIn K cdv "law" = true) .. : ∃ t, My.Txt K t

set_option maxRecDepth 100000 in
set_option maxHeartbeats 0 in
theorem PySem.Challenge.cw_LID_holds : PySem.Challenge.rw_LID.Holds := by
  w_on; o_law; k_head; (case hw => w_witness2)
  k_fill
  refine L2.walk_of (l := PySem.Challenge.rw_LID) (n := 63) (k := 40) (x := "script") (CX := fun w => ..) (sp := fun _ => My.sp_law) rfl (by decide) rfl ⟨rfl, by decide, by decide⟩ (fun w h Y => PySem.W.kIn_of Y) ?F ?S ?C
  case F =>
    intro w mg fa h KX G hmg
    have T : ∃ t, My.Txt (L2.KOf KX) t := by
      dsimp only [L2.KOf]                          -- K must stand as «<heap const> w.params» for k_is
      refine' My.txt_mk ?e1 ?e2 ?e3 ..
      (case e1 => PySem.W.k_is)                    -- in the order: a name -> its address -> its object -> its parts
      (case e2 => PySem.W.k_is)
      ..
    obtain ⟨t, T⟩ := T
    have e0 := hmg.symm.trans (PySem.W.mg_of KX G T.law)
    cases e0                                       -- fa is the law's own address
    exact ⟨_, fun s u => .of_eq rfl, fun base kb nb => My.law_fn T kb nb⟩     -- if «.of_eq rfl» comes too early: refine' ⟨_, ?b, fun base kb nb => My.law_fn T kb nb⟩; exact fun s u => .of_eq rfl
  case S => exact fun w H a ns hl hO hS => ..
  case C => exact ..
(the tactic k_is has no namespace: write k_is) -/

/-! SHORT WORDS over the layer: a def of the text, its body, what a loop and a test want. -/
namespace L2
open PySem PySem.Spec PyProof.Rows

/-! ### the text by places -/
/-- the j-th statement of a class's body -/
def inClass (s : Stmt) (j : Nat) : Stmt := match s with
  | .ClassDef _ _ _ body _ _ _ _ _ _ _ => body.getD j (.Pass ⟨0, 0, 0, 0⟩)
  | _ => .Pass ⟨0, 0, 0, 0⟩
def defArgs (s : Stmt) : Arguments := match s with
  | .FunctionDef _ a _ _ _ _ _ _ _ _ => a
  | _ => { posonlyargs := [], args := [], vararg := none, kwonlyargs := [], kw_defaults := [], kwarg := none, defaults := [] }
def defBody (s : Stmt) : List Stmt := match s with
  | .FunctionDef _ _ b _ _ _ _ _ _ _ => b
  | _ => []
def defScope (s : Stmt) : Scope := match s with
  | .FunctionDef _ _ _ _ _ _ sc _ _ _ => sc
  | _ => { kind := .function, names := [], isGenerator := false, isCoroutine := false }

/-! ### no exception leaves a def -/
abbrev CX0 : CXT := fun _ _ _ _ _ _ => False
abbrev E0 : XK := fun _ _ _ => False
theorem pass0 {X : Cx} : Passes CX0 X E0 := fun _ _ _ _ _ _ _ h => h.elim

/-! ### a def (or method) of the text as it stands behind the top -/
structure Fun (K : PySem.W.Frag) (x qual : Str) (st : Stmt) (f : Addr) (fd : FuncData) : Prop where
  ex : ∃ (oc : Value) (od : Option Addr) (kV doc pm : Value) (an : Option Addr) (cdv ct : Value) (osl : Array (Option Value)),
    fd = PySem.W.fnOf x qual (defArgs st) (defBody st) (defScope st) .none kV doc pm an cdv ct ∧ K.lookup f = some ⟨oc, od, .func fd, osl⟩ ∧ PySem.W.codeIn K cdv qual = true
  kp : PySem.W.keepIn K (.ref f) = true
section
variable {P : Program} {w : World} {K : PySem.W.Frag} {mg : Str → Option Value} {base : Heap}
/-- THE RULE for a def: its body as a term of rules, and the reading of that term -/
theorem Fun.ok {x qual : Str} {st : Stmt} {f : Addr} {fd : FuncData} {N ps : List Str} {k : Nat} {sp : Sp} (F : Fun K x qual st f fd) (S : FnScope N ps (defScope st)) (len : ∀ vs H Q E, sp vs H Q E → vs.length = ps.length)
    (hbody : ∀ (cdv : Value) (A : Around) (outer : List Env) (s : Shared) (H : Hp) (vs : List V) (Q : VK) (E : XK), Room k (A.deeper (envOfC qual (defScope st) s.heap.objs.size f cdv)) → sp vs H Q E →
      ∃ t, PSs (cxOf CX0 P w K mg base N qual (defScope st) f cdv A outer s H E).nox (defBody st) t ∧ t { nx := fun _ H' => Q .non H', rt := Q } (start N vs) H) : FnOk P w K mg base CX0 (k + 1) f fd ps sp := by
  obtain ⟨oc, od, kV, doc, pm, an, cdv, ct, osl, rfl, lk, hcd⟩ := F.ex
  refine fn_of lk hcd S len fun A outer s H vs Q E hr hsp => ?_
  obtain ⟨t, h, q⟩ := hbody cdv A outer s H vs Q E hr hsp
  exact ⟨t, h.nox, q⟩
/-- how its arguments bind (no defaults): h is «fun _ _ _ _ _ _ us hl => match us, hl with | [_, _], _ => rfl», one _ a parameter -/
theorem Fun.binds {x qual : Str} {st : Stmt} {f : Addr} {fd : FuncData} {ps : List Str} (F : Fun K x qual st f fd)
    (h : ∀ (kV doc pm : Value) (an : Option Addr) (cdv ct : Value) (us : List Value), us.length = ps.length → bindArgs (PySem.W.fnOf x qual (defArgs st) (defBody st) (defScope st) .none kV doc pm an cdv ct) ⟨us, []⟩ = pure (ps.zip us)) : Binds K fd ps [] := by
  obtain ⟨oc, od, kV, doc, pm, an, cdv, ct, osl, rfl, lk, hcd⟩ := F.ex
  exact .all (h kV doc pm an cdv ct)
theorem fun_mk {x qual : Str} {st : Stmt} {f : Addr} {oc : Value} {od an : Option Addr} {osl : Array (Option Value)} {kV doc pm cdv ct : Value} (l : K.lookup f = some ⟨oc, od, .func (PySem.W.fnOf x qual (defArgs st) (defBody st) (defScope st) .none kV doc pm an cdv ct), osl⟩)
    (c : PySem.W.codeIn K cdv qual = true) (k : PySem.W.keepIn K (.ref f) = true) : Fun K x qual st f (PySem.W.fnOf x qual (defArgs st) (defBody st) (defScope st) .none kV doc pm an cdv ct) := ⟨⟨oc, od, kV, doc, pm, an, cdv, ct, osl, rfl, l, c⟩, k⟩
end
theorem small1000 {n : Nat} (h : n ≤ 1000) : n < sizeLine := Nat.lt_of_le_of_lt h (by decide)

/-! ### expressions in short: the name that stands in the i-th slot -/
section
variable {X : Cx}
theorem pv (i : Nat) {x : Str} {pos : Pos} (hN : X.N[i]? = some x := by rfl) (hv : Vis X.env.scope x := by first | exact Or.inl rfl | exact Or.inr (Or.inl rfl) | exact Or.inr (Or.inr rfl)) (hd : (x == ("__debug__" : Str)) = false := by decide)
    (hcd : (x == ("__classdict__" : Str)) = false := by decide) : PE X (.Name x pos) (tVar i) := pe_var hN hv hd hcd
end

/-! ### tests -/
theorem ite2 {c A B : Prop} [Decidable c] (h1 : c → A) (h2 : ¬ c → B) : if c then A else B := by
  by_cases h : c
  · rw [if_pos h]
    exact h1 h
  · rw [if_neg h]
    exact h2 h
/-! ### heaps -/
/-- all that was tracked is as it was -/
def Same (H H' : Hp) : Prop := ∀ b o, H b = some o → H' b = some o
theorem Same.refl (H : Hp) : Same H H := fun _ _ h => h
theorem Same.trans {H H1 H2 : Hp} (a : Same H H1) (b : Same H1 H2) : Same H H2 := fun c o h => b c o (a c o h)
theorem Same.free {H H' : Hp} (e : Same H H') {l : Addr} (h : H' l = Option.none) : H l = Option.none := by
  cases q : H l with
  | none => rfl
  | some o =>
    rw [e l o q] at h
    cases h
theorem Same.seq {K : PySem.W.Frag} {H H' : Hp} {a : Addr} {xs : List V} (e : Same H H') (h : SqL K H a xs) : SqL K H' a xs := by
  rcases h with (h | ⟨o, h⟩) | h
  · exact .inl (.inl (e _ _ h))
  · exact .inl (.inr ⟨o, e _ _ h⟩)
  · exact .inr h

end L2

set_option maxHeartbeats 4000000
namespace L2
open PySem PySem.Spec PyProof.Rows

/-! ### list comprehensions of one clause, within the hand layer -/
section
variable {X : Cx} {pins : List (Addr × Obj)} {σ : St} {H : Hp} {s : Shared} {a : Addr} {o : HO}
theorem HOk.adopt {P : Program} {w : World} {h : Heap} (x : HOk P w H h) (hn : H a = none) (new : ObjOk P w (upd H a o) h a o) : HOk P w (upd H a o) h := fun b u e => by
  by_cases hb : b = a
  · subst hb; rw [upd_same] at e; cases e; exact new
  · rw [upd_ne hb] at e
    exact (x b u e).stay (fun c v _ q => q) (fun c q => by rw [upd_ne (ne_of_none q hn)]; exact q) fun c xs q => by rw [upd_ne (ne_of_none q hn)]; exact q
/-- an object that was not tracked is tracked from here on -/
theorem Inv.adopt (I : Inv X pins σ H s) (f : FpOk X pins H a) (new : ObjOk X.prog X.w (upd H a o) s.heap a o) : Inv X pins σ (upd H a o) s := by
  obtain ⟨hn, hL, hfs, hex, hc, hp⟩ := f
  refine ⟨I.ok, I.os, I.bare, ⟨I.base.keep, I.base.slot, fun b ob e n hx => ?_, I.base.there, fun b xs e => ?_, fun b ob u e => ?_, fun b ps e => ?_⟩, I.loc, I.cell, by rw [upd_ne (Ne.symm hL)]; exact I.free, fun x c e => by rw [upd_ne (hc x c e)]; exact I.freeC x c e, fun p q => ?_, HOk.adopt I.hok hn new, I.len⟩
  · have nb : b ≠ a := fun z => by
      rcases hex with z' | z'
      · exact hx (z ▸ z')
      · exact absurd (Heap.lt_size e) (by rw [z]; exact Nat.not_lt.mpr z')
    rw [upd_ne nb]
    exact I.base.free b ob e n hx
  · have q := I.base.tups b xs e
    rw [upd_ne (ne_of_none q hn)]
    exact q
  · have q := I.base.frzs b ob u e
    rw [upd_ne (ne_of_none q hn)]
    exact q
  · obtain ⟨m, q⟩ := I.base.tbls b ps e
    exact ⟨m, by rw [upd_ne (ne_of_none q hn)]; exact q⟩
  · obtain ⟨e, n, r⟩ := I.pin p q
    exact ⟨e, by rw [upd_ne (hp p q)]; exact n, r⟩
end

/-! the closure of the block -/
theorem forIn_yield_fold {α β : Type} {f : α → β → Sem (ForInStep β)} {g : α → β → β} : ∀ (l : List α) (c : β), (∀ x ∈ l, ∀ c, f x c = pure (.yield (g x c))) → forIn l c f = pure (l.foldl (fun c x => g x c) c)
  | [], _, _ => rfl
  | x :: l, c, h => by
    rw [List.forIn_cons, h x List.mem_cons_self, pure_bind]
    exact forIn_yield_fold l (g x c) fun y hy => h y (List.mem_cons_of_mem _ hy)
def clG (env : Env) (x : Str × NameKind) (c : List (Str × Addr)) : List (Str × Addr) := if (x.2 == NameKind.free) = true then (x.1, (env.cells.lookup x.1).getD 0) :: c else c
def clOf (env : Env) (scope : Scope) : List (Str × Addr) := scope.names.foldl (fun c x => clG env x c) []
theorem closure_eq {env : Env} {scope : Scope} (h : ∀ y ∈ scope.names, y.2 = .free → ∃ c, env.cells.lookup y.1 = some c) : closureFor scope env = pure (clOf env scope) := by
  simp only [closureFor]
  rw [forIn_yield_fold (g := clG env) scope.names [] (fun x hx c => by
    obtain ⟨n, k⟩ := x
    unfold clG
    by_cases hk : (k == NameKind.free) = true
    · obtain ⟨a, ha⟩ := h _ hx (by simpa using hk)
      have ha' : env.cells.lookup n = some a := ha
      simp only [hk, if_true, cellOf, ha', pure_bind, Option.getD_some]
    · have hk' : (k == NameKind.free) = false := Bool.eq_false_iff.mpr hk
      simp only [hk', Bool.false_eq_true, if_false])]
  rfl
theorem clG_look {env : Env} : ∀ (l : List (Str × NameKind)) (cs : List (Str × Addr)), (∀ y ∈ l, y.2 = .free → ∃ c, env.cells.lookup y.1 = some c) → (∀ y c, cs.lookup y = some c → env.cells.lookup y = some c) →
    (∀ y c, (l.foldl (fun c x => clG env x c) cs).lookup y = some c → env.cells.lookup y = some c) ∧ ∀ y, ((cs.lookup y).isSome = true ∨ (y, NameKind.free) ∈ l) → ((l.foldl (fun c x => clG env x c) cs).lookup y).isSome = true
  | [], cs, _, h => ⟨h, fun y hy => hy.elim id fun z => absurd z (by simp)⟩
  | (n, k) :: l, cs, hf, h => by
    have hf' : ∀ y ∈ l, y.2 = .free → ∃ c, env.cells.lookup y.1 = some c := fun y hy => hf y (List.mem_cons_of_mem _ hy)
    rw [List.foldl_cons]
    by_cases hk : k = .free
    · subst hk
      obtain ⟨a, ha⟩ := hf (n, .free) List.mem_cons_self rfl
      have ha' : env.cells.lookup n = some a := ha
      have e : clG env (n, .free) cs = (n, a) :: cs := by
        unfold clG
        rw [if_pos (by rfl)]
        show (n, (env.cells.lookup n).getD 0) :: cs = _
        rw [ha']
        rfl
      rw [e]
      have ih := clG_look l ((n, a) :: cs) hf' (fun y c hy => by
        rw [List.lookup_cons] at hy
        cases hb : y == n with
        | true =>
          rw [hb] at hy
          rw [eq_of_beq hb]
          exact ha'.trans hy
        | false =>
          rw [hb] at hy
          exact h y c hy)
      refine ⟨ih.1, fun y hy => ih.2 y ?_⟩
      rcases hy with hy | hy
      · left
        rw [List.lookup_cons]
        cases y == n with
        | true => rfl
        | false => exact hy
      · rcases List.mem_cons.mp hy with hy | hy
        · left
          rw [(Prod.mk.inj hy).1, List.lookup_cons]
          simp
        · exact .inr hy
    · have e : clG env (n, k) cs = cs := by
        unfold clG
        rw [if_neg (by simpa using hk)]
      rw [e]
      have ih := clG_look l cs hf' h
      refine ⟨ih.1, fun y hy => ih.2 y ?_⟩
      rcases hy with hy | hy
      · exact .inl hy
      · rcases List.mem_cons.mp hy with hy | hy
        · exact absurd (Prod.mk.inj hy).2.symm hk
        · exact .inr hy
theorem lookup_relabel_free {env : Env} : ∀ {names : List (Str × NameKind)} {x : Str}, names.lookup x = some .free →
    (names.map fun (n, k) => if (k == NameKind.free && env.scope.kind == .function && env.kindOf n == some .cell) then (n, NameKind.cell) else (n, k)).lookup x ≠ some .local
  | [], _, h => by simp at h
  | (n, k) :: r, x, h => by
    have ih := @lookup_relabel_free env r x
    show List.lookup x ((if (k == NameKind.free && env.scope.kind == .function && env.kindOf n == some .cell) = true then (n, NameKind.cell) else (n, k)) :: _) ≠ _
    cases hx : x == n with
    | true =>
      simp only [List.lookup_cons, hx] at h
      cases h
      split
      · simp [List.lookup_cons, hx]
      · simp [List.lookup_cons, hx]
    | false =>
      simp only [List.lookup_cons, hx] at h
      by_cases hc : (k == NameKind.free && env.scope.kind == .function && env.kindOf n == some .cell) = true
      · rw [if_pos hc]; simp only [List.lookup_cons, hx]; exact ih h
      · rw [if_neg hc]; simp only [List.lookup_cons, hx]; exact ih h
theorem free_of_relabel {env : Env} {scope : Scope} {y : Str} (nc : ∀ z ∈ scope.names, z.2 ≠ .cell) (h : (relabel scope env).names.lookup y = some .cell ∨ (relabel scope env).names.lookup y = some .free) : (y, NameKind.free) ∈ scope.names := by
  have go : ∀ k, (k = NameKind.cell ∨ k = NameKind.free) → (relabel scope env).names.lookup y = some k → (y, NameKind.free) ∈ scope.names := fun k hk e => by
    have m := PySem.mem_of_lookup e
    obtain ⟨⟨n, k'⟩, hm, e'⟩ := List.mem_map.mp m
    by_cases hc : (k' == NameKind.free && env.scope.kind == .function && env.kindOf n == some .cell) = true
    · have e2 : (n, NameKind.cell) = (y, k) := by
        rw [← e']
        show _ = (if (k' == NameKind.free && env.scope.kind == .function && env.kindOf n == some .cell) = true then (n, NameKind.cell) else (n, k'))
        rw [if_pos hc]
      have hk' : k' = .free := by
        simp only [Bool.and_eq_true, beq_iff_eq] at hc
        exact hc.1.1
      rw [← (Prod.mk.inj e2).1, ← hk']
      exact hm
    · have e2 : (n, k') = (y, k) := by
        rw [← e']
        show _ = (if (k' == NameKind.free && env.scope.kind == .function && env.kindOf n == some .cell) = true then (n, NameKind.cell) else (n, k'))
        rw [if_neg hc]
      rcases hk with hk | hk
      · exact absurd ((Prod.mk.inj e2).2.trans hk) (nc _ hm)
      · rw [← (Prod.mk.inj e2).1, ← hk, ← (Prod.mk.inj e2).2]
        exact hm
  rcases h with h | h
  · exact go _ (.inl rfl) h
  · exact go _ (.inr rfl) h

/-! the block's own context -/
def cxComp (X : Cx) (N : List Str) (scope : Scope) (C : Addr) (s : Shared) (H : Hp) (ex : List Addr) (pn : List (Addr × Obj)) (E : Value → Shared → Prop) : Cx where
  prog := X.prog
  w := X.w
  K := X.K
  mg := X.mg
  base := X.base
  A := X.A
  N := N
  s₀ := s
  H₀ := H
  env := compEnvC scope (clOf X.env scope) C X.env
  outer := X.stack
  stack := X.stack
  ex := ex
  fn := fun _ => false
  calm := X.calm
  pn := pn
  xe := E
/-- what is read off the text: osc, N the scope and the names around; caps: the names (with their places around) that the block sees -/
structure CompSc (osc : Scope) (N : List Str) (scope : Scope) (x : Str) (caps : List (Nat × Str)) : Prop where
  kind : scope.kind = .function
  hx : scope.names.lookup x = some .local
  ncell : ∀ y ∈ scope.names, y.2 ≠ .cell
  nloc : ∀ y ∈ scope.names, y.2 = .local → scope.names.lookup y.1 = some .local
  free : ∀ y ∈ scope.names, y.2 = .free → osc.names.lookup y.1 = some .cell ∨ osc.names.lookup y.1 = some .free
  cap : ∀ p ∈ caps, N[p.1]? = some p.2 ∧ scope.names.lookup p.2 = some .free
  nd : (x :: caps.map (·.2)).Nodup
def capS (caps : List (Nat × Str)) (σ : St) : St := caps.map fun p => (σ[p.1]?).getD none
def PIfs (X : Cx) (ifs : List Expr) (tc : TT) : Prop :=
  ∀ (pins : List (Addr × Obj)) (s : Shared) (σ : St) (H : Hp) (Q : Bool → Hp → Prop), Inv X pins σ H s → tc σ H Q →
    wpAny (model X.prog X.w) X.A (forIn ifs true fun c r => if r = true then do let ok ← isTrue c X.env (eval c X.env); pure (ForInStep.yield ok) else pure (ForInStep.yield r)) (TP X pins σ Q) X.xe s
def tYes : TT := fun _ H Q => Q true H
theorem pifs_nil {X : Cx} : PIfs X [] tYes := fun _ _ _ H _ I h => by
  simp only [List.forIn_nil]
  exact wpAny_pure ⟨H, I, h⟩
theorem pifs_one {X : Cx} {c : Expr} {tc : TT} (h : PT X c tc) : PIfs X [c] tc := by
  intro pins s σ H Q I hq
  simp only [List.forIn_cons, List.forIn_nil, if_true]
  exact wpAny_bind (wpAny_bind (wpAny_mono (h pins s σ H Q I hq) (fun b s' hb => wpAny_pure (wpAny_pure hb)) fun _ _ x => x))
/-- the block's reading: W, what holds ahead of turn i with a measure m and the items acc so far; Z, what is wanted behind -/
def tCompW (J : It) (cs : St) (tc : TT) (te : TE) (H1 : Hp) (Z : List V → Hp → Prop) : Prop :=
  ∃ W : Nat → Nat → List V → Hp → Prop, (∃ m, W 0 m [] H1) ∧ ∀ i m acc H, W i m acc H →
    (J.stop i H ∧ Z acc H) ∨ (J.go i H ∧ ∃ N : List V → Hp → Prop, (∀ a H', N a H' → ∃ m', m' < m ∧ W (i + 1) m' a H') ∧
      ∀ x H', J.yld i H x H' → tc (some x :: cs) H' fun b H2 => if b = true then te (some x :: cs) H2 fun v H3 => acc.length < sizeLine ∧ N (acc ++ [v]) H3 else N acc H2)
def tComp (wi : TI) (caps : List (Nat × Str)) (tc : TT) (te : TE) : TE := fun σ H Q => wi σ H fun J H1 => tCompW J (capS caps σ) tc te H1 fun acc H2 => ∀ p, H2 p = none → Q (.ref p) (upd H2 p (.lst acc))

/-! the loop -/
theorem comp_loop {X : Cx} {elt iter : Expr} {x : Str} {ns : List Str} {px pos : Pos} {ifs : List Expr} {scope : Scope} {it D : Addr} {fp : List Addr} {tn : Nat → Heap → Prop} {J : It} {tc : TT} {te : TE} {Z : List V → Hp → Prop} {R : Result → Shared → Prop}
    {cs : St} {o : Option V} {H : Hp} {s : Shared} (hc : X.calm = true) (hN : X.N = x :: ns) (nd : X.N.Nodup) (hx : X.env.scope.names.lookup x = some .local) (I : Inv X [] (o :: cs) H s) (T : Turn X.prog X.w X.K (.Name x px) J fp it tn) (st : tn 0 s.heap) (hf : ∀ b ∈ fp, FpOk X [] H b)
    (hD : FpOk X [] H D) (hDf : D ∉ fp) (pl : s.heap.PlainList D #[]) (hifs : PIfs X ifs tc) (helt : PE X elt te) (hW : tCompW J cs tc te H Z) (hxe : X.xe = notedBy (model X.prog X.w) X.A X.env fun e s' => R (.error e) s')
    (hR : ∀ (s' : Shared) (H' : Hp) (acc : List V) (its : List Value) (o' : Option V), Inv X [] (o' :: cs) H' s' → s'.heap.PlainList D its.toArray → Vals acc its → acc.length ≤ sizeLine → H' D = none → Z acc H' → R (.ok .next) s') :
    codeAny (model X.prog X.w) X.A (.compLoop (.ListComp elt [⟨.Name x px, iter, ifs, 0⟩] scope pos) 0 (.ref it) (.ref D) X.env) R s := by
  obtain ⟨W, ⟨m0, w0⟩, turn⟩ := hW
  refine codeAny_compLoop_tests (fun n s' => ∃ (i : Nat) (acc : List V) (its : List Value) (H' : Hp) (o' : Option V), Inv X [] (o' :: cs) H' s' ∧ tn i s'.heap ∧ (∀ b ∈ fp, H' b = none) ∧ H' D = none ∧ s'.heap.PlainList D its.toArray ∧ Vals acc its ∧ acc.length ≤ sizeLine ∧ W i n acc H') ?_ m0
    ⟨0, [], [], H, o, I, st, fun b hb => (hf b hb).1, hD.1, pl, .nil, Nat.zero_le _, w0⟩
  rintro n s3 ⟨i, acc, its, H3, o3, I3, st3, fr3, hD3, ⟨nD, gD⟩, va, hl, w3⟩
  rw [← hxe]
  -- the list is pinned through the turn
  have I4 : Inv X [(D, { cls := .type "list", data := .seq its.toArray nD })] (o3 :: cs) H3 s3 := I3.pins_of fun p hp => by
    obtain rfl : p = (D, { cls := .type "list", data := .seq its.toArray nD }) := by simpa using hp
    exact ⟨gD, hD3, hD.2.1, hD.2.2.1, fun v z => by cases (show Data.seq its.toArray nD = Data.cell v from z)⟩
  have stat : ∀ {H' : Hp}, (∀ b ∈ fp, H' b = none) → ∀ b ∈ fp, FpOk X [(D, { cls := .type "list", data := .seq its.toArray nD })] H' b := fun hn b hb => by
    obtain ⟨_, f1, f2, f3, f4, f5⟩ := hf b hb
    refine ⟨hn b hb, f1, f2, f3, f4, fun p hp => ?_⟩
    rcases List.mem_append.mp hp with z | z
    · exact f5 p (List.mem_append_left _ z)
    · obtain rfl : p = (D, { cls := .type "list", data := .seq its.toArray nD }) := by simpa using z
      exact fun e => hDf (by rw [show D = b from e]; exact hb)
  rcases turn i n acc H3 w3 with ⟨stop, z⟩ | ⟨go, N, hNn, step⟩
  · refine thn (T.done X rfl rfl rfl hc i _ s3 (o3 :: cs) H3 X.xe I4 (stat fr3) st3 stop) fun r s4 ⟨hr, I5⟩ => ?_
    subst hr
    exact hR s4 H3 acc its o3 (I5.pins_of fun p hp => absurd hp (by simp)) ⟨nD, (I5.pin _ (List.mem_append_right _ (List.mem_singleton.mpr rfl))).1⟩ va hl hD3 z
  · refine thn (T.item X rfl rfl rfl hc i _ s3 (o3 :: cs) H3 X.xe I4 (stat fr3) st3 go) fun r s4 ⟨u, hr, h4⟩ => ?_
    subst hr
    have e0 : (letOwnedTupleGo (.Name x px) (.ref it) u >>= fun _ => assign (.Name x px) X.env u) = assign (.Name x px) X.env u := rfl
    show wpAny _ _ (assign (.Name x px) X.env u) _ _ s4
    rw [← e0]
    refine wpAny_bind (thn h4 fun _ s5 ⟨xv, H5, I5, r5, y5, st5, fr5⟩ => ?_)
    have I5' := I5.pinned (stat fr5) (T.obj _ _ st5)
    refine wpAny_assign_Name (store_ok (i := 0) I5' nd (by rw [hN] <;> rfl) (.inl hx) r5 (fun s6 I6 => ?_) (.inr hx))
    have I6' : Inv X ([(D, { cls := .type "list", data := .seq its.toArray nD })] ++ pinsAt fp s5.heap) (some xv :: cs) H5 s6 := I6
    -- what stays of the iterator and of the list, at any later state of the turn
    have later : ∀ {σ' : St} {H' : Hp} {s' : Shared}, Inv X ([(D, { cls := .type "list", data := .seq its.toArray nD })] ++ pinsAt fp s5.heap) σ' H' s' →
        Inv X [] σ' H' s' ∧ tn (i + 1) s'.heap ∧ (∀ b ∈ fp, H' b = none) ∧ H' D = none ∧ s'.heap.get? D = some { cls := .type "list", data := .seq its.toArray nD } := fun {σ' H' s'} J' => by
      have pD := J'.pin (D, { cls := .type "list", data := .seq its.toArray nD }) (List.mem_append_right _ (List.mem_append_left _ (List.mem_singleton.mpr rfl)))
      refine ⟨J'.pins_of fun p hp => absurd hp (by simp), T.keep _ _ _ st5 fun b hb ob e => (J'.pin (b, ob) (List.mem_append_right _ (List.mem_append_right _ (mem_pinsAt hb e)))).1, fun b hb => ?_, pD.2.1, pD.1⟩
      obtain ⟨ob, e, _⟩ := T.obj _ _ st5 b hb
      exact (J'.pin (b, ob) (List.mem_append_right _ (List.mem_append_right _ (mem_pinsAt hb e)))).2.1
    refine thn (hifs _ s6 (some xv :: cs) H5 _ I6' (step xv H5 y5)) fun b s7 ⟨H7, I7, q7⟩ => ?_
    cases b with
    | false =>
      obtain ⟨m', hm, w7⟩ : ∃ m', m' < n ∧ W (i + 1) m' acc H7 := hNn acc H7 q7
      obtain ⟨l1, l2, l3, l4, l5⟩ := later I7
      exact ⟨m', hm, i + 1, acc, its, H7, some xv, l1, l2, l3, l4, ⟨nD, l5⟩, va, hl, w7⟩
    | true =>
      have q7' : te (some xv :: cs) H7 fun v H3 => acc.length < sizeLine ∧ N (acc ++ [v]) H3 := q7
      show wpAny _ _ (eval elt X.env) _ _ s7
      refine thn (helt _ s7 (some xv :: cs) H7 _ I7 q7') fun u8 s8 ⟨v, H8, I8, r8, hlt, n8⟩ => ?_
      obtain ⟨m', hm, w8⟩ := hNn _ _ n8
      obtain ⟨l1, l2, l3, l4, l5⟩ := later I8
      have hlen := va.length
      refine wpAny_list_append_plain (hsz := by simp only [List.size_toArray]; omega) ⟨nD, l5⟩ fun h9 pl9 sb9 => ?_
      refine ⟨m', hm, i + 1, acc ++ [v], its ++ [u8], H8, some xv, l1.turned (t' := s8.toks) (fun b ob hb e => (sb9.2 b hb).trans e) l4 hD.2.1 hD.2.2.2.1 hD.2.2.2.2.1 hD.2.2.2.2.2, ?_, l3, l4, by simpa using pl9, va.append (.cons r8 .nil), ?_, w8⟩
      · exact T.keep _ _ _ l2 fun b hb ob e => (sb9.2 b (fun z => hDf (z ▸ hb))).trans e
      · rw [List.length_append, List.length_singleton]
        omega

/-! the block -/
section
variable {X : Cx} {elt iter : Expr} {x : Str} {px pos : Pos} {ifs : List Expr} {scope : Scope} {caps : List (Nat × Str)} {wi : TI} {tc : TT} {te : TE}
theorem Inv.stkNo {pins : List (Addr × Obj)} {σ : St} {H : Hp} {s : Shared} {b : Addr} (I : Inv X pins σ H s) (h1 : b ≠ X.env.locals) (h2 : b ∉ X.fs) : b ∉ frs X.stack := fun z => (List.mem_cons.mp (I.stkSub b z)).elim h1 h2
theorem comp_block {pins : List (Addr × Obj)} {σ : St} {H : Hp} {s : Shared} {E : Value → Shared → Prop} {it : Addr} {fp : List Addr} {tn : Nat → Heap → Prop} {J : It} {Z : List V → Hp → Prop} {RR : Value → Addr → Result → Shared → Prop}
    (hc : X.calm = true) (S : CompSc X.env.scope X.N scope x caps) (I : Inv X pins σ H s) (T : Turn X.prog X.w X.K (.Name x px) J fp it tn) (st : tn 0 s.heap) (hf : ∀ b ∈ fp, FpOk X pins H b)
    (hifs : ∀ C s H ex pn E, PIfs (cxComp X (x :: caps.map (·.2)) scope C s H ex pn E) ifs tc) (helt : ∀ C s H ex pn E, PE (cxComp X (x :: caps.map (·.2)) scope C s H ex pn E) elt te)
    (hW : tCompW J (capS caps σ) tc te H Z)
    (hRR : ∀ (s' : Shared) (H' : Hp) (acc : List V) (its : List Value) (D C : Addr) (m : Str → Option Value), Inv X pins σ H' s' → s'.heap.PlainList D its.toArray → Vals acc its → acc.length ≤ sizeLine → FpOk X pins H' D → FpOk X pins H' C → D ≠ C → s'.heap.Ns C m → Z acc H' → RR (.ref D) C (.ok .next) s') :
    wpAny (model X.prog X.w) X.A (newList []) (fun acc s₃ => wpAny (model X.prog X.w) X.A (newFunctionEnv scope X.env.globals (clOf X.env scope) [] X.env.qual none .none (some X.env)) (fun cenv s₄ =>
      codeAny (model X.prog X.w) X.A (.compStart (.ListComp elt [⟨.Name x px, iter, ifs, 0⟩] scope pos) 0 (.ref it) acc { cenv with scope := relabel scope X.env }) (RR acc cenv.locals) s₄) E s₃) E s := by
  refine wpAny_newObj_type (wpAny_newFunctionEnv S.ncell (by intro y hy; simp at hy) (fun h₁ hns₁ hsb₁ => ?_) S.kind)
  dsimp only at hns₁ hsb₁ ⊢
  have hI3 : Inv X pins σ H { s with heap := s.heap.push { cls := .type "list", dict := none, data := .seq ([] : List Value).toArray } } := I.kept (t' := s.toks) fun b u e => Heap.get?_push_of_some _ e
  have gD3 : (s.heap.push { cls := .type "list", dict := none, data := .seq ([] : List Value).toArray }).get? s.heap.objs.size = some { cls := .type "list", dict := none, data := .seq ([] : List Value).toArray } := Heap.get?_push_size _ rfl
  have hz3 : (s.heap.push { cls := .type "list", dict := none, data := .seq ([] : List Value).toArray }).objs.size = s.heap.objs.size + 1 := Heap.size_push _ _
  generalize hH3 : s.heap.push { cls := .type "list", dict := none, data := .seq ([] : List Value).toArray } = h3 at hns₁ hsb₁ hI3 gD3 hz3 ⊢
  have k3 : ∀ b u, s.heap.get? b = some u → h3.get? b = some u := fun b u e => hH3 ▸ Heap.get?_push_of_some _ e
  have k31 : ∀ b u, h3.get? b = some u → h₁.get? b = some u := fun b u e => (hsb₁.2 b (Nat.ne_of_lt (Heap.lt_size e))).trans (Heap.get?_push_of_some _ e)
  have k1 : ∀ b u, s.heap.get? b = some u → h₁.get? b = some u := fun b u e => k31 b u (k3 b u e)
  have hDC : s.heap.objs.size ≠ h3.objs.size := by rw [hz3]; exact Nat.ne_of_lt (Nat.lt_succ_self _)
  have fD : FpOk X pins H s.heap.objs.size := I.fpOk (Nat.le_refl _) (I.hok.fresh (Nat.le_refl _))
  have fC : FpOk X pins H h3.objs.size := I.fpOk (by rw [hz3]; exact Nat.le_succ _) (I.hok.fresh (by rw [hz3]; exact Nat.le_succ _))
  have lfp : ∀ b ∈ fp, b < s.heap.objs.size := fun b hb => let ⟨_, e, _⟩ := T.obj _ _ st b hb; Heap.lt_size e
  have hDf : s.heap.objs.size ∉ fp := fun z => Nat.lt_irrefl _ (lfp _ z)
  -- the closure's cells are cells around
  have hfree : ∀ y ∈ scope.names, y.2 = .free → ∃ c, X.env.cells.lookup y.1 = some c := fun y hy e => I.ok.has y.1 (S.free y hy e)
  obtain ⟨sub, has⟩ := clG_look scope.names [] hfree (fun y c e => by simp at e)
  have sub' : ∀ y c, (clOf X.env scope).lookup y = some c → X.env.cells.lookup y = some c := sub
  have has' : ∀ y, (y, NameKind.free) ∈ scope.names → ∃ c, (clOf X.env scope).lookup y = some c := fun y hy => Option.isSome_iff_exists.mp (has y (.inr hy))
  have inj : ∀ b ∈ s.heap.objs.size :: fp, FpOk X pins H b := fun b hb => (List.mem_cons.mp hb).elim (fun z => z ▸ fD) (hf b)
  have ltC : ∀ b ∈ s.heap.objs.size :: fp, b ≠ h3.objs.size := fun b hb => (List.mem_cons.mp hb).elim (fun z => z ▸ hDC) fun z => Nat.ne_of_lt (by rw [hz3]; exact Nat.lt_succ_of_lt (lfp b z))
  have I1 : Inv (cxComp X (x :: caps.map (·.2)) scope h3.objs.size { s with heap := h3 } H (s.heap.objs.size :: fp) (X.pn ++ pins)
      (notedBy (model X.prog X.w) X.A (compEnvC scope (clOf X.env scope) h3.objs.size X.env) fun e s' => RR (.ref s.heap.objs.size) h3.objs.size (.error e) s')) [] (none :: capS caps σ) H { s with heap := h₁, toks := s.toks + ([] : List (Str × Value)).length } := by
    refine ⟨⟨I.ok.mod, S.kind, I.ok.glob, I.ok.blt, Nat.le_refl _, fun y z c e1 e2 => I.ok.inj y z c (sub' _ _ e1) (sub' _ _ e2), fun y hy => has' y (free_of_relabel S.ncell hy), fun y c e => (nomatch e), I.ok.hd, I.ok.frames, .inl rfl, fun b hb => ⟨ltC b hb, fun y c e => (inj b hb).2.2.2.2.1 y c (sub' y c e)⟩,
        fun b ob e => ⟨k3 b ob (I.bs b ob e).1, (I.bs b ob e).2⟩, ?_, fun b ob e z => ?_, fun b hb => I.stkNo (inj b hb).2.1 (inj b hb).2.2.1, ?_, I.stkFree⟩,
      rfl, I.bare, Un.kept k31, ⟨_, hns₁, fun i y v e1 e2 e3 => ?_⟩, fun y c e => ?_, fC.1, fun y c e => I.freeC y c (sub' y c e), fun p hp => ?_, I.hok.kept k1, ?_⟩
    · exact Nat.le_trans I.ok.bsz (Nat.le_trans I.sz (by show s.heap.objs.size ≤ h3.objs.size; rw [hz3]; exact Nat.le_succ _))
    · rcases (inj b z).2.2.2.1 with w1 | w1
      · exact I.ok.noex b ob e w1
      · exact absurd (Nat.lt_of_lt_of_le (Heap.lt_size e) I.ok.bsz) (Nat.not_lt.mpr w1)
    · exact Heap.FunFrames.of_keeps (fun b ob e _ => ⟨ob, k3 b ob e, rfl⟩) I.stack
    · cases i with
      | zero => cases e2
      | succ i =>
        have e1' : (caps.map (·.2))[i]? = some y := e1
        have e2' : (capS caps σ)[i]? = some (some v) := e2
        unfold capS at e2'
        rw [List.getElem?_map] at e1' e2'
        cases ep : caps[i]? with
        | none => rw [ep] at e1'; cases e1'
        | some p =>
          rw [ep] at e1' e2'
          obtain rfl : p.2 = y := Option.some.inj e1'
          have e2'' : (σ[p.1]?).getD none = some v := Option.some.inj e2'
          have hσ : σ[p.1]? = some (some v) := by
            cases es : σ[p.1]? with
            | none => rw [es] at e2''; cases e2''
            | some w1 => rw [es] at e2''; exact congrArg some e2''
          obtain ⟨cN, cF⟩ := S.cap p (List.mem_of_getElem? ep)
          have mF : (p.2, NameKind.free) ∈ scope.names := PySem.mem_of_lookup cF
          have oF := S.free _ mF rfl
          obtain ⟨m, hn, hlook⟩ := I.loc
          obtain ⟨u, ru, lk⟩ := hlook p.1 p.2 v cN hσ (.inr oF)
          refine ⟨u, ru, .inr ⟨?_, ?_⟩⟩
          · rcases e3 with z | z
            · exact absurd z (lookup_relabel_free cF)
            · exact z
          · obtain ⟨c, ec⟩ := has' p.2 mF
            refine ⟨c, ec, ?_⟩
            rcases lk with ⟨z, _⟩ | ⟨_, c', ec', ob, ho, hd⟩
            · have z' : X.env.scope.names.lookup p.2 = some .local := z
              rw [z'] at oF
              rcases oF with q | q <;> cases q
            · have ee := (sub' _ _ ec).symm.trans ec'
              cases ee
              exact ⟨ob, k1 _ _ ho, hd⟩
    · obtain ⟨v, ob, ho, hd⟩ := I.cell y c (sub' y c e)
      exact ⟨v, ob, k1 _ _ ho, hd⟩
    · have hp' : p ∈ X.pn ++ pins := by
        rcases List.mem_append.mp hp with z | z
        · exact z
        · exact absurd z (by simp)
      obtain ⟨e, n, ne, nf, d⟩ := I.pin p hp'
      refine ⟨k1 _ _ e, n, Nat.ne_of_lt ?_, I.stkNo ne nf, d⟩
      show p.1 < h3.objs.size
      rw [hz3]
      exact Nat.lt_succ_of_lt (Heap.lt_size e)
    · show (none :: capS caps σ).length = (x :: caps.map (·.2)).length
      simp [capS]
  have hf1 : ∀ b ∈ s.heap.objs.size :: fp, FpOk (cxComp X (x :: caps.map (·.2)) scope h3.objs.size { s with heap := h3 } H (s.heap.objs.size :: fp) (X.pn ++ pins)
      (notedBy (model X.prog X.w) X.A (compEnvC scope (clOf X.env scope) h3.objs.size X.env) fun e s' => RR (.ref s.heap.objs.size) h3.objs.size (.error e) s')) [] H b := fun b hb => by
    obtain ⟨f0, f1, f2, f3, f4, f5⟩ := inj b hb
    refine ⟨f0, ltC b hb, I.stkNo f1 f2, .inl hb, fun y c e => f4 y c (sub' y c e), fun p hp => f5 p ?_⟩
    rcases List.mem_append.mp hp with z | z
    · exact z
    · exact absurd z (by simp)
  have st1 : tn 0 h₁ := T.keep _ _ _ st fun b _ ob e => k1 b ob e
  have loop : codeAny (model X.prog X.w) X.A (.compLoop (.ListComp elt [⟨.Name x px, iter, ifs, 0⟩] scope pos) 0 (.ref it) (.ref s.heap.objs.size) (compEnvC scope (clOf X.env scope) h3.objs.size X.env)) (RR (.ref s.heap.objs.size) h3.objs.size) { s with heap := h₁, toks := s.toks + ([] : List (Str × Value)).length } := by
    refine comp_loop (X := cxComp X (x :: caps.map (·.2)) scope h3.objs.size { s with heap := h3 } H (s.heap.objs.size :: fp) (X.pn ++ pins) (notedBy (model X.prog X.w) X.A (compEnvC scope (clOf X.env scope) h3.objs.size X.env) fun e s' => RR (.ref s.heap.objs.size) h3.objs.size (.error e) s'))
      hc rfl S.nd (lookup_relabel_local S.hx) I1 T st1 (fun b hb => hf1 b (List.mem_cons_of_mem _ hb)) (hf1 _ List.mem_cons_self) hDf ⟨0, k31 _ _ gD3⟩ (hifs _ _ _ _ _ _) (helt _ _ _ _ _ _) hW rfl ?_
    intro s' H' acc its o' J1 plD va hlen nD z
    have u1 : Un (frs X.stack) (s.heap.objs.size :: fp) H H' h3 s'.heap := J1.base
    have J2 : Inv X pins σ H' s' := Inv.call' (s := { s with heap := h3 }) hI3 J1.os u1 J1.hok J1.bare fun b hb => by
      obtain ⟨_, f1, _, f3, f4, f5⟩ := inj b hb
      exact ⟨f3, f1, f4, f5⟩
    obtain ⟨m, hn, _⟩ := J1.loc
    exact hRR s' H' acc its _ _ m J2 plD va hlen ⟨nD, fD.2⟩ ⟨J1.free, fC.2⟩ hDC hn z
  exact codeAny_compStart_list loop (T.self _ 0 _ _ _ st1 loop)

theorem pe_comp (hc : X.calm = true) (S : CompSc X.env.scope X.N scope x caps) (hi : PI X (.Name x px) iter wi)
    (hifs : ∀ C s H ex pn E, PIfs (cxComp X (x :: caps.map (·.2)) scope C s H ex pn E) ifs tc) (helt : ∀ C s H ex pn E, PE (cxComp X (x :: caps.map (·.2)) scope C s H ex pn E) elt te)
    (hs : ∀ x, foldedSetIterable iter X.env x = pure x := by intro _; rfl) : PE X (.ListComp elt [⟨.Name x px, iter, ifs, 0⟩] scope pos) (tComp wi caps tc te) := by
  intro pins s σ H Q I h
  have hfree : ∀ y ∈ scope.names, y.2 = .free → ∃ c, X.env.cells.lookup y.1 = some c := fun y hy e => I.ok.has y.1 (S.free y hy e)
  rw [eval_ListComp]
  refine wpAny_comprehension_free (use := none) rfl hs (closure_eq hfree) S.kind S.nloc (thn (hi pins s σ H _ I h) fun v s1 h1 => thn h1 fun itv s2 h2 => ?_)
  obtain ⟨it, fp, tn, J, H2, e, I2, T, st2, f2, hW⟩ := h2
  subst e
  refine comp_block (RR := fun acc C => compPost (model X.prog X.w) X.A X.xe none (EP X pins σ Q) acc C) hc S I2 T st2 f2 hifs helt hW ?_
  intro s' H' acc its D C m J2 plD va hlen fD fC hDC hn z
  obtain ⟨nD, gD⟩ := plD
  refine ⟨m, hn, fun h'' sb => ?_⟩
  have J3 : Inv X pins σ H' { s' with heap := h'' } := J2.turned (t' := s'.toks) (fun b ob hb e => (sb.2 b hb).trans e) fC.1 fC.2.1 fC.2.2.2.1 fC.2.2.2.2.1 fC.2.2.2.2.2
  exact ⟨.ref D, upd H' D (.lst acc), J3.adopt fD ⟨hlen, its, nD, va, (sb.2 D hDC).trans gD⟩, rfl, z D fD.1⟩
/-- name = [..] where the store is the comprehension's own last step -/
theorem ps_setC {i : Nat} {y : Str} {py spos : Pos} (hc : X.calm = true) (hN : X.N.Nodup) (hi' : X.N[i]? = some y) (hy : Loc X.env.scope y) (S : CompSc X.env.scope X.N scope x caps) (hi : PI X (.Name x px) iter wi)
    (hifs : ∀ C s H ex pn E, PIfs (cxComp X (x :: caps.map (·.2)) scope C s H ex pn E) ifs tc) (helt : ∀ C s H ex pn E, PE (cxComp X (x :: caps.map (·.2)) scope C s H ex pn E) elt te)
    (hsw : swapsWith (.ListComp elt [⟨.Name x px, iter, ifs, 0⟩] scope pos) (some (.Name y py)) spos.line X.env = pure true := by rfl) (hs : ∀ x, foldedSetIterable iter X.env x = pure x := by intro _; rfl)
    (hfn : X.fn y = true ∨ X.env.scope.names.lookup y = some .local := by first | exact .inl rfl | exact .inr rfl | assumption) : PS X (.Assign [.Name y py] (.ListComp elt [⟨.Name x px, iter, ifs, 0⟩] scope pos) spos) (tAsg (tComp wi caps tc te) (gName i)) := by
  intro pins s σ H D0 I h
  have hfree : ∀ y ∈ scope.names, y.2 = .free → ∃ c, X.env.cells.lookup y.1 = some c := fun y hy e => I.ok.has y.1 (S.free y hy e)
  rw [exec_Assign_Name_used _ _ _ _ hsw]
  refine wpAny_bind (wpAny_standAt (wpAny_bind ?_))
  show wpAny _ _ (do let _ ← comprehension (.ListComp elt [⟨.Name x px, iter, ifs, 0⟩] scope pos) scope X.env _ (newList []) false (eval iter X.env) (some (assign (.Name y py) X.env))) _ _ s
  refine wpAny_bind (wpAny_mono (wpAny_comprehension_free (use := some (assign (.Name y py) X.env)) (Q := fun _ s' => SP X pins D0 .next s') rfl hs (closure_eq hfree) S.kind S.nloc
    (thn (hi pins s σ H _ I h) fun v s1 h1 => thn h1 fun itv s2 h2 => ?_)) (fun _ s' hq => wpAny_pure (wpAny_pure hq)) fun _ _ e => e)
  obtain ⟨it, fp, tn, J, H2, e, I2, T, st2, f2, hW⟩ := h2
  subst e
  refine comp_block (RR := fun acc C => compPost (model X.prog X.w) X.A X.xe (some (assign (.Name y py) X.env)) (fun _ s' => SP X pins D0 .next s') acc C) hc S I2 T st2 f2 hifs helt hW ?_
  intro s' H' acc its D C m J2 plD va hlen fD fC hDC hn z
  obtain ⟨nD, gD⟩ := plD
  have J3 : Inv X pins σ (upd H' D (.lst acc)) s' := J2.adopt fD ⟨hlen, its, nD, va, gD⟩
  show wpAny _ _ (assign (.Name y py) X.env (.ref D)) _ _ s'
  refine wpAny_assign_Name (store_ok2 J3 hN hi' hy (show RelV (.ref D) (.ref D) from rfl) (fun s4 J4 ⟨a, sa, ha⟩ => ?_) hfn)
  have hCa : C ≠ a := by
    rcases ha with q | q
    · rw [q]; exact fC.2.1
    · exact (fC.2.2.2.2.1 y a q).symm
  refine ⟨m, hn.sameBut sa hCa, fun h'' sb => ?_⟩
  exact ⟨_, _, J4.turned (t' := s4.toks) (fun b ob hb e => (sb.2 b hb).trans e) (by rw [upd_ne (Ne.symm hDC)]; exact fC.1) fC.2.1 fC.2.2.2.1 fC.2.2.2.2.1 fC.2.2.2.2.2, z D fD.1⟩
end
end L2

namespace L2
open PySem PySem.Spec PyProof.Rows

/-! ### the forms of a comprehension one uses -/
theorem comp_of {J : It} {cs : St} {tc : TT} {te : TE} {H1 : Hp} {Z : List V → Hp → Prop} (n : Nat) (Pv : Nat → List V → Hp → Prop) (h0 : Pv 0 [] H1) (hd : ∀ acc H, Pv n acc H → J.stop n H ∧ Z acc H)
    (hs : ∀ i acc H, i < n → Pv i acc H → J.go i H ∧ ∀ x H', J.yld i H x H' → tc (some x :: cs) H' fun b H2 => if b = true then te (some x :: cs) H2 fun v H3 => acc.length < sizeLine ∧ Pv (i + 1) (acc ++ [v]) H3 else Pv (i + 1) acc H2) :
    tCompW J cs tc te H1 Z := by
  refine ⟨fun i m acc H => m = n - i ∧ i ≤ n ∧ Pv i acc H, ⟨n, by simp, Nat.zero_le _, h0⟩, ?_⟩
  rintro i m acc H ⟨rfl, hi, p⟩
  by_cases hlt : i < n
  · obtain ⟨g, y⟩ := hs i acc H hlt p
    exact .inr ⟨g, Pv (i + 1), fun a H' q => ⟨n - (i + 1), by omega, rfl, hlt, q⟩, y⟩
  · have e : i = n := by omega
    subst e
    exact .inl (hd acc H p)
theorem comp_range {lo : Int} {n : Nat} {cs : St} {tc : TT} {te : TE} {H1 : Hp} {Z : List V → Hp → Prop} (Pv : Nat → List V → Hp → Prop) (h0 : Pv 0 [] H1)
    (hs : ∀ i acc H, i < n → Pv i acc H → tc (some (.int (lo + i)) :: cs) H fun b H2 => if b = true then te (some (.int (lo + i)) :: cs) H2 fun v H3 => acc.length < sizeLine ∧ Pv (i + 1) (acc ++ [v]) H3 else Pv (i + 1) acc H2)
    (hd : ∀ acc H, Pv n acc H → Z acc H) : tCompW (Itr lo n) cs tc te H1 Z :=
  comp_of n Pv h0 (fun acc H p => ⟨Nat.le_refl _, hd acc H p⟩) fun i acc H hi p => ⟨hi, fun x H' y => by
    obtain ⟨e, y⟩ := y
    subst e y
    exact hs i acc _ hi p⟩
theorem comp_list {K : PySem.W.Frag} {a : Addr} {xs : List V} {cs : St} {tc : TT} {te : TE} {H1 : Hp} {Z : List V → Hp → Prop} (Pv : Nat → List V → Hp → Prop) (h0 : Pv 0 [] H1) (hl : ∀ i acc H, Pv i acc H → SqL K H a xs)
    (hs : ∀ i x acc H, xs[i]? = some x → Pv i acc H → tc (some x :: cs) H fun b H2 => if b = true then te (some x :: cs) H2 fun v H3 => acc.length < sizeLine ∧ Pv (i + 1) (acc ++ [v]) H3 else Pv (i + 1) acc H2)
    (hd : ∀ acc H, Pv xs.length acc H → Z acc H) : tCompW (Itl K a) cs tc te H1 Z :=
  comp_of xs.length Pv h0 (fun acc H p => ⟨⟨xs, hl _ _ _ p, Nat.le_refl _⟩, hd acc H p⟩) fun i acc H hi p => ⟨⟨xs, xs[i], hl _ _ _ p, by simp [hi]⟩, fun x H' y => by
    obtain ⟨e, y⟩ := y
    subst e
    exact hs i x acc _ (y xs (hl _ _ _ p)) p⟩
theorem comp_tup {K : PySem.W.Frag} {a : Addr} {xs : List V} {cs : St} {tc : TT} {te : TE} {H1 : Hp} {Z : List V → Hp → Prop} (Pv : Nat → List V → Hp → Prop) (h0 : Pv 0 [] H1) (hl : ∀ i acc H, Pv i acc H → SqT K H a xs)
    (hs : ∀ i x acc H, xs[i]? = some x → Pv i acc H → tc (some x :: cs) H fun b H2 => if b = true then te (some x :: cs) H2 fun v H3 => acc.length < sizeLine ∧ Pv (i + 1) (acc ++ [v]) H3 else Pv (i + 1) acc H2)
    (hd : ∀ acc H, Pv xs.length acc H → Z acc H) : tCompW (Itt K a) cs tc te H1 Z :=
  comp_of xs.length Pv h0 (fun acc H p => ⟨⟨xs, hl _ _ _ p, Nat.le_refl _⟩, hd acc H p⟩) fun i acc H hi p => ⟨⟨xs, xs[i], hl _ _ _ p, by simp [hi]⟩, fun x H' y => by
    obtain ⟨e, y⟩ := y
    subst e
    exact hs i x acc _ (y xs (hl _ _ _ p)) p⟩

/-! ### a text walked sign by sign -/
def Its (z : Str) : It := ⟨fun i _ => i < z.cps.size, fun i H x H' => H' = H ∧ ∃ c, z.cps[i]? = some c ∧ x = .str ⟨#[c]⟩, fun i _ => z.cps.size ≤ i⟩
section
variable {X : Cx} {tg : Expr}
def iStr (tl : TE) : TI := fun σ H R => tl σ H fun x H1 => ∃ z, x = .str z ∧ R (Its z) H1
end
/-! ### texts: find, join, slices; truths: is, all -/
section
variable {X : Cx}
end
end L2
namespace L2
open PySem PySem.Spec PyProof.Rows
section
variable {X : Cx} {a b c : Expr} {ta tb : TE} {pos : Pos}
/-- a op1 b op2 k of ints, k a constant: one truth -/
def tChI (p p' : Int → Int → Bool) (k : Int) (ta tb : TE) : TE := fun σ H Q => ta σ H fun x H1 => tb σ H1 fun y H2 => ∃ i j, x = .int i ∧ y = .int j ∧ Q (.bl (p i j && p' j k)) H2
end
theorem atI_some {α : Type} {xs : List α} {i : Int} (h0 : 0 ≤ i) (h1 : i < (xs.length : Int)) : ∃ v ∈ xs, atI xs i = some v := by
  have hk : i.toNat < xs.length := by omega
  have e : xs[i.toNat]? = some xs[i.toNat] := List.getElem?_eq_getElem hk
  refine ⟨xs[i.toNat], List.getElem_mem hk, ?_⟩
  have q := atI_nat e
  rw [Int.toNat_of_nonneg h0] at q
  exact q
theorem atI_int {ns : List Int} {i : Int} (h0 : 0 ≤ i) (h1 : i < (ns.length : Int)) : ∃ v : Int, atI (ns.map V.int) i = some (.int v) := by
  obtain ⟨v, hv, e⟩ := atI_some (xs := ns.map V.int) h0 (by rw [List.length_map]; exact h1)
  obtain ⟨n, _, rfl⟩ := List.mem_map.mp hv
  exact ⟨n, e⟩
theorem small_le {n : Nat} (h : n ≤ 1000) : n ≤ sizeLine := Nat.le_of_lt (small1000 h)
theorem mask31 (x : Int) : Builtin.bitAnd x 2147483647 = x % 2147483648 := PySem.W.kbt_mask x 31
theorem maskB (x : Int) : 0 ≤ Builtin.bitAnd x 2147483647 ∧ Builtin.bitAnd x 2147483647 < 2147483648 := by
  rw [mask31]
  omega
end L2
namespace L2
open PySem PySem.Spec PyProof.Rows
section
variable {X : Cx} {st : Stmt} {rest : List Stmt} {t u : TS}
/-- a word M between a statement and what follows: both ways through the statement meet there -/
def tCut (t u : TS) : TS := fun D σ H => ∃ M : St → Hp → Prop, t { D with nx := M } σ H ∧ ∀ σ' H', M σ' H' → u D σ' H'
theorem pss_cut (h1 : PS X st t) (h2 : PSs X rest u) : PSs X (st :: rest) (tCut t u) := by
  intro pins s σ H D I h
  obtain ⟨M, h, hM⟩ := h
  refine wpAny_execs_cons (thn (h1 pins s σ H { D with nx := M } I h) fun f s1 q => ?_)
  cases f with
  | next =>
    obtain ⟨σ', H', I', q⟩ := q
    exact h2 pins s1 σ' H' D I' (hM σ' H' q)
  | ret v => exact q
  | brk => exact q
  | cont => exact q
end
theorem same_new {H : Hp} {p : Addr} (h : H p = none) (o : HO) : Same H (upd H p o) := fun b u q => by rw [upd_ne (ne_of_none q h)]; exact q
end L2
namespace L2
open PySem PySem.Spec PyProof.Rows
/-- a word M behind an expression (a test): its ways meet there -/
def tCutE (t : TE) : TE := fun σ H Q => ∃ M : VK, t σ H M ∧ ∀ v H', M v H' → Q v H'
theorem pe_cut {X : Cx} {e : Expr} {t : TE} (h : PE X e t) : PE X e (tCutE t) := by
  intro pins s σ H Q I ⟨M, hM, hQ⟩
  exact thn (h pins s σ H M I hM) fun u s' ⟨v, H', I', r, m⟩ => ⟨v, H', I', r, hQ v H' m⟩
def tCutT (t : TT) : TT := fun σ H Q => ∃ M : Bool → Hp → Prop, t σ H M ∧ ∀ b H', M b H' → Q b H'
theorem pt_cut {X : Cx} {e : Expr} {t : TT} (h : PT X e t) : PT X e (tCutT t) := by
  intro pins s σ H Q I ⟨M, hM, hQ⟩
  exact thn (h pins s σ H M I hM) fun b s' ⟨H', I', m⟩ => ⟨H', I', hQ b H' m⟩
end L2

namespace L2
open PySem PySem.Spec PyProof.Rows
/-! isinstance with a type of Python's own -/
section
variable {X : Cx}
end
end L2

namespace L2
open PySem
theorem ifT {c : Bool} {A B : Prop} (h : c = true) (a : A) : if c = true then A else B := by rw [if_pos h]; exact a
theorem ifF {c : Bool} {A B : Prop} (h : c = false) (b : B) : if c = true then A else B := by rw [if_neg (by rw [h]; decide)]; exact b
end L2

namespace Gds
open PySem L2
/-! guards as a datum of our own, and how the heap bears them -/
inductive Gd where
  | yes
  | is (b n : Int)
  | under (b n : Int)
  | inn (r : Int)
  | neg (g : Gd)
  | both (g h : Gd)
  | either (g h : Gd)
def Gd.ht : Gd → Nat
  | .yes => 1
  | .is _ _ => 1
  | .under _ _ => 1
  | .inn _ => 1
  | .neg g => g.ht + 1
  | .both g h => 1 + max g.ht h.ht
  | .either g h => 1 + max g.ht h.ht
def at0 (bx : List Int) (b : Int) : Int := bx.getD b.toNat 0
def Gd.holds (op bx : List Int) : Gd → Bool
  | .yes => true
  | .is b n => decide (V.int (at0 bx b) = V.int n)
  | .under b n => decide (at0 bx b < n)
  | .inn r => inV (.int r) (op.map V.int)
  | .neg g => !(g.holds op bx)
  | .both g h => g.holds op bx && h.holds op bx
  | .either g h => g.holds op bx || h.holds op bx
def Gd.ok (nb : Nat) : Gd → Prop
  | .yes => True
  | .is b _ => 0 ≤ b ∧ b < (nb : Int)
  | .under b _ => 0 ≤ b ∧ b < (nb : Int)
  | .inn _ => True
  | .neg g => g.ok nb
  | .both g h => g.ok nb ∧ h.ok nb
  | .either g h => g.ok nb ∧ h.ok nb
/-- tuples stay -/
def KeepT (H H' : Hp) : Prop := ∀ b xs, H b = some (.tup xs) → H' b = some (.tup xs)
theorem KeepT.trans {H H1 H2 : Hp} (a : KeepT H H1) (b : KeepT H1 H2) : KeepT H H2 := fun c xs h => b c xs (a c xs h)
theorem KeepT.of {H H' : Hp} (s : Same H H') : KeepT H H' := fun b xs h => s b _ h
theorem KeepT.lst {H : Hp} {p : Addr} {xs : List V} (h : H p = some (.lst xs)) (o : HO) : KeepT H (upd H p o) := fun b ys e => by
  rw [upd_ne (ne_of e h (by intro z; cases z))]
  exact e
theorem KeepT.new {H : Hp} {p : Addr} (h : H p = none) (o : HO) : KeepT H (upd H p o) := .of (same_new h o)
theorem same_upd {H H' : Hp} {p : Addr} (hp : H p = none) (s : Same H H') (o : HO) : Same H (upd H' p o) := fun b u e => by
  rw [upd_ne (ne_of_none e hp)]
  exact s b u e
inductive GdIn (H : Hp) : V → Gd → Prop where
  | yes {a : Addr} : H a = some (.tup [.str "yes"]) → GdIn H (.ref a) .yes
  | is {a : Addr} {b n : Int} : H a = some (.tup [.str "is", .int b, .int n]) → GdIn H (.ref a) (.is b n)
  | under {a : Addr} {b n : Int} : H a = some (.tup [.str "under", .int b, .int n]) → GdIn H (.ref a) (.under b n)
  | inn {a : Addr} {r : Int} : H a = some (.tup [.str "in", .int r]) → GdIn H (.ref a) (.inn r)
  | neg {a : Addr} {v : V} {g : Gd} : H a = some (.tup [.str "not", v]) → GdIn H v g → GdIn H (.ref a) (.neg g)
  | both {a : Addr} {v u : V} {g h : Gd} : H a = some (.tup [.str "both", v, u]) → GdIn H v g → GdIn H u h → GdIn H (.ref a) (.both g h)
  | either {a : Addr} {v u : V} {g h : Gd} : H a = some (.tup [.str "either", v, u]) → GdIn H v g → GdIn H u h → GdIn H (.ref a) (.either g h)
end Gds

namespace L2
open PySem PySem.Spec PyProof.Rows

/-! ### lists of pairs as tables -/
section
variable {κ : Type} [DecidableEq κ]
def valV (kvs : List (κ × V)) (k : κ) : Option V := (kvs.find? fun kv => decide (kv.1 = k)).map (·.2)
/-- in its place, or at the end -/
def putK (kvs : List (κ × V)) (k : κ) (v : V) : List (κ × V) :=
  if (kvs.any fun kv => decide (kv.1 = k)) = true then kvs.map (fun kv => if kv.1 = k then (kv.1, v) else kv) else kvs ++ [(k, v)]
def dropK (kvs : List (κ × V)) (k : κ) : List (κ × V) := kvs.filter fun kv => decide (kv.1 ≠ k)

theorem valV_pos {p : κ × V} {r : List (κ × V)} {k : κ} (e : p.1 = k) : valV (p :: r) k = some p.2 := by simp [valV, List.find?_cons, e]
theorem valV_neg {p : κ × V} {r : List (κ × V)} {k : κ} (e : ¬ p.1 = k) : valV (p :: r) k = valV r k := by simp [valV, List.find?_cons, e]
end


/-! ### a tracked dict, its keys ints and texts or tuples of these -/
theorem kV_is {P : Program} {w : World} {k : Key} {u : Value} (r : RelV (kV k) u) : (mixKind P w).is k u = true := by
  cases k with
  | inl i => obtain ⟨t, e⟩ := (show ∃ t, u = Value.int i t from r); subst e; exact mixKind_int P w i t
  | inr x => obtain ⟨t, e⟩ := (show ∃ t, u = Value.str x t from r); subst e; exact mixKind_str P w x t
/-- raw entries of a dict with tuple keys -/
abbrev KT (H : Hp) : List (List Key × V) → List (List Key × Addr × Value) → Prop := Paired fun p q => p.1 = q.1 ∧ H q.2.1 = some (.tup (p.1.map kV)) ∧ RelV p.2 q.2.2
section
variable {P : Program} {w : World} {H : Hp} {h : Heap} {a : Addr}
end

/-- what the dict at a holds at the key y -/
def DGet (H : Hp) (a : Addr) (y : V) (r : Option V) : Prop :=
  (∃ kvs k, Rd H a (.dK kvs) ∧ y = kV k ∧ r = valV kvs k) ∨ ∃ kvs k b, Rd H a (.dT kvs) ∧ y = .ref b ∧ H b = some (.tup (k.map kV)) ∧ r = valV kvs k
/-- the heap behind a[y] = v -/
def DPut (H : Hp) (a : Addr) (y v : V) (H' : Hp) : Prop :=
  (∃ kvs k, H a = some (.dK kvs) ∧ y = kV k ∧ kvs.length < sizeLine ∧ H' = upd H a (.dK (putK kvs k v))) ∨
  ∃ kvs k b, H a = some (.dT kvs) ∧ y = .ref b ∧ H b = some (.tup (k.map kV)) ∧ kvs.length < sizeLine ∧ H' = upd H a (.dT (putK kvs k v))
section
variable {X : Cx} {pins : List (Addr × Obj)} {σ : St} {H : Hp} {s : Shared} {a : Addr} {y v : V} {u r : Value} {o : Option V} {A : Around} {E : Value → Shared → Prop}

theorem Inv.big (I : Inv X pins σ H s) : sysModules < s.heap.objs.size := by
  have h : mainGlobals < s.heap.objs.size := (I.mod.glob.keeps I.bk).lt
  exact Nat.lt_trans (by decide) h

/-- a dict's object is replaced -/
theorem d_write {h' : Heap} {t' : Nat} {ob : HO} (I : Inv X pins σ H s) (mu : Mut (H a)) (hs : Heap.SameBut a s.heap h') (he : ∃ q, h'.get? a = some q) (new : ObjOk X.prog X.w (upd H a ob) h' a ob) :
    Inv X pins σ (upd H a ob) { s with heap := h', toks := t' } :=
  I.write (x := a) (e := a) mu (.inl rfl) (fun b q hb z => (hs.2 b hb).trans z) he new
end

section
variable {X : Cx} {pins : List (Addr × Obj)} {σ : St} {H : Hp} {s : Shared} {a : Addr} {kvs : List (Key × V)} {k : Key} {u : Value} {A : Around} {E : Value → Shared → Prop}
end


/-! ### readings and rules -/
/-- the element of a subscription, not a slice -/
def NoSl (i : Expr) : Prop := ∀ ov iv, subscripted i false ov iv = operate [ov, iv] (getItem ov iv)
theorem subD_of {prog : Program} {w : World} {A : Around} {E : Value → Shared → Prop} {s : Shared} {env : Env} {value slice : Expr} {pos : Pos} {T id : String} {Q : Value → Shared → Prop}
    (hl : typeLookup (.type T) "__getitem__" = pure (some (.builtin id))) (hs : NoSl slice)
    (h : wpAny (model prog w) A (eval value env) (fun o s₁ => wpAny (model prog w) A (eval slice env) (fun i s₂ => s₂.TypeIs o T ∧ wpAny (model prog w) A (getItem o i) Q E s₂) E s₁) E s) :
    wpAny (model prog w) A (eval (.Subscript value slice pos) env) Q E s := by
  refine Subscript_ (wpAny_mono h (fun o s₁ h₁ => wpAny_mono h₁ (fun i s₂ h₂ => ?_) fun _ _ x => x) fun _ _ x => x)
  obtain ⟨hT, h₂⟩ := h₂
  unfold subscriptTail
  refine wpAny_bind ?_
  rw [getitemInPython_of_ne hT.not_modules]
  refine wpAny_bind (wpAny_specialOf hT hl ?_)
  have fin : wpAny (model prog w) A (subscripted slice false o i) (fun r s₃ => wpAny (model prog w) A (letTemporaryGo value o r >>= fun _ => pure r) Q E s₃) E s₂ := by
    rw [hs o i]
    exact wpAny_operating (wpAny_mono h₂ (fun r s₃ h₃ => wpAny_bind (wpAny_letTemporaryGo (wpAny_pure h₃))) fun _ _ x => x)
  first
    | exact wpAny_pure (wpAny_bind fin)
    | exact wpAny_bind (wpAny_pure (wpAny_bind fin))
    | exact wpAny_bind fin

/-- d[y] -/
def tDGet (td ty : TE) : TE := fun σ H Q => td σ H fun x H1 => ty σ H1 fun y H2 => ∃ a v, x = .ref a ∧ DGet H2 a y (some v) ∧ Q v H2
/-- y in d, y not in d -/
def tDIn (ty td : TE) : TE := fun σ H Q => ty σ H fun y H1 => td σ H1 fun x H2 => ∃ a o, x = .ref a ∧ DGet H2 a y o ∧ Q (.bl o.isSome) H2
def tDNotIn (ty td : TE) : TE := fun σ H Q => ty σ H fun y H1 => td σ H1 fun x H2 => ∃ a o, x = .ref a ∧ DGet H2 a y o ∧ Q (.bl (!o.isSome)) H2
/-- d[y] = v -/
def sDPut (td ty tv : TE) : TS := fun D σ H => tv σ H fun v H1 => td σ H1 fun x H2 => ty σ H2 fun y H3 => ∃ a H4, x = .ref a ∧ DPut H3 a y v H4 ∧ D.nx σ H4
/-- d[y] op= v -/
def sDAug (td ty tv : TE) (rd : V → V → Hp → VK → Prop) : TS := fun D σ H => td σ H fun x H1 => ty σ H1 fun y H2 => ∃ a v, x = .ref a ∧ DGet H2 a y (some v) ∧
  tv σ H2 fun y2 H3 => rd v y2 H3 fun z H4 => ∃ H5, DPut H4 a y z H5 ∧ D.nx σ H5
/-- del d[y] -/
def sDDel (td ty : TE) : TS := fun D σ H => td σ H fun x H1 => ty σ H1 fun y H2 => ∃ a kvs k, x = .ref a ∧ H2 a = some (.dK kvs) ∧ y = kV k ∧ (valV kvs k).isSome = true ∧ D.nx σ (upd H2 a (.dK (dropK kvs k)))

section
variable {X : Cx} {o i e value : Expr} {pos pos' tpos : Pos} {td ty tv : TE}
end


/-! ### displays -/
/-- {}, to be a dict of the kind that is wanted -/
def tDNewK : TE := fun _ H Q => ∀ p, H p = none → Q (.ref p) (upd H p (.dK []))
def tDNewT : TE := fun _ H Q => ∀ p, H p = none → Q (.ref p) (upd H p (.dT []))
section
variable {X : Cx} {pos : Pos}
end

/-- the pairs of a display, from the left -/
def tPairs : List (TE × TE) → St → Hp → (List (V × V) → Hp → Prop) → Prop
  | [], _, H, Q => Q [] H
  | (tk, tv) :: r, σ, H, Q => tk σ H fun x H1 => tv σ H1 fun y H2 => tPairs r σ H2 fun ps H3 => Q ((x, y) :: ps) H3
abbrev VV : List (V × V) → List (Value × Value) → Prop := Paired fun p q => RelV p.1 q.1 ∧ RelV p.2 q.2
def PPs (X : Cx) (pos : Pos) (keys : List (Option Expr)) (values : List Expr) (trs : List (TE × TE)) : Prop :=
  ∀ (pins : List (Addr × Obj)) (s : Shared) (σ : St) (H : Hp) (Q : List (V × V) → Hp → Prop), Inv X pins σ H s → tPairs trs σ H Q →
    wpAny (model X.prog X.w) X.A (evalPairs (pairTrees keys values X.env pos)) (fun vs s' => ∃ ps H', Inv X pins σ H' s' ∧ VV ps vs ∧ Q ps H') X.xe s
def mergeK (kvs more : List (Key × V)) : List (Key × V) := more.foldl (fun acc kv => putK acc kv.1 kv.2) kvs
/-- {k: v, ..} with keys ints and texts; the new dict stands empty while the pairs are made -/
def tDisp (trs : List (TE × TE)) : TE := fun σ H Q => ∀ p, H p = none → tPairs trs σ (upd H p (.dK [])) fun ps H2 => H2 p = some (.dK []) ∧ ∃ kvs : List (Key × V), ps = kvs.map (fun kv => (kV kv.1, kv.2)) ∧ kvs.length ≤ 15 ∧ Q (.ref p) (upd H2 p (.dK (mergeK [] kvs)))
/-! ### methods -/
/-- a method call o.m(e) of a built-in, with one argument: what must be seen of the text -/
structure M1 (X : Cx) (o : Expr) (m : Str) (apos : Pos) (e : Expr) (cpos : Pos) : Prop where
  base : attributeBase o m X.env (eval o X.env) = eval o X.env
  few : ((backTo cpos (starEach [e] X.env)).all (fun x => !x.1) && (backToKw cpos (keywordEach [] X.env)).all (fun x => x.1.isSome)
    && decide (([e] : List Expr).length + ([] : List Keyword).length + (if ([] : List Keyword).isEmpty then 0 else 1) < 30)) = true
  line : (apos.endLine == cpos.line) = true
  trees : backTo cpos (starEach [e] X.env) = [(false, eval e X.env)]
structure M2 (X : Cx) (o : Expr) (m : Str) (apos : Pos) (e f : Expr) (cpos : Pos) : Prop where
  base : attributeBase o m X.env (eval o X.env) = eval o X.env
  few : ((backTo cpos (starEach [e, f] X.env)).all (fun x => !x.1) && (backToKw cpos (keywordEach [] X.env)).all (fun x => x.1.isSome)
    && decide (([e, f] : List Expr).length + ([] : List Keyword).length + (if ([] : List Keyword).isEmpty then 0 else 1) < 30)) = true
  line : (apos.endLine == cpos.line) = true
  trees : backTo cpos (starEach [e, f] X.env) = [(false, eval e X.env), (false, eval f X.env)]

/-- a is a dict, whatever its keys -/
def IsD (H : Hp) (a : Addr) : Prop := (∃ kvs, Rd H a (.dK kvs)) ∨ ∃ kvs, Rd H a (.dT kvs)
section
variable {X : Cx} {pins : List (Addr × Obj)} {σ : St} {H : Hp} {s : Shared} {a : Addr} {y d : V} {u r : Value} {o : Option V} {A : Around} {E : Value → Shared → Prop}
end

def tDGet1 (td ty : TE) : TE := fun σ H Q => td σ H fun x H1 => ∃ a, x = .ref a ∧ IsD H1 a ∧ ty σ H1 fun y H2 => ∃ o, DGet H2 a y o ∧ Q (o.getD .non) H2
def tDGet2 (td ty tx : TE) : TE := fun σ H Q => td σ H fun x H1 => ∃ a, x = .ref a ∧ IsD H1 a ∧ ty σ H1 fun y H2 => tx σ H2 fun z H3 => ∃ o, DGet H3 a y o ∧ Q (o.getD z) H3
/-- d.pop(k): there; d.pop(k, x): there or not -/
def tDPop1 (td ty : TE) : TE := fun σ H Q => td σ H fun x H1 => ∃ a, x = .ref a ∧ IsD H1 a ∧ ty σ H1 fun y H2 => ∃ kvs k v, H2 a = some (.dK kvs) ∧ y = kV k ∧ valV kvs k = some v ∧ Q v (upd H2 a (.dK (dropK kvs k)))
def tDPop2 (td ty tx : TE) : TE := fun σ H Q => td σ H fun x H1 => ∃ a, x = .ref a ∧ IsD H1 a ∧ ty σ H1 fun y H2 => tx σ H2 fun z H3 => ∃ kvs k, H3 a = some (.dK kvs) ∧ y = kV k ∧
  (∀ v, valV kvs k = some v → Q v (upd H3 a (.dK (dropK kvs k)))) ∧ (valV kvs k = none → Q z H3)
section
variable {X : Cx} {o e f : Expr} {apos cpos : Pos} {td ty tx : TE}
end

/-! ### dict(d): a copy -/
section
variable {X : Cx} {pins : List (Addr × Obj)} {σ : St} {H : Hp} {s : Shared} {a : Addr} {kvs : List (Key × V)} {A : Around} {E : Value → Shared → Prop}
end


section
variable {X : Cx} {pins : List (Addr × Obj)} {σ : St} {H : Hp} {s : Shared} {a : Addr} {y : V} {u : Value} {A : Around} {E : Value → Shared → Prop}
end
end L2
namespace L2
open PySem
/-! two tuples of the same flat items are not unlike -/
section
variable {X : Cx}
theorem eqV_self {x : V} (h : flatV x = true) : eqV x x = true := by
  cases x with
  | non => rfl
  | bl b => exact beq_self_eq_true b
  | int b => exact beq_self_eq_true b
  | str b => exact beq_self_eq_true b
  | _ => exact absurd (show false = true from h) Bool.false_ne_true
theorem eqAt_two {A : Around} {s : Shared} : ∀ {xs : List V} {us vs : List Value}, Vals xs us → Vals xs vs → xs.all flatV = true → ∀ (j : Nat) (h1 : j < us.length) (h2 : j < vs.length), SeqAt.EqAt A s us[j] vs[j] true
  | _, _, _, .nil, .nil, _, j, h1, _ => absurd h1 (Nat.not_lt_zero _)
  | x :: xs, u :: us, v :: vs, .cons r t, .cons r' t', f, j, h1, h2 => by
    rw [List.all_cons, Bool.and_eq_true] at f
    cases j with
    | zero =>
      have := eqAt_V (A := A) (s := s) r r' f.1 f.1
      rw [eqV_self f.1] at this
      exact this
    | succ j => exact eqAt_two t t' f.2 j (Nat.lt_of_succ_lt_succ h1) (Nat.lt_of_succ_lt_succ h2)
end
end L2

namespace L2
open PySem
/-! values that are alike through and through -/
inductive Dq (K : PySem.W.Frag) (H : Hp) : Nat → V → V → Prop where
  | flat {n : Nat} {x : V} : flatV x = true → Dq K H n x x
  | same {n : Nat} {a : Addr} : Dq K H n (.ref a) (.ref a)
  | tup {n : Nat} {a b : Addr} {xs ys : List V} : SqT K H a xs → SqT K H b ys → xs.length = ys.length → (∀ (j : Nat) (x y : V), xs[j]? = some x → ys[j]? = some y → Dq K H n x y) → Dq K H (n + 1) (.ref a) (.ref b)
  | lst {n : Nat} {a b : Addr} {xs ys : List V} : SqL K H a xs → SqL K H b ys → xs.length = ys.length → (∀ (j : Nat) (x y : V), xs[j]? = some x → ys[j]? = some y → Dq K H n x y) → Dq K H (n + 1) (.ref a) (.ref b)
theorem Vals.at_of {xs : List V} {us : List Value} (r : Vals xs us) {j : Nat} (h : j < us.length) : ∃ x, xs[j]? = some x ∧ RelV x us[j] := by
  have hl := r.length
  have hx : xs[j]? = some xs[j] := List.getElem?_eq_getElem (by omega)
  obtain ⟨u, hu, ru⟩ := r.get hx
  rw [List.getElem?_eq_getElem h] at hu
  exact ⟨_, hx, Option.some.inj hu ▸ ru⟩
section
variable {X : Cx} {pins : List (Addr × Obj)} {σ : St} {H : Hp} {s : Shared}
theorem Dq.eqAt (I : Inv X pins σ H s) {n : Nat} {x y : V} (d : Dq X.K H n x y) : ∀ {A : Around} {u v : Value}, RelV x u → RelV y v → A.units + n < cLine → SeqAt.EqAt A s u v true := by
  induction d with
  | @flat n x f =>
    intro A u v ru rv _
    have := eqAt_V (A := A) (s := s) ru rv f f
    rw [eqV_self f] at this
    exact this
  | same =>
    intro A u v ru rv _
    cases ru
    cases rv
    exact SeqAt.EqAt.same _
  | @tup n a b xs ys ha hb hl _ ih =>
    intro A u v ru rv hu
    cases ru
    cases rv
    obtain ⟨its, r1, p1, _⟩ := I.tuple ha
    obtain ⟨its2, r2, p2, _⟩ := I.tuple hb
    have l1 := r1.length
    have l2 := r2.length
    by_cases e : a = b
    · subst e
      exact SeqAt.EqAt.same _
    refine SeqAt.EqAt.of_refs e ?_
    have := SeqAt.RcAt.tuples (A := A) (s := s) (e := fun _ => true) p1 p2 (by omega) (fun j h1 h2 => ?_)
    · have e2 : ((List.range (min its.toArray.size its2.toArray.size)).all (fun _ => true) && its.toArray.size == its2.toArray.size) = true := by
        rw [List.size_toArray, List.size_toArray, ← l1, ← l2, hl]
        simp
      rw [e2] at this
      exact this
    · have h1' : j < its.length := by simpa using h1
      have h2' : j < its2.length := by simpa using h2
      obtain ⟨x, hx, rx⟩ := r1.at_of h1'
      obtain ⟨y, hy, ry⟩ := r2.at_of h2'
      have := ih j x y hx hy (A := A.in1) rx ry (by show A.in1.units + n < cLine; simp; omega)
      simpa using this
  | @lst n a b xs ys ha hb hl _ ih =>
    intro A u v ru rv hu
    cases ru
    cases rv
    obtain ⟨its, r1, p1, _⟩ := I.list ha
    obtain ⟨its2, r2, p2, _⟩ := I.list hb
    have l1 := r1.length
    have l2 := r2.length
    by_cases e : a = b
    · subst e
      exact SeqAt.EqAt.same _
    refine SeqAt.EqAt.of_refs e ?_
    have := SeqAt.RcAt.lists (A := A) (s := s) (e := fun _ => true) p1.isList p2.isList (by rw [List.size_toArray, List.size_toArray, ← l1, ← l2, hl]) (by omega) (fun j h1 h2 => ?_)
    · have e2 : (List.range its.toArray.size).all (fun _ => true) = true := by simp
      rw [e2] at this
      exact this
    · have h1' : j < its.length := by simpa using h1
      have h2' : j < its2.length := by simpa using h2
      obtain ⟨x, hx, rx⟩ := r1.at_of h1'
      obtain ⟨y, hy, ry⟩ := r2.at_of h2'
      have := ih j x y hx hy (A := A.in1) rx ry (by show A.in1.units + n < cLine; simp; omega)
      simpa using this
end
section
variable {X : Cx}
theorem op_neDL (hu : X.A.units + 64 < cLine) : OpR X (compareOp .NotEq) (fun x y H Q => ∃ a b xs ys n, x = .ref a ∧ y = .ref b ∧ SqL X.K H a xs ∧ SqL X.K H b ys ∧ xs.length = ys.length ∧ (∀ (j : Nat) (x y : V), xs[j]? = some x → ys[j]? = some y → Dq X.K H n x y) ∧ n ≤ 60 ∧ Q (.bl false) H) := by
  intro pins s σ H x y v u Q I rx ry h
  obtain ⟨a, b, xs, ys, n, rfl, rfl, ha, hb, hl, dq, hn, q⟩ := h
  cases rx
  cases ry
  obtain ⟨its, r1, p1, _⟩ := I.list ha
  obtain ⟨its2, r2, p2, _⟩ := I.list hb
  have l1 := r1.length
  have l2 := r2.length
  refine SeqAt.RcNeAt.lists (e := fun _ => true) p1.isList p2.isList (by rw [List.size_toArray, List.size_toArray, ← l1, ← l2, hl]) (by omega) (fun j h1 h2 => ?_) X.prog X.w X.xe _ ?_
  · have h1' : j < its.length := by simpa using h1
    have h2' : j < its2.length := by simpa using h2
    obtain ⟨x, hx, rx⟩ := r1.at_of h1'
    obtain ⟨y, hy, ry⟩ := r2.at_of h2'
    have := (dq j x y hx hy).eqAt I (A := X.A.in1) rx ry (by show X.A.in1.units + n < cLine; simp; omega)
    simpa using this
  · have e : (!(List.range its.toArray.size).all (fun _ => true)) = false := by
      simp
    rw [e]
    exact ⟨.bl false, H, I, rfl, q⟩
end
end L2

namespace L2
open PySem PyProof.Rows
/-! a def whose scope is given as a datum: a big body is walked but once -/
theorem okS {P : Program} {w : World} {K : PySem.W.Frag} {mg : Str → Option Value} {base : Heap} {x qual : Str} {st : Stmt} {f : Addr} {fd : FuncData} {N ps : List Str} {k : Nat} {sp : Sp} (sc : Scope) (hsc : defScope st = sc) (F : Fun K x qual st f fd) (S : FnScope N ps sc) (len : ∀ vs H Q E, sp vs H Q E → vs.length = ps.length)
    (hbody : ∀ (cdv : Value) (A : Around) (outer : List Env) (s : Shared) (H : Hp) (vs : List V) (Q : VK) (E : XK), Room k (A.deeper (envOfC qual sc s.heap.objs.size f cdv)) → sp vs H Q E →
      ∃ t, PSs (cxOf CX0 P w K mg base N qual sc f cdv A outer s H E).nox (defBody st) t ∧ t { nx := fun _ H' => Q .non H', rt := Q } (start N vs) H) : FnOk P w K mg base CX0 (k + 1) f fd ps sp := by
  subst hsc
  exact F.ok S len hbody
end L2

namespace HT
open PySem PySem.Spec PyProof.Rows
section
variable {prog : Program} {w : World} {A : Around} {E : Value → Shared → Prop} {s : Shared}
end
end HT
namespace L2
open PySem PySem.Spec PyProof.Rows
section
variable {X : Cx}
/-- t[lo:hi], be it the whole or not -/
def rSlA (K : PySem.W.Frag) : V → Option Int → Option Int → Hp → VK → Prop := fun x lo hi H Q => ∃ a xs, x = .ref a ∧ SqT K H a xs ∧
  ((HT.sIx xs.length 0 lo = 0 ∧ HT.sIx xs.length xs.length hi = xs.length) → Q (.ref a) H) ∧ (¬ (HT.sIx xs.length 0 lo = 0 ∧ HT.sIx xs.length xs.length hi = xs.length) → ∀ p, H p = none → Q (.ref p) (upd H p (.tup (cutV xs lo hi))))
end
end L2

namespace L2
open PySem
/-! tuples of texts, alike or not -/
section
variable {X : Cx} {pins : List (Addr × Obj)} {σ : St} {H : Hp} {s : Shared}
end
section
variable {X : Cx}
end
end L2

namespace L2
open PySem
/-! two lists of numbers of rooms: alike or not -/
section
variable {X : Cx}
theorem eqAt_nats {A : Around} {s : Shared} : ∀ {as bs : List Nat} {us vs : List Value}, Vals (as.map fun j : Nat => V.int (j : Int)) us → Vals (bs.map fun j : Nat => V.int (j : Int)) vs → ∀ (j : Nat) (h1 : j < us.length) (h2 : j < vs.length), SeqAt.EqAt A s us[j] vs[j] (decide (as[j]? = bs[j]?))
  | [], _, _, _, .nil, _, j, h1, _ => absurd h1 (Nat.not_lt_zero _)
  | _ :: _, [], _, _, _, .nil, j, _, h2 => absurd h2 (Nat.not_lt_zero _)
  | a :: as, b :: bs, u :: us, v :: vs, .cons r t, .cons r' t', j, h1, h2 => by
    cases j with
    | zero =>
      have := eqAt_V (A := A) (s := s) r r' rfl rfl
      have e : eqV (.int (a : Int)) (.int (b : Int)) = decide ((a :: as)[0]? = (b :: bs)[0]?) := by
        show ((a : Int) == (b : Int)) = _
        rw [Bool.eq_iff_iff, decide_eq_true_iff]
        simp
        omega
      rw [e] at this
      exact this
    | succ j => exact eqAt_nats t t' j (Nat.lt_of_succ_lt_succ h1) (Nat.lt_of_succ_lt_succ h2)
theorem all_eq {as bs : List Nat} (hl : as.length = bs.length) : (List.range as.length).all (fun j => decide (as[j]? = bs[j]?)) = decide (as = bs) := by
  rw [Bool.eq_iff_iff, decide_eq_true_iff, List.all_eq_true]
  constructor
  · intro h
    apply List.ext_getElem?
    intro i
    by_cases c : i < as.length
    · exact of_decide_eq_true (h i (List.mem_range.mpr c))
    · rw [List.getElem?_eq_none (by omega), List.getElem?_eq_none (by omega)]
  · intro h j _
    rw [h]
    exact decide_eq_true rfl
/-- of two lists of the same flat items: they are not unlike -/
theorem op_neL (hu : X.A.units < cLine) : OpR X (compareOp .NotEq) (fun x y H Q => ∃ a b xs, x = .ref a ∧ y = .ref b ∧ SqL X.K H a xs ∧ SqL X.K H b xs ∧ xs.all flatV = true ∧ Q (.bl false) H) := by
  intro pins s σ H x y v u Q I rx ry h
  obtain ⟨a, b, xs, rfl, rfl, ha, hb, f, q⟩ := h
  cases rx
  cases ry
  obtain ⟨its, r1, p1, _⟩ := I.list ha
  obtain ⟨its2, r2, p2, _⟩ := I.list hb
  have l1 := r1.length
  have l2 := r2.length
  refine SeqAt.RcNeAt.lists (e := fun _ => true) p1.isList p2.isList (by rw [List.size_toArray, List.size_toArray, ← l1, ← l2]) hu (fun j h1 h2 => ?_) X.prog X.w X.xe _ ?_
  · have := eqAt_two (A := X.A.in1) (s := s) r1 r2 f j (by simpa using h1) (by simpa using h2)
    simpa using this
  · have e : (!(List.range its.toArray.size).all (fun _ => true)) = false := by simp
    rw [e]
    exact ⟨.bl false, H, I, rfl, q⟩
end
end L2

namespace PySem
/-! keys of a dict that are tuples of tuples: kinds of values, put together -/
structure VFam (prog : Program) (w : World) (K : Type) [DecidableEq K] (d : Nat) where
  has : Nat → Heap → K → Value → Prop
  hsh : K → Int
  drw : K → Nat
  one : ∀ {i : Nat} {h : Heap} {v : Value} {x y : K}, has i h x v → has i h y v → x = y
  stay : ∀ {i : Nat} {h h' : Heap} {v : Value} {x : K}, has i h x v → (∀ a o its n, h.get? a = some o → o.data = .seq its n → h'.get? a = some o) → has i h' x v
  hashed : ∀ {i : Nat} {A : Around} {E : Value → Shared → Prop} {s : Shared} {x : K} {v : Value} {Q : Int → Shared → Prop}, A.units + d < cLine → has i s.heap x v → Q (hsh x) { s with toks := s.toks + drw x } → wpAny (model prog w) A (pyHash v) Q E s
  same : ∀ {i : Nat} {A : Around} {E : Value → Shared → Prop} {s : Shared} {x y : K} {u v : Value} {Q : Bool → Shared → Prop}, A.units + d < cLine → has i s.heap x u → has i s.heap y v → Q (decide (x = y)) s → wpAny (model prog w) A (eqBool u v) Q E s
  still : ∀ {i : Nat} {A : Around} {E : Value → Shared → Prop} {s : Shared} {x : K} {v : Value} {Q : Bool → Shared → Prop} (n : Nat), d ≤ n → has i s.heap x v → Q true s → wpAny (model prog w) A (eqIsQuiet n v) Q E s
/-- numbers and texts -/
def VFam.leaf {prog : Program} {w : World} {K : Type} [DecidableEq K] (knd : KeyKind prog w K) : VFam prog w K 0 where
  has := fun _ _ k v => knd.is k v = true
  hsh := knd.hash
  drw := fun _ => 1
  one := fun hx hy => knd.inj _ _ _ hx hy
  stay := fun hx _ => hx
  hashed := fun _ hx q => knd.pyHash hx q
  same := fun _ hx hy q => knd.eqBool hx hy q
  still := fun n _ hx q => by
    rw [eqIsQuiet_byValue n (knd.byValue _ _ hx)]
    exact wpAny_pure q
/-- one kind at place 0, another at the places behind it -/
def VFam.two {prog : Program} {w : World} {K L : Type} [DecidableEq K] [DecidableEq L] {d : Nat} (F : VFam prog w K d) (G : VFam prog w L d) : VFam prog w (K ⊕ L) d where
  has := fun i h k v => match k with
    | .inl x => i = 0 ∧ F.has 0 h x v
    | .inr y => i ≠ 0 ∧ G.has i h y v
  hsh := fun k => match k with
    | .inl x => F.hsh x
    | .inr y => G.hsh y
  drw := fun k => match k with
    | .inl x => F.drw x
    | .inr y => G.drw y
  one := by
    rintro i h v (x | x) (y | y) ⟨e1, hx⟩ ⟨e2, hy⟩
    · rw [F.one hx hy]
    · exact absurd e1 e2
    · exact absurd e2 e1
    · rw [G.one hx hy]
  stay := by
    rintro i h h' v (x | x) ⟨e1, hx⟩ k
    · exact ⟨e1, F.stay hx k⟩
    · exact ⟨e1, G.stay hx k⟩
  hashed := by
    rintro i A E s (x | x) v Q hu ⟨e1, hx⟩ q
    · exact F.hashed hu hx q
    · exact G.hashed hu hx q
  same := by
    rintro i A E s (x | x) (y | y) u v Q hu ⟨e1, hx⟩ ⟨e2, hy⟩ q
    · refine F.same hu hx hy ?_
      rw [show decide (x = y) = decide ((Sum.inl x : K ⊕ L) = Sum.inl y) from decide_eq_decide.mpr ⟨fun z => by rw [z], fun z => Sum.inl.inj z⟩]
      exact q
    · exact absurd e1 e2
    · exact absurd e2 e1
    · refine G.same hu hx hy ?_
      rw [show decide (x = y) = decide ((Sum.inr x : K ⊕ L) = Sum.inr y) from decide_eq_decide.mpr ⟨fun z => by rw [z], fun z => Sum.inr.inj z⟩]
      exact q
  still := by
    rintro i A E s (x | x) v Q n hn ⟨e1, hx⟩ q
    · exact F.still n hn hx q
    · exact G.still n hn hx q
/-- the same kind, with more room -/
def VFam.up {prog : Program} {w : World} {K : Type} [DecidableEq K] {d : Nat} (F : VFam prog w K d) (e : Nat) (le : d ≤ e) : VFam prog w K e where
  has := F.has
  hsh := F.hsh
  drw := F.drw
  one := F.one
  stay := F.stay
  hashed := fun hu hx q => F.hashed (by omega) hx q
  same := fun hu hx hy q => F.same (by omega) hx hy q
  still := fun n hn hx q => F.still n (by omega) hx q
section
variable {prog : Program} {w : World} {K : Type} [DecidableEq K] {d : Nat} (F : VFam prog w K d)
inductive Its (h : Heap) : Nat → List K → List Value → Prop
  | nil {i : Nat} : Its h i [] []
  | cons {i : Nat} {k : K} {v : Value} {ks : List K} {vs : List Value} : F.has i h k v → Its h (i + 1) ks vs → Its h i (k :: ks) (v :: vs)
def TupV (h : Heap) (ks : List K) (v : Value) : Prop := ∃ a o its n, v = .ref a ∧ h.get? a = some o ∧ o.cls = .type "tuple" ∧ o.data = .seq its n ∧ Its F h 0 ks its.toList
variable {F}
theorem Its.one {h : Heap} {i : Nat} {x y : List K} {vs : List Value} (hx : Its F h i x vs) (hy : Its F h i y vs) : x = y := by
  induction hx generalizing y with
  | nil =>
    cases hy
    rfl
  | cons a _ ih =>
    cases hy with
    | cons b t => rw [F.one a b, ih t]
theorem Its.stay {h h' : Heap} {i : Nat} {x : List K} {vs : List Value} (hx : Its F h i x vs) (k : ∀ a o its n, h.get? a = some o → o.data = .seq its n → h'.get? a = some o) : Its F h' i x vs := by
  induction hx with
  | nil => exact .nil
  | cons a _ ih => exact .cons (F.stay a k) ih
def hshT (F : VFam prog w K d) (ks : List K) : Int := reduceHash (Builtin.Tuple.tupleHashOf (ks.map F.hsh))
def drwT (F : VFam prog w K d) (ks : List K) : Nat := (ks.map F.drw).sum + 1
variable {A : Around} {E : Value → Shared → Prop} {s : Shared}
theorem hashedT {ks : List K} {v : Value} {Q : Int → Shared → Prop} (hu : A.units + (d + 1) < cLine) (hk : TupV F s.heap ks v) (h : Q (hshT F ks) { s with toks := s.toks + drwT F ks }) : wpAny (model prog w) A (pyHash v) Q E s := by
  obtain ⟨a, o, its, n, rfl, ho, oc, od, hi⟩ := hk
  have ty : s.TypeIs (.ref a) "tuple" := ⟨o, ho, oc⟩
  unfold pyHash
  (first | unfold pyHashByItsType | skip)
  (first | refine wpAny_bind (wpAny_cRoomFor_or (.inr (by omega)) ?_) | skip)
  refine wpAny_bind (wpAny_specialOf ty PySem.F.slot_tuple_hash.lookup ?_)
  show wpAny _ _ (if (some (Value.builtin "tuple.__hash__") == some Value.none) = true then _ else _) Q E s
  rw [if_neg (by rw [beq_builtin_none]; simp)]
  refine wpAny_bind (wpAny_specialOf ty PySem.F.slot_tuple_hash.lookup ?_)
  show wpAny _ _ (callSpecialIfBoundUnlessNone? (Value.ref a) "__hash__" _ >>= _) Q E s
  refine wpAny_bind (wpAny_callSpecialIfBoundUnlessNone?_slot ty PySem.F.slot_tuple_hash (wpAny_call_entry PySem.F.slot_tuple_hash ty PySem.F.entry_tuple_hash ?_ (PySem.F.args_tuple_hash_1 _)))
  show wpAny _ _ (Builtin.Tuple.tupleItemsOf (Value.ref a) >>= _) _ _ s
  refine wpAny_bind (wpAny_tupleItemsOf ho od (wpAny_bind ?_))
  rw [← Array.forIn_toList]
  refine wpAny_forIn_list _
    (fun rest (b : Array Int) s' => ∃ i dn left, ks = dn ++ left ∧ Its F s.heap i left rest ∧ b.toList = dn.map F.hsh ∧ s' = { s with toks := s.toks + (dn.map F.drw).sum }) _ ?_ ?_ _ _ ⟨0, [], ks, rfl, hi, rfl, rfl⟩
  · rintro x rest b s' ⟨i, dn, left, rfl, hl, hb, rfl⟩
    cases hl with
    | @cons _ k _ ks' _ h1 hl' =>
      refine wpAny_bind (F.hashed (s := { s with toks := s.toks + (dn.map F.drw).sum }) (by show A.units + 1 + d < cLine; omega) h1 ?_)
      (first
        | exact wpAny_pure ⟨i + 1, dn ++ [k], ks', by simp, hl', by simp [hb], by simp [Nat.add_assoc]⟩
        | exact wpAny_bind (wpAny_pure (wpAny_pure ⟨i + 1, dn ++ [k], ks', by simp, hl', by simp [hb], by simp [Nat.add_assoc]⟩)))
  · rintro b s' ⟨i, dn, left, rfl, hl, hb, rfl⟩
    cases hl
    rw [List.append_nil] at h
    show wpAny _ _ (retInt (Builtin.Tuple.tupleHashOf b.toList)) _ _ _
    rw [hb]
    refine wpAny_ret_mkInt ?_
    show wpAny _ _ (if (decide (-(2 : Int) ^ 63 ≤ Builtin.Tuple.tupleHashOf (dn.map F.hsh)) && decide (Builtin.Tuple.tupleHashOf (dn.map F.hsh) < 2 ^ 63)) = true then _ else _) Q E _
    unfold hshT reduceHash drwT at h
    by_cases hr : (decide (-(2 : Int) ^ 63 ≤ Builtin.Tuple.tupleHashOf (dn.map F.hsh)) && decide (Builtin.Tuple.tupleHashOf (dn.map F.hsh) < 2 ^ 63)) = true
    · rw [if_pos hr] at h ⊢
      exact wpAny_pure (by simpa [Nat.add_assoc] using h)
    · rw [if_neg hr] at h ⊢
      exact wpAny_bind (wpAny_rule (wpAny_pure (by simpa [Nat.add_assoc] using h)))
theorem eq_treeT {x y : List K} {a b : Addr} {P : Fin → Shared → Prop} (hu : A.units + d < cLine) (hx : TupV F s.heap x (.ref a)) (hy : TupV F s.heap y (.ref b)) (h : P (.done (.ret (.bool (decide (x = y))))) s) : wpAny (model prog w) A (Builtin.«tuple.__eq__» ⟨[.ref a, .ref b], []⟩) P E s := by
  obtain ⟨a', oa, xs, na, ea, hoa, _, hda, hia⟩ := hx
  obtain ⟨b', ob, ys, nb, eb, hob, hcb, hdb, hib⟩ := hy
  cases ea
  cases eb
  have tb : s.TypeIs (.ref b) "tuple" := ⟨ob, hob, hcb⟩
  show wpAny _ _ (isInstance (Value.ref b) (.type "tuple") >>= _) _ _ s
  refine wpAny_bind (wpAny_isInstance tb isSubtype_tuple_tuple ?_)
  simp only [Bool.not_true, Bool.false_eq_true, if_false]
  refine wpAny_bind (wpAny_tupleItemsOf hoa hda (wpAny_bind (wpAny_tupleItemsOf hob hdb (wpAny_bind ?_))))
  refine wpAny_forIn_list _
    (fun rest r s' => r.1 = none ∧ s' = s ∧ ∃ i x' y' xs' ys', rest = List.zip xs' ys' ∧ Its F s.heap i x' xs' ∧ Its F s.heap i y' ys' ∧ decide (x' = y') = decide (x = y) ∧ (xs'.length == ys'.length) = (xs.size == ys.size))
    _ ?_ ?_ _ _ ⟨rfl, rfl, 0, x, y, xs.toList, ys.toList, rfl, hia, hib, rfl, by simp⟩
  · rintro ⟨u, v⟩ rest r s' ⟨hr, rfl, i, x', y', xs', ys', hz, hx', hy', hdec, hlen⟩
    cases hx' with
    | nil => simp at hz
    | @cons _ k1 u' x'' xs'' h1 hx'' =>
      cases hy' with
      | nil => simp at hz
      | @cons _ k2 v' y'' ys'' h2 hy'' =>
        simp only [List.zip_cons_cons, List.cons.injEq, Prod.mk.injEq] at hz
        obtain ⟨⟨rfl, rfl⟩, rfl⟩ := hz
        refine wpAny_bind (F.same (x := k1) (y := k2) hu h1 h2 ?_)
        by_cases hk : k1 = k2
        · subst hk
          rw [decide_eq_true rfl]
          simp only [Bool.not_true, Bool.false_eq_true, if_false]
          refine wpAny_pure ⟨rfl, rfl, i + 1, x'', y'', xs'', ys'', rfl, hx'', hy'', ?_, by simpa using hlen⟩
          rw [← hdec]
          by_cases hxy : x'' = y''
          · simp [hxy]
          · simp [hxy]
        · rw [decide_eq_false hk]
          simp only [Bool.not_false, if_true]
          have hf : decide (x = y) = false := by
            rw [← hdec]
            simp [hk]
          rw [hf] at h
          exact wpAny_bind (wpAny_pure (wpAny_pure (wpAny_pure h)))
  · rintro ⟨r1, r2⟩ s' ⟨hr, rfl, i, x', y', xs', ys', hz, hx', hy', hdec, hlen⟩
    simp only at hr
    subst hr
    refine wpAny_pure ?_
    have fin : (xs.size == ys.size) = decide (x = y) := by
      rw [← hdec, ← hlen]
      cases hx' with
      | nil =>
        cases hy' with
        | nil => simp
        | cons _ _ => simp
      | cons _ _ =>
        cases hy' with
        | nil => simp
        | cons _ _ => simp at hz
    show P (.done (.ret (.bool (xs.size == ys.size)))) s'
    rw [fin]
    exact h
theorem sameT {x y : List K} {u v : Value} {Q : Bool → Shared → Prop} (hu : A.units + (d + 1) < cLine) (hx : TupV F s.heap x u) (hy : TupV F s.heap y v) (h : Q (decide (x = y)) s) : wpAny (model prog w) A (eqBool u v) Q E s := by
  obtain ⟨a, oa, xs, na, rfl, hoa, hca, hda, hia⟩ := id hx
  obtain ⟨b, ob, ys, nb, rfl, hob, hcb, hdb, hib⟩ := id hy
  have ta : s.TypeIs (.ref a) "tuple" := ⟨oa, hoa, hca⟩
  have tb : s.TypeIs (.ref b) "tuple" := ⟨ob, hob, hcb⟩
  unfold eqBool
  (try with_reducible refine wpAny_holding ?_)
  show wpAny _ _ (if (Value.ref a == Value.ref b) = true then _ else _) Q E s
  by_cases hab : (Value.ref a == Value.ref b) = true
  · rw [if_pos hab]
    have e : a = b := by
      have := eq_of_beq hab
      injection this
    subst e
    rw [hoa] at hob
    cases hob
    rw [hda] at hdb
    cases hdb
    obtain rfl := hia.one hib
    exact wpAny_bind (wpAny_rule (wpAny_pure (by simpa using h)))
  · rw [if_neg hab]
    exact wpAny_bind (wpAny_richCompare_same_room (op := .Eq) ta tb PySem.F.slot_tuple_eq
      (wpAny_call_entry PySem.F.slot_tuple_eq ta PySem.F.entry_tuple_eq (eq_treeT (by show A.units + 1 + d < cLine; omega) hx hy ⟨_, rfl, (fun e => nomatch e), wpAny_truthy_bool h⟩) (PySem.F.args_tuple_eq_2 _ _)) (by omega))
theorem stillT {ks : List K} {v : Value} {Q : Bool → Shared → Prop} (n : Nat) (hn : d + 1 ≤ n) (hk : TupV F s.heap ks v) (h : Q true s) : wpAny (model prog w) A (eqIsQuiet n v) Q E s := by
  obtain ⟨a, o, its, m, rfl, ho, hc, hd, hi⟩ := hk
  have ty : s.TypeIs (.ref a) "tuple" := ⟨o, ho, hc⟩
  obtain ⟨n, rfl⟩ : ∃ k, n = k + 1 := ⟨n - 1, by omega⟩
  unfold eqIsQuiet
  refine wpAny_bind (wpAny_specialOf ty PySem.F.slot_tuple_eq.lookup ?_)
  show wpAny _ _ (isInstance (Value.ref a) (.type "tuple") >>= _) _ _ s
  refine wpAny_bind (wpAny_isInstance ty isSubtype_tuple_tuple ?_)
  simp only [Bool.not_true, Bool.false_eq_true, if_false]
  refine wpAny_bind (wpAny_seqItems ho hd (wpAny_bind ?_))
  show wpAny _ _ (forIn its _ _) _ _ s
  rw [← Array.forIn_toList]
  refine wpAny_forIn_list _ (fun rest r s' => r.1 = none ∧ s' = s ∧ ∃ i left, Its F s.heap i left rest) _ ?_ ?_ _ _ ⟨rfl, rfl, 0, ks, hi⟩
  · rintro v rest r s' ⟨hr, rfl, i, left, hl⟩
    cases hl with
    | @cons _ k _ ks' _ h1 hl' =>
      refine wpAny_bind (F.still n (by omega) h1 ?_)
      simp only [Bool.not_true, Bool.false_eq_true, if_false]
      exact wpAny_pure ⟨rfl, rfl, i + 1, ks', hl'⟩
  · rintro ⟨r1, r2⟩ s' ⟨hr, rfl, _⟩
    simp only at hr
    subst hr
    exact wpAny_pure h
theorem TupV.one {h : Heap} {v : Value} {x y : List K} (hx : TupV F h x v) (hy : TupV F h y v) : x = y := by
  obtain ⟨a, o, its, n, rfl, ho, _, hd, hi⟩ := hx
  obtain ⟨a', o', its', n', e, ho', _, hd', hi'⟩ := hy
  cases e
  rw [ho] at ho'
  cases ho'
  rw [hd] at hd'
  cases hd'
  exact hi.one hi'
/-- tuples of a kind -/
def VFam.tup (F : VFam prog w K d) : VFam prog w (List K) (d + 1) where
  has := fun _ h ks v => TupV F h ks v
  hsh := hshT F
  drw := drwT F
  one := fun hx hy => hx.one hy
  stay := fun hx k => by
    obtain ⟨a, o, its, n, e, ho, hc, hd, hi⟩ := hx
    exact ⟨a, o, its, n, e, k _ _ _ _ ho hd, hc, hd, hi.stay k⟩
  hashed := fun hu hx q => hashedT hu hx q
  same := fun hu hx hy q => sameT hu hx hy q
  still := fun n hn hx q => stillT n hn hx q
/-- .. as keys of a dict -/
def VFam.heap (F : VFam prog w K d) (le : d ≤ 8) : HeapKind prog w K where
  is := fun h k a => F.has 0 h k (.ref a)
  hash := F.hsh
  draws := F.drw
  room := fun A => A.units + d < cLine
  inj := fun hx hy => F.one hx hy
  keeps := fun hx ho hd hs => F.stay hx fun a o its n ha hs' => by
    refine (hs.2 a ?_).trans ha
    rintro rfl
    rw [ha] at ho
    cases ho
    rw [hs'] at hd
    exact nomatch hd
  pyHash := fun hu hx q => F.hashed hu hx q
  eqBool := fun hu hx hy q => F.same hu hx hy q
  quiet := fun hx q => F.still 8 le hx q
end
end PySem

namespace L2
open PySem PySem.Spec PyProof.Rows
/-! dicts whose keys are tuples of tuples -/
structure TFam (K : Type) [DecidableEq K] (d : Nat) where
  inn : Nat → Hp → K → V → Prop
  mono : ∀ {i : Nat} {H H' : Hp} {k : K} {v : V}, inn i H k v → (∀ b xs, H b = some (.tup xs) → H' b = some (.tup xs)) → inn i H' k v
  fam : ∀ (P : Program) (w : World), VFam P w K d
  ok : ∀ {P : Program} {w : World} {H : Hp} {h : Heap} {i : Nat} {k : K} {v : V} {u : Value}, HOk P w H h → inn i H k v → RelV v u → (fam P w).has i h k u
def TFam.leaf : TFam Key 0 where
  inn := fun _ _ k v => v = kV k
  mono := fun x _ => x
  fam := fun P w => VFam.leaf (mixKind P w)
  ok := fun _ x r => by
    subst x
    exact kV_is r
section
variable {K L : Type} [DecidableEq K] [DecidableEq L] {d : Nat}
def TFam.up (F : TFam K d) (e : Nat) (le : d ≤ e) : TFam K e where
  inn := F.inn
  mono := F.mono
  fam := fun P w => (F.fam P w).up e le
  ok := fun a b c => F.ok a b c
def TFam.two (F : TFam K d) (G : TFam L d) : TFam (K ⊕ L) d where
  inn := fun i H k v => match k with
    | .inl x => i = 0 ∧ F.inn 0 H x v
    | .inr y => i ≠ 0 ∧ G.inn i H y v
  mono := by
    rintro i H H' (k | k) v ⟨e, x⟩ h
    · exact ⟨e, F.mono x h⟩
    · exact ⟨e, G.mono x h⟩
  fam := fun P w => (F.fam P w).two (G.fam P w)
  ok := by
    rintro P w H h i (k | k) v u hk ⟨e, x⟩ r
    · exact ⟨e, F.ok hk x r⟩
    · exact ⟨e, G.ok hk x r⟩
inductive InnL (F : TFam K d) (H : Hp) : Nat → List K → List V → Prop
  | nil {i : Nat} : InnL F H i [] []
  | cons {i : Nat} {k : K} {v : V} {ks : List K} {vs : List V} : F.inn i H k v → InnL F H (i + 1) ks vs → InnL F H i (k :: ks) (v :: vs)
theorem InnL.mono {F : TFam K d} {H H' : Hp} {i : Nat} {ks : List K} {vs : List V} (x : InnL F H i ks vs) (h : ∀ b xs, H b = some (.tup xs) → H' b = some (.tup xs)) : InnL F H' i ks vs := by
  induction x with
  | nil => exact .nil
  | cons a _ ih => exact .cons (F.mono a h) ih
theorem InnL.ok {F : TFam K d} {P : Program} {w : World} {H : Hp} {h : Heap} (hk : HOk P w H h) {i : Nat} {ks : List K} {vs : List V} (x : InnL F H i ks vs) : ∀ {us : List Value}, Vals vs us → PySem.Its (F.fam P w) h i ks us := by
  induction x with
  | nil =>
    intro us r
    cases r
    exact .nil
  | cons a _ ih =>
    intro us r
    cases r with
    | cons r1 r2 => exact .cons (F.ok hk a r1) (ih r2)
def TFam.tup (F : TFam K d) : TFam (List K) (d + 1) where
  inn := fun _ H ks v => ∃ (a : Addr) (vs : List V), v = .ref a ∧ H a = some (.tup vs) ∧ InnL F H 0 ks vs
  mono := by
    rintro i H H' k v ⟨a, vs, e, h1, h2⟩ h
    exact ⟨a, vs, e, h _ _ h1, h2.mono h⟩
  fam := fun P w => (F.fam P w).tup
  ok := by
    rintro P w H h i k v u hk ⟨a, vs, rfl, h1, h2⟩ r
    cases (show u = Value.ref a from r)
    obtain ⟨_, its, rv, o, g1, g2, n, g3⟩ := (show ObjOk P w H h a (.tup vs) from hk a _ h1)
    exact ⟨a, o, its.toArray, n, rfl, g1, g2, g3, by simpa using h2.ok hk rv⟩
/-- the object: its keys' places, its values -/
def dnP (P : Program) (w : World) (F : TFam K d) (le : d ≤ 8) (a : Addr) (xs : List (K × Addr × V)) (h : Heap) : Prop :=
  xs.length ≤ sizeLine ∧ (a == sysModules) = false ∧ ∃ ys : List (K × Addr × Value), Paired (fun (p : K × Addr × V) (q : K × Addr × Value) => p.1 = q.1 ∧ p.2.1 = q.2.1 ∧ RelV p.2.2 q.2.2) xs ys ∧
    ∃ o es ep, h.get? a = some o ∧ o.ExactDict ∧ o.data = .dict es ep ∧ es.toList = ys.map (entryOfKey ((F.fam P w).heap le)) ∧ (ys.map (·.1)).Nodup
def DN (P : Program) (w : World) (F : TFam K d) (le : d ≤ 8) (H : Hp) (a : Addr) (kvs : List (K × V)) : Prop :=
  ∃ xs : List (K × Addr × V), kvs = xs.map (fun x => (x.1, x.2.2)) ∧ H a = some (.ext (dnP P w F le a xs)) ∧ ∀ x ∈ xs, F.inn 0 H x.1 (.ref x.2.1)
abbrev PRel (p : K × Addr × V) (q : K × Addr × Value) : Prop := p.1 = q.1 ∧ p.2.1 = q.2.1 ∧ RelV p.2.2 q.2.2
theorem prel_val {xs : List (K × Addr × V)} {ys : List (K × Addr × Value)} (r : Paired PRel xs ys) (k : K) : (valV (xs.map fun x => (x.1, x.2.2)) k = none ∧ atKey ys k = none) ∨ ∃ v p, valV (xs.map fun x => (x.1, x.2.2)) k = some v ∧ atKey ys k = some p ∧ RelV v p.2 := by
  induction r with
  | nil => exact .inl ⟨rfl, rfl⟩
  | @cons p q ps qs h _ ih =>
    obtain ⟨e1, e2, e3⟩ := h
    by_cases e : p.1 = k
    · refine .inr ⟨p.2.2, q.2, valV_pos (p := (p.1, p.2.2)) e, ?_, e3⟩
      unfold atKey
      rw [List.find?_cons, show decide (q.1 = k) = true from decide_eq_true (by rw [← e1]; exact e)]
      rfl
    · have e' : atKey (q :: qs) k = atKey qs k := by
        unfold atKey
        rw [List.find?_cons, show decide (q.1 = k) = false from decide_eq_false (by rw [← e1]; exact e)]
      rw [List.map_cons, valV_neg (p := (p.1, p.2.2)) e, e']
      exact ih
theorem DN.at {P : Program} {w : World} {F : TFam K d} {le : d ≤ 8} {H : Hp} {h : Heap} {a : Addr} {kvs : List (K × V)} (x : DN P w F le H a kvs) (hk : HOk P w H h) :
    ∃ (xs : List (K × Addr × V)) (ys : List (K × Addr × Value)), kvs = xs.map (fun x => (x.1, x.2.2)) ∧ H a = some (.ext (dnP P w F le a xs)) ∧ (∀ x ∈ xs, F.inn 0 H x.1 (.ref x.2.1)) ∧ xs.length ≤ sizeLine ∧ (a == sysModules) = false ∧ Paired PRel xs ys ∧ h.DictOfH ((F.fam P w).heap le) a ys := by
  obtain ⟨xs, h1, h2, h3⟩ := x
  obtain ⟨⟨z, y, ys, r, o, es, ep, g1, g2, g3, g4, g5⟩, _⟩ := (show ObjOk P w H h a (.ext (dnP P w F le a xs)) from hk a _ h2)
  refine ⟨xs, ys, h1, h2, h3, z, y, r, o, es, ep, g1, g2, g3, g4, ?_, g5⟩
  have all : ∀ {l : List (K × Addr × V)} {m : List (K × Addr × Value)}, Paired PRel l m → (∀ x ∈ l, F.inn 0 H x.1 (.ref x.2.1)) → ∀ x ∈ m, ((F.fam P w).heap le).is h x.1 x.2.1 := by
    intro l m q
    induction q with
    | nil => intro _ x hx; exact nomatch hx
    | @cons p q ps qs hq t ih =>
      intro hl x hx
      rcases List.mem_cons.mp hx with e | hx
      · subst e
        have := F.ok hk (hl p List.mem_cons_self) (show RelV (.ref p.2.1) (Value.ref p.2.1) from rfl)
        rw [hq.1, hq.2.1] at this
        exact this
      · exact ih (fun y hy => hl y (List.mem_cons_of_mem _ hy)) x hx
  exact all r h3
theorem dnP_stay {P : Program} {w : World} {F : TFam K d} {le : d ≤ 8} {a : Addr} {xs : List (K × Addr × V)} : ∀ h1 h2 : Heap, dnP P w F le a xs h1 → (∀ o, h1.get? a = some o → h2.get? a = some o) → dnP P w F le a xs h2 := by
  rintro h1 h2 ⟨z, y, ys, r, o, es, ep, g1, g⟩ k
  exact ⟨z, y, ys, r, o, es, ep, k _ g1, g⟩
theorem dn_obj {P : Program} {w : World} {F : TFam K d} {le : d ≤ 8} {H : Hp} {h : Heap} {a : Addr} {xs : List (K × Addr × V)} {ys : List (K × Addr × Value)} (z : xs.length ≤ sizeLine) (y : (a == sysModules) = false) (r : Paired PRel xs ys) (dd : h.DictOfH ((F.fam P w).heap le) a ys) : ObjOk P w H h a (.ext (dnP P w F le a xs)) := by
  obtain ⟨o, es, ep, g1, g2, g3, g4, _, g5⟩ := dd
  exact ⟨⟨z, y, ys, r, o, es, ep, g1, g2, g3, g4, g5⟩, ⟨o, g1⟩, dnP_stay⟩
end
section
variable {X : Cx} {K : Type} [DecidableEq K] {d : Nat} {F : TFam K d} {le : d ≤ 8}
/-- {} -/
def tNNew (P : Program) (w : World) (F : TFam K d) (le : d ≤ 8) : TE := fun _ H Q => ∀ p H', H p = none → H' = upd H p (.ext (dnP P w F le p [])) → DN P w F le H' p [] → Q (.ref p) H'
theorem pe_nnew {pos : Pos} (F : TFam K d) (le : d ≤ 8) : PE X (.Dict [] [] pos) (tNNew X.prog X.w F le) := fun pins s σ H Q I h =>
  wpAny_Dict_empty ⟨.ref s.heap.objs.size, _, I.laid (a := s.heap.objs.size) (o := .ext (dnP X.prog X.w F le s.heap.objs.size [])) (t' := s.toks) (fun _ _ q => Heap.get?_push_of_some _ q) (Nat.le_refl _) (dn_obj (ys := []) (Nat.zero_le _) (beq_eq_false_iff_ne.mpr (Ne.symm (Nat.ne_of_lt I.big))) .nil (Heap.DictOfH.new s.heap)), rfl, h _ _ (I.hok.fresh (Nat.le_refl _)) rfl ⟨[], rfl, upd_same, fun x hx => by cases hx⟩⟩
/-- d[y] -/
def tNGet (P : Program) (w : World) (F : TFam K d) (le : d ≤ 8) (td ty : TE) : TE := fun σ H Q => td σ H fun x H1 => ty σ H1 fun y H2 => ∃ (a b : Addr) (kvs : List (K × V)) (k : K) (v : V), x = .ref a ∧ y = .ref b ∧ DN P w F le H2 a kvs ∧ F.inn 0 H2 k (.ref b) ∧ valV kvs k = some v ∧ Q v H2
theorem pe_nget {o i : Expr} {pos : Pos} {td ty : TE} (hu : X.A.units + 64 < cLine) (F : TFam K d) (le : d ≤ 8) (ho : PE X o td) (hi : PE X i ty) (hs : NoSl i) : PE X (.Subscript o i pos) (tNGet X.prog X.w F le td ty) := by
  intro pins s σ H Q I h
  refine subD_of PySem.F.slot_dict_getitem.lookup hs (thn (ho pins s σ H _ I h) fun u s1 ⟨x, H1, I1, rx, q1⟩ => thn (hi pins s1 σ H1 _ I1 q1) fun iv s2 ⟨y, H2, I2, ry, a, b, kvs, k, v, ex, ey, D, hk, l, q2⟩ => ?_)
  subst ex
  subst ey
  obtain rfl : u = Value.ref a := rx
  obtain rfl : iv = Value.ref b := ry
  obtain ⟨xs, ys, e1, e2, e3, z, hd, r, dd⟩ := D.at I2.hok
  rcases prel_val r k with ⟨h1, _⟩ | ⟨v', p, h1, h2, h3⟩
  · rw [e1, h1] at l
    cases l
  · rw [e1, h1] at l
    cases l
    exact ⟨dd.typeIs, wpAny_getItem_heap (show X.A.units + 1 + d < cLine by omega) (F.ok I2.hok hk rfl) dd h2 ⟨_, H2, I2.tok _, h3, q2⟩⟩
end
section
variable {prog : Program} {w : World} {K : Type} [DecidableEq K] {knd : HeapKind prog w K} {A : Around} {E : Value → Shared → Prop} {s : Shared}
theorem lenN {d : Addr} {xs : List (K × Addr × Value)} {Q : Value → Shared → Prop} (hd : (d == sysModules) = false) (hm : s.heap.DictOfH knd d xs) (hfit : (xs.length : Int) < 2 ^ 63)
    (h : Q (.int xs.length (s.toks + 1)) { s with toks := s.toks + 1 + 1 }) : wpAny (model prog w) A (call (.builtin "len") [.ref d]) Q E s := by
  refine Calls.call_function_entry kind_len plain_len entry_len (args_len1 _) ?_
  unfold Builtin.«len»
  have ty := hm.typeIs
  obtain ⟨o, es, ep, ho, hc, hdat, he, _, _⟩ := hm
  have hz := size_of_entries he
  have mt : MeetsIn prog w (Builtin.«dict.__len__» ⟨[.ref d], []⟩) (fun _ R s' => s' = s ∧ R (.ok (.ret (.int xs.length s.toks))) { s with toks := s.toks + 1 }) := .of_wp fun A R s' ⟨e, q⟩ => by
    subst e
    show wpAny _ _ (dictSize d >>= _) _ _ s'
    unfold dictSize
    refine wpAny_bind (wpAny_bind (wpAny_dictEntries ho hdat (wpAny_pure ?_)))
    show wpAny _ _ (Builtin.Dict.pendingCount d >>= _) _ _ s'
    refine wpAny_bind (wpAny_pendingCount_other hd (wpAny_ret_mkInt ?_))
    rw [hz]
    exact q
  refine wpAny_bind (m := oneArg "len" _) (wpAny_pure ?_)
  refine wpAny_bind (m := callSpecial? (.ref d) (Str.ofString "__len__")) (wpAny_callSpecial?_slot (name := Str.ofString "__len__") ty PySem.F.slot_dict_len (call_meetsIn PySem.F.slot_dict_len ty PySem.F.entry_dict_len (PySem.F.args_dict_len_1 _) mt ⟨rfl, ?_⟩))
  show wpAny _ _ _ _ _ { s with toks := s.toks + 1 }
  refine wpAny_bind (wpAny_holding (wpAny_pure (wpAny_bind (wpAny_letGo ?_))))
  show wpAny _ _ (if ((xs.length : Nat) : Int) < 0 then _ else _) _ _ _
  rw [if_neg (by omega)]
  show wpAny _ _ (if ((xs.length : Nat) : Int) ≥ 2 ^ 63 then _ else _) _ _ _
  rw [if_neg (by omega)]
  exact wpAny_bind (wpAny_mkInt (wpAny_pure ⟨_, rfl, h⟩))
theorem setdefN {d a : Addr} {xs : List (K × Addr × Value)} {k : K} {v : Value} {Q : Value → Shared → Prop} (hu : knd.room A) (hd : (d == sysModules) = false) (hkey : knd.is s.heap k a) (hm : s.heap.DictOfH knd d xs)
    (h1 : ∀ p, atKey xs k = some p → Q p.2 { s with toks := s.toks + knd.draws k })
    (h2 : atKey xs k = none → ∀ h', h'.DictOfH knd d (xs ++ [(k, a, v)]) → Heap.SameBut d s.heap h' → Q v { s with heap := h', toks := s.toks + knd.draws k }) (hsz : xs.length ≤ sizeLine) :
    wpAny (model prog w) A (dictSetDefault d (.ref a) v) Q E s := by
  obtain ⟨o, es, ep, ho, hc, hdat, he, his, hn⟩ := hm
  unfold dictSetDefault
  (try with_reducible refine wpAny_holding ?_)
  refine wpAny_bind (knd.pyHash hu hkey (wpAny_bind (wpAny_dictFind_heap (s := { s with toks := s.toks + knd.draws k }) hu hkey ho hdat he his hn ?_ ?_)))
  · intro hno
    have hnot : k ∉ xs.map (·.1) := not_mem_keys_of_get hno
    refine wpAny_bind (wpAny_rule (wpAny_bind (wpAny_updateDictKeys (hz := by have e := size_of_entries he; omega) (s := { s with toks := s.toks + knd.draws k }) ho hdat (wpAny_pure (h2 (atKey_none_of_get hno) _ ⟨_, _, ep + 1, Heap.get?_update_self _ ho (Obj.isFreed_of_dict (Obj.data_mapDictKeys hdat _)),
      hc.mapDictKeys _, Obj.data_mapDictKeys hdat _, ?_, ?_, ?_⟩ (Heap.SameBut.update ..))))))
    · simp [he, entryOfKey]
    · intro x hx
      rcases List.mem_append.mp hx with hx | hx
      · exact knd.keeps (his x hx) ho hdat (Heap.SameBut.update ..)
      · rw [List.mem_singleton.mp hx]
        exact knd.keeps hkey ho hdat (Heap.SameBut.update ..)
    · rw [List.map_append, List.nodup_append]
      refine ⟨hn, by simp, fun x hx y hy => ?_⟩
      rw [List.map_cons, List.map_nil, List.mem_singleton] at hy
      subst hy
      exact fun e => hnot (e ▸ hx)
  · intro j p hj
    refine wpAny_bind (wpAny_dictEntries (s := { s with toks := s.toks + knd.draws k }) ho hdat ?_)
    rw [entry_at he j, hj]
    exact wpAny_bind (wpAny_rule (wpAny_pure (h1 p (atKey_of_get hn hj))))
theorem callSetdefN {d a : Addr} {xs : List (K × Addr × Value)} {k : K} {v : Value} {Q : Value → Shared → Prop} (hu : knd.room A.in1) (hd : (d == sysModules) = false) (hkey : knd.is s.heap k a) (hm : s.heap.DictOfH knd d xs)
    (h1 : ∀ p, atKey xs k = some p → Q p.2 { s with toks := s.toks + knd.draws k })
    (h2 : atKey xs k = none → ∀ h', h'.DictOfH knd d (xs ++ [(k, a, v)]) → Heap.SameBut d s.heap h' → Q v { s with heap := h', toks := s.toks + knd.draws k }) (hsz : xs.length ≤ sizeLine) :
    wpAny (model prog w) A (call (.builtin "dict.setdefault") [.ref d, .ref a, v]) Q E s := by
  refine wpAny_call_entry PySem.F.slot_dict_setdefault hm.typeIs PySem.F.entry_dict_setdefault ?_ (PySem.F.args_dict_setdefault_3 _ _ _)
  unfold Builtin.«dict.setdefault» Builtin.Dict.keyAndDefault
  refine wpAny_bind (wpAny_bind (wpAny_notOrdered_dict hm.typeIs ?_))
  show wpAny _ _ (pure (d, Value.ref a, some v)) _ _ s
  refine wpAny_pure ?_
  show wpAny _ _ (if (d == sysModules) = true then _ else (dictSetDefault d (.ref a) v >>= _)) _ _ s
  rw [if_neg (by rw [hd]; simp)]
  exact wpAny_bind (setdefN hu hd hkey hm (fun p hp => wpAny_pure ⟨_, rfl, h1 p hp⟩) (fun hn h' hm' hs => wpAny_pure ⟨_, rfl, h2 hn h' hm' hs⟩) hsz)
end
section
variable {X : Cx} {K : Type} [DecidableEq K] {d : Nat}
/-- len(d) -/
theorem call_lenN (F : TFam K d) (le : d ≤ 8) : CallR X (.builtin "len") (fun vs H Q => ∃ (a : Addr) (kvs : List (K × V)), vs = [.ref a] ∧ DN X.prog X.w F le H a kvs ∧ Q (.int kvs.length) H) := by
  intro pins s σ H xs us Q I r h
  obtain ⟨a, kvs, rfl, D, q⟩ := h
  obtain ⟨u, rfl, rx⟩ := vals1 r
  cases rx
  obtain ⟨xs, ys, e1, e2, e3, z, hd, r, dd⟩ := D.at I.hok
  have hl := r.length
  have ek : kvs.length = ys.length := by rw [e1, List.length_map, hl]
  refine lenN hd dd (by rw [sizeLine_eq] at z; omega) ⟨_, H, I.tok _, ?_, q⟩
  rw [ek]
  exact ⟨_, rfl⟩
/-- d.setdefault(y, z) -/
def tNSet (P : Program) (w : World) (F : TFam K d) (le : d ≤ 8) (td ty tz : TE) : TE := fun σ H Q => td σ H fun x H1 => ∃ (a : Addr) (kvs0 : List (K × V)), x = .ref a ∧ DN P w F le H1 a kvs0 ∧ ty σ H1 fun y H2 => tz σ H2 fun v H3 => ∃ (b : Addr) (kvs : List (K × V)) (k : K), y = .ref b ∧ DN P w F le H3 a kvs ∧ F.inn 0 H3 k (.ref b) ∧ kvs.length < sizeLine ∧
  (∀ v', valV kvs k = some v' → Q v' H3) ∧ (valV kvs k = none → ∀ o, DN P w F le (upd H3 a o) a (kvs ++ [(k, v)]) → Q v (upd H3 a o))
theorem pe_nset {o e f : Expr} {apos cpos : Pos} {td ty tz : TE} (hu : X.A.units + 64 < cLine) (F : TFam K d) (le : d ≤ 8) (ho : PE X o td) (he : PE X e ty) (hf : PE X f tz) (m : M2 X o "setdefault" apos e f cpos) : PE X (.Call (.Attribute o "setdefault" apos) [e, f] [] cpos) (tNSet X.prog X.w F le td ty tz) := by
  intro pins s σ H Q I h
  refine wpAny_Call_method m.base m.few m.line PySem.F.plainAttrs_dict PySem.F.slot_dict_setdefault PySem.F.type_dict_setdefault (thn (ho pins s σ H _ I h) fun u s1 ⟨x, H1, I1, rx, a, kvs0, ex, D0, q1⟩ => ?_)
  subst ex
  obtain rfl : u = Value.ref a := rx
  obtain ⟨_, ys0, _, _, _, _, _, _, dd0⟩ := D0.at I1.hok
  refine ⟨dd0.typeIs, fun b q => ?_, ?_⟩
  · cases q
    obtain ⟨ob, _, _, g1, g2, _⟩ := dd0
    exact ⟨ob, g1, g2.2.1⟩
  rw [m.trees]
  refine Calls.callWith_builtin rfl (Calls.evalArgs_plain (Calls.spliced_cons (thn (he pins s1 σ H1 _ I1 q1) fun iv s2 ⟨y, H2, I2, ry, q2⟩ =>
    Calls.spliced_cons (thn (hf pins s2 σ H2 _ I2 q2) fun fv s3 ⟨v, H3, I3, rz, b, kvs, k, ey, D, hk, hl, qa, qb⟩ => Calls.spliced_nil ?_))))
  subst ey
  obtain rfl : iv = Value.ref b := ry
  obtain ⟨xs, ys, e1, e2, e3, z, hd, r, dd⟩ := D.at I3.hok
  have lr := r.length
  have lk : kvs.length = xs.length := by rw [e1, List.length_map]
  refine callSetdefN (show X.A.units + 1 + d < cLine by omega) hd (F.ok I3.hok hk rfl) dd (fun p hp => ?_) (fun hn h' dd' hs => ?_) (by omega)
  · rcases prel_val r k with ⟨_, h2⟩ | ⟨v', p', h1, h2, h3⟩
    · rw [hp] at h2
      cases h2
    · rw [hp] at h2
      cases h2
      exact ⟨v', H3, I3.tok _, h3, qa v' (by rw [e1]; exact h1)⟩
  · have hv : valV kvs k = none := by
      rcases prel_val r k with ⟨h1, _⟩ | ⟨v', p', h1, h2, h3⟩
      · rw [e1]
        exact h1
      · rw [hn] at h2
        cases h2
    have hq : ∃ q, h'.get? a = some q := by
      obtain ⟨q, _, _, g, _⟩ := dd'
      exact ⟨q, g⟩
    have I4 : Inv X pins σ (upd H3 a (.ext (dnP X.prog X.w F le a (xs ++ [(k, b, v)])))) { s3 with heap := h', toks := s3.toks + ((F.fam X.prog X.w).heap le).draws k } :=
      d_write I3 (by rw [e2]; exact True.intro) hs hq (dn_obj (by rw [List.length_append, List.length_singleton]; omega) hd (r.snoc ⟨rfl, rfl, rz⟩) dd')
    have kt : ∀ c zs, H3 c = some (.tup zs) → upd H3 a (.ext (dnP X.prog X.w F le a (xs ++ [(k, b, v)]))) c = some (.tup zs) := fun c zs g => by
      rw [upd_ne (ne_of g e2 (fun z => by cases z))]
      exact g
    refine ⟨v, _, I4, rz, qb hv _ ⟨xs ++ [(k, b, v)], by rw [List.map_append, e1]; rfl, upd_same, fun x hx => ?_⟩⟩
    rcases List.mem_append.mp hx with hx | hx
    · exact F.mono (e3 x hx) kt
    · rw [List.mem_singleton.mp hx]
      exact F.mono hk kt
end
end L2

namespace L2
open PySem PySem.Spec PyProof.Rows
/-! zip of two lists, enumerate of a list: at each turn a new pair -/
section
variable {X : Cx} {pins : List (Addr × Obj)} {σ : St} {H : Hp} {s : Shared} {h' : Heap}
/-- several untracked records of ours have turned -/
theorem Inv.turnedZ {t' : Nat} {ts : List Addr} (I : Inv X pins σ H s) (k : ∀ b o, b ∉ ts → s.heap.get? b = some o → h'.get? b = some o) (hf : ∀ b ∈ ts, FpOk X pins H b) : Inv X pins σ H { s with heap := h', toks := t' } := by
  have nit : ∀ b u, H b = some u → b ∉ ts := fun b u e z => by
    rw [(hf b z).1] at e
    cases e
  refine I.step (g' := s.gens) (d' := s.drawn) (ch := ts) (fun b hb => ?_) (fun b o _ _ hc e _ => k b o hc e) (fun b o _ _ hc e _ => ⟨o.slots, k b o hc e⟩) (fun _ _ _ _ n => n) (fun b o hc e => ⟨o, k b o hc e⟩) (fun _ _ e => e) (fun _ _ _ e => e) (fun b ps e => ⟨#[], by rw [e]; simp⟩) (fun m hm => ?_) (fun b u e => ?_) I.bare
  · obtain ⟨f0, f1, f2, f3, f4, f5⟩ := hf b hb
    exact ⟨f3, f1, f4, f5⟩
  · obtain ⟨o, es, ep, ho, r⟩ := hm
    exact ⟨o, es, ep, k _ o (fun z => (hf _ z).2.1 rfl) ho, r⟩
  · refine (I.hok b u e).stay (fun c v hc q => k c v ?_ q) (fun _ q => q) fun _ _ q => q
    rcases hc with z | z
    · rw [z]
      exact nit b u e
    · exact nit c _ z
end

def Itz (K : PySem.W.Frag) (a b : Addr) : It :=
  ⟨fun i H => ∃ xs ys x y, SqL K H a xs ∧ SqL K H b ys ∧ xs[i]? = some x ∧ ys[i]? = some y, fun i H v H' => ∃ (t : Addr) (x y : V), v = .ref t ∧ H t = none ∧ (∀ xs, SqL K H a xs → xs[i]? = some x) ∧ (∀ ys, SqL K H b ys → ys[i]? = some y) ∧ H' = upd H t (.tup [x, y]), fun i H => ∃ xs ys, SqL K H a xs ∧ SqL K H b ys ∧ (xs.length ≤ i ∨ ys.length ≤ i)⟩
theorem turn_zip {P : Program} {w : World} {K : PySem.W.Frag} {es : List Expr} {k : Nat} {pos : Pos} (a b z TI TO i1 i2 : Addr) (D : ZipApart z TI TO i1 i2 a b) :
    Turn P w K (.Tuple es k pos) (Itz K a b) [z, TI, TO, i1, i2] z (fun i h => IsZip h z TI TO .none ∧ IsPair h TI (.ref i1) (.ref i2) ∧ (∃ p q, IsPair h TO p q) ∧ h.IsListIter i1 a i ∧ h.IsListIter i2 b i) where
  mem := by simp
  obj := fun i h st c hc => by
    obtain ⟨hz, hTI, ⟨p, q, hTO⟩, ⟨o1, g1, _, d1⟩, ⟨o2, g2, _, d2⟩⟩ := st
    simp only [List.mem_cons, List.not_mem_nil, or_false] at hc
    rcases hc with rfl | rfl | rfl | rfl | rfl
    · exact ⟨_, hz, fun v y => by cases (show Data.fields _ = Data.cell v from y)⟩
    · exact ⟨_, hTI, fun v y => by cases (show Data.seq _ _ = Data.cell v from y)⟩
    · exact ⟨_, hTO, fun v y => by cases (show Data.seq _ _ = Data.cell v from y)⟩
    · exact ⟨o1, g1, fun v y => by rw [d1] at y; cases y⟩
    · exact ⟨o2, g2, fun v y => by rw [d2] at y; cases y⟩
  keep := fun i h h' st k => by
    obtain ⟨hz, hTI, ⟨p, q, hTO⟩, h1, h2⟩ := st
    exact ⟨k z (by simp) _ hz, k TI (by simp) _ hTI, ⟨p, q, k TO (by simp) _ hTO⟩, h1.at fun o e => k i1 (by simp) o e, h2.at fun o e => k i2 (by simp) o e⟩
  item := by
    intro X hP hw hK hc i pins s σ H E I hf st hg
    subst hP hw hK
    obtain ⟨xs, ys, x, y, hqa, hqb, hx, hy⟩ := hg
    obtain ⟨ia, ra, pa, _⟩ := I.list hqa
    obtain ⟨ib, rb, pb, _⟩ := I.list hqb
    obtain ⟨u, hu, ru⟩ := ra.get hx
    obtain ⟨v, hv, rv⟩ := rb.get hy
    obtain ⟨hz, hTI, ⟨p, q, hTO⟩, h1, h2⟩ := st
    have hnew : H s.heap.objs.size = none := I.hok.fresh (Nat.le_refl _)
    refine wpAny_pyNext_zip_item D hz hTI hTO h1 h2 pa.isList pb.isList (x := u) (y := v) (by simpa using hu) (by simpa using hv) fun h' a1 a2 a3 a4 a5 a6 hk => ?_
    have ltz : s.heap.objs.size ≠ z := Nat.ne_of_gt (Heap.lt_size hz)
    refine ⟨_, rfl, wpAny_letOwnedTupleGo_zip a1 fun h2' hz2 sb => ?_⟩
    have kk : ∀ c o, c ∉ [z, TI, TO, i1, i2] → s.heap.get? c = some o → h2'.get? c = some o := fun c o hc g => by
      simp only [List.mem_cons, List.not_mem_nil, or_false, not_or] at hc
      exact (sb.2 c hc.1).trans (hk c o hc.1 hc.2.2.1 hc.2.2.2.1 hc.2.2.2.2 g)
    have I1 : Inv X pins σ H { s with heap := h2', toks := s.toks } := I.turnedZ kk hf
    have I2 : Inv X pins σ (upd H s.heap.objs.size (.tup [x, y])) { s with heap := h2', toks := s.toks } := by
      refine Inv.adopt I1 (I.fpOk (Nat.le_refl _) hnew) ⟨by show 2 ≤ sizeLine; decide, [u, v], .cons ru (.cons rv .nil), ?_⟩
      exact ⟨_, (sb.2 _ ltz).trans a5, rfl, _, rfl⟩
    refine ⟨.ref s.heap.objs.size, _, I2, rfl, ⟨_, x, y, rfl, hnew, fun zs hz => by rw [I.list_inj hz hqa]; exact hx, fun zs hz => by rw [I.list_inj hz hqb]; exact hy, rfl⟩,
      ⟨hz2, (sb.2 TI D.TIz).trans (hk TI _ D.TIz D.TITO D.TIi1 D.TIi2 hTI), ⟨u, v, (sb.2 TO D.TOz).trans a2⟩, a3.at fun o e => (sb.2 i1 D.i1z).trans e, a4.at fun o e => (sb.2 i2 D.i2z).trans e⟩, fun c hc => ?_⟩
    rw [upd_ne]
    · exact (hf c hc).1
    · rintro rfl
      have nl : ∀ {c : Addr} {o : Obj}, s.heap.get? c = some o → s.heap.objs.size ≠ c := fun e => Nat.ne_of_gt (Heap.lt_size e)
      obtain ⟨o1, g1, _⟩ := h1
      obtain ⟨o2, g2, _⟩ := h2
      simp only [List.mem_cons, List.not_mem_nil, or_false] at hc
      rcases hc with e | e | e | e | e
      · exact nl hz e
      · exact nl hTI e
      · exact nl hTO e
      · exact nl g1 e
      · exact nl g2 e
  done := by
    intro X hP hw hK hc i pins s σ H E I hf st hg
    subst hP hw hK
    obtain ⟨xs, ys, hqa, hqb, hx⟩ := hg
    obtain ⟨ia, ra, pa, _⟩ := I.list hqa
    obtain ⟨ib, rb, pb, _⟩ := I.list hqb
    obtain ⟨hz, hTI, ⟨p, q, hTO⟩, h1, h2⟩ := st
    have la := ra.length
    have lb := rb.length
    refine wpAny_pyNext_zip_end (I.ok.hd hc) D hz hTI hTO h1 h2 pa.isList pb.isList (hx.elim (fun h => .inl (by simp; omega)) fun h => .inr (by simp; omega)) fun h' hk => ⟨rfl, ?_⟩
    refine I.turnedZ (t' := s.toks) (fun c o hc g => ?_) hf
    simp only [List.mem_cons, List.not_mem_nil, or_false, not_or] at hc
    exact hk c o hc.1 hc.2.2.1 hc.2.2.2.1 hc.2.2.2.2 g
  self := fun _ _ _ _ _ st h => wpAny_pyIter_zip st.1 h
section
variable {X : Cx} {es : List Expr} {k : Nat} {tpos : Pos}
def iZip (K : PySem.W.Frag) (ta : TA) : TI := fun σ H R => ta σ H fun vs H1 => ∃ a b, vs = [.ref a, .ref b] ∧ (∃ xs, SqL K H1 a xs) ∧ (∃ ys, SqL K H1 b ys) ∧ R (Itz K a b) H1
theorem pi_zip {l m : Expr} {ta : TA} {p pos : Pos} (hg : Gl X "zip") (hm : X.mg "zip" = none) (ha : PA X [l, m] ta) (hs : starEach [l, m] X.env = (false, eval l X.env) :: starEach [m] X.env := by rfl) (hp : (backTo pos (starEach [m] X.env)).any (·.1) = false := by rfl) : PI X (.Tuple es k tpos) (.Call (.Name "zip" p) [l, m] [] pos) (iZip X.K ta) := by
  intro pins s σ H R I h
  refine Call_ (ld_blt I hg hm boot_zip (PyProof.Rows.callWith_type1 (thn (ha pos pins s σ H _ I h) fun us s1 ⟨vs, H1, I1, r1, q1⟩ => ?_) hs hp))
  obtain ⟨a, b, e, ⟨xs, hqa⟩, ⟨ys, hqb⟩, q⟩ := q1
  subst e
  obtain ⟨u, v, rfl, ra, rb⟩ := vals2 r1
  cases ra
  cases rb
  obtain ⟨ia, _, pa, _⟩ := I1.list hqa
  obtain ⟨ib, _, pb, _⟩ := I1.list hqb
  have al : a < s1.heap.objs.size := by
    obtain ⟨_, e, _⟩ := pa.isList
    exact Heap.lt_size e
  have bl : b < s1.heap.objs.size := by
    obtain ⟨_, e, _⟩ := pb.isList
    exact Heap.lt_size e
  refine call_zip_2 pa.isList pb.isList fun h' hz hTI hTO h1 h2 hsz hk => ?_
  refine wpAny_pyIter_zip hz ?_
  have I2 : Inv X pins σ H1 { s1 with heap := h' } := I1.kept (t' := s1.toks) hk
  refine ⟨s1.heap.objs.size + 4, _, _, _, H1, rfl, I2, turn_zip a b _ _ _ _ _ (zipApart_new al bl), ⟨hz, hTI, ⟨_, _, hTO⟩, h1, h2⟩, fun c hc => ?_, q⟩
  have up : ∀ n : Nat, FpOk X pins H1 (s1.heap.objs.size + n) := fun n => I1.fpOk (Nat.le_add_right _ n) (I1.hok.fresh (Nat.le_add_right _ n))
  simp only [List.mem_cons, List.not_mem_nil, or_false] at hc
  rcases hc with rfl | rfl | rfl | rfl | rfl
  · exact up 4
  · exact up 2
  · exact up 3
  · exact up 0
  · exact up 1
end
/-- number and item of a list, at each turn in a new pair -/
def Itel (K : PySem.W.Frag) (a : Addr) : It :=
  ⟨fun i H => ∃ xs x, SqL K H a xs ∧ xs[i]? = some x, fun i H v H' => ∃ (t : Addr) (x : V), v = .ref t ∧ H t = none ∧ (∀ xs, SqL K H a xs → xs[i]? = some x) ∧ H' = upd H t (.tup [.int (i : Int), x]), fun i H => ∃ xs, SqL K H a xs ∧ xs.length ≤ i⟩
theorem turn_enumL {P : Program} {w : World} {K : PySem.W.Frag} {es : List Expr} {k : Nat} {pos : Pos} (a e q : Addr) : Turn P w K (.Tuple es k pos) (Itel K a) [e, q] e (fun i h => (∃ old, IsEnum h e q (i : Nat) old) ∧ h.IsListIter q a i) where
  mem := by simp
  obj := fun i h st b hb => by
    obtain ⟨⟨old, he⟩, o, ho, hc, hd⟩ := st
    rcases List.mem_cons.mp hb with rfl | hb
    · exact ⟨_, he, fun v z => by cases (show Data.fields _ = Data.cell v from z)⟩
    · rw [List.mem_singleton.mp hb]
      exact ⟨o, ho, fun v z => by rw [hd] at z; cases z⟩
  keep := fun i h h' st k => by
    obtain ⟨⟨old, he⟩, hq⟩ := st
    exact ⟨⟨old, k e (by simp) _ he⟩, hq.at fun o z => k q (by simp) o z⟩
  item := by
    intro X hP hw hK hc i pins s σ H E I hf st hg
    subst hP hw hK
    obtain ⟨xs, x, hq, hx⟩ := hg
    obtain ⟨its, rv, p, hz⟩ := I.list hq
    obtain ⟨u, hu, ru⟩ := rv.get hx
    obtain ⟨⟨old, he⟩, hit⟩ := st
    have pt := p.isList
    have naq : a ≠ q := fun z => by
      obtain ⟨o1, g1, c1, _⟩ := pt
      obtain ⟨o2, g2, c2, _⟩ := hit
      rw [z, g2] at g1
      cases g1
      rw [c2] at c1
      injection c1 with c1
      exact absurd c1 (by decide)
    have neq : e ≠ q := fun z => by
      obtain ⟨o2, g2, c2, _⟩ := hit
      rw [← z] at g2
      have g3 := g2.symm.trans he
      cases g3
      have c3 : Value.type "enumerate" = Value.type "list_iterator" := c2
      injection c3 with c3
      exact absurd c3 (by decide)
    have nea : e ≠ a := fun z => by
      obtain ⟨o1, g1, c1, _⟩ := pt
      rw [← z] at g1
      have g3 := g1.symm.trans he
      cases g3
      have c3 : Value.type "enumerate" = Value.type "list" := c1
      injection c3 with c3
      exact absurd c3 (by decide)
    have D := Draws.list (prog := X.prog) (w := X.w) (A := X.A.in1) (I.ok.hd hc) q a naq its.toArray
    have hlt : i < its.toArray.size := by
      have := (List.getElem?_eq_some_iff.mp hu).1
      simpa using this
    have hnew : H s.heap.objs.size = none := I.hok.fresh (Nat.le_refl _)
    refine wpAny_pyNext_enum_itemD D he ⟨hit, pt⟩ hlt neq (by simp [neq, nea]) fun y h1 tk hy ho hs1 hT hsz hk => ?_
    obtain rfl : y = u := by
      rw [List.getElem?_toArray, hu] at hy
      exact (Option.some.inj hy).symm
    refine ⟨_, rfl, wpAny_letOwnedTupleGo_enum ho fun h2 he2 sb => ?_⟩
    have nse : s.heap.objs.size ≠ e := Nat.ne_of_gt (Heap.lt_size he)
    have nsq : s.heap.objs.size ≠ q := by
      obtain ⟨o2, g2, _⟩ := hit
      exact Nat.ne_of_gt (Heap.lt_size g2)
    have kk : ∀ b o, b ∉ [e, q] → s.heap.get? b = some o → h2.get? b = some o := fun b o hb g => by
      have b1 : b ≠ e := fun z => hb (by simp [z])
      have b2 : b ≠ q := fun z => hb (by simp [z])
      exact (sb.2 b b1).trans (hk b o b1 b2 g)
    have I1 : Inv X pins σ H { s with heap := h2, toks := tk + 1 } := I.turnedZ kk hf
    have I2 : Inv X pins σ (upd H s.heap.objs.size (.tup [.int (i : Int), x])) { s with heap := h2, toks := tk + 1 } := by
      refine Inv.adopt I1 (I.fpOk (Nat.le_refl _) hnew) ⟨by show 2 ≤ sizeLine; decide, [.int i tk, y], .cons ⟨tk, rfl⟩ (.cons ru .nil), ?_⟩
      exact ⟨_, (sb.2 _ nse).trans hT, rfl, _, rfl⟩
    refine ⟨.ref s.heap.objs.size, _, I2, rfl, ⟨_, x, rfl, hnew, fun ys hy => by rw [I.list_inj hy hq]; exact hx, rfl⟩, ⟨⟨y, by have := he2; simpa using this⟩, hs1.1.at fun o g => (sb.2 q (Ne.symm neq)).trans g⟩, fun b hb => ?_⟩
    have nb : b ≠ s.heap.objs.size := by
      rcases List.mem_cons.mp hb with rfl | hb
      · exact Ne.symm nse
      · rw [List.mem_singleton.mp hb]
        exact Ne.symm nsq
    rw [upd_ne nb]
    exact (hf b hb).1
  done := by
    intro X hP hw hK hc i pins s σ H E I hf st hg
    subst hP hw hK
    obtain ⟨xs, hq, hx⟩ := hg
    obtain ⟨its, rv, p, hz⟩ := I.list hq
    obtain ⟨⟨old, he⟩, hit⟩ := st
    have hl := rv.length
    refine wpAny_pyNext_enum_end (I.ok.hd hc) he hit p.isList (by simp; omega) fun h2 eb => ⟨rfl, ?_⟩
    exact I.turnedZ (t' := s.toks) (fun b o hb g => eb b o (fun z => hb (by simp [z])) g) hf
  self := fun _ _ _ _ _ st h => by
    obtain ⟨⟨old, he⟩, _⟩ := st
    exact wpAny_pyIter_enum he h
section
variable {X : Cx} {es : List Expr} {k : Nat} {tpos : Pos}
def iEnumL (K : PySem.W.Frag) (ta : TA) : TI := fun σ H R => ta σ H fun vs H1 => ∃ a, vs = [.ref a] ∧ (∃ xs, SqL K H1 a xs) ∧ R (Itel K a) H1
theorem pi_enumL {l : Expr} {ta : TA} {p pos : Pos} (hg : Gl X "enumerate") (hm : X.mg "enumerate" = none) (ha : PA X [l] ta) (hs : starEach [l] X.env = [(false, eval l X.env)] := by rfl) : PI X (.Tuple es k tpos) (.Call (.Name "enumerate" p) [l] [] pos) (iEnumL X.K ta) := by
  intro pins s σ H R I h
  refine Call_ (ld_blt I hg hm boot_enumerate (PyProof.Rows.callWith_type1 (thn (ha pos pins s σ H _ I h) fun us s1 ⟨vs, H1, I1, r1, q1⟩ => ?_) hs rfl))
  obtain ⟨a, e, ⟨xs, hq⟩, q⟩ := q1
  subst e
  obtain ⟨u, rfl, ra⟩ := vals1 r1
  cases ra
  obtain ⟨its, rv, p, hz⟩ := I1.list hq
  refine call_enumerate_list p.isList fun h' he hit hsz hk => ?_
  refine wpAny_pyIter_enum he ?_
  have I2 : Inv X pins σ H1 { s1 with heap := h' } := I1.kept (t' := s1.toks) hk
  refine ⟨s1.heap.objs.size + 1, [s1.heap.objs.size + 1, s1.heap.objs.size], _, _, H1, rfl, I2, turn_enumL a _ _, ⟨⟨.none, by simpa using he⟩, hit⟩, fun b hb => ?_, q⟩
  rcases List.mem_cons.mp hb with rfl | hb
  · exact I1.fpOk (Nat.le_succ _) (I1.hok.fresh (Nat.le_succ _))
  · rw [List.mem_singleton.mp hb]
    exact I1.fpOk (Nat.le_refl _) (I1.hok.fresh (Nat.le_refl _))
end
end L2

namespace L2
open PySem PySem.Spec PyProof.Rows
/-! list comprehensions whose target is two names -/
/-- as for one name: two are set at each turn -/
structure CompSc2 (osc : Scope) (N : List Str) (scope : Scope) (x x2 : Str) (caps : List (Nat × Str)) : Prop where
  kind : scope.kind = .function
  hx : scope.names.lookup x = some .local
  hy : scope.names.lookup x2 = some .local
  ncell : ∀ q ∈ scope.names, q.2 ≠ .cell
  nloc : ∀ q ∈ scope.names, q.2 = .local → scope.names.lookup q.1 = some .local
  free : ∀ q ∈ scope.names, q.2 = .free → osc.names.lookup q.1 = some .cell ∨ osc.names.lookup q.1 = some .free
  cap : ∀ p ∈ caps, N[p.1]? = some p.2 ∧ scope.names.lookup p.2 = some .free
  nd : (x :: x2 :: caps.map (·.2)).Nodup

def tCompW2 (K : PySem.W.Frag) (J : It) (cs : St) (tc : TT) (te : TE) (H1 : Hp) (Z : List V → Hp → Prop) : Prop :=
  ∃ W : Nat → Nat → List V → Hp → Prop, (∃ m, W 0 m [] H1) ∧ ∀ i m acc H, W i m acc H →
    (J.stop i H ∧ Z acc H) ∨ (J.go i H ∧ ∃ N : List V → Hp → Prop, (∀ a H', N a H' → ∃ m', m' < m ∧ W (i + 1) m' a H') ∧
      ∀ x H', J.yld i H x H' → ∃ (a : Addr) (u v : V), x = .ref a ∧ SqT K H' a [u, v] ∧ tc (some u :: some v :: cs) H' fun b H2 => if b = true then te (some u :: some v :: cs) H2 fun v H3 => acc.length < sizeLine ∧ N (acc ++ [v]) H3 else N acc H2)
def tComp2 (K : PySem.W.Frag) (wi : TI) (caps : List (Nat × Str)) (tc : TT) (te : TE) : TE := fun σ H Q => wi σ H fun J H1 => tCompW2 K J (capS caps σ) tc te H1 fun acc H2 => ∀ p, H2 p = none → Q (.ref p) (upd H2 p (.lst acc))
section
variable {prog : Program} {w : World} {A : Around} {R : Result → Shared → Prop} {s : Shared}
theorem compLoopT {elt target iter : Expr} {ifs : List Expr} {scope : Scope} {pos : Pos} {it acc : Value} {env : Env} (I : Nat → Shared → Prop)
    (turn : ∀ n s, I n s → wpAny (model prog w) A (pyNext it) (fun r s₁ => match r with
      | none => R (.ok .next) s₁
      | some v => wpAny (model prog w) A (letOwnedTupleGo target it v) (fun _ sg => wpAny (model prog w) A (assign target env v) (fun _ s₂ =>
          wpAny (model prog w) A (forIn ifs true fun c r => if r = true then do let ok ← isTrue c env (eval c env); pure (ForInStep.yield ok) else pure (ForInStep.yield r)) (fun ok s₃ =>
            if ok = true then wpAny (model prog w) A (eval elt env) (fun x s₄ =>
              wpAny (model prog w) A (call (.builtin "list.append") [acc, x]) (fun _ s₅ => ∃ m, m < n ∧ I m s₅) (notedBy (model prog w) A env fun e s' => R (.error e) s') s₄) (notedBy (model prog w) A env fun e s' => R (.error e) s') s₃
            else ∃ m, m < n ∧ I m s₃) (notedBy (model prog w) A env fun e s' => R (.error e) s') s₂) (notedBy (model prog w) A env fun e s' => R (.error e) s') sg) (notedBy (model prog w) A env fun e s' => R (.error e) s') s₁) (notedBy (model prog w) A env fun e s' => R (.error e) s') s)
    (n : Nat) (h : I n s) : codeAny (model prog w) A (.compLoop (.ListComp elt [⟨target, iter, ifs, 0⟩] scope pos) 0 it acc env) R s := by
  refine codeAny_loop rfl I (fun n s hI => ?_) n h
  show wpAny _ A ((compTurn (.ListComp elt [⟨target, iter, ifs, 0⟩] scope pos) 0 it acc env).onRaise (fun q => do noteFrame q env; theTreesLotGoes q)) _ _ s
  refine wpAny_noted ?_
  rw [compTurn_list]
  refine wpAny_bind (wpAny_standAt (wpAny_bind (wpAny_mono (turn n s hI) (fun r s₁ h₁ => ?_) fun _ _ q => q)))
  cases r with
  | none => exact wpAny_pure h₁
  | some v =>
    refine wpAny_bind (wpAny_mono h₁ (fun _ sg hg => wpAny_bind (wpAny_mono hg (fun _ s₂ h₂ => wpAny_bind (wpAny_mono h₂ (fun ok s₃ h₃ => ?_) fun _ _ q => q)) fun _ _ q => q)) fun _ _ q => q)
    cases ok with
    | false => exact wpAny_pure ⟨rfl, h₃⟩
    | true =>
      exact wpAny_bind (wpAny_bind (wpAny_mono h₃ (fun x s₄ h₄ => wpAny_bind (wpAny_mono h₄ (fun _ s₅ h₅ => wpAny_pure (wpAny_pure ⟨rfl, h₅⟩)) fun _ _ q => q)) fun _ _ q => q))
end
/-! the loop -/
theorem comp_loop2 {X : Cx} {elt iter : Expr} {x x2 : Str} {ns : List Str} {px px2 pt pos : Pos} {kt : Nat} {ifs : List Expr} {scope : Scope} {it D : Addr} {fp : List Addr} {tn : Nat → Heap → Prop} {J : It} {tc : TT} {te : TE} {Z : List V → Hp → Prop} {R : Result → Shared → Prop}
    {cs : St} {o o2 : Option V} {H : Hp} {s : Shared} (hc : X.calm = true) (hN : X.N = x :: x2 :: ns) (nd : X.N.Nodup) (hx : X.env.scope.names.lookup x = some .local) (hy : X.env.scope.names.lookup x2 = some .local) (I : Inv X [] (o :: o2 :: cs) H s) (T : Turn X.prog X.w X.K (.Tuple [.Name x px, .Name x2 px2] kt pt) J fp it tn) (st : tn 0 s.heap) (hf : ∀ b ∈ fp, FpOk X [] H b)
    (hD : FpOk X [] H D) (hDf : D ∉ fp) (pl : s.heap.PlainList D #[]) (hifs : PIfs X ifs tc) (helt : PE X elt te) (hW : tCompW2 X.K J cs tc te H Z) (hxe : X.xe = notedBy (model X.prog X.w) X.A X.env fun e s' => R (.error e) s')
    (hR : ∀ (s' : Shared) (H' : Hp) (acc : List V) (its : List Value) (o' o2' : Option V), Inv X [] (o' :: o2' :: cs) H' s' → s'.heap.PlainList D its.toArray → Vals acc its → acc.length ≤ sizeLine → H' D = none → Z acc H' → R (.ok .next) s') :
    codeAny (model X.prog X.w) X.A (.compLoop (.ListComp elt [⟨.Tuple [.Name x px, .Name x2 px2] kt pt, iter, ifs, 0⟩] scope pos) 0 (.ref it) (.ref D) X.env) R s := by
  obtain ⟨W, ⟨m0, w0⟩, turn⟩ := hW
  refine compLoopT (fun n s' => ∃ (i : Nat) (acc : List V) (its : List Value) (H' : Hp) (o' o2' : Option V), Inv X [] (o' :: o2' :: cs) H' s' ∧ tn i s'.heap ∧ (∀ b ∈ fp, H' b = none) ∧ H' D = none ∧ s'.heap.PlainList D its.toArray ∧ Vals acc its ∧ acc.length ≤ sizeLine ∧ W i n acc H') ?_ m0
    ⟨0, [], [], H, o, o2, I, st, fun b hb => (hf b hb).1, hD.1, pl, .nil, Nat.zero_le _, w0⟩
  rintro n s3 ⟨i, acc, its, H3, o3, p3, I3, st3, fr3, hD3, ⟨nD, gD⟩, va, hl, w3⟩
  rw [← hxe]
  -- the list is pinned through the turn
  have I4 : Inv X [(D, { cls := .type "list", data := .seq its.toArray nD })] (o3 :: p3 :: cs) H3 s3 := I3.pins_of fun p hp => by
    obtain rfl : p = (D, { cls := .type "list", data := .seq its.toArray nD }) := by simpa using hp
    exact ⟨gD, hD3, hD.2.1, hD.2.2.1, fun v z => by cases (show Data.seq its.toArray nD = Data.cell v from z)⟩
  have stat : ∀ {H' : Hp}, (∀ b ∈ fp, H' b = none) → ∀ b ∈ fp, FpOk X [(D, { cls := .type "list", data := .seq its.toArray nD })] H' b := fun hn b hb => by
    obtain ⟨_, f1, f2, f3, f4, f5⟩ := hf b hb
    refine ⟨hn b hb, f1, f2, f3, f4, fun p hp => ?_⟩
    rcases List.mem_append.mp hp with z | z
    · exact f5 p (List.mem_append_left _ z)
    · obtain rfl : p = (D, { cls := .type "list", data := .seq its.toArray nD }) := by simpa using z
      exact fun e => hDf (by rw [show D = b from e]; exact hb)
  rcases turn i n acc H3 w3 with ⟨stop, z⟩ | ⟨go, N, hNn, step⟩
  · refine thn (T.done X rfl rfl rfl hc i _ s3 (o3 :: p3 :: cs) H3 X.xe I4 (stat fr3) st3 stop) fun r s4 ⟨hr, I5⟩ => ?_
    subst hr
    exact hR s4 H3 acc its o3 p3 (I5.pins_of fun p hp => absurd hp (by simp)) ⟨nD, (I5.pin _ (List.mem_append_right _ (List.mem_singleton.mpr rfl))).1⟩ va hl hD3 z
  · refine thn (T.item X rfl rfl rfl hc i _ s3 (o3 :: p3 :: cs) H3 X.xe I4 (stat fr3) st3 go) fun r s4 ⟨u, hr, h4⟩ => ?_
    subst hr
    refine thn h4 fun _ s5 ⟨xv, H5, I5, r5, y5, st5, fr5⟩ => ?_
    have I5' := I5.pinned (stat fr5) (T.obj _ _ st5)
    obtain ⟨at1, u1, u2, ex, sq, hq⟩ := step xv H5 y5
    subst ex
    have gt : PG X (.Tuple [.Name x px, .Name x2 px2] kt pt) (gTup X.K 2 (gCons (gName 0) (gCons (gName 1) gNil))) := pg_tup hc (pgs_cons (pg_name (i := 0) nd (by rw [hN]; rfl) (.inl hx) (.inr hx)) (pgs_cons (pg_name (i := 1) nd (by rw [hN]; rfl) (.inl hy) (.inr hy)) pgs_nil))
    refine thn (gt _ s5 (o3 :: p3 :: cs) H5 (.ref at1) u (fun σ' H' => σ' = some u1 :: some u2 :: cs ∧ H' = H5) I5' r5 ⟨at1, [u1, u2], rfl, sq, rfl, u1, [u2], rfl, u2, [], rfl, rfl, rfl, rfl⟩) fun _ s6 ⟨σ6, H6, I6, e6, e7⟩ => ?_
    subst e6
    subst e7
    have I6' : Inv X ([(D, { cls := .type "list", data := .seq its.toArray nD })] ++ pinsAt fp s5.heap) (some u1 :: some u2 :: cs) H6 s6 := I6
    -- what stays of the iterator and of the list, at any later state of the turn
    have later : ∀ {σ' : St} {H' : Hp} {s' : Shared}, Inv X ([(D, { cls := .type "list", data := .seq its.toArray nD })] ++ pinsAt fp s5.heap) σ' H' s' →
        Inv X [] σ' H' s' ∧ tn (i + 1) s'.heap ∧ (∀ b ∈ fp, H' b = none) ∧ H' D = none ∧ s'.heap.get? D = some { cls := .type "list", data := .seq its.toArray nD } := fun {σ' H' s'} J' => by
      have pD := J'.pin (D, { cls := .type "list", data := .seq its.toArray nD }) (List.mem_append_right _ (List.mem_append_left _ (List.mem_singleton.mpr rfl)))
      refine ⟨J'.pins_of fun p hp => absurd hp (by simp), T.keep _ _ _ st5 fun b hb ob e => (J'.pin (b, ob) (List.mem_append_right _ (List.mem_append_right _ (mem_pinsAt hb e)))).1, fun b hb => ?_, pD.2.1, pD.1⟩
      obtain ⟨ob, e, _⟩ := T.obj _ _ st5 b hb
      exact (J'.pin (b, ob) (List.mem_append_right _ (List.mem_append_right _ (mem_pinsAt hb e)))).2.1
    refine thn (hifs _ s6 (some u1 :: some u2 :: cs) H6 _ I6' hq) fun b s7 ⟨H7, I7, q7⟩ => ?_
    cases b with
    | false =>
      obtain ⟨m', hm, w7⟩ : ∃ m', m' < n ∧ W (i + 1) m' acc H7 := hNn acc H7 q7
      obtain ⟨l1, l2, l3, l4, l5⟩ := later I7
      exact ⟨m', hm, i + 1, acc, its, H7, some u1, some u2, l1, l2, l3, l4, ⟨nD, l5⟩, va, hl, w7⟩
    | true =>
      have q7' : te (some u1 :: some u2 :: cs) H7 fun v H3 => acc.length < sizeLine ∧ N (acc ++ [v]) H3 := q7
      show wpAny _ _ (eval elt X.env) _ _ s7
      refine thn (helt _ s7 (some u1 :: some u2 :: cs) H7 _ I7 q7') fun u8 s8 ⟨v, H8, I8, r8, hlt, n8⟩ => ?_
      obtain ⟨m', hm, w8⟩ := hNn _ _ n8
      obtain ⟨l1, l2, l3, l4, l5⟩ := later I8
      have hlen := va.length
      refine wpAny_list_append_plain (hsz := by simp only [List.size_toArray]; omega) ⟨nD, l5⟩ fun h9 pl9 sb9 => ?_
      refine ⟨m', hm, i + 1, acc ++ [v], its ++ [u8], H8, some u1, some u2, l1.turned (t' := s8.toks) (fun b ob hb e => (sb9.2 b hb).trans e) l4 hD.2.1 hD.2.2.2.1 hD.2.2.2.2.1 hD.2.2.2.2.2, ?_, l3, l4, by simpa using pl9, va.append (.cons r8 .nil), ?_, w8⟩
      · exact T.keep _ _ _ l2 fun b hb ob e => (sb9.2 b (fun z => hDf (z ▸ hb))).trans e
      · rw [List.length_append, List.length_singleton]
        omega

/-! the block -/
section
variable {X : Cx} {elt iter : Expr} {x x2 : Str} {px px2 pt pos : Pos} {kt : Nat} {ifs : List Expr} {scope : Scope} {caps : List (Nat × Str)} {wi : TI} {tc : TT} {te : TE}
theorem comp_block2 {pins : List (Addr × Obj)} {σ : St} {H : Hp} {s : Shared} {E : Value → Shared → Prop} {it : Addr} {fp : List Addr} {tn : Nat → Heap → Prop} {J : It} {Z : List V → Hp → Prop} {RR : Value → Addr → Result → Shared → Prop}
    (hc : X.calm = true) (S : CompSc2 X.env.scope X.N scope x x2 caps) (I : Inv X pins σ H s) (T : Turn X.prog X.w X.K (.Tuple [.Name x px, .Name x2 px2] kt pt) J fp it tn) (st : tn 0 s.heap) (hf : ∀ b ∈ fp, FpOk X pins H b)
    (hifs : ∀ C s H ex pn E, PIfs (cxComp X (x :: x2 :: caps.map (·.2)) scope C s H ex pn E) ifs tc) (helt : ∀ C s H ex pn E, PE (cxComp X (x :: x2 :: caps.map (·.2)) scope C s H ex pn E) elt te)
    (hW : tCompW2 X.K J (capS caps σ) tc te H Z)
    (hRR : ∀ (s' : Shared) (H' : Hp) (acc : List V) (its : List Value) (D C : Addr) (m : Str → Option Value), Inv X pins σ H' s' → s'.heap.PlainList D its.toArray → Vals acc its → acc.length ≤ sizeLine → FpOk X pins H' D → FpOk X pins H' C → D ≠ C → s'.heap.Ns C m → Z acc H' → RR (.ref D) C (.ok .next) s') :
    wpAny (model X.prog X.w) X.A (newList []) (fun acc s₃ => wpAny (model X.prog X.w) X.A (newFunctionEnv scope X.env.globals (clOf X.env scope) [] X.env.qual none .none (some X.env)) (fun cenv s₄ =>
      codeAny (model X.prog X.w) X.A (.compStart (.ListComp elt [⟨.Tuple [.Name x px, .Name x2 px2] kt pt, iter, ifs, 0⟩] scope pos) 0 (.ref it) acc { cenv with scope := relabel scope X.env }) (RR acc cenv.locals) s₄) E s₃) E s := by
  refine wpAny_newObj_type (wpAny_newFunctionEnv S.ncell (by intro y hy; simp at hy) (fun h₁ hns₁ hsb₁ => ?_) S.kind)
  dsimp only at hns₁ hsb₁ ⊢
  have hI3 : Inv X pins σ H { s with heap := s.heap.push { cls := .type "list", dict := none, data := .seq ([] : List Value).toArray } } := I.kept (t' := s.toks) fun b u e => Heap.get?_push_of_some _ e
  have gD3 : (s.heap.push { cls := .type "list", dict := none, data := .seq ([] : List Value).toArray }).get? s.heap.objs.size = some { cls := .type "list", dict := none, data := .seq ([] : List Value).toArray } := Heap.get?_push_size _ rfl
  have hz3 : (s.heap.push { cls := .type "list", dict := none, data := .seq ([] : List Value).toArray }).objs.size = s.heap.objs.size + 1 := Heap.size_push _ _
  generalize hH3 : s.heap.push { cls := .type "list", dict := none, data := .seq ([] : List Value).toArray } = h3 at hns₁ hsb₁ hI3 gD3 hz3 ⊢
  have k3 : ∀ b u, s.heap.get? b = some u → h3.get? b = some u := fun b u e => hH3 ▸ Heap.get?_push_of_some _ e
  have k31 : ∀ b u, h3.get? b = some u → h₁.get? b = some u := fun b u e => (hsb₁.2 b (Nat.ne_of_lt (Heap.lt_size e))).trans (Heap.get?_push_of_some _ e)
  have k1 : ∀ b u, s.heap.get? b = some u → h₁.get? b = some u := fun b u e => k31 b u (k3 b u e)
  have hDC : s.heap.objs.size ≠ h3.objs.size := by rw [hz3]; exact Nat.ne_of_lt (Nat.lt_succ_self _)
  have fD : FpOk X pins H s.heap.objs.size := I.fpOk (Nat.le_refl _) (I.hok.fresh (Nat.le_refl _))
  have fC : FpOk X pins H h3.objs.size := I.fpOk (by rw [hz3]; exact Nat.le_succ _) (I.hok.fresh (by rw [hz3]; exact Nat.le_succ _))
  have lfp : ∀ b ∈ fp, b < s.heap.objs.size := fun b hb => let ⟨_, e, _⟩ := T.obj _ _ st b hb; Heap.lt_size e
  have hDf : s.heap.objs.size ∉ fp := fun z => Nat.lt_irrefl _ (lfp _ z)
  -- the closure's cells are cells around
  have hfree : ∀ y ∈ scope.names, y.2 = .free → ∃ c, X.env.cells.lookup y.1 = some c := fun y hy e => I.ok.has y.1 (S.free y hy e)
  obtain ⟨sub, has⟩ := clG_look scope.names [] hfree (fun y c e => by simp at e)
  have sub' : ∀ y c, (clOf X.env scope).lookup y = some c → X.env.cells.lookup y = some c := sub
  have has' : ∀ y, (y, NameKind.free) ∈ scope.names → ∃ c, (clOf X.env scope).lookup y = some c := fun y hy => Option.isSome_iff_exists.mp (has y (.inr hy))
  have inj : ∀ b ∈ s.heap.objs.size :: fp, FpOk X pins H b := fun b hb => (List.mem_cons.mp hb).elim (fun z => z ▸ fD) (hf b)
  have ltC : ∀ b ∈ s.heap.objs.size :: fp, b ≠ h3.objs.size := fun b hb => (List.mem_cons.mp hb).elim (fun z => z ▸ hDC) fun z => Nat.ne_of_lt (by rw [hz3]; exact Nat.lt_succ_of_lt (lfp b z))
  have I1 : Inv (cxComp X (x :: x2 :: caps.map (·.2)) scope h3.objs.size { s with heap := h3 } H (s.heap.objs.size :: fp) (X.pn ++ pins)
      (notedBy (model X.prog X.w) X.A (compEnvC scope (clOf X.env scope) h3.objs.size X.env) fun e s' => RR (.ref s.heap.objs.size) h3.objs.size (.error e) s')) [] (none :: none :: capS caps σ) H { s with heap := h₁, toks := s.toks + ([] : List (Str × Value)).length } := by
    refine ⟨⟨I.ok.mod, S.kind, I.ok.glob, I.ok.blt, Nat.le_refl _, fun y z c e1 e2 => I.ok.inj y z c (sub' _ _ e1) (sub' _ _ e2), fun y hy => has' y (free_of_relabel S.ncell hy), fun y c e => (nomatch e), I.ok.hd, I.ok.frames, .inl rfl, fun b hb => ⟨ltC b hb, fun y c e => (inj b hb).2.2.2.2.1 y c (sub' y c e)⟩,
        fun b ob e => ⟨k3 b ob (I.bs b ob e).1, (I.bs b ob e).2⟩, ?_, fun b ob e z => ?_, fun b hb => I.stkNo (inj b hb).2.1 (inj b hb).2.2.1, ?_, I.stkFree⟩,
      rfl, I.bare, Un.kept k31, ⟨_, hns₁, fun i y v e1 e2 e3 => ?_⟩, fun y c e => ?_, fC.1, fun y c e => I.freeC y c (sub' y c e), fun p hp => ?_, I.hok.kept k1, ?_⟩
    · exact Nat.le_trans I.ok.bsz (Nat.le_trans I.sz (by show s.heap.objs.size ≤ h3.objs.size; rw [hz3]; exact Nat.le_succ _))
    · rcases (inj b z).2.2.2.1 with w1 | w1
      · exact I.ok.noex b ob e w1
      · exact absurd (Nat.lt_of_lt_of_le (Heap.lt_size e) I.ok.bsz) (Nat.not_lt.mpr w1)
    · exact Heap.FunFrames.of_keeps (fun b ob e _ => ⟨ob, k3 b ob e, rfl⟩) I.stack
    · rcases i with _ | _ | i
      · cases e2
      · cases e2
      · have e1' : (caps.map (·.2))[i]? = some y := e1
        have e2' : (capS caps σ)[i]? = some (some v) := e2
        unfold capS at e2'
        rw [List.getElem?_map] at e1' e2'
        cases ep : caps[i]? with
        | none => rw [ep] at e1'; cases e1'
        | some p =>
          rw [ep] at e1' e2'
          obtain rfl : p.2 = y := Option.some.inj e1'
          have e2'' : (σ[p.1]?).getD none = some v := Option.some.inj e2'
          have hσ : σ[p.1]? = some (some v) := by
            cases es : σ[p.1]? with
            | none => rw [es] at e2''; cases e2''
            | some w1 => rw [es] at e2''; exact congrArg some e2''
          obtain ⟨cN, cF⟩ := S.cap p (List.mem_of_getElem? ep)
          have mF : (p.2, NameKind.free) ∈ scope.names := PySem.mem_of_lookup cF
          have oF := S.free _ mF rfl
          obtain ⟨m, hn, hlook⟩ := I.loc
          obtain ⟨u, ru, lk⟩ := hlook p.1 p.2 v cN hσ (.inr oF)
          refine ⟨u, ru, .inr ⟨?_, ?_⟩⟩
          · rcases e3 with z | z
            · exact absurd z (lookup_relabel_free cF)
            · exact z
          · obtain ⟨c, ec⟩ := has' p.2 mF
            refine ⟨c, ec, ?_⟩
            rcases lk with ⟨z, _⟩ | ⟨_, c', ec', ob, ho, hd⟩
            · have z' : X.env.scope.names.lookup p.2 = some .local := z
              rw [z'] at oF
              rcases oF with q | q <;> cases q
            · have ee := (sub' _ _ ec).symm.trans ec'
              cases ee
              exact ⟨ob, k1 _ _ ho, hd⟩
    · obtain ⟨v, ob, ho, hd⟩ := I.cell y c (sub' y c e)
      exact ⟨v, ob, k1 _ _ ho, hd⟩
    · have hp' : p ∈ X.pn ++ pins := by
        rcases List.mem_append.mp hp with z | z
        · exact z
        · exact absurd z (by simp)
      obtain ⟨e, n, ne, nf, d⟩ := I.pin p hp'
      refine ⟨k1 _ _ e, n, Nat.ne_of_lt ?_, I.stkNo ne nf, d⟩
      show p.1 < h3.objs.size
      rw [hz3]
      exact Nat.lt_succ_of_lt (Heap.lt_size e)
    · show (none :: none :: capS caps σ).length = (x :: x2 :: caps.map (·.2)).length
      simp [capS]
  have hf1 : ∀ b ∈ s.heap.objs.size :: fp, FpOk (cxComp X (x :: x2 :: caps.map (·.2)) scope h3.objs.size { s with heap := h3 } H (s.heap.objs.size :: fp) (X.pn ++ pins)
      (notedBy (model X.prog X.w) X.A (compEnvC scope (clOf X.env scope) h3.objs.size X.env) fun e s' => RR (.ref s.heap.objs.size) h3.objs.size (.error e) s')) [] H b := fun b hb => by
    obtain ⟨f0, f1, f2, f3, f4, f5⟩ := inj b hb
    refine ⟨f0, ltC b hb, I.stkNo f1 f2, .inl hb, fun y c e => f4 y c (sub' y c e), fun p hp => f5 p ?_⟩
    rcases List.mem_append.mp hp with z | z
    · exact z
    · exact absurd z (by simp)
  have st1 : tn 0 h₁ := T.keep _ _ _ st fun b _ ob e => k1 b ob e
  have loop : codeAny (model X.prog X.w) X.A (.compLoop (.ListComp elt [⟨.Tuple [.Name x px, .Name x2 px2] kt pt, iter, ifs, 0⟩] scope pos) 0 (.ref it) (.ref s.heap.objs.size) (compEnvC scope (clOf X.env scope) h3.objs.size X.env)) (RR (.ref s.heap.objs.size) h3.objs.size) { s with heap := h₁, toks := s.toks + ([] : List (Str × Value)).length } := by
    refine comp_loop2 (X := cxComp X (x :: x2 :: caps.map (·.2)) scope h3.objs.size { s with heap := h3 } H (s.heap.objs.size :: fp) (X.pn ++ pins) (notedBy (model X.prog X.w) X.A (compEnvC scope (clOf X.env scope) h3.objs.size X.env) fun e s' => RR (.ref s.heap.objs.size) h3.objs.size (.error e) s'))
      hc rfl S.nd (lookup_relabel_local S.hx) (lookup_relabel_local S.hy) I1 T st1 (fun b hb => hf1 b (List.mem_cons_of_mem _ hb)) (hf1 _ List.mem_cons_self) hDf ⟨0, k31 _ _ gD3⟩ (hifs _ _ _ _ _ _) (helt _ _ _ _ _ _) hW rfl ?_
    intro s' H' acc its o' o2' J1 plD va hlen nD z
    have u1 : Un (frs X.stack) (s.heap.objs.size :: fp) H H' h3 s'.heap := J1.base
    have J2 : Inv X pins σ H' s' := Inv.call' (s := { s with heap := h3 }) hI3 J1.os u1 J1.hok J1.bare fun b hb => by
      obtain ⟨_, f1, _, f3, f4, f5⟩ := inj b hb
      exact ⟨f3, f1, f4, f5⟩
    obtain ⟨m, hn, _⟩ := J1.loc
    exact hRR s' H' acc its _ _ m J2 plD va hlen ⟨nD, fD.2⟩ ⟨J1.free, fC.2⟩ hDC hn z
  exact codeAny_compStart_list loop (T.self _ 0 _ _ _ st1 loop)

theorem pe_comp2 (hc : X.calm = true) (S : CompSc2 X.env.scope X.N scope x x2 caps) (hi : PI X (.Tuple [.Name x px, .Name x2 px2] kt pt) iter wi)
    (hifs : ∀ C s H ex pn E, PIfs (cxComp X (x :: x2 :: caps.map (·.2)) scope C s H ex pn E) ifs tc) (helt : ∀ C s H ex pn E, PE (cxComp X (x :: x2 :: caps.map (·.2)) scope C s H ex pn E) elt te)
    (hs : ∀ x, foldedSetIterable iter X.env x = pure x := by intro _; rfl) : PE X (.ListComp elt [⟨.Tuple [.Name x px, .Name x2 px2] kt pt, iter, ifs, 0⟩] scope pos) (tComp2 X.K wi caps tc te) := by
  intro pins s σ H Q I h
  have hfree : ∀ y ∈ scope.names, y.2 = .free → ∃ c, X.env.cells.lookup y.1 = some c := fun y hy e => I.ok.has y.1 (S.free y hy e)
  rw [eval_ListComp]
  refine wpAny_comprehension_free (use := none) rfl hs (closure_eq hfree) S.kind S.nloc (thn (hi pins s σ H _ I h) fun v s1 h1 => thn h1 fun itv s2 h2 => ?_)
  obtain ⟨it, fp, tn, J, H2, e, I2, T, st2, f2, hW⟩ := h2
  subst e
  refine comp_block2 (RR := fun acc C => compPost (model X.prog X.w) X.A X.xe none (EP X pins σ Q) acc C) hc S I2 T st2 f2 hifs helt hW ?_
  intro s' H' acc its D C m J2 plD va hlen fD fC hDC hn z
  obtain ⟨nD, gD⟩ := plD
  refine ⟨m, hn, fun h'' sb => ?_⟩
  have J3 : Inv X pins σ H' { s' with heap := h'' } := J2.turned (t' := s'.toks) (fun b ob hb e => (sb.2 b hb).trans e) fC.1 fC.2.1 fC.2.2.2.1 fC.2.2.2.2.1 fC.2.2.2.2.2
  exact ⟨.ref D, upd H' D (.lst acc), J3.adopt fD ⟨hlen, its, nD, va, (sb.2 D hDC).trans gD⟩, rfl, z D fD.1⟩
/-- name = [..] where the store is the comprehension's own last step -/
theorem ps_setC2 {i : Nat} {y : Str} {py spos : Pos} (hc : X.calm = true) (hN : X.N.Nodup) (hi' : X.N[i]? = some y) (hy : Loc X.env.scope y) (S : CompSc2 X.env.scope X.N scope x x2 caps) (hi : PI X (.Tuple [.Name x px, .Name x2 px2] kt pt) iter wi)
    (hifs : ∀ C s H ex pn E, PIfs (cxComp X (x :: x2 :: caps.map (·.2)) scope C s H ex pn E) ifs tc) (helt : ∀ C s H ex pn E, PE (cxComp X (x :: x2 :: caps.map (·.2)) scope C s H ex pn E) elt te)
    (hsw : swapsWith (.ListComp elt [⟨.Tuple [.Name x px, .Name x2 px2] kt pt, iter, ifs, 0⟩] scope pos) (some (.Name y py)) spos.line X.env = pure true := by rfl) (hs : ∀ x, foldedSetIterable iter X.env x = pure x := by intro _; rfl)
    (hfn : X.fn y = true ∨ X.env.scope.names.lookup y = some .local := by first | exact .inl rfl | exact .inr rfl | assumption) : PS X (.Assign [.Name y py] (.ListComp elt [⟨.Tuple [.Name x px, .Name x2 px2] kt pt, iter, ifs, 0⟩] scope pos) spos) (tAsg (tComp2 X.K wi caps tc te) (gName i)) := by
  intro pins s σ H D0 I h
  have hfree : ∀ y ∈ scope.names, y.2 = .free → ∃ c, X.env.cells.lookup y.1 = some c := fun y hy e => I.ok.has y.1 (S.free y hy e)
  rw [exec_Assign_Name_used _ _ _ _ hsw]
  refine wpAny_bind (wpAny_standAt (wpAny_bind ?_))
  show wpAny _ _ (do let _ ← comprehension (.ListComp elt [⟨.Tuple [.Name x px, .Name x2 px2] kt pt, iter, ifs, 0⟩] scope pos) scope X.env _ (newList []) false (eval iter X.env) (some (assign (.Name y py) X.env))) _ _ s
  refine wpAny_bind (wpAny_mono (wpAny_comprehension_free (use := some (assign (.Name y py) X.env)) (Q := fun _ s' => SP X pins D0 .next s') rfl hs (closure_eq hfree) S.kind S.nloc
    (thn (hi pins s σ H _ I h) fun v s1 h1 => thn h1 fun itv s2 h2 => ?_)) (fun _ s' hq => wpAny_pure (wpAny_pure hq)) fun _ _ e => e)
  obtain ⟨it, fp, tn, J, H2, e, I2, T, st2, f2, hW⟩ := h2
  subst e
  refine comp_block2 (RR := fun acc C => compPost (model X.prog X.w) X.A X.xe (some (assign (.Name y py) X.env)) (fun _ s' => SP X pins D0 .next s') acc C) hc S I2 T st2 f2 hifs helt hW ?_
  intro s' H' acc its D C m J2 plD va hlen fD fC hDC hn z
  obtain ⟨nD, gD⟩ := plD
  have J3 : Inv X pins σ (upd H' D (.lst acc)) s' := J2.adopt fD ⟨hlen, its, nD, va, gD⟩
  show wpAny _ _ (assign (.Name y py) X.env (.ref D)) _ _ s'
  refine wpAny_assign_Name (store_ok2 J3 hN hi' hy (show RelV (.ref D) (.ref D) from rfl) (fun s4 J4 ⟨a, sa, ha⟩ => ?_) hfn)
  have hCa : C ≠ a := by
    rcases ha with q | q
    · rw [q]; exact fC.2.1
    · exact (fC.2.2.2.2.1 y a q).symm
  refine ⟨m, hn.sameBut sa hCa, fun h'' sb => ?_⟩
  exact ⟨_, _, J4.turned (t' := s4.toks) (fun b ob hb e => (sb.2 b hb).trans e) (by rw [upd_ne (Ne.symm hDC)]; exact fC.1) fC.2.1 fC.2.2.2.1 fC.2.2.2.2.1 fC.2.2.2.2.2, z D fD.1⟩
end
end L2

namespace L2
open PySem PySem.Spec PyProof.Rows
/-- xs.index(k), xs a list of numbers in which k stands first at j -/
def rIdx : V → List V → Hp → VK → Prop := fun x vs H Q => ∃ (l : Addr) (os : List Nat) (k : Int) (j : Nat), x = .ref l ∧ vs = [.int k] ∧ H l = some (.lst (os.map fun j : Nat => V.int (j : Int))) ∧ (∃ h : j < os.length, ((os[j] : Nat) : Int) = k) ∧ (∀ (m : Nat) (hm : m < os.length), m < j → ((os[m] : Nat) : Int) ≠ k) ∧ os.length ≤ 1000 ∧ Q (.int (j : Int)) H
def eqNi (k : Int) : Value → Bool
  | .int a _ => a == k
  | _ => false
section
variable {X : Cx}
theorem mt_index : MtM X "list.index" rIdx := by
  intro pins s σ H x vs v us Q I rx rv h
  obtain ⟨l, os, k, j, rfl, rfl, hH, ⟨hj, e1⟩, e2, hz, q⟩ := h
  cases rx
  obtain ⟨u, rfl, ru⟩ := rv.one
  obtain ⟨t, rfl⟩ := ru
  obtain ⟨z, its, n, r, hl, e⟩ := I.lstM hH
  rw [List.length_map] at hl
  have item : ∀ (m : Nat) (hm : m < os.length), ∃ t', its[m]? = some (.int ((os[m] : Nat) : Int) t') := fun m hm => by
    obtain ⟨w', hw, t', rfl⟩ := r.get (i := m) (x := .int ((os[m] : Nat) : Int)) (by rw [List.getElem?_map, List.getElem?_eq_getElem hm]; rfl)
    exact ⟨t', hw⟩
  have at' : ∀ (m : Nat) (hm : m < its.toArray.size), ∃ (hm' : m < os.length) (t' : Tok), its.toArray[m] = .int ((os[m]'hm' : Nat) : Int) t' := fun m hm => by
    have hm' : m < os.length := by
      rw [List.size_toArray] at hm
      omega
    obtain ⟨t', ht⟩ := item m hm'
    refine ⟨hm', t', ?_⟩
    have := List.getElem?_eq_some_iff.mp ht
    obtain ⟨_, this⟩ := this
    simpa using this
  refine call_meets PySem.F.slot_list_index ⟨_, e, rfl⟩ PySem.F.entry_list_index (PySem.F.args_list_index_2 _ _) (MeetsSeq.list_index l its.toArray n _ (eqNi k) (fun y hy => ?_) j (by rw [List.size_toArray]; omega) (by omega) ?_ (fun m hm hmj => ?_)) ⟨e, ?_⟩
  · obtain ⟨m, hm, rfl⟩ := Array.mem_iff_getElem.mp hy
    obtain ⟨hm', t', et⟩ := at' m hm
    rw [et]
    exact MeetsSeq.EqGives.int _ _ _ _
  · obtain ⟨hm', t', et⟩ := at' j (by rw [List.size_toArray]; omega)
    rw [et]
    show (((os[j] : Nat) : Int) == k) = true
    rw [e1]
    exact beq_self_eq_true _
  · obtain ⟨hm', t', et⟩ := at' m hm
    rw [et]
    exact beq_eq_false_iff_ne.mpr (e2 m hm' hmj)
  · exact ⟨.int (j : Int), H, I.tok _, ⟨_, rfl⟩, q⟩
end
end L2

namespace Wy
/-! ways as mathematics: a way's code is greater just where it comes later -/
def codeF (a : Nat) (p : List Nat) : Nat := p.foldl (fun c x => 8 * c + (x + 1)) a
def code (p : List Nat) : Nat := codeF 0 p
def goal (tb : List (List Nat)) (k x : Nat) : Nat := (tb.getD k []).getD x 0
def leadF (tb : List (List Nat)) (k : Nat) (p : List Nat) : Nat := p.foldl (fun r x => goal tb r x) k
def lead (tb : List (List Nat)) (p : List Nat) : Nat := leadF tb 0 p
structure TbOk (tb : List (List Nat)) (n e : Nat) : Prop where
  len : tb.length = n
  pos : 1 ≤ n
  row : ∀ k, k < n → (tb.getD k []).length = e
  to : ∀ k x, k < n → x < e → goal tb k x < n
structure WaysOk (tb : List (List Nat)) (n e : Nat) (ws : List (Option (List Nat))) : Prop where
  len : ws.length = n
  zero : ws[0]? = some (some [])
  lead : ∀ (k : Nat) (p : List Nat), ws[k]? = some (some p) → lead tb p = k ∧ ∀ x ∈ p, x < e
  short : ∀ (k : Nat) (p : List Nat), ws[k]? = some (some p) → p.length ≤ n
  clo : ∀ (k : Nat) (p : List Nat), ws[k]? = some (some p) → ∀ x, x < e → ∃ p', ws[goal tb k x]? = some (some p') ∧ code p' ≤ 8 * code p + (x + 1)
def lk (pm : List (Nat × List Nat)) (k : Nat) : Option (List Nat) := (pm.find? fun kp => kp.1 == k).map (·.2)
structure Bf (tb : List (List Nat)) (n e : Nat) (pm : List (Nat × List Nat)) (i x : Nat) : Prop where
  head : pm[0]? = some (0, [])
  nodup : (pm.map (·.1)).Nodup
  rng : ∀ kp ∈ pm, kp.1 < n ∧ lead tb kp.2 = kp.1 ∧ ∀ y ∈ kp.2, y < e
  srt : pm.Pairwise fun a b => code a.2 < code b.2
  len : ∀ (j : Nat) (kp : Nat × List Nat), pm[j]? = some kp → kp.2.length ≤ j
  clo : ∀ (j : Nat) (kp : Nat × List Nat), pm[j]? = some kp → ∀ y, y < e → (j < i ∨ (j = i ∧ y < x)) → ∃ p', lk pm (goal tb kp.1 y) = some p' ∧ code p' ≤ 8 * code kp.2 + (y + 1)
  bnd : ∀ c : Nat × List Nat, pm[i]? = some c → ∀ kp ∈ pm, code kp.2 ≤ 8 * code c.2 + x
section
variable {tb : List (List Nat)} {n e : Nat} {pm : List (Nat × List Nat)} {i x : Nat}
end
end Wy

namespace L2
open PySem
/-! a row of written constants, at once -/
def conE : Expr → Option V
  | .Constant (.int i) _ _ => some (.int i)
  | .Constant (.str z) _ _ => some (.str z)
  | .UnaryOp .USub (.Constant (.int i) _ _) _ => some (.int (-i))
  | _ => none
def conEs : List Expr → Option (List V)
  | [] => some []
  | e :: es => match conE e, conEs es with
    | some v, some vs => some (v :: vs)
    | _, _ => none
section
variable {X : Cx}
theorem con_ok {e : Expr} {v : V} (h : conE e = some v) : PE X e (fun _ H Q => Q v H) ∧ ∀ es, starEach (e :: es) X.env = (false, eval e X.env) :: starEach es X.env := by
  unfold conE at h
  split at h
  · cases h
    exact ⟨pe_int, fun _ => rfl⟩
  · cases h
    exact ⟨pe_str, fun _ => rfl⟩
  · cases h
    refine ⟨fun pins s σ H Q I h => ?_, fun _ => rfl⟩
    exact (pe_un un_neg pe_int) pins s σ H Q I ⟨_, rfl, h⟩
  · cases h
theorem pa_consts : ∀ {es : List Expr} {vs : List V}, conEs es = some vs → PA X es (fun _ H Q => Q vs H)
  | [], vs, h => by
    cases h
    exact pa_nil
  | e :: es, vs, h => by
    unfold conEs at h
    split at h
    · rename_i v vs' h1 h2
      cases h
      obtain ⟨a, b⟩ := con_ok (X := X) h1
      exact pa_cons a (pa_consts h2) (b es)
    · cases h
end
/-! closed-up forms of the layer's readings, whose insides the unifier does not open -/
structure RE (X : Cx) (e : Expr) (t : TE) : Prop where
  p : PE X e t
structure RS (X : Cx) (st : Stmt) (t : TS) : Prop where
  p : PS X st t
structure RSs (X : Cx) (st : List Stmt) (t : TS) : Prop where
  p : PSs X st t
structure RA (X : Cx) (es : List Expr) (t : TA) : Prop where
  p : PA X es t
section
variable {X : Cx} {e a b c : Expr} {es : List Expr} {te ta tb : TE} {tc : TT} {tr : TA} {pos : Pos} {st : Stmt} {ss rest : List Stmt} {t u : TS}
theorem r_one (h : RS X st t) : RSs X [st] t := ⟨pss_one h.p⟩
theorem r_cons (h : RS X st t) (h2 : RSs X rest u) : RSs X (st :: rest) (tSeq t u) := ⟨pss_cons h.p h2.p⟩
theorem r_cut (h : RS X st t) (h2 : RSs X rest u) : RSs X (st :: rest) (tCut t u) := ⟨pss_cut h.p h2.p⟩
theorem r_ret (h : RE X e te) : RS X (.Return (some e) pos) (tRet te) := ⟨ps_ret h.p⟩
theorem r_st (h : PS X st t) : RS X st t := ⟨h⟩
theorem r_set {i : Nat} {x : Str} {pos' : Pos} (hN : X.N.Nodup) (hi : X.N[i]? = some x) (hx : Loc X.env.scope x) (he : RE X e te) (hs : swapsWith e (some (.Name x pos')) pos.line X.env = pure false := by rfl) (hf : X.fn x = true ∨ X.env.scope.names.lookup x = some .local := by first | exact .inl rfl | exact .inr rfl | assumption) : RS X (.Assign [.Name x pos'] e pos) (tAsg te (gName i)) := ⟨ps_set hN hi hx he.p hs hf⟩
theorem r_e (h : PE X e te) : RE X e te := ⟨h⟩
theorem r_ixL (ha : RE X a ta) (hb : PE X b tb) (hs : PlainIx b) : RE X (.Subscript a b pos) (tOp (rIxL X.K) ta tb) := ⟨pe_ix ix_list ha.p hb hs⟩
theorem r_lst (h : RA X es tr) : RE X (.List es pos) (tLst tr) := ⟨pe_lst h.p⟩
theorem ra_con {vs : List V} (h : conEs es = some vs) : RA X es (fun _ H Q => Q vs H) := ⟨pa_consts h⟩
end
end L2

namespace PySem
open Sem (wp)
namespace Rv
/-! tuple(reversed(xs)): what the tuple's maker collects from a list's backward iterator -/
section
variable {prog : Program} {w : World} {A : Around} {E : Value → Shared → Prop} {s : Shared} {I : Addr} {fp wr : List Addr} {G : Array GenState → Array GenState → Prop} {n : Nat} {P : Nat → Value → Prop} {St : Nat → Shared → Prop}
end
end Rv
end PySem
namespace L2
open PySem PySem.Spec PyProof.Rows
section
variable {X : Cx}
/-- tuple(reversed(a)), a a list: the iterator between is nobody's -/
def tTR (K : PySem.W.Frag) (t : TA) : TE := fun σ H Q => t σ H fun vs H1 => ∃ (p : Addr) (ys : List V), vs = [.ref p] ∧ SqL K H1 p ys ∧ ∀ q, H1 q = none → Q (.ref q) (upd H1 q (.tup ys.reverse))
end
end L2

namespace L2
open PySem
/-! items of a display whose kind is plain at sight: the rest is not looked at -/
section
variable {X : Cx} {es : List Expr} {te : TE} {t : TA}
end
end L2

namespace L2
open PySem PySem.Spec PyProof.Rows
section
variable {X : Cx} {a b c : Expr} {ta tb tc : TE} {pos : Pos}
/-- a op1 b op2 c of ints, c a calm expression: one truth -/
def tChV (p p' : Int → Int → Bool) (ta tb tc : TE) : TE := fun σ H Q => ta σ H fun x H1 => tb σ H1 fun y H2 => ∃ i j k, x = .int i ∧ y = .int j ∧ tc σ H2 (fun z H3 => z = .int k ∧ H3 = H2) ∧ Q (.bl (p i j && p' j k)) H2
end
theorem itB {c : Bool} {A B : Prop} (h1 : c = true → A) (h2 : c = false → B) : if c = true then A else B := by
  cases c with
  | true =>
    rw [if_pos rfl]
    exact h1 rfl
  | false =>
    rw [if_neg Bool.false_ne_true]
    exact h2 rfl
end L2

namespace L2
open PySem
section
variable {X : Cx}
/-- != of two lists of numbers, equally long -/
theorem op_neN (hu : X.A.units + 64 < cLine) : OpR X (compareOp .NotEq) (fun x y H Q => ∃ (a b : Addr) (as bs : List Nat), x = .ref a ∧ y = .ref b ∧ SqL X.K H a (as.map fun j : Nat => V.int (j : Int)) ∧ SqL X.K H b (bs.map fun j : Nat => V.int (j : Int)) ∧ as.length = bs.length ∧ Q (.bl (!decide (as = bs))) H) := by
  intro pins s σ H x y v u Q I rx ry h
  obtain ⟨a, b, as, bs, rfl, rfl, ha, hb, hl, q⟩ := h
  cases rx
  cases ry
  obtain ⟨its, r1, p1, _⟩ := I.list ha
  obtain ⟨its2, r2, p2, _⟩ := I.list hb
  have l1 := r1.length
  have l2 := r2.length
  rw [List.length_map] at l1 l2
  refine SeqAt.RcNeAt.lists (e := fun j => decide (as[j]? = bs[j]?)) p1.isList p2.isList (by rw [List.size_toArray, List.size_toArray]; omega) (by omega) (fun j h1 h2 => ?_) X.prog X.w X.xe _ ?_
  · have := eqAt_nats (A := X.A.in1) (s := s) r1 r2 j (by simpa using h1) (by simpa using h2)
    simpa using this
  · rw [List.size_toArray, ← l1, all_eq hl]
    exact ⟨.bl _, H, I, rfl, q⟩
end
theorem comp2_zip {K : PySem.W.Frag} {a b : Addr} {xs ys : List V} {cs : St} {tc : TT} {te : TE} {H1 : Hp} {Z : List V → Hp → Prop} (Pv : Nat → List V → Hp → Prop) (h0 : Pv 0 [] H1) (hl : ∀ i acc H, Pv i acc H → SqL K H a xs ∧ SqL K H b ys) (ln : xs.length = ys.length)
    (hs : ∀ i x y acc H t, xs[i]? = some x → ys[i]? = some y → Pv i acc H → H t = none → tc (some x :: some y :: cs) (upd H t (.tup [x, y])) fun b H2 => if b = true then te (some x :: some y :: cs) H2 fun v H3 => acc.length < sizeLine ∧ Pv (i + 1) (acc ++ [v]) H3 else Pv (i + 1) acc H2)
    (hd : ∀ acc H, Pv xs.length acc H → Z acc H) : tCompW2 K (Itz K a b) cs tc te H1 Z := by
  refine ⟨fun i m acc H => m + i = xs.length ∧ Pv i acc H, ⟨xs.length, rfl, h0⟩, ?_⟩
  rintro i m acc H ⟨hm, p⟩
  obtain ⟨qa, qb⟩ := hl i acc H p
  by_cases hlt : i < xs.length
  · refine .inr ⟨⟨xs, ys, xs[i], ys[i], qa, qb, by simp [hlt], by simp [show i < ys.length by omega]⟩, Pv (i + 1), fun ac H' p' => ⟨m - 1, by omega, by omega, p'⟩, fun v H' y => ?_⟩
    obtain ⟨t, x, y', rfl, ht, hx, hy, rfl⟩ := y
    exact ⟨t, x, y', rfl, SqT.of upd_same, hs i x y' acc H t (hx xs qa) (hy ys qb) p ht⟩
  · obtain rfl : i = xs.length := by omega
    exact .inl ⟨⟨xs, ys, qa, qb, .inl (Nat.le_refl _)⟩, hd acc H p⟩
theorem comp2_enumL {K : PySem.W.Frag} {a : Addr} {xs : List V} {cs : St} {tc : TT} {te : TE} {H1 : Hp} {Z : List V → Hp → Prop} (Pv : Nat → List V → Hp → Prop) (h0 : Pv 0 [] H1) (hl : ∀ i acc H, Pv i acc H → SqL K H a xs)
    (hs : ∀ i x acc H t, xs[i]? = some x → Pv i acc H → H t = none → tc (some (.int (i : Int)) :: some x :: cs) (upd H t (.tup [.int (i : Int), x])) fun b H2 => if b = true then te (some (.int (i : Int)) :: some x :: cs) H2 fun v H3 => acc.length < sizeLine ∧ Pv (i + 1) (acc ++ [v]) H3 else Pv (i + 1) acc H2)
    (hd : ∀ acc H, Pv xs.length acc H → Z acc H) : tCompW2 K (Itel K a) cs tc te H1 Z := by
  refine ⟨fun i m acc H => m + i = xs.length ∧ Pv i acc H, ⟨xs.length, rfl, h0⟩, ?_⟩
  rintro i m acc H ⟨hm, p⟩
  have qa := hl i acc H p
  by_cases hlt : i < xs.length
  · refine .inr ⟨⟨xs, xs[i], qa, by simp [hlt]⟩, Pv (i + 1), fun ac H' p' => ⟨m - 1, by omega, by omega, p'⟩, fun v H' y => ?_⟩
    obtain ⟨t, x, rfl, ht, hx, rfl⟩ := y
    exact ⟨t, _, x, rfl, SqT.of upd_same, hs i x acc H t (hx xs qa) p ht⟩
  · obtain rfl : i = xs.length := by omega
    exact .inl ⟨⟨xs, qa, Nat.le_refl _⟩, hd acc H p⟩
end L2

namespace Sw
open PySem
/-! the table of a set of ints: where nothing was dropped its places rise, and a walk by places meets each element once -/
def Rise (xs : Array Nat) : Prop := ∀ (i k v u : Nat), i < k → xs[i]? = some v → xs[k]? = some u → v < u
theorem go_spec {xs : Array Nat} {j : Nat} (hr : Rise xs) : ∀ (fuel lo hi : Nat), hi - lo ≤ fuel → lo ≤ hi → hi ≤ xs.size → (∀ i v, i < lo → xs[i]? = some v → v < j) → (∀ i v, hi ≤ i → xs[i]? = some v → j ≤ v) →
    lo ≤ SetTable.below.go xs j fuel lo hi ∧ SetTable.below.go xs j fuel lo hi ≤ hi ∧ (∀ i v, i < SetTable.below.go xs j fuel lo hi → xs[i]? = some v → v < j) ∧ ∀ i v, SetTable.below.go xs j fuel lo hi ≤ i → xs[i]? = some v → j ≤ v
  | 0, lo, hi, hf, hl, hs, h1, h2 => by
    have e : lo = hi := by omega
    subst e
    exact ⟨Nat.le_refl _, Nat.le_refl _, h1, h2⟩
  | fuel + 1, lo, hi, hf, hl, hs, h1, h2 => by
    unfold SetTable.below.go
    by_cases hlt : lo < hi
    · rw [if_pos hlt]
      have hm : (lo + hi) / 2 < xs.size := by omega
      have em : xs[(lo + hi) / 2]? = some xs[(lo + hi) / 2] := Array.getElem?_eq_getElem hm
      have eg : xs.getD ((lo + hi) / 2) j = xs[(lo + hi) / 2] := by simp [Array.getD, hm]
      show lo ≤ (if xs.getD ((lo + hi) / 2) j < j then SetTable.below.go xs j fuel ((lo + hi) / 2 + 1) hi else SetTable.below.go xs j fuel lo ((lo + hi) / 2)) ∧ (if xs.getD ((lo + hi) / 2) j < j then SetTable.below.go xs j fuel ((lo + hi) / 2 + 1) hi else SetTable.below.go xs j fuel lo ((lo + hi) / 2)) ≤ hi ∧
        (∀ i v, i < (if xs.getD ((lo + hi) / 2) j < j then SetTable.below.go xs j fuel ((lo + hi) / 2 + 1) hi else SetTable.below.go xs j fuel lo ((lo + hi) / 2)) → xs[i]? = some v → v < j) ∧
        ∀ i v, (if xs.getD ((lo + hi) / 2) j < j then SetTable.below.go xs j fuel ((lo + hi) / 2 + 1) hi else SetTable.below.go xs j fuel lo ((lo + hi) / 2)) ≤ i → xs[i]? = some v → j ≤ v
      rw [eg]
      by_cases hc : xs[(lo + hi) / 2] < j
      · rw [if_pos hc]
        obtain ⟨q1, q2, q3, q4⟩ := go_spec hr fuel ((lo + hi) / 2 + 1) hi (by omega) (by omega) hs (fun i v hi' e => by
          by_cases ei : i = (lo + hi) / 2
          · subst ei
            rw [em] at e
            cases e
            exact hc
          · exact Nat.lt_trans (hr i ((lo + hi) / 2) v _ (by omega) e em) hc) h2
        exact ⟨by omega, q2, q3, q4⟩
      · rw [if_neg hc]
        obtain ⟨q1, q2, q3, q4⟩ := go_spec hr fuel lo ((lo + hi) / 2) (by omega) (by omega) (by omega) h1 (fun i v hi' e => by
          by_cases ei : i = (lo + hi) / 2
          · subst ei
            rw [em] at e
            cases e
            omega
          · have := hr ((lo + hi) / 2) i _ v (by omega) em e
            omega)
        exact ⟨q1, by omega, q3, q4⟩
    · rw [if_neg hlt]
      have e : lo = hi := by omega
      subst e
      exact ⟨Nat.le_refl _, Nat.le_refl _, h1, h2⟩
theorem below_spec {xs : Array Nat} (hr : Rise xs) (j : Nat) : SetTable.below xs j ≤ xs.size ∧ (∀ i v, i < SetTable.below xs j → xs[i]? = some v → v < j) ∧ ∀ i v, SetTable.below xs j ≤ i → xs[i]? = some v → j ≤ v := by
  obtain ⟨_, q2, q3, q4⟩ := go_spec (j := j) hr xs.size 0 xs.size (by omega) (Nat.zero_le _) (Nat.le_refl _) (fun i v h => by omega) (fun i v h e => by
    have := (Array.getElem?_eq_some_iff.mp e).1
    omega)
  exact ⟨q2, q3, q4⟩
theorem insertAt_get {α : Type} (xs : Array α) (p : Nat) (x : α) (hp : p ≤ xs.size) (i : Nat) : (SetTable.insertAt xs p x)[i]? = if i < p then xs[i]? else if i = p then some x else xs[i - 1]? := by
  have e : (SetTable.insertAt xs p x).toList = xs.toList.take p ++ (x :: xs.toList.drop p) := by
    unfold SetTable.insertAt
    simp [Array.toList_extract]
    rw [List.take_of_length_le (by simp)]
  rw [← Array.getElem?_toList, e]
  have hl : (xs.toList.take p).length = p := by simp; omega
  by_cases h1 : i < p
  · rw [if_pos h1, List.getElem?_append_left (by omega), List.getElem?_take_of_lt h1, Array.getElem?_toList]
  · rw [if_neg h1, List.getElem?_append_right (by omega), hl]
    by_cases h2 : i = p
    · subst h2
      simp
    · rw [if_neg h2]
      obtain ⟨d, hd⟩ : ∃ d, i - p = d + 1 := ⟨i - p - 1, by omega⟩
      rw [hd, List.getElem?_cons_succ, List.getElem?_drop, Array.getElem?_toList]
      congr 1
      omega
theorem insert_rise {xs : Array Nat} (hr : Rise xs) {j : Nat} (hn : xs[SetTable.below xs j]? ≠ some j) : Rise (SetTable.insertAt xs (SetTable.below xs j) j) := by
  obtain ⟨q1, q2, q3⟩ := below_spec hr j
  intro i k v u hik hv hu
  rw [insertAt_get _ _ _ q1] at hv hu
  have up : ∀ m z, SetTable.below xs j ≤ m → xs[m]? = some z → j < z := fun m z hm e => by
    have h1 := q3 m z hm e
    by_cases ez : z = j
    · subst ez
      by_cases em : m = SetTable.below xs z
      · rw [em] at e
        exact absurd e hn
      · have hlt : SetTable.below xs z < xs.size := by
          have := (Array.getElem?_eq_some_iff.mp e).1
          omega
        have e0 : xs[SetTable.below xs z]? = some xs[SetTable.below xs z] := Array.getElem?_eq_getElem hlt
        have := hr (SetTable.below xs z) m _ _ (by omega) e0 e
        have := q3 _ _ (Nat.le_refl _) e0
        omega
    · omega
  by_cases h1 : i < SetTable.below xs j
  · rw [if_pos h1] at hv
    by_cases h2 : k < SetTable.below xs j
    · rw [if_pos h2] at hu
      exact hr i k v u hik hv hu
    · rw [if_neg h2] at hu
      by_cases h3 : k = SetTable.below xs j
      · rw [if_pos h3] at hu
        cases hu
        exact q2 i v h1 hv
      · rw [if_neg h3] at hu
        exact Nat.lt_trans (q2 i v h1 hv) (up (k - 1) u (by omega) hu)
  · rw [if_neg h1] at hv
    by_cases h2 : i = SetTable.below xs j
    · rw [if_pos h2] at hv
      cases hv
      rw [if_neg (by omega), if_neg (by omega)] at hu
      exact up (k - 1) u (by omega) hu
    · rw [if_neg h2] at hv
      rw [if_neg (by omega), if_neg (by omega)] at hu
      exact hr (i - 1) (k - 1) v u (by omega) hv hu
/-- nothing dropped; where the order is the table's own, its places rise -/
structure TabOk (l : Bool) (t : SetTable) : Prop where
  no : t.dummies = #[]
  led : t.led = l
  up : t.plain = true → Rise t.place
theorem fst_filter (g : Nat → Option Nat) : ∀ l : List Nat, (l.filterMap fun j => (g j).map (j, ·)).map (·.1) = l.filter fun j => (g j).isSome
  | [] => rfl
  | j :: l => by
    rw [List.filterMap_cons, List.filter_cons]
    cases e : g j with
    | none => simpa using fst_filter g l
    | some k => simpa using fst_filter g l
theorem rise_of {l : List Nat} (h : l.Pairwise (· < ·)) : Rise l.toArray := by
  intro i k v u hik hv hu
  have hv' : l[i]? = some v := by simpa using hv
  have hu' : l[k]? = some u := by simpa using hu
  obtain ⟨h1, e1⟩ := List.getElem?_eq_some_iff.mp hv'
  obtain ⟨h2, e2⟩ := List.getElem?_eq_some_iff.mp hu'
  have := List.pairwise_iff_getElem.mp h i k h1 h2 hik
  rw [e1, e2] at this
  exact this
end Sw

namespace Sw
open PySem PyProof.Rows
section
variable {prog : Program} {w : World} {A : Around} {E : Value → Shared → Prop} {s : Shared}
/-- a set of ints with its table: S its members, n how many, l whether its maker is led -/
def SetR (prog : Program) (w : World) (h : Heap) (a : Addr) (S : Int → Bool) (n : Nat) (l : Bool) : Prop :=
  ∃ o es ep t, h.get? a = some o ∧ o.ExactSet ∧ o.data = .set es ep t ∧ ElemsOf (intKind prog w) es.toList ∧ (∀ k, S k = true ↔ ∃ e ∈ es.toList, (intKind prog w).is k e.2 = true) ∧ es.size < scanBound ∧ t.fits es.size = true ∧ es.size = n ∧ TabOk l t
theorem store_get {h : Heap} {a : Addr} {o : Obj} {es : Array (Int × Value)} {ep : Nat} {t : SetTable} (ho : h.get? a = some o) (hd : o.data = .set es ep t) (es' : Array (Int × Value)) (t' : SetTable) :
    (h.update a (Obj.putSet es' t')).get? a = some { o with data := .set es' (ep + 1) t' } := by
  have q := Heap.get?_update_self (Obj.putSet es' t') ho (by rw [putSet_of es' t' hd]; rfl)
  rw [putSet_of es' t' hd] at q
  exact q
end
end Sw

namespace Sw
open PySem PyProof.Rows
set_option maxRecDepth 100000
abbrev ledOf (w : World) : Bool := !(w.params.followText "set-order")
section
variable {prog : Program} {w : World} {A : Around} {R : Result → Shared → Prop} {I : Addr} {fp wr : List Addr} {G : Array GenState → Array GenState → Prop} {n : Nat} {P : Nat → Value → Prop} {St : Nat → Shared → Prop}
end
section
variable {prog : Program} {w : World} {A : Around} {E : Value → Shared → Prop} {s : Shared}
theorem codeNew (a : Value) {Q₁ : Value → Shared → Prop} (fin : Q₁ (.ref s.heap.objs.size) { s with heap := s.heap.push { cls := .type "set", dict := none, data := .set #[] 0 (.fresh 0 0 (ledOf w)) } }) :
    codeAny (model prog w) A (.call (.builtin "set.__new__") ⟨[.type "set", a], []⟩) (wants Q₁ E) s := by
  refine codeAny_of_tree ?_
  show wpAny _ A.in1 (do checkBuiltinCall "set.__new__" ⟨[.type "set", a], []⟩; again (.builtin "set.__new__" ⟨[.type "set", a], []⟩)) _ _ s
  refine wpAny_bind (wpAny_of_eq (PySem.F.newCall_set_1 a) (wpAny_pure ⟨plainId_quiet PySem.F.plain_set_new _, codeAny_builtin PySem.F.entry_set_new ?_⟩)); rw [Around.under_plainId PySem.F.plain_set_new _]
  unfold Builtin.«set.__new__» Builtin.Frozenset.newClass
  have h1 := sub_set_self
  obtain ⟨hp, g, d, tk, os⟩ := s
  dsimp only; wp_walk; refine wpAny_askSetting (wpAny_pure ?_); dsimp only; simp only [newObj]
  refine wpAny_bind (wpAny_alloc (wpAny_pure ?_))
  exact wpAny_pure fin
end
end Sw

namespace Sw
open PySem
end Sw

namespace Sw
open PySem PyProof.Rows
end Sw

namespace L2
open PySem PySem.Spec PyProof.Rows
section
variable {X : Cx}
/-- len(set(a)), a a list of ints of which none stands twice: the set between is nobody's -/
def tLS (K : PySem.W.Frag) (t : TA) : TE := fun σ H Q => t σ H fun vs H1 => ∃ (p : Addr) (ns : List Int), vs = [.ref p] ∧ SqL K H1 p (ns.map V.int) ∧ ns.length ≤ 4000 ∧ ns.Nodup ∧ Q (.int (ns.length : Int)) H1
end
end L2

namespace Ht
open PySem PySem.SetTable Sw
/-! the table of a set, probed place by place: every place is met, and what was put is met ahead of any free one -/
def nx (m : Nat) (p : Probe) : Probe := if p.more > 0 then { p with j := p.j + 1, more := p.more - 1 } else
  { p with j := (leap m p.i p.perturb).1, more := runEnd m (leap m p.i p.perturb).1 - (leap m p.i p.perturb).1, i := (leap m p.i p.perturb).1, perturb := (leap m p.i p.perturb).2 }
def st (m : Nat) (h : Int) : Probe := { j := bits h % (m + 1), more := runEnd m (bits h % (m + 1)) - bits h % (m + 1), i := bits h % (m + 1), perturb := bits h, dummy := none }
def pt (m : Nat) (h : Int) : Nat → Probe
  | 0 => st m h
  | k + 1 => nx m (pt m h k)
theorem adv_eq (t : SetTable) (p : Probe) : t.advance p = nx t.mask p := rfl
theorem pt_dummy (m : Nat) (h : Int) : ∀ k, (pt m h k).dummy = none
  | 0 => rfl
  | k + 1 => by
    show (nx m (pt m h k)).dummy = none
    unfold nx
    split <;> exact pt_dummy m h k
theorem run_le {m i : Nat} (h : i ≤ m) : runEnd m i ≤ m ∧ i ≤ runEnd m i ∧ runEnd m i ≤ i + 9 := by
  unfold runEnd
  split <;> omega
theorem pt_in (m : Nat) (h : Int) : ∀ k, (pt m h k).i ≤ m ∧ (pt m h k).j + (pt m h k).more = runEnd m (pt m h k).i
  | 0 => by
    have l : bits h % (m + 1) ≤ m := Nat.le_of_lt_succ (Nat.mod_lt _ (Nat.succ_pos m))
    refine ⟨l, ?_⟩
    show bits h % (m + 1) + (runEnd m (bits h % (m + 1)) - bits h % (m + 1)) = _
    have := run_le l
    show _ = runEnd m (bits h % (m + 1))
    omega
  | k + 1 => by
    obtain ⟨h1, h2⟩ := pt_in m h k
    show (nx m (pt m h k)).i ≤ m ∧ (nx m (pt m h k)).j + (nx m (pt m h k)).more = runEnd m (nx m (pt m h k)).i
    unfold nx
    split
    · refine ⟨h1, ?_⟩
      dsimp only
      omega
    · have l : (leap m (pt m h k).i (pt m h k).perturb).1 ≤ m := Nat.le_of_lt_succ (Nat.mod_lt _ (Nat.succ_pos m))
      refine ⟨l, ?_⟩
      dsimp only
      have := run_le l
      omega
theorem pt_le (m : Nat) (h : Int) (k : Nat) : (pt m h k).j ≤ m := by
  obtain ⟨h1, h2⟩ := pt_in m h k
  have := run_le h1
  omega
/-- where a run of places begins -/
def Blk (m i q : Nat) (p : Probe) : Prop := p.i = i ∧ p.perturb = q ∧ p.j = i ∧ p.more = runEnd m i - i
def lp (m : Nat) (h : Int) : Nat → Nat × Nat
  | 0 => (bits h % (m + 1), bits h)
  | n + 1 => leap m (lp m h n).1 (lp m h n).2
theorem lp_le (m : Nat) (h : Int) : ∀ n, (lp m h n).1 ≤ m
  | 0 => Nat.le_of_lt_succ (Nat.mod_lt _ (Nat.succ_pos m))
  | n + 1 => Nat.le_of_lt_succ (Nat.mod_lt _ (Nat.succ_pos m))
theorem lp_pert (m : Nat) (h : Int) : ∀ n, (lp m h n).2 = bits h / 32 ^ n
  | 0 => by
    show bits h = _
    rw [Nat.pow_zero, Nat.div_one]
  | n + 1 => by
    show (lp m h n).2 / 32 = _
    rw [lp_pert m h n, Nat.div_div_eq_div_mul, Nat.pow_succ]
theorem bits_lt (h : Int) : bits h < 2 ^ 64 := by
  unfold bits
  have h1 := Int.emod_nonneg h (show (2 ^ 64 : Int) ≠ 0 by decide)
  have h2 := Int.emod_lt_of_pos h (show (0 : Int) < 2 ^ 64 by decide)
  have e : ((2 ^ 64 : Nat) : Int) = 2 ^ 64 := by decide
  omega
theorem lp_zero (m : Nat) (h : Int) (n : Nat) : (lp m h (13 + n)).2 = 0 := by
  rw [lp_pert]
  apply Nat.div_eq_of_lt
  have h1 := bits_lt h
  have h2 : 32 ^ 13 ≤ 32 ^ (13 + n) := Nat.pow_le_pow_right (by decide) (Nat.le_add_right _ _)
  have h3 : (2 : Nat) ^ 64 ≤ 32 ^ 13 := by decide
  omega
def orb (m : Nat) : Nat → Nat → Nat
  | 0, i => i
  | d + 1, i => (orb m d i * 5 + 1) % (m + 1)
theorem orb_add (m a i : Nat) : ∀ b, orb m (a + b) i = orb m b (orb m a i)
  | 0 => rfl
  | b + 1 => by
    show (orb m (a + b) i * 5 + 1) % (m + 1) = (orb m b (orb m a i) * 5 + 1) % (m + 1)
    rw [orb_add m a i b]
theorem lp_orb (m : Nat) (h : Int) : ∀ d, (lp m h (13 + d)).1 = orb m d (lp m h 13).1
  | 0 => rfl
  | d + 1 => by
    show ((lp m h (13 + d)).1 * 5 + 1 + (lp m h (13 + d)).2 / 32) % (m + 1) = (orb m d (lp m h 13).1 * 5 + 1) % (m + 1)
    rw [lp_zero, lp_orb m h d]
def ol (m : Nat) : Nat → Nat → List Nat
  | 0, _ => []
  | n + 1, i => i :: ol m n ((i * 5 + 1) % (m + 1))
theorem ol_mem (m s : Nat) : ∀ n i, s ∈ ol m n i → ∃ d, d < n ∧ orb m d i = s
  | 0, i, h => by cases h
  | n + 1, i, h => by
    rcases List.mem_cons.mp h with h | h
    · exact ⟨0, Nat.succ_pos _, h.symm⟩
    · obtain ⟨d, l, e⟩ := ol_mem m s n _ h
      refine ⟨d + 1, by omega, ?_⟩
      rw [Nat.add_comm d 1, orb_add]
      exact e
/-- the sizes that are met: 8, 32, 128 places -/
def Mk (m : Nat) : Prop := m = 7 ∨ m = 31 ∨ m = 127
theorem orb_all {m : Nat} (hm : Mk m) (s : Nat) (hs : s ≤ m) : ∃ d, d ≤ m ∧ orb m d 0 = s := by
  have go : ∀ n, (List.range (n + 1)).all (fun s => (ol n (n + 1) 0).contains s) = true → ∀ s, s ≤ n → ∃ d, d ≤ n ∧ orb n d 0 = s := fun n h s hs => by
    have h1 := List.all_eq_true.mp h s (List.mem_range.mpr (by omega))
    obtain ⟨d, l, e⟩ := ol_mem n s (n + 1) 0 (List.contains_iff_mem.mp h1)
    exact ⟨d, by omega, e⟩
  rcases hm with rfl | rfl | rfl
  · exact go 7 (by decide +kernel) s hs
  · exact go 31 (by decide +kernel) s hs
  · exact go 127 (by decide +kernel) s hs
theorem orb_back {m : Nat} (hm : Mk m) : orb m (m + 1) 0 = 0 := by
  rcases hm with rfl | rfl | rfl
  · decide +kernel
  · decide +kernel
  · decide +kernel
theorem orb_any {m : Nat} (hm : Mk m) (i s : Nat) (hi : i ≤ m) (hs : s ≤ m) : ∃ d, d ≤ m ∧ orb m d i = s := by
  obtain ⟨a, la, ea⟩ := orb_all hm i hi
  obtain ⟨c, lc, ec⟩ := orb_all hm s hs
  by_cases h : a ≤ c
  · refine ⟨c - a, by omega, ?_⟩
    rw [← ea, ← orb_add, show a + (c - a) = c by omega, ec]
  · refine ⟨c + (m + 1) - a, by omega, ?_⟩
    rw [← ea, ← orb_add, show a + (c + (m + 1) - a) = (m + 1) + c by omega, orb_add, orb_back hm, ec]
/-- where the runs begin -/
def kb (m : Nat) (h : Int) : Nat → Nat
  | 0 => 0
  | n + 1 => kb m h n + (runEnd m (lp m h n).1 - (lp m h n).1) + 1
theorem in_run (m : Nat) (h : Int) {k i q : Nat} (b : Blk m i q (pt m h k)) : ∀ d, d ≤ runEnd m i - i → (pt m h (k + d)).j = i + d ∧ (pt m h (k + d)).more = runEnd m i - i - d ∧ (pt m h (k + d)).i = i ∧ (pt m h (k + d)).perturb = q
  | 0, _ => ⟨b.2.2.1, b.2.2.2, b.1, b.2.1⟩
  | d + 1, l => by
    obtain ⟨h1, h2, h3, h4⟩ := in_run m h b d (by omega)
    have e : pt m h (k + (d + 1)) = { pt m h (k + d) with j := (pt m h (k + d)).j + 1, more := (pt m h (k + d)).more - 1 } := by
      show nx m (pt m h (k + d)) = _
      unfold nx
      rw [if_pos (by omega)]
    rw [e]
    refine ⟨?_, ?_, h3, h4⟩
    · show (pt m h (k + d)).j + 1 = _
      omega
    · show (pt m h (k + d)).more - 1 = _
      omega
theorem blk_kb (m : Nat) (h : Int) : ∀ n, Blk m (lp m h n).1 (lp m h n).2 (pt m h (kb m h n))
  | 0 => ⟨rfl, rfl, rfl, rfl⟩
  | n + 1 => by
    obtain ⟨h1, h2, h3, h4⟩ := in_run m h (blk_kb m h n) _ (Nat.le_refl _)
    show Blk m _ _ (nx m (pt m h (kb m h n + (runEnd m (lp m h n).1 - (lp m h n).1))))
    unfold nx
    rw [if_neg (by omega), h3, h4]
    exact ⟨rfl, rfl, rfl, rfl⟩
theorem kb_lt (m : Nat) (h : Int) {a b : Nat} (l : a < b) : kb m h a < kb m h b := by
  induction b with
  | zero => omega
  | succ b ih =>
    have e : kb m h (b + 1) = kb m h b + (runEnd m (lp m h b).1 - (lp m h b).1) + 1 := rfl
    by_cases c : a = b
    · rw [e, c]
      omega
    · have := ih (by omega)
      omega
theorem kb_le (m : Nat) (h : Int) : ∀ n, kb m h n ≤ 10 * n
  | 0 => Nat.le_refl _
  | n + 1 => by
    have := kb_le m h n
    have := run_le (lp_le m h n)
    show kb m h n + (runEnd m (lp m h n).1 - (lp m h n).1) + 1 ≤ _
    omega
/-- every place is where a run begins, soon -/
theorem begins {m : Nat} (hm : Mk m) (h : Int) (s : Nat) (hs : s ≤ m) : ∃ n, n ≤ m + 13 ∧ (pt m h (kb m h n)).j = s := by
  obtain ⟨d, ld, ed⟩ := orb_any hm (lp m h 13).1 s (lp_le m h 13) hs
  refine ⟨13 + d, by omega, ?_⟩
  rw [(blk_kb m h (13 + d)).2.2.1, lp_orb, ed]
theorem least (P : Nat → Prop) : ∀ k, P k → ∃ j, j ≤ k ∧ P j ∧ ∀ i, i < j → ¬ P i
  | 0, h => ⟨0, Nat.le_refl _, h, fun i l => by omega⟩
  | k + 1, h => by
    by_cases c : ∃ i, i ≤ k ∧ P i
    · obtain ⟨i, l, hi⟩ := c
      obtain ⟨j, lj, hj⟩ := least P i hi
      exact ⟨j, by omega, hj⟩
    · exact ⟨k + 1, Nat.le_refl _, h, fun i l hi => c ⟨i, by omega, hi⟩⟩
  decreasing_by omega
theorem nodup_len : ∀ (l m : List Nat), l.Nodup → (∀ x ∈ l, x ∈ m) → l.length ≤ m.length
  | [], m, _, _ => Nat.zero_le _
  | x :: l, m, hd, h => by
    obtain ⟨h1, h2⟩ := List.nodup_cons.mp hd
    have e := nodup_len l (m.erase x) h2 fun y hy => (List.mem_erase_of_ne (fun z => by subst z; exact h1 hy)).mpr (h y (List.mem_cons_of_mem _ hy))
    rw [List.length_erase_of_mem (h x List.mem_cons_self)] at e
    have : 0 < m.length := List.length_pos_of_mem (h x List.mem_cons_self)
    rw [List.length_cons]
    omega
def On (pl : Array Nat) (j : Nat) : Prop := ∃ i : Nat, pl[i]? = some j
structure HOk (m : Nat) (pl : Array Nat) (es : Array (Int × Value)) : Prop where
  ms : Mk m
  size : pl.size = es.size
  rise : Rise pl
  le : ∀ (i j : Nat), pl[i]? = some j → j ≤ m
  way : ∀ (i j : Nat) (e : Int × Value), pl[i]? = some j → es[i]? = some e → ∃ k, (pt m e.1 k).j = j ∧ ∀ k', k' < k → On pl (pt m e.1 k').j
theorem rise_inj {pl : Array Nat} (r : Rise pl) {i i' j : Nat} (h : pl[i]? = some j) (h' : pl[i']? = some j) : i = i' := by
  rcases Nat.lt_trichotomy i i' with l | l | l
  · have := r i i' j j l h h'
    omega
  · exact l
  · have := r i' i j j l h' h
    omega
theorem below_at {pl : Array Nat} (r : Rise pl) {i j : Nat} (h : pl[i]? = some j) : SetTable.below pl j = i := by
  obtain ⟨q1, q2, q3⟩ := below_spec r j
  have hi := (Array.getElem?_eq_some_iff.mp h).1
  by_cases c : i < SetTable.below pl j
  · have := q2 i j c h
    omega
  · by_cases c' : SetTable.below pl j = i
    · exact c'
    · have hb : SetTable.below pl j < pl.size := by omega
      have e := Array.getElem?_eq_getElem hb
      have a1 := q3 _ _ (Nat.le_refl _) e
      have a2 := r _ i _ _ (by omega) e h
      omega
theorem slot_live {t : SetTable} (r : Rise t.place) {i j : Nat} (h : t.place[i]? = some j) : t.slot j = .live i := by
  unfold SetTable.slot
  dsimp only
  rw [below_at r h, h]
  simp
theorem slot_off {t : SetTable} (no : t.dummies = #[]) {j : Nat} (h : ¬ On t.place j) : t.slot j = .empty := by
  unfold SetTable.slot
  dsimp only
  have c : (t.place[SetTable.below t.place j]? == some j) = false := by
    rw [beq_eq_false_iff_ne]
    exact fun z => h ⟨_, z⟩
  rw [c, no]
  have : SetTable.has #[] j = false := by
    unfold SetTable.has
    simp
  rw [this]
  rfl
theorem room {m : Nat} {pl : Array Nat} (r : Rise pl) (l : pl.size ≤ m) : ∃ s, s ≤ m ∧ ¬ On pl s := by
  by_cases c : ∃ s, s ≤ m ∧ ¬ On pl s
  · exact c
  · have h : ∀ x ∈ List.range (m + 1), x ∈ pl.toList := fun x hx => by
      by_cases o : On pl x
      · obtain ⟨i, hi⟩ := o
        exact List.mem_of_getElem? (i := i) (by rw [Array.getElem?_toList]; exact hi)
      · exact absurd ⟨x, by have := List.mem_range.mp hx; omega, o⟩ c
    have := nodup_len _ _ List.nodup_range h
    rw [List.length_range, Array.length_toList] at this
    omega
/-- the first place that is free -/
theorem first_free {m : Nat} (hm : Mk m) {pl : Array Nat} (r : Rise pl) (l : pl.size ≤ m) (h : Int) : ∃ ke, ke ≤ 10 * (m + 13) ∧ ¬ On pl (pt m h ke).j ∧ ∀ k, k < ke → On pl (pt m h k).j := by
  obtain ⟨s, hs, hn⟩ := room r l
  obtain ⟨n, ln, e⟩ := begins hm h s hs
  have lk := kb_le m h n
  obtain ⟨j, lj, hj, hb⟩ := least (fun k => ¬ On pl (pt m h k).j) (kb m h n) (by rw [e]; exact hn)
  exact ⟨j, by omega, hj, fun k hk => Classical.byContradiction fun z => hb k hk z⟩
theorem go_at {t : SetTable} {m : Nat} (em : t.mask = m) (no : t.dummies = #[]) (r : Rise t.place) (ha : Nat → Int) (h : Int) {ke : Nat} (hf : ¬ On t.place (pt m h ke).j) (hb : ∀ k, k < ke → On t.place (pt m h k).j) : ∀ (d k fuel : Nat), k + d = ke → d < fuel →
    (SetTable.probe.go t ha h fuel (pt m h k) = some (.empty (pt m h ke).j none) ∧ ∀ c, k ≤ c → c < ke → ∀ i, t.place[i]? = some (pt m h c).j → ha i ≠ h) ∨
    ∃ c i, k ≤ c ∧ c < ke ∧ t.place[i]? = some (pt m h c).j ∧ ha i = h ∧ (∀ c', k ≤ c' → c' < c → ∀ i', t.place[i']? = some (pt m h c').j → ha i' ≠ h) ∧ SetTable.probe.go t ha h fuel (pt m h k) = some (.candidate (pt m h c).j i (pt m h (c + 1)))
  | d, k, 0, _, l => by omega
  | 0, k, fuel + 1, e, _ => by
    left
    obtain rfl : k = ke := by omega
    refine ⟨?_, fun c h1 h2 => by omega⟩
    unfold SetTable.probe.go
    rw [slot_off no hf, pt_dummy]
  | d + 1, k, fuel + 1, e, l => by
    obtain ⟨i, hi⟩ := hb k (by omega)
    by_cases c : ha i = h
    · right
      refine ⟨k, i, Nat.le_refl _, by omega, hi, c, fun c' h1 h2 => by omega, ?_⟩
      unfold SetTable.probe.go
      rw [slot_live r hi]
      dsimp only
      rw [if_pos (beq_iff_eq.mpr c), adv_eq, em]
      rfl
    · have step : SetTable.probe.go t ha h (fuel + 1) (pt m h k) = SetTable.probe.go t ha h fuel (pt m h (k + 1)) := by
        rw [SetTable.probe.go, slot_live r hi]
        dsimp only
        rw [if_neg (fun z => c (beq_iff_eq.mp z)), adv_eq, em]
        rfl
      have here : ∀ i', t.place[i']? = some (pt m h k).j → ha i' ≠ h := fun i' h' => by
        rw [rise_inj r h' hi]
        exact c
      rcases go_at em no r ha h hf hb d (k + 1) fuel (by omega) (by omega) with ⟨g1, g2⟩ | ⟨c', i', g1, g2, g3, g4, g5, g6⟩
      · left
        refine ⟨step.trans g1, fun x h1 h2 => ?_⟩
        by_cases z : x = k
        · rw [z]
          exact here
        · exact g2 x (by omega) h2
      · right
        refine ⟨c', i', by omega, g2, g3, g4, fun x h1 h2 => ?_, step.trans g6⟩
        by_cases z : x = k
        · rw [z]
          exact here
        · exact g5 x (by omega) h2
theorem on_put {pl : Array Nat} (r : Rise pl) {f j : Nat} : On (SetTable.insertAt pl (SetTable.below pl f) f) j ↔ j = f ∨ On pl j := by
  obtain ⟨q1, _, _⟩ := below_spec r f
  constructor
  · rintro ⟨i, hi⟩
    rw [insertAt_get _ _ _ q1] at hi
    split at hi
    · exact .inr ⟨_, hi⟩
    · split at hi
      · exact .inl (Option.some.inj hi).symm
      · exact .inr ⟨_, hi⟩
  · rintro (rfl | ⟨i, hi⟩)
    · exact ⟨SetTable.below pl j, by rw [insertAt_get _ _ _ q1, if_neg (Nat.lt_irrefl _), if_pos rfl]⟩
    · by_cases c : i < SetTable.below pl f
      · exact ⟨i, by rw [insertAt_get _ _ _ q1, if_pos c]; exact hi⟩
      · exact ⟨i + 1, by rw [insertAt_get _ _ _ q1, if_neg (by omega), if_neg (by omega)]; exact hi⟩
theorem insert_size {α : Type} (xs : Array α) (p : Nat) (x : α) : (SetTable.insertAt xs p x).size = xs.size + 1 := by
  rw [← Array.length_toList, (SetTable.insertAt_perm xs p x).length_eq, Array.length_toList, Array.size_push]
theorem HOk.put {m : Nat} {pl : Array Nat} {es : Array (Int × Value)} (ok : HOk m pl es) {h : Int} {x : Value} {ke : Nat} (hf : ¬ On pl (pt m h ke).j) (hb : ∀ k, k < ke → On pl (pt m h k).j) :
    HOk m (SetTable.insertAt pl (SetTable.below pl (pt m h ke).j) (pt m h ke).j) (SetTable.insertAt es (SetTable.below pl (pt m h ke).j) (h, x)) := by
  obtain ⟨q1, _, _⟩ := below_spec ok.rise (pt m h ke).j
  have q1' : SetTable.below pl (pt m h ke).j ≤ es.size := by rw [← ok.size]; exact q1
  refine ⟨ok.ms, by rw [insert_size, insert_size, ok.size], insert_rise ok.rise (fun z => hf ⟨_, z⟩), fun i j hi => ?_, fun i j e hi he => ?_⟩
  · rcases (on_put ok.rise).mp ⟨i, hi⟩ with rfl | ⟨i', hi'⟩
    · exact pt_le m h ke
    · exact ok.le i' j hi'
  · rw [insertAt_get _ _ _ q1] at hi
    rw [insertAt_get _ _ _ q1'] at he
    have old : ∀ i0, pl[i0]? = some j → es[i0]? = some e → ∃ k, (pt m e.1 k).j = j ∧ ∀ k', k' < k → On (SetTable.insertAt pl (SetTable.below pl (pt m h ke).j) (pt m h ke).j) (pt m e.1 k').j := fun i0 a b => by
      obtain ⟨k, h1, h2⟩ := ok.way i0 j e a b
      exact ⟨k, h1, fun k' l => (on_put ok.rise).mpr (.inr (h2 k' l))⟩
    split at hi
    · next c =>
      rw [if_pos c] at he
      exact old _ hi he
    · next c =>
      rw [if_neg c] at he
      split at hi
      · next c2 =>
        rw [if_pos c2] at he
        obtain rfl := Option.some.inj hi
        obtain rfl := Option.some.inj he
        exact ⟨ke, rfl, fun k' l => (on_put ok.rise).mpr (.inr (hb k' l))⟩
      · next c2 =>
        rw [if_neg c2] at he
        exact old _ hi he
end Ht

namespace Ht
open PySem PySem.SetTable Sw
/-! the table laid anew: each hash at the first place that is free on its way -/
def Occ (ow : Array (Option Nat)) (j : Nat) : Prop := ∃ k : Nat, ow[j]? = some (some k)
structure Own (m : Nat) (hs : List Int) (n : Nat) (ow : Array (Option Nat)) : Prop where
  size : ow.size = m + 1
  way : ∀ (j k : Nat), ow[j]? = some (some k) → k < n ∧ ∃ h, hs[k]? = some h ∧ ∃ q, (pt m h q).j = j ∧ ∀ q', q' < q → Occ ow (pt m h q').j
  all : ∀ k, k < n → ∃ j : Nat, ow[j]? = some (some k)
  inj : ∀ (j j' k : Nat), ow[j]? = some (some k) → ow[j']? = some (some k) → j = j'
theorem occ_iff {m : Nat} {ow : Array (Option Nat)} (sz : ow.size = m + 1) {j : Nat} (hj : j ≤ m) : (ow.getD j (some 0)).isNone = true ↔ ¬ Occ ow j := by
  have l : j < ow.size := by omega
  have e := Array.getElem?_eq_getElem l
  rw [Array.getD_eq_getD_getElem?, e]
  show ow[j].isNone = true ↔ _
  unfold Occ
  rw [e]
  cases ow[j] with
  | none => exact ⟨fun _ ⟨k, z⟩ => (by cases z), fun _ => rfl⟩
  | some k => exact ⟨fun z => (by cases z), fun z => absurd ⟨k, rfl⟩ z⟩
theorem own_room {m n : Nat} {hs : List Int} {ow : Array (Option Nat)} (O : Own m hs n ow) (l : n ≤ m) : ∃ s, s ≤ m ∧ ¬ Occ ow s := by
  by_cases c : ∃ s, s ≤ m ∧ ¬ Occ ow s
  · exact c
  · exfalso
    have h : ∀ s, s ≤ m → Occ ow s := fun s hs => Classical.byContradiction fun z => c ⟨s, hs, z⟩
    let f : Nat → Nat := fun s => ((ow[s]?).join).getD 0
    have hf : ∀ s, s ≤ m → ow[s]? = some (some (f s)) := fun s hs => by
      obtain ⟨k, hk⟩ := h s hs
      show ow[s]? = some (some (((ow[s]?).join).getD 0))
      rw [hk]
      rfl
    have nd : ((List.range (m + 1)).map f).Nodup := by
      rw [List.Nodup, List.pairwise_map]
      refine List.Pairwise.imp_of_mem (R := (· ≠ ·)) (fun {a b} ha hb ne z => ?_) List.nodup_range
      have h1 := hf a (by have := List.mem_range.mp ha; omega)
      have h2 := hf b (by have := List.mem_range.mp hb; omega)
      rw [z] at h1
      exact ne (O.inj a b _ h1 h2)
    have := nodup_len _ (List.range n) nd fun x hx => by
      obtain ⟨s, hs, rfl⟩ := List.mem_map.mp hx
      have h1 := hf s (by have := List.mem_range.mp hs; omega)
      exact List.mem_range.mpr (O.way s _ h1).1
    rw [List.length_map, List.length_range, List.length_range] at this
    omega
theorem free_at {m : Nat} (hm : Mk m) {ow : Array (Option Nat)} (sz : ow.size = m + 1) (hr : ∃ s, s ≤ m ∧ ¬ Occ ow s) (h : Int) : ∀ (fuel n : Nat), (∀ k, k < kb m h n → Occ ow (pt m h k).j) → m + 15 ≤ n + fuel →
    ∃ ke, ¬ Occ ow (pt m h ke).j ∧ (∀ k, k < ke → Occ ow (pt m h k).j) ∧ SetTable.layClean.free m ow fuel (lp m h n).1 (lp m h n).2 = some (pt m h ke).j
  | 0, n, hb, l => by
    exfalso
    obtain ⟨s, hs, hn⟩ := hr
    obtain ⟨n', ln, e⟩ := begins hm h s hs
    have := hb (kb m h n') (kb_lt m h (by omega))
    rw [e] at this
    exact hn this
  | fuel + 1, n, hb, l => by
    have li := lp_le m h n
    have rl := run_le li
    have B := blk_kb m h n
    have at_ : ∀ d, d ≤ runEnd m (lp m h n).1 - (lp m h n).1 → (pt m h (kb m h n + d)).j = (lp m h n).1 + d := fun d hd => (in_run m h B d hd).1
    cases hf : (List.range (runEnd m (lp m h n).1 + 1 - (lp m h n).1)).find? fun k => (ow.getD ((lp m h n).1 + k) (some 0)).isNone with
    | some d =>
      obtain ⟨h1, h2, h3⟩ := List.find?_range_eq_some.mp hf
      have ld := List.mem_range.mp h2
      refine ⟨kb m h n + d, ?_, fun k hk => ?_, ?_⟩
      · rw [at_ d (by omega)]
        exact (occ_iff sz (by omega)).mp h1
      · by_cases c : k < kb m h n
        · exact hb k c
        · have h4 := h3 (k - kb m h n) (by omega)
          have e : (pt m h k).j = (lp m h n).1 + (k - kb m h n) := by
            have := at_ (k - kb m h n) (by omega)
            rw [show kb m h n + (k - kb m h n) = k by omega] at this
            exact this
          rw [e]
          refine Classical.byContradiction fun z => ?_
          rw [(occ_iff sz (by omega)).mpr z] at h4
          cases h4
      · rw [SetTable.layClean.free, hf, at_ d (by omega)]
    | none =>
      have h1 := List.find?_range_eq_none.mp hf
      have hb' : ∀ k, k < kb m h (n + 1) → Occ ow (pt m h k).j := fun k hk => by
        have e : kb m h (n + 1) = kb m h n + (runEnd m (lp m h n).1 - (lp m h n).1) + 1 := rfl
        by_cases c : k < kb m h n
        · exact hb k c
        · have h4 := h1 (k - kb m h n) (by omega)
          have e : (pt m h k).j = (lp m h n).1 + (k - kb m h n) := by
            have := at_ (k - kb m h n) (by omega)
            rw [show kb m h n + (k - kb m h n) = k by omega] at this
            exact this
          rw [e]
          refine Classical.byContradiction fun z => ?_
          rw [(occ_iff sz (by omega)).mpr z] at h4
          cases h4
      obtain ⟨ke, g1, g2, g3⟩ := free_at hm sz hr h fuel (n + 1) hb' (by omega)
      refine ⟨ke, g1, g2, ?_⟩
      rw [SetTable.layClean.free, hf]
      exact g3
theorem Own.put {m n : Nat} {hs : List Int} {ow : Array (Option Nat)} (O : Own m hs n ow) {h : Int} (e : hs[n]? = some h) {ke : Nat} (hf : ¬ Occ ow (pt m h ke).j) (hb : ∀ k, k < ke → Occ ow (pt m h k).j) : Own m hs (n + 1) (ow.setIfInBounds (pt m h ke).j (some n)) := by
  have lj := pt_le m h ke
  have get : ∀ j : Nat, (ow.setIfInBounds (pt m h ke).j (some n))[j]? = if (pt m h ke).j = j then some (some n) else ow[j]? := fun j => by
    rw [Array.getElem?_setIfInBounds, if_pos (show (pt m h ke).j < ow.size by rw [O.size]; omega)]
  have up : ∀ j, Occ ow j → Occ (ow.setIfInBounds (pt m h ke).j (some n)) j := fun j ⟨k, hk⟩ => by
    refine ⟨k, ?_⟩
    rw [get, if_neg]
    · exact hk
    · intro z
      rw [z] at hf
      exact hf ⟨k, hk⟩
  refine ⟨by rw [Array.size_setIfInBounds, O.size], fun j k hk => ?_, fun k hk => ?_, fun j j' k h1 h2 => ?_⟩
  · rw [get] at hk
    split at hk
    · next c =>
      obtain rfl := Option.some.inj (Option.some.inj hk)
      exact ⟨Nat.lt_succ_self _, h, e, ke, c, fun q' l => up _ (hb q' l)⟩
    · obtain ⟨l, h', e', q, e2, b⟩ := O.way j k hk
      exact ⟨by omega, h', e', q, e2, fun q' l => up _ (b q' l)⟩
  · by_cases c : k = n
    · exact ⟨(pt m h ke).j, by rw [get, if_pos rfl, c]⟩
    · obtain ⟨j, hj⟩ := O.all k (by omega)
      refine ⟨j, ?_⟩
      rw [get, if_neg]
      · exact hj
      · intro z
        rw [z] at hf
        exact hf ⟨k, hj⟩
  · rw [get] at h1 h2
    split at h1
    · next c =>
      split at h2
      · next c' => exact c.symm.trans c'
      · obtain rfl := Option.some.inj (Option.some.inj h1)
        have := (O.way j' _ h2).1
        omega
    · split at h2
      · obtain rfl := Option.some.inj (Option.some.inj h2)
        have := (O.way j _ h1).1
        omega
      · exact O.inj j j' k h1 h2
theorem fold_own {m : Nat} (hm : Mk m) (hs : List Int) (l : hs.length ≤ m) : ∀ (rest : List Int) (n : Nat) (ow : Array (Option Nat)), Own m hs n ow → hs.drop n = rest → n ≤ hs.length →
    ∃ ow', Own m hs hs.length ow' ∧ (rest.foldl (init := some (ow, n)) fun acc h => do
      let (owner, k) ← acc
      let j ← SetTable.layClean.free m owner (SetTable.turns m) (bits h % (m + 1)) (bits h)
      pure (owner.setIfInBounds j (some k), k + 1)) = some (ow', hs.length)
  | [], n, ow, O, e, ln => by
    have : hs.length ≤ n := List.drop_eq_nil_iff.mp e
    obtain rfl : n = hs.length := by omega
    exact ⟨ow, O, rfl⟩
  | h :: rest, n, ow, O, e, ln => by
    have hn : n < hs.length := by
      refine Classical.byContradiction fun z => ?_
      rw [List.drop_eq_nil_iff.mpr (by omega)] at e
      cases e
    have e1 : hs[n]? = some h := by
      rw [← List.head?_drop, e]
      rfl
    have e2 : hs.drop (n + 1) = rest := by
      rw [← List.tail_drop, e]
      rfl
    obtain ⟨ke, g1, g2, g3⟩ := free_at hm O.size (own_room O (by omega)) h (SetTable.turns m) 0 (fun k hk => absurd hk (Nat.not_lt_zero _)) (by unfold SetTable.turns; omega)
    obtain ⟨ow', O', e'⟩ := fold_own hm hs l rest (n + 1) _ (O.put e1 g1 g2) e2 hn
    refine ⟨ow', O', ?_⟩
    rw [List.foldl_cons, ← e']
    congr 1
    show (do
      let j ← SetTable.layClean.free m ow (SetTable.turns m) (bits h % (m + 1)) (bits h)
      pure (ow.setIfInBounds j (some n), n + 1) : Option (Array (Option Nat) × Nat)) = _
    rw [show SetTable.layClean.free m ow (SetTable.turns m) (bits h % (m + 1)) (bits h) = some (pt m h ke).j from g3]
    rfl
theorem own_zero (m : Nat) (hs : List Int) : Own m hs 0 (Array.replicate (m + 1) none) := by
  have no : ∀ (j k : Nat), (Array.replicate (m + 1) (none : Option Nat))[j]? ≠ some (some k) := fun j k z => by
    have := (Array.getElem?_eq_some_iff.mp z).2
    simp at this
  exact ⟨by simp, fun j k z => absurd z (no j k), fun k z => absurd z (Nat.not_lt_zero _), fun j j' k z => absurd z (no j k)⟩
theorem clean {m : Nat} (hm : Mk m) (hs : Array Int) (l : hs.size ≤ m) : ∃ ow, SetTable.layClean m hs = some ow ∧ Own m hs.toList hs.size ow := by
  obtain ⟨ow, O, e⟩ := fold_own hm hs.toList (by rw [Array.length_toList]; exact l) hs.toList 0 _ (own_zero m _) rfl (Nat.zero_le _)
  rw [Array.length_toList] at O e
  refine ⟨ow, ?_, O⟩
  unfold SetTable.layClean
  rw [← Array.foldl_toList]
  rw [show (_ : Option (Array (Option Nat) × Nat)) = _ from e]
  rfl
end Ht

namespace Ht
open PySem PySem.SetTable Sw
theorem fm_get {es : Array (Int × Value)} : ∀ (L : List Nat), (∀ k ∈ L, k < es.size) → (L.filterMap (es[·]?)).length = L.length ∧ ∀ i : Nat, (L.filterMap (es[·]?))[i]? = (L[i]?).bind (es[·]?)
  | [], _ => ⟨rfl, fun i => by simp⟩
  | k :: L, h => by
    obtain ⟨h1, h2⟩ := fm_get L fun x hx => h x (List.mem_cons_of_mem _ hx)
    have e := Array.getElem?_eq_getElem (h k List.mem_cons_self)
    rw [List.filterMap_cons_some (by exact e)]
    refine ⟨by rw [List.length_cons, List.length_cons, h1], fun i => ?_⟩
    cases i with
    | zero =>
      rw [List.getElem?_cons_zero, List.getElem?_cons_zero]
      exact e.symm
    | succ i =>
      rw [List.getElem?_cons_succ, List.getElem?_cons_succ]
      exact h2 i
/-- a table that was laid anew holds the same elements, each to be met on its way -/
theorem laid_ok {m : Nat} (hm : Mk m) (es : Array (Int × Value)) (l : es.size ≤ m) (finger moves : Nat) (led plain : Bool) : ∃ (t : SetTable) (order : Array Nat), SetTable.laid m finger moves led plain (es.map (·.1)) = some (t, order) ∧ t.mask = m ∧ t.dummies = #[] ∧ t.led = led ∧
    (order.filterMap (es[·]?)).size = es.size ∧ HOk m t.place (order.filterMap (es[·]?)) ∧ ∀ e, e ∈ (order.filterMap (es[·]?)).toList ↔ e ∈ es.toList := by
  obtain ⟨ow, e, O⟩ := clean hm (es.map (·.1)) (by rw [Array.size_map]; exact l)
  rw [Array.size_map] at O
  generalize hl : ((List.range (m + 1)).filterMap fun j => (ow.getD j none).map (j, ·)) = live
  have mem : ∀ j k : Nat, (j, k) ∈ live ↔ ow[j]? = some (some k) := fun j k => by
    rw [← hl, List.mem_filterMap]
    constructor
    · rintro ⟨j', _, h⟩
      cases hg : ow.getD j' none with
      | none =>
        rw [hg] at h
        cases h
      | some k' =>
        rw [hg] at h
        obtain ⟨rfl, rfl⟩ := Prod.mk.inj (Option.some.inj h)
        rw [Array.getD_eq_getD_getElem?] at hg
        cases h2 : ow[j']? with
        | none =>
          rw [h2] at hg
          cases hg
        | some v =>
          rw [h2] at hg
          rw [show v = some k' from hg]
    · intro h
      have lj := (Array.getElem?_eq_some_iff.mp h).1
      refine ⟨j, List.mem_range.mpr (by rw [O.size] at lj; exact lj), ?_⟩
      rw [Array.getD_eq_getD_getElem?, h]
      rfl
  have lt : ∀ k ∈ live.map (·.2), k < es.size := fun k hk => by
    obtain ⟨⟨j, k'⟩, h1, rfl⟩ := List.mem_map.mp hk
    exact (O.way j k' ((mem j k').mp h1)).1
  have rise0 : (live.map (·.1)).Pairwise (· < ·) := by
    rw [← hl, fst_filter]
    exact List.Pairwise.filter _ List.pairwise_lt_range
  have nd2 : (live.map (·.2)).Nodup := by
    rw [List.Nodup, List.pairwise_map]
    rw [List.pairwise_map] at rise0
    refine List.Pairwise.imp_of_mem (fun {a b} ha hb lt z => ?_) rise0
    obtain ⟨a1, a2⟩ := a
    obtain ⟨b1, b2⟩ := b
    have z : a2 = b2 := z
    subst z
    have lt : a1 < b1 := lt
    have := O.inj a1 b1 a2 ((mem _ _).mp ha) ((mem _ _).mp hb)
    omega
  have len : live.length = es.size := by
    have h1 := nodup_len _ (List.range es.size) nd2 fun k hk => List.mem_range.mpr (lt k hk)
    have h2 := nodup_len (List.range es.size) (live.map (·.2)) List.nodup_range fun k hk => by
      obtain ⟨j, hj⟩ := O.all k (List.mem_range.mp hk)
      exact List.mem_map.mpr ⟨(j, k), (mem j k).mpr hj, rfl⟩
    rw [List.length_map, List.length_range] at h1
    rw [List.length_map, List.length_range] at h2
    omega
  obtain ⟨f1, f2⟩ := fm_get (live.map (·.2)) lt
  rw [List.length_map] at f1
  have eo : ((live.map (·.2)).toArray.filterMap (es[·]?)).toList = (live.map (·.2)).filterMap (es[·]?) := by
    rw [Array.toList_filterMap]
  have on : ∀ j, Occ ow j → On (live.map (·.1)).toArray j := fun j ⟨k, hk⟩ => by
    obtain ⟨i, hi⟩ := List.getElem?_of_mem ((mem j k).mpr hk)
    refine ⟨i, ?_⟩
    rw [List.getElem?_toArray, List.getElem?_map, hi]
    rfl
  refine ⟨_, _, by unfold SetTable.laid; rw [e]; show some _ = some _; rw [hl], rfl, rfl, rfl, ?_, ⟨hm, ?_, rise_of rise0, fun i j hj => ?_, fun i j x hj hx => ?_⟩, fun x => ?_⟩
  · rw [← Array.length_toList, eo, f1, len]
  · rw [← Array.length_toList (xs := Array.filterMap _ _), eo, f1]
    simp
  · obtain ⟨⟨j', k⟩, h1, h2⟩ := List.mem_map.mp (List.mem_of_getElem? (i := i) (by rw [← List.getElem?_toArray]; exact hj))
    have h2 : j' = j := h2
    subst h2
    have := (Array.getElem?_eq_some_iff.mp ((mem j' k).mp h1)).1
    rw [O.size] at this
    omega
  · have hj' : (live.map (·.1))[i]? = some j := by rw [← List.getElem?_toArray]; exact hj
    have hx' : ((live.map (·.2)).filterMap (es[·]?))[i]? = some x := by rw [← eo, Array.getElem?_toList]; exact hx
    rw [f2 i, List.getElem?_map] at hx'
    rw [List.getElem?_map] at hj'
    cases hi : live[i]? with
    | none =>
      rw [hi] at hj'
      cases hj'
    | some p =>
      obtain ⟨j', k⟩ := p
      rw [hi] at hj' hx'
      obtain rfl : j' = j := Option.some.inj hj'
      have hx' : es[k]? = some x := hx'
      obtain ⟨_, h, hh, q, e1, b⟩ := O.way j' k ((mem j' k).mp (List.mem_of_getElem? hi))
      have : h = x.1 := by
        rw [Array.getElem?_toList, Array.getElem?_map, hx'] at hh
        exact (Option.some.inj hh).symm
      subst this
      exact ⟨q, e1, fun k' l => on _ (b k' l)⟩
  · rw [eo]
    constructor
    · intro hx
      obtain ⟨k, _, h2⟩ := List.mem_filterMap.mp hx
      exact List.mem_of_getElem? (i := k) (by rw [Array.getElem?_toList]; exact h2)
    · intro hx
      obtain ⟨k, hk⟩ := List.getElem?_of_mem hx
      rw [Array.getElem?_toList] at hk
      obtain ⟨j, hj⟩ := O.all k (Array.getElem?_eq_some_iff.mp hk).1
      exact List.mem_filterMap.mpr ⟨k, List.mem_map.mpr ⟨(j, k), (mem j k).mpr hj, rfl⟩, hk⟩
/-- where the tables of few elements grow to -/
theorem grown_mk {n : Nat} (h : n ≤ 60) (m : Nat) (hm : Mk m) (hf : n * 5 ≥ m * 3) (hl : n ≤ m) : Mk (SetTable.sizeAbove (SetTable.grown n) - 1) ∧ n * 5 < (SetTable.sizeAbove (SetTable.grown n) - 1) * 3 := by
  have go : ∀ n, n ≤ 60 → 4 < n → (SetTable.sizeAbove (SetTable.grown n) - 1 = 31 ∧ n ≤ 7) ∨ (SetTable.sizeAbove (SetTable.grown n) - 1 = 63 ∧ 8 ≤ n ∧ n ≤ 15) ∨ (SetTable.sizeAbove (SetTable.grown n) - 1 = 127 ∧ 16 ≤ n ∧ n ≤ 31) ∨ (SetTable.sizeAbove (SetTable.grown n) - 1 = 255 ∧ 32 ≤ n) := by decide +kernel
  rcases hm with rfl | rfl | rfl
  · rcases go n h (by omega) with ⟨e, l⟩ | ⟨e, l⟩ | ⟨e, l⟩ | ⟨e, l⟩ <;> rw [e] <;> first | omega | exact ⟨.inr (.inl rfl), by omega⟩
  · rcases go n h (by omega) with ⟨e, l⟩ | ⟨e, l⟩ | ⟨e, l⟩ | ⟨e, l⟩ <;> rw [e] <;> first | omega | exact ⟨.inr (.inr rfl), by omega⟩
  · omega
end Ht

namespace Ht
open PySem PySem.SetTable Sw PyProof.Rows
/-! a tuple of numbers is put into a set: the search through the table -/
section
variable {prog : Program} {w : World} {A : Around} {E : Value → Shared → Prop} {s : Shared}
abbrev IFam (prog : Program) (w : World) : VFam prog w Int 0 := VFam.leaf (intKind prog w)
abbrev PV (prog : Program) (w : World) (h : Heap) (k : List Int) (v : Value) : Prop := TupV (IFam prog w) h k v
abbrev pHash (prog : Program) (w : World) (k : List Int) : Int := hshT (IFam prog w) k
theorem its_int {h : Heap} {i : Nat} {ks : List Int} {vs : List Value} (x : Its (IFam prog w) h i ks vs) : ∀ v ∈ vs, ∃ k t, v = .int k t := by
  induction x with
  | nil => exact fun v hv => by cases hv
  | @cons i k u ks vs a _ ih =>
    intro v hv
    rcases List.mem_cons.mp hv with rfl | hv
    · have a : (intKind prog w).is k v = true := a
      unfold intKind at a
      cases v <;> first | exact ⟨_, _, rfl⟩ | cases a
    · exact ih v hv
theorem PV.keep {h h' : Heap} {k : List Int} {v : Value} (x : PV prog w h k v) (g : ∀ a o its n, h.get? a = some o → o.data = .seq its n → h'.get? a = some o) : PV prog w h' k v := by
  obtain ⟨a, o, its, n, e, ho, hc, hd, hi⟩ := x
  exact ⟨a, o, its, n, e, g _ _ _ _ ho hd, hc, hd, hi.stay g⟩
theorem clsT {k : List Int} {v : Value} {Q : Bool → Shared → Prop} (hk : PV prog w s.heap k v) (h : Q false s) : wpAny (model prog w) A (ofAClassStatement 8 v) Q E s := by
  obtain ⟨a, o, its, n, rfl, ho, hc, hd, hi⟩ := hk
  have ty : s.TypeIs (.ref a) "tuple" := ⟨o, ho, hc⟩
  unfold ofAClassStatement
  refine wpAny_bind (wpAny_typeOf ty ?_)
  show wpAny _ _ (pure true >>= _) _ _ s
  refine wpAny_bind (wpAny_pure ?_)
  simp only [Bool.not_true, Bool.false_eq_true, if_false]
  refine wpAny_bind (wpAny_seqItems ho hd (wpAny_bind ?_))
  show wpAny _ _ (forIn its _ _) _ _ s
  rw [← Array.forIn_toList]
  have hin := its_int hi
  refine wpAny_forIn_list _ (fun rest r s' => r.1 = none ∧ s' = s ∧ ∀ v ∈ rest, ∃ k t, v = Value.int k t) _ ?_ ?_ _ _ ⟨rfl, rfl, hin⟩
  · rintro v rest r s' ⟨hr, rfl, hl⟩
    obtain ⟨k, t, rfl⟩ := hl v List.mem_cons_self
    refine wpAny_bind (wpAny_pure ?_)
    simp only [Bool.false_eq_true, if_false]
    exact wpAny_pure ⟨rfl, rfl, fun v hv => hl v (List.mem_cons_of_mem _ hv)⟩
  · rintro ⟨r1, r2⟩ s' ⟨hr, rfl, _⟩
    simp only at hr
    subst hr
    exact wpAny_pure h
theorem valT {k : List Int} {v : Value} {Q : Bool → Shared → Prop} (hk : PV prog w s.heap k v) (h : Q true s) : wpAny (model prog w) A (hashByValue 8 v) Q E s := by
  obtain ⟨a, o, its, n, rfl, ho, hc, hd, hi⟩ := hk
  have ty : s.TypeIs (.ref a) "tuple" := ⟨o, ho, hc⟩
  unfold hashByValue
  refine wpAny_bind (wpAny_specialOf ty PySem.F.slot_tuple_hash.lookup ?_)
  show wpAny _ _ (seqItems? (Value.ref a) >>= _) _ _ s
  refine wpAny_bind (wpAny_seqItems ho hd (wpAny_bind ?_))
  show wpAny _ _ (forIn its _ _) _ _ s
  rw [← Array.forIn_toList]
  have hin := its_int hi
  refine wpAny_forIn_list _ (fun rest r s' => r.1 = none ∧ s' = s ∧ ∀ v ∈ rest, ∃ k t, v = Value.int k t) _ ?_ ?_ _ _ ⟨rfl, rfl, hin⟩
  · rintro v rest r s' ⟨hr, rfl, hl⟩
    obtain ⟨k, t, rfl⟩ := hl v List.mem_cons_self
    refine wpAny_bind (wpAny_pure ?_)
    simp only [Bool.not_true, Bool.false_eq_true, if_false]
    exact wpAny_pure ⟨rfl, rfl, fun v hv => hl v (List.mem_cons_of_mem _ hv)⟩
  · rintro ⟨r1, r2⟩ s' ⟨hr, rfl, _⟩
    simp only at hr
    subst hr
    exact wpAny_pure h
theorem seenT {k : List Int} {x : Value} {ys : List Value} {Q : Bool → Shared → Prop} (hx : PV prog w s.heap k x) (hy : ∀ y ∈ ys, ∃ k', PV prog w s.heap k' y) (h : Q false s) : wpAny (model prog w) A (searchCouldBeSeen x ys) Q E s := by
  unfold searchCouldBeSeen
  refine wpAny_bind ?_
  refine wpAny_forIn_list _ (fun rest r s' => r.1 = none ∧ s' = s ∧ ∀ y ∈ rest, ∃ k', PV prog w s.heap k' y) _ ?_ ?_ _ _ ⟨rfl, rfl, hy⟩
  · rintro y rest r s' ⟨hr, rfl, hl⟩
    obtain ⟨k', hk'⟩ := hl y List.mem_cons_self
    have nxt : ∀ y ∈ rest, ∃ k', PV prog w s'.heap k' y := fun y hy => hl y (List.mem_cons_of_mem _ hy)
    obtain ⟨a, _, _, _, rfl, _⟩ := id hx
    obtain ⟨b, _, _, _, rfl, _⟩ := id hk'
    show wpAny _ _ (if ((a == b) || (false && false)) = true then pure (ForInStep.yield (none, ())) else _) _ _ _
    by_cases c : ((a == b) || (false && false)) = true
    · rw [if_pos c]
      exact wpAny_pure ⟨rfl, rfl, nxt⟩
    · rw [if_neg c]
      refine wpAny_bind (stillT 8 (by decide) hx ?_)
      simp only [Bool.not_true, Bool.false_eq_true, if_false]
      refine wpAny_bind (stillT 8 (by decide) hk' ?_)
      simp only [Bool.not_true, Bool.false_eq_true, if_false]
      refine wpAny_bind (clsT hx ?_)
      simp only [Bool.false_eq_true, if_false]
      refine wpAny_bind (clsT hk' ?_)
      simp only [Bool.false_eq_true, if_false]
      exact wpAny_pure ⟨rfl, rfl, nxt⟩
  · rintro ⟨r1, r2⟩ s' ⟨hr, rfl, _⟩
    simp only at hr
    subst hr
    exact wpAny_pure h
end
end Ht

namespace Ht
open PySem PySem.SetTable Sw PyProof.Rows
section
variable {prog : Program} {w : World} {A : Around} {E : Value → Shared → Prop} {s : Shared}
/-- a set of tuples of numbers, with its table -/
structure STab (prog : Program) (w : World) (h : Heap) (a : Addr) (ks : List (List Int)) (l : Bool) (o : Obj) (es : Array (Int × Value)) (ep : Nat) (t : SetTable) : Prop where
  get : h.get? a = some o
  exact : o.ExactSet
  data : o.data = .set es ep t
  no : t.dummies = #[]
  led : t.led = l
  ok : HOk t.mask t.place es
  few : es.size * 5 < t.mask * 3
  size : es.size = ks.length
  nd : ks.Nodup
  el : ∀ e ∈ es.toList, ∃ k ∈ ks, e.1 = pHash prog w k ∧ PV prog w h k e.2
  has : ∀ k ∈ ks, ∃ e ∈ es.toList, e.1 = pHash prog w k ∧ PV prog w h k e.2
theorem STab.fits {a : Addr} {h : Heap} {ks : List (List Int)} {l : Bool} {o : Obj} {es : Array (Int × Value)} {ep : Nat} {t : SetTable} (S : STab prog w h a ks l o es ep t) : t.fits es.size = true := by
  unfold SetTable.fits SetTable.fill
  rw [S.no, S.ok.size]
  have := S.few
  simp
  omega
theorem mk_odd {m : Nat} (h : Mk m) : m % 2 = 1 := by
  rcases h with rfl | rfl | rfl <;> rfl
theorem ledIf {α : Type} {c : Bool} {m : Sem Bool} {u tail : Sem α} {Q : α → Shared → Prop} (h1 : c = true → wpAny (model prog w) A m (fun b s' => b = false ∧ s' = s) E s) (h2 : wpAny (model prog w) A tail Q E s) : wpAny (model prog w) A (if c = true then (do
    let b ← m
    if b = true then u else tail) else tail) Q E s := by
  cases c with
  | false => exact h2
  | true =>
    rw [if_pos rfl]
    refine wpAny_bind (wpAny_mono (h1 rfl) ?_ fun _ _ h => h)
    rintro b s' ⟨rfl, rfl⟩
    rw [if_neg (by decide)]
    exact h2
theorem searchT {a : Addr} {x : Value} {kx : List Int} {ks : List (List Int)} {l : Bool} {o : Obj} {es : Array (Int × Value)} {ep : Nat} {t : SetTable} (S : STab prog w s.heap a ks l o es ep t) (hx : PV prog w s.heap kx x) (hu : A.units + 1 < cLine) {Q : SetFound → Shared → Prop} {ke : Nat}
    (hf : ¬ On t.place (pt t.mask (pHash prog w kx) ke).j) (hb : ∀ k, k < ke → On t.place (pt t.mask (pHash prog w kx) k).j) (lk : ke ≤ 10 * (t.mask + 13))
    (q1 : kx ∈ ks → Q (.there none) s) (q2 : kx ∉ ks → Q (.free (pt t.mask (pHash prog w kx) ke).j false) s) : ∀ (fuel k : Nat) (stand : Option Probe), stand.getD (t.probeStart (pHash prog w kx)) = pt t.mask (pHash prog w kx) k → k ≤ ke → ke - k < fuel →
      (∀ (i0 c0 : Nat) (v : Value), es[i0]? = some (pHash prog w kx, v) → PV prog w s.heap kx v → t.place[i0]? = some (pt t.mask (pHash prog w kx) c0).j → c0 < ke → k ≤ c0) → wpAny (model prog w) A (setSearchFrom a x (pHash prog w kx) true fuel stand) Q E s
  | 0, k, stand, _, _, l, _ => by omega
  | fuel + 1, k, stand, hst, lke, lf, inv => by
    unfold setSearchFrom
    refine wpAny_bind (wpAny_setState_of S.get S.data S.fits ?_)
    have gw : t.gaveWay = false := by
      unfold SetTable.gaveWay
      rw [mk_odd S.ok.ms]
      rfl
    dsimp only
    rw [gw, hst]
    simp only [Bool.false_eq_true, if_false]
    rcases go_at rfl S.no S.ok.rise (fun i => (es[i]?.map (·.1)).getD 0) (pHash prog w kx) hf hb (ke - k) k (10 * SetTable.turns t.mask) (by omega) (by unfold SetTable.turns; omega) with ⟨g1, g2⟩ | ⟨c, i, g1, g2, g3, g4, g5, g6⟩
    · have hp : ∀ ha : Nat → Int, ha = (fun i => (es[i]?.map (·.1)).getD 0) → t.probe ha (pHash prog w kx) (pt t.mask (pHash prog w kx) k) = some (.empty (pt t.mask (pHash prog w kx) ke).j none) := fun ha e => by
        rw [e]
        exact g1
      rw [hp]
      case a => rfl
      dsimp only
      refine wpAny_pure (q2 fun m => ?_)
      obtain ⟨e, he, e1, e2⟩ := S.has kx m
      obtain ⟨i0, hi0⟩ := List.getElem?_of_mem he
      rw [Array.getElem?_toList] at hi0
      have l0 := (Array.getElem?_eq_some_iff.mp hi0).1
      have p0 := Array.getElem?_eq_getElem (show i0 < t.place.size by rw [S.ok.size]; exact l0)
      obtain ⟨c0, w1, w2⟩ := S.ok.way i0 _ e p0 hi0
      rw [e1] at w1 w2
      have lc : c0 < ke := by
        refine Classical.byContradiction fun z => ?_
        by_cases z2 : ke = c0
        · rw [z2, w1] at hf
          exact hf ⟨i0, p0⟩
        · exact hf (w2 ke (by omega))
      rw [← w1] at p0
      have hi1 : es[i0]? = some (pHash prog w kx, e.2) := by rw [hi0, ← e1]
      refine g2 c0 (inv i0 c0 e.2 hi1 e2 p0 lc) lc i0 p0 ?_
      rw [hi0]
      exact e1
    · have hp : ∀ ha : Nat → Int, ha = (fun i => (es[i]?.map (·.1)).getD 0) → t.probe ha (pHash prog w kx) (pt t.mask (pHash prog w kx) k) = some (.candidate (pt t.mask (pHash prog w kx) c).j i (pt t.mask (pHash prog w kx) (c + 1))) := fun ha e => by
        rw [e]
        exact g6
      rw [hp]
      case a => rfl
      dsimp only
      have li : i < es.size := by
        rw [← S.ok.size]
        exact (Array.getElem?_eq_some_iff.mp g3).1
      have ei := Array.getElem?_eq_getElem li
      generalize es[i] = y at ei
      obtain ⟨hy, y⟩ := y
      obtain ⟨ky, mk, e1, e2⟩ := S.el (hy, y) (List.mem_of_getElem? (i := i) (by rw [Array.getElem?_toList]; exact ei))
      have all : ∀ v ∈ (es.filter (·.1 == pHash prog w kx)).toList.map (·.2), ∃ k', PV prog w s.heap k' v := fun v hv => by
        obtain ⟨p, hp, rfl⟩ := List.mem_map.mp hv
        rw [Array.toList_filter] at hp
        obtain ⟨k', _, _, h'⟩ := S.el p (List.mem_filter.mp hp).1
        exact ⟨k', h'⟩
      refine ledIf (fun _ => seenT hx all ⟨rfl, rfl⟩) ?_
      rw [ei]
      dsimp only
      refine wpAny_bind (wpAny_holding (sameT hu e2 hx (wpAny_bind (wpAny_setState_of S.get S.data S.fits ?_))))
      dsimp only
      by_cases eq : ky = kx
      · rw [decide_eq_true eq]
        exact wpAny_pure (q1 (eq ▸ mk))
      · rw [decide_eq_false eq]
        simp only [Bool.and_false, Bool.false_eq_true, if_false]
        have sm : t.sameMemory t.moves t.mask = some true := by
          unfold SetTable.sameMemory
          simp
        rw [sm]
        dsimp only
        rw [if_pos rfl, slot_live S.ok.rise g3]
        dsimp only
        rw [ei]
        dsimp only
        obtain ⟨b, _, _, _, rfl, _⟩ := id e2
        refine wpAny_bind (wpAny_isSame_ref_self (wpAny_bind (wpAny_pure ?_)))
        simp only [if_true]
        refine searchT S hx hu hf hb lk q1 q2 fuel (c + 1) _ rfl (by omega) (by omega) fun i0 c0 v a1 a2 a3 a4 => ?_
        have k0 := inv i0 c0 v a1 a2 a3 a4
        by_cases z : c0 < c
        · refine absurd ?_ (g5 c0 k0 z i0 a3)
          rw [a1]
          rfl
        · by_cases z2 : c0 = c
          · rw [z2] at a3
            obtain rfl := rise_inj S.ok.rise a3 g3
            rw [ei] at a1
            obtain ⟨_, rfl⟩ := Prod.mk.inj (Option.some.inj a1)
            exact absurd (e2.one a2) eq
          · omega
end
end Ht

namespace Ht
open PySem PySem.SetTable Sw PyProof.Rows
section
variable {prog : Program} {w : World} {A : Around} {E : Value → Shared → Prop} {s : Shared}
def SetT (prog : Program) (w : World) (h : Heap) (a : Addr) (ks : List (List Int)) (l : Bool) : Prop := ∃ o es ep t, STab prog w h a ks l o es ep t
theorem STab.move {h h' : Heap} {a : Addr} {ks : List (List Int)} {l : Bool} {o o' : Obj} {es : Array (Int × Value)} {ep ep' : Nat} {t : SetTable} (S : STab prog w h a ks l o es ep t) (g : h'.get? a = some o') (x : o'.ExactSet) (d : o'.data = .set es ep' t) (k : ∀ b u its n, h.get? b = some u → u.data = .seq its n → h'.get? b = some u) : STab prog w h' a ks l o' es ep' t :=
  { get := g, exact := x, data := d, no := S.no, led := S.led, ok := S.ok, few := S.few, size := S.size, nd := S.nd
    el := fun e he => by
      obtain ⟨k1, h1, h2, h3⟩ := S.el e he
      exact ⟨k1, h1, h2, h3.keep k⟩
    has := fun k1 hk => by
      obtain ⟨e, h1, h2, h3⟩ := S.has k1 hk
      exact ⟨e, h1, h2, h3.keep k⟩ }
theorem SetT.keeps {h h' : Heap} {a : Addr} {ks : List (List Int)} {l : Bool} (x : SetT prog w h a ks l) (k : ∀ b o, h.get? b = some o → (b = a ∨ ∃ its n, o.data = .seq its n) → h'.get? b = some o) : SetT prog w h' a ks l := by
  obtain ⟨o, es, ep, t, S⟩ := x
  exact ⟨o, es, ep, t, S.move (k _ _ S.get (.inl rfl)) S.exact S.data fun b u its n e d => k b u e (.inr ⟨its, n, d⟩)⟩
theorem put_no {t : SetTable} (no : t.dummies = #[]) (j : Nat) : (t.put j).1.dummies = #[] := by
  unfold SetTable.put
  dsimp only
  rw [no]
  have : SetTable.has #[] j = false := by
    unfold SetTable.has
    simp
  rw [this]
  rfl
theorem addT {a : Addr} {ks : List (List Int)} {l : Bool} {k : List Int} {x : Value} {Q : Bool → Shared → Prop} (S : SetT prog w s.heap a ks l) (hx : PV prog w s.heap k x) (hu : A.units + 1 < cLine) (room : ks.length + 1 ≤ 60)
    (q : ∀ h', Heap.SameBut a s.heap h' → SetT prog w h' a (if k ∈ ks then ks else ks ++ [k]) l → Q (!decide (k ∈ ks)) { s with heap := h' }) :
    wpAny (model prog w) A (setAddHashed a x (pHash prog w k)) Q E s := by
  obtain ⟨o, es, ep, t, S⟩ := S
  obtain ⟨xa, _, _, _, rfl, _⟩ := id hx
  unfold setAddHashed setAddHashedIn
  refine wpAny_holding (wpAny_bind (wpAny_setState_of S.get S.data S.fits ?_))
  dsimp only
  have ns : byScan (.ref xa) es = false := rfl
  rw [ns]
  simp only [Bool.false_eq_true, if_false]
  have sz := S.few
  have le : t.place.size ≤ t.mask := by rw [S.ok.size]; omega
  obtain ⟨ke, lk, hf, hb⟩ := first_free S.ok.ms S.ok.rise le (pHash prog w k)
  unfold setSearch
  refine wpAny_bind (searchT S hx hu hf hb lk (fun m => ?_) (fun m => ?_) 100000 0 none rfl (Nat.zero_le _) ?_ fun _ _ _ _ _ _ _ => Nat.zero_le _)
  · have z := q s.heap (Heap.SameBut.refl a s.heap) (by rw [if_pos m]; exact ⟨o, es, ep, t, S⟩)
    rw [decide_eq_true m] at z
    exact wpAny_pure z
  · dsimp only
    refine wpAny_bind (wpAny_setState_of S.get S.data S.fits ?_)
    dsimp only
    rw [if_neg m, decide_eq_false m] at q
    generalize hj : (pt t.mask (pHash prog w k) ke).j = j
    have okp : HOk t.mask (t.put j).1.place (SetTable.insertAt es (t.put j).2 (pHash prog w k, .ref xa)) := by
      have := S.ok.put (x := .ref xa) hf hb
      rw [hj] at this
      exact this
    have es1 : (SetTable.insertAt es (t.put j).2 (pHash prog w k, Value.ref xa)).size = es.size + 1 := insert_size _ _ _
    have mem1 : ∀ e, e ∈ (SetTable.insertAt es (t.put j).2 (pHash prog w k, Value.ref xa)).toList ↔ e ∈ es.toList ∨ e = (pHash prog w k, Value.ref xa) := fun e => by
      rw [(SetTable.insertAt_perm _ _ _).mem_iff, Array.toList_push, List.mem_append, List.mem_singleton]
    generalize SetTable.insertAt es (t.put j).2 (pHash prog w k, Value.ref xa) = es' at okp es1 mem1 ⊢
    have no1 := put_no S.no j
    have led1 : (t.put j).1.led = l := S.led
    have mk1 : (t.put j).1.mask = t.mask := rfl
    generalize (t.put j).1 = t1 at okp no1 led1 mk1 ⊢
    have b60 : es'.size ≤ 60 := by rw [es1, S.size]; exact room
    have size1 : es'.size = (ks ++ [k]).length := by rw [es1, S.size, List.length_append, List.length_singleton]
    have nd1 : (ks ++ [k]).Nodup := by
      rw [List.nodup_append]
      exact ⟨S.nd, by simp, fun u hu v hv e => by
        rw [List.mem_singleton] at hv
        subst hv e
        exact m hu⟩
    have seq : ∀ (h0 h' : Heap), Heap.SameBut a s.heap h0 → Heap.SameBut a h0 h' → ∀ b u its n, s.heap.get? b = some u → u.data = .seq its n → h'.get? b = some u := fun h0 h' s0 s1 b u its n e d => by
      have ne : b ≠ a := fun z => by
        rw [z, S.get] at e
        obtain rfl := Option.some.inj e
        rw [S.data] at d
        cases d
      exact (s1.2 b ne).trans ((s0.2 b ne).trans e)
    have fin : ∀ (h0 : Heap) (o0 : Obj) (e0 : Array (Int × Value)) (p0 : Nat) (t0 : SetTable) (es2 : Array (Int × Value)) (t2 : SetTable), h0.get? a = some o0 → o0.ExactSet → o0.data = .set e0 p0 t0 → Heap.SameBut a s.heap h0 → (∀ e, e ∈ es2.toList ↔ e ∈ es'.toList) → es2.size = es'.size → HOk t2.mask t2.place es2 → t2.dummies = #[] → t2.led = l → es2.size * 5 < t2.mask * 3 →
        Q true { s with heap := h0.update a (Obj.putSet es2 t2) } := fun h0 o0 e0 p0 t0 es2 t2 g0 x0 d0 sb mm sz2 ok2 no2 led2 few2 => by
      have sb2 := Heap.SameBut.update h0 a (Obj.putSet es2 t2)
      refine q _ (sb.trans sb2) ⟨_, es2, p0 + 1, t2, { get := store_get g0 d0 es2 t2, exact := x0, data := rfl, no := no2, led := led2, ok := ok2, few := few2, size := by rw [sz2, size1], nd := nd1, el := fun e he => ?_, has := fun k1 hk => ?_ }⟩
      · rcases (mem1 e).mp ((mm e).mp he) with h1 | rfl
        · obtain ⟨k1, a1, a2, a3⟩ := S.el e h1
          exact ⟨k1, List.mem_append_left _ a1, a2, a3.keep (seq h0 _ sb sb2)⟩
        · exact ⟨k, List.mem_append_right _ (List.mem_singleton.mpr rfl), rfl, hx.keep (seq h0 _ sb sb2)⟩
      · rcases List.mem_append.mp hk with h1 | h1
        · obtain ⟨e, a1, a2, a3⟩ := S.has k1 h1
          exact ⟨e, (mm e).mpr ((mem1 e).mpr (.inl a1)), a2, a3.keep (seq h0 _ sb sb2)⟩
        · rw [List.mem_singleton.mp h1]
          exact ⟨_, (mm _).mpr ((mem1 _).mpr (.inr rfl)), rfl, hx.keep (seq h0 _ sb sb2)⟩
    have fill : ∀ t2 : SetTable, t2.dummies = #[] → ∀ (es2 : Array (Int × Value)), t2.place.size = es2.size → t2.fill = es2.size := fun t2 n2 es2 e2 => by
      unfold SetTable.fill
      rw [n2, e2]
      rfl
    have tail : wpAny (model prog w) A (do
        storeSet a es' t1
        if (!false && t1.tooFull) = true then do
          setRelay a (SetTable.grown (es.size + 1))
          pure true
        else pure true) Q E s := by
      refine wpAny_bind (wpAny_storeSet_of S.get S.data ?_ (by show es'.size ≤ sizeLine; have : 60 ≤ sizeLine := by decide +kernel
                                                               omega))
      by_cases full : t1.tooFull = true
      · rw [full]
        simp only [Bool.not_false, Bool.and_true, if_true]
        have f5 : es'.size * 5 ≥ t.mask * 3 := by
          unfold SetTable.tooFull at full
          rw [fill t1 no1 es' okp.size, mk1] at full
          exact of_decide_eq_true full
        obtain ⟨g1, g2⟩ := grown_mk b60 t.mask S.ok.ms f5 (by rw [es1]; rcases S.ok.ms with z | z | z <;> rw [z] at sz ⊢ <;> omega)
        have l1 : es'.size ≤ SetTable.sizeAbove (SetTable.grown es'.size) - 1 := by omega
        obtain ⟨t2, order, r1, r2, r3, r4, r5, r6, r7⟩ := laid_ok g1 es' l1 t1.finger (t1.movedTo (SetTable.sizeAbove (SetTable.grown es'.size) - 1)) t1.led t1.plain
        have st := store_get S.get S.data es' t1
        have fit1 : t1.fits es'.size = true := by
          unfold SetTable.fits
          rw [fill t1 no1 es' okp.size, okp.size, mk1]
          have : es'.size ≤ t.mask := by
            rw [es1]
            rcases S.ok.ms with z | z | z <;> rw [z] at sz ⊢ <;> omega
          simp [this]
        unfold setRelay
        refine wpAny_bind (wpAny_bind (wpAny_setState_of st rfl fit1 ?_))
        dsimp only
        rw [← es1]
        have ns : ¬ SetTable.sizeAbove (SetTable.grown es'.size) > sizeLine := by
          have big : 128 ≤ sizeLine := by decide +kernel
          rcases g1 with z | z | z <;> omega
        rw [if_neg ns]
        refine wpAny_bind ?_
        rw [show t1.relaid (es'.map (·.1)) (SetTable.grown es'.size) = some (t2, order) from r1]
        show wpAny _ _ (if ((order.filterMap (es'[·]?)).size != es'.size) = true then _ else pure (order.filterMap (es'[·]?), t2)) _ _ _
        rw [if_neg (by rw [r5]; simp)]
        refine wpAny_pure ?_
        dsimp only
        refine wpAny_storeSet_of st rfl (wpAny_pure ?_) (by rw [r5]; have : 60 ≤ sizeLine := by decide +kernel
                                                            omega)
        refine fin _ _ es' (ep + 1) t1 _ t2 st S.exact rfl (Heap.SameBut.update _ _ _) r7 r5 (by rw [r2]; exact r6) r3 (by rw [r4]; exact led1) (by rw [r5, r2]; exact g2)
      · rw [Bool.not_eq_true] at full
        rw [full]
        simp only [Bool.not_false, Bool.and_false, Bool.false_eq_true, if_false]
        refine wpAny_pure (fin s.heap o es ep t es' t1 S.get S.exact S.data (Heap.SameBut.refl _ _) (fun _ => Iff.rfl) rfl (by rw [mk1]; exact okp) no1 led1 ?_)
        unfold SetTable.tooFull at full
        rw [fill t1 no1 es' okp.size] at full
        have := of_decide_eq_false full
        omega
    cases hp : t1.plain with
    | true =>
      simp only [if_true]
      refine wpAny_bind (valT hx ?_)
      simp only [if_true]
      exact tail
    | false =>
      simp only [Bool.false_eq_true, if_false]
      refine wpAny_bind (wpAny_pure ?_)
      simp only [if_true]
      exact tail
  · have big : 10 * (t.mask + 13) < 100000 := by
      rcases S.ok.ms with z | z | z <;> rw [z] <;> decide
    omega
end
end Ht

namespace Ht
open PySem PySem.SetTable Sw PyProof.Rows
set_option maxRecDepth 100000
/-! set(xs) of a list of tuples of numbers -/
def metT (val : Nat → List Int) : Nat → List (List Int)
  | 0 => []
  | i + 1 => if val i ∈ metT val i then metT val i else metT val i ++ [val i]
theorem metT_len (val : Nat → List Int) : ∀ i, (metT val i).length ≤ i
  | 0 => Nat.le_refl _
  | i + 1 => by
    have := metT_len val i
    unfold metT
    split
    · omega
    · rw [List.length_append, List.length_singleton]
      omega
section
variable {prog : Program} {w : World} {A : Around} {R : Result → Shared → Prop} {I : Addr} {fp wr : List Addr} {G : Array GenState → Array GenState → Prop} {n : Nat} {P : Nat → Value → Prop} {St : Nat → Shared → Prop}
theorem SetT.set {h : Heap} {a : Addr} {ks : List (List Int)} {l : Bool} (x : SetT prog w h a ks l) : ∀ o its n, h.get? a = some o → o.data ≠ .seq its n := by
  obtain ⟨o, es, ep, t, S⟩ := x
  intro o' its n e d
  rw [S.get] at e
  obtain rfl := Option.some.inj e
  rw [S.data] at d
  cases d
theorem loopT (W : WalksS prog w A.in1 I fp wr G n P St) (S : Addr) (hSf : S ∉ fp) (val : Nat → List Int) (hb : n + 1 ≤ 60) (l : Bool) (hw : ∀ i s, St i s → ∀ b ∈ wr, ∀ (o : Obj) (its : Array Value) (n : Nat), s.heap.get? b = some o → o.data ≠ .seq its n) (hu : A.in1.units + 3 < cLine) : ∀ (k i : Nat) (s : Shared), n - i = k → i ≤ n → St i s →
      (∀ i v, P i v → PV prog w s.heap (val i) v) → SetT prog w s.heap S (metT val i) l →
      (∀ s', Moved (S :: wr) G s s' → SetT prog w s'.heap S (metT val n) l → R (.ok (.ret .none)) s') → codeAny (model prog w) A (.builtin "set.update.loop" ⟨[.ref S, .ref I], []⟩) R s := by
  have hSw : S ∉ wr := fun z => hSf (W.sub _ z)
  have more : ∀ b ∈ wr, b ∈ S :: wr := fun b z => List.mem_cons_of_mem _ z
  have stays : ∀ {i : Nat} {s s' : Shared}, St i s → Moved wr G s s' → ∀ b u its m, s.heap.get? b = some u → u.data = .seq its m → s'.heap.get? b = some u := fun st hm b u its m e d => hm.heap b u (fun z => hw _ _ st b z u its m e d) e
  intro k
  induction k with
  | zero =>
    intro i s hk hi st hpv hS fin
    obtain rfl : i = n := by omega
    refine codeAny_builtin F.entry_set_update_loop ?_; rw [Around.under_plainId F.plain_set_update_loop _]; show wpAny _ A.in1 (pyNext (.ref I) >>= _) _ _ s
    refine wpAny_bind (W.done s _ _ st fun s' hm => ?_)
    exact wpAny_pure (fin s' (hm.mono more) (hS.keeps fun b o e c => c.elim (fun z => hm.heap b o (by rw [z]; exact hSw) e) fun ⟨its, m, d⟩ => stays st hm b o its m e d))
  | succ k ih =>
    intro i s hk hi st hpv hS fin
    have lt : i < n := by omega
    refine codeAny_builtin F.entry_set_update_loop ?_; rw [Around.under_plainId F.plain_set_update_loop _]; show wpAny _ A.in1 (pyNext (.ref I) >>= _) _ _ s
    refine wpAny_bind (W.item i s _ _ lt st fun v s' hP st' hm => ?_)
    have hS' : SetT prog w s'.heap S (metT val i) l := hS.keeps fun b o e c => c.elim (fun z => hm.heap b o (by rw [z]; exact hSw) e) fun ⟨its, m, d⟩ => stays st hm b o its m e d
    have hpv' : ∀ i v, P i v → PV prog w s'.heap (val i) v := fun i v hp => (hpv i v hp).keep fun b u its m e d => stays st hm b u its m e d
    have hv := hpv' i v hP
    show wpAny _ A.in1 (holding [v] (setAdd S v) >>= _) _ _ s'; refine wpAny_bind (wpAny_holding ?_); unfold setAdd
    refine wpAny_holding (wpAny_bind (hashedT (by omega) hv ?_))
    have room : (metT val i).length + 1 ≤ 60 := by
      have := metT_len val i
      omega
    refine addT (s := { s' with toks := s'.toks + drwT (IFam prog w) (val i) }) hS' hv (by omega) room fun h' hsb hS2 => ?_
    have hS3 : SetT prog w h' S (metT val (i + 1)) l := hS2
    have keepS : ∀ b u its m, s'.heap.get? b = some u → u.data = .seq its m → h'.get? b = some u := fun b u its m e d => (hsb.2 b fun z => hS'.set u its m (by rw [← z]; exact e) d).trans e
    refine wpAny_pure ⟨plainId_quiet F.plain_set_update_loop _, ih (i + 1) _ (by omega) lt (W.frame _ s' _ _ st' (Nat.le_add_right _ _) fun b z o e => ?_) (fun i v hp => (hpv' i v hp).keep keepS) hS3 fun s2 hm2 hS4 => ?_⟩
    · exact (hsb.2 b fun y => hSf (y ▸ z)).trans e
    · refine fin s2 (Moved.trans W.gtrans ((hm.mono more).then_heap (Nat.le_add_right _ _) fun b o z e => ?_) hm2) hS4
      exact (hsb.2 b fun y => z (y ▸ List.mem_cons_self)).trans e
end
section
variable {prog : Program} {w : World} {A : Around} {E : Value → Shared → Prop} {s : Shared}
theorem newT (prog : Program) (w : World) (h : Heap) (l : Bool) : SetT prog w (h.push { cls := .type "set", dict := none, data := .set #[] 0 (.fresh 0 0 l) }) h.objs.size [] l :=
  ⟨_, #[], 0, _, { get := Heap.get?_push_size _ rfl, exact := ⟨rfl, rfl, rfl⟩, data := rfl, no := rfl, led := rfl, ok := ⟨.inl rfl, rfl, fun i k v u _ e => by simp [SetTable.fresh] at e, fun i j e => by simp [SetTable.fresh] at e, fun i j e h1 => by simp [SetTable.fresh] at h1⟩, few := (by show 0 * 5 < 7 * 3; decide), size := rfl, nd := List.nodup_nil, el := fun e he => by simp at he, has := fun k hk => by cases hk }⟩
set_option maxHeartbeats 6400000 in
theorem callSetT {p : Addr} {items : Array Value} {ns : List (List Int)} {Q : Value → Shared → Prop} (hh : A.handled = none) (hl : s.heap.IsList p items) (hi : ∀ (i : Nat) (v : Value), items[i]? = some v → PV prog w s.heap (ns.getD i []) v) (hb : items.size + 1 ≤ 60) (hu : A.units + 9 < cLine)
    (fin : ∀ (h' : Heap) (tk : Nat), SetT prog w h' s.heap.objs.size (metT (fun i => ns.getD i []) items.size) (ledOf w) →
      (∀ b o, b < s.heap.objs.size → s.heap.get? b = some o → h'.get? b = some o) → Q (.ref s.heap.objs.size) { s with heap := h', toks := tk }) : wpAny (model prog w) A (call (.type "set") [.ref p]) Q E s := by
  obtain ⟨c, tl, hmro⟩ := PySem.F.called_set.mro
  have f1 := PySem.F.called_set.made
  have f2 := PySem.F.called_set.sub
  refine wpAny_call (codeAny_of_tree ?_); show wpAny _ _ (callAny (.type "set") _) _ _ _
  refine wpAny_pure ⟨Code.quiet_builtin _ (by decide +kernel), codeAny_builtin PySem.F.entry_type_call ?_⟩; rw [Around.under_plain (weight_type_call_type "set" [.ref p] []) rfl]
  have f3 := PySem.F.called_set.notType
  have f4 := PySem.F.called_set.canCreate
  have f5 := PySem.F.typeCall_set_1 (.ref p)
  repeat (any_goals (first | assumption | wp_step))
  refine codeAny_mono (codeNew (.ref p) (E := E) (Q₁ := fun obj s₁ => obj = .ref s.heap.objs.size ∧ s₁ = { s with heap := s.heap.push { cls := .type "set", dict := none, data := .set #[] 0 (.fresh 0 0 (ledOf w)) } }) ⟨rfl, rfl⟩) fun r s₁ hr => ?_
  cases r with
  | error e => exact hr
  | ok fl =>
    cases fl with
    | ret obj =>
      obtain ⟨rfl, rfl⟩ := hr
      have gS : (s.heap.push { cls := .type "set", dict := none, data := .set #[] 0 (.fresh 0 0 (ledOf w)) }).get? s.heap.objs.size = some { cls := .type "set", dict := none, data := .set #[] 0 (.fresh 0 0 (ledOf w)) } := Heap.get?_push_size s.heap rfl
      have hT : Shared.TypeIs { s with heap := s.heap.push { cls := .type "set", dict := none, data := .set #[] 0 (.fresh 0 0 (ledOf w)) } } (.ref s.heap.objs.size) "set" := ⟨_, gS, rfl⟩
      have f6 := PySem.F.called_set.init.lookup
      have f7 := PySem.F.called_set.init.bind (.ref s.heap.objs.size)
      repeat (any_goals (first | assumption | wp_step))
      refine codeAny_mono (codeAny_call_builtin (R := wants (fun r s₂ => r = .none ∧ ∃ h' tk, s₂ = { s with heap := h', toks := tk } ∧ SetT prog w h' s.heap.objs.size (metT (fun i => ns.getD i []) items.size) (ledOf w) ∧
          (∀ b o, b < s.heap.objs.size → s.heap.get? b = some o → h'.get? b = some o)) E) PySem.F.called_set.init.plain PySem.F.entry_set_init (check_set_init_1 hT ?_)) fun r₂ s₂ hr₂ => ?_
      · obtain ⟨ol, hol, hcl, nl, hdl⟩ := hl
        obtain ⟨ocls, odict, odata, oslots⟩ := ol
        simp only at hcl hdl
        subst hcl hdl
        have hol' : (s.heap.push { cls := .type "set", dict := none, data := .set #[] 0 (.fresh 0 0 (ledOf w)) }).get? p = some { cls := .type "list", dict := odict, data := .seq items nl, slots := oslots } := Heap.get?_push_of_some _ hol
        have f8 := PySem.F.sub_list_set
        have f9 := PySem.F.sub_list_frozenset
        have f0 : (Value.type "list" == Value.type "dict") = false := by decide
        have hl1 : (s.heap.push { cls := .type "set", dict := none, data := .set #[] 0 (.fresh 0 0 (ledOf w)) }).IsList p items := ⟨_, hol', rfl, nl, rfl⟩
        unfold Builtin.«set.__init__» noKeywords Builtin.Frozenset.updateFrom; generalize hPI : pyIter = PI; wp_walk; subst hPI
        refine wpAny_pyIter_list hl1 (wpAny_bind (wpAny_runValue ?_))
        have lt0 : p < s.heap.objs.size := Heap.lt_size hol
        have h3 : A.in1.in1.in1.handled = none := by simp [hh]
        have ne1 : p ≠ (s.heap.push { cls := .type "set", dict := none, data := .set #[] 0 (.fresh 0 0 (ledOf w)) }).objs.size := by
          rw [Heap.size_push]
          exact Nat.ne_of_lt (Nat.lt_succ_of_lt lt0)
        have nf : s.heap.objs.size ∉ [(s.heap.push { cls := .type "set", dict := none, data := .set #[] 0 (.fresh 0 0 (ledOf w)) }).objs.size, p] := by
          rw [Heap.size_push]
          simp only [List.mem_cons, List.not_mem_nil, or_false, not_or]
          exact ⟨Nat.ne_of_lt (Nat.lt_succ_self _), Nat.ne_of_gt lt0⟩
        have up : ∀ b o, s.heap.get? b = some o → (((s.heap.push { cls := .type "set", dict := none, data := .set #[] 0 (.fresh 0 0 (ledOf w)) }).push { cls := .type "list_iterator", data := .fields #[.ref p, .int 0 0] }).get? b = some o) := fun b o e => Heap.get?_push_of_some _ (Heap.get?_push_of_some _ e)
        refine loopT ((Walks.list h3 _ p ne1 items).toS) s.heap.objs.size nf (fun i => ns.getD i []) hb (ledOf w) ?hwx (by simp only [Around.in1]; omega) (items.size - 0) 0 _ (by omega) (Nat.zero_le _) ⟨⟨_, Heap.get?_push_size _ rfl, rfl, rfl⟩, (hl1.push _)⟩ ?hpvx ?hS0x ?hRx
        case hwx =>
          rintro i s1 ⟨⟨o1, g1, _, d1⟩, _⟩ b hb1 o its n e d
          rw [List.mem_singleton.mp hb1, g1] at e
          obtain rfl := Option.some.inj e
          rw [d1] at d
          cases d
        case hpvx => exact fun i v hv => (hi i v hv).keep fun b o its n e _ => up b o e
        case hS0x => exact (newT prog w s.heap (ledOf w)).keeps fun b o e _ => Heap.get?_push_of_some _ e
        case hRx =>
          intro s' hm hS'
          obtain ⟨h', g', d', tk', os'⟩ := s'
          have eg : g' = s.gens := hm.gens
          have ed : d' = s.drawn := hm.drawn
          have eo : os' = s.os := hm.os
          subst eg ed eo
          show wpAny _ _ _ _ _ _
          refine wpAny_pure ?_
          show wpAny _ _ (ret Value.none) _ _ _
          refine wpAny_pure ⟨rfl, h', tk', rfl, hS', fun b o lt e => hm.heap b o ?_ (Heap.get?_push_of_some _ (Heap.get?_push_of_some _ e))⟩
          simp only [List.mem_cons, List.not_mem_nil, or_false, not_or]
          exact ⟨Nat.ne_of_lt lt, by rw [Heap.size_push]; exact Nat.ne_of_lt (Nat.lt_succ_of_lt lt)⟩
      · cases r₂ with
        | error e => exact hr₂
        | ok fl₂ =>
          cases fl₂ with
          | ret r =>
            obtain ⟨rfl, h', tk, rfl, hS', hk'⟩ := hr₂
            repeat (any_goals (first | assumption | wp_step))
            exact fin _ _ hS' hk'
          | _ => exact hr₂.elim
    | _ => exact hr.elim
end
end Ht

namespace L2
open PySem PySem.Spec PyProof.Rows
/-! len(set(a)), a a list of tuples of numbers -/
section
variable {X : Cx}
def PrsIn (H : Hp) (kv : List V) (kl : List (List Int)) : Prop := kv.length = kl.length ∧ ∀ (i : Nat) (v : V) (k : List Int), kv[i]? = some v → kl[i]? = some k → ∃ a : Addr, v = .ref a ∧ H a = some (.tup (k.map V.int))
def tLST (K : PySem.W.Frag) (t : TA) : TE := fun σ H Q => t σ H fun vs H1 => ∃ (p : Addr) (kv : List V) (kl : List (List Int)), vs = [.ref p] ∧ SqL K H1 p kv ∧ PrsIn H1 kv kl ∧ kl.length + 1 ≤ 60 ∧ Q (.int ((Ht.metT (fun i => kl.getD i []) kl.length).length : Int)) H1
theorem its_of {prog : Program} {w : World} {h : Heap} : ∀ (k : List Int) (its : List Value) (i : Nat), Vals (k.map V.int) its → PySem.Its (Ht.IFam prog w) h i k its
  | [], its, i, r => by
    cases r
    exact .nil
  | x :: k, its, i, r => by
    cases r with
    | cons a r =>
      obtain ⟨t, rfl⟩ := a
      exact .cons (intKind_is _ _ _ _) (its_of k _ (i + 1) r)
theorem pe_lenSetT {a : Expr} {t : TA} {p1 p2 pos pos2 : Pos} (hc : X.calm = true) (hu : X.A.units + 20 < cLine) (hg : Gl X "len") (hm : X.mg "len" = none) (hg2 : Gl X "set") (hm2 : X.mg "set" = none) (ha : PA X [a] t)
    (he : starEach [a] X.env = [(false, eval a X.env)] := by rfl) (he2 : starEach [.Call (.Name "set" p2) [a] [] pos2] X.env = [(false, eval (.Call (.Name "set" p2) [a] [] pos2) X.env)] := by rfl) :
    PE X (.Call (.Name "len" p1) [.Call (.Name "set" p2) [a] [] pos2] [] pos) (tLST X.K t) := by
  intro pins s σ H Q I h
  refine wpAny_Call_Name_kw (ld_blt I hg hm PySem.boot_len ?_)
  refine PyProof.Rows.callWith_builtin1 ?_ he2 rfl
  rw [he2]
  show wpAny _ _ (spliced ((false, eval (.Call (.Name "set" p2) [a] [] pos2) X.env) :: [])) _ _ s
  refine Calls.spliced_cons ?_
  refine wpAny_Call_Name_kw (ld_blt I hg2 hm2 PyProof.Rows.boot_set ?_)
  refine PyProof.Rows.callWith_type1 (thn (ha pos2 pins s σ H _ I h) fun us s1 ⟨vs, H1, I1, r1, q1⟩ => ?_) he rfl
  obtain ⟨p, kv, kl, rfl, hq, hP, hz, q⟩ := q1
  obtain ⟨u, rfl, rx⟩ := vals1 r1
  cases rx
  obtain ⟨its, rv, pl, _⟩ := I1.list hq
  have hl : its.toArray.size = kl.length := by
    have := rv.length
    have := hP.1
    simp
    omega
  have hi : ∀ (i : Nat) (v : Value), its.toArray[i]? = some v → Ht.PV X.prog X.w s1.heap (kl.getD i []) v := fun i v hv => by
    have hv' : its[i]? = some v := by simpa using hv
    have li := (List.getElem?_eq_some_iff.mp hv').1
    have lk : i < kl.length := by
      have := rv.length
      have := hP.1
      omega
    have e1 := List.getElem?_eq_getElem lk
    have e2 := List.getElem?_eq_getElem (show i < kv.length by have := hP.1; omega)
    obtain ⟨b, eb, hb⟩ := hP.2 i _ _ e2 e1
    rw [eb] at e2
    obtain ⟨u, hu', ru⟩ := rv.get e2
    rw [hv'] at hu'
    obtain rfl := Option.some.inj hu'
    cases ru
    obtain ⟨ia, ra, ⟨o, g, c, n, d⟩, _⟩ := I1.tuple (SqT.of hb)
    refine ⟨b, o, _, n, rfl, g, c, d, ?_⟩
    rw [List.getD_eq_getElem?_getD, e1]
    exact its_of _ _ 0 (by simpa using ra)
  have hA : X.A.units + 9 < cLine := by omega
  refine Ht.callSetT (I1.ok.hd hc) pl.isList hi (by rw [hl]; exact hz) hA fun h2 tk2 hS hk => Calls.spliced_nil ?_
  rw [hl] at hS
  have I2 : Inv X pins σ H1 { s1 with heap := h2, toks := tk2 } := I1.kept fun b o e => hk b o (Heap.lt_size e) e
  obtain ⟨o, es, ep, t', S⟩ := hS
  have few := S.size
  have lm := Ht.metT_len (fun i => kl.getD i []) kl.length
  refine call_len_set S.get S.exact S.data S.fits (by omega) ⟨.int ((Ht.metT (fun i => kl.getD i []) kl.length).length : Int), H1, I2.tok _, ⟨tk2 + 1, by rw [few]⟩, q⟩
end
end L2

namespace Mix
open PySem L2
def top (i : Nat) : Stmt := PySem.Challenge.pw_nesthall_k39_shrunk_again.main.body.getD i (.Pass ⟨0, 0, 0, 0⟩)
abbrev s_numbered : Stmt := top 1
abbrev s_folded_moves : Stmt := top 2
abbrev s_finer : Stmt := top 3
abbrev s_alike : Stmt := top 4
abbrev s_shrunk : Stmt := top 5
abbrev sCell : Stmt := top 7
abbrev s_L_cell : Stmt := top 8
abbrev s_L_own_row : Stmt := top 9
abbrev s_L_shifted : Stmt := top 10
abbrev sLawF : Stmt := top 11
abbrev sNear : Str := "_law_near"
end Mix

namespace Mix
open PySem L2
/-! the cell of a script and the mixed draw: the same two defs stand in every law -/
def spCell (K : PySem.W.Frag) : Sp := fun vs H Q _ => ∃ (a : Addr) (ns : List Int) (k : Int), vs = [.ref a, .int k] ∧ SqL K H a (ns.map V.int) ∧ ns.length ≤ 63 ∧ ∀ v : Int, Q (.int v) H
def spLCell (K : PySem.W.Frag) : Sp := fun vs H Q _ => ∃ (a : Addr) (ns : List Int) (k salt : Int), vs = [.ref a, .int k, .int salt] ∧ SqL K H a (ns.map V.int) ∧ ns.length ≤ 63 ∧ (0 ≤ k ∧ k ≤ 1000000) ∧ (0 ≤ salt ∧ salt ≤ 1000) ∧
  ∀ r : Int, 0 ≤ r → r < 2147483648 → Q (.int r) H
section
variable {P : Program} {w : World} {K : PySem.W.Frag} {mg : Str → Option Value} {base : Heap}
theorem scC : FnScope ["_law_script", "_law_k"] ["_law_script", "_law_k"] (defScope sCell) := ⟨rfl, rfl, rfl, by decide +kernel, rfl, by decide +kernel, by decide +kernel⟩
theorem ok_cell {f : Addr} {fd : FuncData} (F : Fun K "_law_cell_at" "_law_cell_at" sCell f fd) (ml : mg "len" = none) : FnOk P w K mg base CX0 1 f fd ["_law_script", "_law_k"] (spCell K) := by
  refine F.ok scC (fun vs H Q E h => ?_) (fun cdv A outer s H vs Q E hr h => ?_)
  · obtain ⟨a, ns, k, rfl, _⟩ := h
    rfl
  obtain ⟨a, ns, k, rfl, hS, h63, q⟩ := h
  refine ⟨_, pss_cons (ps_if (pt_cmpR op_eq (pe_callB call_len_seq rfl ml PySem.boot_len (pa_cons (pv 0) pa_nil)) pe_int (nomark _)) (pss_one (ps_ret pe_int)) pss_nil)
    (pss_one (ps_ret (pe_ix ix_list (pv 0) (pe_op op_mod (pv 1) (pe_callB call_len_seq rfl ml PySem.boot_len (pa_cons (pv 0) pa_nil))) (fun _ _ => rfl)))), ?_⟩
  have hl : (ns.map V.int).length = ns.length := List.length_map _
  refine ⟨_, rfl, a, _, rfl, .inl hS, rfl, _, rfl, ?_⟩
  refine ite2 (fun c => ?_) (fun c => ?_)
  · exact q 0
  · have c' : ¬ V.int (((ns.map V.int).length : Nat) : Int) = V.int 0 := of_decide_eq_false (Bool.eq_false_iff.mpr c)
    have hp : (0 : Int) < (((ns.map V.int).length : Nat) : Int) := by
      rw [hl] at c' ⊢
      have : ns.length ≠ 0 := fun z => c' (by rw [z]; rfl)
      omega
    obtain ⟨v, hv⟩ := atI_int (ns := ns) (i := k % (((ns.map V.int).length : Nat) : Int)) (Int.emod_nonneg _ (by omega)) (by have := Int.emod_lt_of_pos k hp; rw [hl] at this ⊢; exact this)
    exact ⟨_, rfl, _, rfl, _, rfl, a, _, rfl, .inl hS, _, _, rfl, rfl, hp, a, _, _, _, rfl, rfl, hS, hv, q v⟩
theorem mulIn {i j : Int} (h0 : 0 ≤ i) (h1 : i < 18446744073709551616) : CMul i j := .inl ⟨by omega, by omega⟩
theorem sc_law_cell : FnScope ["_law_script", "_law_k", "_law_salt", "_law_cell_here", "_law_lap", "_law_near"] ["_law_script", "_law_k", "_law_salt"] (defScope s_L_cell) := ⟨rfl, rfl, rfl, by decide +kernel, rfl, by decide +kernel, by decide +kernel⟩
theorem ok_lcell {f g : Addr} {fd gd : FuncData} (F : Fun K "_law_cell" "_law_cell" s_L_cell f fd) (G_law_cell_at : FnOk P w K mg base CX0 1 g gd ["_law_script", "_law_k"] (spCell K)) (b_law_cell_at : Binds K gd ["_law_script", "_law_k"] []) (k_law_cell_at : PySem.W.keepIn K (.ref g) = true) (m_law_cell_at : mg "_law_cell_at" = some (.ref g))
    (m_len : mg "len" = none) (m_max : mg "max" = none) : FnOk P w K mg base CX0 2 f fd ["_law_script", "_law_k", "_law_salt"] (spLCell K) := by
  refine F.ok sc_law_cell (fun vs H Q E h => ?_) (fun cdv A outer s H vs Q E hr h => ?_)
  · obtain ⟨a, ns, k, salt, rfl, _⟩ := h
    rfl
  obtain ⟨a, ns, k, salt, rfl, hS, h63, hk, hs, q⟩ := h
  refine ⟨_, (pss_cons (ps_set (i := 3) sc_law_cell.nd rfl (Or.inl rfl) (pe_call G_law_cell_at hr rfl m_law_cell_at k_law_cell_at b_law_cell_at .nil pass0 (pa_cons (pv 0) (pa_cons (pv 1) pa_nil))))
    (pss_cons (ps_set (i := 4) sc_law_cell.nd rfl (Or.inl rfl) (pe_op op_fdiv (pv 1) (pe_callB (call_max2 rfl) rfl m_max PyProof.Rows.boot_max (pa_cons pe_int (pa_cons (pe_callB call_len_seq rfl m_len PySem.boot_len (pa_cons (pv 0) pa_nil)) pa_nil)))))
    (pss_cons (ps_set (i := 5) sc_law_cell.nd rfl (Or.inl rfl) (pe_op op_add (pe_op op_add (pe_op op_add (pe_op op_and (pv 3) pe_int) (pe_op op_mul (pe_op op_mul pe_int (pv 1)) (pv 1))) (pe_op op_mul (pe_op op_mul pe_int (pv 2)) (pv 2))) pe_int))
    (pss_cons (ps_set (i := 5) sc_law_cell.nd rfl (Or.inl rfl) (pe_op op_mod (pe_op op_mul (pv 5) pe_int) pe_int))
    (pss_one (ps_ret (pe_op op_and (pe_op op_add (pe_op op_shr (pv 3) (pe_op op_mul pe_int (pe_op op_add (pv 2) (pe_op op_mul pe_int (pv 4))))) (pe_op op_mod (pe_op op_mul (pv 5) (pv 5)) pe_int)) pe_int))))))), ?_⟩
  have hl : (ns.map V.int).length = ns.length := List.length_map _
  refine ⟨_, rfl, _, rfl, a, ns, k, rfl, hS, h63, fun v => ?_⟩
  refine ⟨_, rfl, _, rfl, a, _, rfl, .inl hS, _, _, rfl, _, _, rfl, rfl, ?_⟩
  have hM : 0 < (if (((ns.map V.int).length : Nat) : Int) > 1 then (((ns.map V.int).length : Nat) : Int) else 1) ∧ (if (((ns.map V.int).length : Nat) : Int) > 1 then (((ns.map V.int).length : Nat) : Int) else 1) < 1073741824 := by
    rw [hl]
    split <;> omega
  refine ⟨hM, ?_⟩
  have hlap : 0 ≤ k / (if (((ns.map V.int).length : Nat) : Int) > 1 then (((ns.map V.int).length : Nat) : Int) else 1) := Int.ediv_nonneg hk.1 (Int.le_of_lt hM.1)
  refine ⟨_, rfl, _, _, rfl, rfl, _, rfl, _, _, rfl, rfl, mulIn (by decide) (by decide), _, rfl, _, _, rfl, rfl, mulIn (by omega) (by omega), _, _, rfl, rfl, _, rfl, _, _, rfl, rfl, mulIn (by decide) (by decide), _, rfl, _, _, rfl, rfl, mulIn (by omega) (by omega), _, _, rfl, rfl, _, _, rfl, rfl, ?_⟩
  refine ⟨_, rfl, _, _, rfl, rfl, .inr ⟨by decide, by decide⟩, _, _, rfl, rfl, (by show (0 : Int) < 2147483647; decide), ?_⟩
  have b1 := Int.emod_nonneg ((Builtin.bitAnd v 2147483647 + 631 * k * k + 6007 * salt * salt + 5) * 69621) (show (2147483647 : Int) ≠ 0 by decide)
  have b2 := Int.emod_lt_of_pos ((Builtin.bitAnd v 2147483647 + 631 * k * k + 6007 * salt * salt + 5) * 69621) (show (0 : Int) < 2147483647 by decide)
  refine ⟨_, rfl, _, rfl, _, rfl, _, _, rfl, rfl, mulIn (by decide) (by decide), _, _, rfl, rfl, _, _, rfl, rfl, mulIn (by decide) (by decide), _, _, rfl, rfl, ?_, _, rfl, _, rfl, _, _, rfl, rfl, mulIn b1 (Int.lt_trans b2 (by decide)), _, _, rfl, rfl, (by show (0 : Int) < 2147483587; decide), _, _, rfl, rfl, _, _, rfl, rfl, ?_⟩
  · have nn : ∀ lap : Int, 0 ≤ lap → 0 ≤ 31 * (salt + 128 * lap) := fun lap h => by omega
    exact nn _ hlap
  · exact q _ (maskB _).1 (maskB _).2
end
end Mix

namespace Mix
open PySem L2 Gds
/-! rows of numbers, where no parents stand in the law -/
def pV : Option Nat → V
  | none => .non
  | some j => .int (j : Int)
def natsV (s : List Nat) : List V := s.map fun j : Nat => V.int (j : Int)
end Mix

namespace Tb
open PySem L2 Mix Gds
/-! tables by the cells: words (the same defs in k36, k37, k38, k53) -/
inductive Al {α : Type} (R : V → α → Prop) : List V → List α → Prop where
  | nil : Al R [] []
  | cons {v : V} {r : α} {vs : List V} {rs : List α} : R v r → Al R vs rs → Al R (v :: vs) (r :: rs)
theorem Al.mono {α : Type} {R R' : V → α → Prop} {vs : List V} {rs : List α} (x : Al R vs rs) (k : ∀ v r, R v r → R' v r) : Al R' vs rs := by
  induction x with
  | nil => exact .nil
  | cons h _ ih => exact .cons (k _ _ h) ih
theorem Al.length {α : Type} {R : V → α → Prop} {vs : List V} {rs : List α} (x : Al R vs rs) : vs.length = rs.length := by
  induction x with
  | nil => rfl
  | cons _ _ ih => rw [List.length_cons, List.length_cons, ih]
theorem Al.snoc {α : Type} {R : V → α → Prop} {vs : List V} {rs : List α} {v : V} {r : α} (x : Al R vs rs) (y : R v r) : Al R (vs ++ [v]) (rs ++ [r]) := by
  induction x with
  | nil => exact .cons y .nil
  | cons h _ ih => exact .cons h ih
theorem Al.get {α : Type} {R : V → α → Prop} {vs : List V} {rs : List α} (x : Al R vs rs) : ∀ {k : Nat} {r : α}, rs[k]? = some r → ∃ v, vs[k]? = some v ∧ R v r := by
  induction x with
  | nil => intro k r h; simp at h
  | cons h _ ih =>
    intro k r e
    cases k with
    | zero =>
      simp at e
      subst e
      exact ⟨_, rfl, h⟩
    | succ k => exact ih (by simpa using e)
def WdIn (H : Hp) (v : V) (ws : List Str) : Prop := ∃ a : Addr, v = .ref a ∧ H a = some (.tup (ws.map V.str))
theorem WdIn.mono {H H' : Hp} {v : V} {ws : List Str} (x : WdIn H v ws) (k : KeepT H H') : WdIn H' v ws := by
  obtain ⟨a, e, h⟩ := x
  exact ⟨a, e, k _ _ h⟩
def MvIn (H : Hp) (v : V) (m : List Str × Nat) : Prop := ∃ (a : Addr) (wv : V), v = .ref a ∧ H a = some (.tup [wv, .int (m.2 : Int)]) ∧ WdIn H wv m.1
theorem MvIn.mono {H H' : Hp} {v : V} {m : List Str × Nat} (x : MvIn H v m) (k : KeepT H H') : MvIn H' v m := by
  obtain ⟨a, wv, e, h, g⟩ := x
  exact ⟨a, wv, e, k _ _ h, g.mono k⟩
abbrev Row := List Str × List (List Str × Nat)
def RwIn (H : Hp) (v : V) (r : Row) : Prop := ∃ (a m : Addr) (l : V) (mv : List V), v = .ref a ∧ H a = some (.tup [l, .ref m]) ∧ WdIn H l r.1 ∧ H m = some (.tup mv) ∧ Al (MvIn H) mv r.2
theorem RwIn.mono {H H' : Hp} {v : V} {r : Row} (x : RwIn H v r) (k : KeepT H H') : RwIn H' v r := by
  obtain ⟨a, m, l, mv, e, h, g, hm, hv⟩ := x
  exact ⟨a, m, l, mv, e, k _ _ h, g.mono k, k _ _ hm, hv.mono fun _ _ z => z.mono k⟩
/-- a row that fits a table of n rows and e events -/
def RwOk (c n e : Nat) (r : Row) : Prop := r.1.length ≤ c ∧ r.2.length = e ∧ ∀ m ∈ r.2, m.1.length ≤ c ∧ m.2 < n
structure TbOk (rows : List Row) (n e : Nat) : Prop where
  len : rows.length = n
  pos : 1 ≤ n
  row : ∀ r ∈ rows, RwOk 3 n e r
end Tb

namespace Tb
open PySem L2 Mix Gds
/-! tables as data: what parts two rows -/
def rowAt (rows : List Row) (k : Nat) : Row := rows.getD k ([], [])
def mvAt (rows : List Row) (k x : Nat) : List Str × Nat := (rowAt rows k).2.getD x ([], 0)
def goF (rows : List Row) (p : List Nat) (k : Nat) (ws : List Str) : Nat × List Str := p.foldl (fun s x => ((mvAt rows s.1 x).2, (mvAt rows s.1 x).1)) (k, ws)
def endOf (rows : List Row) (k : Nat) (p : List Nat) : List Str × List Str := ((rowAt rows (goF rows p k []).1).1, (goF rows p k []).2)
def PartOk (rows : List Row) (e a b : Nat) (o : Option (List Nat)) : Prop := match o with
  | none => ∀ p : List Nat, (∀ x ∈ p, x < e) → endOf rows a p = endOf rows b p
  | some p => (∀ x ∈ p, x < e) ∧ endOf rows a p ≠ endOf rows b p ∧ ∀ p' : List Nat, (∀ x ∈ p', x < e) → endOf rows a p' ≠ endOf rows b p' → Wy.code p ≤ Wy.code p'
def OpIn (H : Hp) (v : V) (o : Option (List Nat)) : Prop := match o with
  | none => v = .non
  | some p => ∃ a : Addr, v = .ref a ∧ H a = some (.tup (natsV p))
def spParting : Sp := fun vs H Q _ => ∃ (pt : Addr) (rv : List V) (rows : List Row) (m e a b : Nat) (ia ib : Int), vs = [.ref pt, .int ia, .int ib] ∧ ia = (a : Int) ∧ ib = (b : Int) ∧ H pt = some (.lst rv) ∧ Al (RwIn H) rv rows ∧ TbOk rows m e ∧ m ≤ 200 ∧ e ≤ 8 ∧ a < m ∧ b < m ∧ ∀ (v : V) (o : Option (List Nat)) (H' : Hp), Same H H' → OpIn H' v o → PartOk rows e a b o → Q v H'
def spEnd : Sp := fun vs H Q _ => ∃ (pt pw : Addr) (rv : List V) (rows : List Row) (m e a : Nat) (ia : Int) (p : List Nat), vs = [.ref pt, .int ia, .ref pw] ∧ ia = (a : Int) ∧ H pt = some (.lst rv) ∧ Al (RwIn H) rv rows ∧ TbOk rows m e ∧ a < m ∧ H pw = some (.tup (natsV p)) ∧ (∀ x ∈ p, x < e) ∧ ∀ (pq p1 p2 : Addr) (H' : Hp), Same H H' → H' pq = some (.tup [.ref p1, .ref p2]) → H' p1 = some (.tup ((endOf rows a p).1.map V.str)) → H' p2 = some (.tup ((endOf rows a p).2.map V.str)) → Q (.ref pq) H'
def spIsWay : Sp := fun vs H Q _ => ∃ (a : Addr) (p : List Nat) (ev : Nat), vs = [.ref a, .int (ev : Int)] ∧ H a = some (.tup (natsV p)) ∧ (∀ x ∈ p, x < ev) ∧ Q (.bl true) H
def spLaw (K : PySem.W.Frag) : Sp := fun vs H Q _ => ∃ (a : Addr) (ns : List Int), vs = [.ref a] ∧ SqL K H a (ns.map V.int) ∧ ns.length ≤ 63 ∧ ∀ H', Q (.bl true) H'
theorem natsV_len (os : List Nat) : (natsV os).length = os.length := List.length_map _
theorem nv_get {os : List Nat} {i : Nat} {x : V} (h : (natsV os)[i]? = some x) : ∃ hi : i < os.length, x = .int ((os[i] : Nat) : Int) := by
  have hi : i < os.length := by
    have := (List.getElem?_eq_some_iff.mp h).1
    rw [natsV_len] at this
    exact this
  refine ⟨hi, ?_⟩
  unfold natsV at h
  rw [List.getElem?_map, List.getElem?_eq_getElem hi] at h
  exact (Option.some.inj h).symm
theorem TbOk.at {rows : List Row} {m e : Nat} (T : TbOk rows m e) {k : Nat} (hk : k < m) : rows[k]? = some (rowAt rows k) ∧ RwOk 3 m e (rowAt rows k) := by
  have h : k < rows.length := by rw [T.len]; exact hk
  have e1 : rows[k]? = some rows[k] := List.getElem?_eq_getElem h
  have e2 : rowAt rows k = rows[k] := by
    unfold rowAt
    rw [List.getD_eq_getElem?_getD, e1]
    rfl
  rw [e2]
  exact ⟨e1, T.row _ (List.getElem_mem h)⟩
theorem row_in {H : Hp} {rv : List V} {rows : List Row} {m e : Nat} (hA : Al (RwIn H) rv rows) (T : TbOk rows m e) {k : Nat} (hk : k < m) : ∃ (a am al : Addr) (mv : List V), atI rv ((k : Nat) : Int) = some (.ref a) ∧ H a = some (.tup [.ref al, .ref am]) ∧ H al = some (.tup ((rowAt rows k).1.map V.str)) ∧ H am = some (.tup mv) ∧ Al (MvIn H) mv (rowAt rows k).2 := by
  obtain ⟨v, hv, a, am, l, mv, rfl, h1, ⟨al, rfl, hl⟩, h3, h4⟩ := hA.get (T.at hk).1
  exact ⟨a, am, al, mv, atI_nat hv, h1, hl, h3, h4⟩
end Tb

namespace Tb
/-! two rows walked beside each other: breadth first over pairs, the shortest parting, the first one -/
def WayE (e : Nat) (p : List Nat) : Prop := ∀ x ∈ p, x < e
def wk (rows : List Row) (p : List Nat) (k : Nat) : Nat := (goF rows p k []).1
theorem end_cons (rows : List Row) (x : Nat) {p : List Nat} (k : Nat) (h : p ≠ []) : endOf rows k (x :: p) = endOf rows (mvAt rows k x).2 p := by
  cases p with
  | nil => exact absurd rfl h
  | cons y p => rfl
theorem end_one (rows : List Row) (x k : Nat) : endOf rows k [x] = ((rowAt rows (mvAt rows k x).2).1, (mvAt rows k x).1) := rfl
theorem end_nil (rows : List Row) (k : Nat) : endOf rows k [] = ((rowAt rows k).1, []) := rfl
def LenOk (rows : List Row) (e a b : Nat) (l : Int) : Prop := (l = -1 ∧ ∀ p : List Nat, WayE e p → endOf rows a p = endOf rows b p) ∨ ∃ p : List Nat, WayE e p ∧ endOf rows a p ≠ endOf rows b p ∧ l = (p.length : Int) ∧ ∀ p' : List Nat, WayE e p' → endOf rows a p' ≠ endOf rows b p' → p.length ≤ p'.length
/-! breadth first -/
def Cl (rows : List Row) (met : List (Nat × Nat)) (x y ev : Nat) : Prop := (mvAt rows x ev).1 = (mvAt rows y ev).1 ∧ ((mvAt rows x ev).2, (mvAt rows y ev).2) ∈ met
def Lit (rows : List Row) (m : Nat) (q : Nat × Nat) : Prop := q.1 < m ∧ q.2 < m ∧ (rowAt rows q.1).1 = (rowAt rows q.2).1
structure Bfs (rows : List Row) (m e a b : Nat) (met level : List (Nat × Nat)) (d : Nat) : Prop where
  nd : met.Nodup
  lit : ∀ q ∈ met, Lit rows m q
  sub : ∀ q ∈ level, q ∈ met
  cl : ∀ q ∈ met, q ∉ level → ∀ x : Nat, x < e → Cl rows met q.1 q.2 x
  deep : ∀ q ∈ level, ∃ p : List Nat, WayE e p ∧ p.length = d ∧ wk rows p a = q.1 ∧ wk rows p b = q.2
  near : ∀ p : List Nat, WayE e p → p.length ≤ d → (wk rows p a, wk rows p b) ∈ met ∧ endOf rows a p = endOf rows b p
structure Mid (rows : List Row) (m e a b : Nat) (met0 level : List (Nat × Nat)) (d : Nat) (met ahead : List (Nat × Nat)) (i ev : Nat) : Prop where
  nd : met.Nodup
  old : ∀ q ∈ met0, q ∈ met
  sub : ∀ q ∈ ahead, q ∈ met
  spl : ∀ q ∈ met, q ∈ met0 ∨ q ∈ ahead
  lit : ∀ q ∈ met, Lit rows m q
  deep : ∀ q ∈ ahead, ∃ p : List Nat, WayE e p ∧ p.length = d + 1 ∧ wk rows p a = q.1 ∧ wk rows p b = q.2
  done : ∀ (j : Nat) (q : Nat × Nat), level[j]? = some q → j < i → ∀ x : Nat, x < e → Cl rows met q.1 q.2 x
  part : ∀ q : Nat × Nat, level[i]? = some q → ∀ x : Nat, x < ev → Cl rows met q.1 q.2 x
  len : met.length = met0.length + ahead.length
section
variable {rows : List Row} {m e a b d i ev : Nat} {met met0 level ahead : List (Nat × Nat)}
end
/-! the first way that parts -/
section
variable {rows : List Row} {e a b x : Nat} {q : List Nat}
/-- how long the rest is, where the way starts by ev -/
def RestOk (rows : List Row) (e a b ev : Nat) (l : Int) : Prop := ((mvAt rows a ev).1 ≠ (mvAt rows b ev).1 ∧ l = 0) ∨ ((mvAt rows a ev).1 = (mvAt rows b ev).1 ∧ LenOk rows e (mvAt rows a ev).2 (mvAt rows b ev).2 l)
end
end Tb

namespace Tb
open PySem L2 Mix Gds
/-! the shrunken table as data -/
def fAt (fold : List Nat) (k : Nat) : Nat := fold.getD k 0
structure ShrOk (rows : List Row) (fold : List Nat) (small : List Row) (m e n : Nat) : Prop where
  len : fold.length = m
  lt : ∀ k : Nat, k < m → fAt fold k < n
  onto : ∀ c : Nat, c < n → ∃ k : Nat, k < m ∧ fAt fold k = c
  ord : ∀ k : Nat, k < m → ∀ c : Nat, c < fAt fold k → ∃ j : Nat, j < k ∧ fAt fold j = c
  alike : ∀ a b : Nat, a < m → b < m → (fAt fold a = fAt fold b ↔ ∀ p : List Nat, (∀ x ∈ p, x < e) → endOf rows a p = endOf rows b p)
  tab : TbOk small n e
  row : ∀ k : Nat, k < m → rowAt small (fAt fold k) = ((rowAt rows k).1, (rowAt rows k).2.map fun mv => (mv.1, fAt fold mv.2))
def spShrunk : Sp := fun vs H Q _ => ∃ (pt : Addr) (rv : List V) (rows : List Row) (m e : Nat), vs = [.ref pt] ∧ H pt = some (.lst rv) ∧ Al (RwIn H) rv rows ∧ TbOk rows m e ∧ m ≤ 200 ∧ e ≤ 8 ∧ ∀ (pq pf ps : Addr) (sv : List V) (fold : List Nat) (small : List Row) (n : Nat) (H' : Hp), Same H H' → H pf = none → H ps = none → pf ≠ ps → H' pq = some (.tup [.ref pf, .ref ps]) → H' pf = some (.lst (natsV fold)) → H' ps = some (.lst sv) → Al (RwIn H') sv small → ShrOk rows fold small m e n → Q (.ref pq) H'
theorem first_at : ∀ (os : List Nat) (c k : Nat), k < os.length → fAt os k = c → ∃ (j : Nat) (hj : j < os.length), os[j] = c ∧ ∀ (i : Nat) (hi : i < os.length), i < j → os[i] ≠ c
  | [], _, _, h, _ => by cases h
  | x :: os, c, k, h, e => by
    by_cases z : x = c
    · exact ⟨0, Nat.zero_lt_succ _, z, fun i _ hi => absurd hi (Nat.not_lt_zero _)⟩
    · cases k with
      | zero => exact absurd e z
      | succ k =>
        obtain ⟨j, hj, e1, e2⟩ := first_at os c k (Nat.lt_of_succ_lt_succ h) e
        refine ⟨j + 1, Nat.succ_lt_succ hj, e1, fun i hi lt => ?_⟩
        cases i with
        | zero => exact z
        | succ i => exact e2 i (Nat.lt_of_succ_lt_succ hi) (Nat.lt_of_succ_lt_succ lt)
theorem fAt_get {os : List Nat} {k : Nat} (h : k < os.length) : fAt os k = os[k] := by
  unfold fAt
  rw [List.getD_eq_getElem?_getD, List.getElem?_eq_getElem h]
  rfl
theorem mv_lt {rows : List Row} {m e k x : Nat} (T : TbOk rows m e) (hk : k < m) (hx : x < e) : (mvAt rows k x).2 < m := by
  have ok := (T.at hk).2
  have hl : x < (rowAt rows k).2.length := by rw [ok.2.1]; exact hx
  have e2 : mvAt rows k x = (rowAt rows k).2[x] := by
    unfold mvAt
    rw [List.getD_eq_getElem?_getD, List.getElem?_eq_getElem hl]
    rfl
  rw [e2]
  exact (ok.2.2 _ (List.getElem_mem hl)).2
theorem nv_at {os : List Nat} {k : Nat} (h : k < os.length) : atI (natsV os) (k : Int) = some (.int (fAt os k : Int)) := by
  apply atI_nat
  unfold natsV
  rw [List.getElem?_map, List.getElem?_eq_getElem h, fAt_get h]
  rfl
theorem ShrOk.fold_eq {rows s1 s2 : List Row} {f1 f2 : List Nat} {m e n1 n2 : Nat} (S1 : ShrOk rows f1 s1 m e n1) (S2 : ShrOk rows f2 s2 m e n2) : ∀ k : Nat, k < m → fAt f1 k = fAt f2 k := by
  intro k
  induction k using Nat.strongRecOn with
  | ind k ih =>
    intro hk
    by_cases ex : ∃ j : Nat, j < k ∧ fAt f1 j = fAt f1 k
    · obtain ⟨j, hj, ej⟩ := ex
      have a2 := (S2.alike j k (by omega) hk).mpr ((S1.alike j k (by omega) hk).mp ej)
      rw [← ej, ih j hj (by omega), a2]
    · rcases Nat.lt_trichotomy (fAt f1 k) (fAt f2 k) with z | z | z
      · obtain ⟨j, hj, ej⟩ := S2.ord k hk _ z
        exact absurd ⟨j, hj, by rw [ih j hj (by omega), ej]⟩ ex
      · exact z
      · obtain ⟨j, hj, ej⟩ := S1.ord k hk _ z
        have a2 : fAt f2 j = fAt f2 k := by rw [← ih j hj (by omega), ej]
        exact absurd ⟨j, hj, (S1.alike j k (by omega) hk).mpr ((S2.alike j k (by omega) hk).mp a2)⟩ ex
theorem ShrOk.uniq {rows s1 s2 : List Row} {f1 f2 : List Nat} {m e n1 n2 : Nat} (S1 : ShrOk rows f1 s1 m e n1) (S2 : ShrOk rows f2 s2 m e n2) : f1 = f2 ∧ s1 = s2 := by
  have fe := S1.fold_eq S2
  have l1 := S1.len
  have l2 := S2.len
  have ef : f1 = f2 := by
    refine List.ext_getElem (by omega) fun k h1 h2 => ?_
    rw [← fAt_get h1, ← fAt_get h2]
    exact fe k (by omega)
  have nn : n1 = n2 := by
    rcases Nat.lt_trichotomy n1 n2 with z | z | z
    · obtain ⟨k, hk, ek⟩ := S2.onto n1 z
      have := S1.lt k hk
      rw [fe k hk] at this
      omega
    · exact z
    · obtain ⟨k, hk, ek⟩ := S1.onto n2 z
      have := S2.lt k hk
      rw [← fe k hk] at this
      omega
  subst ef nn
  refine ⟨rfl, ?_⟩
  have t1 := S1.tab.len
  have t2 := S2.tab.len
  refine List.ext_getElem? fun c => ?_
  by_cases hc : c < n1
  · obtain ⟨k, hk, ek⟩ := S1.onto c hc
    rw [(S1.tab.at hc).1, (S2.tab.at hc).1, ← ek, S1.row k hk, S2.row k hk]
  · rw [List.getElem?_eq_none (by omega), List.getElem?_eq_none (by omega)]
end Tb

namespace Tb
open PySem L2 Mix Gds
/-! the program's numbered: numbers in the order in which looks come first -/
structure NumOk {T : Type} (ks : List T) (fold : List Nat) : Prop where
  len : fold.length = ks.length
  same : ∀ i j : Nat, i < ks.length → j < ks.length → (fAt fold i = fAt fold j ↔ ks[i]? = ks[j]?)
  ord : ∀ i : Nat, i < ks.length → ∀ c : Nat, c < fAt fold i → ∃ j : Nat, j < i ∧ fAt fold j = c
structure Uq {T : Type} (ks : List T) (j : Nat) (us : List T) : Prop where
  nd : us.Nodup
  mem : ∀ k : T, k ∈ us ↔ ∃ i : Nat, i < j ∧ ks[i]? = some k
  ord : ∀ (c c0 : Nat) (u0 : T) (i : Nat), c < c0 → us[c0]? = some u0 → i < j → ks[i]? = some u0 → ∃ (i' : Nat) (u : T), i' < i ∧ us[c]? = some u ∧ ks[i']? = some u
section
variable {T : Type} {ks us : List T} {j : Nat}
theorem Uq.init : Uq ks 0 [] := ⟨List.nodup_nil, fun k => ⟨(fun h => by cases h), fun ⟨_, h, _⟩ => absurd h (Nat.not_lt_zero _)⟩, fun _ _ _ _ _ h => by simp at h⟩
theorem Uq.old (U : Uq ks j us) {k : T} (hk : ks[j]? = some k) (h : k ∈ us) : Uq ks (j + 1) us where
  nd := U.nd
  mem := fun q => by
    rw [U.mem q]
    constructor
    · rintro ⟨i, h1, h2⟩
      exact ⟨i, by omega, h2⟩
    · rintro ⟨i, h1, h2⟩
      by_cases z : i = j
      · subst z
        rw [hk] at h2
        rw [← Option.some.inj h2]
        exact (U.mem k).mp h
      · exact ⟨i, by omega, h2⟩
  ord := fun c c0 u0 i lt h1 h2 h3 => by
    by_cases z : i = j
    · subst z
      rw [hk] at h3
      have e := Option.some.inj h3
      subst e
      obtain ⟨i1, h4, h5⟩ := (U.mem k).mp h
      obtain ⟨i', u, h6, h7, h8⟩ := U.ord c c0 k i1 lt h1 h4 h5
      exact ⟨i', u, by omega, h7, h8⟩
    · exact U.ord c c0 u0 i lt h1 (by omega) h3
theorem Uq.new (U : Uq ks j us) {k : T} (hk : ks[j]? = some k) (h : k ∉ us) : Uq ks (j + 1) (us ++ [k]) where
  nd := List.nodup_append.mpr ⟨U.nd, by simp, fun a ha b hb e => by
    rw [List.mem_singleton.mp hb] at e
    rw [e] at ha
    exact h ha⟩
  mem := fun q => by
    rw [List.mem_append, U.mem q, List.mem_singleton]
    constructor
    · rintro (⟨i, h1, h2⟩ | rfl)
      · exact ⟨i, by omega, h2⟩
      · exact ⟨j, by omega, hk⟩
    · rintro ⟨i, h1, h2⟩
      by_cases z : i = j
      · subst z
        rw [hk] at h2
        exact .inr (Option.some.inj h2).symm
      · exact .inl ⟨i, by omega, h2⟩
  ord := fun c c0 u0 i lt h1 h2 h3 => by
    by_cases z : c0 < us.length
    · rw [List.getElem?_append_left z] at h1
      have zi : i ≠ j := fun e => by
        subst e
        rw [hk] at h3
        have e := Option.some.inj h3
        subst e
        exact h (List.mem_of_getElem? h1)
      obtain ⟨i', u, h6, h7, h8⟩ := U.ord c c0 u0 i lt h1 (by omega) h3
      exact ⟨i', u, h6, by rw [List.getElem?_append_left (by omega)]; exact h7, h8⟩
    · have h0 : c0 < us.length + 1 := by
        have := (List.getElem?_eq_some_iff.mp h1).1
        simpa using this
      have e0 : c0 = us.length := by omega
      subst e0
      have e1 : u0 = k := by
        rw [List.getElem?_append_right (Nat.le_refl _)] at h1
        simpa using h1.symm
      subst e1
      have zi : i = j := Classical.byContradiction fun z => h ((U.mem u0).mpr ⟨i, by omega, h3⟩)
      subst zi
      obtain ⟨i', h4, h5⟩ := (U.mem us[c]).mp (List.getElem_mem lt)
      exact ⟨i', us[c], h4, by rw [List.getElem?_append_left lt, List.getElem?_eq_getElem lt], h5⟩
theorem Uq.num {fold : List Nat} (U : Uq ks ks.length us) (hl : fold.length = ks.length) (h : ∀ (i : Nat) (k : T), ks[i]? = some k → us[fAt fold i]? = some k) : NumOk ks fold where
  len := hl
  same := fun i j hi hj => by
    have ei := List.getElem?_eq_getElem hi
    have ej := List.getElem?_eq_getElem hj
    have h1 := h i _ ei
    have h2 := h j _ ej
    constructor
    · intro e
      rw [e, h2] at h1
      rw [ei, ej, h1]
    · intro e
      rw [ei, ej] at e
      rw [e, ← h2] at h1
      exact (List.getElem?_inj (List.getElem?_eq_some_iff.mp (h i _ ei)).1 U.nd).mp h1
  ord := fun i hi c hc => by
    have ei := List.getElem?_eq_getElem hi
    obtain ⟨i', u, h1, h2, h3⟩ := U.ord c (fAt fold i) _ i hc (h i _ ei) hi ei
    refine ⟨i', h1, ?_⟩
    have h4 := h i' u h3
    exact (List.getElem?_inj (List.getElem?_eq_some_iff.mp h4).1 U.nd).mp (h4.trans h2.symm)
end
def nkv {T : Type} : Nat → List T → List (T × V)
  | _, [] => []
  | i, k :: us => (k, .int (i : Int)) :: nkv (i + 1) us
theorem nkv_len {T : Type} : ∀ (i : Nat) (us : List T), (nkv i us).length = us.length
  | _, [] => rfl
  | i, _ :: us => by rw [nkv, List.length_cons, List.length_cons, nkv_len (i + 1) us]
theorem nkv_snoc {T : Type} (k : T) : ∀ (i : Nat) (us : List T), nkv i (us ++ [k]) = nkv i us ++ [(k, .int ((i + us.length : Nat) : Int))]
  | _, [] => rfl
  | i, u :: us => by
    rw [List.cons_append, nkv, nkv_snoc k (i + 1) us, nkv, List.length_cons, List.cons_append, show i + 1 + us.length = i + (us.length + 1) by omega]
theorem nkv_val {T : Type} [DecidableEq T] {k : T} : ∀ (us : List T) (i : Nat), (k ∉ us ∧ valV (nkv i us) k = none) ∨ ∃ c : Nat, us[c]? = some k ∧ valV (nkv i us) k = some (.int ((i + c : Nat) : Int))
  | [], i => .inl ⟨by simp, rfl⟩
  | u :: us, i => by
    by_cases e : u = k
    · exact .inr ⟨0, by rw [e]; rfl, valV_pos (p := (u, V.int (i : Int))) e⟩
    · have ev : valV (nkv i (u :: us)) k = valV (nkv (i + 1) us) k := valV_neg (p := (u, V.int (i : Int))) e
      rw [ev]
      rcases nkv_val (k := k) us (i + 1) with ⟨h1, h2⟩ | ⟨c, h1, h2⟩
      · refine .inl ⟨fun z => ?_, h2⟩
        rcases List.mem_cons.mp z with z | z
        · exact e z.symm
        · exact h1 z
      · exact .inr ⟨c + 1, h1, by rw [h2, show i + 1 + c = i + (c + 1) by omega]⟩
def spNumbered (P : Program) (w : World) : Sp := fun vs H Q _ => ∃ (T : Type) (inst : DecidableEq T) (d : Nat) (F : @TFam T inst d) (le : d ≤ 8) (pl : Addr) (lv : List V) (ks : List T), vs = [.ref pl] ∧ H pl = some (.lst lv) ∧ Al (fun v k => F.inn 0 H k v ∧ ∃ a : Addr, v = .ref a) lv ks ∧ ks.length ≤ 1000 ∧ ∀ (pq : Addr) (H' : Hp) (fold : List Nat), Same H H' → H pq = none → H' pq = some (.lst (natsV fold)) → NumOk ks fold → Q (.ref pq) H'
section
variable {P : Program} {w : World} {K : PySem.W.Frag} {mg : Str → Option Value} {base : Heap}
theorem sc_numbered : FnScope ["looks", "numbers", "look"] ["looks"] (defScope s_numbered) := ⟨rfl, rfl, rfl, by decide +kernel, rfl, by decide +kernel, by decide +kernel⟩
theorem ok_numbered {f : Addr} {fd : FuncData} (F : Fun K "numbered" "numbered" s_numbered f fd) (m_len : mg "len" = none) : FnOk P w K mg base CX0 1 f fd ["looks"] (spNumbered P w) := by
  refine F.ok sc_numbered (fun vs H Q E h => ?_) (fun cdv A outer s H vs Q E hr h => ?_)
  · obtain ⟨T, inst, d, F, le, pl, lv, ks, rfl, _⟩ := h
    rfl
  obtain ⟨T, inst, d, Fm, le, pl, lv, ks, rfl, hpl, hA, l1000, q⟩ := h
  have hu := hr.units
  refine ⟨_, (pss_cons (ps_set (i := 1) sc_numbered.nd rfl (Or.inr rfl) (pe_nnew Fm le))
    (pss_cut (ps_for PassesOwn.never rfl (pi_list (pv 0)) (pg_name (i := 2) sc_numbered.nd rfl (Or.inl rfl))
      (pss_one (ps_expr (pe_nset hu Fm le (pv 1) (pv 2) (pe_callB (call_lenN Fm le) rfl m_len PySem.boot_len (pa_cons (pv 1) pa_nil)) ⟨rfl, rfl, rfl, rfl⟩))))
    (pss_one (ps_ret (pe_comp (caps := [(1, "numbers")]) rfl (show CompSc (defScope s_numbered) ["looks", "numbers", "look"] _ _ _ from ⟨rfl, rfl, by decide +kernel, by decide +kernel, by decide +kernel, by decide +kernel, by decide +kernel⟩) (pi_list (pv 0)) (fun _ _ _ _ _ _ => pifs_nil) (fun _ _ _ _ _ _ => show PE _ _ (tNGet P w Fm le _ _) from pe_nget hu Fm le (pv 1) (pv 0) (fun _ _ => rfl))))))), ?_⟩
  have llv := hA.length
  intro pn H1 npn eH D1
  have s1 : Same H H1 := by
    rw [eH]
    exact same_new npn _
  clear eH
  refine ⟨fun σ' H' => (∃ us : List T, Same H H' ∧ DN P w Fm le H' pn (nkv 0 us) ∧ Uq ks ks.length us) ∧ ∃ o2 : Option V, σ' = [some (.ref pl), some (.ref pn), o2], ?_, ?_⟩
  · refine ⟨_, rfl, pl, rfl, ⟨_, SqL.of (s1 _ _ hpl)⟩, ?_⟩
    refine for_list (K := K) (a := pl) (xs := lv) (fun i σ' H' => (∃ us : List T, Same H H' ∧ DN P w Fm le H' pn (nkv 0 us) ∧ Uq ks i us ∧ us.length ≤ i) ∧ ∃ o2 : Option V, σ' = [some (.ref pl), some (.ref pn), o2])
      ⟨⟨[], s1, D1, Uq.init, Nat.le_refl _⟩, _, rfl⟩ (fun i σ' H' _ ⟨⟨_, z, _⟩, _⟩ => SqL.of (z _ _ hpl)) ?_ ?_
    · rintro i x σ' H2 hx ⟨⟨us, s2, D2, U, lus⟩, o2, rfl⟩
      have hi : i < ks.length := by
        have := (List.getElem?_eq_some_iff.mp hx).1
        omega
      have hk := List.getElem?_eq_getElem hi
      generalize ks[i] = k at hk
      obtain ⟨v', hv', hinn, b, rfl⟩ := hA.get hk
      rw [hv'] at hx
      obtain rfl := Option.some.inj hx
      have hin2 := Fm.mono hinn (fun c xs g => s2 _ _ g)
      refine ⟨_, rfl, pn, _, rfl, D2, _, rfl, _, rfl, pn, _, rfl, D2, b, _, k, rfl, D2, hin2, (by rw [nkv_len, sizeLine_eq]; omega), fun v' hv => ?_, fun hv o D3 => ?_⟩
      · rcases nkv_val (k := k) us 0 with ⟨_, h2⟩ | ⟨c, h1, _⟩
        · rw [h2] at hv
          cases hv
        · exact ⟨⟨us, s2, D2, U.old hk (List.mem_of_getElem? h1), by omega⟩, _, rfl⟩
      · rcases nkv_val (k := k) us 0 with ⟨h1, _⟩ | ⟨c, _, h2⟩
        · rw [nkv_len, show ((us.length : Nat) : Int) = ((0 + us.length : Nat) : Int) by omega, ← nkv_snoc] at D3
          exact ⟨⟨us ++ [k], same_upd npn s2 _, D3, U.new hk h1, by rw [List.length_append, List.length_singleton]; omega⟩, _, rfl⟩
        · rw [h2] at hv
          cases hv
    · rintro σ' H2 ⟨⟨us, s2, D2, U, _⟩, r⟩
      rw [llv] at U
      exact ⟨⟨us, s2, D2, U⟩, r⟩
  rintro σ' H2 ⟨⟨us, s2, D2, U⟩, o2, rfl⟩
  refine ⟨_, rfl, pl, rfl, ⟨_, SqL.of (s2 _ _ hpl)⟩, ?_⟩
  refine comp_list (K := K) (a := pl) (xs := lv) (fun i acc H' => H' = H2 ∧ ∃ fold : List Nat, acc = natsV fold ∧ fold.length = i ∧ ∀ (j : Nat) (k : T), j < i → ks[j]? = some k → us[fAt fold j]? = some k) ⟨rfl, [], rfl, rfl, fun j k hj => absurd hj (Nat.not_lt_zero _)⟩
    (fun i acc H' ⟨e, _⟩ => by rw [e]; exact SqL.of (s2 _ _ hpl)) ?_ ?_
  · rintro i x acc H' hx ⟨rfl, fold, rfl, lf, hf⟩
    have hi : i < ks.length := by
      have := (List.getElem?_eq_some_iff.mp hx).1
      omega
    have hk := List.getElem?_eq_getElem hi
    generalize ks[i] = k at hk
    obtain ⟨v', hv', hinn, b, rfl⟩ := hA.get hk
    rw [hv'] at hx
    obtain rfl := Option.some.inj hx
    have hin2 := Fm.mono hinn (fun c xs g => s2 _ _ g)
    rcases nkv_val (k := k) us 0 with ⟨h1, _⟩ | ⟨c, h1, h2⟩
    · exact absurd ((U.mem k).mpr ⟨i, hi, hk⟩) h1
    refine ⟨_, rfl, _, rfl, pn, b, _, k, _, rfl, rfl, D2, hin2, h2, (by rw [natsV_len, sizeLine_eq]; omega), rfl, fold ++ [c], ?_, by rw [List.length_append, List.length_singleton, lf], fun j k' hj hk' => ?_⟩
    · unfold natsV
      rw [List.map_append, Nat.zero_add]
      rfl
    · by_cases z : j = i
      · subst z
        rw [hk] at hk'
        rw [← Option.some.inj hk']
        unfold fAt
        rw [List.getD_eq_getElem?_getD, List.getElem?_append_right (by omega), lf, Nat.sub_self]
        exact h1
      · have := hf j k' (by omega) hk'
        unfold fAt at this ⊢
        rw [List.getD_eq_getElem?_getD, List.getElem?_append_left (by omega), ← List.getD_eq_getElem?_getD]
        exact this
  · rintro acc H' ⟨rfl, fold, rfl, lf, hf⟩ pq hpq
    refine q pq _ fold (s2.trans (same_new hpq _)) (s2.free hpq) upd_same (U.num (by omega) fun i k hk => hf i k ?_ hk)
    have := (List.getElem?_eq_some_iff.mp hk).1
    omega
end
end Tb

namespace Tb
open PySem L2 Mix Gds
/-! the program's folded_moves and finer -/
abbrev KW := List Key
abbrev KM := List (KW ⊕ Key)
abbrev KMs := List KM
abbrev KL := List (Key ⊕ KMs)
instance decKM : DecidableEq KM := inferInstanceAs (DecidableEq (List (KW ⊕ Key)))
instance decKMs : DecidableEq KMs := @instDecidableEqList _ decKM
instance decKK : DecidableEq (Key ⊕ KMs) := @instDecidableEqSum _ _ inferInstance decKMs
instance decKL : DecidableEq KL := @instDecidableEqList _ decKK
def wK (ws : List Str) : KW := ws.map Sum.inr
def mK (m : List Str × Nat) : KM := [Sum.inl (wK m.1), Sum.inr (Sum.inl (m.2 : Int))]
def msK (ms : List (List Str × Nat)) : KMs := ms.map mK
def lK (n : Nat) (ms : List (List Str × Nat)) : KL := [Sum.inl (Sum.inl (n : Int)), Sum.inr (msK ms)]
theorem wK_inj : ∀ {a b : List Str}, wK a = wK b → a = b
  | [], [], _ => rfl
  | [], _ :: _, h => by cases h
  | _ :: _, [], h => by cases h
  | x :: a, y :: b, h => by
    have h : (Sum.inr x : Key) :: wK a = Sum.inr y :: wK b := h
    injection h with h1 h2
    injection h1 with h1
    rw [h1, wK_inj h2]
theorem mK_inj {a b : List Str × Nat} (h : mK a = mK b) : a = b := by
  unfold mK at h
  injection h with h1 h2
  injection h1 with h1
  injection h2 with h2 _
  injection h2 with h2
  injection h2 with h2
  exact Prod.ext (wK_inj h1) (by omega)
theorem msK_inj : ∀ {a b : List (List Str × Nat)}, msK a = msK b → a = b
  | [], [], _ => rfl
  | [], _ :: _, h => by cases h
  | _ :: _, [], h => by cases h
  | x :: a, y :: b, h => by
    have h : mK x :: msK a = mK y :: msK b := h
    injection h with h1 h2
    rw [mK_inj h1, msK_inj h2]
theorem lK_inj {n n' : Nat} {a b : List (List Str × Nat)} (h : lK n a = lK n' b) : n = n' ∧ a = b := by
  unfold lK at h
  injection h with h1 h2
  injection h1 with h1
  injection h1 with h1
  injection h2 with h2 _
  injection h2 with h2
  exact ⟨by omega, msK_inj h2⟩
def Tw : TFam KW 1 := TFam.leaf.tup
def Tm : TFam KM 2 := (TFam.two Tw (TFam.leaf.up 1 (by decide))).tup
def Tms : TFam KMs 3 := Tm.tup
def Tl : TFam KL 4 := (TFam.two (TFam.leaf.up 3 (by decide)) Tms).tup
theorem words_inn {H : Hp} : ∀ (ws : List Str) (i : Nat), InnL TFam.leaf H i (wK ws) (ws.map V.str)
  | [], _ => .nil
  | _ :: ws, i => .cons rfl (words_inn ws (i + 1))
theorem wd_inn {H : Hp} {v : V} {ws : List Str} (h : WdIn H v ws) (i : Nat) : Tw.inn i H (wK ws) v := by
  obtain ⟨a, e, h⟩ := h
  exact ⟨a, _, e, h, words_inn ws 0⟩
theorem mv_inn {H : Hp} {v : V} {m : List Str × Nat} (h : MvIn H v m) (i : Nat) : Tm.inn i H (mK m) v := by
  obtain ⟨a, wv, e, h1, h2⟩ := h
  exact ⟨a, _, e, h1, .cons ⟨rfl, wd_inn h2 0⟩ (.cons ⟨by decide, rfl⟩ .nil)⟩
theorem mvs_inn {H : Hp} {mv : List V} {ms : List (List Str × Nat)} (h : Al (MvIn H) mv ms) : ∀ i : Nat, InnL Tm H i (msK ms) mv := by
  induction h with
  | nil => exact fun _ => .nil
  | cons h _ ih => exact fun i => .cons (mv_inn h i) (ih (i + 1))
theorem lk_inn {H : Hp} {a p : Addr} {n : Nat} {mv : List V} {ms : List (List Str × Nat)} (h : H a = some (.tup [.int (n : Int), .ref p])) (hp : H p = some (.tup mv)) (hm : Al (MvIn H) mv ms) : Tl.inn 0 H (lK n ms) (.ref a) :=
  ⟨a, _, rfl, h, .cons ⟨rfl, rfl⟩ (.cons ⟨by decide, p, mv, rfl, hp, mvs_inn hm 0⟩ .nil)⟩
def fmv (rows : List Row) (fold : List Nat) (k : Nat) : List (List Str × Nat) := (rowAt rows k).2.map fun mv => (mv.1, fAt fold mv.2)
structure FinOk (rows : List Row) (fold fold' : List Nat) (m : Nat) : Prop where
  len : fold'.length = m
  same : ∀ a b : Nat, a < m → b < m → (fAt fold' a = fAt fold' b ↔ fAt fold a = fAt fold b ∧ fmv rows fold a = fmv rows fold b)
  ord : ∀ k : Nat, k < m → ∀ c : Nat, c < fAt fold' k → ∃ j : Nat, j < k ∧ fAt fold' j = c
def spFolded : Sp := fun vs H Q _ => ∃ (ar pf al am : Addr) (mv : List V) (ms : List (List Str × Nat)) (fold : List Nat), vs = [.ref ar, .ref pf] ∧ H ar = some (.tup [.ref al, .ref am]) ∧ H am = some (.tup mv) ∧ Al (MvIn H) mv ms ∧ H pf = some (.lst (natsV fold)) ∧ (∀ x ∈ ms, x.2 < fold.length) ∧ ms.length ≤ 1000 ∧ ∀ (p : Addr) (H' : Hp) (mv' : List V), Same H H' → H' p = some (.tup mv') → Al (MvIn H') mv' (ms.map fun x => (x.1, fAt fold x.2)) → Q (.ref p) H'
def spFiner : Sp := fun vs H Q _ => ∃ (pt pf : Addr) (rv : List V) (rows : List Row) (m e : Nat) (fold : List Nat), vs = [.ref pt, .ref pf] ∧ H pt = some (.lst rv) ∧ Al (RwIn H) rv rows ∧ TbOk rows m e ∧ m ≤ 200 ∧ e ≤ 8 ∧ H pf = some (.lst (natsV fold)) ∧ fold.length = m ∧ ∀ (pq : Addr) (H' : Hp) (fold' : List Nat), Same H H' → H pq = none → H' pq = some (.lst (natsV fold')) → FinOk rows fold fold' m → Q (.ref pq) H'
section
variable {P : Program} {w : World} {K : PySem.W.Frag} {mg : Str → Option Value} {base : Heap}
theorem sc_folded_moves : FnScope ["row", "fold"] ["row", "fold"] (defScope s_folded_moves) := ⟨rfl, rfl, rfl, by decide +kernel, rfl, by decide +kernel, by decide +kernel⟩
theorem ok_folded_moves {f : Addr} {fd : FuncData} (F : Fun K "folded_moves" "folded_moves" s_folded_moves f fd) (m_tuple : mg "tuple" = none) : FnOk P w K mg base CX0 1 f fd ["row", "fold"] spFolded := by
  refine F.ok sc_folded_moves (fun vs H Q E h => ?_) (fun cdv A outer s H vs Q E hr h => ?_)
  · obtain ⟨ar, pf, al, am, mv, ms, fold, rfl, _⟩ := h
    rfl
  obtain ⟨ar, pf, al, am, mv, ms, fold, rfl, har, ham, hmv, hpf, hlt, l1000, q⟩ := h
  refine ⟨_, (pss_one (ps_ret (pe_callTy call_tuple_of rfl m_tuple PyProof.Rows.boot_tuple (pa_cons (pe_comp (caps := [(1, "fold")]) rfl (show CompSc (defScope s_folded_moves) ["row", "fold"] _ _ _ from ⟨rfl, rfl, by decide +kernel, by decide +kernel, by decide +kernel, by decide +kernel, by decide +kernel⟩) (pi_tup (pe_ix ix_tup (pv 0) pe_int (fun _ _ => rfl))) (fun _ _ _ _ _ _ => pifs_nil)
    (fun _ _ _ _ _ _ => pe_tup (pa_cons (pe_ix (r := rIxT K) ix_tup (pv 0) pe_int (fun _ _ => rfl)) (pa_cons (pe_ix (r := rIxL K) ix_list (pv 1) (pe_ix (r := rIxT K) ix_tup (pv 0) pe_int (fun _ _ => rfl)) (fun _ _ => rfl)) pa_nil)))) pa_nil)))), ?_⟩
  have lmv := hmv.length
  refine ⟨_, rfl, ar, _, _, _, rfl, rfl, SqT.of har, rfl, am, rfl, ⟨_, SqT.of ham⟩, ?_⟩
  refine comp_tup (K := K) (a := am) (xs := mv) (fun i acc H' => Same H H' ∧ acc.length = i ∧ Al (MvIn H') acc ((ms.take i).map fun x => (x.1, fAt fold x.2))) ⟨Same.refl _, rfl, .nil⟩ (fun i acc H' z => SqT.of (z.1 _ _ ham)) ?_ ?_
  · rintro i x acc H' hx ⟨s1, la, hA⟩
    have hi : i < ms.length := by
      have := (List.getElem?_eq_some_iff.mp hx).1
      omega
    have hk := List.getElem?_eq_getElem hi
    have hm := List.getElem_mem hi
    generalize ms[i] = mm at hk hm
    obtain ⟨v', hv', a, wv, rfl, h1, aw, rfl, hw⟩ := hmv.get hk
    rw [hv'] at hx
    obtain rfl := Option.some.inj hx
    have hto := hlt mm hm
    refine ⟨_, rfl, a, _, _, _, rfl, rfl, SqT.of (s1 _ _ h1), rfl, _, rfl, _, rfl, a, _, _, _, rfl, rfl, SqT.of (s1 _ _ h1), rfl, pf, _, _, _, rfl, rfl, SqL.of (s1 _ _ hpf), nv_at hto, small_le (by show 2 ≤ 1000; decide), fun p hp => ⟨by rw [sizeLine_eq]; omega, s1.trans (same_new hp _), by rw [List.length_append, List.length_singleton, la], ?_⟩⟩
    have u2 := same_new hp (.tup [V.ref aw, V.int (fAt fold mm.2 : Int)])
    rw [List.take_add_one, hk, List.map_append]
    exact Al.snoc (hA.mono fun _ _ z => z.mono (KeepT.of u2)) ⟨p, _, rfl, upd_same, aw, rfl, u2 _ _ (s1 _ _ hw)⟩
  · rintro acc H' ⟨s1, la, hA⟩ pl hpl
    rw [List.take_of_length_le (by omega)] at hA
    have u2 := same_new hpl (.lst acc)
    refine ⟨pl, acc, rfl, .inl ⟨SqL.of upd_same, fun p hp => ?_⟩⟩
    have u3 := same_new hp (.tup acc)
    exact q p _ acc (s1.trans (u2.trans u3)) upd_same (hA.mono fun _ _ z => z.mono (KeepT.of (u2.trans u3)))
theorem sc_finer : FnScope ["rows", "fold"] ["rows", "fold"] (defScope s_finer) := ⟨rfl, rfl, rfl, by decide +kernel, rfl, by decide +kernel, by decide +kernel⟩
theorem ok_finer {n0 : Nat} {f g1 g2 : Addr} {fd dg1 dg2 : FuncData} (F : Fun K "finer" "finer" s_finer f fd)
    (G_numbered : FnOk P w K mg base CX0 n0 g1 dg1 ["looks"] (spNumbered P w)) (b_numbered : Binds K dg1 ["looks"] []) (k_numbered : PySem.W.keepIn K (.ref g1) = true) (m_numbered : mg "numbered" = some (.ref g1))
    (G_folded_moves : FnOk P w K mg base CX0 n0 g2 dg2 ["row", "fold"] spFolded) (b_folded_moves : Binds K dg2 ["row", "fold"] []) (k_folded_moves : PySem.W.keepIn K (.ref g2) = true) (m_folded_moves : mg "folded_moves" = some (.ref g2))
    (m_zip : mg "zip" = none) : FnOk P w K mg base CX0 (n0 + 1) f fd ["rows", "fold"] spFiner := by
  refine F.ok sc_finer (fun vs H Q E h => ?_) (fun cdv A outer s H vs Q E hr h => ?_)
  · obtain ⟨pt, pf, rv, rows, m, e, fold, rfl, _⟩ := h
    rfl
  obtain ⟨pt, pf, rv, rows, m, e, fold, rfl, hpt, hA, T, m200, e8, hpf, lf, q⟩ := h
  refine ⟨_, (pss_one (ps_ret (pe_call G_numbered hr rfl m_numbered k_numbered b_numbered .nil pass0 (pa_cons (pe_comp2 (caps := [(1, "fold")]) rfl (show CompSc2 (defScope s_finer) ["rows", "fold"] _ _ _ _ from ⟨rfl, rfl, rfl, by decide +kernel, by decide +kernel, by decide +kernel, by decide +kernel, by decide +kernel⟩) (pi_zip rfl m_zip (pa_cons (pv 1) (pa_cons (pv 0) pa_nil))) (fun _ _ _ _ _ _ => pifs_nil)
    (fun _ _ _ _ _ _ => pe_tup (pa_cons (pv 0) (pa_cons (pe_call G_folded_moves hr rfl m_folded_moves k_folded_moves b_folded_moves .nil pass0 (pa_cons (pv 1) (pa_cons (pv 2) pa_nil))) pa_nil)))) pa_nil)))), ?_⟩
  have lrv := hA.length
  have lrows := T.len
  have lnf := natsV_len fold
  refine ⟨_, rfl, _, rfl, pf, pt, rfl, ⟨_, SqL.of hpf⟩, ⟨_, SqL.of hpt⟩, ?_⟩
  refine comp2_zip (K := K) (a := pf) (b := pt) (xs := natsV fold) (ys := rv) (fun i acc H' => Same H H' ∧ acc.length = i ∧ Al (fun v k => Tl.inn 0 H' k v ∧ ∃ a : Addr, v = .ref a) acc ((List.range i).map fun k => lK (fAt fold k) (fmv rows fold k))) ⟨Same.refl _, rfl, .nil⟩ (fun i acc H' z => ⟨SqL.of (z.1 _ _ hpf), SqL.of (z.1 _ _ hpt)⟩) (by omega) ?_ ?_
  · rintro i x y acc H' t hx hy ⟨s1, la, hB⟩ ht
    have hi : i < m := by
      have := (List.getElem?_eq_some_iff.mp hx).1
      omega
    have hxv : x = .int (fAt fold i : Int) := by
      have := nv_at (os := fold) (k := i) (by omega)
      rw [atI_nat hx] at this
      exact Option.some.inj this
    subst hxv
    have u2 := same_new ht (.tup [.int (fAt fold i : Int), y])
    generalize upd H' t (.tup [.int (fAt fold i : Int), y]) = H2 at u2 ⊢
    have s2 := s1.trans u2
    obtain ⟨a, am, al, mv, hat, ha, hal, ham, hmv⟩ := row_in (hA.mono fun _ _ z => z.mono (KeepT.of s2)) T hi
    rw [atI_nat hy] at hat
    obtain rfl := Option.some.inj hat
    have okr := (T.at hi).2
    refine ⟨_, rfl, _, rfl, _, rfl, a, pf, al, am, mv, (rowAt rows i).2, fold, rfl, ha, ham, hmv, s2 _ _ hpf, fun z hz => by rw [lf]; exact (okr.2.2 z hz).2, by rw [okr.2.1]; omega, fun p H3 mv' u3 hp3 hmv3 => ?_⟩
    refine ⟨small_le (by show 2 ≤ 1000; decide), fun pl hpl => ⟨by rw [sizeLine_eq]; omega, s2.trans (u3.trans (same_new hpl _)), by rw [List.length_append, List.length_singleton, la], ?_⟩⟩
    have u4 := same_new hpl (.tup [V.int (fAt fold i : Int), V.ref p])
    rw [List.range_succ, List.map_append]
    refine Al.snoc (hB.mono fun _ _ z => ⟨Tl.mono z.1 (fun b xs g => (u2.trans (u3.trans u4)) _ _ g), z.2⟩) ⟨lk_inn upd_same (u4 _ _ hp3) (hmv3.mono fun _ _ z => z.mono (KeepT.of u4)), pl, rfl⟩
  · rintro acc H' ⟨s1, la, hB⟩ pl hpl
    have u2 := same_new hpl (.lst acc)
    rw [natsV_len, lf] at hB
    refine ⟨KL, _, 4, Tl, by decide, pl, acc, _, rfl, upd_same, hB.mono fun _ _ z => ⟨Tl.mono z.1 (fun b xs g => u2 _ _ g), z.2⟩, by rw [List.length_map, List.length_range]; omega, fun pq H2 fold' u3 npq hpq N => ?_⟩
    have nl : ((List.range m).map fun k => lK (fAt fold k) (fmv rows fold k)).length = m := by rw [List.length_map, List.length_range]
    have at' : ∀ k, k < m → ((List.range m).map fun k => lK (fAt fold k) (fmv rows fold k))[k]? = some (lK (fAt fold k) (fmv rows fold k)) := fun k hk => by
      rw [List.getElem?_map, List.getElem?_range hk]
      rfl
    refine q pq H2 fold' (s1.trans (u2.trans u3)) ((s1.trans u2).free npq) hpq ⟨by rw [N.len, nl], fun a b ha hb => ?_, fun k hk => N.ord k (by omega)⟩
    rw [N.same a b (by omega) (by omega), at' a ha, at' b hb]
    constructor
    · intro z
      exact lK_inj (Option.some.inj z)
    · rintro ⟨z1, z2⟩
      rw [z1, z2]
end
end Tb

namespace Tb
open PySem L2 Mix Gds
/-! folds, made finer until they stay: as mathematics -/
structure Stg (rows : List Row) (fold : List Nat) (m e : Nat) : Prop where
  len : fold.length = m
  ord : ∀ k : Nat, k < m → ∀ c : Nat, c < fAt fold k → ∃ j : Nat, j < k ∧ fAt fold j = c
  lam : ∀ a b : Nat, a < m → b < m → fAt fold a = fAt fold b → (rowAt rows a).1 = (rowAt rows b).1
  alk : ∀ a b : Nat, a < m → b < m → (∀ p : List Nat, (∀ x ∈ p, x < e) → endOf rows a p = endOf rows b p) → fAt fold a = fAt fold b
theorem Stg.first {rows : List Row} {fold : List Nat} {m e : Nat} (N : NumOk ((List.range m).map fun k => wK (rowAt rows k).1) fold) : Stg rows fold m e := by
  have nl : ((List.range m).map fun k => wK (rowAt rows k).1).length = m := by rw [List.length_map, List.length_range]
  have at' : ∀ k, k < m → ((List.range m).map fun k => wK (rowAt rows k).1)[k]? = some (wK (rowAt rows k).1) := fun k hk => by
    rw [List.getElem?_map, List.getElem?_range hk]
    rfl
  refine ⟨by rw [N.len, nl], fun k hk => N.ord k (by omega), fun a b ha hb z => ?_, fun a b ha hb z => ?_⟩
  · have := (N.same a b (by omega) (by omega)).mp z
    rw [at' a ha, at' b hb] at this
    exact wK_inj (Option.some.inj this)
  · refine (N.same a b (by omega) (by omega)).mpr ?_
    rw [at' a ha, at' b hb]
    have := z [] (fun x hx => by cases hx)
    rw [end_nil, end_nil] at this
    injection this with this _
    rw [this]
theorem fmv_get {rows : List Row} {fold : List Nat} {m e k x : Nat} (T : TbOk rows m e) (hk : k < m) (hx : x < e) : (fmv rows fold k)[x]? = some ((mvAt rows k x).1, fAt fold (mvAt rows k x).2) := by
  have ok := (T.at hk).2
  have hl : x < (rowAt rows k).2.length := by rw [ok.2.1]; exact hx
  have e2 : mvAt rows k x = (rowAt rows k).2[x] := by
    unfold mvAt
    rw [List.getD_eq_getElem?_getD, List.getElem?_eq_getElem hl]
    rfl
  unfold fmv
  rw [List.getElem?_map, List.getElem?_eq_getElem hl, e2]
  rfl
theorem fmv_len {rows : List Row} {fold : List Nat} {m e k : Nat} (T : TbOk rows m e) (hk : k < m) : (fmv rows fold k).length = e := by
  unfold fmv
  rw [List.length_map, (T.at hk).2.2.1]
theorem Stg.next {rows : List Row} {fold fold' : List Nat} {m e : Nat} (T : TbOk rows m e) (S : Stg rows fold m e) (F : FinOk rows fold fold' m) : Stg rows fold' m e := by
  refine ⟨F.len, F.ord, fun a b ha hb z => S.lam a b ha hb ((F.same a b ha hb).mp z).1, fun a b ha hb z => (F.same a b ha hb).mpr ⟨S.alk a b ha hb z, ?_⟩⟩
  apply List.ext_getElem?
  intro x
  by_cases hx : x < e
  · rw [fmv_get T ha hx, fmv_get T hb hx]
    have h1 := z [x] (fun y hy => by rw [List.mem_singleton.mp hy]; exact hx)
    rw [end_one, end_one] at h1
    injection h1 with h1 h2
    rw [h2, S.alk _ _ (mv_lt T ha hx) (mv_lt T hb hx) fun p hp => ?_]
    by_cases hp0 : p = []
    · rw [hp0, end_nil, end_nil, h1]
    · have h3 := z (x :: p) (fun y hy => by
        rcases List.mem_cons.mp hy with e1 | e1
        · rw [e1]
          exact hx
        · exact hp y e1)
      rw [end_cons rows x a hp0, end_cons rows x b hp0] at h3
      exact h3
  · have la := fmv_len (fold := fold) T ha
    have lb := fmv_len (fold := fold) T hb
    rw [List.getElem?_eq_none (by omega), List.getElem?_eq_none (by omega)]
theorem Stg.last {rows : List Row} {fold : List Nat} {m e : Nat} (T : TbOk rows m e) (S : Stg rows fold m e) (F : FinOk rows fold fold m) : ∀ (p : List Nat) (a b : Nat), a < m → b < m → fAt fold a = fAt fold b → (∀ x ∈ p, x < e) → endOf rows a p = endOf rows b p
  | [], a, b, ha, hb, z, _ => by rw [end_nil, end_nil, S.lam a b ha hb z]
  | x :: p, a, b, ha, hb, z, hp => by
    have hx := hp x (List.mem_cons_self ..)
    have h1 := ((F.same a b ha hb).mp z).2
    have h2 := fmv_get (fold := fold) T ha hx
    rw [h1, fmv_get T hb hx] at h2
    have h2 := Option.some.inj h2
    injection h2 with h3 h4
    by_cases hp0 : p = []
    · subst hp0
      rw [end_one, end_one, h3, S.lam _ _ (mv_lt T hb hx) (mv_lt T ha hx) h4]
    · rw [end_cons rows x a hp0, end_cons rows x b hp0]
      exact S.last T F p _ _ (mv_lt T ha hx) (mv_lt T hb hx) h4.symm (fun y hy => hp y (List.mem_cons_of_mem _ hy))
theorem Stg.le {rows : List Row} {fold fold' : List Nat} {m e : Nat} (S : Stg rows fold m e) (F : FinOk rows fold fold' m) : ∀ k : Nat, k < m → fAt fold k ≤ fAt fold' k := by
  intro k
  induction k using Nat.strongRecOn with
  | ind k ih =>
    intro hk
    by_cases ex : ∃ j : Nat, j < k ∧ fAt fold' j = fAt fold' k
    · obtain ⟨j, hj, ej⟩ := ex
      have h1 := ih j hj (by omega)
      rw [((F.same j k (by omega) hk).mp ej).1, ej] at h1
      exact h1
    · by_cases z : fAt fold k = 0
      · omega
      · obtain ⟨j, hj, ej⟩ := S.ord k hk (fAt fold k - 1) (by omega)
        have h1 := ih j hj (by omega)
        rcases Nat.lt_trichotomy (fAt fold' j) (fAt fold' k) with y | y | y
        · omega
        · exact absurd ⟨j, hj, y⟩ ex
        · obtain ⟨i, hi, ei⟩ := F.ord j (by omega) _ y
          exact absurd ⟨i, by omega, ei⟩ ex
theorem Stg.small {rows : List Row} {fold : List Nat} {m e : Nat} (S : Stg rows fold m e) : ∀ k : Nat, k < m → fAt fold k ≤ k := by
  intro k
  induction k using Nat.strongRecOn with
  | ind k ih =>
    intro hk
    by_cases z : fAt fold k = 0
    · omega
    · obtain ⟨j, hj, ej⟩ := S.ord k hk (fAt fold k - 1) (by omega)
      have := ih j hj (by omega)
      omega
theorem sum_le : ∀ (f g : List Nat), f.length = g.length → (∀ k : Nat, k < f.length → fAt f k ≤ fAt g k) → f.sum ≤ g.sum ∧ (f.sum = g.sum → f = g)
  | [], [], _, _ => ⟨Nat.le_refl _, fun _ => rfl⟩
  | [], _ :: _, h, _ => by cases h
  | _ :: _, [], h, _ => by cases h
  | x :: f, y :: g, h, k => by
    have h0 : x ≤ y := k 0 (Nat.zero_lt_succ _)
    have ih := sum_le f g (by simpa using h) fun j hj => k (j + 1) (Nat.succ_lt_succ hj)
    rw [List.sum_cons, List.sum_cons]
    refine ⟨by omega, fun e => ?_⟩
    rw [ih.2 (by omega), show x = y by omega]
theorem sum_bound (m : Nat) : ∀ f : List Nat, (∀ x ∈ f, x ≤ m) → f.sum ≤ f.length * m
  | [], _ => by simp
  | x :: f, h => by
    have := sum_bound m f fun y hy => h y (List.mem_cons_of_mem _ hy)
    have := h x (List.mem_cons_self ..)
    rw [List.sum_cons, List.length_cons, Nat.add_mul, Nat.one_mul]
    omega
theorem Stg.bound {rows : List Row} {fold : List Nat} {m e : Nat} (S : Stg rows fold m e) : fold.sum ≤ m * m := by
  have := sum_bound m fold fun x hx => by
    obtain ⟨k, hk, rfl⟩ := List.mem_iff_getElem.mp hx
    have l := S.len
    rw [← fAt_get hk]
    have := S.small k (by omega)
    omega
  rw [S.len] at this
  exact this
theorem Stg.grow {rows : List Row} {fold fold' : List Nat} {m e : Nat} (S : Stg rows fold m e) (F : FinOk rows fold fold' m) (ne : fold' ≠ fold) : fold.sum < fold'.sum := by
  have l1 := S.len
  have l2 := F.len
  have := sum_le fold fold' (by omega) fun k hk => S.le F k (by omega)
  rcases Nat.lt_or_ge fold.sum fold'.sum with z | z
  · exact z
  · exact absurd (this.2 (by omega)).symm ne
structure AlkOk (rows : List Row) (fold : List Nat) (m e : Nat) : Prop where
  len : fold.length = m
  ord : ∀ k : Nat, k < m → ∀ c : Nat, c < fAt fold k → ∃ j : Nat, j < k ∧ fAt fold j = c
  alike : ∀ a b : Nat, a < m → b < m → (fAt fold a = fAt fold b ↔ ∀ p : List Nat, (∀ x ∈ p, x < e) → endOf rows a p = endOf rows b p)
def spAlike : Sp := fun vs H Q _ => ∃ (pt : Addr) (rv : List V) (rows : List Row) (m e : Nat), vs = [.ref pt] ∧ H pt = some (.lst rv) ∧ Al (RwIn H) rv rows ∧ TbOk rows m e ∧ m ≤ 200 ∧ e ≤ 8 ∧ ∀ (pf : Addr) (H' : Hp) (fold : List Nat), Same H H' → H pf = none → H' pf = some (.lst (natsV fold)) → AlkOk rows fold m e → Q (.ref pf) H'
section
variable {P : Program} {w : World} {K : PySem.W.Frag} {mg : Str → Option Value} {base : Heap}
theorem sc_alike : FnScope ["rows", "fold", "further"] ["rows"] (defScope s_alike) := ⟨rfl, rfl, rfl, by decide +kernel, rfl, by decide +kernel, by decide +kernel⟩
theorem ok_alike {n0 : Nat} {f g1 g2 : Addr} {fd dg1 dg2 : FuncData} (F : Fun K "alike" "alike" s_alike f fd)
    (G_numbered : FnOk P w K mg base CX0 n0 g1 dg1 ["looks"] (spNumbered P w)) (b_numbered : Binds K dg1 ["looks"] []) (k_numbered : PySem.W.keepIn K (.ref g1) = true) (m_numbered : mg "numbered" = some (.ref g1))
    (G_finer : FnOk P w K mg base CX0 n0 g2 dg2 ["rows", "fold"] spFiner) (b_finer : Binds K dg2 ["rows", "fold"] []) (k_finer : PySem.W.keepIn K (.ref g2) = true) (m_finer : mg "finer" = some (.ref g2)) : FnOk P w K mg base CX0 (n0 + 1) f fd ["rows"] spAlike := by
  refine F.ok sc_alike (fun vs H Q E h => ?_) (fun cdv A outer s H vs Q E hr h => ?_)
  · obtain ⟨pt, rv, rows, m, e, rfl, _⟩ := h
    rfl
  obtain ⟨pt, rv, rows, m, e, rfl, hpt, hA, T, m200, e8, q⟩ := h
  refine ⟨_, (pss_cons (ps_set (i := 1) sc_alike.nd rfl (Or.inl rfl) (pe_call G_numbered hr rfl m_numbered k_numbered b_numbered .nil pass0 (pa_cons (pe_comp (caps := []) rfl (show CompSc (defScope s_alike) ["rows", "fold", "further"] _ _ _ from ⟨rfl, rfl, by decide +kernel, by decide +kernel, by decide +kernel, by decide +kernel, by decide +kernel⟩) (pi_list (pv 0)) (fun _ _ _ _ _ _ => pifs_nil) (fun _ _ _ _ _ _ => pe_ix (r := rIxT K) ix_tup (pv 0) pe_int (fun _ _ => rfl))) pa_nil)))
    (pss_cons (ps_set (i := 2) sc_alike.nd rfl (Or.inl rfl) (pe_call G_finer hr rfl m_finer k_finer b_finer .nil pass0 (pa_cons (pv 0) (pa_cons (pv 1) pa_nil))))
    (pss_cut (ps_while PassesOwn.never (pt_cmpR (op_neN hr.units) (pv 2) (pv 1) (nomark _))
      (pss_cons (ps_set (i := 1) sc_alike.nd rfl (Or.inl rfl) (pv 2))
      (pss_one (ps_set (i := 2) sc_alike.nd rfl (Or.inl rfl) (pe_call G_finer hr rfl m_finer k_finer b_finer .nil pass0 (pa_cons (pv 0) (pa_cons (pv 1) pa_nil)))))))
    (pss_one (ps_ret (pv 1)))))), ?_⟩
  have lrv := hA.length
  have lrows := T.len
  refine ⟨_, rfl, pt, rfl, ⟨_, SqL.of hpt⟩, ?_⟩
  refine comp_list (K := K) (a := pt) (xs := rv) (fun i acc H' => H' = H ∧ acc.length = i ∧ Al (fun v k => Tw.inn 0 H k v ∧ ∃ a : Addr, v = .ref a) acc ((List.range i).map fun k => wK (rowAt rows k).1)) ⟨rfl, rfl, .nil⟩ (fun i acc H' z => by rw [z.1]; exact SqL.of hpt) ?_ ?_
  · rintro i x acc H' hx ⟨rfl, la, hB⟩
    have hi : i < m := by
      have := (List.getElem?_eq_some_iff.mp hx).1
      omega
    obtain ⟨a, am, al, mv, hat, ha, hal, ham, hmv⟩ := row_in hA T hi
    rw [atI_nat hx] at hat
    obtain rfl := Option.some.inj hat
    refine ⟨_, rfl, a, _, _, _, rfl, rfl, SqT.of ha, rfl, by rw [sizeLine_eq]; omega, rfl, by rw [List.length_append, List.length_singleton, la], ?_⟩
    rw [List.range_succ, List.map_append]
    exact Al.snoc hB ⟨wd_inn ⟨al, rfl, hal⟩ 0, al, rfl⟩
  rintro acc H' ⟨rfl, la, hB⟩ pl hpl
  rw [show rv.length = m by omega] at hB
  have u2 := same_new hpl (.lst acc)
  refine ⟨KW, _, 1, Tw, by decide, pl, acc, _, rfl, upd_same, hB.mono fun _ _ z => ⟨Tw.mono z.1 (fun b xs g => u2 _ _ g), z.2⟩, by rw [List.length_map, List.length_range]; omega, fun pf H2 fold u3 npf hpf N => ?_⟩
  have S0 : Stg rows fold m e := Stg.first N
  have s2 := u2.trans u3
  refine ⟨_, rfl, _, rfl, pt, pf, rv, rows, m, e, fold, rfl, s2 _ _ hpt, hA.mono fun _ _ z => z.mono (KeepT.of s2), T, m200, e8, hpf, S0.len, fun pq H3 fold1 u4 npq hpq F1 => ?_⟩
  have s3 := s2.trans u4
  refine ⟨fun σ' H4 => ∃ (pf : Addr) (fold : List Nat), Same H' H4 ∧ H' pf = none ∧ H4 pf = some (.lst (natsV fold)) ∧ AlkOk rows fold m e ∧ ∃ o2 : Option V, σ' = [some (.ref pt), some (.ref pf), o2], ?_, ?_⟩
  · refine ⟨fun ms σ' H4 => ∃ (pf pq : Addr) (fold fold1 : List Nat), ms = m * m - fold.sum ∧ Same H' H4 ∧ H' pf = none ∧ H' pq = none ∧ H4 pf = some (.lst (natsV fold)) ∧ H4 pq = some (.lst (natsV fold1)) ∧ Stg rows fold m e ∧ FinOk rows fold fold1 m ∧ σ' = [some (.ref pt), some (.ref pf), some (.ref pq)],
      ⟨_, pf, pq, fold, fold1, rfl, s3, u2.free npf, s2.free npq, u4 _ _ hpf, hpq, S0, F1, rfl⟩, ?_⟩
    rintro ms σ' H4 ⟨pf, pq, fold, fold1, rfl, s4, nf, nq, h4f, h4q, S, F1, rfl⟩
    have l1 := S.len
    have l2 := F1.len
    refine ⟨_, rfl, _, rfl, pq, pf, fold1, fold, rfl, rfl, SqL.of h4q, SqL.of h4f, by omega, _, rfl, itB (fun c => ?_) (fun c => ?_)⟩
    · have ne : fold1 ≠ fold := fun z => by
        rw [decide_eq_true z] at c
        cases c
      have gr := S.grow F1 ne
      have S1 := S.next T F1
      have b1 := S1.bound
      refine ⟨fun σ' H5 => ∃ (pq' : Addr) (fold2 : List Nat), Same H' H5 ∧ H' pq' = none ∧ H5 pq = some (.lst (natsV fold1)) ∧ H5 pq' = some (.lst (natsV fold2)) ∧ FinOk rows fold1 fold2 m ∧ σ' = [some (.ref pt), some (.ref pq), some (.ref pq')], ?_, ?_⟩
      · rintro σ' H5 ⟨pq', fold2, z1, z2, z3, z4, z5, z6⟩
        exact ⟨m * m - fold1.sum, by omega, pq, pq', fold1, fold2, rfl, z1, nq, z2, z3, z4, S1, z5, z6⟩
      refine ⟨_, rfl, _, rfl, _, rfl, pt, pq, rv, rows, m, e, fold1, rfl, s4 _ _ hpt, hA.mono fun _ _ z => z.mono (KeepT.of s4), T, m200, e8, h4q, l2, fun pr H5 fold2 u5 npr hpr F2 => ?_⟩
      exact ⟨pr, fold2, s4.trans u5, s4.free npr, u5 _ _ h4q, hpr, F2, rfl⟩
    · have ee : fold1 = fold := by
        by_cases z : fold1 = fold
        · exact z
        · rw [decide_eq_false z] at c
          cases c
      subst ee
      exact ⟨pf, fold1, s4, nf, h4f, ⟨S.len, S.ord, fun a b ha hb => ⟨fun z p hp => S.last T F1 p a b ha hb z hp, fun z => S.alk a b ha hb z⟩⟩, _, rfl⟩
  rintro σ' H4 ⟨pf, fold, s4, nf, h4f, hK, o2, rfl⟩
  exact ⟨_, rfl, q pf H4 fold s4 nf h4f hK⟩
end
end Tb

namespace Tb
open PySem L2 Mix Gds
/-! the program's shrunk -/
structure Frs (fold fs : List Nat) (i : Nat) : Prop where
  own : ∀ (c : Nat) (h : c < fs.length), fs[c] < i ∧ fAt fold fs[c] = c
  low : ∀ k : Nat, k < i → fAt fold k < fs.length
section
variable {rows : List Row} {fold fs : List Nat} {m e i : Nat}
theorem Frs.init : Frs fold [] 0 := ⟨fun c h => absurd h (Nat.not_lt_zero _), fun k h => absurd h (Nat.not_lt_zero _)⟩
theorem Frs.old (F : Frs fold fs i) {j : Nat} (hj : j < i) (e : fAt fold j = fAt fold i) : Frs fold fs (i + 1) := by
  refine ⟨fun c h => ⟨Nat.lt_succ_of_lt (F.own c h).1, (F.own c h).2⟩, fun k hk => ?_⟩
  by_cases z : k = i
  · rw [z, ← e]
    exact F.low j hj
  · exact F.low k (by omega)
theorem Frs.new (A : AlkOk rows fold m e) (F : Frs fold fs i) (hi : i < m) (h : ∀ j : Nat, j < i → fAt fold j ≠ fAt fold i) : Frs fold (fs ++ [i]) (i + 1) := by
  have e1 : fAt fold i = fs.length := by
    rcases Nat.lt_trichotomy (fAt fold i) fs.length with z | z | z
    · have := F.own _ z
      exact absurd this.2 (h _ this.1)
    · exact z
    · obtain ⟨j, hj, ej⟩ := A.ord i hi _ z
      have := F.low j hj
      omega
  refine ⟨fun c hc => ?_, fun k hk => ?_⟩
  · by_cases z : c < fs.length
    · rw [List.getElem_append_left z]
      exact ⟨Nat.lt_succ_of_lt (F.own c z).1, (F.own c z).2⟩
    · have z2 : c = fs.length := by
        rw [List.length_append, List.length_singleton] at hc
        omega
      subst z2
      rw [List.getElem_append_right (Nat.le_refl _)]
      simp
      exact e1
  · rw [List.length_append, List.length_singleton]
    by_cases z : k = i
    · rw [z, e1]
      exact Nat.lt_succ_self _
    · exact Nat.lt_succ_of_lt (F.low k (by omega))
def smallOf (rows : List Row) (fold fs : List Nat) : List Row := fs.map fun k => ((rowAt rows k).1, fmv rows fold k)
theorem Frs.shr (T : TbOk rows m e) (A : AlkOk rows fold m e) (F : Frs fold fs m) : ShrOk rows fold (smallOf rows fold fs) m e fs.length := by
  have at' : ∀ (c : Nat) (h : c < fs.length), rowAt (smallOf rows fold fs) c = ((rowAt rows fs[c]).1, fmv rows fold fs[c]) := fun c h => by
    unfold rowAt smallOf
    rw [List.getD_eq_getElem?_getD, List.getElem?_map, List.getElem?_eq_getElem h]
    rfl
  refine ⟨A.len, fun k hk => F.low k hk, fun c hc => ⟨fs[c], (F.own c hc).1, (F.own c hc).2⟩, A.ord, A.alike, ⟨by unfold smallOf; rw [List.length_map], ?_, fun r hr => ?_⟩, fun k hk => ?_⟩
  · have := F.low 0 T.pos
    omega
  · obtain ⟨k, hk, rfl⟩ := List.mem_map.mp hr
    obtain ⟨c, hc, rfl⟩ := List.mem_iff_getElem.mp hk
    have hlt := (F.own c hc).1
    have ok := (T.at hlt).2
    refine ⟨ok.1, fmv_len T hlt, fun x hx => ?_⟩
    obtain ⟨y, hy, rfl⟩ := List.mem_map.mp hx
    have oky := ok.2.2 y hy
    exact ⟨oky.1, F.low _ oky.2⟩
  · have hlt := F.low k hk
    rw [at' _ hlt]
    have hf := F.own _ hlt
    have al := (A.alike _ k hf.1 hk).mp hf.2
    have e0 := al [] (fun x hx => by cases hx)
    rw [end_nil, end_nil] at e0
    injection e0 with e0 _
    refine Prod.ext e0 ?_
    show fmv rows fold fs[fAt fold k] = fmv rows fold k
    apply List.ext_getElem?
    intro x
    by_cases hx : x < e
    · rw [fmv_get T hf.1 hx, fmv_get T hk hx]
      have h1 := al [x] (fun y hy => by rw [List.mem_singleton.mp hy]; exact hx)
      rw [end_one, end_one] at h1
      injection h1 with h1 h2
      rw [h2, (A.alike _ _ (mv_lt T hf.1 hx) (mv_lt T hk hx)).mpr fun p hp => ?_]
      by_cases hp0 : p = []
      · rw [hp0, end_nil, end_nil, h1]
      · have h3 := al (x :: p) (fun y hy => by
          rcases List.mem_cons.mp hy with e1 | e1
          · rw [e1]
            exact hx
          · exact hp y e1)
        rw [end_cons rows x _ hp0, end_cons rows x k hp0] at h3
        exact h3
    · have la := fmv_len (fold := fold) T hf.1
      have lb := fmv_len (fold := fold) T hk
      rw [List.getElem?_eq_none (by omega), List.getElem?_eq_none (by omega)]
end
section
variable {P : Program} {w : World} {K : PySem.W.Frag} {mg : Str → Option Value} {base : Heap}
theorem sc_shrunk : FnScope ["rows", "fold", "firsts"] ["rows"] (defScope s_shrunk) := ⟨rfl, rfl, rfl, by decide +kernel, rfl, by decide +kernel, by decide +kernel⟩
theorem ok_shrunk {n0 : Nat} {f g1 g2 : Addr} {fd dg1 dg2 : FuncData} (F : Fun K "shrunk" "shrunk" s_shrunk f fd)
    (G_alike : FnOk P w K mg base CX0 n0 g1 dg1 ["rows"] spAlike) (b_alike : Binds K dg1 ["rows"] []) (k_alike : PySem.W.keepIn K (.ref g1) = true) (m_alike : mg "alike" = some (.ref g1))
    (G_folded_moves : FnOk P w K mg base CX0 n0 g2 dg2 ["row", "fold"] spFolded) (b_folded_moves : Binds K dg2 ["row", "fold"] []) (k_folded_moves : PySem.W.keepIn K (.ref g2) = true) (m_folded_moves : mg "folded_moves" = some (.ref g2))
    (m_enumerate : mg "enumerate" = none) : FnOk P w K mg base CX0 (n0 + 1) f fd ["rows"] spShrunk := by
  refine F.ok sc_shrunk (fun vs H Q E h => ?_) (fun cdv A outer s H vs Q E hr h => ?_)
  · obtain ⟨pt, rv, rows, m, e, rfl, _⟩ := h
    rfl
  obtain ⟨pt, rv, rows, m, e, rfl, hpt, hA, T, m200, e8, q⟩ := h
  refine ⟨_, (pss_cons (ps_set (i := 1) sc_shrunk.nd rfl (Or.inr rfl) (pe_call G_alike hr rfl m_alike k_alike b_alike .nil pass0 (pa_cons (pv 0) pa_nil)))
    (pss_cons (ps_setC2 (i := 2) (caps := [(1, "fold")]) rfl sc_shrunk.nd rfl (Or.inl rfl) (show CompSc2 (defScope s_shrunk) ["rows", "fold", "firsts"] _ _ _ _ from ⟨rfl, rfl, rfl, by decide +kernel, by decide +kernel, by decide +kernel, by decide +kernel, by decide +kernel⟩) (pi_enumL rfl m_enumerate (pa_cons (pv 1) pa_nil))
      (fun _ _ _ _ _ _ => pifs_one (pt_cmpR (r := rEq) op_eq (show PE _ _ (tBM K "list" rIdx _ _) from pe_bm PySem.F.plainAttrs_list PySem.F.slot_list_index PySem.F.type_list_index mt_index (pv 2) (pa_cons (pv 1) pa_nil)) (pv 0) (nomark _)))
      (fun _ _ _ _ _ _ => pv 0))
    (pss_one (ps_ret (pe_tup (pa_cons (pv 1) (pa_cons (pe_comp (caps := [(0, "rows"), (1, "fold")]) rfl (show CompSc (defScope s_shrunk) ["rows", "fold", "firsts"] _ _ _ from ⟨rfl, rfl, by decide +kernel, by decide +kernel, by decide +kernel, by decide +kernel, by decide +kernel⟩) (pi_list (pv 2)) (fun _ _ _ _ _ _ => pifs_nil)
      (fun _ _ _ _ _ _ => pe_tup (pa_cons (pe_ix (r := rIxT K) ix_tup (pe_ix (r := rIxL K) ix_list (pv 1) (pv 0) (fun _ _ => rfl)) pe_int (fun _ _ => rfl)) (pa_cons (pe_call G_folded_moves hr rfl m_folded_moves k_folded_moves b_folded_moves .nil pass0 (pa_cons (pe_ix (r := rIxL K) ix_list (pv 1) (pv 0) (fun _ _ => rfl)) (pa_cons (pv 2) pa_nil))) pa_nil)))) pa_nil))))))), ?_⟩
  refine ⟨_, rfl, pt, rv, rows, m, e, rfl, hpt, hA, T, m200, e8, fun pf H1 fold s1 npf h1f AK => ?_⟩
  have lf := AK.len
  refine ⟨_, rfl, pf, rfl, ⟨_, SqL.of h1f⟩, ?_⟩
  refine comp2_enumL (K := K) (a := pf) (xs := natsV fold) (fun i acc H' => ∃ fs : List Nat, Same H H' ∧ H' pf = some (.lst (natsV fold)) ∧ acc = natsV fs ∧ fs.length ≤ i ∧ Frs fold fs i) ⟨[], s1, h1f, rfl, Nat.le_refl _, Frs.init⟩ (fun i acc H' ⟨_, _, z, _⟩ => SqL.of z) ?_ ?_
  · rintro i x acc H' t hx ⟨fs, s2, h2f, rfl, lfs, FR⟩ ht
    obtain ⟨hi, rfl⟩ := nv_get hx
    have u3 := same_new ht (.tup [.int (i : Int), .int ((fold[i] : Nat) : Int)])
    have h3f := u3 _ _ h2f
    generalize upd H' t (.tup [.int (i : Int), .int ((fold[i] : Nat) : Int)]) = H3 at u3 h3f ⊢
    have s3 := s2.trans u3
    obtain ⟨j, hj, ej, hmin⟩ := first_at fold fold[i] i hi (fAt_get hi)
    have hji : j ≤ i := Nat.le_of_not_lt fun z => hmin i hi z rfl
    refine ⟨_, rfl, .inl ⟨rfl, _, SqL.of h3f⟩, _, rfl, pf, fold, _, j, rfl, rfl, h3f, ⟨hj, by rw [ej]⟩, (fun k hk lt z => hmin k hk lt (by omega)), by omega, _, rfl, rfl, _, rfl, itB (fun c => ?_) (fun c => ?_)⟩
    · have e1 : j = i := by
        have := of_decide_eq_true c
        injection this with this
        omega
      subst e1
      have nf : ∀ k : Nat, k < j → fAt fold k ≠ fAt fold j := fun k hk z => by
        rw [fAt_get (by omega), fAt_get hi] at z
        exact hmin k (by omega) hk z
      refine ⟨_, rfl, by rw [natsV_len, sizeLine_eq]; omega, fs ++ [j], s3, h3f, ?_, by rw [List.length_append, List.length_singleton]; omega, FR.new AK (by omega) nf⟩
      unfold natsV
      rw [List.map_append]
      rfl
    · have e1 : j ≠ i := fun z => by
        rw [z, decide_eq_true rfl] at c
        cases c
      exact ⟨fs, s3, h3f, rfl, by omega, FR.old (j := j) (by omega) (by rw [fAt_get hj, fAt_get hi, ej])⟩
  rintro acc H2 ⟨fs, s2, h2f, rfl, lfs, FR⟩ pz hpz
  rw [natsV_len, lf] at FR
  have lfs2 : fs.length ≤ m := by
    rw [natsV_len, lf] at lfs
    exact lfs
  have u3 := same_new hpz (.lst (natsV fs))
  have h3z : upd H2 pz (.lst (natsV fs)) pz = some (.lst (natsV fs)) := upd_same
  generalize upd H2 pz (.lst (natsV fs)) = H3 at u3 h3z ⊢
  have s3 := s2.trans u3
  refine ⟨_, rfl, _, rfl, pz, rfl, ⟨_, SqL.of h3z⟩, ?_⟩
  refine comp_list (K := K) (a := pz) (xs := natsV fs) (fun i acc H' => Same H H' ∧ H' pf = some (.lst (natsV fold)) ∧ H' pz = some (.lst (natsV fs)) ∧ acc.length = i ∧ Al (RwIn H') acc ((fs.take i).map fun k => ((rowAt rows k).1, fmv rows fold k))) ⟨s3, u3 _ _ h2f, h3z, rfl, .nil⟩ (fun i acc H' z => SqL.of z.2.2.1) ?_ ?_
  · rintro i x acc H' hx ⟨s4, h4f, h4z, la, hB⟩
    obtain ⟨hi, rfl⟩ := nv_get hx
    have hlt := (FR.own i hi).1
    have hk := List.getElem?_eq_getElem hi
    generalize fs[i] = k at hlt hk
    obtain ⟨a, am, al, mv, hat, ha, hal, ham, hmv⟩ := row_in (hA.mono fun _ _ z => z.mono (KeepT.of s4)) T hlt
    have okr := (T.at hlt).2
    refine ⟨_, rfl, _, rfl, pt, _, _, _, rfl, rfl, SqL.of (s4 _ _ hpt), hat, a, _, _, _, rfl, rfl, SqT.of ha, rfl, _, rfl, _, rfl, pt, _, _, _, rfl, rfl, SqL.of (s4 _ _ hpt), hat, _, rfl, a, pf, al, am, mv, (rowAt rows k).2, fold, rfl, ha, ham, hmv, h4f, fun z hz => by rw [lf]; exact (okr.2.2 z hz).2, by rw [okr.2.1]; omega, fun p H5 mv' u5 hp5 hmv5 => ?_⟩
    refine ⟨small_le (by show 2 ≤ 1000; decide), fun pl hpl => ?_⟩
    have u6 := same_new hpl (.tup [V.ref al, V.ref p])
    have u56 := u5.trans u6
    refine ⟨by rw [sizeLine_eq]; rw [natsV_len] at *; omega, s4.trans u56, u56 _ _ h4f, u56 _ _ h4z, by rw [List.length_append, List.length_singleton, la], ?_⟩
    rw [List.take_add_one, hk, List.map_append]
    exact Al.snoc (hB.mono fun _ _ z => z.mono (KeepT.of u56)) ⟨pl, p, .ref al, mv', rfl, upd_same, ⟨al, rfl, u56 _ _ hal⟩, u6 _ _ hp5, hmv5.mono fun _ _ z => z.mono (KeepT.of u6)⟩
  · rintro acc H4 ⟨s4, h4f, h4z, la, hB⟩ ps hps
    rw [List.take_of_length_le (by rw [natsV_len]; exact Nat.le_refl _)] at hB
    have u5 := same_new hps (.lst acc)
    have h5s : upd H4 ps (.lst acc) ps = some (.lst acc) := upd_same
    generalize upd H4 ps (.lst acc) = H5 at u5 h5s ⊢
    refine ⟨small_le (by show 2 ≤ 1000; decide), fun pq hpq => ?_⟩
    have u6 := same_new hpq (.tup [V.ref pf, V.ref ps])
    exact q pq pf ps acc fold (smallOf rows fold fs) fs.length _ (s4.trans (u5.trans u6)) npf (s4.free hps) (ne_of_none h4f hps) upd_same (u6 _ _ (u5 _ _ h4f)) (u6 _ _ h5s) (hB.mono fun _ _ z => z.mono (KeepT.of (u5.trans u6))) (FR.shr T AK)
end
end Tb

namespace Tb
open PySem L2 Mix Gds
/-! k39: a shrunken table shrunk again, the same table twice, the table turned round -/
section
variable {rows R2 small : List Row} {fold : List Nat} {m e n : Nat} {φ : Nat → Nat}
theorem mv_map (T : TbOk rows m e) (h : ∀ k : Nat, k < m → rowAt R2 (φ k) = ((rowAt rows k).1, (rowAt rows k).2.map fun mv => (mv.1, φ mv.2))) {k x : Nat} (hk : k < m) (hx : x < e) : mvAt R2 (φ k) x = ((mvAt rows k x).1, φ (mvAt rows k x).2) := by
  have ok := (T.at hk).2
  have hl : x < (rowAt rows k).2.length := by rw [ok.2.1]; exact hx
  unfold mvAt
  rw [h k hk]
  simp only [List.getD_eq_getElem?_getD, List.getElem?_map, List.getElem?_eq_getElem hl, Option.map_some, Option.getD_some]
theorem go_map (T : TbOk rows m e) (h : ∀ k : Nat, k < m → rowAt R2 (φ k) = ((rowAt rows k).1, (rowAt rows k).2.map fun mv => (mv.1, φ mv.2))) : ∀ (p : List Nat) (k : Nat) (ws : List Str), k < m → (∀ x ∈ p, x < e) → (goF rows p k ws).1 < m ∧ goF R2 p (φ k) ws = (φ (goF rows p k ws).1, (goF rows p k ws).2)
  | [], k, ws, hk, _ => ⟨hk, rfl⟩
  | x :: p, k, ws, hk, hp => by
    have hx := hp x (List.mem_cons_self ..)
    have ih := go_map T h p (mvAt rows k x).2 (mvAt rows k x).1 (mv_lt T hk hx) (fun y hy => hp y (List.mem_cons_of_mem _ hy))
    refine ⟨ih.1, ?_⟩
    have e1 : goF R2 (x :: p) (φ k) ws = goF R2 p (mvAt R2 (φ k) x).2 (mvAt R2 (φ k) x).1 := rfl
    rw [e1, mv_map T h hk hx]
    exact ih.2
theorem end_map (T : TbOk rows m e) (h : ∀ k : Nat, k < m → rowAt R2 (φ k) = ((rowAt rows k).1, (rowAt rows k).2.map fun mv => (mv.1, φ mv.2))) {k : Nat} {p : List Nat} (hk : k < m) (hp : ∀ x ∈ p, x < e) : endOf R2 (φ k) p = endOf rows k p := by
  have g := go_map T h p k [] hk hp
  unfold endOf
  rw [g.2]
  show ((rowAt R2 (φ (goF rows p k []).1)).1, _) = _
  rw [h _ g.1]
theorem fAt_range {n k : Nat} (h : k < n) : fAt (List.range n) k = k := by
  rw [fAt_get (by rw [List.length_range]; exact h), List.getElem_range]
theorem ShrOk.again (T : TbOk rows m e) (S : ShrOk rows fold small m e n) : ShrOk small (List.range n) small n e n where
  len := List.length_range
  lt := fun k hk => by rw [fAt_range hk]; exact hk
  onto := fun c hc => ⟨c, hc, fAt_range hc⟩
  ord := fun k hk c hc => by
    rw [fAt_range hk] at hc
    exact ⟨c, hc, fAt_range (by omega)⟩
  alike := fun a b ha hb => by
    rw [fAt_range ha, fAt_range hb]
    constructor
    · rintro rfl p _
      rfl
    · intro h
      obtain ⟨ka, hka, rfl⟩ := S.onto a ha
      obtain ⟨kb, hkb, rfl⟩ := S.onto b hb
      refine (S.alike ka kb hka hkb).mpr fun p hp => ?_
      rw [← end_map T S.row hka hp, ← end_map T S.row hkb hp]
      exact h p hp
  tab := S.tab
  row := fun k hk => by
    rw [fAt_range hk]
    refine Prod.ext rfl ?_
    show (rowAt small k).2 = (rowAt small k).2.map fun mv => (mv.1, fAt (List.range n) mv.2)
    have : ∀ mv ∈ (rowAt small k).2, (fun mv : List Str × Nat => (mv.1, fAt (List.range n) mv.2)) mv = id mv := fun mv hmv => by
      show (mv.1, fAt (List.range n) mv.2) = mv
      rw [fAt_range ((S.tab.at hk).2.2.2 mv hmv).2]
    rw [List.map_congr_left this, List.map_id]
theorem fAt_left {xs ys : List Nat} {k : Nat} (h : k < xs.length) : fAt (xs ++ ys) k = fAt xs k := by
  unfold fAt
  rw [List.getD_eq_getElem?_getD, List.getD_eq_getElem?_getD, List.getElem?_append_left h]
theorem fAt_right {xs ys : List Nat} {k : Nat} : fAt (xs ++ ys) (xs.length + k) = fAt ys k := by
  unfold fAt
  rw [List.getD_eq_getElem?_getD, List.getD_eq_getElem?_getD, List.getElem?_append_right (by omega), Nat.add_sub_cancel_left]
/-- the same table twice -/
theorem ShrOk.twice (T : TbOk rows m e) (S : ShrOk rows fold small m e n) (h1 : ∀ k : Nat, k < m → rowAt R2 k = rowAt rows k) (h2 : ∀ k : Nat, k < m → rowAt R2 (m + k) = ((rowAt rows k).1, (rowAt rows k).2.map fun mv => (mv.1, m + mv.2))) : ShrOk R2 (fold ++ fold) small (m + m) e n := by
  have lf := S.len
  have fl : ∀ k : Nat, k < m → fAt (fold ++ fold) k = fAt fold k := fun k hk => fAt_left (by omega)
  have fr : ∀ k : Nat, fAt (fold ++ fold) (m + k) = fAt fold k := fun k => by
    have := fAt_right (xs := fold) (ys := fold) (k := k)
    rw [lf] at this
    exact this
  have e1 : ∀ (k : Nat) (p : List Nat), k < m → (∀ x ∈ p, x < e) → endOf R2 k p = endOf rows k p := fun k p hk hp => by
    refine end_map (φ := fun k => k) T (fun k hk => ?_) hk hp
    rw [h1 k hk]
    exact Prod.ext rfl (List.map_id _).symm
  have e2 : ∀ (k : Nat) (p : List Nat), k < m → (∀ x ∈ p, x < e) → endOf R2 (m + k) p = endOf rows k p := fun k p hk hp => end_map (φ := fun k => m + k) T h2 hk hp
  have red : ∀ k : Nat, k < m + m → ∃ j : Nat, j < m ∧ fAt (fold ++ fold) k = fAt fold j ∧ (k = j ∨ k = m + j) ∧ ∀ p : List Nat, (∀ x ∈ p, x < e) → endOf R2 k p = endOf rows j p := fun k hk => by
    by_cases z : k < m
    · exact ⟨k, z, fl k z, .inl rfl, fun p hp => e1 k p z hp⟩
    · have ek : k = m + (k - m) := by omega
      refine ⟨k - m, by omega, ?_, .inr ek, fun p hp => ?_⟩
      · conv => lhs; rw [ek]
        exact fr _
      · conv => lhs; rw [ek]
        exact e2 _ p (by omega) hp
  refine ⟨by simp [lf], fun k hk => ?_, fun c hc => ?_, fun k hk c hc => ?_, fun a b ha hb => ?_, S.tab, fun k hk => ?_⟩
  · obtain ⟨j, hj, ej, _⟩ := red k hk
    rw [ej]
    exact S.lt j hj
  · obtain ⟨k, hk, ek⟩ := S.onto c hc
    exact ⟨k, by omega, by rw [fl k hk]; exact ek⟩
  · obtain ⟨j, hj, ej, ek, _⟩ := red k hk
    rw [ej] at hc
    obtain ⟨i, hi, ei⟩ := S.ord j hj c hc
    exact ⟨i, by omega, by rw [fl i (by omega)]; exact ei⟩
  · obtain ⟨ja, hja, eja, _, ea⟩ := red a ha
    obtain ⟨jb, hjb, ejb, _, eb⟩ := red b hb
    rw [eja, ejb, S.alike ja jb hja hjb]
    constructor
    · intro h p hp
      rw [ea p hp, eb p hp]
      exact h p hp
    · intro h p hp
      rw [← ea p hp, ← eb p hp]
      exact h p hp
  · by_cases z : k < m
    · rw [fl k z, S.row k z, h1 k z]
      refine Prod.ext rfl (List.map_congr_left fun mv hmv => ?_)
      rw [fl mv.2 ((T.at z).2.2.2 mv hmv).2]
    · have ek : k = m + (k - m) := by omega
      have hk' : k - m < m := by omega
      generalize k - m = j at ek hk'
      subst ek
      rw [fr, S.row j hk', h2 j hk']
      refine Prod.ext rfl ?_
      show _ = List.map _ (List.map _ _)
      rw [List.map_map]
      refine List.map_congr_left fun mv _ => ?_
      show (mv.1, fAt fold mv.2) = (mv.1, fAt (fold ++ fold) (m + mv.2))
      rw [fr]
/-- the table turned round: rows become one just where they did -/
theorem ShrOk.turned {fold' : List Nat} {small' : List Row} {n' : Nat} (T : TbOk rows m e) (S : ShrOk rows fold small m e n) (S' : ShrOk R2 fold' small' m e n') (h : ∀ k : Nat, k < m → rowAt R2 (m - 1 - k) = ((rowAt rows k).1, (rowAt rows k).2.map fun mv => (mv.1, m - 1 - mv.2))) (a b : Nat) (ha : a < m) (hb : b < m) : fAt fold a = fAt fold b ↔ fAt fold' (m - 1 - a) = fAt fold' (m - 1 - b) := by
  rw [S.alike a b ha hb, S'.alike (m - 1 - a) (m - 1 - b) (by omega) (by omega)]
  constructor
  · intro z p hp
    rw [end_map (φ := fun k => m - 1 - k) T h ha hp, end_map (φ := fun k => m - 1 - k) T h hb hp]
    exact z p hp
  · intro z p hp
    rw [← end_map (φ := fun k => m - 1 - k) T h ha hp, ← end_map (φ := fun k => m - 1 - k) T h hb hp]
    exact z p hp
end
end Tb

namespace Tb
open PySem L2 Mix Gds
/-! k39: rows by the cells, rows shifted -/
def spOwn (K : PySem.W.Frag) : Sp := fun vs H Q _ => ∃ (a : Addr) (ns : List Int) (k : Int) (m e : Nat), vs = [.ref a, .int k, .int (m : Int), .int (e : Int)] ∧ SqL K H a (ns.map V.int) ∧ ns.length ≤ 63 ∧ (0 ≤ k ∧ k ≤ 1000) ∧ 1 ≤ m ∧ m ≤ 200 ∧ e ≤ 8 ∧ ∀ (v : V) (r : Row) (H' : Hp), Same H H' → RwIn H' v r → RwOk 3 m e r → Q v H'
def spShifted : Sp := fun vs H Q _ => ∃ (v : V) (r : Row) (b s : Int) (φ : Nat → Nat) (m e : Nat), vs = [v, .int b, .int s] ∧ RwIn H v r ∧ RwOk 3 m e r ∧ e ≤ 8 ∧ (-1 ≤ s ∧ s ≤ 1) ∧ (∀ x : Nat, x < m → b + s * (x : Int) = (φ x : Int)) ∧ ∀ (u : V) (H' : Hp), Same H H' → RwIn H' u (r.1, r.2.map fun mv => (mv.1, φ mv.2)) → Q u H'
section
variable {X : Cx} {e : Expr} {es : List Expr} {te : TE} {t : TA} {pos : Pos}
theorem r_tup {x1} (h : RA X es t) : RE X (.Tuple es x1 pos) (tTup t) := ⟨pe_tup h.p⟩
theorem r_for {tg iter : Expr} {body : List Stmt} {wi : TI} {g : TG} {tb : TS} (hp : PassesOwn (model X.prog X.w) X.A X.env X.xe) (hc : X.calm = true) (hi : PI X tg iter wi) (hg : PG X tg g) (hb : RSs X body tb) (hs : ∀ x, foldedSetIterable iter X.env x = pure x := by intro _; rfl) : RS X (.For tg iter body [] pos) (tFor wi g tb) := ⟨ps_for hp hc hi hg hb.p hs⟩
theorem ra_nil : RA X [] tNil := ⟨pa_nil⟩
theorem ra_cons (ha : RE X e te) (hr : RA X es t) (hs : starEach (e :: es) X.env = (false, eval e X.env) :: starEach es X.env := by rfl) : RA X (e :: es) (tCons te t) := ⟨pa_cons ha.p hr.p hs⟩
end
section
variable {P : Program} {w : World} {K : PySem.W.Frag} {mg : Str → Option Value} {base : Heap}
theorem sc_law_own_row : FnScope ["_law_script", "_law_k", "_law_many", "_law_events", "_law_number", "_law_moves", "_law_e", "_law_part", "_law_words"] ["_law_script", "_law_k", "_law_many", "_law_events"] (defScope s_L_own_row) := ⟨rfl, rfl, rfl, by decide +kernel, rfl, by decide +kernel, by decide +kernel⟩
theorem ok_own {f g1 : Addr} {fd d1 : FuncData} (F : Fun K "_law_own_row" "_law_own_row" s_L_own_row f fd) (G_law_cell : FnOk P w K mg base CX0 2 g1 d1 ["_law_script", "_law_k", "_law_salt"] (spLCell K)) (b_law_cell : Binds K d1 ["_law_script", "_law_k", "_law_salt"] []) (k_law_cell : PySem.W.keepIn K (.ref g1) = true) (m_law_cell : mg "_law_cell" = some (.ref g1))
    (m_range : mg "range" = none) (m_tuple : mg "tuple" = none) : FnOk P w K mg base CX0 3 f fd ["_law_script", "_law_k", "_law_many", "_law_events"] (spOwn K) := by
  refine F.ok sc_law_own_row (fun vs H Q E h => ?_) (fun cdv A outer s H vs Q E hr h => ?_)
  · obtain ⟨a, ns, k, m, e, rfl, _⟩ := h
    rfl
  obtain ⟨a, ns, k, m, e, rfl, hS, h63, ⟨k0, k1⟩, m1, m200, e8, q⟩ := h
  refine ⟨_, RSs.p (r_cons (r_st (ps_set (i := 4) sc_law_own_row.nd rfl (Or.inl rfl) (pe_call G_law_cell hr rfl m_law_cell k_law_cell b_law_cell .nil pass0 (pa_cons (pv 0) (pa_cons (pe_op op_add (pv 1) pe_int) (pa_cons pe_int pa_nil))))))
    (r_cons (r_st (ps_set (i := 5) sc_law_own_row.nd rfl (Or.inl rfl) (pe_lst pa_nil)))
    (r_cut (r_for PassesOwn.never rfl (pi_range1 rfl m_range (pa_cons (pv 3) pa_nil)) (pg_name (i := 6) sc_law_own_row.nd rfl (Or.inl rfl))
      (r_cons (r_st (ps_set (i := 7) sc_law_own_row.nd rfl (Or.inl rfl) (pe_call G_law_cell hr rfl m_law_cell k_law_cell b_law_cell .nil pass0 (pa_cons (pv 0) (pa_cons (pe_op op_add (pv 1) pe_int) (pa_cons (pe_op op_add pe_int (pv 6)) pa_nil))))))
      (r_cons (r_set (i := 8) sc_law_own_row.nd rfl (Or.inl rfl) (r_ixL (r_lst (ra_cons (r_tup ra_nil) (ra_cons (r_tup ra_nil) (ra_cons (r_tup (ra_con (vs := [.str "aa", .str "b"]) (by rfl))) (ra_cons (r_tup (ra_con (vs := [.str "a", .str "ab"]) (by rfl))) ra_nil))))) (pe_op op_mod (pv 7) pe_int) (fun _ _ => rfl)))
      (r_one (r_st (ps_expr (pe_bm PySem.F.plainAttrs_list PySem.F.slot_list_append PySem.F.type_list_append mt_append (pv 5) (pa_cons (pe_tup (pa_cons (pv 8) (pa_cons (pe_op op_mod (pe_op op_fdiv (pv 7) pe_int) (pv 2)) pa_nil))) pa_nil))))))))
    (r_one (r_ret (r_tup (ra_cons (r_ixL (r_lst (ra_cons (r_tup ra_nil) (ra_cons (r_tup ra_nil) (ra_cons (r_tup ra_nil) (ra_cons (r_tup (ra_con (vs := [.str "green"]) (by rfl))) ra_nil))))) (pe_op op_mod (pv 4) pe_int) (fun _ _ => rfl)) (ra_cons (r_e (pe_callTy call_tuple_of rfl m_tuple PyProof.Rows.boot_tuple (pa_cons (pv 5) pa_nil))) ra_nil)))))))), ?_⟩
  refine ⟨_, rfl, _, rfl, _, _, rfl, rfl, a, ns, _, _, rfl, hS, h63, ⟨by omega, by omega⟩, ⟨by decide, by decide⟩, fun N N0 N1 => ?_⟩
  refine ⟨Nat.zero_le _, fun pm hpm => ?_⟩
  have s1 := same_new hpm (.lst [])
  refine ⟨fun σ' H' => ∃ (mv : List V) (ms : List (List Str × Nat)), Same H H' ∧ H' pm = some (.lst mv) ∧ Al (MvIn H') mv ms ∧ ms.length = e ∧ (∀ x ∈ ms, x.1.length ≤ 3 ∧ x.2 < m) ∧ ∃ o6 o7 o8 : Option V, σ' = [some (.ref a), some (.int k), some (.int (m : Int)), some (.int (e : Int)), some (.int N), some (.ref pm), o6, o7, o8], ?_, ?_⟩
  · refine ⟨_, rfl, _, rfl, by omega, by omega, ?_⟩
    refine for_range (fun i σ' H' => ∃ (mv : List V) (ms : List (List Str × Nat)), Same H H' ∧ H' pm = some (.lst mv) ∧ Al (MvIn H') mv ms ∧ ms.length = i ∧ (∀ x ∈ ms, x.1.length ≤ 3 ∧ x.2 < m) ∧ ∃ o6 o7 o8 : Option V, σ' = [some (.ref a), some (.int k), some (.int (m : Int)), some (.int (e : Int)), some (.int N), some (.ref pm), o6, o7, o8])
      ⟨[], [], s1, upd_same, .nil, rfl, (fun x h => by cases h), _, _, _, rfl⟩ ?_ ?_
    · rintro i σ' H2 hi ⟨mv, ms, s2, h2, hA, lms, hms, o6, o7, o8, rfl⟩
      have hi' : i < e := by
        simp only [Int.toNat_natCast] at hi
        exact hi
      have lmv := hA.length
      refine ⟨_, rfl, _, rfl, _, _, rfl, rfl, _, rfl, _, _, rfl, rfl, a, ns, _, _, rfl, s2.seq hS, h63, ⟨by omega, by omega⟩, ⟨by omega, by omega⟩, fun x x0 x1 => ?_⟩
      refine ⟨Nat.zero_le _, fun q1 hq1 => ?_⟩
      have u1 := same_new hq1 (.tup [])
      have i1 : upd H2 q1 (.tup []) q1 = some (.tup []) := upd_same
      generalize upd H2 q1 (.tup []) = Ha at u1 i1 ⊢
      refine ⟨Nat.zero_le _, fun q2 hq2 => ?_⟩
      have u2 := same_new hq2 (.tup [])
      have i2 : upd Ha q2 (.tup []) q2 = some (.tup []) := upd_same
      generalize upd Ha q2 (.tup []) = Hb at u2 i2 ⊢
      refine ⟨small_le (by show 2 ≤ 1000; decide), fun q3 hq3 => ?_⟩
      have u3 := same_new hq3 (.tup [V.str ("aa" : Str), V.str ("b" : Str)])
      have i3 : upd Hb q3 (.tup [V.str ("aa" : Str), V.str ("b" : Str)]) q3 = some (.tup [V.str ("aa" : Str), V.str ("b" : Str)]) := upd_same
      generalize upd Hb q3 (.tup [V.str ("aa" : Str), V.str ("b" : Str)]) = Hc at u3 i3 ⊢
      refine ⟨small_le (by show 2 ≤ 1000; decide), fun q4 hq4 => ?_⟩
      have u4 := same_new hq4 (.tup [V.str ("a" : Str), V.str ("ab" : Str)])
      have i4 : upd Hc q4 (.tup [V.str ("a" : Str), V.str ("ab" : Str)]) q4 = some (.tup [V.str ("a" : Str), V.str ("ab" : Str)]) := upd_same
      generalize upd Hc q4 (.tup [V.str ("a" : Str), V.str ("ab" : Str)]) = Hd at u4 i4 ⊢
      refine ⟨small_le (by show 4 ≤ 1000; decide), fun q5 hq5 => ?_⟩
      have u5 := same_new hq5 (.lst [V.ref q1, V.ref q2, V.ref q3, V.ref q4])
      have i5 : upd Hd q5 (.lst [V.ref q1, V.ref q2, V.ref q3, V.ref q4]) q5 = some (.lst [V.ref q1, V.ref q2, V.ref q3, V.ref q4]) := upd_same
      generalize upd Hd q5 (.lst [V.ref q1, V.ref q2, V.ref q3, V.ref q4]) = He at u5 i5 ⊢
      have sae := u1.trans (u2.trans (u3.trans (u4.trans u5)))
      obtain ⟨v4, hv4, hat4⟩ := atI_some (xs := [V.ref q1, V.ref q2, V.ref q3, V.ref q4]) (i := x % 4) (by omega) (by show x % 4 < 4; omega)
      obtain ⟨ws, hw, lw⟩ : ∃ ws : List Str, WdIn He v4 ws ∧ ws.length ≤ 3 := by
        simp only [List.mem_cons, List.not_mem_nil, or_false] at hv4
        rcases hv4 with rfl | rfl | rfl | rfl
        · exact ⟨[], ⟨q1, rfl, (u2.trans (u3.trans (u4.trans u5))) _ _ i1⟩, by decide⟩
        · exact ⟨[], ⟨q2, rfl, (u3.trans (u4.trans u5)) _ _ i2⟩, by decide⟩
        · exact ⟨["aa", "b"], ⟨q3, rfl, (u4.trans u5) _ _ i3⟩, by decide⟩
        · exact ⟨["a", "ab"], ⟨q4, rfl, u5 _ _ i4⟩, by decide⟩
      refine ⟨_, rfl, _, _, rfl, rfl, (by show (0 : Int) < 4; decide), q5, _, _, _, rfl, rfl, SqL.of i5, hat4, ?_⟩
      have g0 := Int.emod_nonneg (x / 4) (show (m : Int) ≠ 0 by omega)
      have g1 := Int.emod_lt_of_pos (x / 4) (show (0 : Int) < (m : Int) by omega)
      obtain ⟨g, hg, gm⟩ : ∃ g : Nat, x / 4 % (m : Int) = (g : Int) ∧ g < m := ⟨(x / 4 % (m : Int)).toNat, by omega, by omega⟩
      refine ⟨_, rfl, .inl ⟨rfl, _, SqL.of (sae _ _ h2)⟩, _, rfl, _, rfl, _, _, rfl, rfl, ⟨by decide, by decide⟩, _, rfl, _, _, rfl, rfl, (by show (0 : Int) < (m : Int); omega), small_le (by show 2 ≤ 1000; decide), fun p4 hp4 => ?_⟩
      have u6 := sae.trans (same_new hp4 (.tup [v4, .int (x / 4 % (m : Int))]))
      have h4 := u6 _ _ h2
      have kl := KeepT.lst h4 (.lst (mv ++ [.ref p4]))
      refine ⟨pm, _, _, rfl, rfl, h4, small1000 (by omega), mv ++ [.ref p4], ms ++ [(ws, g)], same_upd hpm (s2.trans u6) _, upd_same, Al.snoc (hA.mono fun _ _ z => z.mono ((KeepT.of u6).trans kl)) ⟨p4, v4, rfl, (by rw [← hg]; exact kl _ _ upd_same), hw.mono ((KeepT.new hp4 _).trans kl)⟩, by simp [lms], fun x hx => ?_, _, _, _, rfl⟩
      rcases List.mem_append.mp hx with h | h
      · exact hms x h
      · rw [List.mem_singleton.mp h]
        exact ⟨lw, gm⟩
    · rintro σ' H2 ⟨mv, ms, s2, h2, hA, lms, r⟩
      rw [Int.toNat_natCast] at lms
      exact ⟨mv, ms, s2, h2, hA, lms, r⟩
  rintro σ2 H2 ⟨mv, ms, s2, h2, hA, lms, hms, o6, o7, o8, rfl⟩
  refine ⟨Nat.zero_le _, fun q1 hq1 => ?_⟩
  have u1 := same_new hq1 (.tup [])
  have i1 : upd H2 q1 (.tup []) q1 = some (.tup []) := upd_same
  generalize upd H2 q1 (.tup []) = Ha at u1 i1 ⊢
  refine ⟨Nat.zero_le _, fun q2 hq2 => ?_⟩
  have u2 := same_new hq2 (.tup [])
  have i2 : upd Ha q2 (.tup []) q2 = some (.tup []) := upd_same
  generalize upd Ha q2 (.tup []) = Hb at u2 i2 ⊢
  refine ⟨Nat.zero_le _, fun q3 hq3 => ?_⟩
  have u3 := same_new hq3 (.tup [])
  have i3 : upd Hb q3 (.tup []) q3 = some (.tup []) := upd_same
  generalize upd Hb q3 (.tup []) = Hc at u3 i3 ⊢
  refine ⟨small_le (by show 1 ≤ 1000; decide), fun q4 hq4 => ?_⟩
  have u4 := same_new hq4 (.tup [V.str ("green" : Str)])
  have i4 : upd Hc q4 (.tup [V.str ("green" : Str)]) q4 = some (.tup [V.str ("green" : Str)]) := upd_same
  generalize upd Hc q4 (.tup [V.str ("green" : Str)]) = Hd at u4 i4 ⊢
  refine ⟨small_le (by show 4 ≤ 1000; decide), fun q5 hq5 => ?_⟩
  have u5 := same_new hq5 (.lst [V.ref q1, V.ref q2, V.ref q3, V.ref q4])
  have i5 : upd Hd q5 (.lst [V.ref q1, V.ref q2, V.ref q3, V.ref q4]) q5 = some (.lst [V.ref q1, V.ref q2, V.ref q3, V.ref q4]) := upd_same
  generalize upd Hd q5 (.lst [V.ref q1, V.ref q2, V.ref q3, V.ref q4]) = He at u5 i5 ⊢
  have sae := u1.trans (u2.trans (u3.trans (u4.trans u5)))
  obtain ⟨v4, hv4, hat4⟩ := atI_some (xs := [V.ref q1, V.ref q2, V.ref q3, V.ref q4]) (i := N % 4) (by omega) (by show N % 4 < 4; omega)
  obtain ⟨ws, hw, lw⟩ : ∃ ws : List Str, WdIn He v4 ws ∧ ws.length ≤ 3 := by
    simp only [List.mem_cons, List.not_mem_nil, or_false] at hv4
    rcases hv4 with rfl | rfl | rfl | rfl
    · exact ⟨[], ⟨q1, rfl, (u2.trans (u3.trans (u4.trans u5))) _ _ i1⟩, by decide⟩
    · exact ⟨[], ⟨q2, rfl, (u3.trans (u4.trans u5)) _ _ i2⟩, by decide⟩
    · exact ⟨[], ⟨q3, rfl, (u4.trans u5) _ _ i3⟩, by decide⟩
    · exact ⟨["green"], ⟨q4, rfl, u5 _ _ i4⟩, by decide⟩
  refine ⟨_, rfl, _, _, rfl, rfl, (by show (0 : Int) < 4; decide), q5, _, _, _, rfl, rfl, SqL.of i5, hat4, ?_⟩
  refine ⟨_, rfl, pm, _, rfl, .inl ⟨SqL.of (sae _ _ h2), fun p4 hp4 => ⟨small_le (by show 2 ≤ 1000; decide), fun p5 hp5 => ?_⟩⟩⟩
  have w4 := same_new hp4 (.tup mv)
  have w5 := same_new hp5 (.tup [v4, .ref p4])
  have h4 := w5 _ _ (show upd He p4 (.tup mv) p4 = some (.tup mv) from upd_same)
  have t45 := w4.trans w5
  exact q (.ref p5) (ws, ms) _ ((s2.trans sae).trans t45) ⟨p5, p4, v4, mv, rfl, upd_same, hw.mono (KeepT.of t45), h4, hA.mono fun _ _ z => z.mono (KeepT.of (sae.trans t45))⟩ ⟨lw, lms, hms⟩
end
end Tb

namespace Tb
open PySem L2 Mix Gds
section
variable {P : Program} {w : World} {K : PySem.W.Frag} {mg : Str → Option Value} {base : Heap}
theorem sc_law_shifted : FnScope ["_law_row", "_law_by", "_law_sign", "_law_moves", "_law_move"] ["_law_row", "_law_by", "_law_sign"] (defScope s_L_shifted) := ⟨rfl, rfl, rfl, by decide +kernel, rfl, by decide +kernel, by decide +kernel⟩
theorem ok_shifted {f : Addr} {fd : FuncData} (F : Fun K "_law_shifted" "_law_shifted" s_L_shifted f fd) (m_tuple : mg "tuple" = none) : FnOk P w K mg base CX0 1 f fd ["_law_row", "_law_by", "_law_sign"] spShifted := by
  refine F.ok sc_law_shifted (fun vs H Q E h => ?_) (fun cdv A outer s H vs Q E hr h => ?_)
  · obtain ⟨v, r, b, s, φ, m, e, rfl, _⟩ := h
    rfl
  obtain ⟨v, r, b, s, φ, m, e, rfl, ⟨pr, am, l, mw, rfl, hpr, hl, ham, hmw⟩, rok, e8, ⟨s0, s1⟩, hφ, q⟩ := h
  refine ⟨_, (pss_cons (ps_set (i := 3) sc_law_shifted.nd rfl (Or.inl rfl) (pe_lst pa_nil))
    (pss_cut (ps_for PassesOwn.never rfl (pi_tup (pe_ix ix_tup (pv 0) pe_int (fun _ _ => rfl))) (pg_name (i := 4) sc_law_shifted.nd rfl (Or.inl rfl))
      (pss_one (ps_expr (pe_bm PySem.F.plainAttrs_list PySem.F.slot_list_append PySem.F.type_list_append mt_append (pv 3) (pa_cons (pe_tup (pa_cons (pe_ix ix_tup (pv 4) pe_int (fun _ _ => rfl)) (pa_cons (pe_op op_add (pv 1) (pe_op op_mul (pv 2) (pe_ix ix_tup (pv 4) pe_int (fun _ _ => rfl)))) pa_nil))) pa_nil)))))
    (pss_one (ps_ret (pe_tup (pa_cons (pe_ix ix_tup (pv 0) pe_int (fun _ _ => rfl)) (pa_cons (pe_callTy call_tuple_of rfl m_tuple PyProof.Rows.boot_tuple (pa_cons (pv 3) pa_nil)) pa_nil))))))), ?_⟩
  have lm := hmw.length
  have lr := rok.2.1
  refine ⟨Nat.zero_le _, fun pm hpm => ?_⟩
  have n1 := same_new hpm (.lst [])
  refine ⟨fun σ' H' => ∃ mv : List V, Same H H' ∧ H' pm = some (.lst mv) ∧ Al (MvIn H') mv (r.2.map fun z => (z.1, φ z.2)) ∧ ∃ o4 : Option V, σ' = [some (.ref pr), some (.int b), some (.int s), some (.ref pm), o4], ?_, ?_⟩
  · refine ⟨_, rfl, pr, _, _, _, rfl, rfl, SqT.of (n1 _ _ hpr), rfl, am, rfl, ⟨_, SqT.of (n1 _ _ ham)⟩, ?_⟩
    refine for_tup (K := K) (a := am) (xs := mw) (fun i σ' H' => ∃ mv : List V, Same H H' ∧ H' pm = some (.lst mv) ∧ Al (MvIn H') mv ((r.2.take i).map fun z => (z.1, φ z.2)) ∧ ∃ o4 : Option V, σ' = [some (.ref pr), some (.int b), some (.int s), some (.ref pm), o4]) ⟨[], n1, upd_same, .nil, _, rfl⟩ (fun i σ' H' _ ⟨mv, z, _⟩ => SqT.of (z _ _ ham)) ?_ ?_
    · rintro i y σ' H2 hy ⟨mv, s2, h2, hA, o4, rfl⟩
      have hi : i < r.2.length := by
        have := (List.getElem?_eq_some_iff.mp hy).1
        omega
      have er := List.getElem?_eq_getElem hi
      obtain ⟨y', hy', p1, wv, rfl, hp1, hwv⟩ := hmw.get er
      rw [hy] at hy'
      obtain rfl := Option.some.inj hy'
      have lmv := hA.length
      rw [List.length_map, List.length_take] at lmv
      have mx := (rok.2.2 _ (List.getElem_mem hi)).2
      have hp1' := s2 _ _ hp1
      have cm : CMul s ((r.2[i].2 : Nat) : Int) := .inl ⟨by omega, by omega⟩
      refine ⟨_, rfl, .inl ⟨rfl, _, SqL.of h2⟩, _, rfl, p1, _, _, _, rfl, rfl, SqT.of hp1', rfl, _, rfl, _, rfl, _, rfl, p1, _, _, _, rfl, rfl, SqT.of hp1', rfl, _, _, rfl, rfl, cm, _, _, rfl, rfl, small_le (by show 2 ≤ 1000; decide), fun p4 hp4 => ?_⟩
      have e4 := hφ _ mx
      have u4 := same_new hp4 (.tup [wv, .int (b + s * ((r.2[i].2 : Nat) : Int))])
      have h4 := u4 _ _ h2
      have kl := KeepT.lst h4 (.lst (mv ++ [.ref p4]))
      refine ⟨pm, _, _, rfl, rfl, h4, small1000 (by omega), mv ++ [.ref p4], same_upd hpm (s2.trans u4) _, upd_same, ?_, _, rfl⟩
      rw [List.take_add_one, er, List.map_append]
      refine Al.snoc (hA.mono fun _ _ z => z.mono ((KeepT.of u4).trans kl)) ⟨p4, wv, rfl, ?_, hwv.mono ((KeepT.of (s2.trans u4)).trans kl)⟩
      show _ = some (HO.tup [wv, V.int ((φ r.2[i].2 : Nat) : Int)])
      rw [← e4]
      exact kl _ _ upd_same
    · rintro σ' H2 ⟨mv, s2, h2, hA, o4, rfl⟩
      rw [List.take_of_length_le (by omega)] at hA
      exact ⟨mv, s2, h2, hA, _, rfl⟩
  rintro σ2 H2 ⟨mv, s2, h2, hA, o4, rfl⟩
  refine ⟨_, rfl, pr, _, _, _, rfl, rfl, SqT.of (s2 _ _ hpr), rfl, _, rfl, pm, _, rfl, .inl ⟨SqL.of h2, fun p4 hp4 => ⟨small_le (by show 2 ≤ 1000; decide), fun p5 hp5 => ?_⟩⟩⟩
  have u4 := same_new hp4 (.tup mv)
  have u5 := same_new hp5 (.tup [l, .ref p4])
  have h4 := u5 _ _ (show upd H2 p4 (.tup mv) p4 = some (.tup mv) from upd_same)
  have t45 := u4.trans u5
  exact q (.ref p5) _ (s2.trans t45) ⟨p5, p4, l, mv, rfl, upd_same, hl.mono (KeepT.of (s2.trans t45)), h4, hA.mono fun _ _ z => z.mono (KeepT.of t45)⟩
end
end Tb

namespace Tb
open PySem L2 Mix Gds
/-! k39: how many pairs there are -/
theorem metT_mem (val : Nat → List Int) (x : List Int) : ∀ i, x ∈ Ht.metT val i ↔ ∃ k, k < i ∧ val k = x
  | 0 => ⟨fun h => (by cases h), fun ⟨k, h, _⟩ => absurd h (Nat.not_lt_zero _)⟩
  | i + 1 => by
    have ih := metT_mem val x i
    unfold Ht.metT
    split
    · next c =>
      rw [ih]
      constructor
      · rintro ⟨k, h, e⟩
        exact ⟨k, by omega, e⟩
      · rintro ⟨k, h, e⟩
        by_cases z : k = i
        · rw [z] at e
          rw [e] at c
          exact ih.mp c
        · exact ⟨k, by omega, e⟩
    · rw [List.mem_append, List.mem_singleton, ih]
      constructor
      · rintro (⟨k, h, e⟩ | rfl)
        · exact ⟨k, by omega, e⟩
        · exact ⟨i, by omega, rfl⟩
      · rintro ⟨k, h, e⟩
        by_cases z : k = i
        · rw [z] at e
          exact .inr e.symm
        · exact .inl ⟨k, by omega, e⟩
theorem metT_nodup (val : Nat → List Int) : ∀ i, (Ht.metT val i).Nodup
  | 0 => List.nodup_nil
  | i + 1 => by
    have ih := metT_nodup val i
    unfold Ht.metT
    split
    · exact ih
    · next c =>
      rw [List.nodup_append]
      exact ⟨ih, by simp, fun a ha b hb e => by
        rw [List.mem_singleton] at hb
        subst hb e
        exact c ha⟩
theorem count_by {val : Nat → List Int} {m n : Nat} (f : Nat → Nat) (p : List Int → Nat) (hp : ∀ k, k < m → p (val k) = f k) (inj : ∀ a b, a < m → b < m → f a = f b → val a = val b) (lt : ∀ k, k < m → f k < n) (onto : ∀ c, c < n → ∃ k, k < m ∧ f k = c) : (Ht.metT val m).length = n := by
  have nd : ((Ht.metT val m).map p).Nodup := by
    rw [List.Nodup, List.pairwise_map]
    refine List.Pairwise.imp_of_mem (R := (· ≠ ·)) (fun {a b} ha hb ne z => ?_) (metT_nodup val m)
    obtain ⟨x, hx, rfl⟩ := (metT_mem val a m).mp ha
    obtain ⟨y, hy, rfl⟩ := (metT_mem val b m).mp hb
    rw [hp x hx, hp y hy] at z
    exact ne (inj x y hx hy z)
  have h1 := Ht.nodup_len _ (List.range n) nd fun c hc => by
    obtain ⟨v, hv, rfl⟩ := List.mem_map.mp hc
    obtain ⟨x, hx, rfl⟩ := (metT_mem val v m).mp hv
    rw [hp x hx]
    exact List.mem_range.mpr (lt x hx)
  have h2 := Ht.nodup_len (List.range n) ((Ht.metT val m).map p) List.nodup_range fun c hc => by
    obtain ⟨k, hk, e⟩ := onto c (List.mem_range.mp hc)
    exact List.mem_map.mpr ⟨val k, (metT_mem val _ m).mpr ⟨k, hk, rfl⟩, by rw [hp k hk, e]⟩
  rw [List.length_map, List.length_range] at h1
  rw [List.length_range, List.length_map] at h2
  omega
def prs (m : Nat) (f g : Nat → Nat) : List (List Int) := (List.range m).map fun k => [(f k : Int), (g k : Int)]
theorem prs_len (m : Nat) (f g : Nat → Nat) : (prs m f g).length = m := by
  unfold prs
  rw [List.length_map, List.length_range]
theorem prs_at {m : Nat} {f g : Nat → Nat} {k : Nat} (h : k < m) : (prs m f g)[k]? = some [(f k : Int), (g k : Int)] := by
  unfold prs
  rw [List.getElem?_map, List.getElem?_range h]
  rfl
theorem prs_count {m n n' : Nat} {f g : Nat → Nat} (h : ∀ a b, a < m → b < m → (f a = f b ↔ g a = g b)) (l1 : ∀ k, k < m → f k < n) (o1 : ∀ c, c < n → ∃ k, k < m ∧ f k = c) (l2 : ∀ k, k < m → g k < n') (o2 : ∀ c, c < n' → ∃ k, k < m ∧ g k = c) :
    (Ht.metT (fun i => (prs m f g).getD i []) (prs m f g).length).length = n ∧ n' = n := by
  have val : ∀ k, k < m → (prs m f g).getD k [] = [(f k : Int), (g k : Int)] := fun k hk => by
    rw [List.getD_eq_getElem?_getD, prs_at hk]
    rfl
  rw [prs_len]
  have both : ∀ a b, a < m → b < m → f a = f b → (prs m f g).getD a [] = (prs m f g).getD b [] := fun a b ha hb e => by
    rw [val a ha, val b hb, e, (h a b ha hb).mp e]
  have c1 := count_by (val := fun i => (prs m f g).getD i []) f (fun p => (p.headD 0).toNat) (fun k hk => by show (((prs m f g).getD k []).headD 0).toNat = f k; rw [val k hk]; rfl) both l1 o1
  have c2 := count_by (val := fun i => (prs m f g).getD i []) g (fun p => ((p.drop 1).headD 0).toNat) (fun k hk => by show ((((prs m f g).getD k []).drop 1).headD 0).toNat = g k; rw [val k hk]; rfl) (fun a b ha hb e => both a b ha hb ((h a b ha hb).mpr e)) l2 o2
  exact ⟨c1, by omega⟩
theorem Al.append {α : Type} {R : V → α → Prop} {vs us : List V} {rs qs : List α} (x : Al R vs rs) (y : Al R us qs) : Al R (vs ++ us) (rs ++ qs) := by
  induction x with
  | nil => exact y
  | cons h _ ih => exact .cons h ih
def shR (φ : Nat → Nat) (r : Row) : Row := (r.1, r.2.map fun mv => (mv.1, φ mv.2))
theorem shR_ok {φ : Nat → Nat} {r : Row} {m n e : Nat} (h : RwOk 3 m e r) (k : ∀ x, x < m → φ x < n) : RwOk 3 n e (shR φ r) := by
  refine ⟨h.1, by show (r.2.map _).length = e; rw [List.length_map]; exact h.2.1, fun mv hm => ?_⟩
  obtain ⟨z, hz, rfl⟩ := List.mem_map.mp hm
  exact ⟨(h.2.2 z hz).1, k _ (h.2.2 z hz).2⟩
theorem nv_flat (os : List Nat) : (natsV os).all flatV = true := by
  rw [List.all_eq_true]
  intro v hv
  obtain ⟨_, _, rfl⟩ := List.mem_map.mp hv
  rfl
theorem nv_snoc (os : List Nat) (k : Nat) : natsV (os ++ [k]) = natsV os ++ [V.int (k : Int)] := by
  unfold natsV
  rw [List.map_append]
  rfl
theorem rowAt_get {rows : List Row} {k : Nat} {r : Row} (h : rows[k]? = some r) : rowAt rows k = r := by
  unfold rowAt
  rw [List.getD_eq_getElem?_getD, h]
  rfl
end Tb

namespace Tb
open PySem L2 Mix Gds
/-! k37: the law -/
theorem ShrOk.le {rows small : List Row} {fold : List Nat} {m e n : Nat} (S : ShrOk rows fold small m e n) : n ≤ m := by
  have np := S.tab.pos
  obtain ⟨k, hk, ek⟩ := S.onto (n - 1) (by omega)
  have key : ∀ (k c : Nat), k < m → fAt fold k = c → c ≤ k := by
    intro k
    induction k using Nat.strongRecOn with
    | ind k ih =>
      intro c hk e
      cases c with
      | zero => exact Nat.zero_le _
      | succ c =>
        obtain ⟨j, hj, ej⟩ := S.ord k hk c (by omega)
        have := ih j hj c (by omega) ej
        omega
  have := key k (n - 1) hk ek
  omega
section
variable {K : PySem.W.Frag} {H : Hp}
theorem al_dq {α : Type} {R : V → α → Prop} {n : Nat} (f : ∀ (v v' : V) (r : α), R v r → R v' r → Dq K H n v v') {vs vs' : List V} {rs : List α} (h : Al R vs rs) (h' : Al R vs' rs) (j : Nat) (x y : V) (hx : vs[j]? = some x) (hy : vs'[j]? = some y) : Dq K H n x y := by
  have l := h.length
  have hj := (List.getElem?_eq_some_iff.mp hx).1
  have e := List.getElem?_eq_getElem (show j < rs.length by omega)
  obtain ⟨v, hv, r⟩ := h.get e
  obtain ⟨v', hv', r'⟩ := h'.get e
  rw [hv] at hx
  rw [hv'] at hy
  obtain rfl := Option.some.inj hx
  obtain rfl := Option.some.inj hy
  exact f _ _ _ r r'
theorem wd_dq {n : Nat} {v v' : V} {ws : List Str} (h : WdIn H v ws) (h' : WdIn H v' ws) : Dq K H (n + 1) v v' := by
  obtain ⟨a, rfl, ha⟩ := h
  obtain ⟨b, rfl, hb⟩ := h'
  refine .tup (SqT.of ha) (SqT.of hb) rfl fun j x y hx hy => ?_
  rw [hx] at hy
  obtain rfl := Option.some.inj hy
  obtain ⟨s, _, rfl⟩ := List.mem_map.mp (List.mem_of_getElem? hx)
  exact .flat rfl
theorem mv_dq {n : Nat} {v v' : V} {m : List Str × Nat} (h : MvIn H v m) (h' : MvIn H v' m) : Dq K H (n + 2) v v' := by
  obtain ⟨a, wv, rfl, ha, hw⟩ := h
  obtain ⟨b, wv', rfl, hb, hw'⟩ := h'
  refine .tup (SqT.of ha) (SqT.of hb) rfl fun j x y hx hy => ?_
  match j with
  | 0 =>
    obtain rfl := Option.some.inj hx
    obtain rfl := Option.some.inj hy
    exact wd_dq hw hw'
  | 1 =>
    obtain rfl := Option.some.inj hx
    obtain rfl := Option.some.inj hy
    exact .flat rfl
  | j + 2 => cases hx
theorem rw_dq {n : Nat} {v v' : V} {r : Row} (h : RwIn H v r) (h' : RwIn H v' r) : Dq K H (n + 4) v v' := by
  obtain ⟨a, am, l, mv, rfl, ha, hl, ham, hmv⟩ := h
  obtain ⟨b, bm, l', mw, rfl, hb, hl', hbm, hmw⟩ := h'
  refine .tup (SqT.of ha) (SqT.of hb) rfl fun j x y hx hy => ?_
  match j with
  | 0 =>
    obtain rfl := Option.some.inj hx
    obtain rfl := Option.some.inj hy
    exact wd_dq hl hl'
  | 1 =>
    obtain rfl := Option.some.inj hx
    obtain rfl := Option.some.inj hy
    exact .tup (SqT.of ham) (SqT.of hbm) (by rw [hmv.length, hmw.length]) fun j x y hx hy => al_dq (R := MvIn H) (fun _ _ _ z z' => mv_dq z z') hmv hmw j x y hx hy
  | j + 2 => cases hx
end
section
variable {P : Program} {w : World} {K : PySem.W.Frag} {mg : Str → Option Value} {base : Heap}
end
end Tb

namespace Tb
open PySem L2 Mix Gds
/-! k39: the law -/
abbrev lawSc : Scope := ⟨.function, [("_law_script", .cell), ("_law_many", .cell), ("_law_events", .cell), ("_law_rows", .cell), ("_law_found", .local), ("_law_fold", .cell), ("_law_small", .local), ("_law_again", .local), ("_law_twice", .local), ("_law_turned", .cell), ("_law_pairs", .local), ("_law_cell", .globalImplicit), ("range", .globalImplicit), ("shrunk", .globalImplicit), ("list", .globalImplicit), ("len", .globalImplicit), ("set", .globalImplicit)], false, false, (defScope sLawF).more⟩
theorem lawSc_eq : defScope sLawF = lawSc := by rfl
theorem sc_law : FnScope ["_law_script", "_law_many", "_law_events", "_law_rows", "_law_found", "_law_fold", "_law_small", "_law_again", "_law_twice", "_law_turned", "_law_pairs"] ["_law_script"] lawSc := ⟨rfl, rfl, rfl, by decide +kernel, rfl, by decide +kernel, by decide +kernel⟩
section
variable {P : Program} {w : World} {K : PySem.W.Frag} {mg : Str → Option Value} {base : Heap}
theorem ok_law {n0 : Nat} {f g1 g2 g3 g4 : Addr} {fd dg1 dg2 dg3 dg4 : FuncData} (F : Fun K "law" "law" sLawF f fd)
    (G_law_cell : FnOk P w K mg base CX0 n0 g1 dg1 ["_law_script", "_law_k", "_law_salt"] (spLCell K)) (b_law_cell : Binds K dg1 ["_law_script", "_law_k", "_law_salt"] []) (k_law_cell : PySem.W.keepIn K (.ref g1) = true) (m_law_cell : mg "_law_cell" = some (.ref g1))
    (G_law_own_row : FnOk P w K mg base CX0 n0 g2 dg2 ["_law_script", "_law_k", "_law_many", "_law_events"] (spOwn K)) (b_law_own_row : Binds K dg2 ["_law_script", "_law_k", "_law_many", "_law_events"] []) (k_law_own_row : PySem.W.keepIn K (.ref g2) = true) (m_law_own_row : mg "_law_own_row" = some (.ref g2))
    (G_shrunk : FnOk P w K mg base CX0 n0 g3 dg3 ["rows"] spShrunk) (b_shrunk : Binds K dg3 ["rows"] []) (k_shrunk : PySem.W.keepIn K (.ref g3) = true) (m_shrunk : mg "shrunk" = some (.ref g3))
    (G_law_shifted : FnOk P w K mg base CX0 n0 g4 dg4 ["_law_row", "_law_by", "_law_sign"] spShifted) (b_law_shifted : Binds K dg4 ["_law_row", "_law_by", "_law_sign"] []) (k_law_shifted : PySem.W.keepIn K (.ref g4) = true) (m_law_shifted : mg "_law_shifted" = some (.ref g4))
    (m_len : mg "len" = none) (m_list : mg "list" = none) (m_range : mg "range" = none) (m_set : mg "set" = none) : FnOk P w K mg base CX0 (n0 + 1) f fd ["_law_script"] (spLaw K) := by
  refine okS lawSc lawSc_eq F sc_law (fun vs H Q E h => ?_) (fun cdv A outer s H vs Q E hr h => ?_)
  · obtain ⟨a, ns, rfl, _⟩ := h
    rfl
  obtain ⟨a, ns, rfl, hS, h63, q⟩ := h
  refine ⟨_, (pss_cons (ps_set (i := 1) sc_law.nd rfl (Or.inr rfl) (pe_op op_add pe_int (pe_op op_mod (pe_call G_law_cell hr rfl m_law_cell k_law_cell b_law_cell .nil pass0 (pa_cons (pv 0) (pa_cons pe_int (pa_cons pe_int pa_nil)))) pe_int)))
    (pss_cons (ps_set (i := 2) sc_law.nd rfl (Or.inr rfl) (pe_op op_add pe_int (pe_op op_mod (pe_call G_law_cell hr rfl m_law_cell k_law_cell b_law_cell .nil pass0 (pa_cons (pv 0) (pa_cons pe_int (pa_cons pe_int pa_nil)))) pe_int)))
    (pss_cut (ps_if (pt_cmpR op_eq (pe_op op_mod (pe_call G_law_cell hr rfl m_law_cell k_law_cell b_law_cell .nil pass0 (pa_cons (pv 0) (pa_cons pe_int (pa_cons pe_int pa_nil)))) pe_int) pe_int (nomark _))
      (pss_cons (ps_set (i := 1) sc_law.nd rfl (Or.inr rfl) (pe_op op_add pe_int (pe_op op_mod (pe_call G_law_cell hr rfl m_law_cell k_law_cell b_law_cell .nil pass0 (pa_cons (pv 0) (pa_cons pe_int (pa_cons pe_int pa_nil)))) pe_int)))
      (pss_one (ps_set (i := 2) sc_law.nd rfl (Or.inr rfl) pe_int)))
      pss_nil)
    (pss_cut (ps_if (pt_cmpR op_eq (pe_op op_mod (pe_call G_law_cell hr rfl m_law_cell k_law_cell b_law_cell .nil pass0 (pa_cons (pv 0) (pa_cons pe_int (pa_cons pe_int pa_nil)))) pe_int) pe_int (nomark _))
      (pss_cons (ps_set (i := 1) sc_law.nd rfl (Or.inr rfl) (pe_op op_add pe_int (pe_op op_mod (pe_call G_law_cell hr rfl m_law_cell k_law_cell b_law_cell .nil pass0 (pa_cons (pv 0) (pa_cons pe_int (pa_cons pe_int pa_nil)))) pe_int)))
      (pss_one (ps_set (i := 2) sc_law.nd rfl (Or.inr rfl) pe_int)))
      pss_nil)
    (pss_cons (ps_set (i := 3) sc_law.nd rfl (Or.inr rfl) (pe_comp (caps := [(0, "_law_script"), (1, "_law_many"), (2, "_law_events")]) rfl (show CompSc lawSc ["_law_script", "_law_many", "_law_events", "_law_rows", "_law_found", "_law_fold", "_law_small", "_law_again", "_law_twice", "_law_turned", "_law_pairs"] _ _ _ from ⟨rfl, rfl, by decide +kernel, by decide +kernel, by decide +kernel, by decide +kernel, by decide +kernel⟩) (pi_range1 rfl m_range (pa_cons (pv 1) pa_nil)) (fun _ _ _ _ _ _ => pifs_nil) (fun _ _ _ _ _ _ => (pe_call G_law_own_row hr rfl m_law_own_row k_law_own_row b_law_own_row .nil pass0 (pa_cons (pv 1) (pa_cons (pv 0) (pa_cons (pv 2) (pa_cons (pv 3) pa_nil))))))))
    (pss_cons (ps_set (i := 4) sc_law.nd rfl (Or.inl rfl) (pe_call G_shrunk hr rfl m_shrunk k_shrunk b_shrunk .nil pass0 (pa_cons (pe_callTy call_list_of rfl m_list PyProof.Rows.boot_list (pa_cons (pv 3) pa_nil)) pa_nil)))
    (pss_cons (ps_set (i := 5) sc_law.nd rfl (Or.inr rfl) (pe_callTy call_list_of rfl m_list PyProof.Rows.boot_list (pa_cons (pe_ix ix_tup (pv 4) pe_int (fun _ _ => rfl)) pa_nil)))
    (pss_cons (ps_set (i := 6) sc_law.nd rfl (Or.inl rfl) (pe_callTy call_list_of rfl m_list PyProof.Rows.boot_list (pa_cons (pe_ix ix_tup (pv 4) pe_int (fun _ _ => rfl)) pa_nil)))
    (pss_cons (ps_set (i := 7) sc_law.nd rfl (Or.inl rfl) (pe_call G_shrunk hr rfl m_shrunk k_shrunk b_shrunk .nil pass0 (pa_cons (pe_callTy call_list_of rfl m_list PyProof.Rows.boot_list (pa_cons (pv 6) pa_nil)) pa_nil)))
    (pss_cons (ps_if (pt_cut (PW.pt (pw_or (pt_cmpR (op_neL hr.units0) (pe_ix ix_tup (pv 7) pe_int (fun _ _ => rfl)) (pe_comp (caps := []) rfl (show CompSc lawSc ["_law_script", "_law_many", "_law_events", "_law_rows", "_law_found", "_law_fold", "_law_small", "_law_again", "_law_twice", "_law_turned", "_law_pairs"] _ _ _ from ⟨rfl, rfl, by decide +kernel, by decide +kernel, by decide +kernel, by decide +kernel, by decide +kernel⟩) (pi_range1 rfl m_range (pa_cons (pe_callB call_len_seq rfl m_len PySem.boot_len (pa_cons (pv 6) pa_nil)) pa_nil)) (fun _ _ _ _ _ _ => pifs_nil) (fun _ _ _ _ _ _ => (pv 0))) (nomark _)) (pw_or1 (pt_cmpR (op_neDL hr.units) (pe_ix ix_tup (pv 7) pe_int (fun _ _ => rfl)) (pv 6) (nomark _))))))
      (pss_one (ps_ret pe_bl))
      pss_nil)
    (pss_cons (ps_set (i := 8) sc_law.nd rfl (Or.inl rfl) (pe_call G_shrunk hr rfl m_shrunk k_shrunk b_shrunk .nil pass0 (pa_cons (pe_op op_cat (pv 3) (pe_comp (caps := [(1, "_law_many")]) rfl (show CompSc lawSc ["_law_script", "_law_many", "_law_events", "_law_rows", "_law_found", "_law_fold", "_law_small", "_law_again", "_law_twice", "_law_turned", "_law_pairs"] _ _ _ from ⟨rfl, rfl, by decide +kernel, by decide +kernel, by decide +kernel, by decide +kernel, by decide +kernel⟩) (pi_list (pv 3)) (fun _ _ _ _ _ _ => pifs_nil) (fun _ _ _ _ _ _ => (pe_call G_law_shifted hr rfl m_law_shifted k_law_shifted b_law_shifted .nil pass0 (pa_cons (pv 0) (pa_cons (pv 1) (pa_cons pe_int pa_nil))))))) pa_nil)))
    (pss_cons (ps_if (pt_cut (PW.pt (pw_or (pt_cmpR (op_neL hr.units0) (pe_ix ix_tup (pv 8) pe_int (fun _ _ => rfl)) (pe_op op_cat (pv 5) (pv 5)) (nomark _)) (pw_or1 (pt_cmpR (op_neDL hr.units) (pe_ix ix_tup (pv 8) pe_int (fun _ _ => rfl)) (pv 6) (nomark _))))))
      (pss_one (ps_ret pe_bl))
      pss_nil)
    (pss_cons (ps_set (i := 9) sc_law.nd rfl (Or.inr rfl) (pe_call G_shrunk hr rfl m_shrunk k_shrunk b_shrunk .nil pass0 (pa_cons (pe_comp (caps := [(3, "_law_rows"), (1, "_law_many")]) rfl (show CompSc lawSc ["_law_script", "_law_many", "_law_events", "_law_rows", "_law_found", "_law_fold", "_law_small", "_law_again", "_law_twice", "_law_turned", "_law_pairs"] _ _ _ from ⟨rfl, rfl, by decide +kernel, by decide +kernel, by decide +kernel, by decide +kernel, by decide +kernel⟩) (pi_range1 rfl m_range (pa_cons (pv 1) pa_nil)) (fun _ _ _ _ _ _ => pifs_nil) (fun _ _ _ _ _ _ => (pe_call G_law_shifted hr rfl m_law_shifted k_law_shifted b_law_shifted .nil pass0 (pa_cons (pe_ix (r := rIxL K) ix_list (pv 1) (pe_op op_sub (pe_op op_sub (pv 2) pe_int) (pv 0)) (fun _ _ => rfl)) (pa_cons (pe_op op_sub (pv 2) pe_int) (pa_cons (pe_un un_neg pe_int) pa_nil)))))) pa_nil)))
    (pss_cons (ps_setC (i := 10) (caps := [(5, "_law_fold"), (9, "_law_turned"), (1, "_law_many")]) rfl sc_law.nd rfl (Or.inl rfl) (show CompSc lawSc ["_law_script", "_law_many", "_law_events", "_law_rows", "_law_found", "_law_fold", "_law_small", "_law_again", "_law_twice", "_law_turned", "_law_pairs"] _ _ _ from ⟨rfl, rfl, by decide +kernel, by decide +kernel, by decide +kernel, by decide +kernel, by decide +kernel⟩) (pi_range1 rfl m_range (pa_cons (pv 1) pa_nil)) (fun _ _ _ _ _ _ => pifs_nil) (fun _ _ _ _ _ _ => (pe_tup (pa_cons (pe_ix (r := rIxL K) ix_list (pv 1) (pv 0) (fun _ _ => rfl)) (pa_cons (pe_ix (r := rIxL K) ix_list (pe_ix (r := rIxT K) ix_tup (pv 2) pe_int (fun _ _ => rfl)) (pe_op op_sub (pe_op op_sub (pv 3) pe_int) (pv 0)) (fun _ _ => rfl)) pa_nil)))))
    (pss_one (ps_ret (pe_cut (pe_and (pe_cmpR op_eq (pe_callB call_len_seq rfl m_len PySem.boot_len (pa_cons (pe_ix ix_tup (pv 9) pe_int (fun _ _ => rfl)) pa_nil)) (pe_callB call_len_seq rfl m_len PySem.boot_len (pa_cons (pv 6) pa_nil)) (nomark _)) (pe_one (pe_cmpR op_eq (pe_lenSetT rfl (show _ + 20 < cLine from Nat.lt_of_le_of_lt (Nat.add_le_add_left (by decide) _) hr.units) rfl m_len rfl m_set (pa_cons (pv 10) pa_nil)) (pe_callB call_len_seq rfl m_len PySem.boot_len (pa_cons (pv 6) pa_nil)) (nomark _))))))))))))))))))))), ?_⟩
  refine ⟨_, rfl, a, ns, _, _, rfl, hS, h63, ⟨by decide, by decide⟩, ⟨by decide, by decide⟩, fun x x0 x1 => ⟨_, _, rfl, rfl, (by show (0 : Int) < 8; decide), _, _, rfl, rfl, ?_⟩⟩
  refine ⟨_, rfl, a, ns, _, _, rfl, hS, h63, ⟨by decide, by decide⟩, ⟨by decide, by decide⟩, fun y y0 y1 => ⟨_, _, rfl, rfl, (by show (0 : Int) < 2; decide), _, _, rfl, rfl, ?_⟩⟩
  obtain ⟨mA, hmA, mA1, mA8⟩ : ∃ m : Nat, 1 + x % 8 = (m : Int) ∧ 1 ≤ m ∧ m ≤ 40 := ⟨(1 + x % 8).toNat, by omega, by omega, by omega⟩
  obtain ⟨eA, heA, eA2⟩ : ∃ m : Nat, 1 + y % 2 = (m : Int) ∧ m ≤ 2 := ⟨(1 + y % 2).toNat, by omega, by omega⟩
  refine ⟨fun σ' H' => H' = H ∧ ∃ m e : Nat, 1 ≤ m ∧ m ≤ 40 ∧ e ≤ 2 ∧ σ' = [some (.ref a), some (.int (m : Int)), some (.int (e : Int)), none, none, none, none, none, none, none, none], ?_, ?_⟩
  · refine ⟨_, rfl, a, ns, _, _, rfl, hS, h63, ⟨by decide, by decide⟩, ⟨by decide, by decide⟩, fun z z0 z1 => ⟨_, _, rfl, rfl, (by show (0 : Int) < 8; decide), rfl, _, rfl, itB (fun c => ?_) (fun c => ⟨rfl, mA, eA, mA1, mA8, eA2, by rw [← hmA, ← heA]; rfl⟩)⟩⟩
    refine ⟨_, rfl, a, ns, _, _, rfl, hS, h63, ⟨by decide, by decide⟩, ⟨by decide, by decide⟩, fun u u0 u1 => ⟨_, _, rfl, rfl, (by show (0 : Int) < 32; decide), _, _, rfl, rfl, rfl, (9 + u % 32).toNat, 1, by omega, by omega, by decide, ?_⟩⟩
    rw [Int.toNat_of_nonneg (by omega)]
    rfl
  clear hmA mA1 mA8 heA eA2
  rintro σ1 H1 ⟨rfl, mB, eB, mB1, mB40, eB2, rfl⟩
  refine ⟨fun σ' H' => H' = H1 ∧ ∃ m e : Nat, 1 ≤ m ∧ m ≤ 40 ∧ e ≤ 2 ∧ σ' = [some (.ref a), some (.int (m : Int)), some (.int (e : Int)), none, none, none, none, none, none, none, none], ?_, ?_⟩
  · refine ⟨_, rfl, a, ns, _, _, rfl, hS, h63, ⟨by decide, by decide⟩, ⟨by decide, by decide⟩, fun z z0 z1 => ⟨_, _, rfl, rfl, (by show (0 : Int) < 8; decide), rfl, _, rfl, itB (fun c => ?_) (fun c => ⟨rfl, mB, eB, mB1, mB40, eB2, rfl⟩)⟩⟩
    refine ⟨_, rfl, a, ns, _, _, rfl, hS, h63, ⟨by decide, by decide⟩, ⟨by decide, by decide⟩, fun u u0 u1 => ⟨_, _, rfl, rfl, (by show (0 : Int) < 5; decide), _, _, rfl, rfl, rfl, (10 + u % 5).toNat, 2, by omega, by omega, by decide, ?_⟩⟩
    rw [Int.toNat_of_nonneg (by omega)]
    rfl
  clear mB1 mB40 eB2
  rintro σ2 H2 ⟨rfl, m, e, m1, m40, e2, rfl⟩
  -- the rows
  refine ⟨_, rfl, _, rfl, by omega, by omega, ?_⟩
  refine comp_range (fun i acc H' => Same H2 H' ∧ ∃ rs : List Row, Al (RwIn H') acc rs ∧ rs.length = i ∧ ∀ r ∈ rs, RwOk 3 m e r) ⟨Same.refl _, [], .nil, rfl, (fun r h => by cases h)⟩ (fun i acc H' hi ⟨e1, rs, e3, e4, e5⟩ => ?_) (fun acc H' ⟨e1, rs, e3, e4, e5⟩ p3 hp3 => ?_)
  · have li : i < m := by
      simp only [Int.toNat_natCast] at hi
      exact hi
    have la := e3.length
    refine ⟨_, rfl, _, rfl, _, rfl, _, rfl, a, ns, _, m, e, rfl, e1.seq hS, h63, ⟨by omega, by omega⟩, m1, by omega, by omega, fun v r H3 s3 hv rok => ⟨small1000 (by omega), e1.trans s3, rs ++ [r], Al.snoc (e3.mono fun _ _ z => z.mono (KeepT.of s3)) hv, by rw [List.length_append, List.length_singleton, e4], fun r' hr' => ?_⟩⟩
    rcases List.mem_append.mp hr' with h | h
    · exact e5 r' h
    · rw [List.mem_singleton.mp h]
      exact rok
  rw [Int.toNat_natCast] at e4
  have T : TbOk rs m e := ⟨e4, m1, e5⟩
  have u3 := same_new hp3 (.lst acc)
  have i3 : upd H' p3 (.lst acc) p3 = some (.lst acc) := upd_same
  have hA3 := e3.mono fun _ _ z => z.mono (KeepT.of u3)
  have s23 := e1.trans u3
  clear u3 e3 e5
  generalize upd H' p3 (.lst acc) = H3 at i3 hA3 s23 ⊢
  clear e1 hp3
  have lac := hA3.length
  -- shrunk
  refine ⟨_, rfl, p3, _, rfl, .inl (SqL.of i3), fun p4 hp4 => ?_⟩
  have u4 := same_new hp4 (.lst acc)
  refine ⟨p4, acc, rs, m, e, rfl, upd_same, hA3.mono (fun _ _ z => z.mono (KeepT.of u4)), T, by omega, by omega, fun pq pf ps sv fold small n H4 s4 _ _ _ hpq hpf hps hB S => ?_⟩
  have s34 := u4.trans s4
  clear u4 s4
  refine ⟨_, rfl, pq, _, _, _, rfl, rfl, SqT.of hpq, rfl, pf, _, rfl, .inl (SqL.of hpf), fun pF hpF => ?_⟩
  have u5 := same_new hpF (.lst (natsV fold))
  have i5 : upd H4 pF (.lst (natsV fold)) pF = some (.lst (natsV fold)) := upd_same
  generalize upd H4 pF (.lst (natsV fold)) = H5 at u5 i5 ⊢
  refine ⟨_, rfl, pq, _, _, _, rfl, rfl, SqT.of (u5 _ _ hpq), rfl, ps, _, rfl, .inl (SqL.of (u5 _ _ hps)), fun pS hpS => ?_⟩
  have u6 := same_new hpS (.lst sv)
  have i6 : upd H5 pS (.lst sv) pS = some (.lst sv) := upd_same
  generalize upd H5 pS (.lst sv) = H6 at u6 i6 ⊢
  have s46 := u5.trans u6
  have s36 := s34.trans s46
  have hB6 := hB.mono fun _ _ z => z.mono (KeepT.of s46)
  have i56 := u6 _ _ i5
  have T2 := S.tab
  have lsv := hB.length
  have lsm := T2.len
  have nm := S.le
  have lf := S.len
  -- shrunk again
  refine ⟨_, rfl, pS, _, rfl, .inl (SqL.of i6), fun p7 hp7 => ?_⟩
  have u7 := same_new hp7 (.lst sv)
  refine ⟨p7, sv, small, n, e, rfl, upd_same, hB6.mono (fun _ _ z => z.mono (KeepT.of u7)), T2, by omega, by omega, fun pq2 pf2 ps2 sv2 fold2 small2 n2 H7 s7 _ _ _ hpq2 hpf2 hps2 hB2 S2 => ?_⟩
  obtain ⟨rfl, rfl⟩ := (S.again T).uniq S2
  have s67 := u7.trans s7
  clear u7 s7
  have lsv2 := hB2.length
  refine ⟨fun c H' => c = false ∧ Same H7 H', ?_, ?_⟩
  · refine ⟨_, rfl, pq2, _, _, _, rfl, rfl, SqT.of hpq2, rfl, _, rfl, pS, _, rfl, .inl (SqL.of (s67 _ _ i6)), _, rfl, by omega, by omega, ?_⟩
    refine comp_range (fun i acc H' => H' = H7 ∧ acc = natsV (List.range i)) ⟨rfl, rfl⟩ (fun i acc H' hi ⟨e1, e2⟩ => ?_) (fun acc H' ⟨e1, e2⟩ p8 hp8 => ?_)
    · subst e1 e2
      have li : i < n := by
        simp only [Int.toNat_natCast] at hi
        omega
      refine ⟨_, rfl, small1000 (by rw [natsV_len, List.length_range]; omega), rfl, ?_⟩
      rw [List.range_succ, nv_snoc, Int.zero_add]
    subst e1 e2
    have en : ((sv.length : Nat) : Int).toNat = n := by omega
    have u8 := same_new hp8 (.lst (natsV (List.range ((sv.length : Nat) : Int).toNat)))
    refine ⟨pf2, p8, natsV (List.range n), rfl, rfl, SqL.of (u8 _ _ hpf2), SqL.of (by rw [en]; exact upd_same), nv_flat _, _, rfl, ifF rfl ?_⟩
    exact ⟨_, rfl, pq2, _, _, _, rfl, rfl, SqT.of (u8 _ _ hpq2), rfl, _, rfl, ps2, pS, sv2, sv, 4, rfl, rfl, SqL.of (u8 _ _ hps2), SqL.of (u8 _ _ (s67 _ _ i6)), by omega, (fun j x y h1 h3 => al_dq (R := RwIn _) (fun v v' r z z' => rw_dq (n := 0) z z') (hB2.mono fun _ _ z => z.mono (KeepT.of u8)) (hB6.mono fun _ _ z => z.mono (KeepT.of (s67.trans u8))) j x y h1 h3), by decide, _, rfl, rfl, u8⟩
  rintro c H8 ⟨rfl, s78⟩
  refine ifF rfl ?_
  have s38 := s36.trans (s67.trans s78)
  have s68 := s67.trans s78
  clear s67 s78 hB2 S2 hpq2 hpf2 hps2
  have hA8 := hA3.mono fun _ _ z => z.mono (KeepT.of s38)
  -- the same twice
  refine ⟨_, rfl, _, rfl, p3, rfl, ⟨_, SqL.of (s38 _ _ i3)⟩, ?_⟩
  refine comp_list (K := K) (a := p3) (xs := acc) (fun i ac H' => Same H8 H' ∧ Al (RwIn H') ac ((rs.take i).map (shR fun x => m + x))) ⟨Same.refl _, .nil⟩ (fun i ac H' ⟨z, _⟩ => SqL.of (z _ _ (s38 _ _ i3))) (fun i v ac H' hv ⟨e1, e3⟩ => ?_) (fun ac H' ⟨e1, e3⟩ p9 hp9 => ?_)
  · have li : i < rs.length := by
      have := (List.getElem?_eq_some_iff.mp hv).1
      omega
    have er := List.getElem?_eq_getElem li
    obtain ⟨v', hv', hr'⟩ := hA8.get er
    rw [hv] at hv'
    obtain rfl := Option.some.inj hv'
    have la := e3.length
    rw [List.length_map, List.length_take] at la
    refine ⟨_, rfl, _, rfl, v, rs[i], (m : Int), 1, (fun x => m + x), m, e, rfl, hr'.mono (KeepT.of e1), T.row _ (List.getElem_mem li), by omega, ⟨by decide, by decide⟩, (fun x _ => by show (m : Int) + 1 * (x : Int) = ((m + x : Nat) : Int); omega), fun u H3 s3 hu => ⟨small1000 (by omega), e1.trans s3, ?_⟩⟩
    rw [List.take_add_one, er, List.map_append]
    exact Al.snoc (e3.mono fun _ _ z => z.mono (KeepT.of s3)) hu
  rw [List.take_of_length_le (by omega)] at e3
  have u9 := same_new hp9 (.lst ac)
  have i9 : upd H' p9 (.lst ac) p9 = some (.lst ac) := upd_same
  have hA9 := e3.mono fun _ _ z => z.mono (KeepT.of u9)
  have s89 := e1.trans u9
  clear u9 e3
  generalize upd H' p9 (.lst ac) = H9 at i9 hA9 s89 ⊢
  clear e1 hp9
  have la9 := hA9.length
  rw [List.length_map] at la9
  refine ⟨p3, p9, acc, ac, rfl, rfl, (s38.trans s89) _ _ i3, i9, Nat.le_trans (show acc.length + ac.length ≤ 1000 by omega) (small_le (Nat.le_refl _)), fun p10 hp10 => ?_⟩
  have u10 := same_new hp10 (.lst (acc ++ ac))
  have g1 : ∀ k : Nat, k < m → rowAt (rs ++ rs.map (shR fun x => m + x)) k = rowAt rs k := fun k hk => by
    rw [rowAt_get (show (rs ++ rs.map (shR fun x => m + x))[k]? = some rs[k] by rw [List.getElem?_append_left (by omega)]; exact List.getElem?_eq_getElem (by omega)), rowAt_get (List.getElem?_eq_getElem (show k < rs.length by omega))]
  have g2 : ∀ k : Nat, k < m → rowAt (rs ++ rs.map (shR fun x => m + x)) (m + k) = ((rowAt rs k).1, (rowAt rs k).2.map fun mv => (mv.1, m + mv.2)) := fun k hk => by
    have ek := List.getElem?_eq_getElem (show k < rs.length by omega)
    rw [rowAt_get (show (rs ++ rs.map (shR fun x => m + x))[m + k]? = some (shR (fun x => m + x) rs[k]) by rw [List.getElem?_append_right (by omega), show m + k - rs.length = k by omega, List.getElem?_map, ek]; rfl), rowAt_get ek]
    rfl
  have T3 : TbOk (rs ++ rs.map (shR fun x => m + x)) (m + m) e := by
    refine ⟨by rw [List.length_append, List.length_map, e4], by omega, fun r hr' => ?_⟩
    rcases List.mem_append.mp hr' with h | h
    · obtain ⟨h1, h2, h3⟩ := T.row r h
      exact ⟨h1, h2, fun mv hm => ⟨(h3 mv hm).1, by have := (h3 mv hm).2; omega⟩⟩
    · obtain ⟨r0, h0, rfl⟩ := List.mem_map.mp h
      exact shR_ok (T.row r0 h0) fun x hx => by omega
  refine ⟨p10, acc ++ ac, _, m + m, e, rfl, upd_same, Al.append (hA8.mono fun _ _ z => z.mono (KeepT.of (s89.trans u10))) (hA9.mono fun _ _ z => z.mono (KeepT.of u10)), T3, by omega, by omega, fun pq3 pf3 ps3 sv3 fold3 small3 n3 H10 s10 _ _ _ hpq3 hpf3 hps3 hB3 S3 => ?_⟩
  obtain ⟨rfl, rfl⟩ := (S.twice T g1 g2).uniq S3
  have s8x := s89.trans (u10.trans s10)
  clear u10 s10 s89 hA9 i9 T3 g1 g2 S3
  have s6x := s68.trans s8x
  have s3x := s38.trans s8x
  clear s8x
  have lsv3 := hB3.length
  refine ⟨fun c H' => c = false ∧ Same H10 H', ?_, ?_⟩
  · refine ⟨_, rfl, pq3, _, _, _, rfl, rfl, SqT.of hpq3, rfl, _, rfl, _, rfl, pF, pF, _, _, rfl, rfl, s6x _ _ i56, s6x _ _ i56, Nat.le_trans (show (natsV fold).length + (natsV fold).length ≤ 1000 by rw [natsV_len]; omega) (small_le (Nat.le_refl _)), fun p11 hp11 => ?_⟩
    have u11 := same_new hp11 (.lst (natsV fold ++ natsV fold))
    have ef : natsV fold ++ natsV fold = natsV (fold ++ fold) := by
      unfold natsV
      rw [List.map_append]
    refine ⟨pf3, p11, natsV (fold ++ fold), rfl, rfl, SqL.of (u11 _ _ hpf3), SqL.of (by rw [← ef]; exact upd_same), nv_flat _, _, rfl, ifF rfl ?_⟩
    exact ⟨_, rfl, pq3, _, _, _, rfl, rfl, SqT.of (u11 _ _ hpq3), rfl, _, rfl, ps3, pS, sv3, sv, 4, rfl, rfl, SqL.of (u11 _ _ hps3), SqL.of (u11 _ _ (s6x _ _ i6)), by omega, (fun j x y h1 h3 => al_dq (R := RwIn _) (fun v v' r z z' => rw_dq (n := 0) z z') (hB3.mono fun _ _ z => z.mono (KeepT.of u11)) (hB6.mono fun _ _ z => z.mono (KeepT.of (s6x.trans u11))) j x y h1 h3), by decide, _, rfl, rfl, u11⟩
  rintro c H11 ⟨rfl, sx⟩
  refine ifF rfl ?_
  have s3y := s3x.trans sx
  have s6y := s6x.trans sx
  clear s3x s6x sx hB3 hpq3 hpf3 hps3 hA8 s38 s68
  have hAy := hA3.mono fun _ _ z => z.mono (KeepT.of s3y)
  -- turned round
  refine ⟨_, rfl, _, rfl, by omega, by omega, ?_⟩
  refine comp_range (fun i ac H' => Same H11 H' ∧ Al (RwIn H') ac ((List.range i).map fun k => shR (fun x => m - 1 - x) (rowAt rs (m - 1 - k)))) ⟨Same.refl _, .nil⟩ (fun i ac H' hi ⟨e1, e3⟩ => ?_) (fun ac H' ⟨e1, e3⟩ p12 hp12 => ?_)
  · have li : i < m := by
      simp only [Int.toNat_natCast] at hi
      exact hi
    have er := (T.at (show m - 1 - i < m by omega)).1
    obtain ⟨v, hv, hr'⟩ := hAy.get er
    have hat : atI acc ((m : Int) - 1 - (0 + (i : Int))) = some v := by
      have := atI_nat hv
      rw [show (((m - 1 - i : Nat)) : Int) = (m : Int) - 1 - (0 + (i : Int)) by omega] at this
      exact this
    have la := e3.length
    rw [List.length_map, List.length_range] at la
    refine ⟨_, rfl, _, rfl, _, _, rfl, rfl, _, rfl, _, _, rfl, rfl, p3, _, _, _, rfl, rfl, SqL.of ((s3y.trans e1) _ _ i3), hat, _, rfl, _, _, rfl, rfl, _, rfl, v, rowAt rs (m - 1 - i), (m : Int) - 1, -1, (fun x => m - 1 - x), m, e, rfl, hr'.mono (KeepT.of e1), (T.at (show m - 1 - i < m by omega)).2, by omega, ⟨by decide, by decide⟩, (fun x hx => by show (m : Int) - 1 + -1 * (x : Int) = ((m - 1 - x : Nat) : Int); omega), fun u H3 s3 hu => ⟨small1000 (by omega), e1.trans s3, ?_⟩⟩
    rw [List.range_succ, List.map_append]
    exact Al.snoc (e3.mono fun _ _ z => z.mono (KeepT.of s3)) hu
  rw [Int.toNat_natCast] at e3
  have u12 := same_new hp12 (.lst ac)
  have hA12 := e3.mono fun _ _ z => z.mono (KeepT.of u12)
  have T4 : TbOk ((List.range m).map fun k => shR (fun x => m - 1 - x) (rowAt rs (m - 1 - k))) m e := by
    refine ⟨by rw [List.length_map, List.length_range], m1, fun r hr' => ?_⟩
    obtain ⟨k, hk, rfl⟩ := List.mem_map.mp hr'
    have hk' := List.mem_range.mp hk
    exact shR_ok (T.at (show m - 1 - k < m by omega)).2 fun x hx => by omega
  have g4 : ∀ k : Nat, k < m → rowAt ((List.range m).map fun k => shR (fun x => m - 1 - x) (rowAt rs (m - 1 - k))) (m - 1 - k) = ((rowAt rs k).1, (rowAt rs k).2.map fun mv => (mv.1, m - 1 - mv.2)) := fun k hk => by
    rw [rowAt_get (show ((List.range m).map fun k => shR (fun x => m - 1 - x) (rowAt rs (m - 1 - k)))[m - 1 - k]? = some (shR (fun x => m - 1 - x) (rowAt rs (m - 1 - (m - 1 - k)))) by rw [List.getElem?_map, List.getElem?_range (by omega)]; rfl), show m - 1 - (m - 1 - k) = k by omega]
    rfl
  refine ⟨p12, ac, _, m, e, rfl, upd_same, hA12, T4, by omega, by omega, fun pq4 pf4 ps4 sv4 fold4 small4 n4 H12 s12 _ _ _ hpq4 hpf4 hps4 hB4 S4 => ?_⟩
  have s6z := s6y.trans (e1.trans (u12.trans s12))
  have tn := S.turned T S4 g4
  clear u12 s12 e1 hA12 e3 s6y hAy s3y
  have lf4 := S4.len
  have lsv4 := hB4.length
  have lsm4 := S4.tab.len
  -- the pairs
  refine ⟨_, rfl, _, rfl, by omega, by omega, ?_⟩
  refine comp_range (fun i ac H' => Same H12 H' ∧ PrsIn H' ac (prs i (fun k => fAt fold k) fun k => fAt fold4 (m - 1 - k))) ⟨Same.refl _, rfl, (fun i v z h => by cases h)⟩ (fun i ac H' hi ⟨e1, e3⟩ => ?_) (fun ac H' ⟨e1, e3⟩ p13 hp13 => ?_)
  · have li : i < m := by
      simp only [Int.toNat_natCast] at hi
      exact hi
    have la := e3.1
    rw [prs_len] at la
    have at1 : atI (natsV fold) (0 + (i : Int)) = some (.int (fAt fold i : Int)) := by
      rw [Int.zero_add]
      exact nv_at (by omega)
    have at2 : atI (natsV fold4) ((m : Int) - 1 - (0 + (i : Int))) = some (.int (fAt fold4 (m - 1 - i) : Int)) := by
      have := nv_at (os := fold4) (show m - 1 - i < fold4.length by omega)
      rw [show (((m - 1 - i : Nat)) : Int) = (m : Int) - 1 - (0 + (i : Int)) by omega] at this
      exact this
    refine ⟨_, rfl, _, rfl, pF, _, _, _, rfl, rfl, SqL.of (e1 _ _ (s6z _ _ i56)), at1, _, rfl, pq4, _, _, _, rfl, rfl, SqT.of (e1 _ _ hpq4), rfl, _, rfl, _, _, rfl, rfl, _, rfl, _, _, rfl, rfl, pf4, _, _, _, rfl, rfl, SqL.of (e1 _ _ hpf4), at2, small_le (by show 2 ≤ 1000; decide), fun p hp => ⟨small1000 (by omega), e1.trans (same_new hp _), ?_⟩⟩
    refine ⟨by rw [List.length_append, prs_len, la]; rfl, fun j v z h1 h2 => ?_⟩
    by_cases c : j < i
    · rw [List.getElem?_append_left (by omega)] at h1
      rw [prs_at (by omega)] at h2
      obtain ⟨b, h3, h4⟩ := e3.2 j v z h1 (by rw [prs_at c]; exact h2)
      exact ⟨b, h3, (same_new hp _) _ _ h4⟩
    · have hj := (List.getElem?_eq_some_iff.mp h1).1
      rw [List.length_append, List.length_singleton] at hj
      obtain rfl : j = i := by omega
      rw [List.getElem?_append_right (by omega), la, Nat.sub_self] at h1
      rw [prs_at (by omega)] at h2
      obtain rfl := Option.some.inj h1
      obtain rfl := Option.some.inj h2
      exact ⟨p, rfl, upd_same⟩
  rw [Int.toNat_natCast] at e3
  have u13 := same_new hp13 (.lst ac)
  have i13 : upd H' p13 (.lst ac) p13 = some (.lst ac) := upd_same
  have e3' : PrsIn (upd H' p13 (.lst ac)) ac (prs m (fun k => fAt fold k) fun k => fAt fold4 (m - 1 - k)) := ⟨e3.1, fun j v z h1 h2 => by
    obtain ⟨b, h3, h4⟩ := e3.2 j v z h1 h2
    exact ⟨b, h3, u13 _ _ h4⟩⟩
  have sz := e1.trans u13
  clear u13 e3
  generalize upd H' p13 (.lst ac) = H13 at i13 e3' sz ⊢
  obtain ⟨cnt, en⟩ := prs_count (m := m) (n := n) (n' := n4) (f := fun k => fAt fold k) (g := fun k => fAt fold4 (m - 1 - k)) (fun a b ha hb => tn a b ha hb) S.lt S.onto (fun k hk => S4.lt _ (by omega)) (fun c hc => by
    obtain ⟨k, hk, ek⟩ := S4.onto c hc
    exact ⟨m - 1 - k, by omega, by show fAt fold4 (m - 1 - (m - 1 - k)) = c; rw [show m - 1 - (m - 1 - k) = k by omega]; exact ek⟩)
  refine ⟨fun v H' => v = .bl true, ?_, ?_⟩
  · refine ⟨_, rfl, pq4, _, _, _, rfl, rfl, SqT.of (sz _ _ hpq4), rfl, ps4, _, rfl, .inl (SqL.of (sz _ _ hps4)), _, rfl, pS, _, rfl, .inl (SqL.of (sz _ _ (s6z _ _ i6))), rfl, _, rfl, ifT ?_ ?_⟩
    · rw [lsv4, lsm4, lsv, lsm, en]
      exact decide_eq_true rfl
    refine ⟨_, rfl, p13, ac, _, rfl, SqL.of i13, e3', by rw [prs_len]; omega, _, rfl, pS, _, rfl, .inl (SqL.of (sz _ _ (s6z _ _ i6))), rfl, ?_⟩
    rw [cnt, lsv, lsm]
    show V.bl (decide _) = _
    rw [decide_eq_true rfl]
  rintro v Hb rfl
  exact q Hb
end
end Tb

namespace Tb
open PySem L2 Mix Gds
/-! the top -/
def fnD (x q : Str) (st : Stmt) (pm cd : Value) : FuncData := PySem.W.fnOf x q (defArgs st) (defBody st) (defScope st) .none .none .none pm none cd .none
def fnB (d : FuncData) : Obj := ⟨.type "function", none, .func d, #[]⟩
def fd1 : FuncData := fnD "numbered" "numbered" s_numbered (.str "nesthall.shrinking" 187) (.ref 18)
def fd2 : FuncData := fnD "folded_moves" "folded_moves" s_folded_moves (.str "nesthall.shrinking" 187) (.ref 23)
def fd3 : FuncData := fnD "finer" "finer" s_finer (.str "nesthall.shrinking" 187) (.ref 28)
def fd4 : FuncData := fnD "alike" "alike" s_alike (.str "nesthall.shrinking" 187) (.ref 33)
def fd5 : FuncData := fnD "shrunk" "shrunk" s_shrunk (.str "nesthall.shrinking" 187) (.ref 38)
def fd6 : FuncData := fnD "_law_cell_at" "_law_cell_at" sCell (.str "law_nesthall_k39_shrunk_again" 219) (.ref 45)
def fd7 : FuncData := fnD "_law_cell" "_law_cell" s_L_cell (.str "law_nesthall_k39_shrunk_again" 219) (.ref 52)
def fd8 : FuncData := fnD "_law_own_row" "_law_own_row" s_L_own_row (.str "law_nesthall_k39_shrunk_again" 219) (.ref 59)
def fd9 : FuncData := fnD "_law_shifted" "_law_shifted" s_L_shifted (.str "law_nesthall_k39_shrunk_again" 219) (.ref 66)
def fd10 : FuncData := fnD "law" "law" sLawF (.str "law_nesthall_k39_shrunk_again" 219) (.ref 71)
def KO (P : Params) : PySem.W.Frag := [
  (3, ⟨.type "dict", none, .dict #[⟨PyData.keyHash P "__name__", .str "__name__" 165, .str "law_nesthall_k39_shrunk_again" 219⟩, ⟨PyData.keyHash P "__doc__", .str "__doc__" 166, .none⟩, ⟨PyData.keyHash P "__package__", .str "__package__" 167, .none⟩, ⟨PyData.keyHash P "__loader__", .str "__loader__" 168, .builtin "__main__.__loader__#opaque"⟩, ⟨PyData.keyHash P "__spec__", .str "__spec__" 169, .none⟩, ⟨PyData.keyHash P "__annotations__", .str "__annotations__" 170, .ref 6⟩, ⟨PyData.keyHash P "__builtins__", .str "__builtins__" 171, .ref 4⟩, ⟨PyData.keyHash P "__file__", .str "__file__" 173, .str "/claim/cut.py" 172⟩, ⟨PyData.keyHash P "__cached__", .str "__cached__" 174, .none⟩, ⟨PyData.keyHash P "numbered", .str "numbered" 194, .ref 19⟩, ⟨PyData.keyHash P "folded_moves", .str "folded_moves" 200, .ref 24⟩, ⟨PyData.keyHash P "finer", .str "finer" 206, .ref 29⟩, ⟨PyData.keyHash P "alike", .str "alike" 212, .ref 34⟩, ⟨PyData.keyHash P "shrunk", .str "shrunk" 218, .ref 39⟩, ⟨PyData.keyHash P "_law_cell_at", .str "_law_cell_at" 228, .ref 46⟩, ⟨PyData.keyHash P "_law_cell", .str "_law_cell" 240, .ref 53⟩, ⟨PyData.keyHash P "_law_own_row", .str "_law_own_row" 255, .ref 60⟩, ⟨PyData.keyHash P "_law_shifted", .str "_law_shifted" 266, .ref 67⟩, ⟨PyData.keyHash P "law", .str "law" 272, .ref 72⟩] 19, #[]⟩),
  (18, ⟨.type "code", none, .fields #[.str "numbered" 189, .str "numbered" 190, .str "/claim/cut.py" 191, .int (2) 0, .int (1) 0, .int (0) 0, .int (0) 0, .int (3) 0, .ref 15, .bool true, .int (181) 0, .ref 16, .none, .none, .none, .ref 17, .int (192) 0, .int (2) 0, .str "/claim/cut.py" 193], #[]⟩),
  (19, fnB fd1),
  (23, ⟨.type "code", none, .fields #[.str "folded_moves" 195, .str "folded_moves" 196, .str "/claim/cut.py" 197, .int (7) 0, .int (2) 0, .int (0) 0, .int (0) 0, .int (3) 0, .ref 20, .bool true, .int (181) 0, .ref 21, .none, .none, .none, .ref 22, .int (198) 0, .int (7) 0, .str "/claim/cut.py" 199], #[]⟩),
  (24, fnB fd2),
  (28, ⟨.type "code", none, .fields #[.str "finer" 201, .str "finer" 202, .str "/claim/cut.py" 203, .int (9) 0, .int (2) 0, .int (0) 0, .int (0) 0, .int (3) 0, .ref 25, .bool true, .int (181) 0, .ref 26, .none, .none, .none, .ref 27, .int (204) 0, .int (9) 0, .str "/claim/cut.py" 205], #[]⟩),
  (29, fnB fd3),
  (33, ⟨.type "code", none, .fields #[.str "alike" 207, .str "alike" 208, .str "/claim/cut.py" 209, .int (11) 0, .int (1) 0, .int (0) 0, .int (0) 0, .int (3) 0, .ref 30, .bool true, .int (181) 0, .ref 31, .none, .none, .none, .ref 32, .int (210) 0, .int (11) 0, .str "/claim/cut.py" 211], #[]⟩),
  (34, fnB fd4),
  (38, ⟨.type "code", none, .fields #[.str "shrunk" 213, .str "shrunk" 214, .str "/claim/cut.py" 215, .int (18) 0, .int (1) 0, .int (0) 0, .int (0) 0, .int (3) 0, .ref 35, .bool true, .int (181) 0, .ref 36, .none, .none, .none, .ref 37, .int (216) 0, .int (18) 0, .str "/claim/cut.py" 217], #[]⟩),
  (39, fnB fd5),
  (45, ⟨.type "code", none, .fields #[.str "_law_cell_at" 221, .str "_law_cell_at" 222, .str "/claim/cut.py" 223, .int (23) 0, .int (2) 0, .int (0) 0, .int (0) 0, .int (3) 0, .ref 40, .bool true, .int (181) 0, .ref 41, .none, .ref 42, .ref 43, .ref 44, .int (226) 0, .int (23) 0, .str "/claim/cut.py" 227], #[]⟩),
  (46, fnB fd6),
  (52, ⟨.type "code", none, .fields #[.str "_law_cell" 229, .str "_law_cell" 230, .str "/claim/cut.py" 231, .int (27) 0, .int (3) 0, .int (0) 0, .int (0) 0, .int (3) 0, .ref 47, .bool true, .int (181) 0, .ref 48, .none, .ref 49, .ref 50, .ref 51, .int (238) 0, .int (27) 0, .str "/claim/cut.py" 239], #[]⟩),
  (53, fnB fd7),
  (59, ⟨.type "code", none, .fields #[.str "_law_own_row" 241, .str "_law_own_row" 242, .str "/claim/cut.py" 243, .int (33) 0, .int (4) 0, .int (0) 0, .int (0) 0, .int (3) 0, .ref 54, .bool true, .int (181) 0, .ref 55, .none, .ref 56, .ref 57, .ref 58, .int (253) 0, .int (33) 0, .str "/claim/cut.py" 254], #[]⟩),
  (60, fnB fd8),
  (66, ⟨.type "code", none, .fields #[.str "_law_shifted" 256, .str "_law_shifted" 257, .str "/claim/cut.py" 258, .int (41) 0, .int (3) 0, .int (0) 0, .int (0) 0, .int (3) 0, .ref 61, .bool true, .int (181) 0, .ref 62, .none, .ref 63, .ref 64, .ref 65, .int (264) 0, .int (41) 0, .str "/claim/cut.py" 265], #[]⟩),
  (67, fnB fd9),
  (71, ⟨.type "code", none, .fields #[.str "law" 267, .str "law" 268, .str "/claim/cut.py" 269, .int (46) 0, .int (1) 0, .int (0) 0, .int (0) 0, .int (3) 0, .ref 68, .bool true, .int (181) 0, .ref 69, .none, .none, .none, .ref 70, .int (270) 0, .int (46) 0, .str "/claim/cut.py" 271], #[]⟩),
  (72, fnB fd10)]
def KA : List Addr := [3, 18, 19, 23, 24, 28, 29, 33, 34, 38, 39, 45, 46, 52, 53, 59, 60, 66, 67, 71, 72]
def PW : Program := PySem.Challenge.pw_nesthall_k39_shrunk_again
def QV : Program := PySem.W.view PW [11]
def LS : List Str := [Str.ofString "__name__", Str.ofString "numbered", Str.ofString "folded_moves", Str.ofString "finer", Str.ofString "alike", Str.ofString "shrunk", Str.ofString "_law_cell_at", Str.ofString "_law_cell", Str.ofString "_law_own_row", Str.ofString "_law_shifted"]
def HK : PySem.W.Hook := PySem.W.kHook KO KA fun _ => by kernel_rfl
def defPos : Stmt → Pos
  | .FunctionDef _ _ _ _ _ _ _ _ _ p => p
  | _ => ⟨0, 0, 0, 0⟩
def dLaw : DefRec := ⟨"law", defArgs sLawF, defBody sLawF, defScope sLawF, defPos sLawF⟩
set_option maxHeartbeats 0 in
theorem said : PySem.Challenge.rw_nesthall_k39_shrunk_again.wellSaid = true := by kernel_rfl
set_option maxHeartbeats 0 in
theorem left : PySem.W.LeftO PW QV LS (fun s => PySem.W.xlAt QV [] s && PySem.W.recOk [] s) HK.obs HK.val 1880 := fun w => by kernel_rfl
theorem hdef : PySem.W.defOf QV "law" = some (dLaw, []) := by kernel_rfl
theorem hok : (PySem.W.chainsOk QV && PySem.W.opensWell PW && (PySem.W.frees PySem.Challenge.rw_nesthall_k39_shrunk_again.row.toRowW && PySem.Challenge.rw_nesthall_k39_shrunk_again.row.within.isEmpty)) = true := by kernel_rfl
theorem hbare : PW.bare := ⟨rfl, rfl, rfl, rfl, rfl, by decide +kernel⟩
theorem hkw : PySem.W.kwWritten? dLaw.params.kwonlyargs dLaw.params.kw_defaults = some [] := by kernel_rfl
theorem hthe : PW.theDef "law" = some (dLaw.params, dLaw.body, dLaw.scope) := by kernel_rfl
theorem a1 (P : Params) : PySem.W.nsIn (KO P) mainGlobals "numbered" = some (some (.ref 19)) := by kernel_rfl
theorem u1 (P : Params) : Fun (KO P) "numbered" "numbered" s_numbered 19 fd1 := fun_mk (show (KO P).lookup 19 = some (fnB fd1) by kernel_rfl) (by kernel_rfl) (by kernel_rfl)
theorem a2 (P : Params) : PySem.W.nsIn (KO P) mainGlobals "folded_moves" = some (some (.ref 24)) := by kernel_rfl
theorem u2 (P : Params) : Fun (KO P) "folded_moves" "folded_moves" s_folded_moves 24 fd2 := fun_mk (show (KO P).lookup 24 = some (fnB fd2) by kernel_rfl) (by kernel_rfl) (by kernel_rfl)
theorem a3 (P : Params) : PySem.W.nsIn (KO P) mainGlobals "finer" = some (some (.ref 29)) := by kernel_rfl
theorem u3 (P : Params) : Fun (KO P) "finer" "finer" s_finer 29 fd3 := fun_mk (show (KO P).lookup 29 = some (fnB fd3) by kernel_rfl) (by kernel_rfl) (by kernel_rfl)
theorem a4 (P : Params) : PySem.W.nsIn (KO P) mainGlobals "alike" = some (some (.ref 34)) := by kernel_rfl
theorem u4 (P : Params) : Fun (KO P) "alike" "alike" s_alike 34 fd4 := fun_mk (show (KO P).lookup 34 = some (fnB fd4) by kernel_rfl) (by kernel_rfl) (by kernel_rfl)
theorem a5 (P : Params) : PySem.W.nsIn (KO P) mainGlobals "shrunk" = some (some (.ref 39)) := by kernel_rfl
theorem u5 (P : Params) : Fun (KO P) "shrunk" "shrunk" s_shrunk 39 fd5 := fun_mk (show (KO P).lookup 39 = some (fnB fd5) by kernel_rfl) (by kernel_rfl) (by kernel_rfl)
theorem a6 (P : Params) : PySem.W.nsIn (KO P) mainGlobals "_law_cell_at" = some (some (.ref 46)) := by kernel_rfl
theorem u6 (P : Params) : Fun (KO P) "_law_cell_at" "_law_cell_at" sCell 46 fd6 := fun_mk (show (KO P).lookup 46 = some (fnB fd6) by kernel_rfl) (by kernel_rfl) (by kernel_rfl)
theorem a7 (P : Params) : PySem.W.nsIn (KO P) mainGlobals "_law_cell" = some (some (.ref 53)) := by kernel_rfl
theorem u7 (P : Params) : Fun (KO P) "_law_cell" "_law_cell" s_L_cell 53 fd7 := fun_mk (show (KO P).lookup 53 = some (fnB fd7) by kernel_rfl) (by kernel_rfl) (by kernel_rfl)
theorem a8 (P : Params) : PySem.W.nsIn (KO P) mainGlobals "_law_own_row" = some (some (.ref 60)) := by kernel_rfl
theorem u8 (P : Params) : Fun (KO P) "_law_own_row" "_law_own_row" s_L_own_row 60 fd8 := fun_mk (show (KO P).lookup 60 = some (fnB fd8) by kernel_rfl) (by kernel_rfl) (by kernel_rfl)
theorem a9 (P : Params) : PySem.W.nsIn (KO P) mainGlobals "_law_shifted" = some (some (.ref 67)) := by kernel_rfl
theorem u9 (P : Params) : Fun (KO P) "_law_shifted" "_law_shifted" s_L_shifted 67 fd9 := fun_mk (show (KO P).lookup 67 = some (fnB fd9) by kernel_rfl) (by kernel_rfl) (by kernel_rfl)
theorem a10 (P : Params) : PySem.W.nsIn (KO P) mainGlobals "law" = some (some (.ref 72)) := by kernel_rfl
theorem u10 (P : Params) : Fun (KO P) "law" "law" sLawF 72 fd10 := fun_mk (show (KO P).lookup 72 = some (fnB fd10) by kernel_rfl) (by kernel_rfl) (by kernel_rfl)
theorem z1 (P : Params) : PySem.W.nsIn (KO P) mainGlobals "len" = some none := by kernel_rfl
theorem z2 (P : Params) : PySem.W.nsIn (KO P) mainGlobals "list" = some none := by kernel_rfl
theorem z3 (P : Params) : PySem.W.nsIn (KO P) mainGlobals "max" = some none := by kernel_rfl
theorem z4 (P : Params) : PySem.W.nsIn (KO P) mainGlobals "min" = some none := by kernel_rfl
theorem z5 (P : Params) : PySem.W.nsIn (KO P) mainGlobals "range" = some none := by kernel_rfl
theorem z6 (P : Params) : PySem.W.nsIn (KO P) mainGlobals "tuple" = some none := by kernel_rfl
theorem z7 (P : Params) : PySem.W.nsIn (KO P) mainGlobals "isinstance" = some none := by kernel_rfl
theorem z8 (P : Params) : PySem.W.nsIn (KO P) mainGlobals "int" = some none := by kernel_rfl
theorem z9 (P : Params) : PySem.W.nsIn (KO P) mainGlobals "bool" = some none := by kernel_rfl
theorem z10 (P : Params) : PySem.W.nsIn (KO P) mainGlobals "reversed" = some none := by kernel_rfl
theorem z11 (P : Params) : PySem.W.nsIn (KO P) mainGlobals "zip" = some none := by kernel_rfl
theorem z12 (P : Params) : PySem.W.nsIn (KO P) mainGlobals "enumerate" = some none := by kernel_rfl
theorem z13 (P : Params) : PySem.W.nsIn (KO P) mainGlobals "str" = some none := by kernel_rfl
theorem z14 (P : Params) : PySem.W.nsIn (KO P) mainGlobals "set" = some none := by kernel_rfl
set_option maxHeartbeats 0 in
theorem law_ok {w : World} {mg : Str → Option Value} {h base : Heap} (X : (KO w.params).In h) (G : h.Ns mainGlobals mg) : FnOk PW w (KO w.params) mg base CX0 5 72 fd10 ["_law_script"] (spLaw (KO w.params)) := by
  have F1 := u1 w.params
  have b1 := F1.binds (ps := ["looks"]) fun _ _ _ _ _ _ us hl => match us, hl with | [_], _ => rfl
  have m1 := PySem.W.mg_of X G (a1 w.params)
  have k1 := F1.kp
  have F2 := u2 w.params
  have b2 := F2.binds (ps := ["row", "fold"]) fun _ _ _ _ _ _ us hl => match us, hl with | [_, _], _ => rfl
  have m2 := PySem.W.mg_of X G (a2 w.params)
  have k2 := F2.kp
  have F3 := u3 w.params
  have b3 := F3.binds (ps := ["rows", "fold"]) fun _ _ _ _ _ _ us hl => match us, hl with | [_, _], _ => rfl
  have m3 := PySem.W.mg_of X G (a3 w.params)
  have k3 := F3.kp
  have F4 := u4 w.params
  have b4 := F4.binds (ps := ["rows"]) fun _ _ _ _ _ _ us hl => match us, hl with | [_], _ => rfl
  have m4 := PySem.W.mg_of X G (a4 w.params)
  have k4 := F4.kp
  have F5 := u5 w.params
  have b5 := F5.binds (ps := ["rows"]) fun _ _ _ _ _ _ us hl => match us, hl with | [_], _ => rfl
  have m5 := PySem.W.mg_of X G (a5 w.params)
  have k5 := F5.kp
  have F6 := u6 w.params
  have b6 := F6.binds (ps := ["_law_script", "_law_k"]) fun _ _ _ _ _ _ us hl => match us, hl with | [_, _], _ => rfl
  have m6 := PySem.W.mg_of X G (a6 w.params)
  have k6 := F6.kp
  have F7 := u7 w.params
  have b7 := F7.binds (ps := ["_law_script", "_law_k", "_law_salt"]) fun _ _ _ _ _ _ us hl => match us, hl with | [_, _, _], _ => rfl
  have m7 := PySem.W.mg_of X G (a7 w.params)
  have k7 := F7.kp
  have F8 := u8 w.params
  have b8 := F8.binds (ps := ["_law_script", "_law_k", "_law_many", "_law_events"]) fun _ _ _ _ _ _ us hl => match us, hl with | [_, _, _, _], _ => rfl
  have m8 := PySem.W.mg_of X G (a8 w.params)
  have k8 := F8.kp
  have F9 := u9 w.params
  have b9 := F9.binds (ps := ["_law_row", "_law_by", "_law_sign"]) fun _ _ _ _ _ _ us hl => match us, hl with | [_, _, _], _ => rfl
  have m9 := PySem.W.mg_of X G (a9 w.params)
  have k9 := F9.kp
  have F10 := u10 w.params
  have n_len := PySem.W.mg_none_of X G (z1 w.params)
  have n_list := PySem.W.mg_none_of X G (z2 w.params)
  have n_max := PySem.W.mg_none_of X G (z3 w.params)
  have n_min := PySem.W.mg_none_of X G (z4 w.params)
  have n_range := PySem.W.mg_none_of X G (z5 w.params)
  have n_tuple := PySem.W.mg_none_of X G (z6 w.params)
  have n_isinstance := PySem.W.mg_none_of X G (z7 w.params)
  have n_int := PySem.W.mg_none_of X G (z8 w.params)
  have n_bool := PySem.W.mg_none_of X G (z9 w.params)
  have n_reversed := PySem.W.mg_none_of X G (z10 w.params)
  have n_zip := PySem.W.mg_none_of X G (z11 w.params)
  have n_enumerate := PySem.W.mg_none_of X G (z12 w.params)
  have n_str := PySem.W.mg_none_of X G (z13 w.params)
  have n_set := PySem.W.mg_none_of X G (z14 w.params)
  have G1 := ok_numbered (P := PW) (w := w) (base := base) (mg := mg) F1 n_len
  have G2 := ok_folded_moves (P := PW) (w := w) (base := base) (mg := mg) F2 n_tuple
  have G3 := ok_finer (P := PW) (w := w) (base := base) (mg := mg) F3 G1 b1 k1 m1 G2 b2 k2 m2 n_zip
  have G4 := ok_alike (P := PW) (w := w) (base := base) (mg := mg) F4 (G1.mono (show 1 ≤ 2 by decide)) b1 k1 m1 G3 b3 k3 m3
  have G5 := ok_shrunk (P := PW) (w := w) (base := base) (mg := mg) F5 G4 b4 k4 m4 (G2.mono (show 1 ≤ 3 by decide)) b2 k2 m2 n_enumerate
  have G6 := Mix.ok_cell (P := PW) (w := w) (base := base) (mg := mg) F6 n_len
  have G7 := Mix.ok_lcell (P := PW) (w := w) (base := base) (mg := mg) F7 G6 b6 k6 m6 n_len n_max
  have G8 := ok_own (P := PW) (w := w) (base := base) (mg := mg) F8 G7 b7 k7 m7 n_range n_tuple
  have G9 := ok_shifted (P := PW) (w := w) (base := base) (mg := mg) F9 n_tuple
  exact ok_law (n0 := 4) F10 (G7.mono (show 2 ≤ 4 by decide)) b7 k7 m7 (G8.mono (show 3 ≤ 4 by decide)) b8 k8 m8 G5 b5 k5 m5 (G9.mono (show 1 ≤ 4 by decide)) b9 k9 m9 n_len n_list n_range n_set
theorem walk : PySem.W.WalkO QV LS (PySem.W.XL QV []) HK.says PySem.Challenge.rw_nesthall_k39_shrunk_again.row.toRowW dLaw [] (fun f vs => PySem.call f vs) := by
  refine L2.walk_of (l := PySem.Challenge.rw_nesthall_k39_shrunk_again) (n := 63) (k := 5) (x := "_law_script") (K := KO) (CX := fun _ => CX0) (sp := fun w => spLaw (KO w.params)) rfl (by decide) rfl ⟨rfl, by decide, by decide⟩ (fun w h Y => Y) ?_ (fun _ _ a ns hl _ hS => ⟨a, ns, rfl, hS, hl, fun _ => rfl⟩) fun _ _ _ _ _ z => z
  intro w mg fa h KX G hmg
  have e := hmg.symm.trans (PySem.W.mg_of KX G (a10 w.params))
  cases e
  exact ⟨fd10, fun s v => .of_eq rfl, fun base _ _ => law_ok KX G⟩
end Tb
open PySem PySem.W PyProof.Rows
set_option maxRecDepth 100000 in
set_option maxHeartbeats 0 in
theorem PySem.Challenge.cw_nesthall_k39_shrunk_again_holds : PySem.Challenge.rw_nesthall_k39_shrunk_again.Holds := by
  refine holds_law Tb.said fun said => ?_
  refine PySem.W.holds_open (r := PySem.Challenge.rw_nesthall_k39_shrunk_again.row) Tb.left Tb.HK.of Tb.HK.keeps
    (fun s e => xl_of s (Bool.and_eq_true_iff.mp e).1) XL.keeps Tb.hdef Tb.hthe Tb.hkw
    (fun s e => recFacts_of (Bool.and_eq_true_iff.mp e).2) rfl said Tb.hok Tb.hbare ?hw Tb.walk
  case hw => w_witness2
