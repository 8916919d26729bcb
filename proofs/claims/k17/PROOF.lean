import PyProof.Rows.All
import Wide.All
import OpenK.AllK
import Wide.FinOn
import Lean
import PyProof.EqAt
import PyProof.EqKinds
import PyProof.TupleCall
import PySem.Challenge.RW_nesthall_k17_deep_comes_back
set_option Elab.async false
set_option linter.all false
set_option maxRecDepth 100000
/-! THE HAND LAYER, for ints, bools, texts, own classes, LISTS and tuples (index, slices, in, append, pop ..), calls, loops. Paste it whole ahead of your own text; what your proof does not reach may be deleted. -/
namespace L2
open PySem PySem.Spec PyProof.Rows

/-- a key: an int or a str -/
abbrev Key := Sum Int Str
def keyIs : Key → Value → Bool
  | .inl k, v => Value.isInt k v
  | .inr x, v => Value.isStrOf x v
def keyH (w : World) : Key → Int
  | .inl k => hashInt k
  | .inr x => hashStr w x
theorem keyIs_shape : ∀ {k : Key} {v : Value}, keyIs k v = true → (∃ i t, k = Sum.inl i ∧ v = Value.int i t) ∨ (∃ x t, k = Sum.inr x ∧ v = Value.str x t)
  | .inl i, v, h => by
    obtain ⟨t, e⟩ := Value.isInt_shape (k := i) (v := v) h
    exact .inl ⟨i, t, rfl, e⟩
  | .inr x, v, h => by
    obtain ⟨t, e⟩ := Value.isStrOf_shape (x := x) (v := v) h
    exact .inr ⟨x, t, rfl, e⟩
theorem keyIs_int (i : Int) (t : Tok) : keyIs (.inl i) (.int i t) = true := by simp [keyIs, Value.isInt]
theorem keyIs_str (x : Str) (t : Tok) : keyIs (.inr x) (.str x t) = true := by simp [keyIs, Value.isStrOf]
theorem key_ll (a b : Int) : decide ((Sum.inl a : Key) = Sum.inl b) = (a == b) := by
  by_cases e : a = b
  · subst e; simp
  · have h : ¬ (Sum.inl a : Key) = Sum.inl b := fun q => e (Sum.inl.inj q)
    rw [decide_eq_false h]
    exact (beq_eq_false_iff_ne.mpr e).symm
theorem key_rr (a b : Str) : decide ((Sum.inr a : Key) = Sum.inr b) = decide (a = b) := by
  by_cases e : a = b
  · subst e; simp
  · have h : ¬ (Sum.inr a : Key) = Sum.inr b := fun q => e (Sum.inr.inj q)
    rw [decide_eq_false h, decide_eq_false e]
theorem key_lr (a : Int) (b : Str) : decide ((Sum.inl a : Key) = Sum.inr b) = false := decide_eq_false (fun q => nomatch q)
theorem key_rl (a : Str) (b : Int) : decide ((Sum.inr a : Key) = Sum.inl b) = false := decide_eq_false (fun q => nomatch q)

def mixKind (prog : Program) (w : World) : PySem.KeyKind prog w Key where
  is := keyIs
  hash := keyH w
  inj := fun v a b ha hb => by
    rcases keyIs_shape ha with ⟨i, t, rfl, rfl⟩ | ⟨x, t, rfl, rfl⟩
    · rcases keyIs_shape hb with ⟨j, u, rfl, e⟩ | ⟨y, u, rfl, e⟩
      · injection e with e1 _; rw [e1]
      · exact nomatch e
    · rcases keyIs_shape hb with ⟨j, u, rfl, e⟩ | ⟨y, u, rfl, e⟩
      · exact nomatch e
      · injection e with e1 _; rw [e1]
  byValue := fun k v h => by
    rcases keyIs_shape h with ⟨i, t, rfl, rfl⟩ | ⟨x, t, rfl, rfl⟩ <;> rfl
  pyHash := fun hv h => by
    rcases keyIs_shape hv with ⟨i, t, rfl, rfl⟩ | ⟨x, t, rfl, rfl⟩
    · exact wpAny_pyHash_int h
    · exact wpAny_pyHash_str h
  eqBool := fun hu hv h => by
    rcases keyIs_shape hu with ⟨i, t, rfl, rfl⟩ | ⟨x, t, rfl, rfl⟩
    · rcases keyIs_shape hv with ⟨j, u, rfl, rfl⟩ | ⟨y, u, rfl, rfl⟩
      · rw [key_ll] at h; exact wpAny_eqBool_int h
      · rw [key_lr] at h; exact SeqAt.EqAt.int_str i t y u _ _ _ _ h
    · rcases keyIs_shape hv with ⟨j, u, rfl, rfl⟩ | ⟨y, u, rfl, rfl⟩
      · rw [key_rl] at h; exact SeqAt.EqAt.str_int x t j u _ _ _ _ h
      · rw [key_rr] at h; exact wpAny_eqBool_str h
  «strs» := fun k x t v h => by
    rcases keyIs_shape h with ⟨i, u, rfl, e⟩ | ⟨y, u, rfl, e⟩
    · exact nomatch e
    · injection e with e1 _
      subst e1
      cases v <;> rfl

theorem mixKind_is (prog : Program) (w : World) (k : Key) (v : Value) : (mixKind prog w).is k v = keyIs k v := rfl
theorem mixKind_int (prog : Program) (w : World) (i : Int) (t : Tok) : (mixKind prog w).is (.inl i) (.int i t) = true := keyIs_int i t
theorem mixKind_str (prog : Program) (w : World) (x : Str) (t : Tok) : (mixKind prog w).is (.inr x) (.str x t) = true := keyIs_str x t
end L2

namespace L2
open PySem PySem.Spec PyProof.Rows

/-- a value, without the heap -/
inductive V where
  | non | bl (b : Bool) | int (i : Int) | str (x : Str) | byt (b : Array UInt8) | flt (b : UInt64) | ref (a : Addr) | ty (n : String)
  deriving DecidableEq

def RelV : V → Value → Prop
  | .non, u => u = Value.none
  | .bl b, u => u = Value.bool b
  | .int i, u => ∃ t, u = Value.int i t
  | .str x, u => ∃ t, u = Value.str x t
  | .byt b, u => ∃ t, u = Value.bytes b t
  | .flt b, u => ∃ t, u = Value.float b t
  | .ref a, u => u = Value.ref a
  | .ty n, u => u = Value.type n

abbrev Vals : List V → List Value → Prop := Paired RelV
theorem Vals.length {xs : List V} {us : List Value} (r : Vals xs us) : xs.length = us.length := Paired.length r
theorem Vals.get : ∀ {xs : List V} {us : List Value} {i : Nat} {x : V}, Vals xs us → xs[i]? = some x → ∃ u, us[i]? = some u ∧ RelV x u
  | _, _, _, _, .nil, e => by simp at e
  | _, _, 0, _, .cons r _, e => by simp at e; subst e; exact ⟨_, rfl, r⟩
  | _, _, i + 1, x, .cons _ t, e => by
    obtain ⟨u, h1, h2⟩ := Vals.get (i := i) (x := x) t (by simpa using e)
    exact ⟨u, by simpa using h1, h2⟩
theorem Vals.set {x : V} {u : Value} (r : RelV x u) : ∀ {xs : List V} {us : List Value} (i : Nat), Vals xs us → Vals (xs.set i x) (us.set i u)
  | _, _, _, .nil => .nil
  | _, _, 0, .cons _ t => .cons r t
  | _, _, i + 1, .cons q t => .cons q (Vals.set r i t)
theorem Vals.append : ∀ {xs ys : List V} {us ws : List Value}, Vals xs us → Vals ys ws → Vals (xs ++ ys) (us ++ ws)
  | _, _, _, _, .nil, s => s
  | _, _, _, _, .cons r t, s => .cons r (Vals.append t s)
theorem Vals.take : ∀ {xs : List V} {us : List Value} (n : Nat), Vals xs us → Vals (xs.take n) (us.take n)
  | _, _, 0, _ => .nil
  | _, _, _ + 1, .nil => .nil
  | _, _, n + 1, .cons r t => .cons r (Vals.take n t)
theorem Vals.drop : ∀ {xs : List V} {us : List Value} (n : Nat), Vals xs us → Vals (xs.drop n) (us.drop n)
  | _, _, 0, r => r
  | _, _, _ + 1, .nil => .nil
  | _, _, n + 1, .cons _ t => Vals.drop n t
theorem Vals.none_of : ∀ {xs : List V} {us : List Value} {i : Nat}, Vals xs us → xs[i]? = none → us[i]? = none := fun {xs us i} r e => by
  have h1 := r.length
  have h2 : xs.length ≤ i := List.getElem?_eq_none_iff.mp e
  exact List.getElem?_eq_none_iff.mpr (by omega)

def RelO : Option V → Option Value → Prop
  | some v, some u => RelV v u
  | none, none => True
  | _, _ => False
def KV {κ : Type} : List (κ × V) → List (κ × Value) → Prop := Paired fun (p : κ × V) (q : κ × Value) => p.1 = q.1 ∧ RelV p.2 q.2

/-- a key of a dict (00_mix): an int or a text -/
def kV : Key → V
  | .inl i => .int i
  | .inr x => .str x

/-- what stands at a tracked address -/
inductive HO where
  /-- a list -/
  | lst (xs : List V)
  /-- a tuple (never changes) -/
  | tup (xs : List V)
  /-- a dict whose keys are ints and texts; one whose keys are tuples of ints and texts (the empty one is both) -/
  | dK (kvs : List (Key × V)) | dT (kvs : List (List Key × V))
  /-- a set of ints: its members, its size -/
  | set (S : Int → Bool) (n : Nat)
  /-- an instance of the class at C, its dict at dx, its attributes -/
  | ins (C dx : Addr) (fs : List (Str × V))
  /-- the dict of the instance at x -/
  | own (x : Addr)
  /-- the dict of an exception -/
  | xd (fs : List (Str × V))
  /-- a bound method, f of x -/
  | met (f x : Addr)
  /-- a range object lo, lo + 1, .. below hi -/
  | rng (lo hi : Int)
  /-- a thing that is known to the object (the script; a dict while a loop walks it): read, never written while it is so -/
  | frz (o : Obj) (u : HO)
  /-- a code object's table -/
  | tbl (ps : Array Value)
  /-- any other thing, by what is true of its one object (a def of one's own: SetO a S n := HO.ext fun h => ..) -/
  | ext (φ : Heap → Prop)

abbrev Hp := Addr → Option HO
def upd (H : Hp) (a : Addr) (o : HO) : Hp := fun b => if b = a then some o else H b
theorem upd_same {H : Hp} {a : Addr} {o : HO} : upd H a o a = some o := by unfold upd; rw [if_pos rfl]
theorem upd_ne {H : Hp} {a b : Addr} {o : HO} (h : b ≠ a) : upd H a o b = H b := by unfold upd; rw [if_neg h]
theorem upd_upd {H : Hp} {a : Addr} {o u : HO} : upd (upd H a o) a u = upd H a u := by
  funext b; unfold upd; split <;> rfl
/-- two objects of different content stand apart -/
theorem ne_of {H : Hp} {a b : Addr} {o u : HO} (h : H a = some o) (h' : H b = some u) (d : o ≠ u) : a ≠ b := by
  intro e; subst e; rw [h] at h'; exact d (Option.some.inj h')
theorem ne_of_none {H : Hp} {a b : Addr} {o : HO} (h : H a = some o) (h' : H b = none) : a ≠ b := by
  intro e; subst e; rw [h] at h'; cases h'

section
variable (P : Program) (w : World)
def ObjOk (H : Hp) (h : Heap) (a : Addr) : HO → Prop
  | .lst xs => xs.length ≤ sizeLine ∧ ∃ (its : List Value) (n : Nat), Vals xs its ∧ h.get? a = some { cls := .type "list", data := .seq its.toArray n }
  | .tup xs => xs.length ≤ sizeLine ∧ ∃ its : List Value, Vals xs its ∧ IsTup h a its.toArray
  | .dK kvs => kvs.length ≤ sizeLine ∧ (a == sysModules) = false ∧ ∃ vs, KV kvs vs ∧ h.DictOf (mixKind P w) a vs
  | .dT kvs => kvs.length ≤ sizeLine ∧ (a == sysModules) = false ∧ ∃ xs : List (List Key × Addr × Value),
      Paired (fun (p : List Key × V) (q : List Key × Addr × Value) => p.1 = q.1 ∧ H q.2.1 = some (.tup (p.1.map kV)) ∧ RelV p.2 q.2.2) kvs xs ∧
      ∃ o es ep, h.get? a = some o ∧ o.ExactDict ∧ o.data = .dict es ep ∧ es.toList = xs.map (entryOfKey (tupleKind (mixKind P w))) ∧ (xs.map (·.1)).Nodup
  | .set S n => h.SetOf (intKind P w) a S n
  | .ins C dx fs => H dx = some (.own a) ∧ fs.length ≤ 1000 ∧ dx ≠ a ∧ h.get? a = some (PySem.W.instObj C dx) ∧
      ∃ mA, h.Ns1 dx mA ∧ (∀ f, RelO (fs.lookup f) (mA f)) ∧ PySem.Within mA (fs.map (·.1))
  | .own _ => ∃ o, h.get? a = some o
  | .xd fs => ∃ mA, h.Ns1 a mA ∧ ∀ f, RelO (fs.lookup f) (mA f)
  | .rng lo hi => ∃ t u v, h.get? a = some { cls := .type "range", data := .fields #[.int lo t, .int hi u, .int 1 v] }
  | .frz o u => h.get? a = some o ∧ ObjOk H h a u
  | .tbl ps => h.get? a = some { cls := .none, data := .fields ps }
  | .met f x => h.get? a = some (PySem.W.methodObj (.ref f) (.ref x))
  | .ext φ => φ h ∧ (∃ o, h.get? a = some o) ∧ ∀ h1 h2 : Heap, φ h1 → (∀ o, h1.get? a = some o → h2.get? a = some o) → φ h2
/-- the abstract heap is held -/
def HOk (H : Hp) (h : Heap) : Prop := ∀ a o, H a = some o → ObjOk P w H h a o
end

section
variable {P : Program} {w : World} {H H' : Hp} {h h' : Heap} {a : Addr} {o : HO}
theorem ObjOk.lt (x : ObjOk P w H h a o) : a < h.objs.size := by
  cases o with
  | lst xs => obtain ⟨_, _, _, _, e⟩ := x; exact Heap.lt_size e
  | tup xs => obtain ⟨_, _, _, p⟩ := x; exact p.lt
  | dK kvs => obtain ⟨_, _, _, _, o, _, _, e, _⟩ := x; exact Heap.lt_size e
  | dT kvs => obtain ⟨_, _, _, _, o, _, _, e, _⟩ := x; exact Heap.lt_size e
  | set S n => obtain ⟨o, _, _, _, e, _⟩ := x; exact Heap.lt_size e
  | ins C dx fs => obtain ⟨_, _, _, e, _⟩ := x; exact Heap.lt_size e
  | own y => obtain ⟨_, e⟩ := x; exact Heap.lt_size e
  | xd fs => obtain ⟨_, ⟨_, _, _, e, _⟩, _⟩ := x; exact Heap.lt_size e
  | rng lo hi => obtain ⟨_, _, _, e⟩ := x; exact Heap.lt_size e
  | frz ob u => obtain ⟨e, _⟩ := x; exact Heap.lt_size e
  | tbl ps => exact Heap.lt_size (show h.get? a = some _ from x)
  | met f y => exact Heap.lt_size (show h.get? a = some _ from x)
  | ext φ => obtain ⟨_, ⟨_, e⟩, _⟩ := x; exact Heap.lt_size e
theorem Paired.mapP {α β : Type} {F G : α → β → Prop} : ∀ {l₁ : List α} {l₂ : List β}, Paired F l₁ l₂ → (∀ a b, F a b → G a b) → Paired G l₁ l₂
  | _, _, .nil, _ => .nil
  | _, _, .cons r t, f => .cons (f _ _ r) (Paired.mapP t f)
theorem Paired.imp' {α β : Type} {F G : α → β → Prop} (f : ∀ a b, F a b → G a b) {l₁ : List α} {l₂ : List β} (r : Paired F l₁ l₂) : Paired G l₁ l₂ := Paired.mapP r f
/-- what an object's description leans on: its own object, its own dict, the tuples -/
theorem ObjOk.stay (x : ObjOk P w H h a o) (k : ∀ b u, (b = a ∨ H b = some (.own a)) → h.get? b = some u → h'.get? b = some u)
    (ho : ∀ b, H b = some (.own a) → H' b = some (.own a)) (ht : ∀ b xs, H b = some (.tup xs) → H' b = some (.tup xs)) : ObjOk P w H' h' a o := by
  induction o with
  | lst xs => obtain ⟨z, its, n, r, e⟩ := x; exact ⟨z, its, n, r, k _ _ (.inl rfl) e⟩
  | tup xs => obtain ⟨z, its, r, ob, e, c⟩ := x; exact ⟨z, its, r, ob, k _ _ (.inl rfl) e, c⟩
  | dK kvs => obtain ⟨z, y, vs, r, ob, es, ep, e, c⟩ := x; exact ⟨z, y, vs, r, ob, es, ep, k _ _ (.inl rfl) e, c⟩
  | dT kvs =>
    obtain ⟨z, y, xs, r, ob, es, ep, e, c⟩ := x
    exact ⟨z, y, xs, Paired.mapP r fun p q z => ⟨z.1, ht _ _ z.2.1, z.2.2⟩, ob, es, ep, k _ _ (.inl rfl) e, c⟩
  | set S n => obtain ⟨ob, es, ep, t, e, c⟩ := x; exact ⟨ob, es, ep, t, k _ _ (.inl rfl) e, c⟩
  | ins C dx fs =>
    obtain ⟨d, z, ne, e, mA, ⟨od, es, ep, e2, c⟩, r⟩ := x
    exact ⟨ho _ d, z, ne, k _ _ (.inl rfl) e, mA, ⟨od, es, ep, k _ _ (.inr d) e2, c⟩, r⟩
  | own y => obtain ⟨ob, e⟩ := x; exact ⟨ob, k _ _ (.inl rfl) e⟩
  | xd fs => obtain ⟨mA, ⟨od, es, ep, e, c⟩, r⟩ := x; exact ⟨mA, ⟨od, es, ep, k _ _ (.inl rfl) e, c⟩, r⟩
  | rng lo hi => obtain ⟨t, u, v, e⟩ := x; exact ⟨t, u, v, k _ _ (.inl rfl) e⟩
  | frz ob u ih => obtain ⟨e, q⟩ := x; exact ⟨k _ _ (.inl rfl) e, ih q⟩
  | tbl ps =>
    have e : h.get? a = some { cls := .none, data := .fields ps } := x
    show h'.get? a = some { cls := .none, data := .fields ps }
    exact k a _ (.inl rfl) e
  | met f y =>
    have e : h.get? a = some (PySem.W.methodObj (.ref f) (.ref y)) := x
    show h'.get? a = some (PySem.W.methodObj (.ref f) (.ref y))
    exact k a _ (.inl rfl) e
  | ext φ => obtain ⟨p, ⟨o, e⟩, st⟩ := x; exact ⟨st _ _ p fun o q => k _ _ (.inl rfl) q, ⟨o, k _ _ (.inl rfl) e⟩, st⟩
theorem HOk.lt (x : HOk P w H h) (e : H a = some o) : a < h.objs.size := (x a o e).lt
theorem HOk.fresh (x : HOk P w H h) (e : h.objs.size ≤ a) : H a = none := by
  cases q : H a with
  | none => rfl
  | some u => exact absurd (Nat.lt_of_lt_of_le (x.lt q) e) (Nat.lt_irrefl _)
/-- every object of the heap is kept -/
theorem HOk.kept (x : HOk P w H h) (k : ∀ b u, h.get? b = some u → h'.get? b = some u) : HOk P w H h' := fun a o e =>
  (x a o e).stay (fun b u _ q => k b u q) (fun _ q => q) fun _ _ q => q
/-- a new object is laid and tracked -/
theorem HOk.laid (x : HOk P w H h) (k : ∀ b u, h.get? b = some u → h'.get? b = some u) (hp : h.objs.size ≤ a) (new : ObjOk P w (upd H a o) h' a o) : HOk P w (upd H a o) h' := fun b u e => by
  have hn := x.fresh hp
  by_cases hb : b = a
  · subst hb; rw [upd_same] at e; cases e; exact new
  · rw [upd_ne hb] at e
    exact (x b u e).stay (fun c v _ q => k c v q) (fun c q => by rw [upd_ne (ne_of_none q hn)]; exact q) fun c xs q => by rw [upd_ne (ne_of_none q hn)]; exact q
end

/-- what may be read as u: it is u, or a known u -/
def Rd (H : Hp) (a : Addr) (u : HO) : Prop := H a = some u ∨ ∃ o, H a = some (.frz o u)
theorem Rd.of {H : Hp} {a : Addr} {u : HO} (h : H a = some u) : Rd H a u := .inl h
theorem Rd.ok {P : Program} {w : World} {H : Hp} {h : Heap} {a : Addr} {u : HO} (r : Rd H a u) (x : HOk P w H h) : ObjOk P w H h a u := by
  rcases r with r | ⟨o, r⟩
  · exact x a u r
  · obtain ⟨_, q⟩ := x a _ r
    exact q
/-- what may be written -/
def Mut : Option HO → Prop
  | some (.lst _) => True
  | some (.dK _) => True
  | some (.dT _) => True
  | some (.set _ _) => True
  | some (.ins _ _ _) => True
  | some (.ext _) => True
  | _ => False
section
variable {P : Program} {w : World} {H : Hp} {h h' : Heap} {x e : Addr} {o' : HO}
/-- the object at e is changed: x itself, or the dict of the instance x -/
theorem HOk.write (ok : HOk P w H h) (mu : Mut (H x)) (he : e = x ∨ H e = some (.own x)) (k : ∀ b u, b ≠ e → h.get? b = some u → h'.get? b = some u) (heo : ∃ u, h'.get? e = some u)
    (new : ObjOk P w (upd H x o') h' x o') : HOk P w (upd H x o') h' := fun b u q => by
  have nown : ∀ c y, H c = some (.own y) → c ≠ x := fun c y r z => by subst z; rw [r] at mu; exact mu
  have ntup : ∀ c xs, H c = some (.tup xs) → c ≠ x := fun c xs r z => by subst z; rw [r] at mu; exact mu
  by_cases hb : b = x
  · subst hb; rw [upd_same] at q; cases q; exact new
  · rw [upd_ne hb] at q
    by_cases hbe : b = e
    · have q' : H b = some (.own x) := by
        rcases he with z | z
        · exact absurd (hbe.trans z) hb
        · rw [hbe]; exact z
      rw [q] at q'; cases q'
      obtain ⟨v, hv⟩ := heo
      exact ⟨v, by rw [hbe]; exact hv⟩
    · refine (ok b u q).stay (fun c v hc r => k c v ?_ r) (fun c r => by rw [upd_ne (nown c b r)]; exact r) fun c xs r => by rw [upd_ne (ntup c xs r)]; exact r
      rcases hc with rfl | hc
      · exact hbe
      · rintro rfl
        rcases he with z | z
        · exact nown c b hc z
        · rw [hc] at z; cases z; exact hb rfl
end

/-! ### kept unless tracked; of the frames at fs (the callers') the slots may change (an exception that passes writes there); of the records at ex (iterators) nothing is said -/
structure Un (fs ex : List Addr) (H H' : Hp) (h h' : Heap) : Prop where
  keep : ∀ b o, h.get? b = some o → H b = none → b ∉ fs → b ∉ ex → h'.get? b = some o
  slot : ∀ b o, h.get? b = some o → H b = none → b ∈ fs → b ∉ ex → ∃ sl, h'.get? b = some { o with slots := sl }
  free : ∀ b o, h.get? b = some o → H b = none → b ∉ ex → H' b = none
  there : ∀ b o, h.get? b = some o → b ∉ ex → ∃ o', h'.get? b = some o'
  tups : ∀ b xs, H b = some (.tup xs) → H' b = some (.tup xs)
  frzs : ∀ b o u, H b = some (.frz o u) → H' b = some (.frz o u)
  tbls : ∀ b ps, H b = some (.tbl ps) → ∃ more, H' b = some (.tbl (ps ++ more))
section
variable {fs fs' ex ex' : List Addr} {H H1 H2 : Hp} {h h1 h2 h' : Heap} {a x e : Addr} {o : HO}
theorem Un.any (u : Un fs ex H H1 h h1) {b : Addr} {ob : Obj} (q : h.get? b = some ob) (n : H b = none) (hx : b ∉ ex) : ∃ sl, h1.get? b = some { ob with slots := sl } := by
  by_cases hb : b ∈ fs
  · exact u.slot b ob q n hb hx
  · exact ⟨ob.slots, u.keep b ob q n hb hx⟩
theorem Un.trans (a : Un fs ex H H1 h h1) (b : Un fs ex H1 H2 h1 h2) : Un fs ex H H2 h h2 where
  keep := fun c ob q n hc hx => b.keep c ob (a.keep c ob q n hc hx) (a.free c ob q n hx) hc hx
  slot := fun c ob q n hc hx => by
    obtain ⟨sl, e1⟩ := a.slot c ob q n hc hx
    obtain ⟨sl', e2⟩ := b.slot c _ e1 (a.free c ob q n hx) hc hx
    exact ⟨sl', e2⟩
  free := fun c ob q n hx => by
    obtain ⟨o', e1⟩ := a.there c ob q hx
    exact b.free c o' e1 (a.free c ob q n hx) hx
  there := fun c ob q hx => by
    obtain ⟨o', e1⟩ := a.there c ob q hx
    exact b.there c o' e1 hx
  tups := fun c xs q => b.tups c xs (a.tups c xs q)
  frzs := fun c ob xs q => b.frzs c ob xs (a.frzs c ob xs q)
  tbls := fun c ps q => by
    obtain ⟨m1, e1⟩ := a.tbls c ps q
    obtain ⟨m2, e2⟩ := b.tbls c _ e1
    exact ⟨m1 ++ m2, by rw [e2, Array.append_assoc]⟩
theorem Un.kept (k : ∀ b u, h.get? b = some u → h'.get? b = some u) : Un fs ex H H h h' :=
  ⟨fun b ob q _ _ _ => k b ob q, fun b ob q _ _ _ => ⟨ob.slots, k b ob q⟩, fun _ _ _ n _ => n, fun b ob q _ => ⟨ob, k b ob q⟩, fun _ _ q => q, fun _ _ _ q => q, fun _ ps q => ⟨#[], by rw [q]; simp⟩⟩
theorem Un.refl : Un fs ex H H h h := Un.kept fun _ _ q => q
theorem Un.laid (k : ∀ b u, h.get? b = some u → h'.get? b = some u) (hp : h.objs.size ≤ a) (hn : H a = none) : Un fs ex H (upd H a o) h h' where
  keep := fun b u q _ _ _ => k b u q
  slot := fun b u q _ _ _ => ⟨u.slots, k b u q⟩
  free := fun b u q n _ => by rw [upd_ne (Nat.ne_of_lt (Nat.lt_of_lt_of_le (Heap.lt_size q) hp))]; exact n
  there := fun b u q _ => ⟨u, k b u q⟩
  tups := fun b xs q => by rw [upd_ne (ne_of_none q hn)]; exact q
  frzs := fun b u xs q => by rw [upd_ne (ne_of_none q hn)]; exact q
  tbls := fun b ps q => ⟨#[], by rw [upd_ne (ne_of_none q hn), q]; simp⟩
theorem Un.write (mu : Mut (H x)) (he : e = x ∨ H e = some (.own x)) (k : ∀ b u, b ≠ e → h.get? b = some u → h'.get? b = some u) (heo : ∃ u, h'.get? e = some u) : Un fs ex H (upd H x o) h h' := by
  have hx : ∀ b, H b = none → b ≠ x := fun b n z => by subst z; rw [n] at mu; exact mu
  have hb : ∀ b, H b = none → b ≠ e := fun b n z => by
    subst z
    rcases he with r | r
    · exact hx b n r
    · rw [n] at r; cases r
  have hm : ∀ b u, H b = some u → ¬ Mut (some u) → b ≠ x := fun b u q nm z => by subst z; rw [q] at mu; exact nm mu
  refine ⟨fun b u q n _ _ => k b u (hb b n) q, fun b u q n _ _ => ⟨u.slots, k b u (hb b n) q⟩, fun b u q n _ => by rw [upd_ne (hx b n)]; exact n, fun b u q _ => ?_,
    fun b xs q => by rw [upd_ne (hm b _ q fun z => z)]; exact q, fun b u xs q => by rw [upd_ne (hm b _ q fun z => z)]; exact q, fun b ps q => ⟨#[], by rw [upd_ne (hm b _ q fun z => z), q]; simp⟩⟩
  by_cases hbe : b = e
  · subst hbe; exact heo
  · exact ⟨u, k b u hbe q⟩
theorem Un.mono (u : Un fs ex H H1 h h1) (hs : ∀ b ∈ fs, b ∈ fs') (hx : ∀ b ∈ ex, b ∈ ex') : Un fs' ex' H H1 h h1 :=
  ⟨fun b ob q n hb he => u.keep b ob q n (fun z => hb (hs b z)) fun z => he (hx b z), fun _ _ q n _ he => u.any q n fun z => he (hx _ z), fun b ob q n he => u.free b ob q n fun z => he (hx b z), fun b ob q he => u.there b ob q fun z => he (hx b z), u.tups, u.frzs, u.tbls⟩
end

/-! ### the heap without what is tracked -/
def trk (h : Heap) (H : Hp) : List Addr := (List.range h.objs.size).filter fun a => (H a).isSome
def hidT (h : Heap) (H : Hp) : Heap := PySem.W.hideAll h (trk h H)
theorem hidT_size (h : Heap) (H : Hp) : (hidT h H).objs.size = h.objs.size := PySem.W.hideAll_size _ _
theorem hidT_get {h : Heap} {H : Hp} {b : Addr} {o : Obj} (e : h.get? b = some o) (n : H b = none) : (hidT h H).get? b = some o :=
  PySem.W.hideAll_get _ e fun hm => by
    have q : (H b).isSome = true := (List.mem_filter.mp hm).2
    rw [n] at q; simp at q
theorem of_hidT {h : Heap} {H : Hp} {b : Addr} {o : Obj} (e : (hidT h H).get? b = some o) : h.get? b = some o ∧ H b = none := by
  have e' : h.get? b = some o := PySem.W.of_hideAll (trk h H) e
  refine ⟨e', ?_⟩
  cases q : H b with
  | none => rfl
  | some x =>
    have hm : b ∈ trk h H := List.mem_filter.mpr ⟨List.mem_range.mpr (Heap.lt_size e'), by simp [q]⟩
    have z : (hidT h H).get? b = none := PySem.W.hideAll_none (trk h H) hm
    rw [z] at e; cases e

/-! ### OpenK's ledger, filled with every new object but one -/
def allNews (g h : Heap) (L : Addr) : List (Addr × Obj) := (List.range h.objs.size).filterMap fun a => if a = L ∨ (g.get? a).isSome = true then none else (h.get? a).map fun o => (a, o)
theorem mem_allNews {g h : Heap} {L a : Addr} {o : Obj} (h1 : a ≠ L) (h2 : g.get? a = none) (h3 : h.get? a = some o) : (a, o) ∈ allNews g h L :=
  List.mem_filterMap.mpr ⟨a, List.mem_range.mpr (Heap.lt_size h3), by simp [h1, h2, h3]⟩
theorem of_mem_allNews {g h : Heap} {L : Addr} {p : Addr × Obj} (hp : p ∈ allNews g h L) : p.1 ≠ L ∧ g.get? p.1 = none ∧ h.get? p.1 = some p.2 := by
  obtain ⟨b, _, e⟩ := List.mem_filterMap.mp hp
  split at e
  · cases e
  · rename_i hn
    cases q : h.get? b with
    | none => rw [q] at e; simp at e
    | some u =>
      rw [q] at e
      simp only [Option.map_some, Option.some.injEq] at e
      subst e
      refine ⟨fun z => hn (.inl z), ?_, q⟩
      show g.get? b = none
      cases r : g.get? b with
      | none => rfl
      | some v => exact (hn (.inr (by simp [r]))).elim
def rest (g h : Heap) (L d : Addr) : List (Addr × Obj) := (allNews g h L).filter fun p => decide (p.1 ≠ d)
theorem rest_ne {g h : Heap} {L d : Addr} : ∀ p ∈ rest g h L d, p.1 ≠ d := fun p hp => of_decide_eq_true (List.mem_filter.mp hp).2
theorem mem_rest {g h : Heap} {L d a : Addr} {o : Obj} (h1 : a ≠ L) (h2 : g.get? a = none) (h3 : h.get? a = some o) (h4 : a ≠ d) : (a, o) ∈ rest g h L d :=
  List.mem_filter.mpr ⟨mem_allNews h1 h2 h3, decide_eq_true h4⟩
theorem news_all {g h : Heap} {L : Addr} : News g L h (allNews g h L) := fun p hp => let ⟨a, b, c⟩ := of_mem_allNews hp; ⟨c, a, b⟩
theorem news_at {g h : Heap} {L d : Addr} {o : Obj} (h1 : d ≠ L) (h2 : g.get? d = none) (h3 : h.get? d = some o) : News g L h ((d, o) :: rest g h L d) := fun p hp => by
  rcases List.mem_cons.mp hp with rfl | hp
  · exact ⟨h3, h1, h2⟩
  · exact news_all p (List.mem_filter.mp hp).1
/-- behind a rule that changed d alone: all else but the frame is kept -/
theorem kept_of_news {g h h' : Heap} {L d : Addr} {m : Str → Option Value} (k : ∀ b o, g.get? b = some o → h.get? b = some o) (F : Fr g L h' m) (N : News g L h' (rest g h L d)) :
    ∀ b o, b ≠ L → b ≠ d → h.get? b = some o → h'.get? b = some o := fun b o h1 h2 e => by
  cases q : g.get? b with
  | some u =>
    have := k b u q
    rw [e] at this; cases this
    exact F.keep b _ q
  | none => exact (N (b, o) (mem_rest h1 q e h2)).1
end L2

namespace L2
open PySem PySem.Spec PyProof.Rows

/-- the module's facts, over the base: the heap at the law's entry without what is tracked there -/
structure Mod (K : PySem.W.Frag) (mg : Str → Option Value) (base : Heap) : Prop where
  kin : K.In base
  glob : base.Ns mainGlobals mg
  blt : ∃ mb, base.Ns builtinsNs mb ∧ ∀ x : Str, x ≠ "__name__" → mb x = bootBuiltins x
  nolimit : base.NoLimit

/-- the context: a def's body (or a comprehension's block) running. base: fixed through the whole law; s₀, H₀: the entry; outer: the frames whose slots others may change (a def's callers); stack: all frames that run;
   ex: iterators that were made ahead of the entry and are walked here (a comprehension's); fn: the names whose cells were made at the entry (a def: all; a comprehension's block: its own); calm: not within an except suite; pn: pins that every state bears; xe: what is wanted of an exception that leaves the code -/
structure Cx where
  prog : Program
  w : World
  K : PySem.W.Frag
  mg : Str → Option Value
  base : Heap
  A : Around
  N : List Str
  s₀ : Shared
  H₀ : Hp
  env : Env
  outer : List Env
  stack : List Env
  ex : List Addr
  fn : Str → Bool
  calm : Bool
  pn : List (Addr × Obj)
  xe : Value → Shared → Prop
/-- the callers' frames -/
def frs (l : List Env) : List Addr := l.filterMap (·.frame)
abbrev Cx.fs (X : Cx) : List Addr := frs X.outer

def Vis (sc : Scope) (x : Str) : Prop := sc.names.lookup x = some .local ∨ sc.names.lookup x = some .cell ∨ sc.names.lookup x = some .free
def Loc (sc : Scope) (x : Str) : Prop := sc.names.lookup x = some .local ∨ sc.names.lookup x = some .cell
def Look (env : Env) (h : Heap) (m : Str → Option Value) (x : Str) (u : Value) : Prop :=
  (env.kindOf x = some .local ∧ m x = some u) ∨ ((env.kindOf x = some .cell ∨ env.kindOf x = some .free) ∧ ∃ c, env.cells.lookup x = some c ∧ h.IsCell c (some u))

structure Cx.Ok (X : Cx) : Prop where
  mod : Mod X.K X.mg X.base
  kind : X.env.scope.kind = .function
  glob : X.env.globals = mainGlobals
  blt : X.env.builtins = builtinsNs
  above : X.s₀.heap.objs.size ≤ X.env.locals
  inj : ∀ x y c, X.env.cells.lookup x = some c → X.env.cells.lookup y = some c → x = y
  has : ∀ x, (X.env.kindOf x = some .cell ∨ X.env.kindOf x = some .free) → ∃ c, X.env.cells.lookup x = some c
  cab : ∀ x c, X.fn x = true → X.env.cells.lookup x = some c → X.s₀.heap.objs.size ≤ c
  hd : X.calm = true → X.A.handled = none
  frames : X.A.frames = some X.stack
  stk : X.stack = X.outer ∨ (X.stack = X.env :: X.outer ∧ X.env.frame = some X.env.locals)
  exf : ∀ b ∈ X.ex, b ≠ X.env.locals ∧ ∀ x c, X.env.cells.lookup x = some c → c ≠ b
  bs : ∀ b o, X.base.get? b = some o → X.s₀.heap.get? b = some o ∧ X.H₀ b = none
  bsz : X.base.objs.size ≤ X.s₀.heap.objs.size
  noex : ∀ b o, X.base.get? b = some o → b ∉ X.ex
  exfs : ∀ b ∈ X.ex, b ∉ X.fs
  funs : X.s₀.heap.FunFrames X.base X.outer
  frf : ∀ b ∈ X.fs, X.H₀ b = none

structure Inv (X : Cx) (pins : List (Addr × Obj)) (σ : List (Option V)) (H : Hp) (s : Shared) : Prop where
  ok : X.Ok
  os : s.os = X.s₀.os
  bare : AllBare s.gens
  base : Un X.fs X.ex X.H₀ H X.s₀.heap s.heap
  loc : ∃ m, s.heap.Ns X.env.locals m ∧ ∀ (i : Nat) (x : Str) (v : V), X.N[i]? = some x → σ[i]? = some (some v) → Vis X.env.scope x → ∃ u, RelV v u ∧ Look X.env s.heap m x u
  cell : ∀ x c, X.env.cells.lookup x = some c → ∃ v, s.heap.IsCell c v
  free : H X.env.locals = none
  freeC : ∀ x c, X.env.cells.lookup x = some c → H c = none
  pin : ∀ p ∈ X.pn ++ pins, s.heap.get? p.1 = some p.2 ∧ H p.1 = none ∧ p.1 ≠ X.env.locals ∧ p.1 ∉ X.fs ∧ ∀ v, p.2.data ≠ .cell v
  hok : HOk X.prog X.w H s.heap
  len : σ.length = X.N.length

section
variable {X : Cx} {pins : List (Addr × Obj)} {σ : List (Option V)} {H H' : Hp} {s : Shared} {h' : Heap}

theorem Cx.Ok.nofr (ok : X.Ok) {b : Addr} {o : Obj} (e : X.base.get? b = some o) : b ∉ X.fs := fun hb => by
  have := (ok.funs.mem hb).1
  rw [e] at this; cases this
theorem Inv.bs (I : Inv X pins σ H s) : ∀ b o, X.base.get? b = some o → s.heap.get? b = some o ∧ H b = none := fun b o e =>
  ⟨I.base.keep b o (I.ok.bs b o e).1 (I.ok.bs b o e).2 (I.ok.nofr e) (I.ok.noex b o e), I.base.free b o (I.ok.bs b o e).1 (I.ok.bs b o e).2 (I.ok.noex b o e)⟩
theorem Inv.bk (I : Inv X pins σ H s) : ∀ b o, X.base.get? b = some o → s.heap.get? b = some o := fun b o e => (I.bs b o e).1
theorem Inv.mod (I : Inv X pins σ H s) : Mod X.K X.mg X.base := I.ok.mod
theorem Inv.kIn (I : Inv X pins σ H s) : X.K.In s.heap := I.ok.mod.kin.keeps I.bk
theorem Inv.nolimit (I : Inv X pins σ H s) : s.heap.NoLimit := I.ok.mod.nolimit.keeps I.bk
/-- the frame over the base: for OpenK's rules (K.In X.base is I.mod.kin) -/
theorem Inv.fr (I : Inv X pins σ H s) : ∃ m, Fr X.base X.env.locals s.heap m :=
  let ⟨m, hn, _⟩ := I.loc
  ⟨m, hn, I.bk, Nat.le_trans I.ok.bsz I.ok.above⟩
theorem Inv.lt (I : Inv X pins σ H s) : X.env.locals < s.heap.objs.size := let ⟨_, hn, _⟩ := I.loc; hn.lt
theorem Inv.sz (I : Inv X pins σ H s) : X.s₀.heap.objs.size ≤ s.heap.objs.size := Nat.le_trans I.ok.above (Nat.le_of_lt I.lt)
theorem Inv.nofs (I : Inv X pins σ H s) {a : Addr} (h : s.heap.objs.size ≤ a) : a ∉ X.fs := fun hb => by
  obtain ⟨_, o, ho, _⟩ := I.ok.funs.mem hb
  exact absurd (Nat.lt_of_lt_of_le (Heap.lt_size ho) (Nat.le_trans I.sz h)) (Nat.lt_irrefl _)
theorem Inv.cne (I : Inv X pins σ H s) : ∀ x c, X.env.cells.lookup x = some c → c ≠ X.env.locals := fun x c e z => by
  obtain ⟨v, o, ho, hd⟩ := I.cell x c e
  obtain ⟨m, ⟨o', es, ep, ho', hd', _⟩, _⟩ := I.loc
  rw [z, ho'] at ho; cases ho; rw [hd'] at hd; cases hd
theorem Inv.funs (I : Inv X pins σ H s) : s.heap.FunFrames X.base X.outer := by
  have all : ∀ (l : List Env), (∀ b ∈ frs l, b ∈ X.fs) → X.s₀.heap.FunFrames X.base l → s.heap.FunFrames X.base l := by
    intro l
    induction l with
    | nil => intro _ _; trivial
    | cons env r ih =>
      intro hs hl
      obtain ⟨hk, ⟨L, o, hf, hn, ho, hd⟩, hr⟩ := hl
      have hL : L ∈ X.fs := hs L (by unfold frs; rw [List.filterMap_cons, hf]; exact List.mem_cons_self)
      obtain ⟨sl, e⟩ := I.base.slot L o ho (I.ok.frf L hL) hL fun z => I.ok.exfs L z hL
      exact ⟨hk, ⟨L, _, hf, hn, e, hd⟩, ih (fun b hb => hs b (by unfold frs; rw [List.filterMap_cons, hf]; exact List.mem_cons_of_mem _ hb)) hr⟩
  exact all X.outer (fun _ hb => hb) I.ok.funs

/-- the frames that run, for a call -/
theorem Inv.stack (I : Inv X pins σ H s) : s.heap.FunFrames X.base X.stack := by
  rcases I.ok.stk with e | ⟨e, hf⟩
  · rw [e]; exact I.funs
  · rw [e]
    obtain ⟨m, hn, _⟩ := I.loc
    refine .cons (by rw [I.ok.kind]; decide) hf hn ?_ I.funs
    exact Heap.get?_none_of_le (Nat.le_trans I.ok.bsz I.ok.above)
theorem Inv.stkSub (I : Inv X pins σ H s) : ∀ b ∈ frs X.stack, b ∈ X.env.locals :: X.fs := fun b hb => by
  rcases I.ok.stk with e | ⟨e, hf⟩
  · rw [e] at hb; exact List.mem_cons_of_mem _ hb
  · rw [e] at hb
    unfold frs at hb
    rw [List.filterMap_cons, hf] at hb
    exact hb
theorem Inv.stkFree (I : Inv X pins σ H s) : ∀ b ∈ frs X.stack, H b = none := fun b hb => by
  rcases List.mem_cons.mp (I.stkSub b hb) with e | hb
  · rw [e]; exact I.free
  · obtain ⟨_, o, ho, _⟩ := I.ok.funs.mem hb
    exact I.base.free b o ho (I.ok.frf b hb) fun z => I.ok.exfs b z hb

/-- THE STEP: the untracked objects but the frame and the records at ch are kept (the callers' frames up to slots), the frame's map is kept, the new abstract heap is held -/
theorem Inv.step {g' : Array GenState} {t' : Nat} {d' : Drawn} {ch : List Addr} (I : Inv X pins σ H s)
    (hch : ∀ b ∈ ch, (b ∈ X.ex ∨ X.s₀.heap.objs.size ≤ b) ∧ b ≠ X.env.locals ∧ (∀ x c, X.env.cells.lookup x = some c → c ≠ b) ∧ ∀ p ∈ X.pn ++ pins, p.1 ≠ b)
    (keep : ∀ b o, b ≠ X.env.locals → b ∉ X.fs → b ∉ ch → s.heap.get? b = some o → H b = none → h'.get? b = some o)
    (slot : ∀ b o, b ≠ X.env.locals → b ∈ X.fs → b ∉ ch → s.heap.get? b = some o → H b = none → ∃ sl, h'.get? b = some { o with slots := sl }) (free : ∀ b o, b ∉ ch → s.heap.get? b = some o → H b = none → H' b = none)
    (there : ∀ b o, b ∉ ch → s.heap.get? b = some o → ∃ o', h'.get? b = some o')
    (tups : ∀ b xs, H b = some (.tup xs) → H' b = some (.tup xs)) (frzs : ∀ b o u, H b = some (.frz o u) → H' b = some (.frz o u)) (tbls : ∀ b ps, H b = some (.tbl ps) → ∃ more, H' b = some (.tbl (ps ++ more)))
    (ns : ∀ m, s.heap.Ns X.env.locals m → h'.Ns X.env.locals m) (hok : HOk X.prog X.w H' h') (hg : AllBare g') :
    Inv X pins σ H' { s with heap := h', gens := g', drawn := d', toks := t' } := by
  have neL : ∀ b o, X.s₀.heap.get? b = some o → b ≠ X.env.locals := fun b o e => Nat.ne_of_lt (Nat.lt_of_lt_of_le (Heap.lt_size e) I.ok.above)
  have neC : ∀ b o, X.s₀.heap.get? b = some o → b ∉ X.ex → b ∉ ch := fun b o e hx hb => by
    rcases (hch b hb).1 with z | z
    · exact hx z
    · exact absurd (Nat.lt_of_lt_of_le (Heap.lt_size e) z) (Nat.lt_irrefl _)
  have cellK : ∀ x c, X.env.cells.lookup x = some c → ∀ v, s.heap.IsCell c v → h'.IsCell c v := fun x c e v ⟨o, ho, hd⟩ => by
    have nch : c ∉ ch := fun z => (hch c z).2.2.1 x c e rfl
    by_cases hc : c ∈ X.fs
    · obtain ⟨sl, q⟩ := slot c o (I.cne x c e) hc nch ho (I.freeC x c e)
      exact ⟨_, q, hd⟩
    · exact ⟨o, keep c o (I.cne x c e) hc nch ho (I.freeC x c e), hd⟩
  refine ⟨I.ok, I.os, hg, ⟨fun b o e n hb hx => ?_, fun b o e n hb hx => ?_, fun b o e n hx => ?_, fun b o e hx => ?_, fun b xs e => tups b xs (I.base.tups b xs e), fun b o xs e => frzs b o xs (I.base.frzs b o xs e), fun b ps e => ?_⟩, ?_, fun x c e => ?_, ?_, fun x c e => ?_, fun p hp => ?_, hok, I.len⟩
  · exact keep b o (neL b o e) hb (neC b o e hx) (I.base.keep b o e n hb hx) (I.base.free b o e n hx)
  · obtain ⟨sl, e1⟩ := I.base.slot b o e n hb hx
    obtain ⟨sl', e2⟩ := slot b _ (neL b o e) hb (neC b o e hx) e1 (I.base.free b o e n hx)
    exact ⟨sl', e2⟩
  · obtain ⟨o', e1⟩ := I.base.there b o e hx
    exact free b o' (neC b o e hx) e1 (I.base.free b o e n hx)
  · obtain ⟨o', e1⟩ := I.base.there b o e hx
    exact there b o' (neC b o e hx) e1
  · obtain ⟨m1, e1⟩ := I.base.tbls b ps e
    obtain ⟨m2, e2⟩ := tbls b _ e1
    exact ⟨m1 ++ m2, by rw [e2, Array.append_assoc]⟩
  · obtain ⟨m, hn, hl⟩ := I.loc
    refine ⟨m, ns m hn, fun i x v e1 e2 e3 => ?_⟩
    obtain ⟨u, r, l⟩ := hl i x v e1 e2 e3
    refine ⟨u, r, ?_⟩
    rcases l with l | ⟨k, c, e, z⟩
    · exact .inl l
    · exact .inr ⟨k, c, e, cellK x c e _ z⟩
  · obtain ⟨v, z⟩ := I.cell x c e
    exact ⟨v, cellK x c e v z⟩
  · obtain ⟨m, ⟨o, _, _, ho, _⟩, _⟩ := I.loc
    exact free _ o (fun z => (hch _ z).2.1 rfl) ho I.free
  · obtain ⟨v, o, ho, hd⟩ := I.cell x c e
    exact free c o (fun z => (hch c z).2.2.1 x c e rfl) ho (I.freeC x c e)
  · obtain ⟨e, n, ne, nf, d⟩ := I.pin p hp
    have nch : p.1 ∉ ch := fun z => (hch p.1 z).2.2.2 p hp rfl
    exact ⟨keep p.1 p.2 ne nf nch e n, free p.1 p.2 nch e n, ne, nf, d⟩
/-- .. where the frame's own object is kept too -/
theorem Inv.un {t' : Nat} (I : Inv X pins σ H s) (u : Un X.fs [] H H' s.heap h') (hok : HOk X.prog X.w H' h') : Inv X pins σ H' { s with heap := h', toks := t' } := by
  obtain ⟨m, ⟨o, es, ep, ho, r⟩, _⟩ := id I.loc
  obtain ⟨sl, hL⟩ := u.any ho I.free (by simp)
  exact I.step (g' := s.gens) (d' := s.drawn) (ch := []) (fun _ z => nomatch z) (fun b o _ hb _ e n => u.keep b o e n hb (by simp)) (fun b o _ hb _ e n => u.slot b o e n hb (by simp)) (fun b o _ e n => u.free b o e n (by simp)) (fun b o _ e => u.there b o e (by simp)) u.tups u.frzs u.tbls (fun m' hm => by
    obtain ⟨o', es', ep', ho', r'⟩ := hm
    rw [ho] at ho'; cases ho'
    exact ⟨_, es', ep', hL, r'⟩) hok I.bare
/-- behind a call (or a comprehension's block): the slots of this frame may have changed too, the records at ch may have turned -/
theorem Inv.call {g' : Array GenState} {t' : Nat} {d' : Drawn} {ch : List Addr} (I : Inv X pins σ H s) (u : Un (frs X.stack) ch H H' s.heap h') (hok : HOk X.prog X.w H' h') (hg : AllBare g')
    (hch : ∀ b ∈ ch, (b ∈ X.ex ∨ X.s₀.heap.objs.size ≤ b) ∧ b ≠ X.env.locals ∧ (∀ x c, X.env.cells.lookup x = some c → c ≠ b) ∧ ∀ p ∈ X.pn ++ pins, p.1 ≠ b) :
    Inv X pins σ H' { s with heap := h', gens := g', drawn := d', toks := t' } := by
  obtain ⟨m, ⟨o, es, ep, ho, r⟩, _⟩ := id I.loc
  obtain ⟨sl, hL⟩ := u.any ho I.free fun z => (hch _ z).2.1 rfl
  exact I.step (ch := ch) hch (fun b o hL hb hc e n => u.keep b o e n (fun z => (List.mem_cons.mp (I.stkSub b z)).elim hL hb) hc) (fun b o _ _ hc e n => u.any e n hc) (fun b o hc e n => u.free b o e n hc) (fun b o hc e => u.there b o e hc) u.tups u.frzs u.tbls (fun m' hm => by
    obtain ⟨o', es', ep', ho', r'⟩ := hm
    rw [ho] at ho'; cases ho'
    exact ⟨_, es', ep', hL, r'⟩) hok hg
/-- an untracked record of ours (an iterator) has turned -/
theorem Inv.turned {t' : Nat} {it : Addr} (I : Inv X pins σ H s) (k : ∀ b o, b ≠ it → s.heap.get? b = some o → h'.get? b = some o) (hn : H it = none) (hL : it ≠ X.env.locals)
    (h1 : it ∈ X.ex ∨ X.s₀.heap.objs.size ≤ it) (h2 : ∀ x c, X.env.cells.lookup x = some c → c ≠ it) (h3 : ∀ p ∈ X.pn ++ pins, p.1 ≠ it) : Inv X pins σ H { s with heap := h', toks := t' } := by
  have nit : ∀ b u, H b = some u → b ≠ it := fun b u e z => by rw [z, hn] at e; cases e
  refine I.step (g' := s.gens) (d' := s.drawn) (ch := [it]) (fun b hb => ?_) (fun b o _ _ hc e _ => k b o (fun z => hc (by simp [z])) e) (fun b o _ _ hc e _ => ⟨o.slots, k b o (fun z => hc (by simp [z])) e⟩) (fun _ _ _ _ n => n)
    (fun b o hc e => ⟨o, k b o (fun z => hc (by simp [z])) e⟩) (fun _ _ e => e) (fun _ _ _ e => e) (fun b ps e => ⟨#[], by rw [e]; simp⟩) (fun m hm => ?_) (fun b u e => ?_) I.bare
  · have e : b = it := by simpa using hb
    subst e
    exact ⟨h1, hL, h2, h3⟩
  · obtain ⟨o, es, ep, ho, r⟩ := hm
    exact ⟨o, es, ep, k _ o (Ne.symm hL) ho, r⟩
  · refine (I.hok b u e).stay (fun c v hc q => k c v ?_ q) (fun _ q => q) fun _ _ q => q
    rcases hc with z | z
    · rw [z]; exact nit b u e
    · exact nit c _ z
theorem Inv.tok (I : Inv X pins σ H s) (t : Nat) : Inv X pins σ H { s with toks := t } := I.un (h' := s.heap) (t' := t) Un.refl I.hok
/-- all objects kept -/
theorem Inv.kept {t' : Nat} (I : Inv X pins σ H s) (k : ∀ b u, s.heap.get? b = some u → h'.get? b = some u) : Inv X pins σ H { s with heap := h', toks := t' } := I.un (Un.kept k) (I.hok.kept k)
/-- a new object laid and tracked -/
theorem Inv.laid {a : Addr} {o : HO} {t' : Nat} (I : Inv X pins σ H s) (k : ∀ b u, s.heap.get? b = some u → h'.get? b = some u) (hp : s.heap.objs.size ≤ a) (new : ObjOk X.prog X.w (upd H a o) h' a o) :
    Inv X pins σ (upd H a o) { s with heap := h', toks := t' } := I.un (Un.laid k hp (I.hok.fresh hp)) (I.hok.laid k hp new)
/-- an object written -/
theorem Inv.write {x e : Addr} {o : HO} {t' : Nat} (I : Inv X pins σ H s) (mu : Mut (H x)) (he : e = x ∨ H e = some (.own x)) (k : ∀ b u, b ≠ e → s.heap.get? b = some u → h'.get? b = some u) (heo : ∃ u, h'.get? e = some u)
    (new : ObjOk X.prog X.w (upd H x o) h' x o) : Inv X pins σ (upd H x o) { s with heap := h', toks := t' } := I.un (Un.write mu he k heo) (I.hok.write mu he k heo new)
/-- forgetting slots, pins -/
theorem Inv.weak {σ' : List (Option V)} (I : Inv X pins σ H s) (hl : σ'.length = σ.length) (w : ∀ (i : Nat) v, σ'[i]? = some (some v) → σ[i]? = some (some v)) : Inv X pins σ' H s :=
  ⟨I.ok, I.os, I.bare, I.base, let ⟨m, hn, hl'⟩ := I.loc; ⟨m, hn, fun i x v e1 e2 e3 => hl' i x v e1 (w i v e2) e3⟩, I.cell, I.free, I.freeC, I.pin, I.hok, hl.trans I.len⟩
theorem Inv.pins_of {pins' : List (Addr × Obj)} (I : Inv X pins σ H s) (h : ∀ p ∈ pins', s.heap.get? p.1 = some p.2 ∧ H p.1 = none ∧ p.1 ≠ X.env.locals ∧ p.1 ∉ X.fs ∧ ∀ v, p.2.data ≠ .cell v) : Inv X pins' σ H s :=
  ⟨I.ok, I.os, I.bare, I.base, I.loc, I.cell, I.free, I.freeC, fun p hp => (List.mem_append.mp hp).elim (fun z => I.pin p (List.mem_append_left _ z)) (h p), I.hok, I.len⟩

theorem nodup_ix {N : List Str} (hN : N.Nodup) {i j : Nat} {x : Str} (a : N[i]? = some x) (b : N[j]? = some x) : i = j := by
  obtain ⟨h1, e1⟩ := List.getElem?_eq_some_iff.mp a
  obtain ⟨h2, e2⟩ := List.getElem?_eq_some_iff.mp b
  exact (List.getElem_inj hN).mp (e1.trans e2.symm)

/-- a name is stored; what changed -/
theorem store_ok2 {M : Model} {A : Around} {E : Value → Shared → Prop} {i : Nat} {x : Str} {v : V} {u : Value} {Q : Unit → Shared → Prop} (I : Inv X pins σ H s) (hN : X.N.Nodup) (hi : X.N[i]? = some x) (hx : Loc X.env.scope x) (r : RelV v u)
    (h : ∀ s', Inv X pins (σ.set i (some v)) H s' → (∃ a, Heap.SameBut a s.heap s'.heap ∧ (a = X.env.locals ∨ X.env.cells.lookup x = some a)) → Q () s') (hf : X.fn x = true ∨ X.env.scope.names.lookup x = some .local := by first | exact .inl rfl | exact .inr rfl | assumption) : wpAny M A (storeName X.env x u) Q E s := by
  obtain ⟨m, hn, hl⟩ := id I.loc
  have hcls : (X.env.scope.kind == .class || (X.env.scope.kind == .module && X.env.locals != X.env.globals)) = false := by rw [I.ok.kind]; rfl
  have hiσ : i < σ.length := by rw [I.len]; exact (List.getElem?_eq_some_iff.mp hi).1
  have cne := I.cne
  have tracked : ∀ {a : Addr} {h' : Heap}, (∃ o, s.heap.get? a = some o ∧ H a = none) → Heap.SameBut a s.heap h' → HOk X.prog X.w H h' := fun {a h'} ha hs b ob e => by
    obtain ⟨_, _, hfree⟩ := ha
    refine (I.hok b ob e).stay (fun c w' hc q => (hs.2 c ?_).trans q) (fun _ q => q) fun _ _ q => q
    rintro rfl
    rcases hc with rfl | hc
    · rw [hfree] at e; cases e
    · rw [hfree] at hc; cases hc
  rcases hx with hk | hk
  · refine wpAny_storeName_local hk hn (fun h' hn' hs => ?_) hcls
    obtain ⟨oL, _, _, hoL, _⟩ := id hn
    refine h _ ⟨I.ok, I.os, I.bare, ⟨fun b o e n hb hx => ?_, fun b o e n hb hx => ?_, I.base.free, fun b o e hx => ?_, I.base.tups, I.base.frzs, I.base.tbls⟩, ⟨_, hn', fun j y v' e1 e2 e3 => ?_⟩, fun y c e => ?_, I.free, I.freeC, fun p hp => ?_, tracked ⟨oL, hoL, I.free⟩ hs, by simpa using I.len⟩ ⟨_, hs, .inl rfl⟩
    · exact (hs.2 b (Nat.ne_of_lt (Nat.lt_of_lt_of_le (Heap.lt_size e) I.ok.above))).trans (I.base.keep b o e n hb hx)
    · obtain ⟨sl, e1⟩ := I.base.slot b o e n hb hx
      exact ⟨sl, (hs.2 b (Nat.ne_of_lt (Nat.lt_of_lt_of_le (Heap.lt_size e) I.ok.above))).trans e1⟩
    · obtain ⟨o', e1⟩ := I.base.there b o e hx
      exact ⟨o', (hs.2 b (Nat.ne_of_lt (Nat.lt_of_lt_of_le (Heap.lt_size e) I.ok.above))).trans e1⟩
    · by_cases hj : j = i
      · subst hj
        rw [hi] at e1; cases e1
        rw [List.getElem?_set_self hiσ] at e2
        cases e2
        exact ⟨u, r, .inl ⟨hk, by simp⟩⟩
      · rw [List.getElem?_set_ne (Ne.symm hj)] at e2
        obtain ⟨u', r', q⟩ := hl j y v' e1 e2 e3
        refine ⟨u', r', ?_⟩
        rcases q with ⟨k, e⟩ | ⟨k, c, e, z⟩
        · refine .inl ⟨k, ?_⟩
          have : y ≠ x := fun e => hj (nodup_ix hN e1 (e ▸ hi))
          simp [this, e]
        · exact .inr ⟨k, c, e, z.sameBut hs (cne y c e)⟩
    · obtain ⟨w', z⟩ := I.cell y c e
      exact ⟨w', z.sameBut hs (cne y c e)⟩
    · obtain ⟨e, n, ne, nf, d⟩ := I.pin p hp
      exact ⟨(hs.2 p.1 ne).trans e, n, ne, nf, d⟩
  · have hfn : X.fn x = true := by
      rcases hf with z | z
      · exact z
      · rw [z] at hk; cases hk
    obtain ⟨c, hc⟩ := I.ok.has x (.inl hk)
    obtain ⟨w', z⟩ := I.cell x c hc
    refine wpAny_storeName_cell I.ok.kind hk hc z (fun h' hc' hs => ?_)
    obtain ⟨oc, hoc, hocd⟩ := id z
    refine h { s with heap := h' } ⟨I.ok, I.os, I.bare, ⟨fun b o e n hb hx => ?_, fun b o e n hb hx => ?_, I.base.free, fun b o e hx => ?_, I.base.tups, I.base.frzs, I.base.tbls⟩, ⟨m, hn.sameBut hs (Ne.symm (cne x c hc)), fun j y v' e1 e2 e3 => ?_⟩, fun y c' e => ?_, I.free, I.freeC, fun p hp => ?_, tracked ⟨oc, hoc, I.freeC x c hc⟩ hs, by simpa using I.len⟩ ⟨c, hs, .inr hc⟩
    · exact (hs.2 b (Nat.ne_of_lt (Nat.lt_of_lt_of_le (Heap.lt_size e) (I.ok.cab x c hfn hc)))).trans (I.base.keep b o e n hb hx)
    · obtain ⟨sl, e1⟩ := I.base.slot b o e n hb hx
      exact ⟨sl, (hs.2 b (Nat.ne_of_lt (Nat.lt_of_lt_of_le (Heap.lt_size e) (I.ok.cab x c hfn hc)))).trans e1⟩
    · obtain ⟨o', e1⟩ := I.base.there b o e hx
      exact ⟨o', (hs.2 b (Nat.ne_of_lt (Nat.lt_of_lt_of_le (Heap.lt_size e) (I.ok.cab x c hfn hc)))).trans e1⟩
    · by_cases hj : j = i
      · subst hj
        rw [hi] at e1; cases e1
        rw [List.getElem?_set_self hiσ] at e2
        cases e2
        exact ⟨u, r, .inr ⟨.inl hk, c, hc, hc'⟩⟩
      · rw [List.getElem?_set_ne (Ne.symm hj)] at e2
        obtain ⟨u', r', q⟩ := hl j y v' e1 e2 e3
        refine ⟨u', r', ?_⟩
        rcases q with q | ⟨k, c', e, z'⟩
        · exact .inl q
        · refine .inr ⟨k, c', e, z'.sameBut hs ?_⟩
          rintro rfl
          exact hj (nodup_ix hN e1 (I.ok.inj _ _ _ e hc ▸ hi))
    · by_cases hcc : c' = c
      · subst hcc; exact ⟨_, hc'⟩
      · obtain ⟨w2, z2⟩ := I.cell y c' e
        exact ⟨w2, z2.sameBut hs hcc⟩
    · obtain ⟨e, n, ne, nf, d⟩ := I.pin p hp
      refine ⟨(hs.2 p.1 ?_).trans e, n, ne, nf, d⟩
      intro q
      rw [q, hoc] at e
      have q' : oc = p.2 := Option.some.inj e
      exact d w' (by rw [← q']; exact hocd)
theorem store_ok {M : Model} {A : Around} {E : Value → Shared → Prop} {i : Nat} {x : Str} {v : V} {u : Value} {Q : Unit → Shared → Prop} (I : Inv X pins σ H s) (hN : X.N.Nodup) (hi : X.N[i]? = some x) (hx : Loc X.env.scope x) (r : RelV v u)
    (h : ∀ s', Inv X pins (σ.set i (some v)) H s' → Q () s') (hf : X.fn x = true ∨ X.env.scope.names.lookup x = some .local := by first | exact .inl rfl | exact .inr rfl | assumption) : wpAny M A (storeName X.env x u) Q E s :=
  store_ok2 I hN hi hx r (fun s' I' _ => h s' I') hf
/-- behind a call or a block, the state as it is -/
theorem Inv.call' {s' : Shared} {ch : List Addr} (I : Inv X pins σ H s) (ho : s'.os = s.os) (u : Un (frs X.stack) ch H H' s.heap s'.heap) (hok : HOk X.prog X.w H' s'.heap) (hg : AllBare s'.gens)
    (hch : ∀ b ∈ ch, (b ∈ X.ex ∨ X.s₀.heap.objs.size ≤ b) ∧ b ≠ X.env.locals ∧ (∀ x c, X.env.cells.lookup x = some c → c ≠ b) ∧ ∀ p ∈ X.pn ++ pins, p.1 ≠ b) : Inv X pins σ H' s' := by
  obtain ⟨h', g', d', t', o'⟩ := s'
  have e : o' = s.os := ho
  subst e
  exact I.call (g' := g') (t' := t') (d' := d') u hok hg hch
end

/-! ### the judgements -/
/-- an exception: its class, its own dict's address (where it has one), the abstract heap behind it -/
abbrev XK := Value → Option Addr → Hp → Prop
abbrev St := List (Option V)
abbrev VK := V → Hp → Prop
/-- an expression's reading; a test's; an argument list's -/
abbrev TE := St → Hp → VK → Prop
abbrev TT := St → Hp → (Bool → Hp → Prop) → Prop
abbrev TA := St → Hp → (List V → Hp → Prop) → Prop
/-- what is wanted behind a statement -/
structure Ends where
  nx : St → Hp → Prop
  rt : VK
  bk : St → Hp → Prop := fun _ _ => False
  ct : St → Hp → Prop := fun _ _ => False
abbrev TS := Ends → St → Hp → Prop

def EP (X : Cx) (pins : List (Addr × Obj)) (σ : St) (Q : VK) (u : Value) (s' : Shared) : Prop := ∃ v H', Inv X pins σ H' s' ∧ RelV v u ∧ Q v H'
def TP (X : Cx) (pins : List (Addr × Obj)) (σ : St) (Q : Bool → Hp → Prop) (b : Bool) (s' : Shared) : Prop := ∃ H', Inv X pins σ H' s' ∧ Q b H'
def AP (X : Cx) (pins : List (Addr × Obj)) (σ : St) (Q : List V → Hp → Prop) (us : List Value) (s' : Shared) : Prop := ∃ vs H', Inv X pins σ H' s' ∧ Vals vs us ∧ Q vs H'
def SP (X : Cx) (pins : List (Addr × Obj)) (D : Ends) (f : Flow) (s' : Shared) : Prop :=
  match f with
  | .next => ∃ σ' H', Inv X pins σ' H' s' ∧ D.nx σ' H'
  | .brk => ∃ σ' H', Inv X pins σ' H' s' ∧ D.bk σ' H'
  | .cont => ∃ σ' H', Inv X pins σ' H' s' ∧ D.ct σ' H'
  | .ret u => ∃ v σ' H', Inv X pins σ' H' s' ∧ RelV v u ∧ D.rt v H'

def PE (X : Cx) (e : Expr) (t : TE) : Prop :=
  ∀ (pins : List (Addr × Obj)) (s : Shared) (σ : St) (H : Hp) (Q : VK), Inv X pins σ H s → t σ H Q → wpAny (model X.prog X.w) X.A (eval e X.env) (EP X pins σ Q) X.xe s
def PT (X : Cx) (e : Expr) (t : TT) : Prop :=
  ∀ (pins : List (Addr × Obj)) (s : Shared) (σ : St) (H : Hp) (Q : Bool → Hp → Prop), Inv X pins σ H s → t σ H Q → wpAny (model X.prog X.w) X.A (isTrue e X.env (eval e X.env)) (TP X pins σ Q) X.xe s
/-- a test whatever its 'whole' is (and, or) -/
def PW (X : Cx) (e : Expr) (t : TT) : Prop :=
  ∀ (whole : Sem Value) (pins : List (Addr × Obj)) (s : Shared) (σ : St) (H : Hp) (Q : Bool → Hp → Prop), Inv X pins σ H s → t σ H Q → wpAny (model X.prog X.w) X.A (isTrue e X.env whole) (TP X pins σ Q) X.xe s
theorem PW.pt {X : Cx} {e : Expr} {t : TT} (h : PW X e t) : PT X e t := h _
/-- an argument list (no star), from the left -/
def PA (X : Cx) (es : List Expr) (t : TA) : Prop :=
  ∀ (pos : Pos) (pins : List (Addr × Obj)) (s : Shared) (σ : St) (H : Hp) (Q : List V → Hp → Prop), Inv X pins σ H s → t σ H Q → wpAny (model X.prog X.w) X.A (spliced (backTo pos (starEach es X.env))) (AP X pins σ Q) X.xe s
def PS (X : Cx) (st : Stmt) (t : TS) : Prop :=
  ∀ (pins : List (Addr × Obj)) (s : Shared) (σ : St) (H : Hp) (D : Ends), Inv X pins σ H s → t D σ H → wpAny (model X.prog X.w) X.A (exec st X.env) (SP X pins D) X.xe s
def PSs (X : Cx) (st : List Stmt) (t : TS) : Prop :=
  ∀ (pins : List (Addr × Obj)) (s : Shared) (σ : St) (H : Hp) (D : Ends), Inv X pins σ H s → t D σ H → wpAny (model X.prog X.w) X.A (execs st X.env) (SP X pins D) X.xe s
/-- weaken the end -/
theorem thn {α : Type} {t : Sem α} {Q Q' : α → Shared → Prop} {M : Model} {A : Around} {E : Value → Shared → Prop} {s : Shared} (h : wpAny M A t Q E s) (hQ : ∀ a s, Q a s → Q' a s) : wpAny M A t Q' E s := wpAny_mono h hQ fun _ _ x => x
end L2

namespace L2
open PySem PySem.Spec PyProof.Rows
section
variable {X : Cx}

/-- two expressions in a row -/
theorem bin {a b : Expr} {ta tb : TE} (ha : PE X a ta) (hb : PE X b tb) {pins : List (Addr × Obj)} {s : Shared} {σ : St} {H : Hp} {R : V → V → Hp → Prop} (I : Inv X pins σ H s) (h : ta σ H fun x H1 => tb σ H1 fun y H2 => R x y H2)
    {α : Type} {Q : α → Shared → Prop} {f : Value → Value → Sem α}
    (hf : ∀ v u s2 x y H2, Inv X pins σ H2 s2 → RelV x v → RelV y u → R x y H2 → wpAny (model X.prog X.w) X.A (f v u) Q X.xe s2) :
    wpAny (model X.prog X.w) X.A (eval a X.env) (fun v s₁ => wpAny (model X.prog X.w) X.A (eval b X.env) (fun u s₂ => wpAny (model X.prog X.w) X.A (f v u) Q X.xe s₂) X.xe s₁) X.xe s := by
  refine thn (ha pins s σ H _ I h) fun v s1 ⟨x, H1, I1, r1, q1⟩ => ?_
  refine thn (hb pins s1 σ H1 _ I1 q1) fun u s2 ⟨y, H2, I2, r2, q2⟩ => ?_
  exact hf v u s2 x y H2 I2 r1 r2 q2

/-! ### names and constants -/
def tVar (i : Nat) : TE := fun σ H Q => ∃ v, σ[i]? = some (some v) ∧ Q v H
def tC (v : V) : TE := fun _ H Q => Q v H
theorem pe_var {i : Nat} {x : Str} {pos : Pos} (hN : X.N[i]? = some x) (hv : Vis X.env.scope x) (hd : (x == ("__debug__" : Str)) = false := by decide) (hcd : (x == ("__classdict__" : Str)) = false := by decide) : PE X (.Name x pos) (tVar i) := by
  intro pins s σ H Q I h
  obtain ⟨v, e, h⟩ := h
  obtain ⟨m, hn, hl⟩ := I.loc
  obtain ⟨u, r, l⟩ := hl i x v hN e hv
  have fin : EP X pins σ Q u s := ⟨v, H, I, r, h⟩
  rcases l with ⟨hk, hm⟩ | ⟨hk, c, hc, hcell⟩
  · exact wpAny_Name (wpAny_loadName_local I.ok.kind hk hn hm fin) hd
  · rcases hk with hk | hk
    · exact wpAny_Name (wpAny_loadName_cell I.ok.kind hk hc hcell fin) hd
    · exact wpAny_Name (wpAny_loadName_free I.ok.kind hk hc hcell fin hcd) hd
theorem pe_int {i j pos} : PE X (.Constant (.int i) j pos) (tC (.int i)) := fun _ _ _ H _ I h => wpAny_Constant_int ⟨.int i, H, I.tok _, ⟨_, rfl⟩, h⟩
theorem pe_bl {b j pos} : PE X (.Constant (.bool b) j pos) (tC (.bl b)) := fun _ _ _ H _ I h => Constant_bool ⟨.bl b, H, I, rfl, h⟩
theorem pe_non {j pos} : PE X (.Constant .none j pos) (tC .non) := fun _ _ _ H _ I h => Constant_none ⟨.non, H, I, rfl, h⟩
theorem pe_str {x j pos} : PE X (.Constant (.str x) j pos) (tC (.str x)) := fun _ _ _ H _ I h => Calls.Constant_str ⟨.str x, H, I.tok _, ⟨_, rfl⟩, h⟩

/-- a global name of the def -/
def Gl (X : Cx) (x : Str) : Prop := X.env.kindOf x = some .globalImplicit
theorem ld_glob {E : Value → Shared → Prop} {pins : List (Addr × Obj)} {s : Shared} {σ : St} {H : Hp} {x : Str} {u : Value} {pos : Pos} {Q : Value → Shared → Prop} (I : Inv X pins σ H s) (hg : Gl X x) (hm : X.mg x = some u) (h : Q u s)
    (hd : (x == ("__debug__" : Str)) = false := by decide) : wpAny (model X.prog X.w) X.A (eval (.Name x pos) X.env) Q E s :=
  Calls.Name_function_global I.ok.kind hg (Calls.loadGlobal_global (by rw [I.ok.glob]; exact I.mod.glob.keeps I.bk) hm h) hd
theorem ld_blt {E : Value → Shared → Prop} {pins : List (Addr × Obj)} {s : Shared} {σ : St} {H : Hp} {x : Str} {u : Value} {pos : Pos} {Q : Value → Shared → Prop} (I : Inv X pins σ H s) (hg : Gl X x) (hm : X.mg x = none) (hv : bootBuiltins x = some u) (h : Q u s)
    (hn : x ≠ "__name__" := by decide) (hd : (x == ("__debug__" : Str)) = false := by decide) : wpAny (model X.prog X.w) X.A (eval (.Name x pos) X.env) Q E s := by
  obtain ⟨mb, h1, h2⟩ := I.mod.blt
  exact Calls.Name_function_global I.ok.kind hg (Calls.loadGlobal_builtin (by rw [I.ok.glob]; exact I.mod.glob.keeps I.bk) hm (by rw [I.ok.blt]; exact h1.keeps I.bk) ((h2 x hn).trans hv) h) hd
/-- a module's constant, a class, a function, as a value -/
theorem pe_glob {x : Str} {v : V} {u : Value} {pos : Pos} (hg : Gl X x) (hm : X.mg x = some u) (r : RelV v u) (hd : (x == ("__debug__" : Str)) = false := by decide) : PE X (.Name x pos) (tC v) :=
  fun _ _ _ H _ I h => ld_glob I hg hm ⟨v, H, I, r, h⟩ hd
theorem pe_bltn {x : Str} {v : V} {u : Value} {pos : Pos} (hg : Gl X x) (hm : X.mg x = none) (hv : bootBuiltins x = some u) (r : RelV v u) (hn : x ≠ "__name__" := by decide) (hd : (x == ("__debug__" : Str)) = false := by decide) : PE X (.Name x pos) (tC v) :=
  fun _ _ _ H _ I h => ld_blt I hg hm hv ⟨v, H, I, r, h⟩ hn hd

/-! ### arithmetic -/
/-- two ints -/
def t2I (ta tb : TE) (k : Int → Int → Hp → Prop) : St → Hp → Prop := fun σ H => ta σ H fun x H1 => tb σ H1 fun y H2 => ∃ i j, x = .int i ∧ y = .int j ∧ k i j H2
def tAdd (ta tb : TE) : TE := fun σ H Q => t2I ta tb (fun i j H2 => Q (.int (i + j)) H2) σ H
def tSub (ta tb : TE) : TE := fun σ H Q => t2I ta tb (fun i j H2 => Q (.int (i - j)) H2) σ H
/-- the left factor below 2^64 -/
def tMul (ta tb : TE) : TE := fun σ H Q => t2I ta tb (fun i j H2 => (-(2 ^ 64) < i ∧ i < 2 ^ 64) ∧ Q (.int (i * j)) H2) σ H
variable {a b : Expr} {ta tb : TE} {pos : Pos}
theorem pe_add (ha : PE X a ta) (hb : PE X b tb) : PE X (.BinOp a .Add b pos) (tAdd ta tb) := by
  intro pins s σ H Q I h
  refine wpAny_BinOp (bin ha hb I h fun v u s2 x y H2 I2 rx ry q => ?_)
  obtain ⟨i, j, rfl, rfl, q⟩ := q
  obtain ⟨t, rfl⟩ := rx
  obtain ⟨t', rfl⟩ := ry
  exact add_int ⟨.int _, H2, I2.tok _, ⟨_, rfl⟩, q⟩
theorem pe_sub (ha : PE X a ta) (hb : PE X b tb) : PE X (.BinOp a .Sub b pos) (tSub ta tb) := by
  intro pins s σ H Q I h
  refine wpAny_BinOp (bin ha hb I h fun v u s2 x y H2 I2 rx ry q => ?_)
  obtain ⟨i, j, rfl, rfl, q⟩ := q
  obtain ⟨t, rfl⟩ := rx
  obtain ⟨t', rfl⟩ := ry
  exact sub_int ⟨.int _, H2, I2.tok _, ⟨_, rfl⟩, q⟩
theorem pe_mul (ha : PE X a ta) (hb : PE X b tb) : PE X (.BinOp a .Mult b pos) (tMul ta tb) := by
  intro pins s σ H Q I h
  refine wpAny_BinOp (bin ha hb I h fun v u s2 x y H2 I2 rx ry q => ?_)
  obtain ⟨i, j, rfl, rfl, ⟨q1, q2⟩, q⟩ := q
  obtain ⟨t, rfl⟩ := rx
  obtain ⟨t', rfl⟩ := ry
  exact mul_int ⟨.int _, H2, I2.tok _, ⟨_, rfl⟩, q⟩ (.of_left (intBits_le_64 q1 q2))

/-! ### comparisons -/
def PC (X : Cx) (op : CmpOp) (a b : Expr) (t : TE) : Prop :=
  ∀ (pins : List (Addr × Obj)) (s : Shared) (σ : St) (H : Hp) (Q : VK), Inv X pins σ H s → t σ H Q →
    wpAny (model X.prog X.w) X.A (eval a X.env) (fun v s₁ => wpAny (model X.prog X.w) X.A (eval b X.env) (fun u s₂ => wpAny (model X.prog X.w) X.A (compareOp op v u) (EP X pins σ Q) X.xe s₂) X.xe s₁) X.xe s
theorem nobehind (b : Expr) {op : CmpOp} (h : op ≠ .In) (h2 : op ≠ .NotIn) : behindInMarks op b = false := by
  have e1 : (op == CmpOp.In) = false := by cases op <;> first | rfl | exact absurd rfl h
  have e2 : (op == CmpOp.NotIn) = false := by cases op <;> first | rfl | exact absurd rfl h2
  cases b <;> simp [behindInMarks, e1, e2]
def tCmp (p : Int → Int → Bool) (ta tb : TE) : TE := fun σ H Q => t2I ta tb (fun i j H2 => Q (.bl (p i j)) H2) σ H
abbrev tLt : TE → TE → TE := tCmp fun i j => decide (i < j)
abbrev tLe : TE → TE → TE := tCmp fun i j => decide (i ≤ j)
abbrev tGt : TE → TE → TE := tCmp fun i j => decide (j < i)
abbrev tGe : TE → TE → TE := tCmp fun i j => decide (j ≤ i)
abbrev tEqI : TE → TE → TE := tCmp fun i j => decide (i = j)
abbrev tNeI : TE → TE → TE := tCmp fun i j => !decide (i = j)
/-- a comparison of two ints, by its rule -/
theorem pc_int {op : CmpOp} {p : Int → Int → Bool} (ha : PE X a ta) (hb : PE X b tb)
    (rule : ∀ (i j : Int) (t u : Tok) (Q : Value → Shared → Prop) (s : Shared), Q (.bool (p i j)) s → wpAny (model X.prog X.w) X.A (compareOp op (.int i t) (.int j u)) Q X.xe s) : PC X op a b (tCmp p ta tb) := by
  intro pins s σ H Q I h
  refine bin ha hb I h fun v u s2 x y H2 I2 rx ry q => ?_
  obtain ⟨i, j, rfl, rfl, q⟩ := q
  obtain ⟨t, rfl⟩ := rx
  obtain ⟨t', rfl⟩ := ry
  exact rule i j t t' _ s2 ⟨.bl _, H2, I2, rfl, q⟩
theorem pc_lt (ha : PE X a ta) (hb : PE X b tb) : PC X .Lt a b (tLt ta tb) := pc_int ha hb fun _ _ _ _ _ _ h => lt_int h
theorem pc_le (ha : PE X a ta) (hb : PE X b tb) : PC X .LtE a b (tLe ta tb) := pc_int ha hb fun _ _ _ _ _ _ h => le_int h
theorem pc_gt (ha : PE X a ta) (hb : PE X b tb) : PC X .Gt a b (tGt ta tb) := pc_int ha hb fun _ _ _ _ _ _ h => gt_int h
theorem pc_ge (ha : PE X a ta) (hb : PE X b tb) : PC X .GtE a b (tGe ta tb) := pc_int ha hb fun _ _ _ _ _ _ h => ge_int h
theorem pc_eqI (ha : PE X a ta) (hb : PE X b tb) : PC X .Eq a b (tEqI ta tb) := pc_int ha hb fun _ _ _ _ _ _ h => eq_int (by rw [Bool.beq_eq_decide_eq]; exact h)
theorem pc_neI (ha : PE X a ta) (hb : PE X b tb) : PC X .NotEq a b (tNeI ta tb) := pc_int ha hb fun _ _ _ _ _ _ h => ne_int (by rw [bne, Bool.beq_eq_decide_eq]; exact h)
/-- is None -/
def tIsN (ta : TE) : TE := fun σ H Q => ta σ H fun x H1 => Q (.bl (decide (x = .non))) H1
def tNotN (ta : TE) : TE := fun σ H Q => ta σ H fun x H1 => Q (.bl (!decide (x = .non))) H1
theorem RelV.none_iff {x : V} {v : Value} (r : RelV x v) : (v == Value.none) = decide (x = .non) := by
  cases x with
  | non => cases r; rfl
  | bl _ => cases r; rfl
  | int _ => obtain ⟨t, rfl⟩ := r; rfl
  | str _ => obtain ⟨t, rfl⟩ := r; rfl
  | byt _ => obtain ⟨t, rfl⟩ := r; rfl
  | flt _ => obtain ⟨t, rfl⟩ := r; rfl
  | ref _ => cases r; rfl
  | ty _ => cases r; rfl
theorem pc_isN {j pos'} (ha : PE X a ta) : PC X .Is a (.Constant .none j pos') (tIsN ta) := by
  intro pins s σ H Q I h
  refine thn (ha pins s σ H _ I h) fun v s1 ⟨x, H1, I1, r1, q1⟩ => ?_
  exact Constant_none (is_none_gen ⟨.bl _, H1, I1, by rw [r1.none_iff]; rfl, q1⟩)
theorem pc_notN {j pos'} (ha : PE X a ta) : PC X .IsNot a (.Constant .none j pos') (tNotN ta) := by
  intro pins s σ H Q I h
  refine thn (ha pins s σ H _ I h) fun v s1 ⟨x, H1, I1, r1, q1⟩ => ?_
  exact Constant_none (isnot_none_gen ⟨.bl _, H1, I1, by rw [r1.none_iff]; rfl, q1⟩)
/-- a comparison as a value, as a test -/
def tB (t : TE) : TT := fun σ H Q => t σ H fun x H1 => ∃ c, x = .bl c ∧ Q c H1
theorem pe_cmp {op : CmpOp} {t : TE} (h : PC X op a b t) (h1 : behindInMarks op b = false := by first | exact nobehind _ (by decide) (by decide) | rfl) : PE X (.Compare a [op] [b] pos) t := fun pins s σ H Q I hw => wpAny_Compare1 (h pins s σ H Q I hw) h1
theorem pt_cmp {op : CmpOp} {t : TE} (h : PC X op a b t) (h1 : behindInMarks op b = false := by first | exact nobehind _ (by decide) (by decide) | rfl) : PT X (.Compare a [op] [b] pos) (tB t) := by
  intro pins s σ H Q I hw
  refine wpAny_isTrue_Compare1 (thn (h pins s σ H _ I hw) fun v s1 h1 => thn h1 fun u s2 h2 => thn h2 fun c s3 ⟨x, H1, I1, r1, q1⟩ => ?_) h1
  obtain ⟨d, rfl, q⟩ := q1
  cases r1
  exact wpAny_truthy_bool ⟨H1, I1, q⟩
/-- an expression whose value is a bool, as a test -/
theorem pt_val {e : Expr} {t : TE} (h : PE X e t) (he : ∀ whole, isTrue e X.env whole = (do let v ← whole; standAt e.pos; holding [v] (truthy v)) := by intro _; rfl) : PT X e (tB t) := by
  intro pins s σ H Q I hw
  refine isTrue_plain (thn (h pins s σ H _ I hw) fun v s1 ⟨x, H1, I1, r1, q1⟩ => ?_) (he _)
  obtain ⟨d, rfl, q⟩ := q1
  cases r1
  exact wpAny_truthy_bool ⟨H1, I1, q⟩

/-! ### and, or, not -/
variable {tA tB' : TT} {rest : List Expr}
def tAnd (t u : TT) : TT := fun σ H Q => t σ H fun c H1 => if c = true then u σ H1 Q else Q false H1
def tOr (t u : TT) : TT := fun σ H Q => t σ H fun c H1 => if c = true then Q true H1 else u σ H1 Q
def tNot (t : TT) : TT := fun σ H Q => t σ H fun c H1 => Q (!c) H1
theorem pw_and1 (ha : PT X a tA) : PW X (.BoolOp .And [a] pos) tA := by
  intro wh pins s σ H Q I h
  refine isTrue_and (thn (ha pins s σ H Q I h) fun c s1 e => ?_)
  cases c with
  | true => exact isTrue_and_nil e
  | false => exact e
theorem pw_or1 (ha : PT X a tA) : PW X (.BoolOp .Or [a] pos) tA := by
  intro wh pins s σ H Q I h
  refine isTrue_or (thn (ha pins s σ H Q I h) fun c s1 e => ?_)
  cases c with
  | false => exact isTrue_or_nil e
  | true => exact e
theorem pw_and (ha : PT X a tA) (hb : PW X (.BoolOp .And (b :: rest) pos) tB') : PW X (.BoolOp .And (a :: b :: rest) pos) (tAnd tA tB') := by
  intro wh pins s σ H Q I h
  refine isTrue_and (thn (ha pins s σ H _ I h) fun c s1 ⟨H1, I1, q1⟩ => ?_)
  cases c with
  | true => exact hb wh pins s1 σ H1 Q I1 q1
  | false => exact ⟨H1, I1, q1⟩
theorem pw_or (ha : PT X a tA) (hb : PW X (.BoolOp .Or (b :: rest) pos) tB') : PW X (.BoolOp .Or (a :: b :: rest) pos) (tOr tA tB') := by
  intro wh pins s σ H Q I h
  refine isTrue_or (thn (ha pins s σ H _ I h) fun c s1 ⟨H1, I1, q1⟩ => ?_)
  cases c with
  | true => exact ⟨H1, I1, q1⟩
  | false => exact hb wh pins s1 σ H1 Q I1 q1
theorem pt_not (ha : PT X a tA) : PT X (.UnaryOp .Not a pos) (tNot tA) := by
  intro pins s σ H Q I h
  exact isTrue_not (ha pins s σ H (fun c H1 => Q (!c) H1) I h)
/-- .. as values (bools) -/
def tAndV (ta tb : TE) : TE := fun σ H Q => ta σ H fun x H1 => ∃ c, x = .bl c ∧ if c = true then tb σ H1 Q else Q (.bl false) H1
def tOrV (ta tb : TE) : TE := fun σ H Q => ta σ H fun x H1 => ∃ c, x = .bl c ∧ if c = true then Q (.bl true) H1 else tb σ H1 Q
def tNotV (ta : TE) : TE := fun σ H Q => ta σ H fun x H1 => ∃ c, x = .bl c ∧ Q (.bl (!c)) H1
theorem pe_one {op} {t : TE} (h : PE X a t) : PE X (.BoolOp op [a] pos) t := fun pins s σ H Q I hw => BoolOp_one (h pins s σ H Q I hw)
theorem pe_and (ha : PE X a ta) (hb : PE X (.BoolOp .And (b :: rest) pos) tb) : PE X (.BoolOp .And (a :: b :: rest) pos) (tAndV ta tb) := by
  intro pins s σ H Q I h
  refine BoolOp_and (thn (ha pins s σ H _ I h) fun v s1 ⟨x, H1, I1, r1, q1⟩ => ?_)
  obtain ⟨c, rfl, q1⟩ := q1
  cases r1
  refine wpAny_truthy_bool ?_
  cases c with
  | true => exact hb pins s1 σ H1 Q I1 q1
  | false => exact ⟨.bl false, H1, I1, rfl, q1⟩
theorem pe_or (ha : PE X a ta) (hb : PE X (.BoolOp .Or (b :: rest) pos) tb) : PE X (.BoolOp .Or (a :: b :: rest) pos) (tOrV ta tb) := by
  intro pins s σ H Q I h
  refine BoolOp_or (thn (ha pins s σ H _ I h) fun v s1 ⟨x, H1, I1, r1, q1⟩ => ?_)
  obtain ⟨c, rfl, q1⟩ := q1
  cases r1
  refine wpAny_truthy_bool ?_
  cases c with
  | false => exact hb pins s1 σ H1 Q I1 q1
  | true => exact ⟨.bl true, H1, I1, rfl, q1⟩
theorem pe_not (ha : PE X a ta) : PE X (.UnaryOp .Not a pos) (tNotV ta) := by
  intro pins s σ H Q I h
  refine UnaryOp_ (thn (ha pins s σ H _ I h) fun v s1 ⟨x, H1, I1, r1, q1⟩ => ?_)
  obtain ⟨c, rfl, q1⟩ := q1
  cases r1
  exact not_of (wpAny_truthy_bool ⟨.bl (!c), H1, I1, rfl, q1⟩)
/-- a if t else b -/
def tIf (t : TT) (ta tb : TE) : TE := fun σ H Q => t σ H fun c H1 => if c = true then ta σ H1 Q else tb σ H1 Q
theorem pe_ifExp {c : Expr} (hc : PT X c tA) (ha : PE X a ta) (hb : PE X b tb) : PE X (.IfExp c a b pos) (tIf tA ta tb) := by
  intro pins s σ H Q I h
  refine wpAny_IfExp (thn (hc pins s σ H _ I h) fun d s1 ⟨H1, I1, q1⟩ => ?_)
  cases d with
  | true => exact ha pins s1 σ H1 Q I1 q1
  | false => exact hb pins s1 σ H1 Q I1 q1
end
end L2

namespace L2
open PySem PySem.Spec PyProof.Rows

/-! ### a list, a tuple that is read: tracked, frozen, or an object of the module -/
def SqL (K : PySem.W.Frag) (H : Hp) (a : Addr) (xs : List V) : Prop :=
  Rd H a (.lst xs) ∨
    ∃ (o : Obj) (its : Array Value) (n : Nat), K.lookup a = some o ∧ o.cls = .type "list" ∧ o.dict = none ∧ o.data = .seq its n ∧ its.size ≤ sizeLine ∧ Vals xs its.toList
def SqT (K : PySem.W.Frag) (H : Hp) (a : Addr) (xs : List V) : Prop :=
  Rd H a (.tup xs) ∨
    ∃ (o : Obj) (its : Array Value) (n : Nat), K.lookup a = some o ∧ o.cls = .type "tuple" ∧ o.data = .seq its n ∧ its.size ≤ sizeLine ∧ Vals xs its.toList
def absV : Value → Option V
  | .none => some .non
  | .bool b => some (.bl b)
  | .int i _ => some (.int i)
  | .str x _ => some (.str x)
  | .bytes b _ => some (.byt b)
  | .float b _ => some (.flt b)
  | .ref a => some (.ref a)
  | .type n => some (.ty n)
  | _ => none
theorem RelV.abs {x : V} {u : Value} (r : RelV x u) : absV u = some x := by
  cases x with
  | non => cases r; rfl
  | bl _ => cases r; rfl
  | int _ => obtain ⟨t, rfl⟩ := r; rfl
  | str _ => obtain ⟨t, rfl⟩ := r; rfl
  | byt _ => obtain ⟨t, rfl⟩ := r; rfl
  | flt _ => obtain ⟨t, rfl⟩ := r; rfl
  | ref _ => cases r; rfl
  | ty _ => cases r; rfl
theorem RelV.inj {x y : V} {u : Value} (r : RelV x u) (q : RelV y u) : x = y := Option.some.inj (r.abs.symm.trans q.abs)
theorem Vals.inj : ∀ {xs ys : List V} {us : List Value}, Vals xs us → Vals ys us → xs = ys
  | _, _, _, .nil, .nil => rfl
  | _, _, _, .cons r t, .cons r' t' => by rw [r.inj r', Vals.inj t t']
section
variable {X : Cx} {pins : List (Addr × Obj)} {σ : St} {H : Hp} {s : Shared} {a : Addr} {xs ys : List V}
theorem SqL.of {K : PySem.W.Frag} (h : H a = some (.lst xs)) : SqL K H a xs := .inl (.inl h)
theorem SqT.of {K : PySem.W.Frag} (h : H a = some (.tup xs)) : SqT K H a xs := .inl (.inl h)
theorem Inv.list (I : Inv X pins σ H s) (h : SqL X.K H a xs) : ∃ its : List Value, Vals xs its ∧ PlainL s.heap a its.toArray ∧ xs.length ≤ sizeLine := by
  rcases h with h | ⟨o, its, n, hk, hc, hd, hs, hz, r⟩
  · obtain ⟨z, its, n, r, e⟩ := h.ok I.hok
    exact ⟨its, r, ⟨_, n, e, rfl, rfl, rfl⟩, z⟩
  · refine ⟨its.toList, r, ⟨o, n, I.kIn a o hk, hc, hd, by simpa using hs⟩, ?_⟩
    have e := r.length
    simp only [Array.length_toList] at e
    omega
theorem Inv.tuple (I : Inv X pins σ H s) (h : SqT X.K H a xs) : ∃ its : List Value, Vals xs its ∧ IsTup s.heap a its.toArray ∧ xs.length ≤ sizeLine := by
  rcases h with h | ⟨o, its, n, hk, hc, hs, hz, r⟩
  · obtain ⟨z, its, r, p⟩ := h.ok I.hok
    exact ⟨its, r, p, z⟩
  · refine ⟨its.toList, r, ⟨o, I.kIn a o hk, hc, n, by simpa using hs⟩, ?_⟩
    have e := r.length
    simp only [Array.length_toList] at e
    omega
theorem Inv.list_inj (I : Inv X pins σ H s) (h : SqL X.K H a xs) (h' : SqL X.K H a ys) : xs = ys := by
  obtain ⟨its, r, ⟨o, n, e, _, _, d⟩, _⟩ := I.list h
  obtain ⟨its', r', ⟨o', n', e', _, _, d'⟩, _⟩ := I.list h'
  rw [e] at e'; cases e'
  rw [d] at d'
  injection d' with d1 _
  have : its = its' := by simpa using congrArg Array.toList d1
  subst this
  exact r.inj r'
theorem Inv.tuple_inj (I : Inv X pins σ H s) (h : SqT X.K H a xs) (h' : SqT X.K H a ys) : xs = ys := by
  obtain ⟨its, r, ⟨o, e, _, n, d⟩, _⟩ := I.tuple h
  obtain ⟨its', r', ⟨o', e', _, n', d'⟩, _⟩ := I.tuple h'
  rw [e] at e'; cases e'
  rw [d] at d'
  injection d' with d1 _
  have : its = its' := by simpa using congrArg Array.toList d1
  subst this
  exact r.inj r'
end

/-! ### another wish about exceptions -/
abbrev Cx.wish (X : Cx) (E : Value → Shared → Prop) : Cx := { X with xe := E }
/-- no exception leaves -/
abbrev Cx.nox (X : Cx) : Cx := X.wish fun _ _ => False
theorem Cx.Ok.wish {X : Cx} (ok : X.Ok) (E : Value → Shared → Prop) : (X.wish E).Ok :=
  ⟨ok.mod, ok.kind, ok.glob, ok.blt, ok.above, ok.inj, ok.has, ok.cab, ok.hd, ok.frames, ok.stk, ok.exf, ok.bs, ok.bsz, ok.noex, ok.exfs, ok.funs, ok.frf⟩
theorem Cx.Ok.unwish {X : Cx} {E : Value → Shared → Prop} (ok : (X.wish E).Ok) : X.Ok :=
  ⟨ok.mod, ok.kind, ok.glob, ok.blt, ok.above, ok.inj, ok.has, ok.cab, ok.hd, ok.frames, ok.stk, ok.exf, ok.bs, ok.bsz, ok.noex, ok.exfs, ok.funs, ok.frf⟩
section
variable {X : Cx} {pins : List (Addr × Obj)} {σ : St} {H : Hp} {s : Shared} {E : Value → Shared → Prop}
theorem Inv.wish (I : Inv X pins σ H s) (E : Value → Shared → Prop) : Inv (X.wish E) pins σ H s := ⟨I.ok.wish E, I.os, I.bare, I.base, I.loc, I.cell, I.free, I.freeC, I.pin, I.hok, I.len⟩
theorem Inv.unwish (I : Inv (X.wish E) pins σ H s) : Inv X pins σ H s := ⟨I.ok.unwish, I.os, I.bare, I.base, I.loc, I.cell, I.free, I.freeC, I.pin, I.hok, I.len⟩
theorem SP.unwish {D : Ends} {f : Flow} {s' : Shared} (h : SP (X.wish E) pins D f s') : SP X pins D f s' := by
  cases f with
  | next => obtain ⟨σ', H', I, q⟩ := h; exact ⟨σ', H', I.unwish, q⟩
  | brk => obtain ⟨σ', H', I, q⟩ := h; exact ⟨σ', H', I.unwish, q⟩
  | cont => obtain ⟨σ', H', I, q⟩ := h; exact ⟨σ', H', I.unwish, q⟩
  | ret u => obtain ⟨v, σ', H', I, r, q⟩ := h; exact ⟨v, σ', H', I.unwish, r, q⟩
theorem PE.nox {e : Expr} {t : TE} (h : PE X.nox e t) : PE X e t := fun pins s σ H Q I hw =>
  wpAny_mono (h pins s σ H Q (I.wish _) hw) (fun _ _ ⟨v, H', I', r, q⟩ => ⟨v, H', I'.unwish, r, q⟩) fun _ _ z => False.elim z
theorem PT.nox {e : Expr} {t : TT} (h : PT X.nox e t) : PT X e t := fun pins s σ H Q I hw =>
  wpAny_mono (h pins s σ H Q (I.wish _) hw) (fun _ _ ⟨H', I', q⟩ => ⟨H', I'.unwish, q⟩) fun _ _ z => False.elim z
theorem PSs.nox {st : List Stmt} {t : TS} (h : PSs X.nox st t) : PSs X st t := fun pins s σ H D I hw =>
  wpAny_mono (h pins s σ H D (I.wish _) hw) (fun _ _ q => q.unwish) fun _ _ z => False.elim z
end

/-! ### blocks and small statements -/
section
variable {X : Cx} {st : Stmt} {rest : List Stmt} {t u : TS} {e : Expr} {te : TE} {pos : Pos}
def tNext : TS := fun D σ H => D.nx σ H
def tSeq (t u : TS) : TS := fun D σ H => t { D with nx := u D } σ H
theorem pss_nil : PSs X [] tNext := fun _ _ σ H _ I h => wpAny_execs_nil ⟨σ, H, I, h⟩
theorem pss_cons (h1 : PS X st t) (h2 : PSs X rest u) : PSs X (st :: rest) (tSeq t u) := by
  intro pins s σ H D I h
  refine wpAny_execs_cons (thn (h1 pins s σ H { D with nx := u D } I h) fun f s1 q => ?_)
  cases f with
  | next =>
    obtain ⟨σ', H', I', q⟩ := q
    exact h2 pins s1 σ' H' D I' q
  | ret v => exact q
  | brk => exact q
  | cont => exact q
theorem pss_one (h1 : PS X st t) : PSs X [st] t := by
  intro pins s σ H D I h
  refine wpAny_execs_cons (thn (h1 pins s σ H D I h) fun f s1 q => ?_)
  cases f with
  | next => exact wpAny_execs_nil q
  | ret v => exact q
  | brk => exact q
  | cont => exact q
def tBreak : TS := fun D σ H => D.bk σ H
def tCont : TS := fun D σ H => D.ct σ H
theorem ps_pass : PS X (.Pass pos) tNext := fun _ _ σ H _ I h => wpAny_Pass ⟨σ, H, I, h⟩
theorem ps_break : PS X (.Break pos) tBreak := fun _ _ σ H _ I h => wpAny_Break ⟨σ, H, I, h⟩
theorem ps_continue : PS X (.Continue pos) tCont := fun _ _ σ H _ I h => wpAny_Continue ⟨σ, H, I, h⟩
/-- in a def's body nothing is shown -/
theorem Inv.quiet {pins : List (Addr × Obj)} {σ : St} {H : Hp} {s : Shared} (I : Inv X pins σ H s) : interactive X.env = false := by simp [interactive, I.ok.kind]
/-- a docstring -/
theorem ps_doc {x j pos pos'} : PS X (.Expr (.Constant (.str x) j pos) pos') tNext := fun _ s σ H _ I h => wpAny_Expr (Calls.Constant_str (show SP X _ _ .next { s with toks := s.toks + 1 } from ⟨σ, H, I.tok _, h⟩)) I.quiet
/-- an expression whose value is dropped -/
def tDrop (te : TE) : TS := fun D σ H => te σ H fun _ H1 => D.nx σ H1
theorem ps_expr (he : PE X e te) (hs : swapsWith e none pos.line X.env = pure false := by rfl) : PS X (.Expr e pos) (tDrop te) := by
  intro pins s σ H D I h
  exact wpAny_Expr_any (thn (he pins s σ H _ I h) fun v s1 ⟨x, H1, I1, r1, q1⟩ => ⟨σ, H1, I1, q1⟩) I.quiet hs
def tRet (te : TE) : TS := fun D σ H => te σ H D.rt
theorem ps_ret (he : PE X e te) : PS X (.Return (some e) pos) (tRet te) := by
  intro pins s σ H D I h
  exact wpAny_Return_some (thn (he pins s σ H _ I h) fun v s1 ⟨x, H1, I1, r1, q1⟩ => ⟨x, σ, H1, I1, r1, q1⟩)
def tRetN : TS := fun D _ H => D.rt .non H
theorem ps_retN : PS X (.Return none pos) tRetN := fun _ _ σ H _ I h => wpAny_Return_none ⟨.non, σ, H, I, rfl, h⟩
def tIfS (c : TT) (t u : TS) : TS := fun D σ H => c σ H fun b H1 => if b = true then t D σ H1 else u D σ H1
theorem ps_if {c : Expr} {a b : List Stmt} {tc : TT} (hc : PT X c tc) (ha : PSs X a t) (hb : PSs X b u) : PS X (.If c a b pos) (tIfS tc t u) := by
  intro pins s σ H D I h
  refine wpAny_If (thn (hc pins s σ H _ I h) fun d s1 ⟨H1, I1, q1⟩ => ?_)
  cases d with
  | true => exact ha pins s1 σ H1 D I1 q1
  | false => exact hb pins s1 σ H1 D I1 q1
/-- code that the proof never comes to -/
def tNever : TS := fun _ _ _ => False
theorem ps_never : PS X st tNever := fun _ _ _ _ _ _ h => h.elim
theorem pss_never {sts : List Stmt} : PSs X sts tNever := fun _ _ _ _ _ _ h => h.elim
end

/-! ### targets -/
abbrev TG := V → St → Hp → (St → Hp → Prop) → Prop
abbrev TGs := List V → St → Hp → (St → Hp → Prop) → Prop
def PG (X : Cx) (target : Expr) (t : TG) : Prop :=
  ∀ (pins : List (Addr × Obj)) (s : Shared) (σ : St) (H : Hp) (v : V) (u : Value) (Q : St → Hp → Prop), Inv X pins σ H s → RelV v u → t v σ H Q →
    wpAny (model X.prog X.w) X.A (assign target X.env u) (fun _ s' => ∃ σ' H', Inv X pins σ' H' s' ∧ Q σ' H') X.xe s
/-- several targets, one after another -/
def PGs (X : Cx) (ts : List Expr) (t : TGs) : Prop :=
  ∀ (pins : List (Addr × Obj)) (s : Shared) (σ : St) (H : Hp) (vs : List V) (us : List Value) (Q : St → Hp → Prop), Inv X pins σ H s → Vals vs us → t vs σ H Q →
    wpAny (model X.prog X.w) X.A (assignInOrder ((assignEach ts X.env).map (·.2)) us) (fun _ s' => ∃ σ' H', Inv X pins σ' H' s' ∧ Q σ' H') X.xe s
/-- o[i] = v, by values -/
abbrev TSet := V → V → V → Hp → (Hp → Prop) → Prop
def PSet (X : Cx) (t : TSet) : Prop :=
  ∀ (pins : List (Addr × Obj)) (s : Shared) (σ : St) (H : Hp) (o i v : V) (ov iv u : Value) (Q : Hp → Prop), Inv X pins σ H s → RelV o ov → RelV i iv → RelV v u → t o i v H Q →
    wpAny (model X.prog X.w) X.A (setItem ov iv u) (fun _ s' => ∃ H', Inv X pins σ H' s' ∧ Q H') X.xe s
/-- a op= b, by values -/
abbrev TIp := V → V → Hp → VK → Prop
def PIp (X : Cx) (op : Operator) (t : TIp) : Prop :=
  ∀ (pins : List (Addr × Obj)) (s : Shared) (σ : St) (H : Hp) (x y : V) (v u : Value) (Q : VK), Inv X pins σ H s → RelV x v → RelV y u → t x y H Q →
    wpAny (model X.prog X.w) X.A (inplaceOp op v u) (EP X pins σ Q) X.xe s
section
variable {X : Cx} {pos : Pos}
def gName (i : Nat) : TG := fun v σ H Q => Q (σ.set i (some v)) H
theorem pg_name {i : Nat} {x : Str} (hN : X.N.Nodup) (hi : X.N[i]? = some x) (hx : Loc X.env.scope x) (hf : X.fn x = true ∨ X.env.scope.names.lookup x = some .local := by first | exact .inl rfl | exact .inr rfl | assumption) : PG X (.Name x pos) (gName i) := by
  intro pins s σ H v u Q I r h
  exact wpAny_assign_Name (store_ok I hN hi hx r (fun s' I' => ⟨_, H, I', h⟩) hf)
def gNil : TGs := fun vs σ H Q => vs = [] ∧ Q σ H
def gCons (t : TG) (u : TGs) : TGs := fun vs σ H Q => ∃ v r, vs = v :: r ∧ t v σ H fun σ' H' => u r σ' H' Q
theorem pgs_nil : PGs X [] gNil := by
  intro pins s σ H vs us Q I r h
  obtain ⟨e, h⟩ := h
  subst e
  cases r
  exact assignInOrder_nil ⟨σ, H, I, h⟩
theorem pgs_cons {e : Expr} {es : List Expr} {t : TG} {u : TGs} (h1 : PG X e t) (h2 : PGs X es u)
    (hs : (assignEach (e :: es) X.env).map (·.2) = assign e X.env :: (assignEach es X.env).map (·.2) := by rfl) : PGs X (e :: es) (gCons t u) := by
  intro pins s σ H vs us Q I r h
  obtain ⟨v, vr, e1, h⟩ := h
  subst e1
  cases r with
  | cons r rr =>
    rw [hs]
    refine assignInOrder_cons (thn (h1 pins s σ H _ _ _ I r h) fun _ s1 ⟨σ1, H1, I1, q1⟩ => ?_)
    exact h2 pins s1 σ1 H1 _ _ Q I1 rr q1
/-- (a, b, ..) = a tuple of that length -/
def gTup (K : PySem.W.Frag) (n : Nat) (t : TGs) : TG := fun v σ H Q => ∃ a xs, v = .ref a ∧ SqT K H a xs ∧ xs.length = n ∧ t xs σ H Q
theorem pg_tup {es : List Expr} {k : Nat} {t : TGs} {n : Nat} (hc : X.calm = true) (h : PGs X es t)
    (hn : (assignEach es X.env).length = n := by rfl) (hst : (assignEach es X.env).findIdx? (·.1) = none := by rfl) : PG X (.Tuple es k pos) (gTup X.K n t) := by
  intro pins s σ H v u Q I r hw
  obtain ⟨a, xs, e1, hq, hl, hw⟩ := hw
  subst e1
  cases r
  obtain ⟨its, rv, ht, hz⟩ := I.tuple hq
  refine assign_Tuple_tuple (I.ok.hd hc) ht (by simp [hn, ← hl, rv.length]) hst fun h' hx => ?_
  have I1 : Inv X pins σ H { s with heap := h' } := I.kept (t' := s.toks) fun b o e => hx b o (Nat.ne_of_lt (Heap.lt_size e)) e
  exact h pins _ σ H xs _ Q I1 (by simpa using rv) hw
/-- o[i] = .. -/
def gSub (to ti : TE) (t : TSet) : TG := fun v σ H Q => to σ H fun o H1 => ti σ H1 fun i H2 => t o i v H2 fun H3 => Q σ H3
theorem pg_sub {o i : Expr} {to ti : TE} {t : TSet} (ho : PE X o to) (hi : PE X i ti) (hs : PSet X t)
    (ha : ∀ v, assign (.Subscript o i pos) X.env v = (do
      let ov ← holding [v] (eval o X.env)
      let iv ← holding [v, ov] (eval i X.env)
      standAt pos
      holding [v, ov, iv] (setItem ov iv v)
      release [v, ov, iv] []) := by intro _; rfl) : PG X (.Subscript o i pos) (gSub to ti t) := by
  intro pins s σ H v u Q I r h
  rw [ha]
  refine wpAny_bind (wpAny_holding (thn (ho pins s σ H _ I h) fun ov s1 ⟨x, H1, I1, r1, q1⟩ => ?_))
  refine wpAny_bind (wpAny_holding (thn (hi pins s1 σ H1 _ I1 q1) fun iv s2 ⟨y, H2, I2, r2, q2⟩ => ?_))
  refine wpAny_bind (wpAny_standAt (wpAny_bind (wpAny_holding (thn (hs pins s2 σ H2 x y v ov iv u _ I2 r1 r2 r q2) fun _ s3 ⟨H3, I3, q3⟩ => ?_))))
  exact wpAny_release ⟨σ, H3, I3, q3⟩
/-- target = value -/
def tAsg (te : TE) (g : TG) : TS := fun D σ H => te σ H fun x H1 => g x σ H1 D.nx
theorem ps_asg {tg e : Expr} {te : TE} {g : TG} (he : PE X e te) (hg : PG X tg g) (hs : swapsWithSole [tg] e pos.line X.env = pure false := by rfl) (hw : swappedStores [tg] e X.env = pure none := by rfl)
    (h1 : (assignEach [tg] X.env).map (·.2) = [assign tg X.env] := by rfl) : PS X (.Assign [tg] e pos) (tAsg te g) := by
  intro pins s σ H D I h
  refine wpAny_Assign_stores (thn (he pins s σ H _ I h) fun v s1 ⟨x, H1, I1, r1, q1⟩ => ?_) hs hw
  rw [h1]
  exact thn (hg pins s1 σ H1 x v _ I1 r1 q1) fun _ s2 q => q
/-- name = value -/
theorem ps_set {i : Nat} {x : Str} {e : Expr} {te : TE} {pos' : Pos} (hN : X.N.Nodup) (hi : X.N[i]? = some x) (hx : Loc X.env.scope x) (he : PE X e te) (hs : swapsWith e (some (.Name x pos')) pos.line X.env = pure false := by rfl) (hf : X.fn x = true ∨ X.env.scope.names.lookup x = some .local := by first | exact .inl rfl | exact .inr rfl | assumption) :
    PS X (.Assign [.Name x pos'] e pos) (tAsg te (gName i)) := by
  intro pins s σ H D I h
  refine wpAny_Assign_Name (thn (he pins s σ H _ I h) fun v s1 ⟨y, H1, I1, r1, q1⟩ => ?_) hs
  exact store_ok I1 hN hi hx r1 (fun s2 I2 => ⟨_, H1, I2, q1⟩) hf
/-- a, b = x, y with plain local names: stored from the right; the pair itself is not tracked (the opening rows as in PyProof/Rows/TupAssign.lean:23) -/
def tPar (i j : Nat) (ta : TA) : TS := fun D σ H => ta σ H fun vs H1 => ∃ v w, vs = [v, w] ∧ D.nx ((σ.set i (some v)).set j (some w)) H1
theorem ps_par {i j : Nat} {x y : Str} {a b : Expr} {ta : TA} {px py pt : Pos} {kt k2 pt2} (hc : X.calm = true) (hN : X.N.Nodup) (hi : X.N[i]? = some x) (hj : X.N[j]? = some y) (hij : i ≠ j)
    (hx : X.env.scope.names.lookup x = some .local) (hy : X.env.scope.names.lookup y = some .local) (ha : PA X [a, b] ta)
    (hw : swappedStores [.Tuple [.Name x px, .Name y py] kt pt] (.Tuple [a, b] k2 pt2) X.env = pure (some [x, y]))
    (hs : swapsWithSole [.Tuple [.Name x px, .Name y py] kt pt] (.Tuple [a, b] k2 pt2) pos.line X.env = pure false := by rfl) :
    PS X (.Assign [.Tuple [.Name x px, .Name y py] kt pt] (.Tuple [a, b] k2 pt2) pos) (tPar i j ta) := by
  intro pins s σ H D I h
  rw [exec_Assign_arm]
  refine wpAny_bind (wpAny_standAt ?_)
  rw [hs]
  refine wpAny_bind (wpAny_pure ?_)
  rw [if_neg (by decide)]
  refine wpAny_bind (Tuple_ (thn (ha _ pins s σ H _ I h) fun us s1 ⟨vs, H1, I1, r1, q1⟩ => ?_))
  obtain ⟨v, w, e1, q1⟩ := q1
  subst e1
  obtain ⟨u1, u2, rfl, rv, rw'⟩ : ∃ u1 u2, us = [u1, u2] ∧ RelV v u1 ∧ RelV w u2 := by
    cases r1 with
    | cons p q =>
      cases q with
      | cons p' q' =>
        cases q'
        exact ⟨_, _, rfl, p, p'⟩
  refine wpAny_newObj_type ?_ (by show 2 ≤ sizeLine; decide)
  have I2 : Inv X pins σ H1 { s1 with heap := s1.heap.push { cls := .type "tuple", data := .seq [u1, u2].toArray } } := I1.kept (t' := s1.toks) fun b o e => Heap.get?_push_of_some _ e
  rw [hw]
  refine wpAny_bind (wpAny_pure ?_)
  show wpAny (model X.prog X.w) X.A (do rule "assign.swapped-stores"; let items ← unpackItems (.ref s1.heap.objs.size) 2 none; assignInOrder [fun v => bindName X.env y v, fun v => bindName X.env x v] items.reverse; pure Flow.next) _ _ _
  refine wpAny_bind (wpAny_rule (wpAny_bind (unpackItems_tuple (items := #[u1, u2]) (I.ok.hd hc) (IsTup.new s1.heap _) fun h' hx' => ?_)))
  have I3 := I2.kept (h' := h') (t' := s1.toks) fun b o e => hx' b o (Nat.ne_of_lt (Heap.lt_size e)) e
  show wpAny _ _ (assignInOrder [fun v => bindName X.env y v, fun v => bindName X.env x v] [u2, u1] >>= fun _ => pure Flow.next) _ _ _
  refine wpAny_bind (assignInOrder_cons (wpAny_bindName (store_ok I3 hN hj (.inl hy) rw' (fun s2 I4 => ?_) (.inr hy))))
  refine assignInOrder_cons (wpAny_bindName (store_ok I4 hN hi (.inl hx) rv (fun s3 I5 => assignInOrder_nil (wpAny_pure ?_)) (.inr hx)))
  rw [List.set_comm _ _ (Ne.symm hij)] at I5
  exact ⟨_, H1, I5, q1⟩
/-- name op= e -/
def tAug (i : Nat) (te : TE) (ti : TIp) : TS := fun D σ H => ∃ x, σ[i]? = some (some x) ∧ te σ H fun y H1 => ti x y H1 fun z H2 => D.nx (σ.set i (some z)) H2
theorem ps_aug {i : Nat} {x : Str} {e : Expr} {te : TE} {op : Operator} {ti : TIp} {pos' : Pos} (hN : X.N.Nodup) (hi : X.N[i]? = some x) (hx : Loc X.env.scope x) (he : PE X e te) (ho : PIp X op ti) (hf : X.fn x = true ∨ X.env.scope.names.lookup x = some .local := by first | exact .inl rfl | exact .inr rfl | assumption) :
    PS X (.AugAssign (.Name x pos') op e pos) (tAug i te ti) := by
  intro pins s σ H D I h
  obtain ⟨v, e1, h⟩ := h
  obtain ⟨m, hn, hl⟩ := I.loc
  have vis : Vis X.env.scope x := by rcases hx with k | k; exact .inl k; exact .inr (.inl k)
  obtain ⟨u, r, l⟩ := hl i x v hi e1 vis
  refine wpAny_AugAssign_Name ?_
  have go : wpAny (model X.prog X.w) X.A (eval e X.env) (fun w s₂ => wpAny (model X.prog X.w) X.A (inplaceOp op u w) (fun r s₃ => wpAny (model X.prog X.w) X.A (storeName X.env x r) (fun _ => SP X pins D .next) X.xe s₃) X.xe s₂) X.xe s := by
    refine thn (he pins s σ H _ I h) fun w s1 ⟨y, H1, I1, r1, q1⟩ => ?_
    refine thn (ho pins s1 σ H1 v y u w _ I1 r r1 q1) fun z s2 ⟨zv, H2, I2, r2, q2⟩ => ?_
    exact store_ok I2 hN hi hx r2 (fun s3 I3 => ⟨_, H2, I3, q2⟩) hf
  rcases l with ⟨hk, hm⟩ | ⟨hk, c, hc, hcell⟩
  · exact wpAny_loadName_local I.ok.kind hk hn hm go
  · rcases hk with hk | hk
    · exact wpAny_loadName_cell I.ok.kind hk hc hcell go
    · rcases hx with k | k
      · have : X.env.scope.names.lookup x = some .free := hk
        rw [k] at this; cases this
      · have : X.env.scope.names.lookup x = some .free := hk
        rw [k] at this; cases this
/-- o[i] op= e -/
def tAugS (to ti te : TE) (tget : V → V → Hp → VK → Prop) (tip : TIp) (tset : TSet) : TS := fun D σ H => to σ H fun o H1 => ti σ H1 fun i H2 => tget o i H2 fun x H3 => te σ H3 fun y H4 => tip x y H4 fun z H5 => tset o i z H5 fun H6 => D.nx σ H6
/-- o[i], by values -/
def PGet (X : Cx) (t : V → V → Hp → VK → Prop) : Prop :=
  ∀ (pins : List (Addr × Obj)) (s : Shared) (σ : St) (H : Hp) (o i : V) (ov iv : Value) (Q : VK), Inv X pins σ H s → RelV o ov → RelV i iv → t o i H Q →
    wpAny (model X.prog X.w) X.A (getItem ov iv) (EP X pins σ Q) X.xe s
theorem ps_augS {o i e : Expr} {to ti te : TE} {tget : V → V → Hp → VK → Prop} {tip : TIp} {tset : TSet} {op : Operator} {tpos : Pos} (ho : PE X o to) (hi : PE X i ti) (hg : PGet X tget) (he : PE X e te) (hp : PIp X op tip) (hs : PSet X tset)
    (ha : ∀ ov iv new, augStore i ov iv new = (do holding [new, ov, iv] (setItem ov iv new); release [new, ov, iv] []; pure .next) := by intros; rfl) : PS X (.AugAssign (.Subscript o i tpos) op e pos) (tAugS to ti te tget tip tset) := by
  intro pins s σ H D I h
  refine wpAny_AugAssign_SubscriptAny (thn (ho pins s σ H _ I h) fun ov s1 ⟨x1, H1, I1, r1, q1⟩ => ?_) ha
  refine thn (hi pins s1 σ H1 _ I1 q1) fun iv s2 ⟨x2, H2, I2, r2, q2⟩ => ?_
  refine thn (hg pins s2 σ H2 x1 x2 ov iv _ I2 r1 r2 q2) fun old s3 ⟨x3, H3, I3, r3, q3⟩ => ?_
  refine thn (he pins s3 σ H3 _ I3 q3) fun v s4 ⟨x4, H4, I4, r4, q4⟩ => ?_
  refine thn (hp pins s4 σ H4 x3 x4 old v _ I4 r3 r4 q4) fun new s5 ⟨x5, H5, I5, r5, q5⟩ => ?_
  exact thn (hs pins s5 σ H5 x1 x2 x5 ov iv new _ I5 r1 r2 r5 q5) fun _ s6 ⟨H6, I6, q6⟩ => ⟨σ, H6, I6, q6⟩
/-- ints -/
def ipI (f : Int → Int → Int) : TIp := fun x y H Q => ∃ i j, x = .int i ∧ y = .int j ∧ Q (.int (f i j)) H
theorem ip_add : PIp X .Add (ipI fun i j => i + j) := by
  intro pins s σ H x y v u Q I r1 r2 h
  obtain ⟨i, j, e1, e2, q⟩ := h
  subst e1; subst e2
  obtain ⟨t, rfl⟩ := r1
  obtain ⟨t', rfl⟩ := r2
  exact iadd_int ⟨.int _, H, I.tok _, ⟨_, rfl⟩, q⟩
theorem ip_sub : PIp X .Sub (ipI fun i j => i - j) := by
  intro pins s σ H x y v u Q I r1 r2 h
  obtain ⟨i, j, e1, e2, q⟩ := h
  subst e1; subst e2
  obtain ⟨t, rfl⟩ := r1
  obtain ⟨t', rfl⟩ := r2
  exact isub_int ⟨.int _, H, I.tok _, ⟨_, rfl⟩, q⟩
end

/-! ### while -/
section
variable {X : Cx} {pos : Pos}
/-- the invariant W with its measure -/
def tWhile (c : TT) (tb : TS) : TS := fun D σ H => ∃ W : Nat → St → Hp → Prop, (∃ m, W m σ H) ∧ ∀ m σ H, W m σ H →
  c σ H fun b H1 => if b = true then ∃ N : St → Hp → Prop, (∀ σ' H', N σ' H' → ∃ m', m' < m ∧ W m' σ' H') ∧ tb { D with nx := N, ct := N, bk := D.nx } σ H1 else D.nx σ H1
theorem ps_while {c : Expr} {body : List Stmt} {tc : TT} {tb : TS} (hp : PassesOwn (model X.prog X.w) X.A X.env X.xe) (hc : PT X c tc) (hb : PSs X body tb) : PS X (.While c body [] pos) (tWhile tc tb) := by
  intro pins s σ H D I h
  obtain ⟨W, ⟨m0, w0⟩, turn⟩ := h
  refine wpAny_While (codeAny_whileLoop (fun n s' => ∃ σ' H', Inv X pins σ' H' s' ∧ W n σ' H') ?_ m0 ⟨σ, H, I, w0⟩)
  rintro n s1 ⟨σ1, H1, I1, w1⟩
  refine wpAny_passesOwn hp (thn (hc pins s1 σ1 H1 _ I1 (turn n σ1 H1 w1)) fun b s2 ⟨H2, I2, q2⟩ => ?_)
  cases b with
  | true =>
    obtain ⟨N, hN, q2⟩ := q2
    rw [if_pos rfl]
    refine wpAny_passesOwn hp (thn (hb pins s2 σ1 H2 _ I2 q2) fun f s3 q3 => ?_)
    cases f with
    | next =>
      obtain ⟨σ3, H3, I3, n3⟩ := q3
      obtain ⟨m', hm, w3⟩ := hN σ3 H3 n3
      exact ⟨m', hm, σ3, H3, I3, w3⟩
    | cont =>
      obtain ⟨σ3, H3, I3, n3⟩ := q3
      obtain ⟨m', hm, w3⟩ := hN σ3 H3 n3
      exact ⟨m', hm, σ3, H3, I3, w3⟩
    | brk => exact q3
    | ret v => exact q3
  | false =>
    rw [if_neg Bool.false_ne_true]
    exact wpAny_execs_nil ⟨σ1, H2, I2, q2⟩
end

/-! ### what a loop or a comprehension walks -/
/-- at turn i: it yields x (the heap may grow), or it stops -/
structure It where
  go : Nat → Hp → Prop
  yld : Nat → Hp → V → Hp → Prop
  stop : Nat → Hp → Prop
/-- the iterator's own objects may turn: they are not the frame's, not pinned, younger than the entry (or a comprehension's own) -/
def FpOk (X : Cx) (pins : List (Addr × Obj)) (H : Hp) (b : Addr) : Prop :=
  H b = none ∧ b ≠ X.env.locals ∧ b ∉ X.fs ∧ (b ∈ X.ex ∨ X.s₀.heap.objs.size ≤ b) ∧ (∀ x c, X.env.cells.lookup x = some c → c ≠ b) ∧ ∀ p ∈ X.pn ++ pins, p.1 ≠ b
theorem Inv.fpOk {X : Cx} {pins : List (Addr × Obj)} {σ : St} {H H' : Hp} {s : Shared} {b : Addr} (I : Inv X pins σ H s) (hb : s.heap.objs.size ≤ b) (hn : H' b = none) : FpOk X pins H' b := by
  refine ⟨hn, Nat.ne_of_gt (Nat.lt_of_lt_of_le I.lt hb), I.nofs hb, .inr (Nat.le_trans I.sz hb), fun x c e z => ?_, fun p hp z => ?_⟩
  · obtain ⟨v, q⟩ := I.cell x c e
    exact absurd (Nat.lt_of_lt_of_le q.lt (by rw [z]; exact hb)) (Nat.lt_irrefl _)
  · exact absurd (Nat.lt_of_lt_of_le (Heap.lt_size (I.pin p hp).1) (by rw [z]; exact hb)) (Nat.lt_irrefl _)
structure Turn (P : Program) (w : World) (K : PySem.W.Frag) (tg : Expr) (J : It) (fp : List Addr) (it : Addr) (tn : Nat → Heap → Prop) : Prop where
  mem : it ∈ fp
  obj : ∀ i h, tn i h → ∀ b ∈ fp, ∃ o, h.get? b = some o ∧ ∀ v, o.data ≠ .cell v
  keep : ∀ i h h', tn i h → (∀ b ∈ fp, ∀ o, h.get? b = some o → h'.get? b = some o) → tn i h'
  item : ∀ (X : Cx), X.prog = P → X.w = w → X.K = K → X.calm = true → ∀ (i : Nat) (pins : List (Addr × Obj)) (s : Shared) (σ : St) (H : Hp) (E : Value → Shared → Prop), Inv X pins σ H s → (∀ b ∈ fp, FpOk X pins H b) → tn i s.heap → J.go i H →
    wpAny (model P w) X.A (pyNext (.ref it)) (fun r s1 => ∃ u, r = some u ∧
      wpAny (model P w) X.A (letOwnedTupleGo tg (.ref it) u) (fun _ s2 => ∃ x H', Inv X pins σ H' s2 ∧ RelV x u ∧ J.yld i H x H' ∧ tn (i + 1) s2.heap ∧ ∀ b ∈ fp, H' b = none) E s1) E s
  done : ∀ (X : Cx), X.prog = P → X.w = w → X.K = K → X.calm = true → ∀ (i : Nat) (pins : List (Addr × Obj)) (s : Shared) (σ : St) (H : Hp) (E : Value → Shared → Prop), Inv X pins σ H s → (∀ b ∈ fp, FpOk X pins H b) → tn i s.heap → J.stop i H →
    wpAny (model P w) X.A (pyNext (.ref it)) (fun r s1 => r = none ∧ Inv X pins σ H s1) E s
  self : ∀ (A : Around) (i : Nat) (s : Shared) (Q : Value → Shared → Prop) (E : Value → Shared → Prop), tn i s.heap → Q (.ref it) s → wpAny (model P w) A (pyIter (.ref it)) Q E s
abbrev TI := St → Hp → (It → Hp → Prop) → Prop
/-- an iterator has come -/
def PIE (X : Cx) (pins : List (Addr × Obj)) (σ : St) (tg : Expr) (R : It → Hp → Prop) (itv : Value) (s2 : Shared) : Prop :=
  ∃ (it : Addr) (fp : List Addr) (tn : Nat → Heap → Prop) (J : It) (H' : Hp), itv = .ref it ∧ Inv X pins σ H' s2 ∧ Turn X.prog X.w X.K tg J fp it tn ∧ tn 0 s2.heap ∧ (∀ b ∈ fp, FpOk X pins H' b) ∧ R J H'
def PI (X : Cx) (tg iter : Expr) (wi : TI) : Prop :=
  ∀ (pins : List (Addr × Obj)) (s : Shared) (σ : St) (H : Hp) (R : It → Hp → Prop), Inv X pins σ H s → wi σ H R →
    wpAny (model X.prog X.w) X.A (eval iter X.env) (fun v s1 => wpAny (model X.prog X.w) X.A (pyIter v) (PIE X pins σ tg R) X.xe s1) X.xe s

/-- the step ahead of the store is nothing for an iterator that keeps no tuple -/
theorem go_of {M : Model} {A : Around} {E : Value → Shared → Prop} {s : Shared} {tg : Expr} {it : Addr} {u : Value} {o : Obj} {n : String} {vs : Array Value} {Q : Unit → Shared → Prop} (ho : s.heap.get? it = some o) (hc : o.cls = .type n) (hd : o.data = .fields vs)
    (hn : ["enumerate", "zip", "dict_itemiterator", "dict_reverseitemiterator", "odict_iterator", "itertools.zip_longest", "itertools.pairwise"].contains n = false) (hQ : Q () s) : wpAny M A (letOwnedTupleGo tg (.ref it) u) Q E s := by
  unfold letOwnedTupleGo
  cases tg <;> first
    | exact wpAny_pure hQ
    | (cases u <;> first
        | exact wpAny_pure hQ
        | (refine wpAny_bind (wpAny_load ho ?_)
           rw [hc, hd]
           show wpAny M A (if (["enumerate", "zip", "dict_itemiterator", "dict_reverseitemiterator", "odict_iterator", "itertools.zip_longest", "itertools.pairwise"].contains n && vs[0]? == some (rawInt _)) = true then _ else _) Q E s
           rw [if_neg (by intro h; rw [hn, Bool.false_and] at h; cases h)]
           exact wpAny_pure hQ))

/-- the list at a, as it stands at each turn (a loop may append to it) -/
def Itl (K : PySem.W.Frag) (a : Addr) : It :=
  ⟨fun i H => ∃ xs x, SqL K H a xs ∧ xs[i]? = some x, fun i H x H' => H' = H ∧ ∀ xs, SqL K H a xs → xs[i]? = some x, fun i H => ∃ xs, SqL K H a xs ∧ xs.length ≤ i⟩
def Itt (K : PySem.W.Frag) (a : Addr) : It :=
  ⟨fun i H => ∃ xs x, SqT K H a xs ∧ xs[i]? = some x, fun i H x H' => H' = H ∧ ∀ xs, SqT K H a xs → xs[i]? = some x, fun i H => ∃ xs, SqT K H a xs ∧ xs.length ≤ i⟩
/-- lo, lo + 1, .. (n of them) -/
def Itr (lo : Int) (n : Nat) : It := ⟨fun i _ => i < n, fun i H x H' => H' = H ∧ x = .int (lo + i), fun i _ => n ≤ i⟩
theorem turn_list {P : Program} {w : World} {K : PySem.W.Frag} {tg : Expr} (a it : Addr) : Turn P w K tg (Itl K a) [it] it (fun i h => h.IsListIter it a i) where
  mem := by simp
  obj := fun i h st b hb => by
    have e : b = it := by simpa using hb
    subst e
    obtain ⟨o, e, c, d⟩ := st
    exact ⟨o, e, fun v z => by rw [d] at z; cases z⟩
  keep := fun i h h' st k => st.at fun o e => k it (by simp) o e
  item := by
    intro X hP hw hK hc i pins s σ H E I hf st hg
    subst hP hw hK
    obtain ⟨xs, x, hq, hx⟩ := hg
    obtain ⟨its, rv, p, hz⟩ := I.list hq
    obtain ⟨u, hu, ru⟩ := rv.get hx
    obtain ⟨f0, f1, f2, f3, f4, f5⟩ := hf it (by simp)
    refine wpAny_pyNext_list_item st p.isList (x := u) (by simpa using hu) fun h' st' sb => ?_
    have I1 : Inv X pins σ H { s with heap := h' } := I.turned (t' := s.toks) (fun b o hb e => (sb.2 b hb).trans e) f0 f1 f3 f4 f5
    obtain ⟨o, e, c, d⟩ := id st'
    exact ⟨u, rfl, go_of (s := { s with heap := h' }) e c d (by decide) ⟨x, H, I1, ru, ⟨rfl, fun ys hy => by rw [I.list_inj hy hq]; exact hx⟩, st', fun b hb => (hf b hb).1⟩⟩
  done := by
    intro X hP hw hK hc i pins s σ H E I hf st hg
    subst hP hw hK
    obtain ⟨xs, hq, hx⟩ := hg
    obtain ⟨its, rv, p, hz⟩ := I.list hq
    obtain ⟨f0, f1, f2, f3, f4, f5⟩ := hf it (by simp)
    have hl := rv.length
    exact wpAny_pyNext_list_end (I.ok.hd hc) st p.isList (by simp; omega) fun h' eb => ⟨rfl, I.turned (t' := s.toks) (fun b o hb e => eb b o hb e) f0 f1 f3 f4 f5⟩
  self := fun _ _ _ _ _ st h => wpAny_pyIter_listiter st h
theorem turn_tuple {P : Program} {w : World} {K : PySem.W.Frag} {tg : Expr} (a it : Addr) : Turn P w K tg (Itt K a) [it] it (fun i h => h.IsTupleIter it a i) where
  mem := by simp
  obj := fun i h st b hb => by
    have e : b = it := by simpa using hb
    subst e
    obtain ⟨o, e, c, d⟩ := st
    exact ⟨o, e, fun v z => by rw [d] at z; cases z⟩
  keep := fun i h h' st k => st.at fun o e => k it (by simp) o e
  item := by
    intro X hP hw hK hc i pins s σ H E I hf st hg
    subst hP hw hK
    obtain ⟨xs, x, hq, hx⟩ := hg
    obtain ⟨its, rv, p, hz⟩ := I.tuple hq
    obtain ⟨u, hu, ru⟩ := rv.get hx
    obtain ⟨f0, f1, f2, f3, f4, f5⟩ := hf it (by simp)
    refine wpAny_pyNext_tuple_item st (show s.heap.IsTuple a its.toArray from p) (x := u) (by simpa using hu) fun h' st' sb => ?_
    have I1 : Inv X pins σ H { s with heap := h' } := I.turned (t' := s.toks) (fun b o hb e => (sb.2 b hb).trans e) f0 f1 f3 f4 f5
    obtain ⟨o, e, c, d⟩ := id st'
    exact ⟨u, rfl, go_of (s := { s with heap := h' }) e c d (by decide) ⟨x, H, I1, ru, ⟨rfl, fun ys hy => by rw [I.tuple_inj hy hq]; exact hx⟩, st', fun b hb => (hf b hb).1⟩⟩
  done := by
    intro X hP hw hK hc i pins s σ H E I hf st hg
    subst hP hw hK
    obtain ⟨xs, hq, hx⟩ := hg
    obtain ⟨its, rv, p, hz⟩ := I.tuple hq
    obtain ⟨f0, f1, f2, f3, f4, f5⟩ := hf it (by simp)
    have hl := rv.length
    exact wpAny_pyNext_tuple_end (I.ok.hd hc) st (show s.heap.IsTuple a its.toArray from p) (by simp; omega) fun h' eb => ⟨rfl, I.turned (t' := s.toks) (fun b o hb e => eb b o hb e) f0 f1 f3 f4 f5⟩
  self := fun _ _ _ _ _ st h => wpAny_pyIter_tupleiter st h
theorem turn_range {P : Program} {w : World} {K : PySem.W.Frag} {tg : Expr} (it : Addr) (lo : Int) (n : Nat) : Turn P w K tg (Itr lo n) [it] it (fun i h => IsRangeIter h it (lo + (i : Nat) * 1) ((n : Int) - (i : Nat)) 1) where
  mem := by simp
  obj := fun i h st b hb => by
    have e : b = it := by simpa using hb
    subst e
    exact ⟨_, st, fun v z => by
      have z' : Data.fields _ = Data.cell v := z
      cases z'⟩
  keep := fun i h h' st k => k it (by simp) _ st
  item := by
    intro X hP hw hK hc i pins s σ H E I hf st hg
    subst hP hw hK
    obtain ⟨f0, f1, f2, f3, f4, f5⟩ := hf it (by simp)
    have W := Walks.range (prog := X.prog) (w := X.w) (I.ok.hd hc) it lo 1 n
    refine W.item i s _ _ hg st fun v h' tk hv st' kk => ?_
    obtain ⟨t, rfl⟩ := hv
    have I1 : Inv X pins σ H { s with heap := h', toks := tk } := I.turned (fun b o hb e => kk b o (by simpa using hb) e) f0 f1 f3 f4 f5
    refine ⟨_, rfl, go_of (s := { s with heap := h', toks := tk }) (n := "range_iterator") st' rfl rfl (by decide) ⟨.int (lo + i), H, I1, ⟨t, ?_⟩, ⟨rfl, rfl⟩, st', fun b hb => (hf b hb).1⟩⟩
    rw [Int.mul_one]
  done := by
    intro X hP hw hK hc i pins s σ H E I hf st hg
    subst hP hw hK
    obtain ⟨f0, f1, f2, f3, f4, f5⟩ := hf it (by simp)
    exact wpAny_pyNext_range_end (I.ok.hd hc) st (by have : n ≤ i := hg; omega) fun h' eb => ⟨rfl, I.turned (t' := s.toks) (fun b o hb e => eb b o hb e) f0 f1 f3 f4 f5⟩
  self := fun _ _ _ _ _ st h => wpAny_pyIter_rangeiter st h
end L2

namespace L2
open PySem PySem.Spec PyProof.Rows
section
variable {X : Cx} {tg : Expr}
def iList (K : PySem.W.Frag) (tl : TE) : TI := fun σ H R => tl σ H fun x H1 => ∃ a, x = .ref a ∧ (∃ xs, SqL K H1 a xs) ∧ R (Itl K a) H1
def iTup (K : PySem.W.Frag) (tl : TE) : TI := fun σ H R => tl σ H fun x H1 => ∃ a, x = .ref a ∧ (∃ xs, SqT K H1 a xs) ∧ R (Itt K a) H1
theorem pi_list {l : Expr} {tl : TE} (hl : PE X l tl) : PI X tg l (iList X.K tl) := by
  intro pins s σ H R I h
  refine thn (hl pins s σ H _ I h) fun v s1 ⟨x, H1, I1, r1, q1⟩ => ?_
  obtain ⟨a, e, ⟨xs, hq⟩, q⟩ := q1
  subst e
  cases r1
  obtain ⟨its, rv, p, hz⟩ := I1.list hq
  refine wpAny_pyIter_list p.isList ?_
  refine ⟨s1.heap.objs.size, [s1.heap.objs.size], _, _, H1, rfl, I1.kept (t' := s1.toks) fun b o e => Heap.get?_push_of_some _ e, turn_list a _, ⟨_, Heap.get?_push_size _ rfl, rfl, rfl⟩, fun b hb => ?_, q⟩
  have e : b = s1.heap.objs.size := by simpa using hb
  subst e
  exact I1.fpOk (Nat.le_refl _) (I1.hok.fresh (Nat.le_refl _))
theorem pi_tup {l : Expr} {tl : TE} (hl : PE X l tl) : PI X tg l (iTup X.K tl) := by
  intro pins s σ H R I h
  refine thn (hl pins s σ H _ I h) fun v s1 ⟨x, H1, I1, r1, q1⟩ => ?_
  obtain ⟨a, e, ⟨xs, hq⟩, q⟩ := q1
  subst e
  cases r1
  obtain ⟨its, rv, p, hz⟩ := I1.tuple hq
  refine wpAny_pyIter_tuple (show s1.heap.IsTuple a its.toArray from p) ?_
  refine ⟨s1.heap.objs.size, [s1.heap.objs.size], _, _, H1, rfl, I1.kept (t' := s1.toks) fun b o e => Heap.get?_push_of_some _ e, turn_tuple a _, ⟨_, Heap.get?_push_size _ rfl, rfl, rfl⟩, fun b hb => ?_, q⟩
  have e : b = s1.heap.objs.size := by simpa using hb
  subst e
  exact I1.fpOk (Nat.le_refl _) (I1.hok.fresh (Nat.le_refl _))
/-- a range object just made, walked -/
theorem range_it {pins : List (Addr × Obj)} {σ : St} {H : Hp} {s : Shared} {R : It → Hp → Prop} {E : Value → Shared → Prop} {lo hi : Int} {t u v : Tok} {tk : Nat} (I : Inv X pins σ H s) (h1 : -(2 ^ 62) ≤ lo) (h2 : lo < 2 ^ 62) (h3 : -(2 ^ 62) ≤ hi) (h4 : hi < 2 ^ 62)
    (q : R (Itr lo (hi - lo).toNat) H) : wpAny (model X.prog X.w) X.A (pyIter (.ref s.heap.objs.size)) (PIE X pins σ tg R) E { s with heap := s.heap.push { cls := .type "range", data := .fields #[.int lo t, .int hi u, .int 1 v] }, toks := tk } := by
  refine wpAny_pyIter_range (IsRange.new ..) (small_one h1 h2 h3 h4) ?_
  have I1 : Inv X pins σ H { s with heap := s.heap.push { cls := .type "range", data := .fields #[.int lo t, .int hi u, .int 1 v] }, toks := tk } := I.kept fun b o e => Heap.get?_push_of_some _ e
  refine ⟨(s.heap.push { cls := .type "range", data := .fields #[.int lo t, .int hi u, .int 1 v] }).objs.size, [(s.heap.push { cls := .type "range", data := .fields #[.int lo t, .int hi u, .int 1 v] }).objs.size], _, _, H, rfl,
    I1.kept (t' := tk) fun b o e => Heap.get?_push_of_some _ e, turn_range _ lo (hi - lo).toNat, ?_, fun b hb => ?_, q⟩
  · have e1 : lo + ((0 : Nat) : Int) * 1 = lo := by simp
    have e2 : (((hi - lo).toNat : Nat) : Int) - ((0 : Nat) : Int) = Builtin.Range.rangeSize lo hi 1 := by rw [rangeSize_one]; split <;> omega
    show IsRangeIter _ _ (lo + ((0 : Nat) : Int) * 1) ((((hi - lo).toNat : Nat) : Int) - ((0 : Nat) : Int)) 1
    rw [e1, e2]
    exact Heap.get?_push_size _ rfl
  · have e : b = (s.heap.push { cls := .type "range", data := .fields #[.int lo t, .int hi u, .int 1 v] }).objs.size := by simpa using hb
    subst e
    exact I1.fpOk (Nat.le_refl _) (I1.hok.fresh (Nat.le_refl _))
def iRng1 (ta : TA) : TI := fun σ H R => ta σ H fun vs H1 => ∃ j : Int, vs = [.int j] ∧ -(2 ^ 62) ≤ j ∧ j < 2 ^ 62 ∧ R (Itr 0 j.toNat) H1
def iRng2 (ta : TA) : TI := fun σ H R => ta σ H fun vs H1 => ∃ i j : Int, vs = [.int i, .int j] ∧ (-(2 ^ 62) ≤ i ∧ i < 2 ^ 62 ∧ -(2 ^ 62) ≤ j ∧ j < 2 ^ 62) ∧ R (Itr i (j - i).toNat) H1
theorem pi_range1 {a : Expr} {ta : TA} {p pos : Pos} (hg : Gl X "range") (hm : X.mg "range" = none) (ha : PA X [a] ta) (hs : starEach [a] X.env = [(false, eval a X.env)] := by rfl) : PI X tg (.Call (.Name "range" p) [a] [] pos) (iRng1 ta) := by
  intro pins s σ H R I h
  refine Call_ (ld_blt I hg hm boot_range (PyProof.Rows.callWith_type1 (thn (ha pos pins s σ H _ I h) fun us s1 ⟨vs, H1, I1, r1, q1⟩ => ?_) hs rfl))
  obtain ⟨j, e, q1, q2, q⟩ := q1
  subst e
  cases r1 with
  | cons r rr =>
    cases rr
    obtain ⟨t, rfl⟩ := r
    exact call_range_1 (range_it I1 (by omega) (by omega) q1 q2 (by simpa using q))
theorem pi_range2 {a b : Expr} {ta : TA} {p pos : Pos} (hg : Gl X "range") (hm : X.mg "range" = none) (ha : PA X [a, b] ta) (hs : starEach [a, b] X.env = [(false, eval a X.env), (false, eval b X.env)] := by rfl) (hs2 : starEach [b] X.env = [(false, eval b X.env)] := by rfl) :
    PI X tg (.Call (.Name "range" p) [a, b] [] pos) (iRng2 ta) := by
  intro pins s σ H R I h
  refine Call_ (ld_blt I hg hm boot_range (PyProof.Rows.callWith_type1 (thn (ha pos pins s σ H _ I h) fun us s1 ⟨vs, H1, I1, r1, q1⟩ => ?_) (by rw [hs, hs2]) (by rw [hs2]; rfl)))
  obtain ⟨i, j, e, ⟨q1, q2, q3, q4⟩, q⟩ := q1
  subst e
  cases r1 with
  | cons r rr =>
    cases rr with
    | cons r' rr =>
      cases rr
      obtain ⟨t, rfl⟩ := r
      obtain ⟨t', rfl⟩ := r'
      exact call_range_2 (range_it I1 q1 q2 q3 q4 q)

/-! ### for -/
/-- W: the invariant by the turn and a measure; N: what the body is to reach -/
def tFor (wi : TI) (g : TG) (tb : TS) : TS := fun D σ H => wi σ H fun J H1 => ∃ W : Nat → Nat → St → Hp → Prop, (∃ m, W 0 m σ H1) ∧ ∀ i m σ H, W i m σ H →
  (J.stop i H ∧ D.nx σ H) ∨ (J.go i H ∧ ∃ N : St → Hp → Prop, (∀ σ' H', N σ' H' → ∃ m', m' < m ∧ W (i + 1) m' σ' H') ∧ ∀ x H', J.yld i H x H' → g x σ H' fun σ2 H2 => tb { D with nx := N, ct := N, bk := D.nx } σ2 H2)
/-- the records at fp as they stand -/
def pinsAt (fp : List Addr) (h : Heap) : List (Addr × Obj) := fp.filterMap fun b => (h.get? b).map fun o => (b, o)
theorem mem_pinsAt {fp : List Addr} {h : Heap} {b : Addr} {o : Obj} (hb : b ∈ fp) (e : h.get? b = some o) : (b, o) ∈ pinsAt fp h := List.mem_filterMap.mpr ⟨b, hb, by rw [e]; rfl⟩
theorem of_pinsAt {fp : List Addr} {h : Heap} {p : Addr × Obj} (hp : p ∈ pinsAt fp h) : p.1 ∈ fp ∧ h.get? p.1 = some p.2 := by
  obtain ⟨b, hb, e⟩ := List.mem_filterMap.mp hp
  cases q : h.get? b with
  | none => rw [q] at e; cases e
  | some o =>
    rw [q] at e
    have e' : (b, o) = p := Option.some.inj e
    subst e'
    exact ⟨hb, q⟩
theorem Inv.pinned {pins : List (Addr × Obj)} {σ : St} {H : Hp} {s : Shared} {fp : List Addr} (I : Inv X pins σ H s) (hf : ∀ b ∈ fp, FpOk X pins H b) (ho : ∀ b ∈ fp, ∃ o, s.heap.get? b = some o ∧ ∀ v, o.data ≠ .cell v) : Inv X (pins ++ pinsAt fp s.heap) σ H s :=
  I.pins_of fun p hp => (List.mem_append.mp hp).elim (fun z => I.pin p (List.mem_append_right _ z)) fun z => by
    obtain ⟨hb, e⟩ := of_pinsAt z
    obtain ⟨f0, f1, f2, _⟩ := hf p.1 hb
    obtain ⟨o, e', d⟩ := ho p.1 hb
    rw [e] at e'; cases e'
    exact ⟨e, f0, f1, f2, d⟩
theorem Inv.unpinned {pins pl : List (Addr × Obj)} {σ : St} {H : Hp} {s : Shared} (I : Inv X (pins ++ pl) σ H s) : Inv X pins σ H s := I.pins_of fun p hp => I.pin p (List.mem_append_right _ (List.mem_append_left _ hp))
theorem ps_for {iter : Expr} {body : List Stmt} {wi : TI} {g : TG} {tb : TS} {pos : Pos} (hp : PassesOwn (model X.prog X.w) X.A X.env X.xe) (hc : X.calm = true) (hi : PI X tg iter wi) (hg : PG X tg g) (hb : PSs X body tb)
    (hs : ∀ x, foldedSetIterable iter X.env x = pure x := by intro _; rfl) : PS X (.For tg iter body [] pos) (tFor wi g tb) := by
  intro pins s σ H D I h
  refine wpAny_For (thn (hi pins s σ H _ I h) fun v s1 h1 => thn h1 fun itv s2 h2 => ?_) hs
  obtain ⟨it, fp, tn, J, H2, e, I2, T, st2, f2, W, ⟨m0, w0⟩, turn⟩ := h2
  subst e
  -- what stays true of the iterator's objects through the loop
  have stat : ∀ {H' : Hp}, (∀ b ∈ fp, H' b = none) → ∀ b ∈ fp, FpOk X pins H' b := fun hn b hb => ⟨hn b hb, (f2 b hb).2⟩
  refine codeAny_forLoop_any (fun n s' => ∃ i σ' H', Inv X pins σ' H' s' ∧ tn i s'.heap ∧ (∀ b ∈ fp, H' b = none) ∧ W i n σ' H') ?_ m0 ⟨0, σ, H2, I2, st2, fun b hb => (f2 b hb).1, w0⟩
  rintro n s3 ⟨i, σ3, H3, I3, st3, fr3, w3⟩
  rcases turn i n σ3 H3 w3 with ⟨stop, qn⟩ | ⟨go, N, hN, step⟩
  · refine wpAny_passesOwn hp (thn (T.done X rfl rfl rfl hc i pins s3 σ3 H3 X.xe I3 (stat fr3) st3 stop) fun r s4 ⟨hr, I4⟩ => ?_)
    subst hr
    exact wpAny_execs_nil ⟨σ3, H3, I4, qn⟩
  · refine wpAny_passesOwn hp (thn (T.item X rfl rfl rfl hc i pins s3 σ3 H3 X.xe I3 (stat fr3) st3 go) fun r s4 ⟨u, hr, h4⟩ => ?_)
    subst hr
    refine wpAny_passesOwn hp (thn h4 fun _ s5 ⟨x, H5, I5, r5, y5, st5, fr5⟩ => ?_)
    have I5' := I5.pinned (stat fr5) (T.obj _ _ st5)
    refine wpAny_passesOwn hp (thn (hg _ s5 σ3 H5 x u _ I5' r5 (step x H5 y5)) fun _ s6 ⟨σ6, H6, I6, q6⟩ => ?_)
    refine wpAny_passesOwn hp (thn (hb _ s6 σ6 H6 _ I6 q6) fun f s7 q7 => ?_)
    have again : ∀ {σ7 : St} {H7 : Hp}, Inv X (pins ++ pinsAt fp s5.heap) σ7 H7 s7 → N σ7 H7 → ∃ m, m < n ∧ ∃ i σ' H', Inv X pins σ' H' s7 ∧ tn i s7.heap ∧ (∀ b ∈ fp, H' b = none) ∧ W i m σ' H' := fun {σ7 H7} I7 n7 => by
      obtain ⟨m', hm, w7⟩ := hN σ7 H7 n7
      refine ⟨m', hm, i + 1, σ7, H7, I7.unpinned, T.keep _ _ _ st5 fun b hb o e => (I7.pin (b, o) (List.mem_append_right _ (List.mem_append_right _ (mem_pinsAt hb e)))).1, fun b hb => ?_, w7⟩
      obtain ⟨o, e, d⟩ := T.obj _ _ st5 b hb
      exact (I7.pin (b, o) (List.mem_append_right _ (List.mem_append_right _ (mem_pinsAt hb e)))).2.1
    cases f with
    | next => obtain ⟨σ7, H7, I7, n7⟩ := q7; exact again I7 n7
    | cont => obtain ⟨σ7, H7, I7, n7⟩ := q7; exact again I7 n7
    | brk => obtain ⟨σ7, H7, I7, q7⟩ := q7; exact ⟨σ7, H7, I7.unpinned, q7⟩
    | ret v => obtain ⟨x7, σ7, H7, I7, r7, q7⟩ := q7; exact ⟨x7, σ7, H7, I7.unpinned, r7, q7⟩
end

/-! ### the forms one uses -/
/-- over a list that the body leaves as it is -/
theorem for_list {K : PySem.W.Frag} {a : Addr} {xs : List V} {g : TG} {tb : TS} {D : Ends} {σ : St} {H : Hp} (Pv : Nat → St → Hp → Prop) (h0 : Pv 0 σ H) (hl : ∀ i σ H, i ≤ xs.length → Pv i σ H → SqL K H a xs)
    (hs : ∀ i x σ H, xs[i]? = some x → Pv i σ H → g x σ H fun σ2 H2 => tb { D with nx := Pv (i + 1), ct := Pv (i + 1), bk := D.nx } σ2 H2) (hd : ∀ σ H, Pv xs.length σ H → D.nx σ H) :
    ∃ W : Nat → Nat → St → Hp → Prop, (∃ m, W 0 m σ H) ∧ ∀ i m σ H, W i m σ H →
      ((Itl K a).stop i H ∧ D.nx σ H) ∨ ((Itl K a).go i H ∧ ∃ N : St → Hp → Prop, (∀ σ' H', N σ' H' → ∃ m', m' < m ∧ W (i + 1) m' σ' H') ∧ ∀ x H', (Itl K a).yld i H x H' → g x σ H' fun σ2 H2 => tb { D with nx := N, ct := N, bk := D.nx } σ2 H2) := by
  refine ⟨fun i m σ H => m = xs.length - i ∧ i ≤ xs.length ∧ Pv i σ H, ⟨xs.length, by simp, Nat.zero_le _, h0⟩, ?_⟩
  rintro i m σ H ⟨rfl, hi, p⟩
  have q := hl i σ H hi p
  by_cases hlt : i < xs.length
  · refine .inr ⟨⟨xs, xs[i], q, by simp [hlt]⟩, Pv (i + 1), fun σ' H' p' => ⟨xs.length - (i + 1), by omega, rfl, hlt, p'⟩, fun x H' y => ?_⟩
    obtain ⟨e, y⟩ := y
    subst e
    exact hs i x σ _ (y xs q) p
  · have e : i = xs.length := by omega
    subst e
    exact .inl ⟨⟨xs, q, Nat.le_refl _⟩, hd σ H p⟩
theorem for_tup {K : PySem.W.Frag} {a : Addr} {xs : List V} {g : TG} {tb : TS} {D : Ends} {σ : St} {H : Hp} (Pv : Nat → St → Hp → Prop) (h0 : Pv 0 σ H) (hl : ∀ i σ H, i ≤ xs.length → Pv i σ H → SqT K H a xs)
    (hs : ∀ i x σ H, xs[i]? = some x → Pv i σ H → g x σ H fun σ2 H2 => tb { D with nx := Pv (i + 1), ct := Pv (i + 1), bk := D.nx } σ2 H2) (hd : ∀ σ H, Pv xs.length σ H → D.nx σ H) :
    ∃ W : Nat → Nat → St → Hp → Prop, (∃ m, W 0 m σ H) ∧ ∀ i m σ H, W i m σ H →
      ((Itt K a).stop i H ∧ D.nx σ H) ∨ ((Itt K a).go i H ∧ ∃ N : St → Hp → Prop, (∀ σ' H', N σ' H' → ∃ m', m' < m ∧ W (i + 1) m' σ' H') ∧ ∀ x H', (Itt K a).yld i H x H' → g x σ H' fun σ2 H2 => tb { D with nx := N, ct := N, bk := D.nx } σ2 H2) := by
  refine ⟨fun i m σ H => m = xs.length - i ∧ i ≤ xs.length ∧ Pv i σ H, ⟨xs.length, by simp, Nat.zero_le _, h0⟩, ?_⟩
  rintro i m σ H ⟨rfl, hi, p⟩
  have q := hl i σ H hi p
  by_cases hlt : i < xs.length
  · refine .inr ⟨⟨xs, xs[i], q, by simp [hlt]⟩, Pv (i + 1), fun σ' H' p' => ⟨xs.length - (i + 1), by omega, rfl, hlt, p'⟩, fun x H' y => ?_⟩
    obtain ⟨e, y⟩ := y
    subst e
    exact hs i x σ _ (y xs q) p
  · have e : i = xs.length := by omega
    subst e
    exact .inl ⟨⟨xs, q, Nat.le_refl _⟩, hd σ H p⟩
theorem for_range {lo : Int} {n : Nat} {g : TG} {tb : TS} {D : Ends} {σ : St} {H : Hp} (Pv : Nat → St → Hp → Prop) (h0 : Pv 0 σ H)
    (hs : ∀ i σ H, i < n → Pv i σ H → g (.int (lo + i)) σ H fun σ2 H2 => tb { D with nx := Pv (i + 1), ct := Pv (i + 1), bk := D.nx } σ2 H2) (hd : ∀ σ H, Pv n σ H → D.nx σ H) :
    ∃ W : Nat → Nat → St → Hp → Prop, (∃ m, W 0 m σ H) ∧ ∀ i m σ H, W i m σ H →
      ((Itr lo n).stop i H ∧ D.nx σ H) ∨ ((Itr lo n).go i H ∧ ∃ N : St → Hp → Prop, (∀ σ' H', N σ' H' → ∃ m', m' < m ∧ W (i + 1) m' σ' H') ∧ ∀ x H', (Itr lo n).yld i H x H' → g x σ H' fun σ2 H2 => tb { D with nx := N, ct := N, bk := D.nx } σ2 H2) := by
  refine ⟨fun i m σ H => m = n - i ∧ i ≤ n ∧ Pv i σ H, ⟨n, by simp, Nat.zero_le _, h0⟩, ?_⟩
  rintro i m σ H ⟨rfl, hi, p⟩
  by_cases hlt : i < n
  · refine .inr ⟨hlt, Pv (i + 1), fun σ' H' p' => ⟨n - (i + 1), by omega, rfl, hlt, p'⟩, fun x H' y => ?_⟩
    obtain ⟨e, y⟩ := y
    subst e y
    exact hs i σ _ hlt p
  · have e : i = n := by omega
    subst e
    exact .inl ⟨Nat.le_refl _, hd σ H p⟩
/-- while, by a word and a measure of the state -/
theorem while_by {c : TT} {tb : TS} {D : Ends} {σ : St} {H : Hp} (Pv : St → Hp → Prop) (μ : St → Hp → Nat) (h0 : Pv σ H)
    (hs : ∀ σ H, Pv σ H → c σ H fun b H1 => if b = true then tb { D with nx := fun σ' H' => Pv σ' H' ∧ μ σ' H' < μ σ H, ct := fun σ' H' => Pv σ' H' ∧ μ σ' H' < μ σ H, bk := D.nx } σ H1 else D.nx σ H1)
    (mono : ∀ σ H Q Q', (∀ b H1, Q b H1 → Q' b H1) → c σ H Q → c σ H Q') : tWhile c tb D σ H := by
  refine ⟨fun m σ H => m = μ σ H ∧ Pv σ H, ⟨_, rfl, h0⟩, ?_⟩
  rintro m σ H ⟨rfl, p⟩
  refine mono σ H _ _ (fun b H1 q => ?_) (hs σ H p)
  cases b with
  | true => exact ⟨_, fun σ' H' ⟨p', l⟩ => ⟨_, l, rfl, p'⟩, q⟩
  | false => exact q
end L2

namespace L2
open PySem PySem.Spec PyProof.Rows

abbrev R2 := V → V → Hp → VK → Prop
/-- a two-place operation on values: f is binaryOp op, inplaceOp op or compareOp op -/
def OpR (X : Cx) (f : Value → Value → Sem Value) (r : R2) : Prop :=
  ∀ (pins : List (Addr × Obj)) (s : Shared) (σ : St) (H : Hp) (x y : V) (v u : Value) (Q : VK), Inv X pins σ H s → RelV x v → RelV y u → r x y H Q →
    wpAny (model X.prog X.w) X.A (f v u) (EP X pins σ Q) X.xe s
/-- a one-place operation -/
def UnR (X : Cx) (f : Value → Sem Value) (r : V → Hp → VK → Prop) : Prop :=
  ∀ (pins : List (Addr × Obj)) (s : Shared) (σ : St) (H : Hp) (x : V) (v : Value) (Q : VK), Inv X pins σ H s → RelV x v → r x H Q →
    wpAny (model X.prog X.w) X.A (f v) (EP X pins σ Q) X.xe s
/-- a call of a value that is known (a builtin, a type) with values -/
def CallR (X : Cx) (f : Value) (r : List V → Hp → VK → Prop) : Prop :=
  ∀ (pins : List (Addr × Obj)) (s : Shared) (σ : St) (H : Hp) (xs : List V) (us : List Value) (Q : VK), Inv X pins σ H s → Vals xs us → r xs H Q →
    wpAny (model X.prog X.w) X.A (call f us) (EP X pins σ Q) X.xe s
/-- a value's truth -/
def TruR (X : Cx) (r : V → Hp → (Bool → Hp → Prop) → Prop) : Prop :=
  ∀ (pins : List (Addr × Obj)) (s : Shared) (σ : St) (H : Hp) (x : V) (v : Value) (Q : Bool → Hp → Prop), Inv X pins σ H s → RelV x v → r x H Q →
    wpAny (model X.prog X.w) X.A (truthy v) (TP X pins σ Q) X.xe s

def tOp (r : R2) (ta tb : TE) : TE := fun σ H Q => ta σ H fun x H1 => tb σ H1 fun y H2 => r x y H2 Q
def tUn (r : V → Hp → VK → Prop) (ta : TE) : TE := fun σ H Q => ta σ H fun x H1 => r x H1 Q
/-- ints in, under C, and a value out -/
def rI (C : Int → Int → Prop) (g : Int → Int → V) : R2 := fun x y H Q => ∃ i j, x = .int i ∧ y = .int j ∧ C i j ∧ Q (g i j) H
def rI0 (g : Int → Int → V) : R2 := fun x y H Q => ∃ i j, x = .int i ∧ y = .int j ∧ Q (g i j) H
def rU (g : Int → V) : V → Hp → VK → Prop := fun x H Q => ∃ i, x = .int i ∧ Q (g i) H

section
variable {X : Cx} {a b c : Expr} {ta tb tc : TE} {pos : Pos}

theorem binT (ha : PE X a ta) (hb : PE X b tb) {pins : List (Addr × Obj)} {s : Shared} {σ : St} {H : Hp} {R : V → V → Hp → Prop} (I : Inv X pins σ H s)
    (h : ta σ H fun x H1 => tb σ H1 fun y H2 => R x y H2) {Q : Value → Shared → Prop} {f : Value → Value → Sem Value}
    (hf : ∀ v u s2 x y H2, Inv X pins σ H2 s2 → RelV x v → RelV y u → R x y H2 → wpAny (model X.prog X.w) X.A (f v u) Q X.xe s2) :
    wpAny (model X.prog X.w) X.A (eval a X.env) (fun v s₁ => wpAny (model X.prog X.w) X.A (eval b X.env) (fun u s₂ => wpAny (model X.prog X.w) X.A (f v u) Q X.xe s₂) X.xe s₁) X.xe s := by
  refine thn (ha pins s σ H _ I h) fun v s1 ⟨x, H1, I1, r1, q1⟩ => ?_
  refine thn (hb pins s1 σ H1 _ I1 q1) fun u s2 ⟨y, H2, I2, r2, q2⟩ => ?_
  exact hf v u s2 x y H2 I2 r1 r2 q2

theorem pe_op {op : Operator} {r : R2} (ho : OpR X (binaryOp op) r) (ha : PE X a ta) (hb : PE X b tb) : PE X (.BinOp a op b pos) (tOp r ta tb) := by
  intro pins s σ H Q I h
  exact wpAny_BinOp (binT ha hb I h fun v u s2 x y H2 I2 rx ry q => ho pins s2 σ H2 x y v u Q I2 rx ry q)
theorem pe_un {op : UnaryOp} {r : V → Hp → VK → Prop} (ho : UnR X (unaryOp op) r) (ha : PE X a ta) : PE X (.UnaryOp op a pos) (tUn r ta) := by
  intro pins s σ H Q I h
  exact UnaryOp_ (thn (ha pins s σ H _ I h) fun v s1 ⟨x, H1, I1, r1, q1⟩ => ho pins s1 σ H1 x v Q I1 r1 q1)
/-- a op= e at a name: the name's slot i -/
theorem augR {op : Operator} {r : R2} (ho : OpR X (inplaceOp op) r) {pins : List (Addr × Obj)} {s : Shared} {σ : St} {H : Hp} {x y : V} {v u : Value} {Q : VK} (I : Inv X pins σ H s)
    (rx : RelV x v) (ry : RelV y u) (q : r x y H Q) : wpAny (model X.prog X.w) X.A (inplaceOp op v u) (EP X pins σ Q) X.xe s := ho pins s σ H x y v u Q I rx ry q

/-! ### ints -/
theorem opI {f : Value → Value → Sem Value} {C : Int → Int → Prop} {g : Int → Int → Int}
    (rule : ∀ (i j : Int) (t u : Tok) (s : Shared) (Q : Value → Shared → Prop) (E : Value → Shared → Prop), C i j → Q (.int (g i j) s.toks) { s with toks := s.toks + 1 } → wpAny (model X.prog X.w) X.A (f (.int i t) (.int j u)) Q E s) :
    OpR X f (rI C fun i j => .int (g i j)) := by
  intro pins s σ H x y v u Q I rx ry h
  obtain ⟨i, j, rfl, rfl, hc, q⟩ := h
  obtain ⟨t, rfl⟩ := rx
  obtain ⟨t', rfl⟩ := ry
  exact rule i j t t' s _ _ hc ⟨.int (g i j), H, I.tok _, ⟨_, rfl⟩, q⟩
theorem opI0 {f : Value → Value → Sem Value} {g : Int → Int → Int}
    (rule : ∀ (i j : Int) (t u : Tok) (s : Shared) (Q : Value → Shared → Prop) (E : Value → Shared → Prop), Q (.int (g i j) s.toks) { s with toks := s.toks + 1 } → wpAny (model X.prog X.w) X.A (f (.int i t) (.int j u)) Q E s) :
    OpR X f (rI0 fun i j => .int (g i j)) := by
  intro pins s σ H x y v u Q I rx ry h
  obtain ⟨i, j, rfl, rfl, q⟩ := h
  obtain ⟨t, rfl⟩ := rx
  obtain ⟨t', rfl⟩ := ry
  exact rule i j t t' s _ _ ⟨.int (g i j), H, I.tok _, ⟨_, rfl⟩, q⟩
theorem opB0 {f : Value → Value → Sem Value} {g : Int → Int → Bool}
    (rule : ∀ (i j : Int) (t u : Tok) (s : Shared) (Q : Value → Shared → Prop) (E : Value → Shared → Prop), Q (.bool (g i j)) s → wpAny (model X.prog X.w) X.A (f (.int i t) (.int j u)) Q E s) :
    OpR X f (rI0 fun i j => .bl (g i j)) := by
  intro pins s σ H x y v u Q I rx ry h
  obtain ⟨i, j, rfl, rfl, q⟩ := h
  obtain ⟨t, rfl⟩ := rx
  obtain ⟨t', rfl⟩ := ry
  exact rule i j t t' s _ _ ⟨.bl (g i j), H, I, rfl, q⟩

def CDiv (i j : Int) : Prop := 0 < j ∧ j < 1073741824
def CDivN (i j : Int) : Prop := j ≠ 0 ∧ j.natAbs < 1073741824
def CPow (i j : Int) : Prop := 0 ≤ j ∧ j ≤ 1000000 ∧ i.natAbs < 2 ^ 64
def CMul (i j : Int) : Prop := (-(2 ^ 64) < i ∧ i < 2 ^ 64) ∨ (-(2 ^ 64) < j ∧ j < 2 ^ 64)
theorem CMul.ok {i j : Int} (h : CMul i j) : IntMulOk i j := by
  rcases h with ⟨h1, h2⟩ | ⟨h1, h2⟩
  · exact .of_left (intBits_le_64 h1 h2)
  · exact .of_right (intBits_le_64 h1 h2)
theorem two_pow_nn (k : Nat) : (0 : Int) ≤ 2 ^ k := by
  rw [two_pow_cast]
  exact Int.natCast_nonneg _

theorem op_add : OpR X (binaryOp .Add) (rI0 fun i j => .int (i + j)) := opI0 fun _ _ _ _ _ _ _ q => add_int q
theorem op_sub : OpR X (binaryOp .Sub) (rI0 fun i j => .int (i - j)) := opI0 fun _ _ _ _ _ _ _ q => sub_int q
theorem op_mul : OpR X (binaryOp .Mult) (rI CMul fun i j => .int (i * j)) := opI fun _ _ _ _ _ _ _ hc q => mul_int q hc.ok
/-- // by a positive divisor -/
theorem op_fdiv : OpR X (binaryOp .FloorDiv) (rI CDiv fun i j => .int (i / j)) := opI fun i j _ _ _ _ _ hc q => by
  have h1 : (0 : Int) < j := hc.1
  have h2 : j < 1073741824 := hc.2
  exact floordiv_int (by omega) (by rw [Int.fdiv_eq_ediv_of_nonneg i (by omega)]; exact q) (.inl (PyProof.noPylong_small (by omega)))
theorem op_fdivN : OpR X (binaryOp .FloorDiv) (rI CDivN fun i j => .int (i.fdiv j)) := opI fun _ _ _ _ _ _ _ hc q => floordiv_int hc.1 q (.inl (PyProof.noPylong_small hc.2))
/-- % by a positive divisor of any size -/
theorem op_mod : OpR X (binaryOp .Mod) (rI (fun _ j => 0 < j) fun i j => .int (i % j)) := opI fun i j _ _ _ _ _ hc q => by
  have h1 : (0 : Int) < j := hc
  exact mod_int' (by omega) (by rw [Int.fmod_eq_emod_of_nonneg i (by omega)]; exact q)
theorem op_modN : OpR X (binaryOp .Mod) (rI (fun _ j => j ≠ 0) fun i j => .int (i.fmod j)) := opI fun _ _ _ _ _ _ _ hc q => mod_int' hc q
theorem op_pow : OpR X (binaryOp .Pow) (rI CPow fun i j => .int (i ^ j.toNat)) := opI fun _ _ _ _ _ _ _ hc q => pow_int_small hc.1 hc.2.1 hc.2.2 q
theorem op_shl : OpR X (binaryOp .LShift) (rI CPow fun i j => .int (i * 2 ^ j.toNat)) := opI fun _ _ _ _ _ _ _ hc q => lshift_int_small hc.1 hc.2.1 hc.2.2 q
theorem op_shr : OpR X (binaryOp .RShift) (rI (fun _ j => 0 ≤ j) fun i j => .int (i / 2 ^ j.toNat)) := opI fun i j _ _ _ _ _ hc q =>
  rshift_int hc (by rw [Int.fdiv_eq_ediv_of_nonneg i (two_pow_nn _)]; exact q)
theorem op_and : OpR X (binaryOp .BitAnd) (rI0 fun i j => .int (Builtin.bitAnd i j)) := opI0 fun _ _ _ _ _ _ _ q => and_int q
theorem op_or : OpR X (binaryOp .BitOr) (rI0 fun i j => .int (Builtin.bitOr i j)) := opI0 fun _ _ _ _ _ _ _ q => or_int q
theorem op_xor : OpR X (binaryOp .BitXor) (rI0 fun i j => .int (Builtin.bitXor i j)) := opI0 fun _ _ _ _ _ _ _ q => xor_int q

theorem iop_add : OpR X (inplaceOp .Add) (rI0 fun i j => .int (i + j)) := opI0 fun _ _ _ _ _ _ _ q => iadd_int q
theorem iop_sub : OpR X (inplaceOp .Sub) (rI0 fun i j => .int (i - j)) := opI0 fun _ _ _ _ _ _ _ q => isub_int q
theorem iop_mul : OpR X (inplaceOp .Mult) (rI CMul fun i j => .int (i * j)) := opI fun _ _ _ _ _ _ _ hc q => imul_int q hc.ok
theorem iop_fdiv : OpR X (inplaceOp .FloorDiv) (rI CDiv fun i j => .int (i / j)) := opI fun i j _ _ _ _ _ hc q => by
  have h1 : (0 : Int) < j := hc.1
  have h2 : j < 1073741824 := hc.2
  exact ifloordiv_int (by omega) (by rw [Int.fdiv_eq_ediv_of_nonneg i (by omega)]; exact q) (.inl (PyProof.noPylong_small (by omega)))
theorem iop_mod : OpR X (inplaceOp .Mod) (rI (fun _ j => 0 < j) fun i j => .int (i % j)) := opI fun i j _ _ _ _ _ hc q => by
  have h1 : (0 : Int) < j := hc
  exact imod_int (by omega) (by rw [Int.fmod_eq_emod_of_nonneg i (by omega)]; exact q)
theorem iop_shl : OpR X (inplaceOp .LShift) (rI CPow fun i j => .int (i * 2 ^ j.toNat)) := opI fun _ _ _ _ _ _ _ hc q => ilshift_int_small hc.1 hc.2.1 hc.2.2 q
theorem iop_shr : OpR X (inplaceOp .RShift) (rI (fun _ j => 0 ≤ j) fun i j => .int (i / 2 ^ j.toNat)) := opI fun i j _ _ _ _ _ hc q =>
  irshift_int hc (by rw [Int.fdiv_eq_ediv_of_nonneg i (two_pow_nn _)]; exact q)
theorem iop_and : OpR X (inplaceOp .BitAnd) (rI0 fun i j => .int (Builtin.bitAnd i j)) := opI0 fun _ _ _ _ _ _ _ q => iand_int q
theorem iop_or : OpR X (inplaceOp .BitOr) (rI0 fun i j => .int (Builtin.bitOr i j)) := opI0 fun _ _ _ _ _ _ _ q => ior_int q
theorem iop_xor : OpR X (inplaceOp .BitXor) (rI0 fun i j => .int (Builtin.bitXor i j)) := opI0 fun _ _ _ _ _ _ _ q => ixor_int q

theorem unI {f : Value → Sem Value} {g : Int → Int}
    (rule : ∀ (i : Int) (t : Tok) (s : Shared) (Q : Value → Shared → Prop) (E : Value → Shared → Prop), Q (.int (g i) s.toks) { s with toks := s.toks + 1 } → wpAny (model X.prog X.w) X.A (f (.int i t)) Q E s) :
    UnR X f (rU fun i => .int (g i)) := by
  intro pins s σ H x v Q I rx h
  obtain ⟨i, rfl, q⟩ := h
  obtain ⟨t, rfl⟩ := rx
  exact rule i t s _ _ ⟨.int (g i), H, I.tok _, ⟨_, rfl⟩, q⟩
theorem un_neg : UnR X (unaryOp .USub) (rU fun i => .int (-i)) := unI fun _ _ _ _ _ q => neg_int q
theorem un_inv : UnR X (unaryOp .Invert) (rU fun i => .int (Builtin.bitNot i)) := unI fun _ _ _ _ _ q => invert_int q

/-! ### bools among ints: n += (a < b) -/
theorem op_add_ib : OpR X (binaryOp .Add) (fun x y H Q => ∃ i k, x = .int i ∧ y = .bl k ∧ Q (.int (i + b2i k)) H) := by
  intro pins s σ H x y v u Q I rx ry h
  obtain ⟨i, k, rfl, rfl, q⟩ := h
  obtain ⟨t, rfl⟩ := rx
  cases ry
  exact add_int_bool ⟨.int (i + b2i k), H, I.tok _, ⟨_, rfl⟩, q⟩
end

/-! ### comparisons -/
/-- the scalars that == tells apart as data does -/
def scal : V → V → Bool
  | .non, .non => true | .non, .int _ => true | .int _, .non => true | .non, .bl _ => true | .bl _, .non => true | .non, .str _ => true | .str _, .non => true
  | .int _, .int _ => true | .bl _, .bl _ => true | .str _, .str _ => true | .byt _, .byt _ => true
  | .int _, .str _ => true | .str _, .int _ => true | .bl _, .str _ => true | .str _, .bl _ => true
  | _, _ => false
def rEq : R2 := fun x y H Q => scal x y = true ∧ Q (.bl (decide (x = y))) H
def rNe : R2 := fun x y H Q => scal x y = true ∧ Q (.bl (!decide (x = y))) H

theorem dec_int {i j : Int} : decide (V.int i = V.int j) = (i == j) := by
  rw [Bool.eq_iff_iff]
  simp
theorem dec_bl {i j : Bool} : decide (V.bl i = V.bl j) = (i == j) := by
  rw [Bool.eq_iff_iff]
  simp
theorem dec_str {i j : Str} : decide (V.str i = V.str j) = (i == j) := by
  rw [Bool.eq_iff_iff]
  simp
theorem dec_byt {i j : Array UInt8} : decide (V.byt i = V.byt j) = (i.toList == j.toList) := by
  rw [Bool.eq_iff_iff]
  cases i
  cases j
  simp

section
variable {X : Cx} {a b c : Expr} {ta tb tc : TE} {pos : Pos}
theorem fin_bl {pins : List (Addr × Obj)} {σ : St} {H : Hp} {s : Shared} {Q : VK} {k k' : Bool} (I : Inv X pins σ H s) (q : Q (.bl k) H) (e : k = k') : EP X pins σ Q (.bool k') s := by
  subst e
  exact ⟨.bl k, H, I, rfl, q⟩
theorem op_eq : OpR X (compareOp .Eq) rEq := by
  intro pins s σ H x y v u Q I rx ry h
  obtain ⟨hs, q⟩ := h
  cases x with
  | non =>
    cases rx
    cases y with
    | non => cases ry; exact PySem.EqNone.eq_none_none (fin_bl I q (by simp))
    | bl j => cases ry; exact PySem.EqNone.eq_none_bool (fin_bl I q (by simp))
    | int j => obtain ⟨t', rfl⟩ := ry; exact PySem.EqNone.eq_none_int (fin_bl I q (by simp))
    | str j => obtain ⟨t', rfl⟩ := ry; exact PySem.EqNone.eq_none_str (fin_bl I q (by simp))
    | _ => exact absurd (show false = true from hs) Bool.false_ne_true
  | bl i =>
    cases rx
    cases y with
    | non => cases ry; exact PySem.EqNone.eq_bool_none (fin_bl I q (by simp))
    | bl j => cases ry; exact eq_bool (fin_bl I q dec_bl)
    | str j => obtain ⟨t', rfl⟩ := ry; exact PySem.EqMixed.eq_bool_str (fin_bl I q (by simp))
    | _ => exact absurd (show false = true from hs) Bool.false_ne_true
  | int i =>
    obtain ⟨t, rfl⟩ := rx
    cases y with
    | non => cases ry; exact PySem.EqNone.eq_int_none (fin_bl I q (by simp))
    | int j => obtain ⟨t', rfl⟩ := ry; exact eq_int (fin_bl I q dec_int)
    | str j => obtain ⟨t', rfl⟩ := ry; exact PySem.EqMixed.eq_int_str (fin_bl I q (by simp))
    | _ => exact absurd (show false = true from hs) Bool.false_ne_true
  | str i =>
    obtain ⟨t, rfl⟩ := rx
    cases y with
    | non => cases ry; exact PySem.EqNone.eq_str_none (fin_bl I q (by simp))
    | bl j => cases ry; exact PySem.EqMixed.eq_str_bool (fin_bl I q (by simp))
    | int j => obtain ⟨t', rfl⟩ := ry; exact PySem.EqMixed.eq_str_int (fin_bl I q (by simp))
    | str j => obtain ⟨t', rfl⟩ := ry; exact eq_str (fin_bl I q dec_str)
    | _ => exact absurd (show false = true from hs) Bool.false_ne_true
  | byt i =>
    obtain ⟨t, rfl⟩ := rx
    cases y with
    | byt j => obtain ⟨t', rfl⟩ := ry; exact PySem.W.eq_bytes (fin_bl I q dec_byt)
    | _ => exact absurd (show false = true from hs) Bool.false_ne_true
  | _ => cases y <;> exact absurd (show false = true from hs) Bool.false_ne_true
theorem op_ne : OpR X (compareOp .NotEq) rNe := by
  intro pins s σ H x y v u Q I rx ry h
  obtain ⟨hs, q⟩ := h
  cases x with
  | non =>
    cases rx
    cases y with
    | non => cases ry; exact PySem.EqNone.ne_none_none (fin_bl I q (by simp))
    | bl j => cases ry; exact PySem.EqNone.ne_none_bool (fin_bl I q (by simp))
    | int j => obtain ⟨t', rfl⟩ := ry; exact PySem.EqNone.ne_none_int (fin_bl I q (by simp))
    | str j => obtain ⟨t', rfl⟩ := ry; exact PySem.EqNone.ne_none_str (fin_bl I q (by simp))
    | _ => exact absurd (show false = true from hs) Bool.false_ne_true
  | bl i =>
    cases rx
    cases y with
    | non => cases ry; exact PySem.EqNone.ne_bool_none (fin_bl I q (by simp))
    | bl j => cases ry; exact ne_bool (fin_bl I q (congrArg not dec_bl))
    | str j => obtain ⟨t', rfl⟩ := ry; exact PySem.EqMixed.ne_bool_str (fin_bl I q (by simp))
    | _ => exact absurd (show false = true from hs) Bool.false_ne_true
  | int i =>
    obtain ⟨t, rfl⟩ := rx
    cases y with
    | non => cases ry; exact PySem.EqNone.ne_int_none (fin_bl I q (by simp))
    | int j => obtain ⟨t', rfl⟩ := ry; exact ne_int (fin_bl I q (congrArg not dec_int))
    | str j => obtain ⟨t', rfl⟩ := ry; exact PySem.EqMixed.ne_int_str (fin_bl I q (by simp))
    | _ => exact absurd (show false = true from hs) Bool.false_ne_true
  | str i =>
    obtain ⟨t, rfl⟩ := rx
    cases y with
    | non => cases ry; exact PySem.EqNone.ne_str_none (fin_bl I q (by simp))
    | bl j => cases ry; exact PySem.EqMixed.ne_str_bool (fin_bl I q (by simp))
    | int j => obtain ⟨t', rfl⟩ := ry; exact PySem.EqMixed.ne_str_int (fin_bl I q (by simp))
    | str j => obtain ⟨t', rfl⟩ := ry; exact ne_str (fin_bl I q (congrArg not dec_str))
    | _ => exact absurd (show false = true from hs) Bool.false_ne_true
  | byt i =>
    obtain ⟨t, rfl⟩ := rx
    cases y with
    | byt j => obtain ⟨t', rfl⟩ := ry; exact PySem.W.ne_bytes (fin_bl I q (congrArg not dec_byt))
    | _ => exact absurd (show false = true from hs) Bool.false_ne_true
  | _ => cases y <;> exact absurd (show false = true from hs) Bool.false_ne_true

theorem op_lt : OpR X (compareOp .Lt) (rI0 fun i j => .bl (decide (i < j))) := opB0 fun _ _ _ _ _ _ _ q => lt_int q
theorem op_le : OpR X (compareOp .LtE) (rI0 fun i j => .bl (decide (i ≤ j))) := opB0 fun _ _ _ _ _ _ _ q => le_int q
theorem op_gt : OpR X (compareOp .Gt) (rI0 fun i j => .bl (decide (j < i))) := opB0 fun _ _ _ _ _ _ _ q => gt_int q
theorem op_ge : OpR X (compareOp .GtE) (rI0 fun i j => .bl (decide (j ≤ i))) := opB0 fun _ _ _ _ _ _ _ q => ge_int q
theorem op_lt_str : OpR X (compareOp .Lt) (fun x y H Q => ∃ i j, x = .str i ∧ y = .str j ∧ Q (.bl (decide (i.cps.toList < j.cps.toList))) H) := by
  intro pins s σ H x y v u Q I rx ry h
  obtain ⟨i, j, rfl, rfl, q⟩ := h
  obtain ⟨t, rfl⟩ := rx
  obtain ⟨t', rfl⟩ := ry
  exact lt_str (fin_bl I q rfl)
/-- the one string within the other -/
theorem op_in_str : OpR X (compareOp .In) (fun x y H Q => ∃ i j, x = .str i ∧ y = .str j ∧ Q (.bl (!(Builtin.Str.occurrences j i 0 j.length 1).isEmpty)) H) := by
  intro pins s σ H x y v u Q I rx ry h
  obtain ⟨i, j, rfl, rfl, q⟩ := h
  obtain ⟨t, rfl⟩ := rx
  obtain ⟨t', rfl⟩ := ry
  exact in_str (fin_bl I q rfl)

/-- is None, is not None: the right side a value none -/
theorem op_isN : OpR X (compareOp .Is) (fun x y H Q => y = .non ∧ Q (.bl (decide (x = .non))) H) := by
  intro pins s σ H x y v u Q I rx ry h
  obtain ⟨rfl, q⟩ := h
  cases ry
  refine is_none_gen (fin_bl I q ?_)
  cases x <;> first
    | (cases rx; rfl)
    | (obtain ⟨t, rfl⟩ := rx; rfl)
theorem op_notN : OpR X (compareOp .IsNot) (fun x y H Q => y = .non ∧ Q (.bl (!decide (x = .non))) H) := by
  intro pins s σ H x y v u Q I rx ry h
  obtain ⟨rfl, q⟩ := h
  cases ry
  refine isnot_none_gen (fin_bl I q ?_)
  cases x <;> first
    | (cases rx; rfl)
    | (obtain ⟨t, rfl⟩ := rx; rfl)

theorem op_notin_str : OpR X (compareOp .NotIn) (fun x y H Q => ∃ i j, x = .str i ∧ y = .str j ∧ Q (.bl (!(!(Builtin.Str.occurrences j i 0 j.length 1).isEmpty))) H) := by
  intro pins s σ H x y v u Q I rx ry h
  obtain ⟨i, j, rfl, rfl, q⟩ := h
  obtain ⟨t, rfl⟩ := rx
  obtain ⟨t', rfl⟩ := ry
  exact notIn_str (fin_bl I q rfl)
/-- is, is not of two objects that are tracked lists or instances -/
def isObj : HO → Bool
  | .lst _ => true
  | .ins _ _ _ => true
  | _ => false
theorem obj_there {pins : List (Addr × Obj)} {s : Shared} {σ : St} {H : Hp} {a : Addr} {o : HO} (I : Inv X pins σ H s) (h : H a = some o) (p : isObj o = true) : ∃ ob, s.heap.get? a = some ob ∧ ob.cls ≠ .type "tuple" := by
  cases o with
  | lst xs =>
    obtain ⟨_, its, n, _, e⟩ : xs.length ≤ sizeLine ∧ ∃ (its : List Value) (n : Nat), Vals xs its ∧ s.heap.get? a = some { cls := .type "list", data := .seq its.toArray n } := I.hok a _ h
    exact ⟨_, e, (by show Value.type "list" ≠ .type "tuple"; decide +kernel)⟩
  | ins C dx fs =>
    have x := I.hok a _ h
    obtain ⟨_, _, _, e, _⟩ := x
    exact ⟨_, e, (by show Value.ref C ≠ .type "tuple"; exact fun z => by cases z)⟩
  | _ => exact absurd (show false = true from p) Bool.false_ne_true
theorem op_is_ref : OpR X (compareOp .Is) (fun x y H Q => ∃ a b oa ob, x = .ref a ∧ y = .ref b ∧ H a = some oa ∧ isObj oa = true ∧ H b = some ob ∧ isObj ob = true ∧ Q (.bl (decide (a = b))) H) := by
  intro pins s σ H x y v u Q I rx ry h
  obtain ⟨a, b, oa, ob, rfl, rfl, ha, pa, hb, pb, q⟩ := h
  cases rx
  cases ry
  obtain ⟨o1, e1, n1⟩ := obj_there I ha pa
  obtain ⟨o2, e2, _⟩ := obj_there I hb pb
  by_cases z : a = b
  · subst z
    exact wpAny_is_ref_self (fin_bl I q (by simp))
  · exact wpAny_is_ref_other z e1 e2 n1 (fin_bl I q (by simp [z]))
theorem op_isnot_ref : OpR X (compareOp .IsNot) (fun x y H Q => ∃ a b oa ob, x = .ref a ∧ y = .ref b ∧ H a = some oa ∧ isObj oa = true ∧ H b = some ob ∧ isObj ob = true ∧ Q (.bl (!decide (a = b))) H) := by
  intro pins s σ H x y v u Q I rx ry h
  obtain ⟨a, b, oa, ob, rfl, rfl, ha, pa, hb, pb, q⟩ := h
  cases rx
  cases ry
  obtain ⟨o1, e1, n1⟩ := obj_there I ha pa
  obtain ⟨o2, e2, _⟩ := obj_there I hb pb
  by_cases z : a = b
  · subst z
    exact wpAny_isNot_ref_self (fin_bl I q (by simp))
  · exact wpAny_isNot_ref_other z e1 e2 n1 (fin_bl I q (by simp [z]))

/-- two rules for one operation: by cases -/
theorem OpR.or {f : Value → Value → Sem Value} {r r' : R2} (h : OpR X f r) (h' : OpR X f r') : OpR X f (fun x y H Q => r x y H Q ∨ r' x y H Q) := by
  intro pins s σ H x y v u Q I rx ry q
  rcases q with q | q
  · exact h pins s σ H x y v u Q I rx ry q
  · exact h' pins s σ H x y v u Q I rx ry q

theorem nomark (b : Expr) {op : CmpOp} (h : op ≠ .In := by decide) (h2 : op ≠ .NotIn := by decide) : behindInMarks op b = false := by
  have e1 : (op == CmpOp.In) = false := by cases op <;> first | rfl | exact absurd rfl h
  have e2 : (op == CmpOp.NotIn) = false := by cases op <;> first | rfl | exact absurd rfl h2
  cases b <;> simp [behindInMarks, e1, e2]
/-- a comparison as a value; hm: nomark b, or (for in, not in) by with_unfolding_all rfl -/
theorem pe_cmpR {op : CmpOp} {r : R2} (ho : OpR X (compareOp op) r) (ha : PE X a ta) (hb : PE X b tb) (hm : behindInMarks op b = false) : PE X (.Compare a [op] [b] pos) (tOp r ta tb) := by
  intro pins s σ H Q I h
  exact wpAny_Compare1 (binT ha hb I h fun v u s2 x y H2 I2 rx ry q => ho pins s2 σ H2 x y v u Q I2 rx ry q) hm
/-- a reading of a value as a test -/
def tTest (t : TE) : TT := fun σ H Q => t σ H fun x H' => ∃ k, x = .bl k ∧ Q k H'
theorem pt_cmpR {op : CmpOp} {r : R2} (ho : OpR X (compareOp op) r) (ha : PE X a ta) (hb : PE X b tb) (hm : behindInMarks op b = false) : PT X (.Compare a [op] [b] pos) (tTest (tOp r ta tb)) := by
  intro pins s σ H Q I h
  refine wpAny_isTrue_Compare1 (thn (ha pins s σ H _ I h) fun v s1 ⟨x, H1, I1, r1, q1⟩ => thn (hb pins s1 σ H1 _ I1 q1) fun u s2 ⟨y, H2, I2, r2, q2⟩ =>
    thn (ho pins s2 σ H2 x y v u _ I2 r1 r2 q2) fun c s3 ⟨z, H3, I3, r3, k, e, q3⟩ => ?_) hm
  subst e
  cases r3
  exact wpAny_truthy_bool ⟨H3, I3, q3⟩
/-- a op1 b op2 c -/
def tChain (r r' : R2) (ta tb tc : TE) : TE := fun σ H Q => ta σ H fun x H1 => tb σ H1 fun y H2 => r x y H2 fun z H3 => ∃ k, z = .bl k ∧
  (if k = true then tc σ H3 fun w' H4 => r' y w' H4 Q else Q (.bl false) H3)
theorem pe_chain {op op' : CmpOp} {r r' : R2} (ho : OpR X (compareOp op) r) (ho' : OpR X (compareOp op') r') (ha : PE X a ta) (hb : PE X b tb) (hc : PE X c tc)
    (hm : lastMarks [op, op'] [b, c] = false := by with_unfolding_all rfl) : PE X (.Compare a [op, op'] [b, c] pos) (tChain r r' ta tb tc) := by
  intro pins s σ H Q I h
  refine Compare_chain (thn (ha pins s σ H _ I h) fun v s1 ⟨x, H1, I1, r1, q1⟩ => chain_link (thn (hb pins s1 σ H1 _ I1 q1) fun u s2 ⟨y, H2, I2, r2, q2⟩ =>
    thn (ho pins s2 σ H2 x y v u _ I2 r1 r2 q2) fun d s3 ⟨z, H3, I3, r3, k, e, q3⟩ => ?_)) hm
  subst e
  cases r3
  refine wpAny_truthy_bool ?_
  cases k with
  | false => exact ite_ff ⟨.bl false, H3, I3, rfl, q3⟩
  | true => exact ite_tt (chain_last (thn (hc pins s3 σ H3 _ I3 q3) fun w' s4 ⟨z', H4, I4, r4, q4⟩ => ho' pins s4 σ H4 y z' u w' Q I4 r2 r4 q4))
theorem pt_chain {op op' : CmpOp} {r r' : R2} (ho : OpR X (compareOp op) r) (ho' : OpR X (compareOp op') r') (ha : PE X a ta) (hb : PE X b tb) (hc : PE X c tc)
    (hm : lastMarks [op, op'] [b, c] = false := by with_unfolding_all rfl) : PT X (.Compare a [op, op'] [b, c] pos) (tTest (tChain r r' ta tb tc)) := by
  intro pins s σ H Q I h
  refine isTrue_chain (thn (ha pins s σ H _ I h) fun v s1 ⟨x, H1, I1, r1, q1⟩ => test_link (thn (hb pins s1 σ H1 _ I1 q1) fun u s2 ⟨y, H2, I2, r2, q2⟩ =>
    thn (ho pins s2 σ H2 x y v u _ I2 r1 r2 q2) fun d s3 ⟨z, H3, I3, r3, k, e, q3⟩ => ?_)) hm
  subst e
  cases r3
  refine wpAny_truthy_bool ?_
  cases k with
  | false =>
    obtain ⟨k', e', q'⟩ := q3
    cases e'
    exact ite_ff ⟨H3, I3, q'⟩
  | true =>
    refine ite_tt (test_last (thn (hc pins s3 σ H3 _ I3 q3) fun w' s4 ⟨z', H4, I4, r4, q4⟩ => thn (ho' pins s4 σ H4 y z' u w' _ I4 r2 r4 q4) fun d' s5 ⟨z2, H5, I5, r5, k2, e2, q5⟩ => ?_))
    subst e2
    cases r5
    exact wpAny_truthy_bool ⟨H5, I5, q5⟩

/-! ### truth -/
/-- a value's truth by the abstract heap -/
def TruV (K : PySem.W.Frag) (x : V) (H : Hp) (k : Bool) : Prop :=
  match x with
  | .non => k = false
  | .bl b => k = b
  | .int i => k = (i != 0)
  | .str y => y.length ≤ sizeLine ∧ k = ((y.length : Int) != 0)
  | .byt y => y.size ≤ sizeLine ∧ k = ((y.size : Int) != 0)
  | .ref p => (∃ xs, SqL K H p xs ∧ k = !xs.isEmpty) ∨ (∃ xs, SqT K H p xs ∧ k = !xs.isEmpty) ∨ ∃ kvs, H p = some (.dK kvs) ∧ k = !kvs.isEmpty
  | _ => False
theorem isEmpty_kv {κ : Type} {kvs : List (κ × V)} {vs : List (κ × Value)} (r : KV kvs vs) : (!vs.isEmpty) = !kvs.isEmpty := by
  cases r <;> rfl
theorem isEmpty_of {xs : List V} {its : List Value} (r : Vals xs its) : (!its.toArray.isEmpty) = !xs.isEmpty := by
  cases r <;> simp
theorem line63 : (sizeLine : Nat) < 2 ^ 63 := by rw [sizeLine_eq]; decide
theorem tru_ok : TruR X (fun x H Q => ∃ k, TruV X.K x H k ∧ Q k H) := by
  intro pins s σ H x v Q I rx h
  obtain ⟨k, e, q⟩ := h
  have hl := line63
  have hs : sizeLine = 16777216 := sizeLine_eq
  cases x with
  | non =>
    cases rx
    have e' : k = false := e
    subst e'
    exact truthy_none ⟨H, I, q⟩
  | bl b =>
    cases rx
    have e' : k = b := e
    subst e'
    exact wpAny_truthy_bool ⟨H, I, q⟩
  | int i =>
    obtain ⟨t, rfl⟩ := rx
    have e' : k = (i != 0) := e
    subst e'
    exact PySem.P.truthy_int ⟨H, I, q⟩
  | str y =>
    obtain ⟨t, rfl⟩ := rx
    obtain ⟨hy, e'⟩ : y.length ≤ sizeLine ∧ k = ((y.length : Int) != 0) := e
    subst e'
    exact PySem.P.truthy_str (by omega) ⟨H, I.tok _, q⟩
  | byt y =>
    obtain ⟨t, rfl⟩ := rx
    obtain ⟨hy, e'⟩ : y.size ≤ sizeLine ∧ k = ((y.size : Int) != 0) := e
    subst e'
    exact PySem.W.truthy_bytes (by omega) ⟨H, I.tok _, q⟩
  | ref p =>
    cases rx
    have e' : (∃ xs, SqL X.K H p xs ∧ k = !xs.isEmpty) ∨ (∃ xs, SqT X.K H p xs ∧ k = !xs.isEmpty) ∨ ∃ kvs, H p = some (.dK kvs) ∧ k = !kvs.isEmpty := e
    rcases e' with ⟨xs, hx, e'⟩ | ⟨xs, hx, e'⟩ | ⟨kvs, hx, e'⟩
    · subst e'
      obtain ⟨its, r, pl, hz⟩ := I.list hx
      have hlen := r.length
      exact wpAny_truthy_list pl.isList (by simp only [List.size_toArray]; omega) ⟨H, I.tok _, by rw [isEmpty_of r]; exact q⟩
    · subst e'
      obtain ⟨its, r, pl, hz⟩ := I.tuple hx
      have hlen := r.length
      exact truthy_tuple pl (by simp only [List.size_toArray]; omega) ⟨H, I.tok _, by rw [isEmpty_of r]; exact q⟩
    · subst e'
      obtain ⟨hz, hS, vs, r, m⟩ : kvs.length ≤ sizeLine ∧ (p == sysModules) = false ∧ ∃ vs, KV kvs vs ∧ s.heap.DictOf (mixKind X.prog X.w) p vs := I.hok p _ hx
      have hlen : kvs.length = vs.length := Paired.length r
      exact wpAny_truthy_dict hS m (by omega) ⟨H, I.tok _, by rw [isEmpty_kv r]; exact q⟩
  | _ => exact (show False from e).elim
/-- any expression whose test is its value's truth (a name, a call, a subscript, a field ..: he by fun _ => rfl) -/
theorem pt_truth (ha : PE X a ta) (he : ∀ whole, isTrue a X.env whole = (do let v ← whole; standAt a.pos; holding [v] (truthy v))) :
    PT X a (fun σ H Q => ta σ H fun x H' => ∃ k, TruV X.K x H' k ∧ Q k H') := by
  intro pins s σ H Q I h
  exact isTrue_plain (thn (ha pins s σ H _ I h) fun v s1 ⟨x, H1, I1, r1, q1⟩ => tru_ok pins s1 σ H1 x v Q I1 r1 q1) (he _)

/-! ### strs and bytes -/
theorem pe_byt {x : List UInt8} {k : Nat} : PE X (.Constant (.bytes x) k pos) (fun _ H Q => Q (.byt x.toArray) H) := fun _ _ _ H _ I h => PySem.W.Constant_bytes ⟨.byt x.toArray, H, I.tok _, ⟨_, rfl⟩, h⟩
theorem op_add_str : OpR X (binaryOp .Add) (fun x y H Q => ∃ i j, x = .str i ∧ y = .str j ∧ i.length + j.length ≤ sizeLine ∧ Q (.str (i ++ j)) H) := by
  intro pins s σ H x y v u Q I rx ry h
  obtain ⟨i, j, rfl, rfl, hz, q⟩ := h
  obtain ⟨t, rfl⟩ := rx
  obtain ⟨t', rfl⟩ := ry
  exact add_str (fun t' tk => ⟨.str (i ++ j), H, I.tok _, ⟨_, rfl⟩, q⟩) hz
theorem iop_add_str : OpR X (inplaceOp .Add) (fun x y H Q => ∃ i j, x = .str i ∧ y = .str j ∧ i.length + j.length ≤ sizeLine ∧ Q (.str (i ++ j)) H) := by
  intro pins s σ H x y v u Q I rx ry h
  obtain ⟨i, j, rfl, rfl, hz, q⟩ := h
  obtain ⟨t, rfl⟩ := rx
  obtain ⟨t', rfl⟩ := ry
  exact iadd_str (fun t' tk => ⟨.str (i ++ j), H, I.tok _, ⟨_, rfl⟩, q⟩) hz
theorem op_add_byt : OpR X (binaryOp .Add) (fun x y H Q => ∃ i j, x = .byt i ∧ y = .byt j ∧ i.size + j.size ≤ 16777216 ∧ Q (.byt (i ++ j)) H) := by
  intro pins s σ H x y v u Q I rx ry h
  obtain ⟨i, j, rfl, rfl, hz, q⟩ := h
  obtain ⟨t, rfl⟩ := rx
  obtain ⟨t', rfl⟩ := ry
  exact PySem.W.KBy.add_bytes hz (fun t' tk => ⟨.byt (i ++ j), H, I.tok _, ⟨_, rfl⟩, q⟩)

def PlainIxT (b : Expr) : Prop := ∀ o i, subscripted b false o i = operate [o, i] (getItem o i)
/-- s[i], 0 ≤ i < len -/
theorem pe_item_str (ha : PE X a ta) (hb : PE X b tb) (hs : PlainIxT b) :
    PE X (.Subscript a b pos) (tOp (fun x y H Q => ∃ z i c, x = .str z ∧ y = .int i ∧ 0 ≤ i ∧ i < 2 ^ 63 ∧ i < z.length ∧ z.cps[i.toNat]? = some c ∧ Q (.str ⟨#[c]⟩) H) ta tb) := by
  intro pins s σ H Q I h
  refine Subscript_ (binT ha hb I h fun v u s2 x y H2 I2 rx ry q => ?_)
  obtain ⟨z, i, c, rfl, rfl, h0, h63, h1, hc, q⟩ := q
  obtain ⟨t, rfl⟩ := rx
  obtain ⟨t', rfl⟩ := ry
  have e : seqIndex? i z.length = some i.toNat := PySem.StrLaws.seqIndex_nonneg h0 h1
  exact tail_any (typeIs_str s2 z t) slot_str_getitem.lookup (getItem_str (c := c) (by
    have e1 : decide (i < -(2 ^ 63 : Int)) = false := decide_eq_false (by omega)
    have e2 : decide (i ≥ 2 ^ 63) = false := decide_eq_false (by omega)
    rw [e1, e2] <;> rfl) (by rw [e]; exact hc) ⟨.str ⟨#[c]⟩, H2, I2.tok _, ⟨_, rfl⟩, q⟩) (hs _ _)
/-- b[i], 0 ≤ i < len -/
theorem pe_item_byt (ha : PE X a ta) (hb : PE X b tb) (hs : PlainIxT b) :
    PE X (.Subscript a b pos) (tOp (fun x y H Q => ∃ (z : List UInt8) (i : Int), x = .byt z.toArray ∧ y = .int i ∧ z.length ≤ sizeLine ∧ 0 ≤ i ∧ i < z.length ∧ Q (.int ((z.getD i.toNat 0).toNat : Nat)) H) ta tb) := by
  intro pins s σ H Q I h
  refine Subscript_ (binT ha hb I h fun v u s2 x y H2 I2 rx ry q => ?_)
  obtain ⟨z, i, rfl, rfl, hz, h0, h1, q⟩ := q
  obtain ⟨t, rfl⟩ := rx
  obtain ⟨t', rfl⟩ := ry
  have hl : sizeLine = 16777216 := sizeLine_eq
  exact tail_any (PySem.W.typeIs_bytes s2 z.toArray t) PySem.W.FB.slot_bytes_getitem.lookup (PySem.W.getItem_bytes (by omega) h0 h1 ⟨.int ((z.getD i.toNat 0).toNat : Nat), H2, I2.tok _, ⟨_, rfl⟩, q⟩) (hs _ _)

/-! ### scalar builtins, by CallR -/
theorem vals1 {x : V} {us : List Value} (r : Vals [x] us) : ∃ u, us = [u] ∧ RelV x u := by
  cases r with
  | cons r1 r2 => cases r2; exact ⟨_, rfl, r1⟩
theorem vals2 {x y : V} {us : List Value} (r : Vals [x, y] us) : ∃ u w', us = [u, w'] ∧ RelV x u ∧ RelV y w' := by
  cases r with
  | cons r1 r2 =>
    cases r2 with
    | cons r3 r4 => cases r4; exact ⟨_, _, rfl, r1, r3⟩
theorem call_abs : CallR X (.builtin "abs") (fun xs H Q => ∃ i, xs = [.int i] ∧ Q (.int (if i < 0 then -i else i)) H) := by
  intro pins s σ H xs us Q I r h
  obtain ⟨i, rfl, q⟩ := h
  obtain ⟨u, rfl, t, rfl⟩ := vals1 r
  exact call_abs_int fun u tk => ⟨.int (if i < 0 then -i else i), H, I.tok _, ⟨_, rfl⟩, q⟩
theorem call_max2 (hc : X.calm = true) : CallR X (.builtin "max") (fun xs H Q => ∃ i j, xs = [.int i, .int j] ∧ Q (.int (if j > i then j else i)) H) := by
  intro pins s σ H xs us Q I r h
  obtain ⟨i, j, rfl, q⟩ := h
  obtain ⟨u, w', rfl, ⟨t, rfl⟩, ⟨t', rfl⟩⟩ := vals2 r
  refine max_two_ints (I.ok.hd hc) fun h' tk k => ⟨_, H, I.kept k, ?_, q⟩
  by_cases hj : j > i
  · rw [if_pos hj, if_pos hj]; exact ⟨_, rfl⟩
  · rw [if_neg hj, if_neg hj]; exact ⟨_, rfl⟩
theorem call_min2 (hc : X.calm = true) : CallR X (.builtin "min") (fun xs H Q => ∃ i j, xs = [.int i, .int j] ∧ Q (.int (if j < i then j else i)) H) := by
  intro pins s σ H xs us Q I r h
  obtain ⟨i, j, rfl, q⟩ := h
  obtain ⟨u, w', rfl, ⟨t, rfl⟩, ⟨t', rfl⟩⟩ := vals2 r
  refine min_two_ints (I.ok.hd hc) fun h' tk k => ⟨_, H, I.kept k, ?_, q⟩
  by_cases hj : j < i
  · rw [if_pos hj, if_pos hj]; exact ⟨_, rfl⟩
  · rw [if_neg hj, if_neg hj]; exact ⟨_, rfl⟩
theorem call_int1 : CallR X (.type "int") (fun xs H Q => (∃ i, xs = [.int i] ∧ Q (.int i) H) ∨ ∃ k, xs = [.bl k] ∧ Q (.int (if k then 1 else 0)) H) := by
  intro pins s σ H xs us Q I r h
  rcases h with ⟨i, rfl, q⟩ | ⟨k, rfl, q⟩
  · obtain ⟨u, rfl, t, rfl⟩ := vals1 r
    exact call_int_int ⟨.int i, H, I, ⟨_, rfl⟩, q⟩
  · obtain ⟨u, rfl, r1⟩ := vals1 r
    cases r1
    exact call_int_bool ⟨.int (if k then 1 else 0), H, I.tok _, ⟨_, rfl⟩, q⟩
theorem call_bool1 : CallR X (.type "bool") (fun xs H Q => (∃ i, xs = [.int i] ∧ Q (.bl (i != 0)) H) ∨ ∃ k, xs = [.bl k] ∧ Q (.bl k) H) := by
  intro pins s σ H xs us Q I r h
  rcases h with ⟨i, rfl, q⟩ | ⟨k, rfl, q⟩
  · obtain ⟨u, rfl, t, rfl⟩ := vals1 r
    exact call_bool_int ⟨.bl (i != 0), H, I, rfl, q⟩
  · obtain ⟨u, rfl, r1⟩ := vals1 r
    cases r1
    exact call_bool_bool ⟨.bl k, H, I, rfl, q⟩
theorem call_str_int : CallR X (.type "str") (fun xs H Q => ∃ i, xs = [.int i] ∧ i.natAbs.log2 < 1920 ∧ Q (.str (toString i)) H) := by
  intro pins s σ H xs us Q I r h
  obtain ⟨i, rfl, hz, q⟩ := h
  obtain ⟨u, rfl, t, rfl⟩ := vals1 r
  exact PySem.P.str_of_int hz ⟨.str _, H, I.tok _, ⟨_, rfl⟩, q⟩
theorem call_ord : CallR X (.builtin "ord") (fun xs H Q => ∃ x, xs = [.str x] ∧ x.length = 1 ∧ Q (.int (x.cps.getD 0 0 : Nat)) H) := by
  intro pins s σ H xs us Q I r h
  obtain ⟨x, rfl, hz, q⟩ := h
  obtain ⟨u, rfl, t, rfl⟩ := vals1 r
  exact ord_of_one hz ⟨.int _, H, I.tok _, ⟨_, rfl⟩, q⟩
theorem call_chr : CallR X (.builtin "chr") (fun xs H Q => ∃ i, xs = [.int i] ∧ 0 ≤ i ∧ i ≤ 1114111 ∧ Q (.str ⟨#[i.toNat]⟩) H) := by
  intro pins s σ H xs us Q I r h
  obtain ⟨i, rfl, h0, h1, q⟩ := h
  obtain ⟨u, rfl, t, rfl⟩ := vals1 r
  exact chr_of_range h0 h1 ⟨.str _, H, I.tok _, ⟨_, rfl⟩, q⟩
/-- len of a str, a bytes, a list, a tuple -/
def LenV (K : PySem.W.Frag) (x : V) (H : Hp) (n : Nat) : Prop :=
  match x with
  | .str y => y.length ≤ sizeLine ∧ n = y.length
  | .byt y => y.size ≤ sizeLine ∧ n = y.size
  | .ref p => (∃ xs, SqL K H p xs ∧ n = xs.length) ∨ ∃ xs, SqT K H p xs ∧ n = xs.length
  | _ => False
theorem call_len : CallR X (.builtin "len") (fun xs H Q => ∃ x n, xs = [x] ∧ LenV X.K x H n ∧ Q (.int n) H) := by
  intro pins s σ H xs us Q I r h
  obtain ⟨x, n, rfl, e, q⟩ := h
  obtain ⟨u, rfl, rx⟩ := vals1 r
  have hl := line63
  have hs : sizeLine = 16777216 := sizeLine_eq
  cases x with
  | str y =>
    obtain ⟨t, rfl⟩ := rx
    obtain ⟨hy, e'⟩ : y.length ≤ sizeLine ∧ n = y.length := e
    subst e'
    exact len_str (by omega) ⟨.int _, H, I.tok _, ⟨_, rfl⟩, q⟩
  | byt y =>
    obtain ⟨t, rfl⟩ := rx
    obtain ⟨hy, e'⟩ : y.size ≤ sizeLine ∧ n = y.size := e
    subst e'
    exact PySem.W.len_bytes (by omega) ⟨.int _, H, I.tok _, ⟨_, rfl⟩, q⟩
  | ref p =>
    cases rx
    have e' : (∃ xs, SqL X.K H p xs ∧ n = xs.length) ∨ ∃ xs, SqT X.K H p xs ∧ n = xs.length := e
    rcases e' with ⟨xs, hx, e'⟩ | ⟨xs, hx, e'⟩
    · subst e'
      obtain ⟨its, r', pl, hz⟩ := I.list hx
      have hlen := r'.length
      exact Calls.call_len_list pl.isList (by simp only [List.size_toArray]; omega) ⟨.int xs.length, H, I.tok _, ⟨_, by simp only [List.size_toArray]; rw [hlen]⟩, q⟩
    · subst e'
      obtain ⟨its, r', pl, hz⟩ := I.tuple hx
      have hlen := r'.length
      exact len_tuple pl (by simp only [List.size_toArray]; omega) ⟨.int xs.length, H, I.tok _, ⟨_, by simp only [List.size_toArray]; rw [hlen]⟩, q⟩
  | _ => exact (show False from e).elim
/-- divmod: a new tuple -/
theorem call_divmod : CallR X (.builtin "divmod") (fun xs H Q => ∃ i j, xs = [.int i, .int j] ∧ CDiv i j ∧ ∀ p, H p = none → Q (.ref p) (upd H p (.tup [.int (i / j), .int (i % j)]))) := by
  intro pins s σ H xs us Q I r h
  obtain ⟨i, j, rfl, ⟨h1, h2⟩, q⟩ := h
  obtain ⟨u, w', rfl, ⟨t, rfl⟩, ⟨t', rfl⟩⟩ := vals2 r
  refine divmod_int (by omega) ?_ (.inl (PyProof.noPylong_small (by omega)))
  rw [Int.fdiv_eq_ediv_of_nonneg i (by omega), Int.fmod_eq_emod_of_nonneg i (by omega)]
  have hn : H s.heap.objs.size = none := I.hok.fresh (Nat.le_refl _)
  refine ⟨.ref s.heap.objs.size, _, ?_, rfl, q _ hn⟩
  refine I.laid (fun b o e => Heap.get?_push_of_some _ e) (Nat.le_refl _) ⟨by simp only [List.length_cons, List.length_nil]; rw [sizeLine_eq]; decide, [.int (i / j) s.toks, .int (i % j) (s.toks + 1)], .cons ⟨_, rfl⟩ (.cons ⟨_, rfl⟩ .nil), ?_⟩
  exact ⟨_, Heap.get?_push_size s.heap rfl, rfl, 0, rfl⟩
end
end L2

namespace L2
open PySem PySem.Spec PyProof.Rows

/-! ### an instance, its attributes a map -/
structure ObjM (h : Heap) (x dx C : Addr) (mA : Str → Option Value) : Prop where
  obj : h.get? x = some (PySem.W.instObj C dx)
  ns : h.Ns1 dx mA
  ne : dx ≠ x

theorem lookIn_ns {h : Heap} {dx : Addr} {mA : Str → Option Value} (n : h.Ns1 dx mA) : ∃ od, h.get? dx = some od ∧ ∀ name, PySem.W.lookIn name od = some (mA name) := by
  obtain ⟨o, es, ep, ho, hd, hk, _, hm⟩ := n
  refine ⟨o, ho, fun name => ?_⟩
  have e := hm name
  unfold nsFind findBy at e
  rw [← Array.find?_toList] at e
  unfold PySem.W.lookIn
  rw [hd]
  dsimp only
  split
  · rename_i y q
    rw [q] at e
    exact congrArg some e
  · rename_i q
    rw [q] at e
    have a : es.toList.any (·.refKey) = false := by
      rw [List.any_eq_false]
      intro y hy
      obtain ⟨z, t, hkey⟩ := hk y (Array.mem_toList_iff.mp hy)
      simp [DictEntry.refKey, hkey]
    have a' : ¬ es.toList.any (·.refKey) = true := by rw [a]; exact Bool.false_ne_true
    rw [if_neg a']
    exact congrArg some e

theorem ObjM.look {h : Heap} {x dx C : Addr} {mA : Str → Option Value} (I : ObjM h x dx C mA) : ∃ od, PySem.W.InstAt h x (PySem.W.instObj C dx) C (some od) ∧ ∀ name, PySem.W.lookIn name od = some (mA name) :=
  let ⟨od, ho, hl⟩ := lookIn_ns I.ns
  ⟨od, ⟨I.obj, rfl, rfl, ho⟩, hl⟩

section
variable {prog : Program} {w : World} {A : Around} {E : Value → Shared → Prop} {s : Shared} {K : PySem.W.Frag} {x dx C f : Addr} {mA : Str → Option Value} {name : Str} {v : Value}

theorem get_map {expr : Bool} {Q : Value → Shared → Prop} (X : K.In s.heap) (I : ObjM s.heap x dx C mA) (hg : PySem.W.plainGet K C name = true) (hh : PySem.W.hasDictIn K C = true)
    (ha : PySem.W.findIn K (.ref C) name = some none) (hv : mA name = some v) (hv' : PySem.W.handedIn v = true) (h : Q v { s with toks := s.toks + 1 }) :
    wpAny (model prog w) A (getAttr (.ref x) name expr) Q E s := by
  obtain ⟨od, J, hl⟩ := I.look
  exact PySem.W.get_value X J (PySem.W.plainGet_of hg).1 (PySem.W.findObj_own hh ha rfl (by rw [hl, hv])) hv' h

theorem get_const {expr : Bool} {a : Value} {Q : Value → Shared → Prop} (X : K.In s.heap) (I : ObjM s.heap x dx C mA) (hg : PySem.W.plainGet K C name = true) (hh : PySem.W.hasDictIn K C = true)
    (ha : PySem.W.findIn K (.ref C) name = some (some a)) (hn : PySem.W.specialIn K a "__get__" = some none) (hc : PySem.W.copiedNames.contains name = false) (hv : mA name = none) (hv' : PySem.W.handedIn a = true)
    (h : Q a { s with toks := s.toks + 1 }) : wpAny (model prog w) A (getAttr (.ref x) name expr) Q E s := by
  obtain ⟨od, J, hl⟩ := I.look
  exact PySem.W.get_value X J (PySem.W.plainGet_of hg).1 (PySem.W.findObj_cls hh ha hn hv' hc (by rw [hl, hv])) hv' h

theorem get_meth {pl : Sem Bool} {Q : Value × List Value → Shared → Prop} (X : K.In s.heap) (I : ObjM s.heap x dx C mA) (hg : PySem.W.plainGet K C name = true)
    (hf : PySem.W.findIn K (.ref C) name = some (some (.ref f))) (ht : PySem.W.isFn K (.ref f) = true) (hv : mA name = none) (h : Q (.ref f, [.ref x]) s) :
    wpAny (model prog w) A (getMethod (.ref x) name pl) Q E s := by
  obtain ⟨od, J, hl⟩ := I.look
  exact PySem.W.method_fn X J (PySem.W.plainGet_of hg).1 (PySem.W.plainGet_of hg).2 hf (beq_iff_eq.mp ht) (by show (PySem.W.lookIn name od).map (·.isSome) = some false; rw [hl, hv]; rfl) h

theorem set_map {ns : List Str} {Q : Unit → Shared → Prop} (X : K.In s.heap) (I : ObjM s.heap x dx C mA)
    (hs : PySem.W.findIn K (.ref C) "__setattr__" = some (some (.builtin "object.__setattr__"))) (hp : PySem.W.plainOver K C = true) (ht : PySem.W.takerIn K C name = some none) (hh : PySem.W.hasDictIn K C = true)
    (hw : PySem.Within mA ns) (hsz : ns.length ≤ sizeLine)
    (h : ∀ h', ObjM h' x dx C (fun y => if y = name then some v else mA y) → Heap.SameBut dx s.heap h' → Q () { s with heap := h', toks := s.toks + 2 }) :
    wpAny (model prog w) A (setAttr (.ref x) name v) Q E s := by
  obtain ⟨od, J, hl⟩ := I.look
  refine PySem.W.set_plain X J hs (PySem.W.osa_open (s := { s with toks := s.toks + 1 }) (r := none) X J hp ht fun b => ?_)
  obtain ⟨cd, hc, hd'⟩ := PySem.W.any_some hh
  have hx : s.heap.get? x = some ⟨.ref C, some dx, .plain, #[]⟩ := I.obj
  refine wpAny_bind (wpAny_pure (wpAny_bind (wpAny_bind (wpAny_loadPart hx (wpAny_bind (PySem.W.Looks.here (s := { s with toks := s.toks + 1 }) (PySem.W.looks_clsIn X hc) ?_))))))
  rw [hd']
  refine wpAny_pure (a := some dx) (wpAny_bind (wpAny_pure (wpAny_bind ?_)))
  refine wpAny_nsSet1 (s := { s with toks := s.toks + 1 }) I.ns fun h' hn2 hs2 => ?_
  obtain ⟨oD, esD, epD, hoD, hdD, hcD⟩ := hn2.count (PySem.Within.cons name v hw)
  refine wpAny_bind (wpAny_lookBehind hoD (by rw [hdD]; exact pastItsLine_dict (Nat.le_trans hcD (by rw [List.length_cons]; omega))) ?_)
  exact wpAny_pure (h _ ⟨(hs2.2 _ (Ne.symm I.ne)).trans I.obj, hn2, I.ne⟩ hs2)

/-- C(..): the dict at the heap's end, the instance behind it; then its __init__ -/
theorem make_map {R : Result → Shared → Prop} {vs : List Value} {kw : List (Str × Value)} (X : K.In s.heap) (hm : PySem.W.makesIn K C = true)
    (hi : PySem.W.findIn K (.ref C) "__init__" = some (some (.ref f))) (hf : PySem.W.typeIn K (.ref f) = some (.type "function"))
    (h : codeAny (model prog w) (A.under (.builtin "type.__call__" ⟨.ref C :: vs, kw⟩)) (.call (.ref f) ⟨.ref (s.heap.objs.size + 1) :: vs, kw⟩) (PySem.W.InitBack (s.heap.objs.size + 1) R)
      { s with heap := (s.heap.push PySem.W.emptyDict).push (PySem.W.instObj C s.heap.objs.size) }) :
    codeAny (model prog w) A (.call (.ref C) ⟨vs, kw⟩) R s := by
  obtain ⟨hh, g, d, t, os⟩ := s
  exact PySem.W.make_core (PySem.W.makes_of X hm) (PySem.W.looks_findIn X hi) (fun self => PySem.W.bind_fn X self hf) (.inl rfl) h
/-- C() where there is no __init__ but object's -/
theorem make_map0 {R : Result → Shared → Prop} (X : K.In s.heap) (hm : PySem.W.makesIn K C = true)
    (hi : PySem.W.findIn K (.ref C) "__init__" = some (some (.builtin "object.__init__")))
    (hb : ∀ self, PySem.W.Looks (model prog w) s.heap (bindSpecial (.builtin "object.__init__") self) (.builtin "object.__init__", [self]))
    (h : codeAny (model prog w) (A.under (.builtin "type.__call__" ⟨[.ref C], []⟩)) (.call (.builtin "object.__init__") ⟨[.ref (s.heap.objs.size + 1)], []⟩) (PySem.W.InitBack (s.heap.objs.size + 1) R)
      { s with heap := (s.heap.push PySem.W.emptyDict).push (PySem.W.instObj C s.heap.objs.size) }) :
    codeAny (model prog w) A (.call (.ref C) ⟨[], []⟩) R s := by
  obtain ⟨hh, g, d, t, os⟩ := s
  exact PySem.W.make_core (PySem.W.makes_of X hm) (PySem.W.looks_findIn X hi) hb (.inr ⟨rfl, rfl⟩) h
end

/-! ### the attributes as a list of pairs -/
def putF (f : Str) (v : V) : List (Str × V) → List (Str × V)
  | [] => [(f, v)]
  | (g, x) :: r => if g = f then (g, v) :: r else (g, x) :: putF f v r
theorem lookup_putF (f g : Str) (v : V) : ∀ fs : List (Str × V), (putF f v fs).lookup g = if g = f then some v else fs.lookup g
  | [] => by
    show List.lookup g [(f, v)] = _
    by_cases h : g = f
    · have hb : (g == f) = true := beq_iff_eq.mpr h
      simp only [List.lookup, hb, if_pos h]
    · have hb : (g == f) = false := beq_eq_false_iff_ne.mpr h
      simp only [List.lookup, hb, if_neg h]
  | (k, x) :: r => by
    have ih := lookup_putF f g v r
    rw [show putF f v ((k, x) :: r) = (if k = f then (k, v) :: r else (k, x) :: putF f v r) from rfl]
    by_cases hk : k = f
    · rw [if_pos hk]
      by_cases h : g = k
      · have hb : (g == k) = true := beq_iff_eq.mpr h
        simp only [List.lookup, hb, if_pos (h.trans hk)]
      · have hb : (g == k) = false := beq_eq_false_iff_ne.mpr h
        simp only [List.lookup, hb, if_neg (fun e : g = f => h (e.trans hk.symm))]
    · rw [if_neg hk]
      by_cases h : g = k
      · have hb : (g == k) = true := beq_iff_eq.mpr h
        simp only [List.lookup, hb, if_neg (fun e : g = f => hk (h.symm.trans e))]
      · have hb : (g == k) = false := beq_eq_false_iff_ne.mpr h
        simp only [List.lookup, hb]
        exact ih
theorem keys_putF (f : Str) (v : V) : ∀ fs : List (Str × V), f ∈ (putF f v fs).map (·.1) ∧ ∀ g, g ∈ fs.map (·.1) → g ∈ (putF f v fs).map (·.1)
  | [] => ⟨by simp [putF], fun g h => by simp at h⟩
  | (k, x) :: r => by
    obtain ⟨i1, i2⟩ := keys_putF f v r
    rw [show putF f v ((k, x) :: r) = (if k = f then (k, v) :: r else (k, x) :: putF f v r) from rfl]
    by_cases hk : k = f
    · rw [if_pos hk]
      subst hk
      exact ⟨by simp, fun g h => by simpa using h⟩
    · rw [if_neg hk]
      refine ⟨?_, fun g h => ?_⟩
      · rw [List.map_cons]
        exact List.mem_cons_of_mem _ i1
      · rw [List.map_cons] at h ⊢
        rcases List.mem_cons.mp h with e | e
        · exact List.mem_cons.mpr (.inl e)
        · exact List.mem_cons_of_mem _ (i2 g e)
theorem length_putF (f : Str) (v : V) : ∀ fs : List (Str × V), (putF f v fs).length ≤ fs.length + 1
  | [] => by simp [putF]
  | (k, x) :: r => by
    have ih := length_putF f v r
    rw [show putF f v ((k, x) :: r) = (if k = f then (k, v) :: r else (k, x) :: putF f v r) from rfl]
    by_cases hk : k = f
    · rw [if_pos hk, List.length_cons, List.length_cons]; omega
    · rw [if_neg hk, List.length_cons, List.length_cons]; omega

theorem RelO.some_of {v : V} {o : Option Value} (r : RelO (some v) o) : ∃ u, o = some u ∧ RelV v u := by
  cases o with
  | none => exact (show False from r).elim
  | some u => exact ⟨u, rfl, r⟩
theorem RelO.none_of {o : Option Value} (r : RelO none o) : o = none := by
  cases o with
  | none => rfl
  | some u => exact (show False from r).elim
theorem handed_of {v : V} {u : Value} (r : RelV v u) : PySem.W.handedIn u = true := by
  cases v with
  | non => cases (show u = Value.none from r); rfl
  | bl b => cases (show u = Value.bool b from r); rfl
  | int i => obtain ⟨t, e⟩ := (show ∃ t, u = Value.int i t from r); cases e; rfl
  | str x => obtain ⟨t, e⟩ := (show ∃ t, u = Value.str x t from r); cases e; rfl
  | byt b => obtain ⟨t, e⟩ := (show ∃ t, u = Value.bytes b t from r); cases e; rfl
  | flt b => obtain ⟨t, e⟩ := (show ∃ t, u = Value.float b t from r); cases e; rfl
  | ref a => cases (show u = Value.ref a from r); rfl
  | ty n => cases (show u = Value.type n from r); rfl

section
variable {P : Program} {w : World} {H H' : Hp} {h h' : Heap} {a C dx : Addr} {fs fs' : List (Str × V)}
theorem ins_get (hok : HOk P w H h) (e : H a = some (.ins C dx fs)) : ∃ mA, ObjM h a dx C mA ∧ (∀ f, RelO (fs.lookup f) (mA f)) ∧ PySem.Within mA (fs.map (·.1)) ∧ fs.length ≤ 1000 ∧ H dx = some (.own a) := by
  obtain ⟨d, z, ne, ob, mA, n, r, q⟩ := (show ObjOk P w H h a (.ins C dx fs) from hok a _ e)
  exact ⟨mA, ⟨ob, n, ne⟩, r, q, z, d⟩
end

/-! ### what of the text a class must have -/
structure Cls (K : PySem.W.Frag) (C : Addr) : Prop where
  pg : PySem.W.plainGet K C Str.empty = true
  hd : PySem.W.hasDictIn K C = true
  po : PySem.W.plainOver K C = true
  sa : PySem.W.findIn K (.ref C) "__setattr__" = some (some (.builtin "object.__setattr__"))
theorem Cls.get {K : PySem.W.Frag} {C : Addr} (c : Cls K C) (f : Str) : PySem.W.plainGet K C f = true := c.pg
/-- no class of it has the name -/
def NoAttr (K : PySem.W.Frag) (C : Addr) (f : Str) : Prop := PySem.W.findIn K (.ref C) f = some none
theorem NoAttr.taker {K : PySem.W.Frag} {C : Addr} {f : Str} (n : NoAttr K C f) : PySem.W.takerIn K C f = some none := by
  unfold PySem.W.takerIn
  rw [show PySem.W.findIn K (.ref C) f = some none from n]
  rfl
/-- a constant of the class -/
structure Con (K : PySem.W.Frag) (C : Addr) (f : Str) (v : V) (u : Value) : Prop where
  at_ : PySem.W.findIn K (.ref C) f = some (some u)
  rel : RelV v u
  get : PySem.W.specialIn K u "__get__" = some none
  cp : PySem.W.copiedNames.contains f = false
/-- a method: a plain def of the class or of one above it -/
structure Meth (K : PySem.W.Frag) (C : Addr) (m : Str) (f : Addr) : Prop where
  at_ : PySem.W.findIn K (.ref C) m = some (some (.ref f))
  fn : PySem.W.isFn K (.ref f) = true
  kp : PySem.W.keepIn K (.ref f) = true

section
variable {X : Cx} {pins : List (Addr × Obj)} {σ : St} {H : Hp} {s : Shared} {a C dx : Addr} {fs : List (Str × V)} {f : Str} {v : V} {A : Around} {E : Value → Shared → Prop}

theorem getattr_ok {b : Bool} {Q : Value → Shared → Prop} (I : Inv X pins σ H s) (e : H a = some (.ins C dx fs)) (c : Cls X.K C) (n : NoAttr X.K C f) (l : fs.lookup f = some v)
    (h : ∀ u s', Inv X pins σ H s' → RelV v u → Q u s') : wpAny (model X.prog X.w) A (getAttr (.ref a) f b) Q E s := by
  obtain ⟨mA, O, r, _, _, _⟩ := ins_get I.hok e
  obtain ⟨u, hu, ru⟩ := RelO.some_of (v := v) (o := mA f) (by rw [← l]; exact r f)
  exact get_map I.kIn O (c.get f) c.hd n hu (handed_of ru) (h u _ (I.tok _) ru)

theorem getcon_ok {b : Bool} {u : Value} {Q : Value → Shared → Prop} (I : Inv X pins σ H s) (e : H a = some (.ins C dx fs)) (c : Cls X.K C) (k : Con X.K C f v u) (l : fs.lookup f = none)
    (h : ∀ s', Inv X pins σ H s' → Q u s') : wpAny (model X.prog X.w) A (getAttr (.ref a) f b) Q E s := by
  obtain ⟨mA, O, r, _, _, _⟩ := ins_get I.hok e
  have hn : mA f = none := RelO.none_of (by rw [← l]; exact r f)
  exact get_const I.kIn O (c.get f) c.hd k.at_ k.get k.cp hn (handed_of k.rel) (h _ (I.tok _))

theorem getmeth_ok {m : Str} {g : Addr} {pl : Sem Bool} {Q : Value × List Value → Shared → Prop} (I : Inv X pins σ H s) (e : H a = some (.ins C dx fs)) (c : Cls X.K C) (k : Meth X.K C m g) (l : fs.lookup m = none)
    (h : Q (.ref g, [.ref a]) s) : wpAny (model X.prog X.w) A (getMethod (.ref a) m pl) Q E s := by
  obtain ⟨mA, O, r, _, _, _⟩ := ins_get I.hok e
  have hn : mA m = none := RelO.none_of (by rw [← l]; exact r m)
  exact get_meth I.kIn O (c.get m) k.at_ k.fn hn h

theorem setattr_ok {y : V} {u : Value} {Q : Unit → Shared → Prop} (I : Inv X pins σ H s) (e : H a = some (.ins C dx fs)) (c : Cls X.K C) (n : NoAttr X.K C f) (hl : fs.length < 1000) (ry : RelV y u)
    (h : ∀ s', Inv X pins σ (upd H a (.ins C dx (putF f y fs))) s' → Q () s') : wpAny (model X.prog X.w) A (setAttr (.ref a) f u) Q E s := by
  obtain ⟨mA, O, r, wi, _, ho⟩ := ins_get I.hok e
  have hz : (fs.map (·.1)).length ≤ sizeLine := by rw [List.length_map, sizeLine_eq]; omega
  refine set_map I.kIn O c.sa c.po n.taker c.hd wi hz fun h' O' sb => h _ ?_
  have hd : ∃ o, h'.get? dx = some o := let ⟨o, _, _, e', _⟩ := O'.ns; ⟨o, e'⟩
  refine I.write (x := a) (e := dx) (by rw [e]; exact True.intro) (.inr ho) (fun b q hb z => (sb.2 b hb).trans z) hd ?_
  refine ⟨by rw [upd_ne O.ne]; exact ho, ?_, O.ne, O'.obj, _, O'.ns, fun g => ?_, fun g hg => ?_⟩
  · have := length_putF f y fs; omega
  · show RelO ((putF f y fs).lookup g) (if g = f then some u else mA g)
    rw [lookup_putF]
    by_cases q : g = f
    · rw [if_pos q, if_pos q]; exact ry
    · rw [if_neg q, if_neg q]; exact r g
  · by_cases q : g = f
    · rw [q]; exact (keys_putF f y fs).1
    · refine (keys_putF f y fs).2 g (wi g fun z => hg ?_)
      show (if g = f then some u else mA g) = none
      rw [if_neg q]; exact z

/-- a new instance, tracked, without attributes -/
theorem Inv.made (I : Inv X pins σ H s) : Inv X pins σ (upd (upd H s.heap.objs.size (.own (s.heap.objs.size + 1))) (s.heap.objs.size + 1) (.ins C s.heap.objs.size []))
    { s with heap := (s.heap.push PySem.W.emptyDict).push (PySem.W.instObj C s.heap.objs.size) } := by
  have e1 : (s.heap.push PySem.W.emptyDict).get? s.heap.objs.size = some PySem.W.emptyDict := Heap.get?_push_size s.heap rfl
  have e2 : ((s.heap.push PySem.W.emptyDict).push (PySem.W.instObj C s.heap.objs.size)).get? (s.heap.objs.size + 1) = some (PySem.W.instObj C s.heap.objs.size) := by
    have := Heap.get?_push_size (s.heap.push PySem.W.emptyDict) (o := PySem.W.instObj C s.heap.objs.size) rfl
    rwa [Heap.size_push] at this
  have e3 : (s.heap.push PySem.W.emptyDict).Ns s.heap.objs.size (fun _ => none) := ⟨PySem.W.emptyDict, #[], _, e1, rfl, (fun e he => absurd he (by simp)), fun _ => rfl⟩
  have I1 := I.laid (a := s.heap.objs.size) (o := .own (s.heap.objs.size + 1)) (h' := s.heap.push PySem.W.emptyDict) (t' := s.toks) (fun b u q => Heap.get?_push_of_some _ q) (Nat.le_refl _) ⟨_, e1⟩
  refine I1.laid (a := s.heap.objs.size + 1) (o := .ins C s.heap.objs.size []) (t' := s.toks) (fun b u q => Heap.get?_push_of_some _ q) (Nat.le_of_eq (Heap.size_push _ _)) ?_
  have ne : s.heap.objs.size ≠ s.heap.objs.size + 1 := Nat.ne_of_lt (Nat.lt_succ_self _)
  refine ⟨by rw [upd_ne ne, upd_same], Nat.zero_le _, ne, e2, fun _ => none, (Heap.Ns1.of_empty e3).at fun o q => Heap.get?_push_of_some _ q, fun _ => True.intro, fun y hy => absurd rfl hy⟩

/-- e.f where nothing but the object is asked: through attributeBase (super) and the last hold -/
theorem attr_of {prog : Program} {w : World} {env : Env} {e : Expr} {f : Str} {pos : Pos} {s : Shared} {Q : Value → Shared → Prop} (hb : attributeBase e f env (eval e env) = eval e env)
    (h : wpAny (model prog w) A (eval e env) (fun o s₁ => wpAny (model prog w) A (getAttr o f true) Q E s₁) E s) : wpAny (model prog w) A (eval (.Attribute e f pos) env) Q E s :=
  Attribute_any_ h (by rw [arm_eval_Attribute, hb])
end

/-! ### readings and rules -/
/-- e.f, an attribute of the instance -/
def tFld (K : PySem.W.Frag) (ta : TE) (f : Str) : TE := fun σ H Q => ta σ H fun x H1 => ∃ a C dx fs v, x = .ref a ∧ H1 a = some (.ins C dx fs) ∧ Cls K C ∧ NoAttr K C f ∧ fs.lookup f = some v ∧ Q v H1
/-- e.f, a constant of the class -/
def tCon (K : PySem.W.Frag) (ta : TE) (f : Str) : TE := fun σ H Q => ta σ H fun x H1 => ∃ a C dx fs v u, x = .ref a ∧ H1 a = some (.ins C dx fs) ∧ Cls K C ∧ Con K C f v u ∧ fs.lookup f = none ∧ Q v H1
/-- e.f = value -/
def sFld (K : PySem.W.Frag) (ta tv : TE) (f : Str) : TS := fun D σ H => tv σ H fun y H1 => ta σ H1 fun x H2 => ∃ a C dx fs, x = .ref a ∧ H2 a = some (.ins C dx fs) ∧ Cls K C ∧ NoAttr K C f ∧ fs.length < 1000 ∧
  D.nx σ (upd H2 a (.ins C dx (putF f y fs)))
/-- an augmented operator on two values -/
def InOp (X : Cx) (op : Operator) (rd : V → V → Hp → VK → Prop) : Prop :=
  ∀ (pins : List (Addr × Obj)) (s : Shared) (σ : St) (H : Hp) (x y : V) (u v : Value) (Q : VK), Inv X pins σ H s → RelV x u → RelV y v → rd x y H Q → wpAny (model X.prog X.w) X.A (inplaceOp op u v) (EP X pins σ Q) X.xe s
/-- e.f op= value -/
def sFldAug (K : PySem.W.Frag) (ta tv : TE) (rd : V → V → Hp → VK → Prop) (f : Str) : TS := fun D σ H => ta σ H fun x H1 => ∃ a C dx fs v, x = .ref a ∧ H1 a = some (.ins C dx fs) ∧ Cls K C ∧ NoAttr K C f ∧ fs.lookup f = some v ∧
  tv σ H1 fun y H2 => rd v y H2 fun z H3 => ∃ dx' fs', H3 a = some (.ins C dx' fs') ∧ fs'.length < 1000 ∧ D.nx σ (upd H3 a (.ins C dx' (putF f z fs')))

section
variable {X : Cx} {o e value : Expr} {f : Str} {pos pos' tpos : Pos} {ta tv : TE}
theorem pe_fld (he : PE X e ta) (hb : attributeBase e f X.env (eval e X.env) = eval e X.env) : PE X (.Attribute e f pos) (tFld X.K ta f) := by
  intro pins s σ H Q I h
  refine attr_of hb (thn (he pins s σ H _ I h) fun u s1 ⟨x, H1, I1, rx, a, C, dx, fs, v, ex, ea, c, n, l, q⟩ => ?_)
  subst ex
  obtain rfl : u = Value.ref a := rx
  exact getattr_ok I1 ea c n l fun u' s2 I2 ru => ⟨v, H1, I2, ru, q⟩
theorem pe_con (he : PE X e ta) (hb : attributeBase e f X.env (eval e X.env) = eval e X.env) : PE X (.Attribute e f pos) (tCon X.K ta f) := by
  intro pins s σ H Q I h
  refine attr_of hb (thn (he pins s σ H _ I h) fun u s1 ⟨x, H1, I1, rx, a, C, dx, fs, v, u0, ex, ea, c, k, l, q⟩ => ?_)
  subst ex
  obtain rfl : u = Value.ref a := rx
  exact getcon_ok I1 ea c k l fun s2 I2 => ⟨v, H1, I2, k.rel, q⟩
theorem ps_fld (ha : PE X o ta) (hv : PE X value tv) (hs : swapsWith value (some (.Attribute o f pos')) pos.line X.env = pure false) : PS X (.Assign [.Attribute o f pos'] value pos) (sFld X.K ta tv f) := by
  intro pins s σ H D I h
  refine plainObj_wpAny_Assign_Attribute (thn (hv pins s σ H _ I h) fun u s1 ⟨y, H1, I1, ry, q⟩ => thn (ha pins s1 σ H1 _ I1 q) fun ov s2 ⟨x, H2, I2, rx, a, C, dx, fs, ex, ea, c, n, l, q2⟩ => ?_) hs
  subst ex
  obtain rfl : ov = Value.ref a := rx
  exact setattr_ok I2 ea c n l ry fun s3 I3 => ⟨σ, _, I3, q2⟩
theorem ps_fldaug {op : Operator} {rd : V → V → Hp → VK → Prop} (ha : PE X o ta) (hv : PE X value tv) (hop : InOp X op rd) : PS X (.AugAssign (.Attribute o f tpos) op value pos) (sFldAug X.K ta tv rd f) := by
  intro pins s σ H D I h
  refine wpAny_AugAssign_AttributeAny (thn (ha pins s σ H _ I h) fun ov s1 ⟨x, H1, I1, rx, a, C, dx, fs, v, ex, ea, c, n, l, q⟩ => ?_)
  subst ex
  obtain rfl : ov = Value.ref a := rx
  refine getattr_ok I1 ea c n l fun u s2 I2 ru => thn (hv pins s2 σ H1 _ I2 q) fun w3 s3 ⟨y, H2, I3, ry, q3⟩ => thn (hop pins s3 σ H2 v y u w3 _ I3 ru ry q3) fun w4 s4 ⟨z, H3, I4, rz, dx', fs', ea', l', q4⟩ => ?_
  exact setattr_ok I4 ea' c n l' rz fun s5 I5 => ⟨σ, _, I5, q4⟩
def rAdd : V → V → Hp → VK → Prop := fun x y H Q => ∃ i j, x = .int i ∧ y = .int j ∧ Q (.int (i + j)) H
def rSub : V → V → Hp → VK → Prop := fun x y H Q => ∃ i j, x = .int i ∧ y = .int j ∧ Q (.int (i - j)) H
theorem in_add : InOp X .Add rAdd := by
  rintro pins s σ H x y u v Q I rx ry ⟨i, j, rfl, rfl, q⟩
  obtain ⟨t, rfl⟩ := (show ∃ t, u = Value.int i t from rx)
  obtain ⟨t', rfl⟩ := (show ∃ t', v = Value.int j t' from ry)
  exact PyProof.Rows.iadd_int ⟨.int (i + j), H, I.tok _, ⟨_, rfl⟩, q⟩
theorem in_sub : InOp X .Sub rSub := by
  rintro pins s σ H x y u v Q I rx ry ⟨i, j, rfl, rfl, q⟩
  obtain ⟨t, rfl⟩ := (show ∃ t, u = Value.int i t from rx)
  obtain ⟨t', rfl⟩ := (show ∃ t', v = Value.int j t' from ry)
  exact PyProof.Rows.isub_int ⟨.int (i - j), H, I.tok _, ⟨_, rfl⟩, q⟩

/-- what is between an instance and its method: the tree of a method call -/
theorem methcall_of {pl : Sem Bool} {m : Str} {apos : Pos} {args : List Expr} {pins : List (Addr × Obj)} {s : Shared} {σ : St} {H : Hp} {Q : Value → Shared → Prop} {te : TE} (he : PE X e te) (I : Inv X pins σ H s)
    (h : te σ H fun x H1 => ∃ a C dx fs g, x = .ref a ∧ H1 a = some (.ins C dx fs) ∧ Cls X.K C ∧ Meth X.K C m g ∧ fs.lookup m = none ∧
      ∀ s1, Inv X pins σ H1 s1 → wpAny (model X.prog X.w) X.A (callWith pos (.ref g) [.ref a] (backTo pos (starEach args X.env)) (backToKw pos (keywordEach [] X.env))) Q X.xe s1)
    (ht : eval (.Call (.Attribute e m apos) args [] pos) X.env = (do
      let ov ← eval e X.env
      standAt apos.atName
      let (f, first) ← holding [ov] (getMethod ov m pl)
      callWith pos f first (backTo pos (starEach args X.env)) (backToKw pos (keywordEach [] X.env)))) :
    wpAny (model X.prog X.w) X.A (eval (.Call (.Attribute e m apos) args [] pos) X.env) Q X.xe s := by
  refine PySem.W.methodCall_KW (pl := pl) (thn (he pins s σ H _ I h) fun u s1 ⟨x, H1, I1, rx, a, C, dx, fs, g, ex, ea, c, k, l, q⟩ => ?_) ht
  subst ex
  obtain rfl : u = Value.ref a := rx
  exact getmeth_ok I1 ea c k l (q s1 I1)
end

/-! ### isinstance -/
section
variable {X : Cx} {pins : List (Addr × Obj)} {σ : St} {H : Hp} {s : Shared} {A : Around} {E : Value → Shared → Prop} {Q : Value → Shared → Prop} {c : Value} {b : Bool}
/-- the type of a value, as the fragment's deciders take it; for an instance its class -/
inductive TyOf (K : PySem.W.Frag) (H : Hp) : V → Value → Prop where
  | non : TyOf K H .non (.type "NoneType")
  | bl (x : Bool) : TyOf K H (.bl x) (.type "bool")
  | int (i : Int) : TyOf K H (.int i) (.type "int")
  | str (x : Str) : TyOf K H (.str x) (.type "str")
  | flt (x : UInt64) : TyOf K H (.flt x) (.type "float")
  | lst {a : Addr} {xs : List V} (e : H a = some (.lst xs)) : TyOf K H (.ref a) (.type "list")
  | frz {a : Addr} {o : Obj} {xs : List V} (e : H a = some (.frz o (.lst xs))) : TyOf K H (.ref a) (.type "list")
  | tup {a : Addr} {xs : List V} (e : H a = some (.tup xs)) : TyOf K H (.ref a) (.type "tuple")
  | dK {a : Addr} {kvs : List (Key × V)} (e : H a = some (.dK kvs)) : TyOf K H (.ref a) (.type "dict")
  | dT {a : Addr} {kvs : List (List Key × V)} (e : H a = some (.dT kvs)) : TyOf K H (.ref a) (.type "dict")
  | ins {a C dx : Addr} {fs : List (Str × V)} (e : H a = some (.ins C dx fs)) (cl : Cls K C) (ha : PySem.W.findIn K (.ref C) "__class__" = some (some (.builtin "object.__class__")))
      (hn : PySem.W.specialIn K (.builtin "object.__class__") "__get__" = some (some (.builtin "getset_descriptor.__get__"))) (htk : PySem.W.takesIn K (.builtin "object.__class__") = some true)
      (hm : PySem.W.mroIn K C (.type "object") = some true) : TyOf K H (.ref a) (.ref C)
/-- isinstance(x, c) for one class c, a built-in or an own one: kitOne's answer -/
theorem isinst_ok {x : V} {u t : Value} (I : Inv X pins σ H s) (rx : RelV x u) (ty : TyOf X.K H x t) (e : PySem.W.kitOne X.K t c = some b) (h : ∀ tk, Q (.bool b) { s with toks := tk }) :
    wpAny (model X.prog X.w) A (call (.builtin "isinstance") [u, c]) Q E s := by
  cases ty with
  | non => cases (show u = Value.none from rx); exact PySem.W.kia_one PySem.W.kitx_none I.kIn True.intro e (fun z => nomatch z) h
  | bl y => cases (show u = Value.bool y from rx); exact PySem.W.kia_one PySem.W.kitx_bool I.kIn True.intro e (fun z => nomatch z) h
  | int i => obtain ⟨t, q⟩ := (show ∃ t, u = Value.int i t from rx); cases q; exact PySem.W.kia_one PySem.W.kitx_int I.kIn True.intro e (fun z => nomatch z) h
  | str y => obtain ⟨t, q⟩ := (show ∃ t, u = Value.str y t from rx); cases q; exact PySem.W.kia_one PySem.W.kitx_str I.kIn True.intro e (fun z => nomatch z) h
  | flt y => obtain ⟨t, q⟩ := (show ∃ t, u = Value.float y t from rx); cases q; exact PySem.W.kia_one PySem.W.kitx_float I.kIn True.intro e (fun z => nomatch z) h
  | @lst a xs ea =>
    cases (show u = Value.ref a from rx)
    obtain ⟨_, _, n, _, h1⟩ := (show ObjOk X.prog X.w H s.heap a (.lst xs) from I.hok a _ ea)
    exact PySem.W.kia_one PySem.W.kitx_list I.kIn ⟨_, h1, rfl⟩ e (fun z => nomatch z) h
  | @frz a ob xs ea =>
    cases (show u = Value.ref a from rx)
    obtain ⟨_, _, _, n, _, h1⟩ := (show ObjOk X.prog X.w H s.heap a (.frz ob (.lst xs)) from I.hok a _ ea)
    exact PySem.W.kia_one PySem.W.kitx_list I.kIn ⟨_, h1, rfl⟩ e (fun z => nomatch z) h
  | @tup a xs ea =>
    cases (show u = Value.ref a from rx)
    obtain ⟨_, _, _, p⟩ := (show ObjOk X.prog X.w H s.heap a (.tup xs) from I.hok a _ ea)
    obtain ⟨o, h1, h2, _⟩ := p
    exact PySem.W.kia_one PySem.W.kitx_tuple I.kIn ⟨o, h1, h2⟩ e (fun z => nomatch z) h
  | @dK a kvs ea =>
    cases (show u = Value.ref a from rx)
    obtain ⟨_, _, vs, _, p⟩ := (show ObjOk X.prog X.w H s.heap a (.dK kvs) from I.hok a _ ea)
    obtain ⟨o, es, ep, h1, h2, _⟩ := p
    exact PySem.W.kia_one PySem.W.kitx_dict I.kIn ⟨o, h1, h2.1⟩ e (fun z => nomatch z) h
  | @dT a kvs ea =>
    cases (show u = Value.ref a from rx)
    obtain ⟨_, _, xs, _, o, es, ep, h1, h2, _⟩ := (show ObjOk X.prog X.w H s.heap a (.dT kvs) from I.hok a _ ea)
    exact PySem.W.kia_one PySem.W.kitx_dict I.kIn ⟨o, h1, h2.1⟩ e (fun z => nomatch z) h
  | @ins a C dx fs ea cl ha hn htk hm =>
    cases (show u = Value.ref a from rx)
    obtain ⟨mA, O, _⟩ := ins_get I.hok ea
    obtain ⟨od, J, _⟩ := O.look
    exact PySem.W.kia_one (PySem.W.kitx_own (cl.get _) cl.hd ha hn htk hm) I.kIn J e (fun z => nomatch z) h
end
end L2

namespace L2
open PySem PySem.Spec PyProof.Rows

/-! ### room -/
structure Room (k : Nat) (A : Around) : Prop where
  hd : A.handled = none
  dp : A.depth + 3 * k + 5 < recursionLimit
  un : A.units + 16 * k + 200 < cLine
theorem Room.mono {j k : Nat} {A : Around} (r : Room k A) (h : j ≤ k) : Room j A := ⟨r.hd, by have := r.dp; omega, by have := r.un; omega⟩
theorem Room.deeper {k : Nat} {A : Around} (r : Room (k + 1) A) (env : Env) : Room k (A.deeper env) :=
  ⟨r.hd, by have := r.dp; show A.depth + 1 + 3 * k + 5 < _; omega, by have := r.un; show A.units + 3 + 16 * k + 200 < _; omega⟩
theorem Room.in1 {k : Nat} {A : Around} (r : Room (k + 1) A) : Room k A.in1 :=
  ⟨r.hd, by have := r.dp; show A.depth + 3 * k + 5 < _; omega, by have := r.un; show A.units + 1 + 16 * k + 200 < _; omega⟩
theorem make_depth {A : Around} {C : Addr} {us : List Value} {kw : List (Str × Value)} : (A.under (.builtin "type.__call__" ⟨.ref C :: us, kw⟩)).depth = A.depth + 1 := by
  first | rfl | simp [Around.under, Code.weight, Code.isCreation, Code.isGuard, Code.isCaller, Code.frames, Code.isFrame, guardIds]
theorem make_units {A : Around} {C : Addr} {us : List Value} {kw : List (Str × Value)} : (A.under (.builtin "type.__call__" ⟨.ref C :: us, kw⟩)).units = A.units + 1 := by
  first | rfl | simp [Around.under, Code.cUnits, Code.frames, Code.isFrame]
theorem Room.make {k : Nat} {A : Around} (r : Room (k + 1) A) (C : Addr) (us : List Value) (kw : List (Str × Value)) : Room k (A.under (.builtin "type.__call__" ⟨.ref C :: us, kw⟩)) :=
  ⟨r.hd, by have := r.dp; rw [make_depth]; omega, by have := r.un; rw [make_units]; omega⟩
theorem Room.depth {k : Nat} {A : Around} (r : Room k A) : A.depth < recursionLimit := by have := r.dp; omega
theorem Room.units {k : Nat} {A : Around} (r : Room k A) : A.units + 64 < cLine := by have := r.un; omega
theorem Room.units0 {k : Nat} {A : Around} (r : Room k A) : A.units < cLine := by have := r.un; omega

/-! ### argument lists and displays -/
def tNil : TA := fun _ H Q => Q [] H
def tCons (ta : TE) (tr : TA) : TA := fun σ H Q => ta σ H fun x H1 => tr σ H1 fun xs H2 => Q (x :: xs) H2
section
variable {X : Cx} {e : Expr} {es : List Expr} {te : TE} {t : TA} {pos : Pos}
theorem pa_nil : PA X [] tNil := fun _ _ _ _ H Q I h => Calls.spliced_nil ⟨[], H, I, .nil, h⟩
theorem pa_cons (ha : PE X e te) (hr : PA X es t) (hs : starEach (e :: es) X.env = (false, eval e X.env) :: starEach es X.env := by rfl) : PA X (e :: es) (tCons te t) := by
  intro pos pins s σ H Q I h
  rw [hs]
  show wpAny _ _ (spliced ((false, eval e X.env) :: backTo pos (starEach es X.env))) _ _ s
  refine Calls.spliced_cons (thn (ha pins s σ H _ I h) fun u s1 ⟨x, H1, I1, r1, q1⟩ => ?_)
  exact thn (hr pos pins s1 σ H1 _ I1 q1) fun us s2 ⟨xs, H2, I2, r2, q2⟩ => ⟨x :: xs, H2, I2, .cons r1 r2, q2⟩

/-- a tuple, a list of written items -/
def tTup (t : TA) : TE := fun σ H Q => t σ H fun xs H1 => xs.length ≤ sizeLine ∧ ∀ p, H1 p = none → Q (.ref p) (upd H1 p (.tup xs))
def tLst (t : TA) : TE := fun σ H Q => t σ H fun xs H1 => xs.length ≤ sizeLine ∧ ∀ p, H1 p = none → Q (.ref p) (upd H1 p (.lst xs))
theorem pe_tup {x1} (h : PA X es t) : PE X (.Tuple es x1 pos) (tTup t) := by
  intro pins s σ H Q I hq
  refine wpAny_Tuple_spliced (thn (h pos pins s σ H _ I hq) fun us s1 ⟨xs, H1, I1, r, z, q⟩ => ⟨by rw [← r.length]; exact z, ?_⟩)
  have hf : H1 s1.heap.objs.size = none := I1.hok.fresh (Nat.le_refl _)
  refine ⟨.ref s1.heap.objs.size, upd H1 s1.heap.objs.size (.tup xs), I1.laid (t' := s1.toks) (fun b u e => Heap.get?_push_of_some _ e) (Nat.le_refl _) ?_, rfl, q _ hf⟩
  exact ⟨z, us, r, ⟨_, Heap.get?_push_size _ rfl, rfl, _, rfl⟩⟩
theorem pe_lst (h : PA X es t) : PE X (.List es pos) (tLst t) := by
  intro pins s σ H Q I hq
  refine wpAny_List_spliced (thn (h pos pins s σ H _ I hq) fun us s1 ⟨xs, H1, I1, r, z, q⟩ => ⟨by rw [← r.length]; exact z, ?_⟩)
  have hf : H1 s1.heap.objs.size = none := I1.hok.fresh (Nat.le_refl _)
  refine ⟨.ref s1.heap.objs.size, upd H1 s1.heap.objs.size (.lst xs), I1.laid (t' := s1.toks) (fun b u e => Heap.get?_push_of_some _ e) (Nat.le_refl _) ?_, rfl, q _ hf⟩
  exact ⟨z, us, 0, r, Heap.get?_push_size _ rfl⟩
end

/-! ### what a def promises -/
/-- a def's promise: the bound arguments in the parameters' order, the heap, the wanted end, the wanted exception -/
abbrev Sp := List V → Hp → VK → XK → Prop
/-- how an exception lies behind a call (file 08 gives it): the callers' frames, abstract heap and state ahead of the call, the wish, the exception, the state -/
abbrev CXT := List Env → Hp → Shared → XK → Value → Shared → Prop

/-- the state at a call -/
structure Env0 (P : Program) (w : World) (K : PySem.W.Frag) (mg : Str → Option Value) (base : Heap) (A : Around) (outer : List Env) (s : Shared) (H : Hp) : Prop where
  frames : A.frames = some outer
  mod : Mod K mg base
  bs : ∀ b o, base.get? b = some o → s.heap.get? b = some o ∧ H b = none
  bsz : base.objs.size ≤ s.heap.objs.size
  funs : s.heap.FunFrames base outer
  frf : ∀ b ∈ frs outer, H b = none
  hok : HOk P w H s.heap
  bare : AllBare s.gens
/-- a call's end -/
def CE (outer : List Env) (P : Program) (w : World) (H : Hp) (s : Shared) (Q : VK) (u : Value) (s' : Shared) : Prop :=
  ∃ v H', s'.os = s.os ∧ AllBare s'.gens ∧ Un (frs outer) [] H H' s.heap s'.heap ∧ HOk P w H' s'.heap ∧ RelV v u ∧ Q v H'
def CR (CX : CXT) (outer : List Env) (P : Program) (w : World) (H : Hp) (s : Shared) (Q : VK) (E : XK) (r : Result) (s' : Shared) : Prop :=
  match r with
  | .ok (.ret u) => CE outer P w H s Q u s'
  | .ok _ => False
  | .error e => CX outer H s E e s'
structure FnOk (P : Program) (w : World) (K : PySem.W.Frag) (mg : Str → Option Value) (base : Heap) (CX : CXT) (k : Nat) (f : Addr) (fd : FuncData) (ps : List Str) (sp : Sp) : Prop where
  len : ∀ vs H Q E, sp vs H Q E → vs.length = ps.length
  run : ∀ (A : Around) (outer : List Env) (s : Shared) (H : Hp) (args : Args) (us : List Value) (vs : List V) (Q : VK) (E : XK), Room k A → Env0 P w K mg base A outer s H → BindsTo s fd args (ps.zip us) → Vals vs us → sp vs H Q E →
    codeAny (model P w) A (.call (.ref f) args) (CR CX outer P w H s Q E) s
theorem FnOk.mono {P : Program} {w : World} {K : PySem.W.Frag} {mg : Str → Option Value} {base : Heap} {CX : CXT} {j k : Nat} {f : Addr} {fd : FuncData} {ps : List Str} {sp : Sp} (F : FnOk P w K mg base CX j f fd ps sp) (h : j ≤ k) :
    FnOk P w K mg base CX k f fd ps sp := ⟨F.len, fun A outer s H args us vs Q E hr => F.run A outer s H args us vs Q E (hr.mono h)⟩
/-- a weaker promise -/
theorem FnOk.imp {P : Program} {w : World} {K : PySem.W.Frag} {mg : Str → Option Value} {base : Heap} {CX : CXT} {k : Nat} {f : Addr} {fd : FuncData} {ps : List Str} {sp sp' : Sp} (F : FnOk P w K mg base CX k f fd ps sp)
    (h : ∀ vs H Q E, sp' vs H Q E → sp vs H Q E) : FnOk P w K mg base CX k f fd ps sp' :=
  ⟨fun vs H Q E q => F.len vs H Q E (h _ _ _ _ q), fun A outer s H args us vs Q E hr he hb hv hs => F.run A outer s H args us vs Q E hr he hb hv (h _ _ _ _ hs)⟩

theorem Env0.make {P : Program} {w : World} {K : PySem.W.Frag} {mg : Str → Option Value} {base : Heap} {A : Around} {outer : List Env} {s : Shared} {H : Hp} (e : Env0 P w K mg base A outer s H) (C : Addr) (us : List Value) (kw : List (Str × Value)) :
    Env0 P w K mg base (A.under (.builtin "type.__call__" ⟨.ref C :: us, kw⟩)) outer s H := ⟨by first | exact e.frames | (simpa [Around.under, Code.envs, Code.isFrame, pushEnvs] using e.frames), e.mod, e.bs, e.bsz, e.funs, e.frf, e.hok, e.bare⟩
theorem Env0.in1 {P : Program} {w : World} {K : PySem.W.Frag} {mg : Str → Option Value} {base : Heap} {A : Around} {outer : List Env} {s : Shared} {H : Hp} (e : Env0 P w K mg base A outer s H) :
    Env0 P w K mg base A.in1 outer s H := ⟨e.frames, e.mod, e.bs, e.bsz, e.funs, e.frf, e.hok, e.bare⟩

section
variable {X : Cx} {pins : List (Addr × Obj)} {σ : St} {H : Hp} {s s' : Shared}
/-- from a body: what a callee wants -/
theorem Inv.env0 (I : Inv X pins σ H s) : Env0 X.prog X.w X.K X.mg X.base X.A X.stack s H :=
  ⟨I.ok.frames, I.ok.mod, I.bs, Nat.le_trans I.ok.bsz I.sz, I.stack, I.stkFree, I.hok, I.bare⟩
/-- behind a call -/
theorem Inv.after {Q : VK} {u : Value} (I : Inv X pins σ H s) (h : CE X.stack X.prog X.w H s Q u s') : EP X pins σ Q u s' := by
  obtain ⟨v, H', os, bare, un, hok, r, q⟩ := h
  obtain ⟨hh, g, d, t, os'⟩ := s'
  obtain rfl : os' = s.os := os
  exact ⟨v, H', I.call (h' := hh) (g' := g) (d' := d) (t' := t) (ch := []) un hok bare (fun b z => absurd z (by simp)), r, q⟩
end

/-! ### calls -/
/-- f(..): the written arguments, then the defaults dvs; E: what is wanted of an exception -/
def tCall (sp : Sp) (dvs : List V) (E : XK) (t : TA) : TE := fun σ H Q => t σ H fun vs H1 => sp (vs ++ dvs) H1 Q E
/-- o.m(..) of an instance of the class at C -/
def tMeth (C : Addr) (m : Str) (sp : Sp) (dvs : List V) (E : XK) (ta : TE) (t : TA) : TE := fun σ H Q => ta σ H fun x H1 => ∃ a dx fs, x = .ref a ∧ H1 a = some (.ins C dx fs) ∧ fs.lookup m = none ∧
  t σ H1 fun vs H2 => sp (x :: (vs ++ dvs)) H2 Q E
/-- C(..): a new instance and its dict, then __init__ -/
def tMake (C : Addr) (sp : Sp) (dvs : List V) (E : XK) (t : TA) : TE := fun σ H Q => t σ H fun vs H1 => ∀ x dx, H1 x = none → H1 dx = none → dx ≠ x →
  sp (.ref x :: (vs ++ dvs)) (upd (upd H1 dx (.own x)) x (.ins C dx [])) (fun v H2 => v = .non ∧ Q (.ref x) H2) E

/-- how the parameters are bound: us the positional arguments, kw the keywords' values by name, ds the defaults that fill up -/
def Binds (K : PySem.W.Frag) (fd : FuncData) (ps : List Str) (ds : List Value) : Prop :=
  ∀ (s : Shared) (us : List Value), K.In s.heap → (us ++ ds).length = ps.length → BindsTo s fd ⟨us, []⟩ (ps.zip (us ++ ds))
/-- every parameter is given -/
theorem Binds.all {K : PySem.W.Frag} {fd : FuncData} {ps : List Str} (h : ∀ us : List Value, us.length = ps.length → bindArgs fd ⟨us, []⟩ = pure (ps.zip us)) : Binds K fd ps [] := fun s us _ hl => by
  rw [List.append_nil] at hl ⊢
  exact .of_eq (h us hl)

/-- an exception of a callee reaches what this body wants of exceptions -/
def Passes (CX : CXT) (X : Cx) (E : XK) : Prop := ∀ (pins : List (Addr × Obj)) (σ : St) (H : Hp) (s : Shared) (e : Value) (s' : Shared), Inv X pins σ H s → CX X.stack H s E e s' → X.xe e s'

section
variable {X : Cx} {CX : CXT} {k : Nat} {f C : Addr} {fd : FuncData} {ps : List Str} {sp : Sp} {dvs : List V} {ds : List Value} {E : XK} {x m : Str} {p pos apos : Pos} {e o : Expr} {es : List Expr} {ta : TE} {t : TA}

/-- the callee runs -/
theorem run_fn {pins : List (Addr × Obj)} {σ : St} {H : Hp} {s : Shared} {Q : VK} {us : List Value} {vs : List V} (F : FnOk X.prog X.w X.K X.mg X.base CX k f fd ps sp) (hr : Room k X.A) (hb : Binds X.K fd ps ds) (hd : Vals dvs ds) (hx : Passes CX X E)
    (I : Inv X pins σ H s) (r : Vals vs us) (h : sp (vs ++ dvs) H Q E) : wpAny (model X.prog X.w) X.A (call (.ref f) us) (EP X pins σ Q) X.xe s := by
  have r2 : Vals (vs ++ dvs) (us ++ ds) := r.append hd
  have hl : (us ++ ds).length = ps.length := by rw [← r2.length]; exact F.len _ _ _ _ h
  refine wpAny_call (codeAny_mono (F.run X.A X.stack s H ⟨us, []⟩ (us ++ ds) (vs ++ dvs) Q E hr I.env0 (hb s us I.kIn hl) r2 h) fun r s' hq => ?_)
  cases r with
  | error e => exact hx pins σ H s e s' I hq
  | ok fl =>
    cases fl with
    | ret u => exact I.after hq
    | next => exact False.elim hq
    | brk => exact False.elim hq
    | cont => exact False.elim hq

theorem pe_call (F : FnOk X.prog X.w X.K X.mg X.base CX k f fd ps sp) (hr : Room k X.A) (hg : Gl X x) (hm : X.mg x = some (.ref f)) (hk : PySem.W.keepIn X.K (.ref f) = true) (hb : Binds X.K fd ps ds) (hd : Vals dvs ds) (hx : Passes CX X E)
    (ha : PA X (e :: es) t) (hdb : (x == ("__debug__" : Str)) = false := by decide) (he : starEach (e :: es) X.env = (false, eval e X.env) :: starEach es X.env := by rfl) (hpl : (backTo pos (starEach es X.env)).any (·.1) = false := by rfl) :
    PE X (.Call (.Name x p) (e :: es) [] pos) (tCall sp dvs E t) := by
  intro pins s σ H Q I h
  refine wpAny_Call_Name_kw (ld_glob I hg hm ?_ hdb)
  refine PySem.W.callWith_K (h₀ := X.base) I.ok.mod.kin hk (thn (ha pos pins s σ H _ I h) fun us s1 ⟨vs, H1, I1, r, q⟩ => ⟨I1.kIn, ?_⟩) he hpl
  exact run_fn F hr hb hd hx I1 r q
theorem pe_call0 (F : FnOk X.prog X.w X.K X.mg X.base CX k f fd ps sp) (hr : Room k X.A) (hg : Gl X x) (hm : X.mg x = some (.ref f)) (hk : PySem.W.keepIn X.K (.ref f) = true) (hb : Binds X.K fd ps ds) (hd : Vals dvs ds) (hx : Passes CX X E)
    (hdb : (x == ("__debug__" : Str)) = false := by decide) : PE X (.Call (.Name x p) [] [] pos) (tCall sp dvs E tNil) := by
  intro pins s σ H Q I h
  refine wpAny_Call_Name_kw (ld_glob I hg hm ?_ hdb)
  exact PySem.W.callWith_K0 I.kIn hk (run_fn (us := []) F hr hb hd hx I .nil h)

/-- o.m(e, ..) -/
theorem pe_meth {pl : Sem Bool} (he : PE X o ta) (c : Cls X.K C) (hm : Meth X.K C m f) (F : FnOk X.prog X.w X.K X.mg X.base CX k f fd ps sp) (hr : Room k X.A) (hb : Binds X.K fd ps ds) (hd : Vals dvs ds) (hx : Passes CX X E) (ha : PA X (e :: es) t)
    (hst : starEach (e :: es) X.env = (false, eval e X.env) :: starEach es X.env := by rfl) (hpl : (backTo pos (starEach es X.env)).any (·.1) = false := by rfl)
    (ht : eval (.Call (.Attribute o m apos) (e :: es) [] pos) X.env = (do
      let ov ← eval o X.env
      standAt apos.atName
      let (f, first) ← holding [ov] (getMethod ov m pl)
      callWith pos f first (backTo pos (starEach (e :: es) X.env)) (backToKw pos (keywordEach [] X.env))) := by rfl) :
    PE X (.Call (.Attribute o m apos) (e :: es) [] pos) (tMeth C m sp dvs E ta t) := by
  intro pins s σ H Q I h
  refine PySem.W.methodCall_KW (pl := pl) (thn (he pins s σ H _ I h) fun u s1 ⟨x, H1, I1, rx, a, dx, fs, ex, ea, l, q⟩ => ?_) ht
  subst ex
  obtain rfl : u = Value.ref a := rx
  refine getmeth_ok I1 ea c hm l ?_
  refine PySem.W.callWith_K (first := [.ref a]) (h₀ := X.base) I.ok.mod.kin hm.kp (thn (ha pos pins s1 σ H1 _ I1 q) fun us s2 ⟨vs, H2, I2, r, q2⟩ => ⟨I2.kIn, ?_⟩) hst hpl
  exact run_fn (us := .ref a :: us) (vs := .ref a :: vs) F hr hb hd hx I2 (.cons rfl r) q2
/-- o.m() -/
theorem pe_meth0 {pl : Sem Bool} (he : PE X o ta) (c : Cls X.K C) (hm : Meth X.K C m f) (F : FnOk X.prog X.w X.K X.mg X.base CX k f fd ps sp) (hr : Room k X.A) (hb : Binds X.K fd ps ds) (hd : Vals dvs ds) (hx : Passes CX X E)
    (ht : eval (.Call (.Attribute o m apos) [] [] pos) X.env = (do
      let ov ← eval o X.env
      standAt apos.atName
      let (f, first) ← holding [ov] (getMethod ov m pl)
      callWith pos f first (backTo pos (starEach [] X.env)) (backToKw pos (keywordEach [] X.env))) := by rfl) :
    PE X (.Call (.Attribute o m apos) [] [] pos) (tMeth C m sp dvs E ta tNil) := by
  intro pins s σ H Q I h
  refine PySem.W.methodCall_KW (pl := pl) (thn (he pins s σ H _ I h) fun u s1 ⟨x, H1, I1, rx, a, dx, fs, ex, ea, l, q⟩ => ?_) ht
  subst ex
  obtain rfl : u = Value.ref a := rx
  refine getmeth_ok I1 ea c hm l ?_
  exact PySem.W.callWith_K0 (first := [.ref a]) I1.kIn hm.kp (run_fn (us := [.ref a]) (vs := [.ref a]) F hr hb hd hx I1 (.cons rfl .nil) q)

/-- what a class must have to be made -/
structure Mk (K : PySem.W.Frag) (C f : Addr) : Prop where
  makes : PySem.W.makesIn K C = true
  init : PySem.W.findIn K (.ref C) "__init__" = some (some (.ref f))
  fn : PySem.W.isFn K (.ref f) = true
  kp : PySem.W.keepIn K (.ref C) = true

theorem run_make {pins : List (Addr × Obj)} {σ : St} {H : Hp} {s : Shared} {Q : VK} {us : List Value} {vs : List V} (M : Mk X.K C f) (F : FnOk X.prog X.w X.K X.mg X.base CX k f fd ps sp) (hr : Room (k + 1) X.A) (hb : Binds X.K fd ps ds) (hd : Vals dvs ds)
    (hx : Passes CX X E) (I : Inv X pins σ H s) (r : Vals vs us)
    (h : ∀ x dx, H x = none → H dx = none → dx ≠ x → sp (.ref x :: (vs ++ dvs)) (upd (upd H dx (.own x)) x (.ins C dx [])) (fun v H2 => v = .non ∧ Q (.ref x) H2) E) :
    wpAny (model X.prog X.w) X.A (call (.ref C) us) (EP X pins σ Q) X.xe s := by
  have hq := h (s.heap.objs.size + 1) s.heap.objs.size (I.hok.fresh (Nat.le_succ _)) (I.hok.fresh (Nat.le_refl _)) (Nat.ne_of_lt (Nat.lt_succ_self _))
  have I2 := Inv.made (C := C) I
  have r2 : Vals (V.ref (s.heap.objs.size + 1) :: (vs ++ dvs)) (Value.ref (s.heap.objs.size + 1) :: (us ++ ds)) := .cons rfl (r.append hd)
  have hl : (Value.ref (s.heap.objs.size + 1) :: us ++ ds).length = ps.length := by
    have e := r2.length
    rw [F.len _ _ _ _ hq] at e
    exact e.symm
  refine wpAny_call (make_map (f := f) I.kIn M.makes M.init (beq_iff_eq.mp M.fn) (codeAny_mono (F.run _ X.stack _ _ ⟨Value.ref (s.heap.objs.size + 1) :: us, []⟩ (Value.ref (s.heap.objs.size + 1) :: (us ++ ds)) _ _ E (hr.make C us [])
    (I2.env0.make C us []) (hb _ (Value.ref (s.heap.objs.size + 1) :: us) I2.kIn hl) r2 hq) fun r s' hq' => ?_))
  cases r with
  | error e => exact hx pins σ _ _ e s' I2 hq'
  | ok fl =>
    cases fl with
    | ret u =>
      obtain ⟨v, H', I3, rv, ev, q3⟩ := I2.after hq'
      subst ev
      exact ⟨rv, ⟨V.ref (s.heap.objs.size + 1), H', I3, rfl, q3⟩⟩
    | next => exact False.elim hq'
    | brk => exact False.elim hq'
    | cont => exact False.elim hq'
theorem pe_make (M : Mk X.K C f) (F : FnOk X.prog X.w X.K X.mg X.base CX k f fd ps sp) (hr : Room (k + 1) X.A) (hg : Gl X x) (hm : X.mg x = some (.ref C)) (hb : Binds X.K fd ps ds) (hd : Vals dvs ds) (hx : Passes CX X E)
    (ha : PA X (e :: es) t) (hdb : (x == ("__debug__" : Str)) = false := by decide) (he : starEach (e :: es) X.env = (false, eval e X.env) :: starEach es X.env := by rfl) (hpl : (backTo pos (starEach es X.env)).any (·.1) = false := by rfl) :
    PE X (.Call (.Name x p) (e :: es) [] pos) (tMake C sp dvs E t) := by
  intro pins s σ H Q I h
  refine wpAny_Call_Name_kw (ld_glob I hg hm ?_ hdb)
  refine PySem.W.callWith_K (h₀ := X.base) I.ok.mod.kin M.kp (thn (ha pos pins s σ H _ I h) fun us s1 ⟨vs, H1, I1, r, q⟩ => ⟨I1.kIn, ?_⟩) he hpl
  exact run_make M F hr hb hd hx I1 r q
theorem pe_make0 (M : Mk X.K C f) (F : FnOk X.prog X.w X.K X.mg X.base CX k f fd ps sp) (hr : Room (k + 1) X.A) (hg : Gl X x) (hm : X.mg x = some (.ref C)) (hb : Binds X.K fd ps ds) (hd : Vals dvs ds) (hx : Passes CX X E)
    (hdb : (x == ("__debug__" : Str)) = false := by decide) : PE X (.Call (.Name x p) [] [] pos) (tMake C sp dvs E tNil) := by
  intro pins s σ H Q I h
  refine wpAny_Call_Name_kw (ld_glob I hg hm ?_ hdb)
  exact PySem.W.callWith_K0 I.kIn M.kp (run_make (us := []) M F hr hb hd hx I .nil h)
end

/-! ### keywords -/
/-- the values of the keywords, from the left -/
def PK (X : Cx) (kws : List Keyword) (t : TA) : Prop :=
  ∀ (pos : Pos) (pins : List (Addr × Obj)) (s : Shared) (σ : St) (H : Hp) (Q : List V → Hp → Prop), Inv X pins σ H s → t σ H Q → wpAny (model X.prog X.w) X.A (evalAll ((backToKw pos (keywordEach kws X.env)).map (·.2))) (AP X pins σ Q) X.xe s
section
variable {X : Cx} {CX : CXT} {k : Nat} {f C : Addr} {fd : FuncData} {ps ks : List Str} {sp : Sp} {E : XK} {x m : Str} {p pos apos kpos : Pos} {e o : Expr} {es : List Expr} {kws : List Keyword} {te ta : TE} {t tk : TA} {nm : Option Str}
theorem pk_nil : PK X [] tNil := fun _ _ _ _ H Q I h => wpAny_evalAll_nil ⟨[], H, I, .nil, h⟩
theorem pk_cons (ha : PE X e te) (hr : PK X kws t) : PK X (⟨nm, e, kpos⟩ :: kws) (tCons te t) := by
  intro pos pins s σ H Q I h
  show wpAny _ _ (evalAll ((do let v ← eval e X.env; standAt pos; pure v) :: (backToKw pos (keywordEach kws X.env)).map (·.2))) _ _ s
  refine wpAny_evalAll_cons (wpAny_bind (thn (ha pins s σ H _ I h) fun u s1 ⟨x, H1, I1, r1, q1⟩ => wpAny_bind (wpAny_standAt (wpAny_pure ?_))))
  exact thn (hr pos pins s1 σ H1 _ I1 q1) fun us s2 ⟨xs, H2, I2, r2, q2⟩ => ⟨x :: xs, H2, I2, .cons r1 r2, q2⟩

/-- how a call with keywords binds: g puts the positional values us and the keywords' values ws (names ks) in the parameters' order, defaults among them -/
structure KBinds (K : PySem.W.Frag) (fd : FuncData) (ps ks : List Str) (g : List Value → List Value → List Value) (gV : List V → List V → List V) : Prop where
  to : ∀ (s : Shared) (us ws : List Value), K.In s.heap → (g us ws).length = ps.length → BindsTo s fd ⟨us, ks.zip ws⟩ (ps.zip (g us ws))
  rel : ∀ {vs : List V} {us : List Value} {zs : List V} {ws : List Value}, Vals vs us → Vals zs ws → Vals (gV vs zs) (g us ws)
def tCallK (sp : Sp) (gV : List V → List V → List V) (E : XK) (t tk : TA) : TE := fun σ H Q => t σ H fun vs H1 => tk σ H1 fun zs H2 => sp (gV vs zs) H2 Q E
variable {g : List Value → List Value → List Value} {gV : List V → List V → List V}
theorem run_fnk {pins : List (Addr × Obj)} {σ : St} {H : Hp} {s : Shared} {Q : VK} {us ws : List Value} {vs zs : List V} (F : FnOk X.prog X.w X.K X.mg X.base CX k f fd ps sp) (hr : Room k X.A) (hb : KBinds X.K fd ps ks g gV) (hx : Passes CX X E)
    (I : Inv X pins σ H s) (r : Vals vs us) (rz : Vals zs ws) (h : sp (gV vs zs) H Q E) : wpAny (model X.prog X.w) X.A (call (.ref f) us (ks.zip ws)) (EP X pins σ Q) X.xe s := by
  have r2 := hb.rel r rz
  have hl : (g us ws).length = ps.length := by rw [← r2.length]; exact F.len _ _ _ _ h
  refine wpAny_call (codeAny_mono (F.run X.A X.stack s H ⟨us, ks.zip ws⟩ (g us ws) (gV vs zs) Q E hr I.env0 (hb.to s us ws I.kIn hl) r2 h) fun r s' hq => ?_)
  cases r with
  | error e => exact hx pins σ H s e s' I hq
  | ok fl =>
    cases fl with
    | ret u => exact I.after hq
    | next => exact False.elim hq
    | brk => exact False.elim hq
    | cont => exact False.elim hq
/-- f(e, .., k = v, ..) -/
theorem pe_callK (F : FnOk X.prog X.w X.K X.mg X.base CX k f fd ps sp) (hr : Room k X.A) (hg : Gl X x) (hm : X.mg x = some (.ref f)) (hk : PySem.W.keepIn X.K (.ref f) = true) (hb : KBinds X.K fd ps ks g gV) (hx : Passes CX X E)
    (ha : PA X (e :: es) t) (hkw : PK X kws tk) (hall : (backToKw pos (keywordEach kws X.env)).all (·.1.isSome) = true := by rfl) (hks : (backToKw pos (keywordEach kws X.env)).filterMap (·.1) = ks := by rfl)
    (hdb : (x == ("__debug__" : Str)) = false := by decide) (he : starEach (e :: es) X.env = (false, eval e X.env) :: starEach es X.env := by rfl)
    (hpl : ((backTo pos (starEach (e :: es) X.env)).any (·.1) || (backToKw pos (keywordEach kws X.env)).any (·.1.isNone)) = false := by rfl) :
    PE X (.Call (.Name x p) (e :: es) kws pos) (tCallK sp gV E t tk) := by
  intro pins s σ H Q I h
  refine wpAny_Call_Name_kw (ld_glob I hg hm ?_ hdb)
  refine PySem.W.callWith_KW (h₀ := X.base) I.ok.mod.kin hk hall (thn (ha pos pins s σ H _ I h) fun us s1 ⟨vs, H1, I1, r, q⟩ => ?_) hpl he
  refine thn (hkw pos pins s1 σ H1 _ I1 q) fun ws s2 ⟨zs, H2, I2, rz, q2⟩ => ⟨I2.kIn, ?_⟩
  rw [hks]
  exact run_fnk F hr hb hx I2 r rz q2
end

/-! ### a def's body keeps its promise -/
/-- names: the parameters first -/
structure FnScope (N P : List Str) (sc : Scope) : Prop where
  kind : sc.kind = .function
  co : sc.isCoroutine = false
  gen : sc.isGenerator = false
  nd : N.Nodup
  pre : N.take P.length = P
  par : ∀ x ∈ P, sc.names.lookup x = some .local ∨ sc.names.lookup x = some .cell
  nofree : ∀ y ∈ sc.names, y.2 ≠ .free

theorem bindL_out {kindOf : Str → Option NameKind} {x : Str} : ∀ {binds : List (Str × Value)} {m : Str → Option Value}, (∀ v, (x, v) ∉ binds) → bindL kindOf binds m x = m x
  | [], _, _ => rfl
  | (n, v) :: r, m, h => by
    unfold bindL
    rw [bindL_out fun w hw => h w (List.mem_cons_of_mem _ hw)]
    split
    · have : x ≠ n := by rintro rfl; exact h v List.mem_cons_self
      simp [this]
    · rfl
theorem bindC_out {kindOf : Str → Option NameKind} {x : Str} : ∀ {binds : List (Str × Value)} {m : Str → Option Value}, (∀ v, (x, v) ∉ binds) → bindC kindOf binds m x = m x
  | [], _, _ => rfl
  | (n, v) :: r, m, h => by
    unfold bindC
    rw [bindC_out fun w hw => h w (List.mem_cons_of_mem _ hw)]
    split
    · rfl
    · have : x ≠ n := by rintro rfl; exact h v List.mem_cons_self
      simp [this]
theorem bindL_get {kindOf : Str → Option NameKind} {x : Str} {v : Value} : ∀ {P : List Str} {vs : List Value} {i : Nat} {m : Str → Option Value}, P.Nodup → P[i]? = some x → vs[i]? = some v → kindOf x = some .local →
    bindL kindOf (P.zip vs) m x = some v
  | [], _, _, _, _, h, _, _ => by simp at h
  | _ :: _, [], _, _, _, _, h, _ => by simp at h
  | p :: P, w :: vs, 0, m, nd, h1, h2, hk => by
    simp at h1 h2; subst h1; subst h2
    show bindL kindOf ((p, w) :: P.zip vs) m p = _
    unfold bindL
    rw [bindL_out fun v hv => (List.nodup_cons.mp nd).1 (List.of_mem_zip hv).1, if_pos hk]
    simp
  | p :: P, w :: vs, i + 1, m, nd, h1, h2, hk => by
    show bindL kindOf ((p, w) :: P.zip vs) m x = _
    unfold bindL
    exact bindL_get (i := i) (List.nodup_cons.mp nd).2 (by simpa using h1) (by simpa using h2) hk
theorem bindC_get {kindOf : Str → Option NameKind} {x : Str} {v : Value} : ∀ {P : List Str} {vs : List Value} {i : Nat} {m : Str → Option Value}, P.Nodup → P[i]? = some x → vs[i]? = some v → kindOf x ≠ some .local →
    bindC kindOf (P.zip vs) m x = some v
  | [], _, _, _, _, h, _, _ => by simp at h
  | _ :: _, [], _, _, _, _, h, _ => by simp at h
  | p :: P, w :: vs, 0, m, nd, h1, h2, hk => by
    simp at h1 h2; subst h1; subst h2
    show bindC kindOf ((p, w) :: P.zip vs) m p = _
    unfold bindC
    rw [bindC_out fun v hv => (List.nodup_cons.mp nd).1 (List.of_mem_zip hv).1, if_neg hk]
    simp
  | p :: P, w :: vs, i + 1, m, nd, h1, h2, hk => by
    show bindC kindOf ((p, w) :: P.zip vs) m x = _
    unfold bindC
    exact bindC_get (i := i) (List.nodup_cons.mp nd).2 (by simpa using h1) (by simpa using h2) hk

/-- the names' values at the entry -/
def start (N : List Str) (vs : List V) : St := vs.map some ++ List.replicate (N.length - vs.length) none

/-- the context of a def's body, at its entry; an exception leaves the frame, then lies as CX says -/
def cxOf (CX : CXT) (P : Program) (w : World) (K : PySem.W.Frag) (mg : Str → Option Value) (base : Heap) (N : List Str) (qual : Str) (scope : Scope) (f : Addr) (cd : Value) (A : Around) (outer : List Env) (s : Shared) (H : Hp) (E : XK) : Cx where
  prog := P
  w := w
  K := K
  mg := mg
  base := base
  A := A.deeper (envOfC qual scope s.heap.objs.size f cd)
  N := N
  s₀ := s
  H₀ := H
  env := envOfC qual scope s.heap.objs.size f cd
  outer := outer
  stack := envOfC qual scope s.heap.objs.size f cd :: outer
  ex := []
  calm := true
  fn := fun _ => true
  pn := []
  xe := fun e s' => wpAny (model P w) (A.deeper (envOfC qual scope s.heap.objs.size f cd)) (leaving (envOfC qual scope s.heap.objs.size f cd) e) (fun _ s'' => CX outer H s E e s'') (fun e' s'' => CX outer H s E e' s'') s'

theorem cell_has {sc : Scope} {n : Nat} {x : Str} (h : sc.names.lookup x = some .cell) : ∃ c, (cellsFrom n sc.names []).lookup x = some c := by
  have q := PySem.W.cellsFrom_some sc.names n [] (.inl h)
  exact Option.isSome_iff_exists.mp q

theorem inv_start {CX : CXT} {P : Program} {w : World} {K : PySem.W.Frag} {mg : Str → Option Value} {base : Heap} {N ps : List Str} {qual : Str} {scope : Scope} {f : Addr} {cd : Value} {A : Around} {outer : List Env} {s s1 : Shared} {H : Hp} {E : XK} {us : List Value} {vs : List V}
    (S : FnScope N ps scope) (hd : A.handled = none) (e0 : Env0 P w K mg base A outer s H) (hl : vs.length = ps.length) (r : Vals vs us)
    (x : InCallC s s.heap.objs.size (bindL (envOfC qual scope s.heap.objs.size f cd).kindOf (ps.zip us) fun _ => none) (cellsFrom (s.heap.objs.size + 1) scope.names []) (bindC (envOfC qual scope s.heap.objs.size f cd).kindOf (ps.zip us) fun _ => none) s1) :
    Inv (cxOf CX P w K mg base N qual scope f cd A outer s H E) [] (start N vs) H s1 := by
  have hpl : ps.length ≤ N.length := by have := congrArg List.length S.pre; rw [List.length_take] at this; omega
  obtain ⟨h1, tk, rfl, hk⟩ := x.done
  have noA : ∀ b : Addr, b ∉ (cxOf CX P w K mg base N qual scope f cd A outer s H E).ex := fun b z => absurd (show b ∈ ([] : List Addr) from z) (by simp)
  refine ⟨⟨e0.mod, S.kind, rfl, rfl, Nat.le_refl _, fun y z c h1 h2 => ?_, fun y hy => ?_, fun y c _ h => ?_, fun _ => hd, Around.frames_deeper e0.frames, .inr ⟨rfl, rfl⟩, fun b z => absurd z (noA b), e0.bs, e0.bsz, fun b _ _ => noA b, fun b z => absurd z (noA b), e0.funs, e0.frf⟩,
    rfl, e0.bare, Un.kept hk, ⟨_, x.toInCall.ns, fun i y v h1 h2 h3 => ?_⟩, fun y c h => ⟨_, x.cell y c h⟩, e0.hok.fresh (Nat.le_refl _), fun y c h => ?_, fun p hp => absurd (show p ∈ ([] : List (Addr × Obj)) from hp) (by simp), e0.hok.kept hk, ?_⟩
  · exact name_of_addr x.apart (PySem.mem_of_lookup h1) (PySem.mem_of_lookup h2)
  · have hy : scope.names.lookup y = some .cell ∨ scope.names.lookup y = some .free := hy
    rcases hy with hy | hy
    · exact cell_has hy
    · exact absurd rfl (S.nofree _ (PySem.mem_of_lookup hy))
  · exact Nat.le_of_lt (x.above y c (PySem.mem_of_lookup h))
  · have hi : i < vs.length := by
      unfold start at h2
      by_cases hi : i < vs.length
      · exact hi
      · rw [List.getElem?_append_right (by simpa using hi)] at h2
        rw [List.getElem?_replicate] at h2
        split at h2 <;> cases h2
    have ha : vs[i]? = some v := by
      unfold start at h2
      rw [List.getElem?_append_left (by simpa using hi), List.getElem?_map] at h2
      cases e : vs[i]? with
      | none => rw [e] at h2; cases h2
      | some a => rw [e] at h2; cases h2; rfl
    obtain ⟨u, hu, rv⟩ := r.get ha
    have hp : ps[i]? = some y := by
      rw [← S.pre, List.getElem?_take_of_lt (by omega)]; exact h1
    have ndP : ps.Nodup := by rw [← S.pre]; exact S.nd.sublist (List.take_sublist _ _)
    refine ⟨u, rv, ?_⟩
    rcases S.par y (List.mem_of_getElem? hp) with k | k
    · exact .inl ⟨k, bindL_get ndP hp hu k⟩
    · obtain ⟨c, e⟩ := cell_has (n := s.heap.objs.size + 1) k
      refine .inr ⟨.inl k, c, e, ?_⟩
      have q := x.cell y c e
      rw [bindC_get ndP hp hu (by show scope.names.lookup y ≠ _; rw [k]; decide)] at q
      exact q
  · exact e0.hok.fresh (Nat.le_of_lt (x.above y c (PySem.mem_of_lookup h)))
  · unfold start
    show _ = N.length
    rw [List.length_append, List.length_map, List.length_replicate]
    omega

/-- THE RULE: a def (or a method) of the text, by its body. The body's reading t is chosen for each entry; it is run at the parameters' values -/
theorem fn_of {CX : CXT} {P : Program} {w : World} {K : PySem.W.Frag} {mg : Str → Option Value} {base : Heap} {k : Nat} {f : Addr} {name qual : Str} {params : Arguments} {body : List Stmt} {scope : Scope} {dV kV doc pm cdv ct oc : Value} {an od : Option Addr}
    {osl : Array (Option Value)} {N ps : List Str} {sp : Sp} (lk : K.lookup f = some ⟨oc, od, .func (PySem.W.fnOf name qual params body scope dV kV doc pm an cdv ct), osl⟩) (hcd : PySem.W.codeIn K cdv qual = true) (S : FnScope N ps scope)
    (len : ∀ vs H Q E, sp vs H Q E → vs.length = ps.length)
    (hbody : ∀ (A : Around) (outer : List Env) (s : Shared) (H : Hp) (vs : List V) (Q : VK) (E : XK), Room k (A.deeper (envOfC qual scope s.heap.objs.size f cdv)) → sp vs H Q E →
      ∃ t, PSs (cxOf CX P w K mg base N qual scope f cdv A outer s H E) body t ∧ t { nx := fun _ H' => Q .non H', rt := Q } (start N vs) H) :
    FnOk P w K mg base CX (k + 1) f (PySem.W.fnOf name qual params body scope dV kV doc pm an cdv ct) ps sp := by
  refine ⟨len, fun A outer s H args us vs Q E hr e0 hb r hsp => ?_⟩
  have hl := len _ _ _ _ hsp
  have KX : K.In s.heap := e0.mod.kin.keeps fun b o e => (e0.bs b o e).1
  have lim : s.heap.NoLimit := e0.mod.nolimit.keeps fun b o e => (e0.bs b o e).1
  have hkind : ∀ y ∈ ps.zip us, scope.names.lookup y.1 = some .local ∨ (scope.names.lookup y.1 = some .cell ∧ ((cellsFrom (s.heap.objs.size + 1) scope.names []).lookup y.1).isSome = true) := fun ⟨n, v⟩ hy => by
    rcases S.par n (List.of_mem_zip hy).1 with q | q
    · exact .inl q
    · exact .inr ⟨q, PySem.W.cellsFrom_some _ _ _ (.inl q)⟩
  refine codeAny_call_function hr.depth (KX _ _ lk) rfl S.co S.gen rfl (PySem.W.codeRec_of KX hcd) (hb _ _ _ _ ?_)
  refine wpAny_newFunctionEnv_cells S.kind hkind fun env he s1 x => ?_
  subst he
  refine ⟨lim.keeps x.toInCall.keep, codeAny_func ?_⟩
  obtain ⟨t, ht, hq⟩ := hbody A outer s H vs Q E (hr.deeper _) hsp
  have I : Inv (cxOf CX P w K mg base N qual scope f cdv A outer s H E) [] (start N vs) H s1 := inv_start S hr.hd e0 hl r x
  refine wpAny_mono (ht [] s1 (start N vs) H _ I hq) (fun fl s' hs => ?_) fun e s' hs => hs
  have fin : ∀ {σ' : St} {H' : Hp} {v : V} {u : Value}, Inv (cxOf CX P w K mg base N qual scope f cdv A outer s H E) [] σ' H' s' → RelV v u → Q v H' → CE outer P w H s Q u s' :=
    fun {σ' H' v u} J rv q => ⟨v, H', J.os, J.bare, J.base, J.hok, rv, q⟩
  cases fl with
  | ret u =>
    obtain ⟨v, σ', H', J, rv, q⟩ := hs
    exact fin J rv q
  | next =>
    obtain ⟨σ', H', J, q⟩ := hs
    exact fin (v := V.non) (u := Value.none) J rfl q
  | brk =>
    obtain ⟨_, _, _, q⟩ := hs
    exact False.elim q
  | cont =>
    obtain ⟨_, _, _, q⟩ := hs
    exact False.elim q
end L2

namespace L2
open PySem PySem.Spec PyProof.Rows
section
variable {X : Cx} {x : Str} {p pos : Pos} {e : Expr} {es : List Expr} {t : TA} {id T : String} {r : List V → Hp → VK → Prop}

def tCB (r : List V → Hp → VK → Prop) (t : TA) : TE := fun σ H Q => t σ H fun vs H1 => r vs H1 Q
/-- f(e, ..), f a built-in function -/
theorem pe_callB (hc : CallR X (.builtin id) r) (hg : Gl X x) (hm : X.mg x = none) (hv : bootBuiltins x = some (.builtin id)) (ha : PA X (e :: es) t) (hn : x ≠ "__name__" := by decide) (hdb : (x == ("__debug__" : Str)) = false := by decide)
    (he : starEach (e :: es) X.env = (false, eval e X.env) :: starEach es X.env := by rfl) (hpl : (backTo pos (starEach es X.env)).any (·.1) = false := by rfl) : PE X (.Call (.Name x p) (e :: es) [] pos) (tCB r t) := by
  intro pins s σ H Q I h
  refine wpAny_Call_Name_kw (ld_blt I hg hm hv ?_ hn hdb)
  exact PyProof.Rows.callWith_builtin1 (thn (ha pos pins s σ H _ I h) fun us s1 ⟨vs, H1, I1, r1, q1⟩ => hc pins s1 σ H1 vs us Q I1 r1 q1) he hpl
/-- T(e, ..), T a built-in type -/
theorem pe_callTy (hc : CallR X (.type T) r) (hg : Gl X x) (hm : X.mg x = none) (hv : bootBuiltins x = some (.type T)) (ha : PA X (e :: es) t) (hn : x ≠ "__name__" := by decide) (hdb : (x == ("__debug__" : Str)) = false := by decide)
    (he : starEach (e :: es) X.env = (false, eval e X.env) :: starEach es X.env := by rfl) (hpl : (backTo pos (starEach es X.env)).any (·.1) = false := by rfl) : PE X (.Call (.Name x p) (e :: es) [] pos) (tCB r t) := by
  intro pins s σ H Q I h
  refine wpAny_Call_Name_kw (ld_blt I hg hm hv ?_ hn hdb)
  exact PyProof.Rows.callWith_type1 (thn (ha pos pins s σ H _ I h) fun us s1 ⟨vs, H1, I1, r1, q1⟩ => hc pins s1 σ H1 vs us Q I1 r1 q1) he hpl
/-- T() -/
theorem pe_callTy0 (hc : CallR X (.type T) r) (hg : Gl X x) (hm : X.mg x = none) (hv : bootBuiltins x = some (.type T)) (hn : x ≠ "__name__" := by decide) (hdb : (x == ("__debug__" : Str)) = false := by decide) :
    PE X (.Call (.Name x p) [] [] pos) (tCB r tNil) := by
  intro pins s σ H Q I h
  refine wpAny_Call_Name_kw (ld_blt I hg hm hv ?_ hn hdb)
  exact PyProof.Rows.callWith_type0 (hc pins s σ H [] [] Q I .nil h)
end
end L2

namespace HT
open PySem PyProof.Rows

/-- t < u of tuples of ints -/
def lexLt : List Int → List Int → Bool
  | [], [] => false
  | [], _ :: _ => true
  | _ :: _, [] => false
  | x :: xs, y :: ys => if x = y then lexLt xs ys else decide (x < y)
theorem lexLt_cons (x y : Int) (xs ys : List Int) : lexLt (x :: xs) (y :: ys) = if x = y then lexLt xs ys else decide (x < y) := rfl
theorem lexLt_nil_nil : lexLt [] [] = false := rfl
theorem lexLt_nil_cons (y : Int) (ys : List Int) : lexLt [] (y :: ys) = true := rfl
theorem lexLt_cons_nil (x : Int) (xs : List Int) : lexLt (x :: xs) [] = false := rfl

theorem eqAt_int (A : Around) (s : Shared) (a : Int) (t : Tok) (c : Int) (u : Tok) : ∃ e, SeqAt.EqAt A s (.int a t) (.int c u) e ∧ (e = true ↔ a = c) :=
  ⟨(a == c), SeqAt.EqAt.int_int a t c u, by simp⟩
theorem rcLt_int (A : Around) (s : Shared) (a : Int) (t : Tok) (c : Int) (u : Tok) (prog : Program) (w : World) (E : Value → Shared → Prop) (Q : Value → Shared → Prop) (h : Q (.bool (decide (a < c))) s) :
    wpAny (model prog w) A (richCompare .Lt (.int a t) (.int c u)) Q E s :=
  (PyProof.Rows.lt_int h : wpAny (model prog w) A (compareOp .Lt (.int a t) (.int c u)) Q E s)

section
open PySem.SeqAt
open PySem.AutoSeq1 (wpAny_loadPart')
open PySem.MeetsSeq PySem.MeetsSeq2 PySem.MeetsSeq3

theorem tuple_lt_ints (l b : Addr) (items items2 : Array Value) (n n2 : Nat) (dd dd2 : Option Addr) (sl sl2 : Array (Option Value)) (ns ms : List Int) (hi : IntsAre items.toList ns) (hj : IntsAre items2.toList ms) :
    Meets (Builtin.«tuple.__lt__» ⟨[.ref l, .ref b], []⟩)
      (fun _ R s => s.heap.get? l = some { cls := .type "tuple", dict := dd, data := .seq items n, slots := sl } ∧ s.heap.get? b = some { cls := .type "tuple", dict := dd2, data := .seq items2 n2, slots := sl2 } ∧
        R (.ok (.ret (.bool (lexLt ns ms)))) s) :=
  .of_wp fun prog w A R s h => by
    obtain ⟨hp, g, d, tk, os⟩ := s; obtain ⟨hl, hb, h⟩ := h
    have f2 := AutoSeq1.sub_tuple_tuple
    have z1 : items.size = ns.length := by rw [← hi.length]; simp
    have z2 : items2.size = ms.length := by rw [← hj.length]; simp
    wp_walk using wpAny_loadPart' hl, wpAny_loadPart' hb, wpAny_forIn_list _ (fun rest b s' => b.1 = none ∧ s' = ⟨hp, g, d, tk, os⟩ ∧ ∃ (vs ws : List Value) (ns' ms' : List Int), rest = vs.zip ws ∧
      IntsAre vs ns' ∧ IntsAre ws ms' ∧ ns'.length + items2.size = ms'.length + items.size ∧ R (.ok (.ret (.bool (lexLt ns' ms')))) ⟨hp, g, d, tk, os⟩) _
    case turn =>
      rintro ⟨y, x⟩ rest b s' ⟨hb', rfl, vs, ws, ns', ms', hz, hvi, hwi, hlen, hR⟩
      cases hvi with
      | nil => rw [List.zip_nil_left] at hz; cases hz
      | cons a t hvi' =>
        cases hwi with
        | nil => rw [List.zip_nil_right] at hz; cases hz
        | cons c u hwi' =>
          rw [List.zip_cons_cons] at hz
          injection hz with hyx hrest
          injection hyx with hy hx
          subst hy hx
          rw [lexLt_cons] at hR
          simp only [List.length_cons] at hlen
          obtain ⟨e, he, hiff⟩ := eqAt_int A.in1 ⟨hp, g, d, tk, os⟩ a t c u
          refine wpAny_bind (he prog w _ _ ?_)
          cases e with
          | true =>
            rw [if_pos (hiff.mp rfl)] at hR
            wp_walk
            exact ⟨rfl, rfl, _, _, _, _, hrest, hvi', hwi', by omega, hR⟩
          | false =>
            rw [if_neg (fun q => absurd (hiff.mpr q) Bool.false_ne_true)] at hR
            have hri := rcLt_int A.in1 ⟨hp, g, d, tk, os⟩ a t c u prog w
            wp_walk using hri
            exact ⟨_, rfl, by simpa using hR⟩
    case fin =>
      rintro ⟨b1, b2⟩ s' ⟨hb', rfl, vs, ws, ns', ms', hz, hvi, hwi, hlen, hR⟩
      simp only at hb'
      subst hb'
      have hv : lexLt ns' ms' = decide (items.size < items2.size) := by
        cases hvi with
        | nil =>
          cases hwi with
          | nil =>
            simp only [List.length_nil] at hlen
            rw [lexLt_nil_nil]
            exact (decide_eq_false (by omega)).symm
          | cons c u hw =>
            simp only [List.length_nil, List.length_cons] at hlen
            rw [lexLt_nil_cons]
            exact (decide_eq_true (by omega)).symm
        | cons a t hv =>
          cases hwi with
          | nil =>
            simp only [List.length_nil, List.length_cons] at hlen
            rw [lexLt_cons_nil]
            exact (decide_eq_false (by omega)).symm
          | cons c u hw =>
            rw [List.zip_cons_cons] at hz
            cases hz
      rw [hv] at hR
      wp_walk
      exact ⟨_, rfl, by simpa [Builtin.Tuple.tupleCompareSizes] using hR⟩
    case h =>
      exact ⟨rfl, rfl, items.toList, items2.toList, ns, ms, rfl, hi, hj, by omega, h⟩
end

section
variable {prog : Program} {w : World} {A : Around} {E : Value → Shared → Prop} {s : Shared}

theorem lt_tupInts {l b : Addr} {items items2 : Array Value} {ns ms : List Int} {Q : Value → Shared → Prop} (hl : IsTup s.heap l items) (hb : IsTup s.heap b items2) (hi : IntsAre items.toList ns) (hj : IntsAre items2.toList ms)
    (hu : A.units < cLine) (h : Q (.bool (lexLt ns ms)) s) : wpAny (model prog w) A (compareOp .Lt (.ref l) (.ref b)) Q E s := by
  obtain ⟨⟨cls, dd, data, sl⟩, ho, hc, n, hd⟩ := id hl
  obtain ⟨⟨cls2, dd2, data2, sl2⟩, ho2, hc2, n2, hd2⟩ := id hb
  simp only at hc hd hc2 hd2
  subst hc hd hc2 hd2
  exact richCompare_meets_room (op := .Lt) ⟨_, ho, rfl⟩ ⟨_, ho2, rfl⟩ PySem.F.slot_tuple_lt PySem.F.entry_tuple_lt (PySem.F.args_tuple_lt_2 _ _) (tuple_lt_ints l b items items2 n n2 dd dd2 sl sl2 ns ms hi hj)
    ⟨ho, ho2, show Value.bool (lexLt ns ms) ≠ Value.notImplemented ∧ Q (.bool (lexLt ns ms)) s from ⟨(fun x => nomatch x), h⟩⟩ hu

/-- t + u, t not empty -/
theorem cat_tup {t b : Addr} {vs ws : List Value} {Q : Value → Shared → Prop} (ht : IsTup s.heap t vs.toArray) (hb : IsTup s.heap b ws.toArray) (hv : vs ≠ [])
    (h1 : ws = [] → Q (.ref t) s) (h2 : ws ≠ [] → Q (.ref s.heap.objs.size) { s with heap := s.heap.push { cls := .type "tuple", data := .seq (vs ++ ws).toArray } })
    (hsz : vs.length + ws.length ≤ sizeLine) : wpAny (model prog w) A (binaryOp .Add (.ref t) (.ref b)) Q E s := by
  obtain ⟨⟨cls, dd, data, sl⟩, ho, hc, n, hd⟩ := id ht
  obtain ⟨⟨cls2, dd2, data2, sl2⟩, ho2, hc2, n2, hd2⟩ := id hb
  simp only at hc hd hc2 hd2
  subst hc hd hc2 hd2
  have e : vs.toArray ++ ws.toArray = (vs ++ ws).toArray := by simp
  by_cases hw : ws = []
  · exact concat_meets ⟨_, ho, rfl⟩ ⟨_, ho2, rfl⟩ noFill_tuple_add seq_tuple_add PySem.F.slot_tuple_add PySem.F.entry_tuple_add (PySem.F.args_tuple_add_2 _ _)
      (tuple_addW1 t b vs.toArray ws.toArray n n2 dd dd2 sl sl2 (by simpa using hv) (by simp [hw])) ⟨ho, ho2, h1 hw⟩
  · refine concat_meets ⟨_, ho, rfl⟩ ⟨_, ho2, rfl⟩ noFill_tuple_add seq_tuple_add PySem.F.slot_tuple_add PySem.F.entry_tuple_add (PySem.F.args_tuple_add_2 _ _)
      (tuple_addW2 t b vs.toArray ws.toArray n n2 dd dd2 sl sl2 (by simpa using hv) (by simpa using hw) (by rw [List.size_toArray, List.size_toArray]; exact hsz)) ⟨ho, ho2, ?_⟩
    rw [e]
    exact h2 hw

/-! ### t[a:b], not the whole -/
/-- a slice's bound as a place among n (d where it is left out) -/
def sIx (n d : Nat) : Option Int → Nat
  | none => d
  | some v => if v < 0 then (v + (n : Int)).toNat else min v.toNat n
theorem sIx_none (n d : Nat) : sIx n d none = d := rfl
theorem sIx_nat (n d k : Nat) : sIx n d (some (k : Int)) = min k n := by
  show (if (k : Int) < 0 then ((k : Int) + (n : Int)).toNat else min (k : Int).toNat n) = min k n
  rw [if_neg (by omega), Int.toNat_natCast]
theorem sIx_le (n d : Nat) (hd : d ≤ n) (o : Option Int) : sIx n d o ≤ n := by
  cases o with
  | none => exact hd
  | some v =>
    show (if v < 0 then (v + (n : Int)).toNat else min v.toNat n) ≤ n
    by_cases hv : v < 0
    · rw [if_pos hv]; omega
    · rw [if_neg hv]; exact Nat.min_le_right _ _
theorem clip_eq (v : Int) (n d : Nat) : (if v < 0 then max (v + (n : Int)) 0 else min v (n : Int)) = ((sIx n d (some v) : Nat) : Int) := by
  show (if v < 0 then max (v + (n : Int)) 0 else min v (n : Int)) = (((if v < 0 then (v + (n : Int)).toNat else min v.toNat n) : Nat) : Int)
  by_cases hv : v < 0
  · simp only [if_pos hv]; omega
  · simp only [if_neg hv]; omega
theorem adjust_gen (lo hi : Option Int) (n : Nat) : Builtin.Slice.sliceAdjust lo hi 1 (n : Int) = (((sIx n 0 lo : Nat) : Int), ((sIx n n hi : Nat) : Int)) := by
  have h1 : ¬ ((1 : Int) < 0) := by omega
  unfold Builtin.Slice.sliceAdjust
  simp only [h1, if_false]
  refine Prod.ext ?_ ?_
  · cases lo with
    | none => rfl
    | some v => exact clip_eq v n 0
  · cases hi with
    | none => rfl
    | some v => exact clip_eq v n n
theorem places_gen (i j : Nat) : Builtin.Slice.slicePlaces (i : Int) (j : Int) 1 = j - i := by
  unfold Builtin.Slice.slicePlaces
  have h1 : (1 : Int) > 0 := by omega
  simp only [h1, if_true, Int.ediv_one]
  split <;> omega
theorem slicePart_ {v : Value} {o : Option Int} {Q : Option Int → Shared → Prop} (p : IsPart v o) (h : Q o s) : wpAny (model prog w) A (Builtin.Slice.slicePartIndex v) Q E s := by
  cases p with
  | none => exact slicePart_none h
  | int i t => exact slicePart_int h
theorem sliceApplied_gen {sl : Addr} {vl vu : Value} {lo hi : Option Int} {n : Nat} {Q : Int × Int × Nat → Shared → Prop} (hs : s.heap.IsSliceOf sl vl vu .none) (pl : IsPart vl lo) (pu : IsPart vu hi)
    (h : Q (((sIx n 0 lo : Nat) : Int), 1, sIx n n hi - sIx n 0 lo) s) : wpAny (model prog w) A (Builtin.Slice.sliceApplied (.ref sl) (pure (n : Int))) Q E s := by
  obtain ⟨os, hos, hcs, hds⟩ := id hs
  unfold Builtin.Slice.sliceApplied Builtin.Slice.sliceFields
  refine wpAny_bind (wpAny_bind (wpAny_field hos hds (x := vl) rfl (wpAny_bind (wpAny_field hos hds (x := vu) rfl (wpAny_bind (wpAny_field hos hds (x := .none) rfl (wpAny_pure ?_)))))))
  refine wpAny_bind (slicePart_none ?_)
  show wpAny _ _ (if ((1 : Int) == 0) = true then _ else _) _ _ s
  rw [if_neg (by decide)]
  refine wpAny_bind (slicePart_ pl (wpAny_bind (slicePart_ pu (wpAny_bind (wpAny_pure ?_)))))
  show wpAny _ _ (match Builtin.Slice.sliceAdjust lo hi 1 (n : Int) with | (lo, hi) => pure (lo, (1 : Int), Builtin.Slice.slicePlaces lo hi 1)) _ _ s
  rw [adjust_gen lo hi n]
  show wpAny _ _ (pure (((sIx n 0 lo : Nat) : Int), (1 : Int), Builtin.Slice.slicePlaces ((sIx n 0 lo : Nat) : Int) ((sIx n n hi : Nat) : Int) 1)) _ _ s
  rw [places_gen]
  exact wpAny_pure h
theorem pick_gen (xs : Array Value) (i k : Nat) : ((List.range k).filterMap fun (m : Nat) => xs[((i : Int) + (m : Int) * 1).toNat]?).toArray = ((xs.toList.drop i).take k).toArray := by
  have e : (fun (m : Nat) => xs[((i : Int) + (m : Int) * 1).toNat]?) = fun m => xs[i + m]? := by
    funext m
    have : ((i : Int) + (m : Int) * 1).toNat = i + m := by omega
    rw [this]
  rw [e]
  have := pick_run xs i k
  rw [List.filterMap_map] at this
  have e2 : ((fun x => xs[x]?) ∘ fun x => i + x) = fun m => xs[i + m]? := rfl
  rw [e2] at this
  rw [this]

theorem getItem_tuple_cut {t sl : Addr} {items : Array Value} {vl vu : Value} {lo hi : Option Int} {Q : Value → Shared → Prop} (ht : IsTup s.heap t items) (hs : s.heap.IsSliceOf sl vl vu .none) (pl : IsPart vl lo) (pu : IsPart vu hi)
    (hw : ¬ (sIx items.size 0 lo = 0 ∧ sIx items.size items.size hi = items.size))
    (h : Q (.ref s.heap.objs.size) { s with heap := s.heap.push { cls := .type "tuple", data := .seq ((items.toList.drop (sIx items.size 0 lo)).take (sIx items.size items.size hi - sIx items.size 0 lo)).toArray } })
    (hsz : items.size ≤ sizeLine) : wpAny (model prog w) A (getItem (.ref t) (.ref sl)) Q E s := by
  have htake : sizeOk (.seq ((items.toList.drop (sIx items.size 0 lo)).take (sIx items.size items.size hi - sIx items.size 0 lo)).toArray) := by
    show ((items.toList.drop (sIx items.size 0 lo)).take (sIx items.size items.size hi - sIx items.size 0 lo)).toArray.size ≤ sizeLine
    rw [List.size_toArray, List.length_take, List.length_drop, Array.length_toList]
    omega
  have hj : sIx items.size items.size hi ≤ items.size := sIx_le _ _ (Nat.le_refl _) hi
  obtain ⟨os, hos, hcs, hds⟩ := id hs
  have hTs : s.TypeIs (.ref sl) "slice" := ⟨os, hos, hcs⟩
  unfold getItem
  try with_reducible refine wpAny_holding ?_
  first | refine wpAny_bind (wpAny_pure ?_) | skip
  refine wpAny_bind (wpAny_sequenceKey ht.typeIs (by decide) ?_)
  refine wpAny_bind (wpAny_callSpecial?_slot (name := Str.ofString "__getitem__") ht.typeIs PyProof.Rows.slot_tuple_getitem
    (wpAny_call_entry PyProof.Rows.slot_tuple_getitem ht.typeIs entry_tuple_getitem ?_ (args_tuple_getitem _ _)))
  show wpAny _ _ (Builtin.Tuple.tupleItemsOf (.ref t) >>= _) _ _ s
  refine wpAny_bind (tupleItemsOf_ ht ?_)
  refine wpAny_bind (wpAny_typeOf hTs ?_)
  rw [if_pos (by decide)]
  refine wpAny_bind (sliceApplied_gen hs pl pu ?_)
  have hno : ¬ ((((sIx items.size 0 lo : Nat) : Int) == 0 && (1 : Int) == 1 && (sIx items.size items.size hi - sIx items.size 0 lo) == items.size) = true) := by
    intro q
    rw [Bool.and_eq_true, Bool.and_eq_true] at q
    have q1 : ((sIx items.size 0 lo : Nat) : Int) = 0 := eq_of_beq q.1.1
    have q2 : sIx items.size items.size hi - sIx items.size 0 lo = items.size := eq_of_beq q.2
    exact hw ⟨by omega, by omega⟩
  show wpAny _ _ (if (((sIx items.size 0 lo : Nat) : Int) == 0 && (1 : Int) == 1 && (sIx items.size items.size hi - sIx items.size 0 lo) == items.size) = true then _ else _) _ _ s
  rw [if_neg hno, pick_gen]
  first
    | exact wpAny_bind (m := Builtin.Tuple.tupleExact _) (wpAny_newObj_type (wpAny_pure ⟨_, rfl, wpAny_pure h⟩) htake)
    | exact wpAny_bind (m := Builtin.Tuple.tupleExact _) (wpAny_newObj_type (wpAny_bind (wpAny_pure (wpAny_pure ⟨_, rfl, wpAny_pure h⟩))) htake)
    | exact wpAny_bind (wpAny_bind (m := Builtin.Tuple.tupleExact _) (wpAny_newObj_type (wpAny_pure (wpAny_pure ⟨_, rfl, wpAny_pure h⟩)) htake))
    | exact wpAny_bind (wpAny_bind (m := Builtin.Tuple.tupleExact _) (wpAny_newObj_type (wpAny_pure ⟨_, rfl, wpAny_pure h⟩) htake))
end
end HT

namespace L2
open PySem PySem.Spec PyProof.Rows

/-! ### the parts of a slice -/
abbrev TO := St → Hp → (Option Int → Hp → Prop) → Prop
/-- a slice's part (left out, or an int) -/
def PO (X : Cx) (e : Option Expr) (t : TO) : Prop :=
  ∀ (pins : List (Addr × Obj)) (s : Shared) (σ : St) (H : Hp) (Q : Option Int → Hp → Prop), Inv X pins σ H s → t σ H Q →
    wpAny (model X.prog X.w) X.A (evalPart e X.env) (fun u s' => ∃ o H', Inv X pins σ H' s' ∧ IsPart u o ∧ Q o H') X.xe s
def tNoPart : TO := fun _ H Q => Q none H
def tPart (t : TE) : TO := fun σ H Q => t σ H fun x H1 => ∃ i, x = .int i ∧ Q (some i) H1

theorem intsAre_of {ns : List Int} : ∀ {us : List Value}, Vals (ns.map V.int) us → IntsAre us ns := by
  induction ns with
  | nil => intro us r; rw [List.map_nil] at r; cases r; exact .nil
  | cons n ns ih =>
    intro us r
    rw [List.map_cons] at r
    cases r with
    | cons r1 r2 =>
      obtain ⟨t, e⟩ := r1
      subst e
      exact .cons n t (ih r2)

section
variable {X : Cx} {e : Expr} {te : TE} {lo hi : Option Expr} {tl th : TO} {pos p2 : Pos}

theorem po_none : PO X none tNoPart := by
  intro pins s σ H Q I h
  rw [evalPart_none]
  exact wpAny_pure ⟨none, H, I, .none, h⟩
theorem po_some (h : PE X e te) : PO X (some e) (tPart te) := by
  intro pins s σ H Q I hw
  rw [evalPart_some]
  refine thn (h pins s σ H _ I hw) fun u s1 ⟨x, H1, I1, r1, q1⟩ => ?_
  obtain ⟨i, rfl, q⟩ := q1
  obtain ⟨t, rfl⟩ := r1
  exact ⟨some i, H1, I1, .int i t, q⟩

/-- what a slice of a value is, by values: the slice object stands at sl -/
def SlR (X : Cx) (r : V → Option Int → Option Int → Hp → VK → Prop) : Prop :=
  ∀ (pins : List (Addr × Obj)) (s : Shared) (σ : St) (H : Hp) (x : V) (v vl vu : Value) (lo hi : Option Int) (sl : Addr) (Q : VK), Inv X pins σ H s → RelV x v → s.heap.IsSliceOf sl vl vu .none → IsPart vl lo → IsPart vu hi → r x lo hi H Q →
    ∃ T id, typeLookup (.type T) "__getitem__" = pure (some (.builtin id)) ∧ s.TypeIs v T ∧ wpAny (model X.prog X.w) X.A (getItem v (.ref sl)) (EP X pins σ Q) X.xe s
theorem SlR.or {r r' : V → Option Int → Option Int → Hp → VK → Prop} (h : SlR X r) (h' : SlR X r') : SlR X (fun x lo hi H Q => r x lo hi H Q ∨ r' x lo hi H Q) := by
  intro pins s σ H x v vl vu lo hi sl Q I rx hs pl pu q
  rcases q with q | q
  · exact h pins s σ H x v vl vu lo hi sl Q I rx hs pl pu q
  · exact h' pins s σ H x v vl vu lo hi sl Q I rx hs pl pu q
def tSl (r : V → Option Int → Option Int → Hp → VK → Prop) (te : TE) (tl th : TO) : TE := fun σ H Q => te σ H fun x H1 => tl σ H1 fun l H2 => th σ H2 fun u H3 => r x l u H3 Q
/-- a[lo:hi], any a -/
theorem pe_slice {r : V → Option Int → Option Int → Hp → VK → Prop} (hr : SlR X r) (he : PE X e te) (hl : PO X lo tl) (hu : PO X hi th) : PE X (.Subscript e (.Slice lo hi none p2) pos) (tSl r te tl th) := by
  intro pins s σ H Q I h
  refine Subscript_ (thn (he pins s σ H _ I h) fun v s1 ⟨x, H1, I1, r1, q1⟩ => ?_)
  refine wpAny_Slice (thn (hl pins s1 σ H1 _ I1 q1) fun vl s2 ⟨l, H2, I2, pl, q2⟩ => thn (hu pins s2 σ H2 _ I2 q2) fun vu s3 ⟨u, H3, I3, pu, q3⟩ => ?_)
  rw [evalPart_none]
  refine wpAny_pure ?_
  have I4 : Inv X pins σ H3 { s3 with heap := s3.heap.push { cls := .type "slice", data := .fields #[vl, vu, .none] } } := I3.kept (t' := s3.toks) fun b ob q => Heap.get?_push_of_some _ q
  obtain ⟨T, id, hT, ht, hg⟩ := hr pins { s3 with heap := s3.heap.push { cls := .type "slice", data := .fields #[vl, vu, .none] } } σ H3 x v vl vu l u s3.heap.objs.size Q I4 r1 (Heap.IsSliceOf.new ..) pl pu q3
  show wpAny (model X.prog X.w) X.A (subscriptTail e (.Slice lo hi none p2) v (.ref s3.heap.objs.size)) (EP X pins σ Q) X.xe { s3 with heap := s3.heap.push { cls := .type "slice", data := .fields #[vl, vu, .none] } }
  exact tail_any (ops := [.ref s3.heap.objs.size, v]) ht hT hg (by with_unfolding_all rfl)

/-- the items of xs[lo:hi] -/
def cutV (xs : List V) (lo hi : Option Int) : List V := (xs.drop (HT.sIx xs.length 0 lo)).take (HT.sIx xs.length xs.length hi - HT.sIx xs.length 0 lo)
theorem cutV_length (xs : List V) (lo hi : Option Int) : (cutV xs lo hi).length ≤ xs.length := by
  unfold cutV
  rw [List.length_take, List.length_drop]
  omega
/-- t[lo:hi], not the whole of it (the whole would be t itself) -/
def rSlT (K : PySem.W.Frag) : V → Option Int → Option Int → Hp → VK → Prop := fun x lo hi H Q => ∃ a xs, x = .ref a ∧ SqT K H a xs ∧
  ¬ (HT.sIx xs.length 0 lo = 0 ∧ HT.sIx xs.length xs.length hi = xs.length) ∧ ∀ p, H p = none → Q (.ref p) (upd H p (.tup (cutV xs lo hi)))
theorem sl_tup : SlR X (rSlT X.K) := by
  intro pins s σ H x v vl vu lo hi sl Q I rx hs pl pu h
  obtain ⟨a, xs, rfl, hx, hw, q⟩ := h
  cases rx
  obtain ⟨its, r, ht, hz⟩ := I.tuple hx
  have hlen : its.toArray.size = xs.length := by rw [List.size_toArray]; exact r.length.symm
  refine ⟨"tuple", _, PyProof.Rows.slot_tuple_getitem.lookup, ht.typeIs, ?_⟩
  refine HT.getItem_tuple_cut ht hs pl pu (by rw [hlen]; exact hw) ?_ (by rw [hlen]; exact hz)
  rw [hlen]
  refine ⟨.ref s.heap.objs.size, _, I.laid (t' := s.toks) (o := .tup (cutV xs lo hi)) (fun b ob q => Heap.get?_push_of_some _ q) (Nat.le_refl _) ?_, rfl, q _ (I.hok.fresh (Nat.le_refl _))⟩
  exact ⟨Nat.le_trans (cutV_length xs lo hi) hz, _, (r.drop (HT.sIx xs.length 0 lo)).take (HT.sIx xs.length xs.length hi - HT.sIx xs.length 0 lo), IsTup.new _ _⟩

/-! ### t < u, t + u -/
def rLtT (K : PySem.W.Frag) : R2 := fun x y H Q => ∃ a b ns ms, x = .ref a ∧ y = .ref b ∧ SqT K H a (ns.map V.int) ∧ SqT K H b (ms.map V.int) ∧ Q (.bl (HT.lexLt ns ms)) H
theorem op_ltT (hu : X.A.units < cLine) : OpR X (compareOp .Lt) (rLtT X.K) := by
  intro pins s σ H x y v u Q I rx ry h
  obtain ⟨a, b, ns, ms, rfl, rfl, ha, hb, q⟩ := h
  cases rx
  cases ry
  obtain ⟨its, r1, p1, _⟩ := I.tuple ha
  obtain ⟨its2, r2, p2, _⟩ := I.tuple hb
  have i1 : IntsAre its.toArray.toList ns := intsAre_of r1
  have i2 : IntsAre its2.toArray.toList ms := intsAre_of r2
  exact HT.lt_tupInts p1 p2 i1 i2 hu ⟨.bl (HT.lexLt ns ms), H, I, rfl, q⟩
/-- t + u, t not empty: u empty gives t itself -/
def rCatT (K : PySem.W.Frag) : R2 := fun x y H Q => ∃ a b xs ys, x = .ref a ∧ y = .ref b ∧ SqT K H a xs ∧ SqT K H b ys ∧ xs ≠ [] ∧ xs.length + ys.length ≤ sizeLine ∧
  (ys = [] → Q (.ref a) H) ∧ (ys ≠ [] → ∀ p, H p = none → Q (.ref p) (upd H p (.tup (xs ++ ys))))
theorem Vals.nil_iff {xs : List V} {us : List Value} (r : Vals xs us) : us = [] ↔ xs = [] := by
  cases r with
  | nil => simp
  | cons _ _ => simp
theorem op_catT : OpR X (binaryOp .Add) (rCatT X.K) := by
  intro pins s σ H x y v u Q I rx ry h
  obtain ⟨a, b, xs, ys, rfl, rfl, ha, hb, hx, hz, q1, q2⟩ := h
  cases rx
  cases ry
  obtain ⟨its, r1, p1, _⟩ := I.tuple ha
  obtain ⟨its2, r2, p2, _⟩ := I.tuple hb
  refine HT.cat_tup p1 p2 (fun z => hx (r1.nil_iff.mp z)) (fun z => ⟨.ref a, H, I, rfl, q1 (r2.nil_iff.mp z)⟩) (fun z => ?_) (by rw [← r1.length, ← r2.length]; exact hz)
  refine ⟨.ref s.heap.objs.size, _, I.laid (t' := s.toks) (o := .tup (xs ++ ys)) (fun b ob q => Heap.get?_push_of_some _ q) (Nat.le_refl _) ?_, rfl, q2 (fun w => z (r2.nil_iff.mpr w)) _ (I.hok.fresh (Nat.le_refl _))⟩
  exact ⟨by rw [List.length_append]; exact hz, _, r1.append r2, IsTup.new _ _⟩
/-- tuple(t) -/
theorem call_tupleT : CallR X (.type "tuple") (fun xs H Q => ∃ a ys, xs = [.ref a] ∧ SqT X.K H a ys ∧ Q (.ref a) H) := by
  intro pins s σ H xs us Q I r h
  obtain ⟨a, ys, rfl, ha, q⟩ := h
  obtain ⟨u, rfl, ru⟩ := vals1 r
  cases ru
  obtain ⟨its, _, p1, _⟩ := I.tuple ha
  exact call_tuple_same (items := its.toArray) p1 ⟨.ref a, H, I, rfl, q⟩
end
end L2

namespace L2
open PySem PySem.Spec PyProof.Rows

/-! ### places -/
/-- the place that an index of any sign means -/
def ixN (n : Nat) (i : Int) : Option Nat := if 0 ≤ i then (if i < n then some i.toNat else none) else if -(n : Int) ≤ i then some (i + n).toNat else none
def atI {α : Type} (xs : List α) (i : Int) : Option α := (ixN xs.length i).bind fun j => xs[j]?
theorem ixN_seq {n : Nat} {i : Int} {j : Nat} (h : ixN n i = some j) : seqIndex? i n = some j ∧ j < n ∧ -(n : Int) ≤ i ∧ i < n := by
  unfold ixN at h
  by_cases h0 : 0 ≤ i
  · rw [if_pos h0] at h
    by_cases h1 : i < n
    · rw [if_pos h1] at h
      have e : i.toNat = j := Option.some.inj h
      exact ⟨by rw [seqIndex_of h0 h1, e], by omega, by omega, h1⟩
    · rw [if_neg h1] at h; cases h
  · rw [if_neg h0] at h
    by_cases h1 : -(n : Int) ≤ i
    · rw [if_pos h1] at h
      have e : (i + n).toNat = j := Option.some.inj h
      exact ⟨by rw [seqIndex_neg (by omega) h1, e], by omega, h1, by omega⟩
    · rw [if_neg h1] at h; cases h
theorem atI_get {α : Type} {xs : List α} {i : Int} {v : α} (h : atI xs i = some v) : ∃ j, seqIndex? i xs.length = some j ∧ xs[j]? = some v ∧ j < xs.length ∧ -(xs.length : Int) ≤ i ∧ i < xs.length := by
  unfold atI at h
  cases e : ixN xs.length i with
  | none => rw [e] at h; cases h
  | some j =>
    rw [e] at h
    obtain ⟨h1, h2, h3, h4⟩ := ixN_seq e
    exact ⟨j, h1, h, h2, h3, h4⟩
theorem atI_nat {α : Type} {xs : List α} {j : Nat} {v : α} (h : xs[j]? = some v) : atI xs (j : Int) = some v := by
  have hj : j < xs.length := (List.getElem?_eq_some_iff.mp h).1
  have e : ixN xs.length (j : Int) = some j := by
    unfold ixN
    rw [if_pos (by omega), if_pos (by omega)]; simp
  unfold atI; rw [e]; exact h
theorem atI_last {α : Type} (xs : List α) (v : α) : atI (xs ++ [v]) (-1) = some v := by
  have hl : (xs ++ [v]).length = xs.length + 1 := by simp
  have e : ixN (xs ++ [v]).length (-1) = some xs.length := by
    unfold ixN
    rw [hl, if_neg (by decide), if_pos (by omega)]
    congr 1
    omega
  unfold atI
  rw [e]
  show (xs ++ [v])[xs.length]? = some v
  simp

/-! ### what may be subscripted -/
/-- what stands as an index of a plain subscript -/
def PlainIx (b : Expr) : Prop := ∀ o i, subscripted b false o i = operate [o, i] (getItem o i)
/-- a subscript by values -/
def IxR (X : Cx) (r : R2) : Prop :=
  ∀ (value slice : Expr) (pins : List (Addr × Obj)) (s : Shared) (σ : St) (H : Hp) (x y : V) (v u : Value) (Q : VK), Inv X pins σ H s → RelV x v → RelV y u → r x y H Q →
    subscripted slice false v u = operate [v, u] (getItem v u) → wpAny (model X.prog X.w) X.A (subscriptTail value slice v u) (EP X pins σ Q) X.xe s
/-- a call of a builtin's method by values: the receiver, the arguments -/
def MtR (X : Cx) (id : String) (r : V → List V → Hp → VK → Prop) : Prop :=
  ∀ (pins : List (Addr × Obj)) (s : Shared) (σ : St) (H : Hp) (x : V) (xs : List V) (v : Value) (us : List Value) (Q : VK), Inv X pins σ H s → RelV x v → Vals xs us → r x xs H Q →
    wpAny (model X.prog X.w) X.A (call (.builtin id) (v :: us)) (EP X pins σ Q) X.xe s
section
variable {X : Cx} {a b : Expr} {ta tb : TE} {pos : Pos}
theorem IxR.or {r r' : R2} (h : IxR X r) (h' : IxR X r') : IxR X (fun x y H Q => r x y H Q ∨ r' x y H Q) := by
  intro value slice pins s σ H x y v u Q I rx ry q hs
  rcases q with q | q
  · exact h value slice pins s σ H x y v u Q I rx ry q hs
  · exact h' value slice pins s σ H x y v u Q I rx ry q hs
theorem MtR.or {id : String} {r r' : V → List V → Hp → VK → Prop} (h : MtR X id r) (h' : MtR X id r') : MtR X id (fun x xs H Q => r x xs H Q ∨ r' x xs H Q) := by
  intro pins s σ H x xs v us Q I rx rs q
  rcases q with q | q
  · exact h pins s σ H x xs v us Q I rx rs q
  · exact h' pins s σ H x xs v us Q I rx rs q
/-- a[b] -/
theorem pe_ix {r : R2} (hr : IxR X r) (ha : PE X a ta) (hb : PE X b tb) (hs : PlainIx b) : PE X (.Subscript a b pos) (tOp r ta tb) := by
  intro pins s σ H Q I h
  exact Subscript_ (binT ha hb I h fun v u s2 x y H2 I2 rx ry q => hr a b pins s2 σ H2 x y v u Q I2 rx ry q (hs _ _))

def rIxL (K : PySem.W.Frag) : R2 := fun x y H Q => ∃ p xs i v, x = .ref p ∧ y = .int i ∧ SqL K H p xs ∧ atI xs i = some v ∧ Q v H
def rIxT (K : PySem.W.Frag) : R2 := fun x y H Q => ∃ p xs i v, x = .ref p ∧ y = .int i ∧ SqT K H p xs ∧ atI xs i = some v ∧ Q v H
def rIxS : R2 := fun x y H Q => ∃ z i c, x = .str z ∧ y = .int i ∧ z.length ≤ sizeLine ∧ atI z.cps.toList i = some c ∧ Q (.str ⟨#[c]⟩) H
theorem ix_list : IxR X (rIxL X.K) := by
  intro value slice pins s σ H x y v u Q I rx ry h hs
  obtain ⟨p, xs, i, z, rfl, rfl, hq, he, q⟩ := h
  cases rx
  obtain ⟨t, rfl⟩ := ry
  obtain ⟨its, r, pl, hz⟩ := I.list hq
  obtain ⟨j, h1, h2, h3, h4, h5⟩ := atI_get he
  obtain ⟨w, ew, rw'⟩ := r.get h2
  have hl := r.length
  have hn := line63
  have fin : EP X pins σ Q w s := ⟨z, H, I, rw', q⟩
  by_cases h0 : 0 ≤ i
  · have hj : i.toNat = j := by
      rw [seqIndex_of h0 h5] at h1
      exact Option.some.inj h1
    exact item_listR pl.isList h0 (by omega) (by rw [hj]; simpa using ew) fin hs
  · have hj : (i + (its.toArray.size : Int)).toNat = j := by
      rw [seqIndex_neg (by omega) h4] at h1
      rw [List.size_toArray, ← hl]
      exact Option.some.inj h1
    exact subscriptTail_builtinR (x := w) pl.isList.typeIs slot_list_getitem.lookup
      (wpAny_getItem_list_neg (Q := fun r s' => r = w ∧ EP X pins σ Q r s') pl.isList (by omega) (by rw [List.size_toArray] <;> omega) (by omega) (by rw [hj]; simpa using ew) ⟨rfl, fin⟩) hs
theorem ix_tup : IxR X (rIxT X.K) := by
  intro value slice pins s σ H x y v u Q I rx ry h hs
  obtain ⟨p, xs, i, z, rfl, rfl, hq, he, q⟩ := h
  cases rx
  obtain ⟨t, rfl⟩ := ry
  obtain ⟨its, r, pl, hz⟩ := I.tuple hq
  obtain ⟨j, h1, h2, h3, h4, h5⟩ := atI_get he
  obtain ⟨w, ew, rw'⟩ := r.get h2
  have hl := r.length
  have hn := line63
  have fin : EP X pins σ Q w s := ⟨z, H, I, rw', q⟩
  exact subscriptTail_builtinR (x := w) pl.typeIs slot_tuple_getitem.lookup
    (getItem_tuple (j := j) (Q := fun r s' => r = w ∧ EP X pins σ Q r s') pl (by omega) (by omega) (by rw [List.size_toArray, ← hl]; exact h1) (by simpa using ew) ⟨rfl, fin⟩) hs
theorem ix_str : IxR X rIxS := by
  intro value slice pins s σ H x y v u Q I rx ry h hs
  obtain ⟨z, i, c, rfl, rfl, hz, he, q⟩ := h
  obtain ⟨t, rfl⟩ := rx
  obtain ⟨t', rfl⟩ := ry
  obtain ⟨j, h1, h2, h3, h4, h5⟩ := atI_get he
  have hl : z.cps.toList.length = z.length := by simp [Str.length]
  rw [hl] at h1 h4 h5
  have hn := line63
  exact tail_any (typeIs_str s z t) slot_str_getitem.lookup (getItem_str (c := c) (by
    have e1 : decide (i < -(2 ^ 63 : Int)) = false := decide_eq_false (by omega)
    have e2 : decide (i ≥ 2 ^ 63) = false := decide_eq_false (by omega)
    rw [e1, e2, Bool.or_false]) (by rw [h1]; simpa using h2) ⟨.str ⟨#[c]⟩, H, I.tok _, ⟨_, rfl⟩, q⟩) hs
/-- list, tuple or str -/
def rIx (K : PySem.W.Frag) : R2 := fun x y H Q => rIxL K x y H Q ∨ rIxT K x y H Q ∨ rIxS x y H Q
theorem ix_seq : IxR X (rIx X.K) := ix_list.or (ix_tup.or ix_str)

/-! ### xs[i] = v, any sign -/
/-- the list's object behind a store -/
theorem mapSeq_set (its : List Value) (n j : Nat) (u : Value) : Obj.mapSeq (·.setIfInBounds j u) { cls := .type "list", data := .seq its.toArray n } = { cls := .type "list", data := .seq (its.set j u).toArray n } := by
  simp [Obj.mapSeq]
theorem Inv.lst {pins : List (Addr × Obj)} {σ : St} {H : Hp} {s : Shared} {p : Addr} {xs : List V} (I : Inv X pins σ H s) (h : H p = some (.lst xs)) :
    ∃ (its : List Value) (n : Nat), Vals xs its ∧ s.heap.get? p = some { cls := .type "list", data := .seq its.toArray n } ∧ xs.length ≤ sizeLine := by
  obtain ⟨z, its, n, r, e⟩ := I.hok p _ h
  exact ⟨its, n, r, e, z⟩
/-- the list at p is written by an update of its object -/
theorem Inv.lstUpd {pins : List (Addr × Obj)} {σ : St} {H : Hp} {s : Shared} {p : Addr} {xs ys : List V} {its its' : List Value} {n n' : Nat} {f : Obj → Obj} (I : Inv X pins σ H s) (h : H p = some (.lst xs))
    (ho : s.heap.get? p = some { cls := .type "list", data := .seq its.toArray n }) (hf : f { cls := .type "list", data := .seq its.toArray n } = { cls := .type "list", data := .seq its'.toArray n' }) (r : Vals ys its') (hz : ys.length ≤ sizeLine) (t : Nat) :
    Inv X pins σ (upd H p (.lst ys)) { s with heap := s.heap.update p f, toks := t } := by
  have e : (s.heap.update p f).get? p = some { cls := .type "list", data := .seq its'.toArray n' } := by
    rw [Heap.get?_update_self f ho (by rw [hf] <;> rfl), hf]
  refine I.write (x := p) (e := p) (by rw [h]; trivial) (.inl rfl) (fun b u hb q => (Heap.get?_update_other _ _ (Ne.symm hb)).trans q) ⟨_, e⟩ ?_
  exact ⟨hz, its', n', r, e⟩
def rSetL : V → V → V → Hp → (Hp → Prop) → Prop := fun o i v H Q => ∃ p xs k j, o = .ref p ∧ i = .int k ∧ H p = some (.lst xs) ∧ ixN xs.length k = some j ∧ Q (upd H p (.lst (xs.set j v)))
theorem set_list : PSet X rSetL := by
  intro pins s σ H o i v ov iv u Q I ro ri rv h
  obtain ⟨p, xs, k, j, rfl, rfl, hp, hj, q⟩ := h
  cases ro
  obtain ⟨t, rfl⟩ := ri
  obtain ⟨its, n, r, ho, hz⟩ := I.lst hp
  obtain ⟨h1, h2, h3, h4⟩ := ixN_seq hj
  have hl := r.length
  have hn := line63
  have I' : Inv X pins σ (upd H p (.lst (xs.set j v))) { s with heap := s.heap.update p (Obj.mapSeq (·.setIfInBounds j u)) } :=
    I.lstUpd hp ho (mapSeq_set its n j u) (r.set rv j) (by rw [List.length_set]; exact hz) s.toks
  by_cases h0 : 0 ≤ k
  · have hk : k.toNat = j := by
      rw [seqIndex_of h0 h4] at h1
      exact Option.some.inj h1
    exact PySem.W.ki_setAt ho h0 (by omega) (by rw [List.size_toArray, ← hl]; exact h4) (by rw [hk]; exact ⟨_, I', q⟩)
  · have hk : (k + (its.toArray.size : Int)).toNat = j := by
      rw [seqIndex_neg (by omega) h3] at h1
      rw [List.size_toArray, ← hl]
      exact Option.some.inj h1
    exact PySem.W.ki_setBack ho (by omega) (by rw [List.size_toArray, ← hl]; exact h3) (by omega) (by rw [hk]; exact ⟨_, I', q⟩)

/-! ### slices -/
theorem slice_bounds (lo hi : Option Int) (n : Nat) : (sliceBounds lo hi none n).1 = ((HT.sIx n 0 lo : Nat) : Int) ∧ (sliceBounds lo hi none n).2.1 = ((HT.sIx n n hi : Nat) : Int) ∧ (sliceBounds lo hi none n).2.2 = 1 := by
  refine ⟨?_, ?_, rfl⟩
  · cases lo with
    | none => simp [sliceBounds, HT.sIx]
    | some i =>
      simp only [sliceBounds, HT.sIx, Option.getD_none, show (1 : Int) > 0 by decide, if_true]
      by_cases h : i < 0
      · simp only [h, if_true] <;> omega
      · simp only [h, if_false] <;> omega
  · cases hi with
    | none => simp [sliceBounds, HT.sIx]
    | some i =>
      simp only [sliceBounds, HT.sIx, Option.getD_none, show (1 : Int) > 0 by decide, if_true]
      by_cases h : i < 0
      · simp only [h, if_true] <;> omega
      · simp only [h, if_false] <;> omega
theorem slicePick_cut (its : List Value) (lo hi : Option Int) : slicePick its.toArray lo hi none = ((its.drop (HT.sIx its.length 0 lo)).take (HT.sIx its.length its.length hi - HT.sIx its.length 0 lo)).toArray := by
  obtain ⟨h1, h2, h3⟩ := slice_bounds lo hi its.toArray.size
  unfold slicePick
  rw [h1, h2, h3]
  simp only [sliceRange_one, pick_run, List.size_toArray] <;> rfl
/-- xs[lo:hi] of a list: a new list -/
def rSlL (K : PySem.W.Frag) : V → Option Int → Option Int → Hp → VK → Prop := fun x lo hi H Q => ∃ a xs, x = .ref a ∧ SqL K H a xs ∧ ∀ p, H p = none → Q (.ref p) (upd H p (.lst (cutV xs lo hi)))
theorem sl_list : SlR X (rSlL X.K) := by
  intro pins s σ H x v vl vu lo hi sl Q I rx hs pl pu h
  obtain ⟨a, xs, rfl, hx, q⟩ := h
  cases rx
  obtain ⟨its, r, ht, hz⟩ := I.list hx
  have hlen := r.length
  refine ⟨"list", _, slot_list_getitem.lookup, ht.isList.typeIs, ?_⟩
  refine wpAny_getItem_list_slice ht.isList hs pl pu .none (by simp) ?_ (by rw [List.size_toArray] <;> omega)
  rw [slicePick_cut, ← hlen]
  refine ⟨.ref s.heap.objs.size, _, I.laid (t' := s.toks) (o := .lst (cutV xs lo hi)) (fun b ob q => Heap.get?_push_of_some _ q) (Nat.le_refl _) ?_, rfl, q _ (I.hok.fresh (Nat.le_refl _))⟩
  exact ⟨Nat.le_trans (cutV_length xs lo hi) hz, _, 0, (r.drop (HT.sIx xs.length 0 lo)).take (HT.sIx xs.length xs.length hi - HT.sIx xs.length 0 lo), Heap.get?_push_size _ rfl⟩

/-! ### in, not in: flat items -/
def flatV : V → Bool
  | .non => true
  | .bl _ => true
  | .int _ => true
  | .str _ => true
  | _ => false
/-- == of flat values -/
def eqV : V → V → Bool
  | .non, .non => true
  | .bl a, .bl b => a == b
  | .bl a, .int b => (if a then 1 else 0) == b
  | .int a, .bl b => a == (if b then 1 else 0)
  | .int a, .int b => a == b
  | .str a, .str b => a == b
  | _, _ => false
theorem eqAt_V {A : Around} {s : Shared} {y x : V} {u v : Value} (ry : RelV y u) (rx : RelV x v) (fy : flatV y = true) (fx : flatV x = true) : SeqAt.EqAt A s u v (eqV y x) := by
  cases y with
  | non =>
    cases ry
    cases x with
    | non => cases rx; exact SeqAt.EqAt.same _
    | bl b => cases rx; exact SeqAt.EqAt.none_bool b
    | int b => obtain ⟨t, rfl⟩ := rx; exact SeqAt.EqAt.none_int b t
    | str b => obtain ⟨t, rfl⟩ := rx; exact SeqAt.EqAt.none_str b t
    | _ => exact absurd (show false = true from fx) Bool.false_ne_true
  | bl a =>
    cases ry
    cases x with
    | non => cases rx; exact SeqAt.EqAt.bool_none a
    | bl b => cases rx; exact SeqAt.EqAt.bool_bool a b
    | int b => obtain ⟨t, rfl⟩ := rx; exact SeqAt.EqAt.bool_int a b t
    | str b => obtain ⟨t, rfl⟩ := rx; exact SeqAt.EqAt.bool_str a b t
    | _ => exact absurd (show false = true from fx) Bool.false_ne_true
  | int a =>
    obtain ⟨t', rfl⟩ := ry
    cases x with
    | non => cases rx; exact SeqAt.EqAt.int_none a t'
    | bl b => cases rx; exact SeqAt.EqAt.int_bool a t' b
    | int b => obtain ⟨t, rfl⟩ := rx; exact SeqAt.EqAt.int_int a t' b t
    | str b => obtain ⟨t, rfl⟩ := rx; exact SeqAt.EqAt.int_str a t' b t
    | _ => exact absurd (show false = true from fx) Bool.false_ne_true
  | str a =>
    obtain ⟨t', rfl⟩ := ry
    cases x with
    | non => cases rx; exact SeqAt.EqAt.str_none a t'
    | bl b => cases rx; exact SeqAt.EqAt.str_bool a t' b
    | int b => obtain ⟨t, rfl⟩ := rx; exact SeqAt.EqAt.str_int a t' b t
    | str b => obtain ⟨t, rfl⟩ := rx; exact SeqAt.EqAt.str_str a t' b t
    | _ => exact absurd (show false = true from fx) Bool.false_ne_true
  | _ => exact absurd (show false = true from fy) Bool.false_ne_true
/-- the items' answers, read off the values (a value's own answer does not lean on its token) -/
def eqU (x : V) (u : Value) : Bool := match u with
  | .none => eqV .non x
  | .bool b => eqV (.bl b) x
  | .int i _ => eqV (.int i) x
  | .str z _ => eqV (.str z) x
  | _ => false
theorem eqU_of {x y : V} {u : Value} (r : RelV y u) (f : flatV y = true) : eqU x u = eqV y x := by
  cases y with
  | non => cases r; rfl
  | bl b => cases r; rfl
  | int i => obtain ⟨t, rfl⟩ := r; rfl
  | str z => obtain ⟨t, rfl⟩ := r; rfl
  | _ => exact absurd (show false = true from f) Bool.false_ne_true
theorem any_eqU {x : V} : ∀ {xs : List V} {us : List Value}, Vals xs us → xs.all flatV = true → us.any (eqU x) = xs.any fun y => eqV y x
  | _, _, .nil, _ => rfl
  | y :: xs, u :: us, .cons r t, f => by
    rw [List.all_cons, Bool.and_eq_true] at f
    rw [List.any_cons, List.any_cons, eqU_of r f.1, any_eqU t f.2]
theorem mem_eqAt {A : Around} {s : Shared} {x : V} {v : Value} (rx : RelV x v) (fx : flatV x = true) : ∀ {xs : List V} {us : List Value}, Vals xs us → xs.all flatV = true → ∀ u ∈ us, SeqAt.EqAt A s u v (eqU x u)
  | _, _, .nil, _ => fun u hu => by cases hu
  | y :: xs, u :: us, .cons r t, f => fun u' hu => by
    rw [List.all_cons, Bool.and_eq_true] at f
    rcases List.mem_cons.mp hu with rfl | hu
    · rw [eqU_of r f.1]; exact eqAt_V r rx f.1 fx
    · exact mem_eqAt rx fx t f.2 u' hu
def inV (x : V) (xs : List V) : Bool := xs.any fun y => eqV y x
/-- x in a list or tuple of flat items -/
def rIn (K : PySem.W.Frag) (neg : Bool) : R2 := fun x y H Q => ∃ p xs, y = .ref p ∧ (SqL K H p xs ∨ SqT K H p xs) ∧ flatV x = true ∧ xs.all flatV = true ∧ Q (.bl (if neg then !inV x xs else inV x xs)) H
theorem op_in_seq : OpR X (compareOp .In) (rIn X.K false) := by
  intro pins s σ H x y v u Q I rx ry h
  obtain ⟨p, xs, rfl, hq, fx, fs, q⟩ := h
  cases ry
  rcases hq with hq | hq
  · obtain ⟨its, r, pl, hz⟩ := I.list hq
    refine SeqAt.in_listAt (eqU x) pl.isList (fun w hw => mem_eqAt rx fx r fs w (by simpa using hw)) ⟨.bl _, H, I, rfl, ?_⟩
    rw [show its.toArray.any (eqU x) = its.any (eqU x) by simp, any_eqU r fs]
    exact q
  · obtain ⟨its, r, pl, hz⟩ := I.tuple hq
    refine SeqAt.in_tupleAt (eqU x) pl (fun w hw => mem_eqAt rx fx r fs w (by simpa using hw)) ⟨.bl _, H, I, rfl, ?_⟩
    rw [show its.toArray.any (eqU x) = its.any (eqU x) by simp, any_eqU r fs]
    exact q
theorem op_notIn_seq : OpR X (compareOp .NotIn) (rIn X.K true) := by
  intro pins s σ H x y v u Q I rx ry h
  obtain ⟨p, xs, rfl, hq, fx, fs, q⟩ := h
  cases ry
  rcases hq with hq | hq
  · obtain ⟨its, r, pl, hz⟩ := I.list hq
    refine SeqAt.notIn_listAt (eqU x) pl.isList (fun w hw => mem_eqAt rx fx r fs w (by simpa using hw)) ⟨.bl _, H, I, rfl, ?_⟩
    rw [show its.toArray.any (eqU x) = its.any (eqU x) by simp, any_eqU r fs]
    exact q
  · obtain ⟨its, r, pl, hz⟩ := I.tuple hq
    refine SeqAt.notIn_tupleAt (eqU x) pl (fun w hw => mem_eqAt rx fx r fs w (by simpa using hw)) ⟨.bl _, H, I, rfl, ?_⟩
    rw [show its.toArray.any (eqU x) = its.any (eqU x) by simp, any_eqU r fs]
    exact q
theorem op_notIn_str : OpR X (compareOp .NotIn) (fun x y H Q => ∃ i j, x = .str i ∧ y = .str j ∧ Q (.bl (!(!(Builtin.Str.occurrences j i 0 j.length 1).isEmpty))) H) := by
  intro pins s σ H x y v u Q I rx ry h
  obtain ⟨i, j, rfl, rfl, q⟩ := h
  obtain ⟨t, rfl⟩ := rx
  obtain ⟨t', rfl⟩ := ry
  exact notIn_str ⟨.bl _, H, I, rfl, q⟩

/-! ### len, list(x), tuple(x) of any list or tuple that is read -/
theorem call_len_seq : CallR X (.builtin "len") (fun xs H Q => ∃ p ys, xs = [.ref p] ∧ (SqL X.K H p ys ∨ SqT X.K H p ys) ∧ Q (.int ys.length) H) := by
  intro pins s σ H xs us Q I r h
  obtain ⟨p, ys, rfl, hq, q⟩ := h
  obtain ⟨u, rfl, rx⟩ := vals1 r
  cases rx
  have hn := line63
  rcases hq with hq | hq
  · obtain ⟨its, r', pl, hz⟩ := I.list hq
    have hlen := r'.length
    exact Calls.call_len_list pl.isList (by simp only [List.size_toArray] <;> omega) ⟨.int ys.length, H, I.tok _, ⟨s.toks + 1, by rw [List.size_toArray, hlen]⟩, q⟩
  · obtain ⟨its, r', pl, hz⟩ := I.tuple hq
    have hlen := r'.length
    exact len_tuple pl (by simp only [List.size_toArray] <;> omega) ⟨.int ys.length, H, I.tok _, ⟨s.toks + 1, by rw [List.size_toArray, hlen]⟩, q⟩
theorem call_len_str : CallR X (.builtin "len") (fun xs H Q => ∃ z, xs = [.str z] ∧ z.length ≤ sizeLine ∧ Q (.int z.length) H) := by
  intro pins s σ H xs us Q I r h
  obtain ⟨z, rfl, hz, q⟩ := h
  obtain ⟨u, rfl, t, rfl⟩ := vals1 r
  have hn := line63
  exact len_str (by omega) ⟨.int z.length, H, I.tok _, ⟨_, rfl⟩, q⟩
theorem CallR.or {f : Value} {r r' : List V → Hp → VK → Prop} (h : CallR X f r) (h' : CallR X f r') : CallR X f (fun xs H Q => r xs H Q ∨ r' xs H Q) := by
  intro pins s σ H xs us Q I rs q
  rcases q with q | q
  · exact h pins s σ H xs us Q I rs q
  · exact h' pins s σ H xs us Q I rs q
theorem call_list_of : CallR X (.type "list") (fun xs H Q => ∃ p ys, xs = [.ref p] ∧ (SqL X.K H p ys ∨ SqT X.K H p ys) ∧ ∀ l, H l = none → Q (.ref l) (upd H l (.lst ys))) := by
  intro pins s σ H xs us Q I r h
  obtain ⟨p, ys, rfl, hq, q⟩ := h
  obtain ⟨u, rfl, rx⟩ := vals1 r
  cases rx
  have fin : ∀ (its : List Value), Vals ys its → ys.length ≤ sizeLine → ∀ (h' : Heap) (c' : Nat), (∀ b o', s.heap.get? b = some o' → h'.get? b = some o') →
      h'.get? s.heap.objs.size = some { cls := .type "list", dict := none, data := .seq its.toArray c', slots := #[] } → EP X pins σ Q (.ref s.heap.objs.size) { s with heap := h' } := fun its r' hz h' c' kp e =>
    ⟨.ref s.heap.objs.size, _, I.laid (t' := s.toks) kp (Nat.le_refl _) (show ObjOk X.prog X.w _ h' _ (.lst ys) from ⟨hz, its, c', r', e⟩), rfl, q _ (I.hok.fresh (Nat.le_refl _))⟩
  rcases hq with hq | hq
  · obtain ⟨its, r', pl, hz⟩ := I.list hq
    have hlen := r'.length
    obtain ⟨o, ho, hc, n, hd⟩ := pl.isList
    exact call_list_seq p (.inl rfl) ho hc hd (fun h' c' kp e => fin its r' hz h' c' kp e) (by simp only [List.size_toArray] <;> omega)
  · obtain ⟨its, r', pl, hz⟩ := I.tuple hq
    have hlen := r'.length
    obtain ⟨o, ho, hc, n, hd⟩ := pl
    exact call_list_seq p (.inr rfl) ho hc hd (fun h' c' kp e => fin its r' hz h' c' kp e) (by simp only [List.size_toArray] <;> omega)
theorem call_tuple_of : CallR X (.type "tuple") (fun xs H Q => ∃ p ys, xs = [.ref p] ∧ ((SqL X.K H p ys ∧ ∀ l, H l = none → Q (.ref l) (upd H l (.tup ys))) ∨ (SqT X.K H p ys ∧ Q (.ref p) H))) := by
  intro pins s σ H xs us Q I r h
  obtain ⟨p, ys, rfl, h⟩ := h
  obtain ⟨u, rfl, rx⟩ := vals1 r
  cases rx
  rcases h with ⟨hq, q⟩ | ⟨hq, q⟩
  · obtain ⟨its, r', pl, hz⟩ := I.list hq
    have hlen := r'.length
    refine call_tuple_list pl.isList (fun h' kp => ?_) (by simp only [List.size_toArray] <;> omega)
    have I1 : Inv X pins σ H { s with heap := h' } := I.kept (t' := s.toks) kp
    have I2 : Inv X pins σ (upd H h'.objs.size (.tup ys)) { s with heap := h'.push { cls := .type "tuple", data := .seq its.toArray } } :=
      I1.laid (t' := s.toks) (fun b o e => Heap.get?_push_of_some _ e) (Nat.le_refl _) (show ObjOk X.prog X.w _ _ _ (.tup ys) from ⟨hz, its, r', IsTup.new _ _⟩)
    exact ⟨.ref h'.objs.size, _, I2, rfl, q _ (I1.hok.fresh (Nat.le_refl _))⟩
  · obtain ⟨its, r', pl, hz⟩ := I.tuple hq
    exact call_tuple_same pl ⟨.ref p, H, I, rfl, q⟩

/-! ### the call of a builtin's method: o.m(..) -/
/-- the value is of that builtin type -/
def tyV (K : PySem.W.Frag) (T : String) (x : V) (H : Hp) : Prop := match x with
  | .str _ => T = "str"
  | .int _ => T = "int"
  | .ref p => (T = "list" ∧ ∃ xs, SqL K H p xs) ∨ (T = "tuple" ∧ ∃ o, K.lookup p = some o ∧ o.cls = .type "tuple" ∧ o.dict = none) ∨
      (T = "dict" ∧ ((∃ kvs, H p = some (.dK kvs)) ∨ ∃ kvs, H p = some (.dT kvs))) ∨ (T = "set" ∧ ∃ S n, H p = some (.set S n))
  | _ => False
theorem tyV_is {pins : List (Addr × Obj)} {σ : St} {H : Hp} {s : Shared} {T : String} {x : V} {v : Value} (I : Inv X pins σ H s) (r : RelV x v) (ty : tyV X.K T x H) :
    s.TypeIs v T ∧ ∀ a, v = .ref a → ∃ ob, s.heap.get? a = some ob ∧ ob.dict = none := by
  cases x with
  | str z =>
    obtain ⟨t, rfl⟩ := r
    cases (show T = "str" from ty)
    exact ⟨typeIs_str s z t, fun _ e => nomatch e⟩
  | int i =>
    obtain ⟨t, rfl⟩ := r
    cases (show T = "int" from ty)
    exact ⟨typeIs_int s i t, fun _ e => nomatch e⟩
  | ref p =>
    cases r
    rcases ty with ⟨rfl, xs, hq⟩ | ⟨rfl, o, hk, hc, hd⟩ | ⟨rfl, hk⟩ | ⟨rfl, S, n, hk⟩
    · obtain ⟨its, _, pl, _⟩ := I.list hq
      refine ⟨pl.isList.typeIs, fun a e => ?_⟩
      cases e
      obtain ⟨o, n, e, c, hd, _⟩ := pl
      exact ⟨o, e, hd⟩
    · refine ⟨⟨o, I.kIn p o hk, hc⟩, fun a e => ?_⟩
      cases e
      exact ⟨o, I.kIn _ o hk, hd⟩
    · have z : ∃ o, s.heap.get? p = some o ∧ o.ExactDict := by
        rcases hk with ⟨kvs, hk⟩ | ⟨kvs, hk⟩
        · obtain ⟨_, _, _, _, o, _, _, e, ex, _⟩ := I.hok p _ hk
          exact ⟨o, e, ex⟩
        · obtain ⟨_, _, _, _, o, _, _, e, ex, _⟩ := I.hok p _ hk
          exact ⟨o, e, ex⟩
      obtain ⟨o, e, ex⟩ := z
      refine ⟨⟨o, e, ex.1⟩, fun a e2 => ?_⟩
      cases e2
      exact ⟨o, e, ex.2.1⟩
    · obtain ⟨o, _, _, _, e, ex, _⟩ := I.hok p _ hk
      refine ⟨⟨o, e, ex.1⟩, fun a e2 => ?_⟩
      cases e2
      exact ⟨o, e, ex.2.1⟩
  | _ => exact False.elim ty
def tBM0 (K : PySem.W.Frag) (T : String) (r : V → List V → Hp → VK → Prop) (to : TE) : TE := fun σ H Q => to σ H fun x H1 => tyV K T x H1 ∧ r x [] H1 Q
def tBM (K : PySem.W.Frag) (T : String) (r : V → List V → Hp → VK → Prop) (to : TE) (t : TA) : TE := fun σ H Q => to σ H fun x H1 => tyV K T x H1 ∧ t σ H1 fun xs H2 => r x xs H2 Q
variable {o e : Expr} {es : List Expr} {to : TE} {t : TA} {name : Str} {apos cpos : Pos} {T id : String} {r : V → List V → Hp → VK → Prop}
theorem pe_bm0 (pa : PlainAttrs T) (slot : Slot T name id) (hty : typeOf (.builtin id) = pure (.type "method_descriptor")) (hm : MtR X id r) (ho : PE X o to)
    (hbase : attributeBase o name X.env (eval o X.env) = eval o X.env := by rfl) (hline : (apos.endLine == cpos.line) = true := by rfl) : PE X (.Call (.Attribute o name apos) [] [] cpos) (tBM0 X.K T r to) := by
  intro pins s σ H Q I h
  refine wpAny_Call_method0_late hbase hline (thn (ho pins s σ H _ I h) fun v s1 ⟨x, H1, I1, r1, ty, q1⟩ => ?_)
  obtain ⟨h1, h2⟩ := tyV_is I1 r1 ty
  exact ⟨T, id, pa, slot, hty, h1, h2, Calls.callWith_builtin rfl (PySem.evalArgs_none (hm pins s1 σ H1 x [] v [] Q I1 r1 .nil q1))⟩
theorem pe_bm (pa : PlainAttrs T) (slot : Slot T name id) (hty : typeOf (.builtin id) = pure (.type "method_descriptor")) (hm : MtR X id r) (ho : PE X o to) (ha : PA X (e :: es) t)
    (hbase : attributeBase o name X.env (eval o X.env) = eval o X.env := by rfl)
    (hfew : ((backTo cpos (starEach (e :: es) X.env)).all (fun x => !x.1) && (backToKw cpos (keywordEach [] X.env)).all (fun x => x.1.isSome)
      && decide ((e :: es).length + ([] : List Keyword).length + (if ([] : List Keyword).isEmpty then 0 else 1) < 30)) = true := by rfl)
    (hline : (apos.endLine == cpos.line) = true := by rfl) (hs : starEach (e :: es) X.env = (false, eval e X.env) :: starEach es X.env := by rfl) (hplain : (backTo cpos (starEach es X.env)).any (·.1) = false := by rfl) :
    PE X (.Call (.Attribute o name apos) (e :: es) [] cpos) (tBM X.K T r to t) := by
  intro pins s σ H Q I h
  refine wpAny_Call_method_late hbase hfew hline rfl (thn (ho pins s σ H _ I h) fun v s1 ⟨x, H1, I1, r1, ty, q1⟩ => ?_)
  obtain ⟨h1, h2⟩ := tyV_is I1 r1 ty
  refine ⟨T, id, pa, slot, hty, h1, h2, ?_⟩
  have hA := ha cpos pins s1 σ H1 _ I1 q1
  rw [hs] at hA ⊢
  refine Calls.callWith_builtin (by show (false || (backTo cpos (starEach es X.env)).any (·.1)) = false; rw [hplain] <;> rfl) (Calls.evalArgs_plain ?_)
  exact thn hA fun us s2 ⟨vs, H2, I2, r2, q2⟩ => hm pins s2 σ H2 x vs v us Q I2 r1 r2 q2
/- xs.append(e), list.index on a module's tuple .. are MtR facts of 06m -/
end
end L2

namespace L2
open PySem PySem.Spec PyProof.Rows

def MtM (X : Cx) (id : String) (r : V → List V → Hp → VK → Prop) : Prop :=
  ∀ (pins : List (Addr × Obj)) (s : Shared) (σ : St) (H : Hp) (x : V) (xs : List V) (v : Value) (us : List Value) (Q : VK), Inv X pins σ H s → RelV x v → Vals xs us → r x xs H Q →
    wpAny (model X.prog X.w) X.A (call (.builtin id) (v :: us)) (EP X pins σ Q) X.xe s

/-! ### lists of values -/
theorem Vals.one : ∀ {x : V} {us : List Value}, Vals [x] us → ∃ u, us = [u] ∧ RelV x u
  | _, _, .cons r .nil => ⟨_, rfl, r⟩
theorem Vals.two : ∀ {x y : V} {us : List Value}, Vals [x, y] us → ∃ u v, us = [u, v] ∧ RelV x u ∧ RelV y v
  | _, _, _, .cons r (.cons q .nil) => ⟨_, _, rfl, r, q⟩
theorem Vals.zero : ∀ {us : List Value}, Vals [] us → us = []
  | _, .nil => rfl
theorem Vals.dropLast {xs : List V} {us : List Value} (h : Vals xs us) : Vals xs.dropLast us.dropLast := by
  induction h with
  | nil => exact .nil
  | cons r t ih =>
    cases t with
    | nil => exact .nil
    | cons q t' => exact .cons r ih
theorem Vals.eraseIdx : ∀ {xs : List V} {us : List Value} (i : Nat), Vals xs us → Vals (xs.eraseIdx i) (us.eraseIdx i)
  | _, _, _, .nil => .nil
  | _, _, 0, .cons _ t => t
  | _, _, i + 1, .cons r t => .cons r (Vals.eraseIdx i t)
theorem Vals.reverse {xs : List V} {us : List Value} (h : Vals xs us) : Vals xs.reverse us.reverse := by
  induction h with
  | nil => exact .nil
  | cons r t ih => rw [List.reverse_cons, List.reverse_cons]; exact Vals.append ih (.cons r .nil)
theorem Vals.rep {xs : List V} {us : List Value} (h : Vals xs us) : ∀ k : Nat, Vals (List.replicate k xs).flatten (List.replicate k us).flatten
  | 0 => .nil
  | k + 1 => by
    rw [List.replicate_succ, List.replicate_succ, List.flatten_cons, List.flatten_cons]
    exact Vals.append h (Vals.rep h k)
theorem erase_last {α : Type} (l : List α) : l.eraseIdx (l.length - 1) = l.dropLast := by
  induction l with
  | nil => rfl
  | cons a r ih =>
    cases r with
    | nil => rfl
    | cons b r =>
      have e : (a :: b :: r).length - 1 = ((b :: r).length - 1) + 1 := by
        have h1 : (a :: b :: r).length = r.length + 2 := rfl
        have h2 : (b :: r).length = r.length + 1 := rfl
        omega
      rw [e, List.eraseIdx_cons_succ, ih]
      all_goals rfl
theorem len_erase {α : Type} : ∀ (l : List α) (i : Nat), (l.eraseIdx i).length ≤ l.length
  | [], _ => Nat.le_refl _
  | _ :: _, 0 => Nat.le_succ _
  | _ :: r, i + 1 => Nat.succ_le_succ (len_erase r i)
theorem foldl_rep (its : List Value) : ∀ (k : Nat) (acc : List Value),
    List.foldl (fun x1 x2 => x1 ++ x2) acc.toArray (List.replicate k its.toArray) = (acc ++ (List.replicate k its).flatten).toArray
  | 0, acc => by simp
  | k + 1, acc => by
    have e : acc.toArray ++ its.toArray = (acc ++ its).toArray := by simp
    have e2 : (acc ++ its) ++ (List.replicate k its).flatten = acc ++ (List.replicate (k + 1) its).flatten := by
      rw [List.replicate_succ, List.flatten_cons, List.append_assoc]
    rw [← e2, ← foldl_rep its k (acc ++ its), ← e, List.replicate_succ, List.foldl_cons]

section
variable {X : Cx} {pins : List (Addr × Obj)} {σ : St} {H : Hp} {s : Shared} {l b : Addr} {xs ys zs : List V}

/-! ### the two steps: a tracked list is rewritten, a new list is laid -/
theorem Inv.lset {its its' : List Value} {n : Nat} {f : Array Value → Array Value} {t' : Nat} (I : Inv X pins σ H s) (hH : H l = some (.lst xs))
    (e : s.heap.get? l = some { cls := .type "list", data := .seq its.toArray n }) (hf : f its.toArray = its'.toArray) (hv : Vals ys its') (hz : ys.length ≤ sizeLine) :
    Inv X pins σ (upd H l (.lst ys)) { s with heap := s.heap.update l (Obj.mapSeq f), toks := t' } := by
  have q := PySem.IsL.update e f
  rw [hf] at q
  refine I.write (x := l) (e := l) (by rw [hH]; exact trivial) (.inl rfl) (fun b' u hb hu => (Heap.get?_update_other s.heap (Obj.mapSeq f) (Ne.symm hb)).trans hu) ⟨_, q⟩ ?_
  exact ⟨hz, its', _, hv, q⟩
theorem Inv.lnew {its : List Value} {t' : Nat} (I : Inv X pins σ H s) (hv : Vals ys its) (hz : ys.length ≤ sizeLine) :
    Inv X pins σ (upd H s.heap.objs.size (.lst ys)) { s with heap := s.heap.push { cls := .type "list", data := .seq its.toArray }, toks := t' } :=
  I.laid (fun _ _ q => Heap.get?_push_of_some _ q) (Nat.le_refl _) ⟨hz, its, 0, hv, Heap.get?_push_size _ rfl⟩
theorem Inv.fresh (I : Inv X pins σ H s) : H s.heap.objs.size = none := I.hok.fresh (Nat.le_refl _)
theorem Inv.lstM (I : Inv X pins σ H s) (hH : H l = some (.lst xs)) : xs.length ≤ sizeLine ∧ ∃ (its : List Value) (n : Nat), Vals xs its ∧ xs.length = its.length ∧ s.heap.get? l = some { cls := .type "list", data := .seq its.toArray n } := by
  obtain ⟨z, its, n, r, e⟩ := I.hok l _ hH
  exact ⟨z, its, n, r, r.length, e⟩

theorem notLongL {n : Nat} (h : n ≤ sizeLine) : Builtin.List.listTooLong n = false := by
  unfold Builtin.List.listTooLong
  exact decide_eq_false (by omega)
end

section
variable {X : Cx}

/-! ### methods -/
def rAppend : V → List V → Hp → VK → Prop := fun x vs H Q => ∃ l xs y, x = .ref l ∧ vs = [y] ∧ H l = some (.lst xs) ∧ xs.length < sizeLine ∧ Q .non (upd H l (.lst (xs ++ [y])))
theorem mt_append : MtM X "list.append" rAppend := by
  intro pins s σ H x vs v us Q I rx rv h
  obtain ⟨l, xs, y, rfl, rfl, hH, hz, q⟩ := h
  cases rx
  obtain ⟨u, rfl, ru⟩ := rv.one
  obtain ⟨z, its, n, r, hl, e⟩ := I.lstM hH
  refine call_meets F.slot_list_append ⟨_, e, rfl⟩ F.entry_list_append (F.args_list_append_2 _ _) (PySem.list_append l its.toArray n u (by rw [List.size_toArray]; omega)) ⟨e, ?_⟩
  refine ⟨.non, _, I.lset (its' := its ++ [u]) hH e (by simp) (r.append (.cons ru .nil)) ?_, rfl, q⟩
  rw [List.length_append, List.length_singleton]
  omega

def rExtend : V → List V → Hp → VK → Prop := fun x vs H Q => ∃ l b xs zs, x = .ref l ∧ vs = [.ref b] ∧ H l = some (.lst xs) ∧ H b = some (.lst zs) ∧ xs.length + zs.length ≤ sizeLine ∧ Q .non (upd H l (.lst (xs ++ zs)))
theorem mt_extend : MtM X "list.extend" rExtend := by
  intro pins s σ H x vs v us Q I rx rv h
  obtain ⟨l, b, xs, zs, rfl, rfl, hH, hB, hz, q⟩ := h
  cases rx
  obtain ⟨u, rfl, ru⟩ := rv.one
  cases ru
  obtain ⟨z, its, n, r, hl, e⟩ := I.lstM hH
  obtain ⟨z2, its2, n2, r2, hl2, e2⟩ := I.lstM hB
  have hsz : its.toArray.size + its2.toArray.size ≤ sizeLine := by rw [List.size_toArray, List.size_toArray]; omega
  have hlong : ¬ (!its.toArray.isEmpty && Builtin.List.listTooLong (its.toArray.size + its2.toArray.size)) = true := by
    rw [notLongL hsz, Bool.and_false]
    exact Bool.false_ne_true
  refine call_meets F.slot_list_extend ⟨_, e, rfl⟩ F.entry_list_extend (F.args_list_extend_2 _ _)
    (AutoSeq1.list_extend_list_list_0 l its.toArray n b its2.toArray n2 hlong (by rw [List.size_toArray]; omega) (by omega)) ⟨e, e2, ?_⟩
  refine ⟨.non, _, I.lset (its' := its ++ its2) hH e (by simp) (r.append r2) ?_, rfl, q⟩
  rw [List.length_append]
  omega

def rPop : V → List V → Hp → VK → Prop := fun x vs H Q => ∃ l xs y, x = .ref l ∧ vs = [] ∧ H l = some (.lst xs) ∧ xs[xs.length - 1]? = some y ∧ Q y (upd H l (.lst xs.dropLast))
theorem mt_pop : MtM X "list.pop" rPop := by
  intro pins s σ H x vs v us Q I rx rv h
  obtain ⟨l, xs, y, rfl, rfl, hH, hy, q⟩ := h
  cases rx
  have hus := rv.zero
  subst hus
  obtain ⟨z, its, n, r, hl, e⟩ := I.lstM hH
  obtain ⟨u, hu, ru⟩ := r.get hy
  have hy' : its.toArray[its.toArray.size - 1]? = some u := by
    show its.toArray[its.length - 1]? = some u
    rw [← Array.getElem?_toList, ← hl]
    exact hu
  refine call_meets F.slot_list_pop ⟨_, e, rfl⟩ F.entry_list_pop (F.args_list_pop_1 _) (MeetsSeq.list_pop_last l its.toArray n u hy' (by rw [List.size_toArray]; omega)) ⟨e, ?_⟩
  refine ⟨y, _, I.lset (its' := its.dropLast) hH e ?_ r.dropLast ?_, ru, q⟩
  · show its.toArray.eraseIdxIfInBounds (its.toArray.size - 1) = its.dropLast.toArray
    rw [List.size_toArray, List.eraseIdxIfInBounds_toArray, erase_last]
  · rw [List.length_dropLast]
    omega

def rPopAt : V → List V → Hp → VK → Prop := fun x vs H Q => ∃ l xs i k y, x = .ref l ∧ vs = [.int i] ∧ H l = some (.lst xs) ∧ -(2 ^ 63) ≤ i ∧ i < 2 ^ 63 ∧ seqIndex? i xs.length = some k ∧ xs[k]? = some y ∧ Q y (upd H l (.lst (xs.eraseIdx k)))
theorem mt_popAt : MtM X "list.pop" rPopAt := by
  intro pins s σ H x vs v us Q I rx rv h
  obtain ⟨l, xs, i, k, y, rfl, rfl, hH, h1, h2, hk, hy, q⟩ := h
  cases rx
  obtain ⟨u, rfl, ru⟩ := rv.one
  obtain ⟨t, rfl⟩ := ru
  obtain ⟨z, its, n, r, hl, e⟩ := I.lstM hH
  obtain ⟨w, hw, rw'⟩ := r.get hy
  refine call_meets F.slot_list_pop ⟨_, e, rfl⟩ F.entry_list_pop (F.args_list_pop_2 _ _)
    (MeetsSeq.list_pop_at l its.toArray n i t k w (fitsIndex_both h1 h2) (by rw [List.size_toArray, ← hl]; exact hk) (by rw [← Array.getElem?_toList]; exact hw) (by rw [List.size_toArray]; omega)) ⟨e, ?_⟩
  refine ⟨y, _, I.lset (its' := its.eraseIdx k) hH e ?_ (r.eraseIdx k) ?_, rw', q⟩
  · show its.toArray.eraseIdxIfInBounds k = (its.eraseIdx k).toArray
    rw [List.eraseIdxIfInBounds_toArray]
  · have := len_erase xs k
    omega

def rReverse : V → List V → Hp → VK → Prop := fun x vs H Q => ∃ l xs, x = .ref l ∧ vs = [] ∧ H l = some (.lst xs) ∧ Q .non (upd H l (.lst xs.reverse))
theorem mt_reverse : MtM X "list.reverse" rReverse := by
  intro pins s σ H x vs v us Q I rx rv h
  obtain ⟨l, xs, rfl, rfl, hH, q⟩ := h
  cases rx
  have hus := rv.zero
  subst hus
  obtain ⟨z, its, n, r, hl, e⟩ := I.lstM hH
  refine call_meets F.slot_list_reverse ⟨_, e, rfl⟩ F.entry_list_reverse (F.args_list_reverse_1 _) (AutoSeq1.list_reverse_list_0 l its.toArray n (by rw [List.size_toArray]; omega)) ⟨e, ?_⟩
  refine ⟨.non, _, I.lset (its' := its.reverse) hH e (by simp) r.reverse ?_, rfl, q⟩
  rw [List.length_reverse]
  omega

def rClear : V → List V → Hp → VK → Prop := fun x vs H Q => ∃ l xs, x = .ref l ∧ vs = [] ∧ H l = some (.lst xs) ∧ Q .non (upd H l (.lst []))
theorem mt_clear : MtM X "list.clear" rClear := by
  intro pins s σ H x vs v us Q I rx rv h
  obtain ⟨l, xs, rfl, rfl, hH, q⟩ := h
  cases rx
  have hus := rv.zero
  subst hus
  obtain ⟨z, its, n, r, hl, e⟩ := I.lstM hH
  refine call_meets F.slot_list_clear ⟨_, e, rfl⟩ F.entry_list_clear (F.args_list_clear_1 _) (AutoSeq1.list_clear_list_0 l its.toArray n (by rw [List.size_toArray]; omega)) ⟨e, ?_⟩
  exact ⟨.non, _, I.lset (its' := []) (ys := []) hH e rfl .nil (Nat.zero_le _), rfl, q⟩

/-! ### list + list, list += list, list * int -/
def rCat : R2 := fun x y H Q => ∃ l b xs zs, x = .ref l ∧ y = .ref b ∧ H l = some (.lst xs) ∧ H b = some (.lst zs) ∧ xs.length + zs.length ≤ sizeLine ∧ ∀ p, H p = none → Q (.ref p) (upd H p (.lst (xs ++ zs)))
theorem op_cat : OpR X (binaryOp .Add) rCat := by
  intro pins s σ H x y v u Q I rx ry h
  obtain ⟨l, b, xs, zs, rfl, rfl, hH, hB, hz, q⟩ := h
  cases rx
  cases ry
  obtain ⟨z, its, n, r, hl, e⟩ := I.lstM hH
  obtain ⟨z2, its2, n2, r2, hl2, e2⟩ := I.lstM hB
  refine PySem.P.add_list e e2 ?_ (by rw [List.size_toArray, List.size_toArray]; omega)
  have ea : its.toArray ++ its2.toArray = (its ++ its2).toArray := by simp
  rw [ea]
  exact ⟨.ref _, _, I.lnew (t' := s.toks) (r.append r2) (by rw [List.length_append]; omega), rfl, q _ I.fresh⟩
/-- a list times an int (a negative one is nothing) -/
def rRep : R2 := fun x y H Q => ∃ l k xs, x = .ref l ∧ y = .int k ∧ H l = some (.lst xs) ∧ -(2 ^ 63) ≤ k ∧ k < 2 ^ 63 ∧ xs.length * k.toNat ≤ sizeLine ∧
  ∀ p, H p = none → Q (.ref p) (upd H p (.lst (List.replicate k.toNat xs).flatten))
theorem len_rep {α : Type} (xs : List α) (k : Nat) : (List.replicate k xs).flatten.length = k * xs.length := by
  induction k with
  | zero => simp
  | succ k ih => rw [List.replicate_succ, List.flatten_cons, List.length_append, ih, Nat.succ_mul, Nat.add_comm]
theorem op_rep : OpR X (binaryOp .Mult) rRep := by
  intro pins s σ H x y v u Q I rx ry h
  obtain ⟨l, k, xs, rfl, rfl, hH, h1, h2, hz, q⟩ := h
  cases rx
  obtain ⟨t, rfl⟩ := ry
  obtain ⟨z, its, n, r, hl, e⟩ := I.lstM hH
  have hlen : its.toArray.size * k.toNat ≤ sizeLine := by rw [List.size_toArray, ← hl]; exact hz
  have hcap : ¬ its.toArray.size * k.toNat > (2 ^ 63 - 1) / 8 := by
    have : (sizeLine : Nat) ≤ (2 ^ 63 - 1) / 8 := by decide
    omega
  have hfit : ¬ (!Builtin.List.listFitsIndex k) = true := by
    rw [fitsIndex_both h1 h2]
    exact Bool.false_ne_true
  have hlong : ¬ Builtin.List.listTooLong (its.toArray.size * k.toNat) = true := by
    rw [notLongL hlen]
    exact Bool.false_ne_true
  have hnew : List.foldl (fun x1 x2 => x1 ++ x2) #[] (List.replicate (if its.toArray.isEmpty = true then 0 else k.toNat) its.toArray) = (List.replicate k.toNat its).flatten.toArray := by
    have f0 : ∀ m : Nat, List.foldl (fun x1 x2 => x1 ++ x2) #[] (List.replicate m its.toArray) = (List.replicate m its).flatten.toArray := fun m => by
      have := foldl_rep its m []
      rw [List.nil_append] at this
      exact this
    rw [f0]
    cases its with
    | nil => simp
    | cons a r' => rw [if_neg (by simp)]
  refine wpAny_binaryOp_repeat_ref (T := "list") (U := "int") (by decide) ⟨_, e, rfl⟩ (fun s' => typeIs_int s' k t) noFill_list_mul F.fills_int_mul F.slot_int_rmul repeat_list F.slot_int_index.lookup
    (call_meets F.slot_int_rmul (typeIs_int s k t) F.entry_int_rmul (F.args_int_rmul_2 _ _) (int___rmul___int_list k t l its.toArray n)
      ⟨e, rfl, ⟨_, e, rfl⟩, call_meets F.slot_list_mul ⟨_, e, rfl⟩ F.entry_list_mul (F.args_list_mul_2 _ _) (AutoListH.list___mul___list_int_3 l its.toArray n k t hfit hcap hlong) ⟨e, ?_⟩⟩)
  rw [hnew]
  exact ⟨.ref _, _, I.lnew (t' := s.toks) (r.rep k.toNat) (by rw [len_rep, Nat.mul_comm]; exact hz), rfl, q _ I.fresh⟩

/-! ### del xs[i] -/
theorem del_list {pins : List (Addr × Obj)} {s : Shared} {σ : St} {H : Hp} {l : Addr} {xs : List V} {i : Int} {t : Tok} {k : Nat} {Q : Unit → Shared → Prop} (I : Inv X pins σ H s) (hH : H l = some (.lst xs))
    (h1 : -(2 ^ 63) ≤ i) (h2 : i < 2 ^ 63) (hk : seqIndex? i xs.length = some k) (h : ∀ s', Inv X pins σ (upd H l (.lst (xs.eraseIdx k))) s' → Q () s') :
    wpAny (model X.prog X.w) X.A (delItem (.ref l) (.int i t)) Q X.xe s := by
  obtain ⟨z, its, n, r, hl, e⟩ := I.lstM hH
  refine PySem.P.delItem_list (k := k) e (fitsIndex_both h1 h2) (by rw [List.size_toArray, ← hl]; exact hk) (h _ ?_) (by rw [List.size_toArray]; omega)
  refine I.lset (its' := its.eraseIdx k) (t' := s.toks) hH e ?_ (r.eraseIdx k) ?_
  · show its.toArray.eraseIdxIfInBounds k = (its.eraseIdx k).toArray
    rw [List.eraseIdxIfInBounds_toArray]
  · have := len_erase xs k
    omega
end

/-! ### xs[a:b] = ys -/
section
variable {prog : Program} {w : World} {A : Around} {E : Value → Shared → Prop} {s : Shared}
theorem splice_eq (its its2 : List Value) (a c : Nat) : its.toArray.extract 0 a ++ its2.toArray ++ its.toArray.extract c its.toArray.size = (its.take a ++ its2 ++ its.drop c).toArray := by
  apply Array.toList_inj.mp
  first
    | (simp
       exact List.take_of_length_le (by simp))
    | simp [List.take_of_length_le]
    | simp
theorem bounds_run {a c n : Nat} (hac : a ≤ c) (hc : c ≤ n) : sliceBounds (some (a : Int)) (some (c : Int)) none n = ((a : Int), (c : Int), 1) := by
  simp only [sliceBounds, Option.getD_none]
  have h1 : ¬ ((a : Int) < 0) := by omega
  have h2 : ¬ ((c : Int) < 0) := by omega
  simp only [h1, h2, if_false, show (1 : Int) > 0 by decide, if_true]
  congr 1
  · omega
  · congr 1; omega
set_option maxRecDepth 100000 in
/-- list.__setitem__ with a slice of step one and another list -/
theorem setItem_slice {l b sl : Addr} {items new : Array Value} {n n2 : Nat} {vl vu : Value} {a c : Nat} {Q : Unit → Shared → Prop}
    (e : s.heap.get? l = some { cls := .type "list", data := .seq items n }) (e2 : s.heap.get? b = some { cls := .type "list", data := .seq new n2 }) (hne : l ≠ b)
    (hs : s.heap.IsSliceOf sl vl vu .none) (pl : IsPart vl (some (a : Int))) (pu : IsPart vu (some (c : Int))) (hac : a ≤ c) (hc : c ≤ items.size)
    (hsz : items.size + new.size ≤ sizeLine) (h : Q () { s with heap := s.heap.update l (Obj.mapSeq fun xs => xs.extract 0 a ++ new ++ xs.extract c xs.size) }) :
    wpAny (model prog w) A (setItem (.ref l) (.ref sl) (.ref b)) Q E s := by
  have hl : s.heap.IsList l items := PySem.IsL.isList e
  have hb : s.heap.IsList b new := PySem.IsL.isList e2
  obtain ⟨os, hos, hcs, hds⟩ := id hs
  have hTs : s.TypeIs (.ref sl) "slice" := ⟨os, hos, hcs⟩
  have hstep : ¬ ((rawPart none == rawInt 0) = true) := Bool.false_ne_true
  have hsame : Builtin.List.listSameRef (.ref l) (.ref b) = false := by
    unfold Builtin.List.listSameRef
    exact beq_eq_false_iff_ne.mpr hne
  have hmax : (max (a : Int) (c : Int)).toNat = c := by omega
  have hz' : ((fun xs : Array Value => xs.extract 0 a ++ new ++ xs.extract c xs.size) items).size ≤ sizeLine + 1 := by
    simp only [Array.size_append, Array.size_extract]
    omega
  unfold setItem
  try with_reducible refine wpAny_holding ?_
  first | refine wpAny_bind (wpAny_pure ?_) | skip
  refine wpAny_bind (wpAny_sequenceKey hl.typeIs (by decide) ?_)
  refine wpAny_bind (wpAny_callSpecial?_slot (name := Str.ofString "__setitem__") hl.typeIs slot_list_setitem
    (wpAny_call_entry slot_list_setitem hl.typeIs entry_list_setitem ?_ (args_list_setitem _ _ _)))
  show wpAny _ _ (Builtin.List.listSubscript? (.ref sl) >>= _) _ _ s
  refine wpAny_bind ?_
  unfold Builtin.List.listSubscript?
  refine wpAny_bind (wpAny_specialOf hTs slice_no_index ?_)
  simp only [Option.isNone_none, if_true]
  refine wpAny_pure ?_
  show wpAny _ _ (typeOf (.ref sl) >>= _) _ _ s
  refine wpAny_bind (wpAny_typeOf hTs ?_)
  first
    | rw [if_neg (by decide)]
    | refine PySem.W.KFB.if_not (by decide) ?_
  rw [listSliceParts_eq]
  refine wpAny_bind (wpAny_bind (wpAny_field hos hds (x := .none) rfl (wpAny_bind (wpAny_listPart .none ?_))))
  rw [if_neg hstep]
  refine wpAny_bind (wpAny_field hos hds (x := vl) rfl (wpAny_bind (wpAny_listPart pl ?_)))
  refine wpAny_bind (wpAny_field hos hds (x := vu) rfl (wpAny_bind (wpAny_listPart pu (wpAny_pure ?_))))
  first
    | simp only [hsame, Bool.false_eq_true, if_false]
    | refine PySem.W.KFB.if_not hsame ?_
    | (dsimp only
       rw [if_neg (by rw [hsame]; exact Bool.false_ne_true)])
  refine wpAny_bind (m := Builtin.List.listAllItems (.ref b) "must assign iterable to extended slice") ?_
  unfold Builtin.List.listAllItems
  refine wpAny_bind (wpAny_typeOf hb.typeIs ?_)
  first
    | refine PySem.W.KFB.if_so (by decide) ?_
    | rw [if_pos (by decide)]
    | simp only [beq_self_eq_true, Bool.true_or, if_true]
  unfold Builtin.List.listItems
  refine wpAny_bind (wpAny_seqItems e2 rfl (wpAny_pure ?_))
  refine wpAny_bind (wpAny_bind (wpAny_seqItems e rfl (wpAny_pure ?_)))
  refine wpAny_bind (wpAny_of_eq ((sliceIndices_raw (some (a : Int)) (some (c : Int)) none items.size (by simp)).trans (congrArg (pure : Int × Int × Int → Sem (Int × Int × Int)) (bounds_run hac hc))) ?_)
  show wpAny _ _ (if ((1 : Int) == 1) = true then _ else _) _ _ s
  rw [if_pos (by decide)]
  refine wpAny_bind (wpAny_rule ?_)
  first
    | simp only [notLongL hsz, Bool.false_eq_true, if_false]
    | refine PySem.W.KFB.if_not (notLongL hsz) ?_
  first | refine wpAny_bind (wpAny_pure ?_) | skip
  show wpAny _ _ (updateSeq l (fun xs => xs.extract 0 ((a : Int)).toNat ++ new ++ xs.extract (max (a : Int) (c : Int)).toNat xs.size) >>= _) _ _ s
  rw [hmax, Int.toNat_natCast]
  refine wpAny_bind (wpAny_updateSeq (hz := Nat.le_trans (Nat.le_add_right _ _) hsz) (_hz' := hz') e rfl ?_)
  refine wpAny_bind (wpAny_letGo ?_)
  first
    | exact wpAny_bind (wpAny_pure (wpAny_pure ⟨.none, rfl, wpAny_pure h⟩))
    | exact wpAny_pure ⟨.none, rfl, wpAny_pure h⟩
end

section
variable {X : Cx}
/-- xs[a:c] = ys of another list, at the value level: sl is the slice object that was just made -/
theorem set_slice {pins : List (Addr × Obj)} {s : Shared} {σ : St} {H : Hp} {l b sl : Addr} {xs ys : List V} {a c : Int} {vl vu : Value} {Q : Unit → Shared → Prop} (I : Inv X pins σ H s)
    (hH : H l = some (.lst xs)) (hB : H b = some (.lst ys)) (hne : l ≠ b) (hs : s.heap.IsSliceOf sl vl vu .none) (ra : RelV (.int a) vl) (rc : RelV (.int c) vu) (h0 : 0 ≤ a) (hac : a ≤ c) (hc : c ≤ xs.length)
    (hz : xs.length + ys.length ≤ sizeLine) (h : ∀ s', Inv X pins σ (upd H l (.lst (xs.take a.toNat ++ ys ++ xs.drop c.toNat))) s' → Q () s') :
    wpAny (model X.prog X.w) X.A (setItem (.ref l) (.ref sl) (.ref b)) Q X.xe s := by
  obtain ⟨ta, rfl⟩ := ra
  obtain ⟨tc, rfl⟩ := rc
  obtain ⟨z, its, n, r, hl, e⟩ := I.lstM hH
  obtain ⟨z2, its2, n2, r2, hl2, e2⟩ := I.lstM hB
  obtain ⟨a', rfl⟩ := Int.eq_ofNat_of_zero_le h0
  obtain ⟨c', rfl⟩ := Int.eq_ofNat_of_zero_le (Int.le_trans h0 hac)
  simp only [Int.toNat_natCast] at h
  refine setItem_slice (a := a') (c := c') e e2 hne hs (.int _ _) (.int _ _) (by omega) (by rw [List.size_toArray]; omega) (by rw [List.size_toArray, List.size_toArray]; omega) (h _ ?_)
  refine I.lset (its' := its.take a' ++ its2 ++ its.drop c') (t' := s.toks) hH e ?_ (Vals.append (Vals.append (r.take _) r2) (r.drop _)) ?_
  · exact splice_eq its its2 a' c'
  · rw [List.length_append, List.length_append, List.length_take, List.length_drop]
    omega
end
end L2

namespace Att
open PySem PySem.W PySem.Calls PyProof.Rows

/-! ### the script -/
theorem ints_of_wellAll {P : Params} {h : Heap} : ∀ (ns : List Int) (vs : List Value), WellAll P h vs (ns.map WData.int) → IntsAre vs ns := by
  intro ns
  induction ns with
  | nil =>
    intro vs w
    rw [List.map_nil] at w
    cases w
    exact .nil
  | cons n ns ih =>
    intro vs w
    rw [List.map_cons] at w
    cases w with
    | cons a b =>
      cases a
      exact .cons _ _ (ih _ b)

theorem script_of {l : OpenLaw} {n : Nat} (hn : l.most = some n) {P : Params} {h : Heap} {args : List WData} {vals : List Value}
    (hpre : l.row.toRowW.claim.pre args = true) (hwl : WellAll P h vals args) :
    ∃ a vs ns, vals = [Value.ref a] ∧ args = [WData.list (ns.map WData.int)] ∧ h.get? a = some { cls := .type "list", data := .seq vs.toArray } ∧ IntsAre vs ns ∧ ns.length ≤ n := by
  have hsh : WShape.hasAll [] args [.list .int] = true := (pre_splitW hpre).1
  have hc : l.pre.holds [] { args := args } = true := (pre_splitW hpre).2
  obtain ⟨d, r, rfl, h1, h2⟩ := hasAllW_cons hsh
  obtain rfl := hasAllW_nil h2
  obtain ⟨xs, rfl, h3⟩ := hasW_list h1
  obtain ⟨ns, rfl⟩ := items_int h3
  have hlen : ns.length ≤ n := by
    unfold OpenLaw.pre at hc
    have h4 : (WTm.not (.lt (.lit (.int (n : Int))) (.len (.arg 0)))).holds [] { args := [.list (ns.map .int)] } = true := by
      have h4 := (holds_andW hc).1
      rw [hn] at h4
      exact h4
    have h5 := condW_of h4 (w_not (w_lt w_lit (w_len_list (w_arg rfl))))
    rw [List.length_map] at h5
    refine Nat.le_of_not_lt fun q => ?_
    have q' : (n : Int) < ((ns.length : Nat) : Int) := by omega
    first
      | (rw [decide_eq_true q'] at h5; exact absurd h5 (by decide))
      | (simp at h5; omega)
  cases hwl with
  | cons w1 w2 =>
    cases w2
    cases w1 with
    | list ho hall => exact ⟨_, _, ns, rfl, rfl, ho, ints_of_wellAll ns _ hall, hlen⟩

theorem post_true (l : OpenLaw) (args : List WData) : l.row.toRowW.claim.post args (.bool true) args = true :=
  postW_of (r := l.row.toRowW) (X := (true == true))
    (show WShape.has [] (.bool true) .bool = true by first | rfl | decide | simp [WShape.has, WShape.arms, WShape.armsAll])
    (show (WTm.eq .res (.lit (.bool true))).value [] { args := args, res := some (.bool true), after := args } = some (.bool (true == true)) from w_eq_bool (w_res rfl) w_lit) rfl

/-! ### the attachment: holds_open's last premise (the goal 'hc' behind k_head) from a wpAny of the law's body -/
theorem attach {l : OpenLaw} {n : Nat} {q : Program} {loose : List Str} {XP : (Str → Option Value) → Heap → Prop} {YP : World → Heap → Prop} {d : DefRec} {x : Str}
    (hn : l.most = some n) (hdf : d.params.defaults = [])
    (hbind : ∀ pm cd doc v : Value, bindArgs (docDef d.name d.params d.body d.scope pm cd doc) ⟨[v], []⟩ = pure [(x, v)])
    (hx : d.scope.names.lookup x = some .local ∨ d.scope.names.lookup x = some .cell)
    (hk : d.scope.kind = .function) (hco : d.scope.isCoroutine = false) (hgen : d.scope.isGenerator = false)
    (body : ∀ (w : World) (s₀ s₁ s : Shared) (mg mb : Str → Option Value) (fa : Addr) (o : Obj) (pm cd doc : Value) (a : Addr) (vs : List Value) (ns : List Int),
      Ground q loose [] XP w s₀ mg mb s₁.heap → YP w s₁.heap →
      s₁.heap.get? fa = some o → o.data = .func (docDef d.name d.params d.body d.scope pm cd doc) → s₁.heap.CodeRec cd d.name → mg d.name = some (.ref fa) →
      s₁.heap.get? a = some { cls := .type "list", data := .seq vs.toArray } → IntsAre vs ns → ns.length ≤ n →
      s.gens = #[] → s.os = s₁.os →
      Fr s₁.heap s₁.heap.objs.size s.heap (bindL (envOfC d.name d.scope s₁.heap.objs.size fa cd).kindOf [(x, .ref a)] fun _ => none) →
      Cl s₁.heap.objs.size (cellsFrom (s₁.heap.objs.size + 1) d.scope.names []) s.heap (bindC (envOfC d.name d.scope s₁.heap.objs.size fa cd).kindOf [(x, .ref a)] fun _ => none) →
      wpAny (model l.prog w) (callerA.deeper (envOfC d.name d.scope s₁.heap.objs.size fa cd)) (execs d.body (envOfC d.name d.scope s₁.heap.objs.size fa cd))
        (fun f s' => f = .ret (.bool true) ∧ OldK s₁.heap s'.heap ∧ s'.os = s₁.os ∧ AllBare s'.gens) (fun _ _ => False) s) :
    WalkO q loose XP YP l.row.toRowW d [] (fun f vs => PySem.call f vs) := by
  intro w s₀ s₁ mg mb G Y fa o pm cd doc dV kV ho hd hcd hD hmg hg args vals as hpre hlay hrd hwl hlo
  obtain rfl : dV = .none := Dflts.none hD hdf
  obtain rfl : kV = .none := Dflts.noKw hD
  obtain ⟨a, vs, ns, rfl, rfl, hobj, hints, hlen⟩ := script_of hn hpre hwl
  refine enter_call ?_
  refine call_cells_ret (o := o) (by rw [depth_caller]; decide) ho (fd_plain hd) G.T.nolimit hcd (hbind pm cd doc (.ref a)) (fun y hy => ?_) (fun h₁ tk F X => ?_) hco hgen hk
  · obtain rfl : y = (x, Value.ref a) := List.mem_singleton.mp hy
    rcases hx with e | e
    · exact .inl e
    · exact .inr ⟨e, cellsFrom_some _ _ _ (.inl e)⟩
  · refine wpAny_mono (body w s₀ s₁ { s₁ with heap := h₁, toks := tk } mg mb fa o pm cd doc a vs ns G Y ho (fd_plain hd) hcd hmg hobj hints hlen hg rfl F X) (fun f s' hq => ?_) (fun _ _ hq => hq)
    obtain ⟨rfl, h2, h3, h4⟩ := hq
    exact ⟨.inl ⟨.bool true, .bool true, [], rfl, fun _ => rfl, .bool true, post_true l _, fun _ => ⟨List.Pairwise.nil, fun _ hm => (nomatch hm)⟩⟩, h2, h3, h4⟩

/-- the same from a codeAny of the CALL (for a layer whose function contracts speak of calls) -/
theorem attach_call {l : OpenLaw} {n : Nat} {q : Program} {loose : List Str} {XP : (Str → Option Value) → Heap → Prop} {YP : World → Heap → Prop} {d : DefRec}
    (hn : l.most = some n) (hdf : d.params.defaults = [])
    (call : ∀ (w : World) (s₀ s₁ : Shared) (mg mb : Str → Option Value) (fa : Addr) (o : Obj) (pm cd doc : Value) (a : Addr) (vs : List Value) (ns : List Int),
      Ground q loose [] XP w s₀ mg mb s₁.heap → YP w s₁.heap →
      s₁.heap.get? fa = some o → o.data = .func (docDef d.name d.params d.body d.scope pm cd doc) → s₁.heap.CodeRec cd d.name → mg d.name = some (.ref fa) →
      s₁.heap.get? a = some { cls := .type "list", data := .seq vs.toArray } → IntsAre vs ns → ns.length ≤ n → s₁.gens = #[] →
      codeAny (model l.prog w) callerA (.call (.ref fa) ⟨[.ref a], []⟩) (fun r s' => r = .ok (.ret (.bool true)) ∧ OldK s₁.heap s'.heap ∧ s'.os = s₁.os ∧ AllBare s'.gens) s₁) :
    WalkO q loose XP YP l.row.toRowW d [] (fun f vs => PySem.call f vs) := by
  intro w s₀ s₁ mg mb G Y fa o pm cd doc dV kV ho hd hcd hD hmg hg args vals as hpre hlay hrd hwl hlo
  obtain rfl : dV = .none := Dflts.none hD hdf
  obtain rfl : kV = .none := Dflts.noKw hD
  obtain ⟨a, vs, ns, rfl, rfl, hobj, hints, hlen⟩ := script_of hn hpre hwl
  refine enter_call (codeAny_mono (call w s₀ s₁ mg mb fa o pm cd doc a vs ns G Y ho (fd_plain hd) hcd hmg hobj hints hlen hg) fun r s' hq => ?_)
  obtain ⟨rfl, h2, h3, h4⟩ := hq
  exact ⟨.inl ⟨.bool true, .bool true, [], rfl, fun _ => rfl, .bool true, post_true l _, fun _ => ⟨List.Pairwise.nil, fun _ hm => (nomatch hm)⟩⟩, h2, h3, h4⟩

/-- the same where the top left finished generators (o_head chose holds_openN): nothing may have changed at all and no generator may be left -/
theorem attachN {l : OpenLaw} {n : Nat} {q : Program} {loose : List Str} {XP : (Str → Option Value) → Heap → Prop} {YP : World → Heap → Prop} {d : DefRec} {x : Str}
    (hn : l.most = some n) (hdf : d.params.defaults = [])
    (hbind : ∀ pm cd doc v : Value, bindArgs (docDef d.name d.params d.body d.scope pm cd doc) ⟨[v], []⟩ = pure [(x, v)])
    (hx : d.scope.names.lookup x = some .local ∨ d.scope.names.lookup x = some .cell)
    (hk : d.scope.kind = .function) (hco : d.scope.isCoroutine = false) (hgen : d.scope.isGenerator = false)
    (body : ∀ (w : World) (s₀ s₁ s : Shared) (mg mb : Str → Option Value) (fa : Addr) (o : Obj) (pm cd doc : Value) (a : Addr) (vs : List Value) (ns : List Int),
      Ground q loose [] XP w s₀ mg mb s₁.heap → YP w s₁.heap →
      s₁.heap.get? fa = some o → o.data = .func (docDef d.name d.params d.body d.scope pm cd doc) → s₁.heap.CodeRec cd d.name → mg d.name = some (.ref fa) →
      s₁.heap.get? a = some { cls := .type "list", data := .seq vs.toArray } → IntsAre vs ns → ns.length ≤ n →
      s.gens = #[] → s.os = s₁.os →
      Fr s₁.heap s₁.heap.objs.size s.heap (bindL (envOfC d.name d.scope s₁.heap.objs.size fa cd).kindOf [(x, .ref a)] fun _ => none) →
      Cl s₁.heap.objs.size (cellsFrom (s₁.heap.objs.size + 1) d.scope.names []) s.heap (bindC (envOfC d.name d.scope s₁.heap.objs.size fa cd).kindOf [(x, .ref a)] fun _ => none) →
      wpAny (model l.prog w) (callerA.deeper (envOfC d.name d.scope s₁.heap.objs.size fa cd)) (execs d.body (envOfC d.name d.scope s₁.heap.objs.size fa cd))
        (fun f s' => f = .ret (.bool true) ∧ (∀ b o, s₁.heap.get? b = some o → s'.heap.get? b = some o) ∧ s'.os = s₁.os ∧ s'.gens = #[]) (fun _ _ => False) s) :
    WalkN q loose XP YP l.row.toRowW d [] (fun f vs => PySem.call f vs) := by
  intro w s₀ s₁ mg mb G Y fa o pm cd doc dV kV ho hd hcd hD hmg hg args vals as hpre hlay hrd hwl hlo
  obtain rfl : dV = .none := Dflts.none hD hdf
  obtain rfl : kV = .none := Dflts.noKw hD
  obtain ⟨a, vs, ns, rfl, rfl, hobj, hints, hlen⟩ := script_of hn hpre hwl
  refine enter_callW ?_
  refine call_cells_ret (o := o) (by rw [depth_caller]; decide) ho (fd_plain hd) G.T.nolimit hcd (hbind pm cd doc (.ref a)) (fun y hy => ?_) (fun h₁ tk F X => ?_) hco hgen hk
  · obtain rfl : y = (x, Value.ref a) := List.mem_singleton.mp hy
    rcases hx with e | e
    · exact .inl e
    · exact .inr ⟨e, cellsFrom_some _ _ _ (.inl e)⟩
  · refine wpAny_mono (body w s₀ s₁ { s₁ with heap := h₁, toks := tk } mg mb fa o pm cd doc a vs ns G Y ho (fd_plain hd) hcd hmg hobj hints hlen hg rfl F X) (fun f s' hq => ?_) (fun _ _ hq => hq)
    obtain ⟨rfl, h2, h3, h4⟩ := hq
    exact ⟨.inl ⟨.bool true, .bool true, [], rfl, fun _ => rfl, .bool true, post_true l _, fun _ => ⟨List.Pairwise.nil, fun _ hm => (nomatch hm)⟩⟩, h2, h3, h4⟩

/-! ### rules over ANY heap (no ledger) from facts about the written part K: the library's own take a ledger (News) for what they write -/
section
variable {prog : Program} {w : World} {A : Around} {E : Value → Shared → Prop} {s : Shared} {K : Frag}

/-- a def of the module, or a method (qual 'C.m'), entered: the frame is the next address; cells behind it -/
theorem call_fn {R : Result → Shared → Prop} {name qual : Str} {params : Arguments} {body : List Stmt} {scope : Scope} {dV kV doc pm cdv ct oc : Value} {an od : Option Addr} {osl : Array (Option Value)} {f : Addr} {args : Args} {binds : List (Str × Value)}
    (X : K.In s.heap) (hlim : s.heap.NoLimit) (ho : K.lookup f = some ⟨oc, od, .func (fnOf name qual params body scope dV kV doc pm an cdv ct), osl⟩) (hcd : codeIn K cdv qual = true) (hroom : A.depth < recursionLimit)
    (hbind : BindsTo s (fnOf name qual params body scope dV kV doc pm an cdv ct) args binds)
    (hkind : (binds.all fun y => scope.names.lookup y.1 == some .local || scope.names.lookup y.1 == some .cell) = true)
    (h : ∀ s₁, InCallC s s.heap.objs.size (bindL (envOfC qual scope s.heap.objs.size f cdv).kindOf binds fun _ => none) (cellsFrom (s.heap.objs.size + 1) scope.names [])
        (bindC (envOfC qual scope s.heap.objs.size f cdv).kindOf binds fun _ => none) s₁ →
      wpAny (model prog w) (A.deeper (envOfC qual scope s.heap.objs.size f cdv)) (execs body (envOfC qual scope s.heap.objs.size f cdv))
        (fun fl s' => R (.ok (.ret (match fl with | .ret v => v | _ => .none))) s')
        (fun e s' => wpAny (model prog w) (A.deeper (envOfC qual scope s.heap.objs.size f cdv)) (leaving (envOfC qual scope s.heap.objs.size f cdv) e) (fun _ s'' => R (.error e) s'') (fun e' s'' => R (.error e') s'') s') s₁)
    (hco : scope.isCoroutine = false) (hgen : scope.isGenerator = false) (hk : scope.kind = .function) : codeAny (model prog w) A (.call (.ref f) args) R s := by
  refine codeAny_call_function hroom (X _ _ ho) rfl hco hgen rfl (codeRec_of X hcd) (hbind _ _ _ _ ?_)
  refine wpAny_newFunctionEnv_cells hk (kindsX hkind _) fun env he s₁ x => ?_
  subst he
  exact ⟨hlim.keeps x.toInCall.keep, codeAny_func (h s₁ x)⟩

/-- C(..): dict at size, instance at size + 1, then __init__ -/
theorem make_obj {R : Result → Shared → Prop} {C fI : Addr} {rest : List Value} {kw : List (Str × Value)}
    (X : K.In s.heap) (hm : makesIn K C = true) (hi : findIn K (.ref C) "__init__" = some (some (.ref fI))) (hf : isFn K (.ref fI) = true)
    (h : codeAny (model prog w) (A.under (.builtin "type.__call__" ⟨.ref C :: rest, kw⟩)) (.call (.ref fI) ⟨.ref (s.heap.objs.size + 1) :: rest, kw⟩) (InitBack (s.heap.objs.size + 1) R)
      { s with heap := (s.heap.push emptyDict).push (instObj C s.heap.objs.size) }) : codeAny (model prog w) A (.call (.ref C) ⟨rest, kw⟩) R s := by
  obtain ⟨hh, g, d, t, os⟩ := s
  exact make_core (makes_of X hm) (looks_findIn X hi) (fun self => bind_fn X self (beq_iff_eq.mp hf)) (.inl rfl) h

/-- x.name where the instance's dict holds the name and the class does not -/
theorem get_field {x C : Addr} {ox : Obj} {es : List DictEntry} {n : Nat} {name : Str} {expr : Bool} {v : Value} {Q : Value → Shared → Prop}
    (X : K.In s.heap) (I : PySem.W.InstAt s.heap x ox C (some (dictOf es n))) (hg : plainGet K C name = true) (hh : hasDictIn K C = true) (ha : findIn K (.ref C) name = some none)
    (hl : getL name es = some (some v)) (hv : handedIn v = true) (h : Q v { s with toks := s.toks + 1 }) : wpAny (model prog w) A (getAttr (.ref x) name expr) Q E s :=
  get_value X I (plainGet_of hg).1 (findObj_own hh ha rfl hl) hv h

/-- x.m(..): the method found in the class -/
theorem get_method {x C f : Addr} {ox : Obj} {es : List DictEntry} {n : Nat} {name : Str} {pl : Sem Bool} {Q : Value × List Value → Shared → Prop}
    (X : K.In s.heap) (I : PySem.W.InstAt s.heap x ox C (some (dictOf es n))) (hg : plainGet K C name = true) (hf : findIn K (.ref C) name = some (some (.ref f))) (ht : isFn K (.ref f) = true)
    (hl : getL name es = some none) (h : Q (.ref f, [.ref x]) s) : wpAny (model prog w) A (getMethod (.ref x) name pl) Q E s :=
  method_fn X I (plainGet_of hg).1 (plainGet_of hg).2 hf (beq_iff_eq.mp ht) (by show (lookIn name (dictOf es n)).map _ = _; rw [lookIn_dict, hl]; rfl) h

/-! the whole heap as the ledger: makes every rule that writes through a ledger a rule over any heap -/
def noObjs (h : Heap) : Heap := { h with objs := #[] }
theorem noObjs_get (h : Heap) (b : Addr) : (noObjs h).get? b = none := by
  cases e : (noObjs h).get? b with
  | none => rfl
  | some o => exact absurd (Heap.lt_size e) (Nat.not_lt_zero _)
def ledger (h : Heap) (L d : Addr) : List (Addr × Obj) := (List.range h.objs.size).filterMap fun a => if a = L ∨ a = d then none else (h.get? a).map fun o => (a, o)
theorem mem_ledger {h : Heap} {L d a : Addr} {o : Obj} : (a, o) ∈ ledger h L d ↔ a ≠ L ∧ a ≠ d ∧ h.get? a = some o := by
  unfold ledger
  rw [List.mem_filterMap]
  constructor
  · rintro ⟨b, _, e⟩
    split at e
    · cases e
    · rename_i hb
      obtain ⟨o', ho, e'⟩ := Option.map_eq_some_iff.mp e
      cases e'
      exact ⟨fun q => hb (.inl q), fun q => hb (.inr q), ho⟩
  · rintro ⟨n1, n2, ho⟩
    refine ⟨a, List.mem_range.mpr (Heap.lt_size ho), ?_⟩
    rw [if_neg (show ¬ (a = L ∨ a = d) from fun q => q.elim n1 n2), ho] <;> rfl
theorem news_ledger {h : Heap} {L d : Addr} {od : Obj} (hne : d ≠ L) (ho : h.get? d = some od) : News (noObjs h) L h ([] ++ (d, od) :: ledger h L d) := by
  rintro ⟨a, o⟩ hp
  rcases List.mem_cons.mp hp with e | hp
  · cases e
    exact ⟨ho, hne, noObjs_get _ _⟩
  · obtain ⟨n1, n2, e⟩ := mem_ledger.mp hp
    exact ⟨e, n1, noObjs_get _ _⟩
theorem fr_all {h : Heap} {L : Addr} {m : Str → Option Value} (n : h.Ns L m) : Fr (noObjs h) L h m :=
  ⟨n, fun b o e => (by rw [noObjs_get] at e; cases e), Nat.zero_le _⟩
/-- Upd of the head entry (for append_K, setItem_K ..) -/
theorem upd_ledger {h : Heap} {L d : Addr} {o o' : Obj} : Upd d o o' ((d, o) :: ledger h L d) ((d, o') :: ledger h L d) :=
  .head fun ⟨_, _⟩ hp => (mem_ledger.mp hp).2.1

/-- x.name = v over any heap: L is any namespace of the heap (the frame's, say): its map stays, its object is not told; all else but the dict stays -/
theorem set_field {x C dx L : Addr} {ox : Obj} {m : Str → Option Value} {es es' : List DictEntry} {n n' : Nat} {name : Str} {v : Value} {Q : Unit → Shared → Prop}
    (X : K.In s.heap) (I : PySem.W.InstAt s.heap x ox C (some (dictOf es n))) (hd : ox.dict = some dx) (hL : s.heap.Ns L m) (hne : dx ≠ L)
    (hs : findIn K (.ref C) "__setattr__" = some (some (.builtin "object.__setattr__"))) (hp : plainOver K C = true) (ht : takerIn K C name = some none) (hh : hasDictIn K C = true) (hl : (getL name es).isSome = true)
    (e : (putL name (PyData.keyHash w.params name) (.str name (s.toks + 1)) v es, putN name es n) = (es', n')) (hz : es'.length ≤ 1000)
    (h : ∀ h' : Heap, h'.Ns L m → h'.get? dx = some (dictOf es' n') → (∀ b o, b ≠ dx → b ≠ L → s.heap.get? b = some o → h'.get? b = some o) → Q () { s with heap := h', toks := s.toks + 2 }) :
    wpAny (model prog w) A (setAttr (.ref x) name v) Q E s := by
  obtain ⟨e1, e2⟩ := Prod.mk.inj e
  have hdx : s.heap.get? dx = some (dictOf es n) := by
    have := I.dict
    rw [hd] at this
    exact this
  refine set_plain X I hs (osa_dict (s := { s with toks := s.toks + 1 }) (h₀ := noObjs s.heap) (L := L) (m := m) (od := dictOf es n) (od' := dictOf es' n') (es := es') (n := n') (pre := []) (post := ledger s.heap L dx)
    (fr_all hL) (news_ledger hne hdx) X I hd hp ht hh hl (fun _ q => nomatch q) (fun ⟨_, _⟩ q => (mem_ledger.mp q).2.1) (by rw [putName_dict, e1, e2]) rfl hz fun h' F' N' => ?_)
  exact h h' F'.ns (N'.get (List.Mem.head _)) fun b o n1 n2 ho => N'.get (List.Mem.tail _ (mem_ledger.mpr ⟨n2, n1, ho⟩))
end
end Att

namespace L2
open PySem PySem.Spec PyProof.Rows

theorem vals_ints : ∀ {vs : List Value} {ns : List Int}, IntsAre vs ns → Vals (ns.map V.int) vs
  | _, _, .nil => .nil
  | _, _, .cons n t h => .cons ⟨t, rfl⟩ (vals_ints h)

/-- nothing is tracked but the script, known to the object (or it is an object of the module) -/
def Only (H : Hp) : Prop := ∀ b, H b = none ∨ ∃ o xs, H b = some (.frz o (.lst xs))

/-- THE HEAD: the law's promise, at the heap behind the top. F, the promise of the law's def, may use that base is part of the heap (so K.In base, base.Ns mainGlobals mg stand in Mod) -/
theorem law_call {P : Program} {w : World} {K : PySem.W.Frag} {mg mb : Str → Option Value} {CX : CXT} {k : Nat} {fa a : Addr} {fd : FuncData} {x : Str} {sp : Sp} {s₁ : Shared} {vs : List Value} {ns : List Int}
    (KX : K.In s₁.heap) (hns : s₁.heap.Ns mainGlobals mg) (hb : s₁.heap.Ns builtinsNs mb) (hbb : ∀ x : Str, x ≠ "__name__" → mb x = bootBuiltins x) (hlim : s₁.heap.NoLimit) (hg : s₁.gens = #[])
    (ha : s₁.heap.get? a = some { cls := .type "list", data := .seq vs.toArray }) (hi : IntsAre vs ns) (hl : ns.length ≤ sizeLine) (hr : Room k callerA)
    (F : ∀ base : Heap, K.In base → base.Ns mainGlobals mg → FnOk P w K mg base CX k fa fd [x] sp) (hbind : ∀ (s : Shared) (u : Value), BindsTo s fd ⟨[u], []⟩ [(x, u)])
    (hsp : ∀ H : Hp, Only H → SqL K H a (ns.map V.int) → sp [.ref a] H (fun v _ => v = .bl true) fun _ _ _ => False)
    (hCX : ∀ H e s', CX [] H s₁ (fun _ _ _ => False) e s' → False) :
    codeAny (model P w) callerA (.call (.ref fa) ⟨[.ref a], []⟩) (fun r s' => r = .ok (.ret (.bool true)) ∧ OldK s₁.heap s'.heap ∧ s'.os = s₁.os ∧ AllBare s'.gens) s₁ := by
  have rv := vals_ints hi
  have lenV := hi.length
  -- from an abstract heap in which nothing but the script may be tracked
  have core : ∀ H : Hp, Only H → SqL K H a (ns.map V.int) → HOk P w H s₁.heap → (∀ b, H b ≠ none → b = a) → (H a ≠ none → K.lookup a = none) →
      codeAny (model P w) callerA (.call (.ref fa) ⟨[.ref a], []⟩) (fun r s' => r = .ok (.ret (.bool true)) ∧ OldK s₁.heap s'.heap ∧ s'.os = s₁.os ∧ AllBare s'.gens) s₁ := by
    intro H hO hS hok hA hK
    have base_of : ∀ {b : Addr} {o : Obj}, s₁.heap.get? b = some o → H b = none → (hidT s₁.heap H).get? b = some o := fun e n => hidT_get e n
    have noA : ∀ {b : Addr} {o : Obj} {es : Array DictEntry} {ep : Nat}, s₁.heap.get? b = some o → o.data = .dict es ep → H b = none := fun {b o es ep} e d => by
      cases q : H b with
      | none => rfl
      | some u =>
        have e' : b = a := hA b (by rw [q]; simp)
        subst e'
        rw [ha] at e; cases e
        have d' : Data.seq vs.toArray _ = Data.dict es ep := d
        cases d'
    have nsK : ∀ {b : Addr} {m : Str → Option Value}, s₁.heap.Ns b m → (hidT s₁.heap H).Ns b m := fun {b m} ⟨o, es, ep, e, d, r⟩ => ⟨o, es, ep, base_of e (noA e d), d, r⟩
    have hKb : K.In (hidT s₁.heap H) := fun b o e => base_of (KX b o e) (by
      cases q : H b with
      | none => rfl
      | some u =>
        have e' : b = a := hA b (by rw [q]; simp)
        subst e'
        rw [hK (by rw [q]; simp)] at e; cases e)
    have hM : Mod K mg (hidT s₁.heap H) := ⟨hKb, nsK hns, ⟨mb, nsK hb, hbb⟩, let ⟨mc, h1, h2⟩ := hlim; ⟨mc, nsK h1, h2⟩⟩
    have e0 : Env0 P w K mg (hidT s₁.heap H) callerA [] s₁ H := ⟨rfl, hM, fun b o e => of_hidT e, Nat.le_of_eq (hidT_size _ _), trivial, fun b hb => absurd (show b ∈ ([] : List Addr) from hb) (by simp), hok, .of_eq hg⟩
    refine codeAny_mono ((F _ hKb (nsK hns)).run callerA [] s₁ H ⟨[.ref a], []⟩ [.ref a] [.ref a] _ _ hr e0 (hbind s₁ (.ref a)) (.cons rfl .nil) (hsp H hO hS)) fun r s' h => ?_
    cases r with
    | error e => exact (hCX H e s' h).elim
    | ok fl =>
      cases fl with
      | next => exact False.elim h
      | brk => exact False.elim h
      | cont => exact False.elim h
      | ret u =>
        obtain ⟨v, H', os, bare, un, hok', r', q⟩ := h
        have q' : v = .bl true := q
        subst q'
        obtain rfl : u = Value.bool true := r'
        refine ⟨rfl, OldK.of_keep fun b o e => ?_, os, bare⟩
        cases q : H b with
        | none => exact un.keep b o e q (by intro z; exact absurd (show b ∈ ([] : List Addr) from z) (by simp)) (by simp)
        | some u =>
          rcases hO b with z | ⟨ob, xs, z⟩
          · rw [q] at z; cases z
          · have z2 := un.frzs b ob _ z
            obtain ⟨e1, _⟩ := hok b _ z
            obtain ⟨e2, _⟩ := hok' b _ z2
            rw [e] at e1; cases e1
            exact e2
  cases hk : K.lookup a with
  | some o =>
    -- the script is one of the module's own objects
    have e := KX a o hk
    rw [ha] at e
    cases e
    refine core (fun _ => none) (fun _ => .inl rfl) (.inr ⟨_, vs.toArray, _, hk, rfl, rfl, rfl, by rw [List.size_toArray, lenV]; exact hl, by simpa using rv⟩) (fun b u z => by have z' : (none : Option HO) = some u := z; cases z') (fun b z => absurd rfl z) fun z => absurd rfl z
  | none =>
    refine core (fun b => if b = a then some (.frz { cls := .type "list", data := .seq vs.toArray } (.lst (ns.map V.int))) else none) (fun b => ?_) (.inl (.inr ⟨{ cls := .type "list", data := .seq vs.toArray }, if_pos rfl⟩)) (fun b u z => ?_) (fun b z => ?_) fun _ => hk
    · by_cases hb : b = a
      · exact .inr ⟨_, _, if_pos hb⟩
      · exact .inl (if_neg hb)
    · by_cases hb : b = a
      · have z' := (if_pos hb).symm.trans z
        cases z'
        subst hb
        exact ⟨ha, by rw [List.length_map]; exact hl, vs, _, rv, ha⟩
      · have z' := (if_neg hb).symm.trans z
        cases z'
    · by_cases hb : b = a
      · exact hb
      · exact absurd (if_neg hb) z
end L2

namespace L2
open PySem PySem.Spec PyProof.Rows

abbrev KOf {K : PySem.W.Frag} {h : Heap} (_ : K.In h) : PySem.W.Frag := K

/-- the goal that k_head leaves (case hc), from the law's promise. F gives the function object fd (K's own) once, then the promise over every base -/
theorem walk_of {l : PySem.W.OpenLaw} {n k : Nat} {q : Program} {loose : List Str} {XP : (Str → Option Value) → Heap → Prop} {YP : World → Heap → Prop} {d : DefRec} {K : Params → PySem.W.Frag} {CX : World → CXT} {sp : World → Sp} {x : Str}
    (hn : l.most = some n) (hn2 : n ≤ sizeLine) (hdf : d.params.defaults = []) (hr : Room k callerA)
    (hY : ∀ (w : World) (h : Heap), YP w h → (K w.params).In h)
    (F : ∀ (w : World) (mg : Str → Option Value) (fa : Addr) (h : Heap), (K w.params).In h → h.Ns mainGlobals mg → mg d.name = some (.ref fa) →
      ∃ fd : FuncData, (∀ (s : Shared) (u : Value), BindsTo s fd ⟨[u], []⟩ [(x, u)]) ∧
        ∀ base : Heap, (K w.params).In base → base.Ns mainGlobals mg → FnOk l.prog w (K w.params) mg base (CX w) k fa fd [x] (sp w))
    (hsp : ∀ (w : World) (H : Hp) (a : Addr) (ns : List Int), ns.length ≤ n → Only H → SqL (K w.params) H a (ns.map V.int) → sp w [.ref a] H (fun v _ => v = .bl true) fun _ _ _ => False)
    (hCX : ∀ (w : World) (H : Hp) (s : Shared) (e : Value) (s' : Shared), CX w [] H s (fun _ _ _ => False) e s' → False) :
    PySem.W.WalkO q loose XP YP l.row.toRowW d [] (fun f vs => PySem.call f vs) := by
  refine Att.attach_call hn hdf fun w s₀ s₁ mg mb fa o pm cd doc a vs ns G Y ho hd hcd hmg hobj hints hlen hg => ?_
  have KX := hY w _ Y
  obtain ⟨fd, hb, hF⟩ := F w mg fa _ KX G.T.g hmg
  exact law_call KX G.T.g G.T.b G.T.builtins G.T.nolimit hg hobj hints (Nat.le_trans hlen hn2) hr hF hb (fun H hO hS => hsp w H a ns hlen hO hS) fun H e s' => hCX w H s₁ e s'
/-- the same where the promise hangs on the written part alone: (sp := My.sp_law), no hole under a binder -/
theorem walk_ofK {l : PySem.W.OpenLaw} {n k : Nat} {q : Program} {loose : List Str} {XP : (Str → Option Value) → Heap → Prop} {YP : World → Heap → Prop} {d : DefRec} {K : Params → PySem.W.Frag} {CX : CXT} {sp : PySem.W.Frag → Sp} {x : Str}
    (hn : l.most = some n) (hn2 : n ≤ sizeLine) (hdf : d.params.defaults = []) (hr : Room k callerA)
    (hY : ∀ (w : World) (h : Heap), YP w h → (K w.params).In h)
    (F : ∀ (w : World) (mg : Str → Option Value) (fa : Addr) (h : Heap), (K w.params).In h → h.Ns mainGlobals mg → mg d.name = some (.ref fa) →
      ∃ fd : FuncData, (∀ (s : Shared) (u : Value), BindsTo s fd ⟨[u], []⟩ [(x, u)]) ∧
        ∀ base : Heap, (K w.params).In base → base.Ns mainGlobals mg → FnOk l.prog w (K w.params) mg base CX k fa fd [x] (sp (K w.params)))
    (hsp : ∀ (K : PySem.W.Frag) (H : Hp) (a : Addr) (ns : List Int), ns.length ≤ n → Only H → SqL K H a (ns.map V.int) → sp K [.ref a] H (fun v _ => v = .bl true) fun _ _ _ => False)
    (hCX : ∀ (H : Hp) (s : Shared) (e : Value) (s' : Shared), CX [] H s (fun _ _ _ => False) e s' → False) :
    PySem.W.WalkO q loose XP YP l.row.toRowW d [] (fun f vs => PySem.call f vs) :=
  walk_of (K := K) (CX := fun _ => CX) (sp := fun w => sp (K w.params)) hn hn2 hdf hr hY F (fun w H a ns h1 h2 h3 => hsp (K w.params) H a ns h1 h2 h3) fun _ H s e s' => hCX H s e s'
end L2

/- THE LAST THEOREM (shape; LID, My.* are yours):
   My.Adr: a structure of the addresses that your layer names (classes, functions); My.Txt K t: a structure (Prop) of the equations over K;
   My.txt_mk : {K} {implicit addresses ..} (e1 : nsIn K mainGlobals "law" = some (some (.ref f))) (e2 : K.lookup f = some ⟨oc, od, .func (fnOf "law" "law" params body scope dV kV doc pm an cdv ct), sl⟩) (e3 : codeIn K cdv "law" = true) .. : ∃ t, My.Txt K t

set_option maxRecDepth 100000 in
set_option maxHeartbeats 0 in
theorem PySem.Challenge.cw_LID_holds : PySem.Challenge.rw_LID.Holds := by
  w_on; o_law; k_head; (case hw => w_witness2)
  k_fill
  refine L2.walk_of (l := PySem.Challenge.rw_LID) (n := 63) (k := 40) (x := "script") (CX := fun w => ..) (sp := fun _ => My.sp_law) rfl (by decide) rfl ⟨rfl, by decide, by decide⟩ (fun w h Y => PySem.W.kIn_of Y) ?F ?S ?C
  case F =>
    intro w mg fa h KX G hmg
    have T : ∃ t, My.Txt (L2.KOf KX) t := by
      dsimp only [L2.KOf]                          -- K must stand as «<heap const> w.params» for k_is
      refine' My.txt_mk ?e1 ?e2 ?e3 ..
      (case e1 => PySem.W.k_is)                    -- in the order: a name -> its address -> its object -> its parts
      (case e2 => PySem.W.k_is)
      ..
    obtain ⟨t, T⟩ := T
    have e0 := hmg.symm.trans (PySem.W.mg_of KX G T.law)
    cases e0                                       -- fa is the law's own address
    exact ⟨_, fun s u => .of_eq rfl, fun base kb nb => My.law_fn T kb nb⟩     -- if «.of_eq rfl» comes too early: refine' ⟨_, ?b, fun base kb nb => My.law_fn T kb nb⟩; exact fun s u => .of_eq rfl
  case S => exact fun w H a ns hl hO hS => ..
  case C => exact ..
(the tactic k_is has no namespace: write k_is) -/

/-! SHORT WORDS over the layer: a def of the text, its body, what a loop and a test want. -/
namespace L2
open PySem PySem.Spec PyProof.Rows

/-! ### the text by places -/
/-- the j-th statement of a class's body -/
def inClass (s : Stmt) (j : Nat) : Stmt := match s with
  | .ClassDef _ _ _ body _ _ _ _ _ _ _ => body.getD j (.Pass ⟨0, 0, 0, 0⟩)
  | _ => .Pass ⟨0, 0, 0, 0⟩
def defArgs (s : Stmt) : Arguments := match s with
  | .FunctionDef _ a _ _ _ _ _ _ _ _ => a
  | _ => { posonlyargs := [], args := [], vararg := none, kwonlyargs := [], kw_defaults := [], kwarg := none, defaults := [] }
def defBody (s : Stmt) : List Stmt := match s with
  | .FunctionDef _ _ b _ _ _ _ _ _ _ => b
  | _ => []
def defScope (s : Stmt) : Scope := match s with
  | .FunctionDef _ _ _ _ _ _ sc _ _ _ => sc
  | _ => { kind := .function, names := [], isGenerator := false, isCoroutine := false }

/-! ### no exception leaves a def -/
abbrev CX0 : CXT := fun _ _ _ _ _ _ => False
abbrev E0 : XK := fun _ _ _ => False
theorem pass0 {X : Cx} : Passes CX0 X E0 := fun _ _ _ _ _ _ _ h => h.elim

/-! ### a def (or method) of the text as it stands behind the top -/
structure Fun (K : PySem.W.Frag) (x qual : Str) (st : Stmt) (f : Addr) (fd : FuncData) : Prop where
  ex : ∃ (oc : Value) (od : Option Addr) (kV doc pm : Value) (an : Option Addr) (cdv ct : Value) (osl : Array (Option Value)),
    fd = PySem.W.fnOf x qual (defArgs st) (defBody st) (defScope st) .none kV doc pm an cdv ct ∧ K.lookup f = some ⟨oc, od, .func fd, osl⟩ ∧ PySem.W.codeIn K cdv qual = true
  kp : PySem.W.keepIn K (.ref f) = true
section
variable {P : Program} {w : World} {K : PySem.W.Frag} {mg : Str → Option Value} {base : Heap}
/-- THE RULE for a def: its body as a term of rules, and the reading of that term -/
theorem Fun.ok {x qual : Str} {st : Stmt} {f : Addr} {fd : FuncData} {N ps : List Str} {k : Nat} {sp : Sp} (F : Fun K x qual st f fd) (S : FnScope N ps (defScope st)) (len : ∀ vs H Q E, sp vs H Q E → vs.length = ps.length)
    (hbody : ∀ (cdv : Value) (A : Around) (outer : List Env) (s : Shared) (H : Hp) (vs : List V) (Q : VK) (E : XK), Room k (A.deeper (envOfC qual (defScope st) s.heap.objs.size f cdv)) → sp vs H Q E →
      ∃ t, PSs (cxOf CX0 P w K mg base N qual (defScope st) f cdv A outer s H E).nox (defBody st) t ∧ t { nx := fun _ H' => Q .non H', rt := Q } (start N vs) H) : FnOk P w K mg base CX0 (k + 1) f fd ps sp := by
  obtain ⟨oc, od, kV, doc, pm, an, cdv, ct, osl, rfl, lk, hcd⟩ := F.ex
  refine fn_of lk hcd S len fun A outer s H vs Q E hr hsp => ?_
  obtain ⟨t, h, q⟩ := hbody cdv A outer s H vs Q E hr hsp
  exact ⟨t, h.nox, q⟩
/-- how its arguments bind (no defaults): h is «fun _ _ _ _ _ _ us hl => match us, hl with | [_, _], _ => rfl», one _ a parameter -/
theorem Fun.binds {x qual : Str} {st : Stmt} {f : Addr} {fd : FuncData} {ps : List Str} (F : Fun K x qual st f fd)
    (h : ∀ (kV doc pm : Value) (an : Option Addr) (cdv ct : Value) (us : List Value), us.length = ps.length → bindArgs (PySem.W.fnOf x qual (defArgs st) (defBody st) (defScope st) .none kV doc pm an cdv ct) ⟨us, []⟩ = pure (ps.zip us)) : Binds K fd ps [] := by
  obtain ⟨oc, od, kV, doc, pm, an, cdv, ct, osl, rfl, lk, hcd⟩ := F.ex
  exact .all (h kV doc pm an cdv ct)
theorem fun_mk {x qual : Str} {st : Stmt} {f : Addr} {oc : Value} {od an : Option Addr} {osl : Array (Option Value)} {kV doc pm cdv ct : Value} (l : K.lookup f = some ⟨oc, od, .func (PySem.W.fnOf x qual (defArgs st) (defBody st) (defScope st) .none kV doc pm an cdv ct), osl⟩)
    (c : PySem.W.codeIn K cdv qual = true) (k : PySem.W.keepIn K (.ref f) = true) : Fun K x qual st f (PySem.W.fnOf x qual (defArgs st) (defBody st) (defScope st) .none kV doc pm an cdv ct) := ⟨⟨oc, od, kV, doc, pm, an, cdv, ct, osl, rfl, l, c⟩, k⟩
end
theorem hu_of {A : Around} {k : Nat} (hr : Room k A) : A.units + 1 < cLine := Nat.lt_of_le_of_lt (Nat.add_le_add_left (by decide : 1 ≤ 64) _) hr.units
theorem small1000 {n : Nat} (h : n ≤ 1000) : n < sizeLine := Nat.lt_of_le_of_lt h (by decide)

/-! ### expressions in short: the name that stands in the i-th slot -/
section
variable {X : Cx}
theorem pv (i : Nat) {x : Str} {pos : Pos} (hN : X.N[i]? = some x := by rfl) (hv : Vis X.env.scope x := by first | exact Or.inl rfl | exact Or.inr (Or.inl rfl) | exact Or.inr (Or.inr rfl)) (hd : (x == ("__debug__" : Str)) = false := by decide)
    (hcd : (x == ("__classdict__" : Str)) = false := by decide) : PE X (.Name x pos) (tVar i) := pe_var hN hv hd hcd
end

/-! ### tests -/
theorem iteF {A B : Prop} (h : B) : if false = true then A else B := by
  rw [if_neg Bool.false_ne_true]
  exact h
theorem iteT {A B : Prop} (h : A) : if true = true then A else B := by
  rw [if_pos rfl]
  exact h
theorem ite2 {c A B : Prop} [Decidable c] (h1 : c → A) (h2 : ¬ c → B) : if c then A else B := by
  by_cases h : c
  · rw [if_pos h]
    exact h1 h
  · rw [if_neg h]
    exact h2 h
theorem iteNS {c A B : Prop} [Decidable c] (hc : c) (h : B) : if (!decide c) = true then A else B := by
  rw [decide_eq_true hc]
  exact iteF h

/-! ### heaps -/
/-- all that was tracked is as it was -/
def Same (H H' : Hp) : Prop := ∀ b o, H b = some o → H' b = some o
theorem Same.refl (H : Hp) : Same H H := fun _ _ h => h
theorem Same.trans {H H1 H2 : Hp} (a : Same H H1) (b : Same H1 H2) : Same H H2 := fun c o h => b c o (a c o h)
theorem Same.free {H H' : Hp} (e : Same H H') {l : Addr} (h : H' l = Option.none) : H l = Option.none := by
  cases q : H l with
  | none => rfl
  | some o =>
    rw [e l o q] at h
    cases h
theorem Same.seq {K : PySem.W.Frag} {H H' : Hp} {a : Addr} {xs : List V} (e : Same H H') (h : SqL K H a xs) : SqL K H' a xs := by
  rcases h with (h | ⟨o, h⟩) | h
  · exact .inl (.inl (e _ _ h))
  · exact .inl (.inr ⟨o, e _ _ h⟩)
  · exact .inr h

end L2

set_option maxHeartbeats 4000000
namespace L2
open PySem PySem.Spec PyProof.Rows

/-! ### list comprehensions of one clause, within the hand layer -/
section
variable {X : Cx} {pins : List (Addr × Obj)} {σ : St} {H : Hp} {s : Shared} {a : Addr} {o : HO}
theorem HOk.adopt {P : Program} {w : World} {h : Heap} (x : HOk P w H h) (hn : H a = none) (new : ObjOk P w (upd H a o) h a o) : HOk P w (upd H a o) h := fun b u e => by
  by_cases hb : b = a
  · subst hb; rw [upd_same] at e; cases e; exact new
  · rw [upd_ne hb] at e
    exact (x b u e).stay (fun c v _ q => q) (fun c q => by rw [upd_ne (ne_of_none q hn)]; exact q) fun c xs q => by rw [upd_ne (ne_of_none q hn)]; exact q
/-- an object that was not tracked is tracked from here on -/
theorem Inv.adopt (I : Inv X pins σ H s) (f : FpOk X pins H a) (new : ObjOk X.prog X.w (upd H a o) s.heap a o) : Inv X pins σ (upd H a o) s := by
  obtain ⟨hn, hL, hfs, hex, hc, hp⟩ := f
  refine ⟨I.ok, I.os, I.bare, ⟨I.base.keep, I.base.slot, fun b ob e n hx => ?_, I.base.there, fun b xs e => ?_, fun b ob u e => ?_, fun b ps e => ?_⟩, I.loc, I.cell, by rw [upd_ne (Ne.symm hL)]; exact I.free, fun x c e => by rw [upd_ne (hc x c e)]; exact I.freeC x c e, fun p q => ?_, HOk.adopt I.hok hn new, I.len⟩
  · have nb : b ≠ a := fun z => by
      rcases hex with z' | z'
      · exact hx (z ▸ z')
      · exact absurd (Heap.lt_size e) (by rw [z]; exact Nat.not_lt.mpr z')
    rw [upd_ne nb]
    exact I.base.free b ob e n hx
  · have q := I.base.tups b xs e
    rw [upd_ne (ne_of_none q hn)]
    exact q
  · have q := I.base.frzs b ob u e
    rw [upd_ne (ne_of_none q hn)]
    exact q
  · obtain ⟨m, q⟩ := I.base.tbls b ps e
    exact ⟨m, by rw [upd_ne (ne_of_none q hn)]; exact q⟩
  · obtain ⟨e, n, r⟩ := I.pin p q
    exact ⟨e, by rw [upd_ne (hp p q)]; exact n, r⟩
end

/-! the closure of the block -/
theorem forIn_yield_fold {α β : Type} {f : α → β → Sem (ForInStep β)} {g : α → β → β} : ∀ (l : List α) (c : β), (∀ x ∈ l, ∀ c, f x c = pure (.yield (g x c))) → forIn l c f = pure (l.foldl (fun c x => g x c) c)
  | [], _, _ => rfl
  | x :: l, c, h => by
    rw [List.forIn_cons, h x List.mem_cons_self, pure_bind]
    exact forIn_yield_fold l (g x c) fun y hy => h y (List.mem_cons_of_mem _ hy)
def clG (env : Env) (x : Str × NameKind) (c : List (Str × Addr)) : List (Str × Addr) := if (x.2 == NameKind.free) = true then (x.1, (env.cells.lookup x.1).getD 0) :: c else c
def clOf (env : Env) (scope : Scope) : List (Str × Addr) := scope.names.foldl (fun c x => clG env x c) []
theorem closure_eq {env : Env} {scope : Scope} (h : ∀ y ∈ scope.names, y.2 = .free → ∃ c, env.cells.lookup y.1 = some c) : closureFor scope env = pure (clOf env scope) := by
  simp only [closureFor]
  rw [forIn_yield_fold (g := clG env) scope.names [] (fun x hx c => by
    obtain ⟨n, k⟩ := x
    unfold clG
    by_cases hk : (k == NameKind.free) = true
    · obtain ⟨a, ha⟩ := h _ hx (by simpa using hk)
      have ha' : env.cells.lookup n = some a := ha
      simp only [hk, if_true, cellOf, ha', pure_bind, Option.getD_some]
    · have hk' : (k == NameKind.free) = false := Bool.eq_false_iff.mpr hk
      simp only [hk', Bool.false_eq_true, if_false])]
  rfl
theorem clG_look {env : Env} : ∀ (l : List (Str × NameKind)) (cs : List (Str × Addr)), (∀ y ∈ l, y.2 = .free → ∃ c, env.cells.lookup y.1 = some c) → (∀ y c, cs.lookup y = some c → env.cells.lookup y = some c) →
    (∀ y c, (l.foldl (fun c x => clG env x c) cs).lookup y = some c → env.cells.lookup y = some c) ∧ ∀ y, ((cs.lookup y).isSome = true ∨ (y, NameKind.free) ∈ l) → ((l.foldl (fun c x => clG env x c) cs).lookup y).isSome = true
  | [], cs, _, h => ⟨h, fun y hy => hy.elim id fun z => absurd z (by simp)⟩
  | (n, k) :: l, cs, hf, h => by
    have hf' : ∀ y ∈ l, y.2 = .free → ∃ c, env.cells.lookup y.1 = some c := fun y hy => hf y (List.mem_cons_of_mem _ hy)
    rw [List.foldl_cons]
    by_cases hk : k = .free
    · subst hk
      obtain ⟨a, ha⟩ := hf (n, .free) List.mem_cons_self rfl
      have ha' : env.cells.lookup n = some a := ha
      have e : clG env (n, .free) cs = (n, a) :: cs := by
        unfold clG
        rw [if_pos (by rfl)]
        show (n, (env.cells.lookup n).getD 0) :: cs = _
        rw [ha']
        rfl
      rw [e]
      have ih := clG_look l ((n, a) :: cs) hf' (fun y c hy => by
        rw [List.lookup_cons] at hy
        cases hb : y == n with
        | true =>
          rw [hb] at hy
          rw [eq_of_beq hb]
          exact ha'.trans hy
        | false =>
          rw [hb] at hy
          exact h y c hy)
      refine ⟨ih.1, fun y hy => ih.2 y ?_⟩
      rcases hy with hy | hy
      · left
        rw [List.lookup_cons]
        cases y == n with
        | true => rfl
        | false => exact hy
      · rcases List.mem_cons.mp hy with hy | hy
        · left
          rw [(Prod.mk.inj hy).1, List.lookup_cons]
          simp
        · exact .inr hy
    · have e : clG env (n, k) cs = cs := by
        unfold clG
        rw [if_neg (by simpa using hk)]
      rw [e]
      have ih := clG_look l cs hf' h
      refine ⟨ih.1, fun y hy => ih.2 y ?_⟩
      rcases hy with hy | hy
      · exact .inl hy
      · rcases List.mem_cons.mp hy with hy | hy
        · exact absurd (Prod.mk.inj hy).2.symm hk
        · exact .inr hy
theorem lookup_relabel_free {env : Env} : ∀ {names : List (Str × NameKind)} {x : Str}, names.lookup x = some .free →
    (names.map fun (n, k) => if (k == NameKind.free && env.scope.kind == .function && env.kindOf n == some .cell) then (n, NameKind.cell) else (n, k)).lookup x ≠ some .local
  | [], _, h => by simp at h
  | (n, k) :: r, x, h => by
    have ih := @lookup_relabel_free env r x
    show List.lookup x ((if (k == NameKind.free && env.scope.kind == .function && env.kindOf n == some .cell) = true then (n, NameKind.cell) else (n, k)) :: _) ≠ _
    cases hx : x == n with
    | true =>
      simp only [List.lookup_cons, hx] at h
      cases h
      split
      · simp [List.lookup_cons, hx]
      · simp [List.lookup_cons, hx]
    | false =>
      simp only [List.lookup_cons, hx] at h
      by_cases hc : (k == NameKind.free && env.scope.kind == .function && env.kindOf n == some .cell) = true
      · rw [if_pos hc]; simp only [List.lookup_cons, hx]; exact ih h
      · rw [if_neg hc]; simp only [List.lookup_cons, hx]; exact ih h
theorem free_of_relabel {env : Env} {scope : Scope} {y : Str} (nc : ∀ z ∈ scope.names, z.2 ≠ .cell) (h : (relabel scope env).names.lookup y = some .cell ∨ (relabel scope env).names.lookup y = some .free) : (y, NameKind.free) ∈ scope.names := by
  have go : ∀ k, (k = NameKind.cell ∨ k = NameKind.free) → (relabel scope env).names.lookup y = some k → (y, NameKind.free) ∈ scope.names := fun k hk e => by
    have m := PySem.mem_of_lookup e
    obtain ⟨⟨n, k'⟩, hm, e'⟩ := List.mem_map.mp m
    by_cases hc : (k' == NameKind.free && env.scope.kind == .function && env.kindOf n == some .cell) = true
    · have e2 : (n, NameKind.cell) = (y, k) := by
        rw [← e']
        show _ = (if (k' == NameKind.free && env.scope.kind == .function && env.kindOf n == some .cell) = true then (n, NameKind.cell) else (n, k'))
        rw [if_pos hc]
      have hk' : k' = .free := by
        simp only [Bool.and_eq_true, beq_iff_eq] at hc
        exact hc.1.1
      rw [← (Prod.mk.inj e2).1, ← hk']
      exact hm
    · have e2 : (n, k') = (y, k) := by
        rw [← e']
        show _ = (if (k' == NameKind.free && env.scope.kind == .function && env.kindOf n == some .cell) = true then (n, NameKind.cell) else (n, k'))
        rw [if_neg hc]
      rcases hk with hk | hk
      · exact absurd ((Prod.mk.inj e2).2.trans hk) (nc _ hm)
      · rw [← (Prod.mk.inj e2).1, ← hk, ← (Prod.mk.inj e2).2]
        exact hm
  rcases h with h | h
  · exact go _ (.inl rfl) h
  · exact go _ (.inr rfl) h

/-! the block's own context -/
def cxComp (X : Cx) (N : List Str) (scope : Scope) (C : Addr) (s : Shared) (H : Hp) (ex : List Addr) (pn : List (Addr × Obj)) (E : Value → Shared → Prop) : Cx where
  prog := X.prog
  w := X.w
  K := X.K
  mg := X.mg
  base := X.base
  A := X.A
  N := N
  s₀ := s
  H₀ := H
  env := compEnvC scope (clOf X.env scope) C X.env
  outer := X.stack
  stack := X.stack
  ex := ex
  fn := fun _ => false
  calm := X.calm
  pn := pn
  xe := E
/-- what is read off the text: osc, N the scope and the names around; caps: the names (with their places around) that the block sees -/
structure CompSc (osc : Scope) (N : List Str) (scope : Scope) (x : Str) (caps : List (Nat × Str)) : Prop where
  kind : scope.kind = .function
  hx : scope.names.lookup x = some .local
  ncell : ∀ y ∈ scope.names, y.2 ≠ .cell
  nloc : ∀ y ∈ scope.names, y.2 = .local → scope.names.lookup y.1 = some .local
  free : ∀ y ∈ scope.names, y.2 = .free → osc.names.lookup y.1 = some .cell ∨ osc.names.lookup y.1 = some .free
  cap : ∀ p ∈ caps, N[p.1]? = some p.2 ∧ scope.names.lookup p.2 = some .free
  nd : (x :: caps.map (·.2)).Nodup
def capS (caps : List (Nat × Str)) (σ : St) : St := caps.map fun p => (σ[p.1]?).getD none
def PIfs (X : Cx) (ifs : List Expr) (tc : TT) : Prop :=
  ∀ (pins : List (Addr × Obj)) (s : Shared) (σ : St) (H : Hp) (Q : Bool → Hp → Prop), Inv X pins σ H s → tc σ H Q →
    wpAny (model X.prog X.w) X.A (forIn ifs true fun c r => if r = true then do let ok ← isTrue c X.env (eval c X.env); pure (ForInStep.yield ok) else pure (ForInStep.yield r)) (TP X pins σ Q) X.xe s
def tYes : TT := fun _ H Q => Q true H
theorem pifs_nil {X : Cx} : PIfs X [] tYes := fun _ _ _ H _ I h => by
  simp only [List.forIn_nil]
  exact wpAny_pure ⟨H, I, h⟩
theorem pifs_one {X : Cx} {c : Expr} {tc : TT} (h : PT X c tc) : PIfs X [c] tc := by
  intro pins s σ H Q I hq
  simp only [List.forIn_cons, List.forIn_nil, if_true]
  exact wpAny_bind (wpAny_bind (wpAny_mono (h pins s σ H Q I hq) (fun b s' hb => wpAny_pure (wpAny_pure hb)) fun _ _ x => x))
/-- the block's reading: W, what holds ahead of turn i with a measure m and the items acc so far; Z, what is wanted behind -/
def tCompW (J : It) (cs : St) (tc : TT) (te : TE) (H1 : Hp) (Z : List V → Hp → Prop) : Prop :=
  ∃ W : Nat → Nat → List V → Hp → Prop, (∃ m, W 0 m [] H1) ∧ ∀ i m acc H, W i m acc H →
    (J.stop i H ∧ Z acc H) ∨ (J.go i H ∧ ∃ N : List V → Hp → Prop, (∀ a H', N a H' → ∃ m', m' < m ∧ W (i + 1) m' a H') ∧
      ∀ x H', J.yld i H x H' → tc (some x :: cs) H' fun b H2 => if b = true then te (some x :: cs) H2 fun v H3 => acc.length < sizeLine ∧ N (acc ++ [v]) H3 else N acc H2)
def tComp (wi : TI) (caps : List (Nat × Str)) (tc : TT) (te : TE) : TE := fun σ H Q => wi σ H fun J H1 => tCompW J (capS caps σ) tc te H1 fun acc H2 => ∀ p, H2 p = none → Q (.ref p) (upd H2 p (.lst acc))

/-! the loop -/
theorem comp_loop {X : Cx} {elt iter : Expr} {x : Str} {ns : List Str} {px pos : Pos} {ifs : List Expr} {scope : Scope} {it D : Addr} {fp : List Addr} {tn : Nat → Heap → Prop} {J : It} {tc : TT} {te : TE} {Z : List V → Hp → Prop} {R : Result → Shared → Prop}
    {cs : St} {o : Option V} {H : Hp} {s : Shared} (hc : X.calm = true) (hN : X.N = x :: ns) (nd : X.N.Nodup) (hx : X.env.scope.names.lookup x = some .local) (I : Inv X [] (o :: cs) H s) (T : Turn X.prog X.w X.K (.Name x px) J fp it tn) (st : tn 0 s.heap) (hf : ∀ b ∈ fp, FpOk X [] H b)
    (hD : FpOk X [] H D) (hDf : D ∉ fp) (pl : s.heap.PlainList D #[]) (hifs : PIfs X ifs tc) (helt : PE X elt te) (hW : tCompW J cs tc te H Z) (hxe : X.xe = notedBy (model X.prog X.w) X.A X.env fun e s' => R (.error e) s')
    (hR : ∀ (s' : Shared) (H' : Hp) (acc : List V) (its : List Value) (o' : Option V), Inv X [] (o' :: cs) H' s' → s'.heap.PlainList D its.toArray → Vals acc its → acc.length ≤ sizeLine → H' D = none → Z acc H' → R (.ok .next) s') :
    codeAny (model X.prog X.w) X.A (.compLoop (.ListComp elt [⟨.Name x px, iter, ifs, 0⟩] scope pos) 0 (.ref it) (.ref D) X.env) R s := by
  obtain ⟨W, ⟨m0, w0⟩, turn⟩ := hW
  refine codeAny_compLoop_tests (fun n s' => ∃ (i : Nat) (acc : List V) (its : List Value) (H' : Hp) (o' : Option V), Inv X [] (o' :: cs) H' s' ∧ tn i s'.heap ∧ (∀ b ∈ fp, H' b = none) ∧ H' D = none ∧ s'.heap.PlainList D its.toArray ∧ Vals acc its ∧ acc.length ≤ sizeLine ∧ W i n acc H') ?_ m0
    ⟨0, [], [], H, o, I, st, fun b hb => (hf b hb).1, hD.1, pl, .nil, Nat.zero_le _, w0⟩
  rintro n s3 ⟨i, acc, its, H3, o3, I3, st3, fr3, hD3, ⟨nD, gD⟩, va, hl, w3⟩
  rw [← hxe]
  -- the list is pinned through the turn
  have I4 : Inv X [(D, { cls := .type "list", data := .seq its.toArray nD })] (o3 :: cs) H3 s3 := I3.pins_of fun p hp => by
    obtain rfl : p = (D, { cls := .type "list", data := .seq its.toArray nD }) := by simpa using hp
    exact ⟨gD, hD3, hD.2.1, hD.2.2.1, fun v z => by cases (show Data.seq its.toArray nD = Data.cell v from z)⟩
  have stat : ∀ {H' : Hp}, (∀ b ∈ fp, H' b = none) → ∀ b ∈ fp, FpOk X [(D, { cls := .type "list", data := .seq its.toArray nD })] H' b := fun hn b hb => by
    obtain ⟨_, f1, f2, f3, f4, f5⟩ := hf b hb
    refine ⟨hn b hb, f1, f2, f3, f4, fun p hp => ?_⟩
    rcases List.mem_append.mp hp with z | z
    · exact f5 p (List.mem_append_left _ z)
    · obtain rfl : p = (D, { cls := .type "list", data := .seq its.toArray nD }) := by simpa using z
      exact fun e => hDf (by rw [show D = b from e]; exact hb)
  rcases turn i n acc H3 w3 with ⟨stop, z⟩ | ⟨go, N, hNn, step⟩
  · refine thn (T.done X rfl rfl rfl hc i _ s3 (o3 :: cs) H3 X.xe I4 (stat fr3) st3 stop) fun r s4 ⟨hr, I5⟩ => ?_
    subst hr
    exact hR s4 H3 acc its o3 (I5.pins_of fun p hp => absurd hp (by simp)) ⟨nD, (I5.pin _ (List.mem_append_right _ (List.mem_singleton.mpr rfl))).1⟩ va hl hD3 z
  · refine thn (T.item X rfl rfl rfl hc i _ s3 (o3 :: cs) H3 X.xe I4 (stat fr3) st3 go) fun r s4 ⟨u, hr, h4⟩ => ?_
    subst hr
    have e0 : (letOwnedTupleGo (.Name x px) (.ref it) u >>= fun _ => assign (.Name x px) X.env u) = assign (.Name x px) X.env u := rfl
    show wpAny _ _ (assign (.Name x px) X.env u) _ _ s4
    rw [← e0]
    refine wpAny_bind (thn h4 fun _ s5 ⟨xv, H5, I5, r5, y5, st5, fr5⟩ => ?_)
    have I5' := I5.pinned (stat fr5) (T.obj _ _ st5)
    refine wpAny_assign_Name (store_ok (i := 0) I5' nd (by rw [hN] <;> rfl) (.inl hx) r5 (fun s6 I6 => ?_) (.inr hx))
    have I6' : Inv X ([(D, { cls := .type "list", data := .seq its.toArray nD })] ++ pinsAt fp s5.heap) (some xv :: cs) H5 s6 := I6
    -- what stays of the iterator and of the list, at any later state of the turn
    have later : ∀ {σ' : St} {H' : Hp} {s' : Shared}, Inv X ([(D, { cls := .type "list", data := .seq its.toArray nD })] ++ pinsAt fp s5.heap) σ' H' s' →
        Inv X [] σ' H' s' ∧ tn (i + 1) s'.heap ∧ (∀ b ∈ fp, H' b = none) ∧ H' D = none ∧ s'.heap.get? D = some { cls := .type "list", data := .seq its.toArray nD } := fun {σ' H' s'} J' => by
      have pD := J'.pin (D, { cls := .type "list", data := .seq its.toArray nD }) (List.mem_append_right _ (List.mem_append_left _ (List.mem_singleton.mpr rfl)))
      refine ⟨J'.pins_of fun p hp => absurd hp (by simp), T.keep _ _ _ st5 fun b hb ob e => (J'.pin (b, ob) (List.mem_append_right _ (List.mem_append_right _ (mem_pinsAt hb e)))).1, fun b hb => ?_, pD.2.1, pD.1⟩
      obtain ⟨ob, e, _⟩ := T.obj _ _ st5 b hb
      exact (J'.pin (b, ob) (List.mem_append_right _ (List.mem_append_right _ (mem_pinsAt hb e)))).2.1
    refine thn (hifs _ s6 (some xv :: cs) H5 _ I6' (step xv H5 y5)) fun b s7 ⟨H7, I7, q7⟩ => ?_
    cases b with
    | false =>
      obtain ⟨m', hm, w7⟩ : ∃ m', m' < n ∧ W (i + 1) m' acc H7 := hNn acc H7 q7
      obtain ⟨l1, l2, l3, l4, l5⟩ := later I7
      exact ⟨m', hm, i + 1, acc, its, H7, some xv, l1, l2, l3, l4, ⟨nD, l5⟩, va, hl, w7⟩
    | true =>
      have q7' : te (some xv :: cs) H7 fun v H3 => acc.length < sizeLine ∧ N (acc ++ [v]) H3 := q7
      show wpAny _ _ (eval elt X.env) _ _ s7
      refine thn (helt _ s7 (some xv :: cs) H7 _ I7 q7') fun u8 s8 ⟨v, H8, I8, r8, hlt, n8⟩ => ?_
      obtain ⟨m', hm, w8⟩ := hNn _ _ n8
      obtain ⟨l1, l2, l3, l4, l5⟩ := later I8
      have hlen := va.length
      refine wpAny_list_append_plain (hsz := by simp only [List.size_toArray]; omega) ⟨nD, l5⟩ fun h9 pl9 sb9 => ?_
      refine ⟨m', hm, i + 1, acc ++ [v], its ++ [u8], H8, some xv, l1.turned (t' := s8.toks) (fun b ob hb e => (sb9.2 b hb).trans e) l4 hD.2.1 hD.2.2.2.1 hD.2.2.2.2.1 hD.2.2.2.2.2, ?_, l3, l4, by simpa using pl9, va.append (.cons r8 .nil), ?_, w8⟩
      · exact T.keep _ _ _ l2 fun b hb ob e => (sb9.2 b (fun z => hDf (z ▸ hb))).trans e
      · rw [List.length_append, List.length_singleton]
        omega

/-! the block -/
section
variable {X : Cx} {elt iter : Expr} {x : Str} {px pos : Pos} {ifs : List Expr} {scope : Scope} {caps : List (Nat × Str)} {wi : TI} {tc : TT} {te : TE}
theorem Inv.stkNo {pins : List (Addr × Obj)} {σ : St} {H : Hp} {s : Shared} {b : Addr} (I : Inv X pins σ H s) (h1 : b ≠ X.env.locals) (h2 : b ∉ X.fs) : b ∉ frs X.stack := fun z => (List.mem_cons.mp (I.stkSub b z)).elim h1 h2
theorem comp_block {pins : List (Addr × Obj)} {σ : St} {H : Hp} {s : Shared} {E : Value → Shared → Prop} {it : Addr} {fp : List Addr} {tn : Nat → Heap → Prop} {J : It} {Z : List V → Hp → Prop} {RR : Value → Addr → Result → Shared → Prop}
    (hc : X.calm = true) (S : CompSc X.env.scope X.N scope x caps) (I : Inv X pins σ H s) (T : Turn X.prog X.w X.K (.Name x px) J fp it tn) (st : tn 0 s.heap) (hf : ∀ b ∈ fp, FpOk X pins H b)
    (hifs : ∀ C s H ex pn E, PIfs (cxComp X (x :: caps.map (·.2)) scope C s H ex pn E) ifs tc) (helt : ∀ C s H ex pn E, PE (cxComp X (x :: caps.map (·.2)) scope C s H ex pn E) elt te)
    (hW : tCompW J (capS caps σ) tc te H Z)
    (hRR : ∀ (s' : Shared) (H' : Hp) (acc : List V) (its : List Value) (D C : Addr) (m : Str → Option Value), Inv X pins σ H' s' → s'.heap.PlainList D its.toArray → Vals acc its → acc.length ≤ sizeLine → FpOk X pins H' D → FpOk X pins H' C → D ≠ C → s'.heap.Ns C m → Z acc H' → RR (.ref D) C (.ok .next) s') :
    wpAny (model X.prog X.w) X.A (newList []) (fun acc s₃ => wpAny (model X.prog X.w) X.A (newFunctionEnv scope X.env.globals (clOf X.env scope) [] X.env.qual none .none (some X.env)) (fun cenv s₄ =>
      codeAny (model X.prog X.w) X.A (.compStart (.ListComp elt [⟨.Name x px, iter, ifs, 0⟩] scope pos) 0 (.ref it) acc { cenv with scope := relabel scope X.env }) (RR acc cenv.locals) s₄) E s₃) E s := by
  refine wpAny_newObj_type (wpAny_newFunctionEnv S.ncell (by intro y hy; simp at hy) (fun h₁ hns₁ hsb₁ => ?_) S.kind)
  dsimp only at hns₁ hsb₁ ⊢
  have hI3 : Inv X pins σ H { s with heap := s.heap.push { cls := .type "list", dict := none, data := .seq ([] : List Value).toArray } } := I.kept (t' := s.toks) fun b u e => Heap.get?_push_of_some _ e
  have gD3 : (s.heap.push { cls := .type "list", dict := none, data := .seq ([] : List Value).toArray }).get? s.heap.objs.size = some { cls := .type "list", dict := none, data := .seq ([] : List Value).toArray } := Heap.get?_push_size _ rfl
  have hz3 : (s.heap.push { cls := .type "list", dict := none, data := .seq ([] : List Value).toArray }).objs.size = s.heap.objs.size + 1 := Heap.size_push _ _
  generalize hH3 : s.heap.push { cls := .type "list", dict := none, data := .seq ([] : List Value).toArray } = h3 at hns₁ hsb₁ hI3 gD3 hz3 ⊢
  have k3 : ∀ b u, s.heap.get? b = some u → h3.get? b = some u := fun b u e => hH3 ▸ Heap.get?_push_of_some _ e
  have k31 : ∀ b u, h3.get? b = some u → h₁.get? b = some u := fun b u e => (hsb₁.2 b (Nat.ne_of_lt (Heap.lt_size e))).trans (Heap.get?_push_of_some _ e)
  have k1 : ∀ b u, s.heap.get? b = some u → h₁.get? b = some u := fun b u e => k31 b u (k3 b u e)
  have hDC : s.heap.objs.size ≠ h3.objs.size := by rw [hz3]; exact Nat.ne_of_lt (Nat.lt_succ_self _)
  have fD : FpOk X pins H s.heap.objs.size := I.fpOk (Nat.le_refl _) (I.hok.fresh (Nat.le_refl _))
  have fC : FpOk X pins H h3.objs.size := I.fpOk (by rw [hz3]; exact Nat.le_succ _) (I.hok.fresh (by rw [hz3]; exact Nat.le_succ _))
  have lfp : ∀ b ∈ fp, b < s.heap.objs.size := fun b hb => let ⟨_, e, _⟩ := T.obj _ _ st b hb; Heap.lt_size e
  have hDf : s.heap.objs.size ∉ fp := fun z => Nat.lt_irrefl _ (lfp _ z)
  -- the closure's cells are cells around
  have hfree : ∀ y ∈ scope.names, y.2 = .free → ∃ c, X.env.cells.lookup y.1 = some c := fun y hy e => I.ok.has y.1 (S.free y hy e)
  obtain ⟨sub, has⟩ := clG_look scope.names [] hfree (fun y c e => by simp at e)
  have sub' : ∀ y c, (clOf X.env scope).lookup y = some c → X.env.cells.lookup y = some c := sub
  have has' : ∀ y, (y, NameKind.free) ∈ scope.names → ∃ c, (clOf X.env scope).lookup y = some c := fun y hy => Option.isSome_iff_exists.mp (has y (.inr hy))
  have inj : ∀ b ∈ s.heap.objs.size :: fp, FpOk X pins H b := fun b hb => (List.mem_cons.mp hb).elim (fun z => z ▸ fD) (hf b)
  have ltC : ∀ b ∈ s.heap.objs.size :: fp, b ≠ h3.objs.size := fun b hb => (List.mem_cons.mp hb).elim (fun z => z ▸ hDC) fun z => Nat.ne_of_lt (by rw [hz3]; exact Nat.lt_succ_of_lt (lfp b z))
  have I1 : Inv (cxComp X (x :: caps.map (·.2)) scope h3.objs.size { s with heap := h3 } H (s.heap.objs.size :: fp) (X.pn ++ pins)
      (notedBy (model X.prog X.w) X.A (compEnvC scope (clOf X.env scope) h3.objs.size X.env) fun e s' => RR (.ref s.heap.objs.size) h3.objs.size (.error e) s')) [] (none :: capS caps σ) H { s with heap := h₁, toks := s.toks + ([] : List (Str × Value)).length } := by
    refine ⟨⟨I.ok.mod, S.kind, I.ok.glob, I.ok.blt, Nat.le_refl _, fun y z c e1 e2 => I.ok.inj y z c (sub' _ _ e1) (sub' _ _ e2), fun y hy => has' y (free_of_relabel S.ncell hy), fun y c e => (nomatch e), I.ok.hd, I.ok.frames, .inl rfl, fun b hb => ⟨ltC b hb, fun y c e => (inj b hb).2.2.2.2.1 y c (sub' y c e)⟩,
        fun b ob e => ⟨k3 b ob (I.bs b ob e).1, (I.bs b ob e).2⟩, ?_, fun b ob e z => ?_, fun b hb => I.stkNo (inj b hb).2.1 (inj b hb).2.2.1, ?_, I.stkFree⟩,
      rfl, I.bare, Un.kept k31, ⟨_, hns₁, fun i y v e1 e2 e3 => ?_⟩, fun y c e => ?_, fC.1, fun y c e => I.freeC y c (sub' y c e), fun p hp => ?_, I.hok.kept k1, ?_⟩
    · exact Nat.le_trans I.ok.bsz (Nat.le_trans I.sz (by show s.heap.objs.size ≤ h3.objs.size; rw [hz3]; exact Nat.le_succ _))
    · rcases (inj b z).2.2.2.1 with w1 | w1
      · exact I.ok.noex b ob e w1
      · exact absurd (Nat.lt_of_lt_of_le (Heap.lt_size e) I.ok.bsz) (Nat.not_lt.mpr w1)
    · exact Heap.FunFrames.of_keeps (fun b ob e _ => ⟨ob, k3 b ob e, rfl⟩) I.stack
    · cases i with
      | zero => cases e2
      | succ i =>
        have e1' : (caps.map (·.2))[i]? = some y := e1
        have e2' : (capS caps σ)[i]? = some (some v) := e2
        unfold capS at e2'
        rw [List.getElem?_map] at e1' e2'
        cases ep : caps[i]? with
        | none => rw [ep] at e1'; cases e1'
        | some p =>
          rw [ep] at e1' e2'
          obtain rfl : p.2 = y := Option.some.inj e1'
          have e2'' : (σ[p.1]?).getD none = some v := Option.some.inj e2'
          have hσ : σ[p.1]? = some (some v) := by
            cases es : σ[p.1]? with
            | none => rw [es] at e2''; cases e2''
            | some w1 => rw [es] at e2''; exact congrArg some e2''
          obtain ⟨cN, cF⟩ := S.cap p (List.mem_of_getElem? ep)
          have mF : (p.2, NameKind.free) ∈ scope.names := PySem.mem_of_lookup cF
          have oF := S.free _ mF rfl
          obtain ⟨m, hn, hlook⟩ := I.loc
          obtain ⟨u, ru, lk⟩ := hlook p.1 p.2 v cN hσ (.inr oF)
          refine ⟨u, ru, .inr ⟨?_, ?_⟩⟩
          · rcases e3 with z | z
            · exact absurd z (lookup_relabel_free cF)
            · exact z
          · obtain ⟨c, ec⟩ := has' p.2 mF
            refine ⟨c, ec, ?_⟩
            rcases lk with ⟨z, _⟩ | ⟨_, c', ec', ob, ho, hd⟩
            · have z' : X.env.scope.names.lookup p.2 = some .local := z
              rw [z'] at oF
              rcases oF with q | q <;> cases q
            · have ee := (sub' _ _ ec).symm.trans ec'
              cases ee
              exact ⟨ob, k1 _ _ ho, hd⟩
    · obtain ⟨v, ob, ho, hd⟩ := I.cell y c (sub' y c e)
      exact ⟨v, ob, k1 _ _ ho, hd⟩
    · have hp' : p ∈ X.pn ++ pins := by
        rcases List.mem_append.mp hp with z | z
        · exact z
        · exact absurd z (by simp)
      obtain ⟨e, n, ne, nf, d⟩ := I.pin p hp'
      refine ⟨k1 _ _ e, n, Nat.ne_of_lt ?_, I.stkNo ne nf, d⟩
      show p.1 < h3.objs.size
      rw [hz3]
      exact Nat.lt_succ_of_lt (Heap.lt_size e)
    · show (none :: capS caps σ).length = (x :: caps.map (·.2)).length
      simp [capS]
  have hf1 : ∀ b ∈ s.heap.objs.size :: fp, FpOk (cxComp X (x :: caps.map (·.2)) scope h3.objs.size { s with heap := h3 } H (s.heap.objs.size :: fp) (X.pn ++ pins)
      (notedBy (model X.prog X.w) X.A (compEnvC scope (clOf X.env scope) h3.objs.size X.env) fun e s' => RR (.ref s.heap.objs.size) h3.objs.size (.error e) s')) [] H b := fun b hb => by
    obtain ⟨f0, f1, f2, f3, f4, f5⟩ := inj b hb
    refine ⟨f0, ltC b hb, I.stkNo f1 f2, .inl hb, fun y c e => f4 y c (sub' y c e), fun p hp => f5 p ?_⟩
    rcases List.mem_append.mp hp with z | z
    · exact z
    · exact absurd z (by simp)
  have st1 : tn 0 h₁ := T.keep _ _ _ st fun b _ ob e => k1 b ob e
  have loop : codeAny (model X.prog X.w) X.A (.compLoop (.ListComp elt [⟨.Name x px, iter, ifs, 0⟩] scope pos) 0 (.ref it) (.ref s.heap.objs.size) (compEnvC scope (clOf X.env scope) h3.objs.size X.env)) (RR (.ref s.heap.objs.size) h3.objs.size) { s with heap := h₁, toks := s.toks + ([] : List (Str × Value)).length } := by
    refine comp_loop (X := cxComp X (x :: caps.map (·.2)) scope h3.objs.size { s with heap := h3 } H (s.heap.objs.size :: fp) (X.pn ++ pins) (notedBy (model X.prog X.w) X.A (compEnvC scope (clOf X.env scope) h3.objs.size X.env) fun e s' => RR (.ref s.heap.objs.size) h3.objs.size (.error e) s'))
      hc rfl S.nd (lookup_relabel_local S.hx) I1 T st1 (fun b hb => hf1 b (List.mem_cons_of_mem _ hb)) (hf1 _ List.mem_cons_self) hDf ⟨0, k31 _ _ gD3⟩ (hifs _ _ _ _ _ _) (helt _ _ _ _ _ _) hW rfl ?_
    intro s' H' acc its o' J1 plD va hlen nD z
    have u1 : Un (frs X.stack) (s.heap.objs.size :: fp) H H' h3 s'.heap := J1.base
    have J2 : Inv X pins σ H' s' := Inv.call' (s := { s with heap := h3 }) hI3 J1.os u1 J1.hok J1.bare fun b hb => by
      obtain ⟨_, f1, _, f3, f4, f5⟩ := inj b hb
      exact ⟨f3, f1, f4, f5⟩
    obtain ⟨m, hn, _⟩ := J1.loc
    exact hRR s' H' acc its _ _ m J2 plD va hlen ⟨nD, fD.2⟩ ⟨J1.free, fC.2⟩ hDC hn z
  exact codeAny_compStart_list loop (T.self _ 0 _ _ _ st1 loop)

theorem pe_comp (hc : X.calm = true) (S : CompSc X.env.scope X.N scope x caps) (hi : PI X (.Name x px) iter wi)
    (hifs : ∀ C s H ex pn E, PIfs (cxComp X (x :: caps.map (·.2)) scope C s H ex pn E) ifs tc) (helt : ∀ C s H ex pn E, PE (cxComp X (x :: caps.map (·.2)) scope C s H ex pn E) elt te)
    (hs : ∀ x, foldedSetIterable iter X.env x = pure x := by intro _; rfl) : PE X (.ListComp elt [⟨.Name x px, iter, ifs, 0⟩] scope pos) (tComp wi caps tc te) := by
  intro pins s σ H Q I h
  have hfree : ∀ y ∈ scope.names, y.2 = .free → ∃ c, X.env.cells.lookup y.1 = some c := fun y hy e => I.ok.has y.1 (S.free y hy e)
  rw [eval_ListComp]
  refine wpAny_comprehension_free (use := none) rfl hs (closure_eq hfree) S.kind S.nloc (thn (hi pins s σ H _ I h) fun v s1 h1 => thn h1 fun itv s2 h2 => ?_)
  obtain ⟨it, fp, tn, J, H2, e, I2, T, st2, f2, hW⟩ := h2
  subst e
  refine comp_block (RR := fun acc C => compPost (model X.prog X.w) X.A X.xe none (EP X pins σ Q) acc C) hc S I2 T st2 f2 hifs helt hW ?_
  intro s' H' acc its D C m J2 plD va hlen fD fC hDC hn z
  obtain ⟨nD, gD⟩ := plD
  refine ⟨m, hn, fun h'' sb => ?_⟩
  have J3 : Inv X pins σ H' { s' with heap := h'' } := J2.turned (t' := s'.toks) (fun b ob hb e => (sb.2 b hb).trans e) fC.1 fC.2.1 fC.2.2.2.1 fC.2.2.2.2.1 fC.2.2.2.2.2
  exact ⟨.ref D, upd H' D (.lst acc), J3.adopt fD ⟨hlen, its, nD, va, (sb.2 D hDC).trans gD⟩, rfl, z D fD.1⟩
/-- name = [..] where the store is the comprehension's own last step -/
theorem ps_setC {i : Nat} {y : Str} {py spos : Pos} (hc : X.calm = true) (hN : X.N.Nodup) (hi' : X.N[i]? = some y) (hy : Loc X.env.scope y) (S : CompSc X.env.scope X.N scope x caps) (hi : PI X (.Name x px) iter wi)
    (hifs : ∀ C s H ex pn E, PIfs (cxComp X (x :: caps.map (·.2)) scope C s H ex pn E) ifs tc) (helt : ∀ C s H ex pn E, PE (cxComp X (x :: caps.map (·.2)) scope C s H ex pn E) elt te)
    (hsw : swapsWith (.ListComp elt [⟨.Name x px, iter, ifs, 0⟩] scope pos) (some (.Name y py)) spos.line X.env = pure true := by rfl) (hs : ∀ x, foldedSetIterable iter X.env x = pure x := by intro _; rfl)
    (hfn : X.fn y = true ∨ X.env.scope.names.lookup y = some .local := by first | exact .inl rfl | exact .inr rfl | assumption) : PS X (.Assign [.Name y py] (.ListComp elt [⟨.Name x px, iter, ifs, 0⟩] scope pos) spos) (tAsg (tComp wi caps tc te) (gName i)) := by
  intro pins s σ H D0 I h
  have hfree : ∀ y ∈ scope.names, y.2 = .free → ∃ c, X.env.cells.lookup y.1 = some c := fun y hy e => I.ok.has y.1 (S.free y hy e)
  rw [exec_Assign_Name_used _ _ _ _ hsw]
  refine wpAny_bind (wpAny_standAt (wpAny_bind ?_))
  show wpAny _ _ (do let _ ← comprehension (.ListComp elt [⟨.Name x px, iter, ifs, 0⟩] scope pos) scope X.env _ (newList []) false (eval iter X.env) (some (assign (.Name y py) X.env))) _ _ s
  refine wpAny_bind (wpAny_mono (wpAny_comprehension_free (use := some (assign (.Name y py) X.env)) (Q := fun _ s' => SP X pins D0 .next s') rfl hs (closure_eq hfree) S.kind S.nloc
    (thn (hi pins s σ H _ I h) fun v s1 h1 => thn h1 fun itv s2 h2 => ?_)) (fun _ s' hq => wpAny_pure (wpAny_pure hq)) fun _ _ e => e)
  obtain ⟨it, fp, tn, J, H2, e, I2, T, st2, f2, hW⟩ := h2
  subst e
  refine comp_block (RR := fun acc C => compPost (model X.prog X.w) X.A X.xe (some (assign (.Name y py) X.env)) (fun _ s' => SP X pins D0 .next s') acc C) hc S I2 T st2 f2 hifs helt hW ?_
  intro s' H' acc its D C m J2 plD va hlen fD fC hDC hn z
  obtain ⟨nD, gD⟩ := plD
  have J3 : Inv X pins σ (upd H' D (.lst acc)) s' := J2.adopt fD ⟨hlen, its, nD, va, gD⟩
  show wpAny _ _ (assign (.Name y py) X.env (.ref D)) _ _ s'
  refine wpAny_assign_Name (store_ok2 J3 hN hi' hy (show RelV (.ref D) (.ref D) from rfl) (fun s4 J4 ⟨a, sa, ha⟩ => ?_) hfn)
  have hCa : C ≠ a := by
    rcases ha with q | q
    · rw [q]; exact fC.2.1
    · exact (fC.2.2.2.2.1 y a q).symm
  refine ⟨m, hn.sameBut sa hCa, fun h'' sb => ?_⟩
  exact ⟨_, _, J4.turned (t' := s4.toks) (fun b ob hb e => (sb.2 b hb).trans e) (by rw [upd_ne (Ne.symm hDC)]; exact fC.1) fC.2.1 fC.2.2.2.1 fC.2.2.2.2.1 fC.2.2.2.2.2, z D fD.1⟩
end
end L2

namespace L2
open PySem PySem.Spec PyProof.Rows

/-! ### the forms of a comprehension one uses -/
theorem comp_of {J : It} {cs : St} {tc : TT} {te : TE} {H1 : Hp} {Z : List V → Hp → Prop} (n : Nat) (Pv : Nat → List V → Hp → Prop) (h0 : Pv 0 [] H1) (hd : ∀ acc H, Pv n acc H → J.stop n H ∧ Z acc H)
    (hs : ∀ i acc H, i < n → Pv i acc H → J.go i H ∧ ∀ x H', J.yld i H x H' → tc (some x :: cs) H' fun b H2 => if b = true then te (some x :: cs) H2 fun v H3 => acc.length < sizeLine ∧ Pv (i + 1) (acc ++ [v]) H3 else Pv (i + 1) acc H2) :
    tCompW J cs tc te H1 Z := by
  refine ⟨fun i m acc H => m = n - i ∧ i ≤ n ∧ Pv i acc H, ⟨n, by simp, Nat.zero_le _, h0⟩, ?_⟩
  rintro i m acc H ⟨rfl, hi, p⟩
  by_cases hlt : i < n
  · obtain ⟨g, y⟩ := hs i acc H hlt p
    exact .inr ⟨g, Pv (i + 1), fun a H' q => ⟨n - (i + 1), by omega, rfl, hlt, q⟩, y⟩
  · have e : i = n := by omega
    subst e
    exact .inl (hd acc H p)
theorem comp_range {lo : Int} {n : Nat} {cs : St} {tc : TT} {te : TE} {H1 : Hp} {Z : List V → Hp → Prop} (Pv : Nat → List V → Hp → Prop) (h0 : Pv 0 [] H1)
    (hs : ∀ i acc H, i < n → Pv i acc H → tc (some (.int (lo + i)) :: cs) H fun b H2 => if b = true then te (some (.int (lo + i)) :: cs) H2 fun v H3 => acc.length < sizeLine ∧ Pv (i + 1) (acc ++ [v]) H3 else Pv (i + 1) acc H2)
    (hd : ∀ acc H, Pv n acc H → Z acc H) : tCompW (Itr lo n) cs tc te H1 Z :=
  comp_of n Pv h0 (fun acc H p => ⟨Nat.le_refl _, hd acc H p⟩) fun i acc H hi p => ⟨hi, fun x H' y => by
    obtain ⟨e, y⟩ := y
    subst e y
    exact hs i acc _ hi p⟩
theorem comp_list {K : PySem.W.Frag} {a : Addr} {xs : List V} {cs : St} {tc : TT} {te : TE} {H1 : Hp} {Z : List V → Hp → Prop} (Pv : Nat → List V → Hp → Prop) (h0 : Pv 0 [] H1) (hl : ∀ i acc H, Pv i acc H → SqL K H a xs)
    (hs : ∀ i x acc H, xs[i]? = some x → Pv i acc H → tc (some x :: cs) H fun b H2 => if b = true then te (some x :: cs) H2 fun v H3 => acc.length < sizeLine ∧ Pv (i + 1) (acc ++ [v]) H3 else Pv (i + 1) acc H2)
    (hd : ∀ acc H, Pv xs.length acc H → Z acc H) : tCompW (Itl K a) cs tc te H1 Z :=
  comp_of xs.length Pv h0 (fun acc H p => ⟨⟨xs, hl _ _ _ p, Nat.le_refl _⟩, hd acc H p⟩) fun i acc H hi p => ⟨⟨xs, xs[i], hl _ _ _ p, by simp [hi]⟩, fun x H' y => by
    obtain ⟨e, y⟩ := y
    subst e
    exact hs i x acc _ (y xs (hl _ _ _ p)) p⟩
theorem comp_tup {K : PySem.W.Frag} {a : Addr} {xs : List V} {cs : St} {tc : TT} {te : TE} {H1 : Hp} {Z : List V → Hp → Prop} (Pv : Nat → List V → Hp → Prop) (h0 : Pv 0 [] H1) (hl : ∀ i acc H, Pv i acc H → SqT K H a xs)
    (hs : ∀ i x acc H, xs[i]? = some x → Pv i acc H → tc (some x :: cs) H fun b H2 => if b = true then te (some x :: cs) H2 fun v H3 => acc.length < sizeLine ∧ Pv (i + 1) (acc ++ [v]) H3 else Pv (i + 1) acc H2)
    (hd : ∀ acc H, Pv xs.length acc H → Z acc H) : tCompW (Itt K a) cs tc te H1 Z :=
  comp_of xs.length Pv h0 (fun acc H p => ⟨⟨xs, hl _ _ _ p, Nat.le_refl _⟩, hd acc H p⟩) fun i acc H hi p => ⟨⟨xs, xs[i], hl _ _ _ p, by simp [hi]⟩, fun x H' y => by
    obtain ⟨e, y⟩ := y
    subst e
    exact hs i x acc _ (y xs (hl _ _ _ p)) p⟩

/-! ### a text walked sign by sign -/
def Its (z : Str) : It := ⟨fun i _ => i < z.cps.size, fun i H x H' => H' = H ∧ ∃ c, z.cps[i]? = some c ∧ x = .str ⟨#[c]⟩, fun i _ => z.cps.size ≤ i⟩
theorem turn_ascii {P : Program} {w : World} {K : PySem.W.Frag} {tg : Expr} (it : Addr) (z : Str) (t : Tok) : Turn P w K tg (Its z) [it] it (fun i h => h.IsStrIter it "str_ascii_iterator" z t i) where
  mem := by simp
  obj := fun i h st b hb => by
    have e : b = it := by simpa using hb
    subst e
    obtain ⟨o, e, c, d⟩ := st
    exact ⟨o, e, fun v z => by rw [d] at z; cases z⟩
  keep := fun i h h' st k => by
    obtain ⟨o, e, r⟩ := st
    exact ⟨o, k it (by simp) o e, r⟩
  item := by
    intro X hP hw hK hc i pins s σ H E I hf st hg
    subst hP hw hK
    obtain ⟨f0, f1, f2, f3, f4, f5⟩ := hf it (by simp)
    have hlt : i < z.cps.size := hg
    refine wpAny_pyNext_ascii_item st (c := z.cps[i]) (by simp [hlt]) fun h' st' sb => ?_
    have I1 : Inv X pins σ H { s with heap := h', toks := s.toks + 1 } := I.turned (fun b o hb e => (sb.2 b hb).trans e) f0 f1 f3 f4 f5
    obtain ⟨o, e, c, d⟩ := id st'
    exact ⟨_, rfl, go_of (s := { s with heap := h', toks := s.toks + 1 }) e c d (by decide) ⟨.str ⟨#[z.cps[i]]⟩, H, I1, ⟨_, rfl⟩, ⟨rfl, _, by simp [hlt], rfl⟩, st', fun b hb => (hf b hb).1⟩⟩
  done := by
    intro X hP hw hK hc i pins s σ H E I hf st hg
    subst hP hw hK
    obtain ⟨f0, f1, f2, f3, f4, f5⟩ := hf it (by simp)
    have hge : z.cps.size ≤ i := hg
    exact wpAny_pyNext_ascii_end (I.ok.hd hc) st (by simp [hge]) fun h' eb => ⟨rfl, I.turned (t' := s.toks) (fun b o hb e => eb b o hb e) f0 f1 f3 f4 f5⟩
  self := fun _ _ _ _ _ st h => wpAny_pyIter_striter_ascii st h
theorem turn_wide {P : Program} {w : World} {K : PySem.W.Frag} {tg : Expr} (it : Addr) (z : Str) (t : Tok) : Turn P w K tg (Its z) [it] it (fun i h => h.IsStrIter it "str_iterator" z t i) where
  mem := by simp
  obj := fun i h st b hb => by
    have e : b = it := by simpa using hb
    subst e
    obtain ⟨o, e, c, d⟩ := st
    exact ⟨o, e, fun v z => by rw [d] at z; cases z⟩
  keep := fun i h h' st k => by
    obtain ⟨o, e, r⟩ := st
    exact ⟨o, k it (by simp) o e, r⟩
  item := by
    intro X hP hw hK hc i pins s σ H E I hf st hg
    subst hP hw hK
    obtain ⟨f0, f1, f2, f3, f4, f5⟩ := hf it (by simp)
    have hlt : i < z.cps.size := hg
    refine wpAny_pyNext_wide_item st (c := z.cps[i]) (by simp [hlt]) fun h' st' sb => ?_
    have I1 : Inv X pins σ H { s with heap := h', toks := s.toks + 1 } := I.turned (fun b o hb e => (sb.2 b hb).trans e) f0 f1 f3 f4 f5
    obtain ⟨o, e, c, d⟩ := id st'
    exact ⟨_, rfl, go_of (s := { s with heap := h', toks := s.toks + 1 }) e c d (by decide) ⟨.str ⟨#[z.cps[i]]⟩, H, I1, ⟨_, rfl⟩, ⟨rfl, _, by simp [hlt], rfl⟩, st', fun b hb => (hf b hb).1⟩⟩
  done := by
    intro X hP hw hK hc i pins s σ H E I hf st hg
    subst hP hw hK
    obtain ⟨f0, f1, f2, f3, f4, f5⟩ := hf it (by simp)
    have hge : z.cps.size ≤ i := hg
    exact wpAny_pyNext_wide_end (I.ok.hd hc) st (by simp [hge]) fun h' eb => ⟨rfl, I.turned (t' := s.toks) (fun b o hb e => eb b o hb e) f0 f1 f3 f4 f5⟩
  self := fun _ _ _ _ _ st h => wpAny_pyIter_striter_wide st h
section
variable {X : Cx} {tg : Expr}
def iStr (tl : TE) : TI := fun σ H R => tl σ H fun x H1 => ∃ z, x = .str z ∧ R (Its z) H1
theorem pi_str {l : Expr} {tl : TE} (hl : PE X l tl) : PI X tg l (iStr tl) := by
  intro pins s σ H R I h
  refine thn (hl pins s σ H _ I h) fun v s1 ⟨x, H1, I1, r1, q1⟩ => ?_
  obtain ⟨z, e, q⟩ := q1
  subst e
  obtain ⟨t, rfl⟩ := r1
  have fp : ∀ b ∈ [s1.heap.objs.size], FpOk X pins H1 b := fun b hb => by
    have e : b = s1.heap.objs.size := by simpa using hb
    subst e
    exact I1.fpOk (Nat.le_refl _) (I1.hok.fresh (Nat.le_refl _))
  cases ha : z.cps.all (· < 128)
  · refine wpAny_pyIter_wide ha ?_
    exact ⟨s1.heap.objs.size, [s1.heap.objs.size], _, _, H1, rfl, I1.kept (t' := s1.toks) fun b o e => Heap.get?_push_of_some _ e, turn_wide _ z t, ⟨_, Heap.get?_push_size _ rfl, rfl, rfl⟩, fp, q⟩
  · refine wpAny_pyIter_ascii ha ?_
    exact ⟨s1.heap.objs.size, [s1.heap.objs.size], _, _, H1, rfl, I1.kept (t' := s1.toks) fun b o e => Heap.get?_push_of_some _ e, turn_ascii _ z t, ⟨_, Heap.get?_push_size _ rfl, rfl, rfl⟩, fp, q⟩
end
theorem for_str {z : Str} {g : TG} {tb : TS} {D : Ends} {σ : St} {H : Hp} (Pv : Nat → St → Hp → Prop) (h0 : Pv 0 σ H)
    (hs : ∀ i c σ H, z.cps[i]? = some c → Pv i σ H → g (.str ⟨#[c]⟩) σ H fun σ2 H2 => tb { D with nx := Pv (i + 1), ct := Pv (i + 1), bk := D.nx } σ2 H2) (hd : ∀ σ H, Pv z.cps.size σ H → D.nx σ H) :
    ∃ W : Nat → Nat → St → Hp → Prop, (∃ m, W 0 m σ H) ∧ ∀ i m σ H, W i m σ H →
      ((Its z).stop i H ∧ D.nx σ H) ∨ ((Its z).go i H ∧ ∃ N : St → Hp → Prop, (∀ σ' H', N σ' H' → ∃ m', m' < m ∧ W (i + 1) m' σ' H') ∧ ∀ x H', (Its z).yld i H x H' → g x σ H' fun σ2 H2 => tb { D with nx := N, ct := N, bk := D.nx } σ2 H2) := by
  refine ⟨fun i m σ H => m = z.cps.size - i ∧ i ≤ z.cps.size ∧ Pv i σ H, ⟨z.cps.size, by simp, Nat.zero_le _, h0⟩, ?_⟩
  rintro i m σ H ⟨rfl, hi, p⟩
  by_cases hlt : i < z.cps.size
  · refine .inr ⟨hlt, Pv (i + 1), fun σ' H' p' => ⟨z.cps.size - (i + 1), by omega, rfl, hlt, p'⟩, fun x H' y => ?_⟩
    obtain ⟨e, c, ec, ex⟩ := y
    subst e ex
    exact hs i c σ _ ec p
  · have e : i = z.cps.size := by omega
    subst e
    exact .inl ⟨Nat.le_refl _, hd σ H p⟩
theorem comp_str {z : Str} {cs : St} {tc : TT} {te : TE} {H1 : Hp} {Z : List V → Hp → Prop} (Pv : Nat → List V → Hp → Prop) (h0 : Pv 0 [] H1)
    (hs : ∀ i c acc H, z.cps[i]? = some c → Pv i acc H → tc (some (.str ⟨#[c]⟩) :: cs) H fun b H2 => if b = true then te (some (.str ⟨#[c]⟩) :: cs) H2 fun v H3 => acc.length < sizeLine ∧ Pv (i + 1) (acc ++ [v]) H3 else Pv (i + 1) acc H2)
    (hd : ∀ acc H, Pv z.cps.size acc H → Z acc H) : tCompW (Its z) cs tc te H1 Z :=
  comp_of z.cps.size Pv h0 (fun acc H p => ⟨Nat.le_refl _, hd acc H p⟩) fun i acc H hi p => ⟨hi, fun x H' y => by
    obtain ⟨e, c, ec, ex⟩ := y
    subst e ex
    exact hs i c acc _ ec p⟩

/-! ### texts: find, join, slices; truths: is, all -/
section
variable {X : Cx}
theorem mt_find : MtR X "str.find" (fun x xs H Q => ∃ a b, x = .str a ∧ xs = [.str b] ∧ Q (.int (Txt.find a b)) H) := by
  intro pins s σ H x xs v us Q I rx rs h
  obtain ⟨a, b, rfl, rfl, q⟩ := h
  obtain ⟨t, rfl⟩ := rx
  obtain ⟨u, rfl, t', rfl⟩ := vals1 rs
  exact SC.find ⟨.int _, H, I.tok _, ⟨_, rfl⟩, q⟩
theorem strsAre_of {ys : List Str} : ∀ {us : List Value}, Vals (ys.map V.str) us → StrsAre us ys := by
  induction ys with
  | nil => intro us r; rw [List.map_nil] at r; cases r; exact .nil
  | cons n ns ih =>
    intro us r
    rw [List.map_cons] at r
    cases r with
    | cons r1 r2 =>
      obtain ⟨t, e⟩ := r1
      subst e
      exact .cons n t (ih r2)
theorem mt_join : MtR X "str.join" (fun x xs H Q => ∃ (a : Str) (p : Addr) (ys : List Str), x = .str a ∧ xs = [.ref p] ∧ SqL X.K H p (ys.map V.str) ∧ (ys.map (·.length)).sum + ys.length * a.length ≤ 16777216 ∧ Q (.str (Txt.join a ys)) H) := by
  intro pins s σ H x xs v us Q I rx rs h
  obtain ⟨a, p, ys, rfl, rfl, hq, hz, q⟩ := h
  obtain ⟨t, rfl⟩ := rx
  obtain ⟨u, rfl, r2⟩ := vals1 rs
  cases r2
  obtain ⟨its, r', pl, _⟩ := I.list hq
  exact join_list pl.isList (by simpa using strsAre_of r') hz fun t' k => ⟨.str _, H, I.tok _, ⟨_, rfl⟩, q⟩
theorem sl_str : SlR X (fun x lo hi H Q => ∃ z, x = .str z ∧ z.length ≤ sizeLine ∧ Q (.str (Txt.slice z lo hi)) H) := by
  intro pins s σ H x v vl vu lo hi sl Q I rx hs pl pu h
  obtain ⟨z, rfl, hz, q⟩ := h
  obtain ⟨t, rfl⟩ := rx
  have fin : ∀ (l u : Option (Int × Tok)), s.heap.IsSlice sl l u none → l.map (·.1) = lo → u.map (·.1) = hi → wpAny (model X.prog X.w) X.A (getItem (.str z t) (.ref sl)) (EP X pins σ Q) X.xe s := fun l u h1 h2 h3 => by
    subst h2 h3
    exact wpAny_getItem_str_slice (l := l) (u := u) (st := none) h1 rfl (post_val_or_str ⟨Nat.le_trans (Txt.slice_le z _ _) hz, fun t' k => ⟨.str _, H, I.tok _, ⟨_, rfl⟩, q⟩⟩)
  refine ⟨"str", _, F.slot_str_getitem.lookup, typeIs_str _ _ _, ?_⟩
  cases pl with
  | none =>
    cases pu with
    | none => exact fin none none hs rfl rfl
    | int j uj => exact fin none (some (j, uj)) hs rfl rfl
  | int i ui =>
    cases pu with
    | none => exact fin (some (i, ui)) none hs rfl rfl
    | int j uj => exact fin (some (i, ui)) (some (j, uj)) hs rfl rfl
theorem op_isB : OpR X (compareOp .Is) (fun x y H Q => ∃ c d, x = .bl c ∧ y = .bl d ∧ Q (.bl (c == d)) H) := by
  intro pins s σ H x y v u Q I rx ry h
  obtain ⟨c, d, rfl, rfl, q⟩ := h
  cases rx
  cases ry
  exact is_bool ⟨.bl _, H, I, rfl, q⟩
theorem op_isnotB : OpR X (compareOp .IsNot) (fun x y H Q => ∃ c d, x = .bl c ∧ y = .bl d ∧ Q (.bl (c != d)) H) := by
  intro pins s σ H x y v u Q I rx ry h
  obtain ⟨c, d, rfl, rfl, q⟩ := h
  cases rx
  cases ry
  exact isnot_bool ⟨.bl _, H, I, rfl, q⟩
theorem range_all : ∀ (n : Nat) (f : Nat → Bool) (bs : List Bool), bs.length = n → (∀ i b, bs[i]? = some b → f i = b) → (List.range n).all f = bs.all id := by
  intro n f bs hl hf
  rw [Bool.eq_iff_iff, List.all_eq_true, List.all_eq_true]
  constructor
  · intro h b hb
    obtain ⟨i, e⟩ := List.mem_iff_getElem?.mp hb
    have hi : i < n := by
      have := (List.getElem?_eq_some_iff.mp e).1
      omega
    have := h i (List.mem_range.mpr hi)
    rw [hf i b e] at this
    exact this
  · intro h i hi
    have hi' : i < bs.length := by rw [hl]; exact List.mem_range.mp hi
    have e : bs[i]? = some bs[i] := List.getElem?_eq_getElem hi'
    rw [hf i _ e]
    exact h _ (List.getElem_mem hi')
/-- all(bs), bs a list of truths -/
theorem call_allB (hc : X.calm = true) : CallR X (.builtin "all") (fun xs H Q => ∃ (p : Addr) (bs : List Bool), xs = [.ref p] ∧ SqL X.K H p (bs.map V.bl) ∧ Q (.bl (bs.all id)) H) := by
  intro pins s σ H xs us Q I r h
  obtain ⟨p, bs, rfl, hq, q⟩ := h
  obtain ⟨u, rfl, rx⟩ := vals1 r
  cases rx
  obtain ⟨its, rv, pl, hz⟩ := I.list hq
  have hlen := rv.length
  rw [List.length_map] at hlen
  have hlt : p < s.heap.objs.size := by
    obtain ⟨o, ho, _⟩ := pl.isList
    exact Heap.lt_size ho
  refine call_all_walk (wpAny_pyIter_list pl.isList ?_)
  refine ⟨s.heap.objs.size, [s.heap.objs.size, p], [s.heap.objs.size], its.toArray.size, fun i v => its.toArray[i]? = some v, fun i h => h.IsListIter s.heap.objs.size p i ∧ h.IsList p its.toArray, fun i => (bs[i]?).getD true, rfl,
    Walks.list (A := X.A.in1) (I.ok.hd hc) _ _ (Nat.ne_of_lt hlt) _, ⟨⟨_, Heap.get?_push_size _ rfl, rfl, rfl⟩, pl.isList.at fun o e => Heap.get?_push_of_some _ e⟩, ?_, ?_⟩
  · intro i v s' Q' E' hv hQ'
    have hi : i < bs.length := by
      have := (Array.getElem?_eq_some_iff.mp hv).1
      simp only [List.size_toArray] at this
      omega
    have e : bs[i]? = some bs[i] := List.getElem?_eq_getElem hi
    obtain ⟨u, hu, ru⟩ := rv.get (i := i) (x := V.bl bs[i]) (by rw [List.getElem?_map, e]; rfl)
    have hv' : its[i]? = some v := by simpa using hv
    rw [hu] at hv'
    cases hv'
    cases ru
    have hQ2 : Q' ((bs[i]?).getD true) s' := hQ'
    rw [e] at hQ2
    exact wpAny_truthy_bool hQ2
  · intro h' tk k
    refine ⟨.bl (bs.all id), H, I.kept (t' := tk) (h' := h') fun b u e => k b u (fun z => ?_) (Heap.get?_push_of_some _ e), ?_, q⟩
    · have z' : b = s.heap.objs.size := by simpa using z
      exact absurd (Heap.lt_size e) (by rw [z']; exact Nat.lt_irrefl _)
    · show Value.bool _ = Value.bool _
      rw [range_all its.toArray.size _ bs (by simp only [List.size_toArray]; exact hlen) fun i b e => by rw [e]; rfl]
end
end L2
namespace L2
open PySem PySem.Spec PyProof.Rows
section
variable {X : Cx} {a b c : Expr} {ta tb : TE} {pos : Pos}
/-- a op1 b op2 k of ints, k a constant: one truth -/
def tChI (p p' : Int → Int → Bool) (k : Int) (ta tb : TE) : TE := fun σ H Q => ta σ H fun x H1 => tb σ H1 fun y H2 => ∃ i j, x = .int i ∧ y = .int j ∧ Q (.bl (p i j && p' j k)) H2
theorem pe_chainI {op op' : CmpOp} {p p' : Int → Int → Bool} {k : Int} (ho : OpR X (compareOp op) (rI0 fun i j => .bl (p i j))) (ho' : OpR X (compareOp op') (rI0 fun i j => .bl (p' i j))) (ha : PE X a ta) (hb : PE X b tb) (hc : PE X c (tC (.int k)))
    (hm : lastMarks [op, op'] [b, c] = false := by with_unfolding_all rfl) : PE X (.Compare a [op, op'] [b, c] pos) (tChI p p' k ta tb) := by
  intro pins s σ H Q I h
  refine Compare_chain (thn (ha pins s σ H _ I h) fun v s1 ⟨x, H1, I1, r1, q1⟩ => chain_link (thn (hb pins s1 σ H1 _ I1 q1) fun u s2 ⟨y, H2, I2, r2, q2⟩ => ?_)) hm
  obtain ⟨i, j, rfl, rfl, q⟩ := q2
  refine thn (ho pins s2 σ H2 _ _ v u (fun z H3 => z = .bl (p i j) ∧ H3 = H2) I2 r1 r2 ⟨i, j, rfl, rfl, rfl, rfl⟩) fun d s3 ⟨z, H3, I3, r3, e1, e2⟩ => ?_
  subst e1 e2
  cases r3
  refine wpAny_truthy_bool ?_
  cases e : p i j with
  | false =>
    rw [e, Bool.false_and] at q
    exact ite_ff ⟨.bl false, _, I3, rfl, q⟩
  | true =>
    rw [e, Bool.true_and] at q
    exact ite_tt (chain_last (thn (hc pins s3 σ _ (fun z H4 => z = .int k ∧ H4 = H3) I3 ⟨rfl, rfl⟩) fun w' s4 ⟨z', H4, I4, r4, e3, e4⟩ => by
      subst e3 e4
      exact ho' pins s4 σ _ _ _ u w' Q I4 r2 r4 ⟨j, k, rfl, rfl, q⟩))
end
theorem atI_some {α : Type} {xs : List α} {i : Int} (h0 : 0 ≤ i) (h1 : i < (xs.length : Int)) : ∃ v ∈ xs, atI xs i = some v := by
  have hk : i.toNat < xs.length := by omega
  have e : xs[i.toNat]? = some xs[i.toNat] := List.getElem?_eq_getElem hk
  refine ⟨xs[i.toNat], List.getElem_mem hk, ?_⟩
  have q := atI_nat e
  rw [Int.toNat_of_nonneg h0] at q
  exact q
theorem atI_int {ns : List Int} {i : Int} (h0 : 0 ≤ i) (h1 : i < (ns.length : Int)) : ∃ v : Int, atI (ns.map V.int) i = some (.int v) := by
  obtain ⟨v, hv, e⟩ := atI_some (xs := ns.map V.int) h0 (by rw [List.length_map]; exact h1)
  obtain ⟨n, _, rfl⟩ := List.mem_map.mp hv
  exact ⟨n, e⟩
theorem small_le {n : Nat} (h : n ≤ 1000) : n ≤ sizeLine := Nat.le_of_lt (small1000 h)
theorem mask31 (x : Int) : Builtin.bitAnd x 2147483647 = x % 2147483648 := PySem.W.kbt_mask x 31
theorem maskB (x : Int) : 0 ≤ Builtin.bitAnd x 2147483647 ∧ Builtin.bitAnd x 2147483647 < 2147483648 := by
  rw [mask31]
  omega
end L2
namespace L2
open PySem PySem.Spec PyProof.Rows
section
variable {X : Cx} {st : Stmt} {rest : List Stmt} {t u : TS}
/-- a word M between a statement and what follows: both ways through the statement meet there -/
def tCut (t u : TS) : TS := fun D σ H => ∃ M : St → Hp → Prop, t { D with nx := M } σ H ∧ ∀ σ' H', M σ' H' → u D σ' H'
theorem pss_cut (h1 : PS X st t) (h2 : PSs X rest u) : PSs X (st :: rest) (tCut t u) := by
  intro pins s σ H D I h
  obtain ⟨M, h, hM⟩ := h
  refine wpAny_execs_cons (thn (h1 pins s σ H { D with nx := M } I h) fun f s1 q => ?_)
  cases f with
  | next =>
    obtain ⟨σ', H', I', q⟩ := q
    exact h2 pins s1 σ' H' D I' (hM σ' H' q)
  | ret v => exact q
  | brk => exact q
  | cont => exact q
end
theorem same_new {H : Hp} {p : Addr} (h : H p = none) (o : HO) : Same H (upd H p o) := fun b u q => by rw [upd_ne (ne_of_none q h)]; exact q
end L2
namespace L2
open PySem PySem.Spec PyProof.Rows
/-- a word M behind an expression (a test): its ways meet there -/
def tCutE (t : TE) : TE := fun σ H Q => ∃ M : VK, t σ H M ∧ ∀ v H', M v H' → Q v H'
theorem pe_cut {X : Cx} {e : Expr} {t : TE} (h : PE X e t) : PE X e (tCutE t) := by
  intro pins s σ H Q I ⟨M, hM, hQ⟩
  exact thn (h pins s σ H M I hM) fun u s' ⟨v, H', I', r, m⟩ => ⟨v, H', I', r, hQ v H' m⟩
def tCutT (t : TT) : TT := fun σ H Q => ∃ M : Bool → Hp → Prop, t σ H M ∧ ∀ b H', M b H' → Q b H'
theorem pt_cut {X : Cx} {e : Expr} {t : TT} (h : PT X e t) : PT X e (tCutT t) := by
  intro pins s σ H Q I ⟨M, hM, hQ⟩
  exact thn (h pins s σ H M I hM) fun b s' ⟨H', I', m⟩ => ⟨H', I', hQ b H' m⟩
end L2

namespace L2
open PySem PySem.Spec PyProof.Rows
/-! isinstance with a type of Python's own -/
section
variable {X : Cx}
theorem call_isinst : CallR X (.builtin "isinstance") (fun xs H Q => ∃ (x : V) (T : String) (t : Value) (b : Bool), xs = [x, .ty T] ∧ TyOf X.K H x t ∧ PySem.W.kitOne X.K t (.type T) = some b ∧ Q (.bl b) H) := by
  intro pins s σ H xs us Q I r h
  obtain ⟨x, T, t, b, rfl, ty, e, q⟩ := h
  obtain ⟨u, w', rfl, r1, r2⟩ := vals2 r
  cases (show w' = Value.type T from r2)
  exact isinst_ok I r1 ty e fun tk => ⟨.bl b, H, I.tok tk, rfl, q⟩
theorem kit_ii (K : PySem.W.Frag) : PySem.W.kitOne K (.type "int") (.type "int") = some true := by rfl
theorem kit_ib (K : PySem.W.Frag) : PySem.W.kitOne K (.type "int") (.type "bool") = some false := by rfl
end
end L2

namespace L2
open PySem
theorem ifT {c : Bool} {A B : Prop} (h : c = true) (a : A) : if c = true then A else B := by rw [if_pos h]; exact a
theorem ifF {c : Bool} {A B : Prop} (h : c = false) (b : B) : if c = true then A else B := by rw [if_neg (by rw [h]; decide)]; exact b
end L2

namespace Gds
open PySem L2
/-! guards as a datum of our own, and how the heap bears them -/
inductive Gd where
  | yes
  | is (b n : Int)
  | under (b n : Int)
  | inn (r : Int)
  | neg (g : Gd)
  | both (g h : Gd)
  | either (g h : Gd)
def Gd.ht : Gd → Nat
  | .yes => 1
  | .is _ _ => 1
  | .under _ _ => 1
  | .inn _ => 1
  | .neg g => g.ht + 1
  | .both g h => 1 + max g.ht h.ht
  | .either g h => 1 + max g.ht h.ht
theorem Gd.ht_pos : ∀ g : Gd, 1 ≤ g.ht
  | .yes => Nat.le_refl _
  | .is _ _ => Nat.le_refl _
  | .under _ _ => Nat.le_refl _
  | .inn _ => Nat.le_refl _
  | .neg _ => Nat.succ_le_succ (Nat.zero_le _)
  | .both _ _ => Nat.le_add_right _ _
  | .either _ _ => Nat.le_add_right _ _
def at0 (bx : List Int) (b : Int) : Int := bx.getD b.toNat 0
def Gd.holds (op bx : List Int) : Gd → Bool
  | .yes => true
  | .is b n => decide (V.int (at0 bx b) = V.int n)
  | .under b n => decide (at0 bx b < n)
  | .inn r => inV (.int r) (op.map V.int)
  | .neg g => !(g.holds op bx)
  | .both g h => g.holds op bx && h.holds op bx
  | .either g h => g.holds op bx || h.holds op bx
def Gd.ok (nb : Nat) : Gd → Prop
  | .yes => True
  | .is b _ => 0 ≤ b ∧ b < (nb : Int)
  | .under b _ => 0 ≤ b ∧ b < (nb : Int)
  | .inn _ => True
  | .neg g => g.ok nb
  | .both g h => g.ok nb ∧ h.ok nb
  | .either g h => g.ok nb ∧ h.ok nb
/-- tuples stay -/
def KeepT (H H' : Hp) : Prop := ∀ b xs, H b = some (.tup xs) → H' b = some (.tup xs)
theorem KeepT.refl (H : Hp) : KeepT H H := fun _ _ h => h
theorem KeepT.trans {H H1 H2 : Hp} (a : KeepT H H1) (b : KeepT H1 H2) : KeepT H H2 := fun c xs h => b c xs (a c xs h)
theorem KeepT.of {H H' : Hp} (s : Same H H') : KeepT H H' := fun b xs h => s b _ h
theorem KeepT.lst {H : Hp} {p : Addr} {xs : List V} (h : H p = some (.lst xs)) (o : HO) : KeepT H (upd H p o) := fun b ys e => by
  rw [upd_ne (ne_of e h (by intro z; cases z))]
  exact e
theorem KeepT.new {H : Hp} {p : Addr} (h : H p = none) (o : HO) : KeepT H (upd H p o) := .of (same_new h o)
theorem same_upd {H H' : Hp} {p : Addr} (hp : H p = none) (s : Same H H') (o : HO) : Same H (upd H' p o) := fun b u e => by
  rw [upd_ne (ne_of_none e hp)]
  exact s b u e
inductive GdIn (H : Hp) : V → Gd → Prop where
  | yes {a : Addr} : H a = some (.tup [.str "yes"]) → GdIn H (.ref a) .yes
  | is {a : Addr} {b n : Int} : H a = some (.tup [.str "is", .int b, .int n]) → GdIn H (.ref a) (.is b n)
  | under {a : Addr} {b n : Int} : H a = some (.tup [.str "under", .int b, .int n]) → GdIn H (.ref a) (.under b n)
  | inn {a : Addr} {r : Int} : H a = some (.tup [.str "in", .int r]) → GdIn H (.ref a) (.inn r)
  | neg {a : Addr} {v : V} {g : Gd} : H a = some (.tup [.str "not", v]) → GdIn H v g → GdIn H (.ref a) (.neg g)
  | both {a : Addr} {v u : V} {g h : Gd} : H a = some (.tup [.str "both", v, u]) → GdIn H v g → GdIn H u h → GdIn H (.ref a) (.both g h)
  | either {a : Addr} {v u : V} {g h : Gd} : H a = some (.tup [.str "either", v, u]) → GdIn H v g → GdIn H u h → GdIn H (.ref a) (.either g h)
theorem GdIn.mono {H H' : Hp} {v : V} {g : Gd} (x : GdIn H v g) (k : KeepT H H') : GdIn H' v g := by
  induction x with
  | yes e => exact .yes (k _ _ e)
  | is e => exact .is (k _ _ e)
  | under e => exact .under (k _ _ e)
  | inn e => exact .inn (k _ _ e)
  | neg e _ i => exact .neg (k _ _ e) i
  | both e _ _ i j => exact .both (k _ _ e) i j
  | either e _ _ i j => exact .either (k _ _ e) i j
theorem strNe {x y : Str} {A B : Prop} (h : ¬ x = y) (b : B) : if decide (V.str x = V.str y) = true then A else B := by
  rw [if_neg]
  · exact b
  · intro z
    have z' := of_decide_eq_true z
    injection z' with z''
    exact h z''
theorem strEq {x : Str} {A B : Prop} (a : A) : if decide (V.str x = V.str x) = true then A else B := by
  rw [if_pos (decide_eq_true rfl)]
  exact a
theorem at0_at {bx : List Int} {b : Int} (h0 : 0 ≤ b) (h1 : b < (bx.length : Int)) : atI (bx.map V.int) b = some (.int (at0 bx b)) := by
  have hk : b.toNat < bx.length := by omega
  have e : (bx.map V.int)[b.toNat]? = some (.int (at0 bx b)) := by
    rw [List.getElem?_map, List.getElem?_eq_getElem hk]
    unfold at0
    rw [List.getD_eq_getElem?_getD, List.getElem?_eq_getElem hk]
    rfl
  have q := atI_nat e
  rw [Int.toNat_of_nonneg h0] at q
  exact q
theorem atI_last2 {α : Type} (xs : List α) (u v : α) : atI (xs ++ [u, v]) (-2) = some u := by
  unfold atI ixN
  have hl : (xs ++ [u, v]).length = xs.length + 2 := by simp
  rw [hl, if_neg (by decide), if_pos (by omega)]
  show (xs ++ [u, v])[((-2 : Int) + ((xs.length + 2 : Nat) : Int)).toNat]? = some u
  have e : ((-2 : Int) + ((xs.length + 2 : Nat) : Int)).toNat = xs.length := by omega
  rw [e, List.getElem?_append_right (Nat.le_refl _)]
  simp
theorem ints_flat (op : List Int) : (op.map V.int).all flatV = true := by
  rw [List.all_eq_true]
  intro x hx
  obtain ⟨n, _, rfl⟩ := List.mem_map.mp hx
  rfl
theorem inV_take (op : List Int) (r : Int) : inV (.int r) (op.map V.int) = op.any fun y => decide (V.int y = V.int r) := by
  unfold inV
  rw [List.any_map]
  congr 1
  funext y
  show (y == r) = _
  exact dec_int.symm
theorem snoc_of {α : Type} {xs : List α} (h : xs ≠ []) : ∃ init last, xs = init ++ [last] := ⟨xs.dropLast, xs.getLast h, (List.dropLast_concat_getLast h).symm⟩
theorem snoc2_of {α : Type} {xs : List α} (h : 1 < xs.length) : ∃ init u v, xs = init ++ [u, v] := by
  obtain ⟨i1, v, rfl⟩ := snoc_of (xs := xs) (by intro z; rw [z] at h; simp at h)
  rw [List.length_append, List.length_singleton] at h
  obtain ⟨i2, u, rfl⟩ := snoc_of (xs := i1) (by intro z; rw [z] at h; simp at h)
  exact ⟨i2, u, v, by simp⟩
end Gds

namespace L2
open PySem
/-! two tuples of the same flat items are not unlike -/
section
variable {X : Cx}
theorem eqV_self {x : V} (h : flatV x = true) : eqV x x = true := by
  cases x with
  | non => rfl
  | bl b => exact beq_self_eq_true b
  | int b => exact beq_self_eq_true b
  | str b => exact beq_self_eq_true b
  | _ => exact absurd (show false = true from h) Bool.false_ne_true
theorem eqAt_two {A : Around} {s : Shared} : ∀ {xs : List V} {us vs : List Value}, Vals xs us → Vals xs vs → xs.all flatV = true → ∀ (j : Nat) (h1 : j < us.length) (h2 : j < vs.length), SeqAt.EqAt A s us[j] vs[j] true
  | _, _, _, .nil, .nil, _, j, h1, _ => absurd h1 (Nat.not_lt_zero _)
  | x :: xs, u :: us, v :: vs, .cons r t, .cons r' t', f, j, h1, h2 => by
    rw [List.all_cons, Bool.and_eq_true] at f
    cases j with
    | zero =>
      have := eqAt_V (A := A) (s := s) r r' f.1 f.1
      rw [eqV_self f.1] at this
      exact this
    | succ j => exact eqAt_two t t' f.2 j (Nat.lt_of_succ_lt_succ h1) (Nat.lt_of_succ_lt_succ h2)
theorem op_neT (hu : X.A.units < cLine) : OpR X (compareOp .NotEq) (fun x y H Q => ∃ a b xs, x = .ref a ∧ y = .ref b ∧ SqT X.K H a xs ∧ SqT X.K H b xs ∧ xs.all flatV = true ∧ Q (.bl false) H) := by
  intro pins s σ H x y v u Q I rx ry h
  obtain ⟨a, b, xs, rfl, rfl, ha, hb, f, q⟩ := h
  cases rx
  cases ry
  obtain ⟨its, r1, p1, _⟩ := I.tuple ha
  obtain ⟨its2, r2, p2, _⟩ := I.tuple hb
  have l1 := r1.length
  have l2 := r2.length
  refine SeqAt.RcNeAt.tuples (e := fun _ => true) p1 p2 hu (fun j h1 h2 => ?_) X.prog X.w X.xe _ ?_
  · have := eqAt_two (A := X.A.in1) (s := s) r1 r2 f j (by simpa using h1) (by simpa using h2)
    simpa using this
  · have e : (!((List.range (min its.toArray.size its2.toArray.size)).all (fun _ => true) && its.toArray.size == its2.toArray.size)) = false := by
      rw [List.size_toArray, List.size_toArray, ← l1, ← l2]
      simp
    rw [e]
    exact ⟨.bl false, H, I, rfl, q⟩
end
end L2

namespace L2
open PySem
/-! two lists of the same flat items are alike -/
section
variable {X : Cx}
theorem op_eqL (hu : X.A.units < cLine) : OpR X (compareOp .Eq) (fun x y H Q => ∃ a b xs, x = .ref a ∧ y = .ref b ∧ SqL X.K H a xs ∧ SqL X.K H b xs ∧ xs.all flatV = true ∧ Q (.bl true) H) := by
  intro pins s σ H x y v u Q I rx ry h
  obtain ⟨a, b, xs, rfl, rfl, ha, hb, f, q⟩ := h
  cases rx
  cases ry
  obtain ⟨its, r1, p1, _⟩ := I.list ha
  obtain ⟨its2, r2, p2, _⟩ := I.list hb
  have l1 := r1.length
  have l2 := r2.length
  refine SeqAt.RcAt.lists (e := fun _ => true) p1.isList p2.isList (by rw [List.size_toArray, List.size_toArray, ← l1, ← l2]) hu (fun j h1 h2 => ?_) X.prog X.w X.xe _ ?_
  · have := eqAt_two (A := X.A.in1) (s := s) r1 r2 f j (by simpa using h1) (by simpa using h2)
    simpa using this
  · have e : (List.range its.toArray.size).all (fun _ => true) = true := by simp
    rw [e]
    exact ⟨.bl true, H, I, rfl, q⟩
end
end L2

namespace L2
open PySem
/-! two lists of numbers of rooms: alike or not -/
section
variable {X : Cx}
theorem eqAt_nats {A : Around} {s : Shared} : ∀ {as bs : List Nat} {us vs : List Value}, Vals (as.map fun j : Nat => V.int (j : Int)) us → Vals (bs.map fun j : Nat => V.int (j : Int)) vs → ∀ (j : Nat) (h1 : j < us.length) (h2 : j < vs.length), SeqAt.EqAt A s us[j] vs[j] (decide (as[j]? = bs[j]?))
  | [], _, _, _, .nil, _, j, h1, _ => absurd h1 (Nat.not_lt_zero _)
  | _ :: _, [], _, _, _, .nil, j, _, h2 => absurd h2 (Nat.not_lt_zero _)
  | a :: as, b :: bs, u :: us, v :: vs, .cons r t, .cons r' t', j, h1, h2 => by
    cases j with
    | zero =>
      have := eqAt_V (A := A) (s := s) r r' rfl rfl
      have e : eqV (.int (a : Int)) (.int (b : Int)) = decide ((a :: as)[0]? = (b :: bs)[0]?) := by
        show ((a : Int) == (b : Int)) = _
        rw [Bool.eq_iff_iff, decide_eq_true_iff]
        simp
        omega
      rw [e] at this
      exact this
    | succ j => exact eqAt_nats t t' j (Nat.lt_of_succ_lt_succ h1) (Nat.lt_of_succ_lt_succ h2)
theorem all_eq {as bs : List Nat} (hl : as.length = bs.length) : (List.range as.length).all (fun j => decide (as[j]? = bs[j]?)) = decide (as = bs) := by
  rw [Bool.eq_iff_iff, decide_eq_true_iff, List.all_eq_true]
  constructor
  · intro h
    apply List.ext_getElem?
    intro i
    by_cases c : i < as.length
    · exact of_decide_eq_true (h i (List.mem_range.mpr c))
    · rw [List.getElem?_eq_none (by omega), List.getElem?_eq_none (by omega)]
  · intro h j _
    rw [h]
    exact decide_eq_true rfl
theorem op_eqN (hu : X.A.units < cLine) : OpR X (compareOp .Eq) (fun x y H Q => ∃ (a b : Addr) (as bs : List Nat), x = .ref a ∧ y = .ref b ∧ SqL X.K H a (as.map fun j : Nat => V.int (j : Int)) ∧ SqL X.K H b (bs.map fun j : Nat => V.int (j : Int)) ∧ Q (.bl (decide (as = bs))) H) := by
  intro pins s σ H x y v u Q I rx ry h
  obtain ⟨a, b, as, bs, rfl, rfl, ha, hb, q⟩ := h
  cases rx
  cases ry
  obtain ⟨its, r1, p1, _⟩ := I.list ha
  obtain ⟨its2, r2, p2, _⟩ := I.list hb
  have l1 := r1.length
  have l2 := r2.length
  rw [List.length_map] at l1 l2
  by_cases hl : as.length = bs.length
  · refine SeqAt.RcAt.lists (e := fun j => decide (as[j]? = bs[j]?)) p1.isList p2.isList (by rw [List.size_toArray, List.size_toArray]; omega) hu (fun j h1 h2 => ?_) X.prog X.w X.xe _ ?_
    · have := eqAt_nats (A := X.A.in1) (s := s) r1 r2 j (by simpa using h1) (by simpa using h2)
      simpa using this
    · rw [List.size_toArray, ← l1, all_eq hl]
      exact ⟨.bl _, H, I, rfl, q⟩
  · refine SeqAt.RcAt.lists_lengths p1.isList p2.isList (by rw [List.size_toArray, List.size_toArray]; simp; omega) hu X.prog X.w X.xe _ ?_
    rw [decide_eq_false (fun e => hl (by rw [e]))] at q
    exact ⟨.bl _, H, I, rfl, q⟩
/-- of two lists of the same flat items: they are not unlike -/
theorem op_neL (hu : X.A.units < cLine) : OpR X (compareOp .NotEq) (fun x y H Q => ∃ a b xs, x = .ref a ∧ y = .ref b ∧ SqL X.K H a xs ∧ SqL X.K H b xs ∧ xs.all flatV = true ∧ Q (.bl false) H) := by
  intro pins s σ H x y v u Q I rx ry h
  obtain ⟨a, b, xs, rfl, rfl, ha, hb, f, q⟩ := h
  cases rx
  cases ry
  obtain ⟨its, r1, p1, _⟩ := I.list ha
  obtain ⟨its2, r2, p2, _⟩ := I.list hb
  have l1 := r1.length
  have l2 := r2.length
  refine SeqAt.RcNeAt.lists (e := fun _ => true) p1.isList p2.isList (by rw [List.size_toArray, List.size_toArray, ← l1, ← l2]) hu (fun j h1 h2 => ?_) X.prog X.w X.xe _ ?_
  · have := eqAt_two (A := X.A.in1) (s := s) r1 r2 f j (by simpa using h1) (by simpa using h2)
    simpa using this
  · have e : (!(List.range its.toArray.size).all (fun _ => true)) = false := by simp
    rw [e]
    exact ⟨.bl false, H, I, rfl, q⟩
end
end L2

namespace So
open PySem PyProof.Rows
set_option maxRecDepth 100000
section
variable {prog : Program} {w : World} {A : Around} {E : Value → Shared → Prop} {s : Shared}
theorem sorted_seq {T : String} {o : Obj} {p : Addr} {its : List Value} {ns : List Int} {n : Nat} {Q : Value → Shared → Prop} (hT : T = "list" ∨ T = "tuple") (ho : s.heap.get? p = some o) (hc : o.cls = .type T) (hd : o.data = .seq its.toArray n) (hI : IntsAre its ns) (h64 : its.length < 64)
    (fin : ∀ (h1 h' : Heap) (q : Addr) (out : Array Value) (rs : List Int) (e : Nat), IntsAre out.toList rs → rs.Perm ns → rs.Pairwise (· ≤ ·) → h1.objs.size ≤ q → h'.get? q = some (seqObj "list" out e) → (∀ b o, s.heap.get? b = some o → h1.get? b = some o) → (∀ b o, h1.get? b = some o → h'.get? b = some o) → Q (.ref q) { s with heap := h' }) :
    wpAny (model prog w) A (call (.builtin "sorted") [.ref p]) Q E s := by
  refine Calls.call_function_entry kind_sorted plain_sorted entry_sorted (args_sorted1 _) ?_
  unfold Builtin.«sorted»
  refine wpAny_bind (m := checkCount "sorted" 1 1 _) (wpAny_pure ?_)
  refine wpAny_bind (wpAny_collect_seq p hT ho hc hd (fun h1 k1 => ?_) (by rw [List.size_toArray, sizeLine_eq]; omega))
  refine wpAny_bind (wpAny_newList ?_ (by show its.length ≤ _; rw [sizeLine_eq]; omega))
  have g1 : (h1.push (seqObj "list" its.toArray 0)).get? h1.objs.size = some (seqObj "list" its.toArray 0) := Heap.get?_push_size _ rfl
  refine wpAny_bind (wpAny_holding (wpAny_call_entry slot_list_sort ⟨_, g1, rfl⟩ entry_list_sort (list_sort_tree (s := { s with heap := h1.push (seqObj "list" its.toArray 0) }) g1 hI h64 fun out ns' a1 a2 a3 => ⟨_, rfl, ?_⟩) (args_list_sort _)))
  obtain ⟨e, he⟩ := sortedHeap_at (out := out) g1
  refine wpAny_pure ⟨_, rfl, fin h1 _ h1.objs.size out ns' e a1 a2 a3 (Nat.le_refl _) he k1 fun b ob hb => ?_⟩
  have lb : b < h1.objs.size := Heap.lt_size hb
  rw [sortedHeap_old (Nat.ne_of_lt lb) (by rw [Heap.size_push]; exact Nat.lt_succ_of_lt lb)]
  exact Heap.get?_push_of_some _ hb
theorem sorted_seq_rev {T : String} {o : Obj} {p : Addr} {its : List Value} {ns : List Int} {n : Nat} {Q : Value → Shared → Prop} (hT : T = "list" ∨ T = "tuple") (ho : s.heap.get? p = some o) (hc : o.cls = .type T) (hd : o.data = .seq its.toArray n) (hI : IntsAre its ns) (h64 : its.length < 64)
    (fin : ∀ (h1 h' : Heap) (q : Addr) (out : Array Value) (rs : List Int) (e : Nat), IntsAre out.toList rs → rs.Perm ns → rs.Pairwise (· ≥ ·) → h1.objs.size ≤ q → h'.get? q = some (seqObj "list" out e) → (∀ b o, s.heap.get? b = some o → h1.get? b = some o) → (∀ b o, h1.get? b = some o → h'.get? b = some o) → Q (.ref q) { s with heap := h' }) :
    wpAny (model prog w) A (call (.builtin "sorted") [.ref p] [(Str.ofString "reverse", .bool true)]) Q E s := by
  refine call_function_entry_kw kind_sorted plain_sorted entry_sorted (args_sorted_rev _ _) ?_
  unfold Builtin.«sorted»
  refine wpAny_bind (m := checkCount "sorted" 1 1 _) (wpAny_pure ?_)
  refine wpAny_bind (wpAny_collect_seq p hT ho hc hd (fun h1 k1 => ?_) (by rw [List.size_toArray, sizeLine_eq]; omega))
  refine wpAny_bind (wpAny_newList ?_ (by show its.length ≤ _; rw [sizeLine_eq]; omega))
  have g1 : (h1.push (seqObj "list" its.toArray 0)).get? h1.objs.size = some (seqObj "list" its.toArray 0) := Heap.get?_push_size _ rfl
  refine wpAny_bind (wpAny_holding (wpAny_call_entry_kw slot_list_sort ⟨_, g1, rfl⟩ entry_list_sort (list_sort_tree_rev (b := true) (s := { s with heap := h1.push (seqObj "list" its.toArray 0) }) g1 hI h64 fun out ns' a1 a2 a3 => ⟨_, rfl, ?_⟩) (args_list_sort_rev _ _)))
  obtain ⟨e, he⟩ := sortedHeap_at (out := out) g1
  refine wpAny_pure ⟨_, rfl, fin h1 _ h1.objs.size out ns' e a1 a2 a3 (Nat.le_refl _) he k1 fun b ob hb => ?_⟩
  have lb : b < h1.objs.size := Heap.lt_size hb
  rw [sortedHeap_old (Nat.ne_of_lt lb) (by rw [Heap.size_push]; exact Nat.lt_succ_of_lt lb)]
  exact Heap.get?_push_of_some _ hb
end
end So
namespace L2
open PySem PySem.Spec PyProof.Rows
section
variable {X : Cx}
/-- sorted(a), a a list or a tuple of fewer than 64 ints -/
def rSorted (K : PySem.W.Frag) (le : Int → Int → Prop) : List V → Hp → VK → Prop := fun xs H Q => ∃ (p : Addr) (ns : List Int), xs = [.ref p] ∧ (SqL K H p (ns.map V.int) ∨ SqT K H p (ns.map V.int)) ∧ ns.length < 64 ∧ ∀ (q : Addr) (rs : List Int), H q = none → rs.Perm ns → rs.Pairwise le → Q (.ref q) (upd H q (.lst (rs.map V.int)))
theorem Inv.seq_of {pins : List (Addr × Obj)} {σ : St} {H : Hp} {s : Shared} {p : Addr} {ns : List Int} (I : Inv X pins σ H s) (h : SqL X.K H p (ns.map V.int) ∨ SqT X.K H p (ns.map V.int)) :
    ∃ (T : String) (o : Obj) (its : List Value) (n : Nat), (T = "list" ∨ T = "tuple") ∧ s.heap.get? p = some o ∧ o.cls = .type T ∧ o.data = .seq its.toArray n ∧ IntsAre its ns := by
  rcases h with h | h
  · obtain ⟨its, r, pl, _⟩ := I.list h
    obtain ⟨o, ho, hc, n, hd⟩ := pl.isList
    exact ⟨"list", o, its, n, .inl rfl, ho, hc, hd, intsAre_of r⟩
  · obtain ⟨its, r, pl, _⟩ := I.tuple h
    obtain ⟨o, ho, hc, n, hd⟩ := pl
    exact ⟨"tuple", o, its, n, .inr rfl, ho, hc, hd, intsAre_of r⟩
theorem call_sorted : CallR X (.builtin "sorted") (rSorted X.K (· ≤ ·)) := by
  intro pins s σ H xs us Q I r h
  obtain ⟨p, ns, rfl, hq, h64, q⟩ := h
  obtain ⟨u, rfl, rx⟩ := vals1 r
  cases rx
  obtain ⟨T, o, its, n, hT, ho, hc, hd, hI⟩ := I.seq_of hq
  have hl := hI.length
  refine So.sorted_seq hT ho hc hd hI (by omega) fun h1 h' q' out rs e i1 i2 i3 i4 i5 i6 i7 => ?_
  have J : Inv X pins σ H { s with heap := h1 } := I.kept (t' := s.toks) i6
  have lr := i2.length_eq
  have i5' : h'.get? q' = some { cls := .type "list", data := .seq out.toList.toArray e } := by
    rw [i5]
  exact ⟨.ref q', _, J.laid (h' := h') (t' := s.toks) (o := .lst (rs.map V.int)) i7 i4 ⟨by rw [List.length_map]; exact small_le (by omega), out.toList, e, vals_ints i1, i5'⟩, rfl, q q' rs (J.hok.fresh i4) i2 i3⟩
/-- sorted(a, reverse=True) -/
def tSortR (K : PySem.W.Frag) (t : TA) : TE := fun σ H Q => t σ H fun vs H1 => rSorted K (· ≥ ·) vs H1 Q
theorem pe_sortedR {a : Expr} {t : TA} {p1 pos kp pd : Pos} {j : Nat} (hg : Gl X "sorted") (hm : X.mg "sorted" = none) (ha : PA X [a] t) (he : starEach [a] X.env = [(false, eval a X.env)] := by rfl) :
    PE X (.Call (.Name "sorted" p1) [a] [⟨some "reverse", .Constant (.bool true) j pd, kp⟩] pos) (tSortR X.K t) := by
  intro pins s σ H Q I h
  refine wpAny_Call_Name_kw (ld_blt I hg hm PyProof.Rows.boot_sorted ?_)
  refine PyProof.Rows.callWith_kw (thn (ha pos pins s σ H _ I h) fun us s1 ⟨vs, H1, I1, r1, q1⟩ => ?_) (by rw [he]; rfl) (by rw [he]; rfl) rfl rfl
  refine PyProof.Rows.kws_cons (wpAny_Constant_bool (PyProof.Rows.kws_nil ?_))
  obtain ⟨p, ns, rfl, hq, h64, q⟩ := q1
  obtain ⟨u, rfl, rx⟩ := vals1 r1
  cases rx
  obtain ⟨T, o, its, n, hT, ho, hc, hd, hI⟩ := I1.seq_of hq
  have hl := hI.length
  refine So.sorted_seq_rev hT ho hc hd hI (by omega) fun h1 h' q' out rs e i1 i2 i3 i4 i5 i6 i7 => ?_
  have J : Inv X pins σ H1 { s1 with heap := h1 } := I1.kept (t' := s1.toks) i6
  have lr := i2.length_eq
  have i5' : h'.get? q' = some { cls := .type "list", data := .seq out.toList.toArray e } := by
    rw [i5]
  exact ⟨.ref q', _, J.laid (h' := h') (t' := s1.toks) (o := .lst (rs.map V.int)) i7 i4 ⟨by rw [List.length_map]; exact small_le (by omega), out.toList, e, vals_ints i1, i5'⟩, rfl, q q' rs (J.hok.fresh i4) i2 i3⟩
end
/-! a sorted row of the numbers of rooms -/
theorem rise_unique : ∀ (a b : List Nat), a.Pairwise (· < ·) → b.Pairwise (· < ·) → (∀ k, k ∈ a ↔ k ∈ b) → a = b
  | [], [], _, _, _ => rfl
  | [], y :: b, _, _, h => absurd ((h y).mpr List.mem_cons_self) (by simp)
  | x :: a, [], _, _, h => absurd ((h x).mp List.mem_cons_self) (by simp)
  | x :: a, y :: b, ha, hb, h => by
    obtain ⟨a1, a2⟩ := List.pairwise_cons.mp ha
    obtain ⟨b1, b2⟩ := List.pairwise_cons.mp hb
    have e : x = y := by
      have h1 := (h x).mp List.mem_cons_self
      have h2 := (h y).mpr List.mem_cons_self
      rcases List.mem_cons.mp h1 with e | h1
      · exact e
      · rcases List.mem_cons.mp h2 with e | h2
        · exact e.symm
        · have := a1 y h2
          have := b1 x h1
          omega
    subst e
    congr 1
    refine rise_unique a b a2 b2 fun k => ?_
    have hk := h k
    rw [List.mem_cons, List.mem_cons] at hk
    constructor
    · intro z
      rcases hk.mp (.inr z) with e | z'
      · subst e
        have := a1 k z
        omega
      · exact z'
    · intro z
      rcases hk.mpr (.inr z) with e | z'
      · subst e
        have := b1 k z
        omega
      · exact z'
theorem map_toNat : ∀ os : List Nat, os.map (Int.toNat ∘ fun j : Nat => (j : Int)) = os
  | [] => rfl
  | x :: l => by
    rw [List.map_cons, map_toNat l]
    rfl
/-- ints that are a rearrangement of nats -/
theorem perm_nats {rs : List Int} {os : List Nat} (h : rs.Perm (os.map fun j : Nat => (j : Int))) : ∃ ms : List Nat, rs = ms.map (fun j : Nat => (j : Int)) ∧ ms.Perm os := by
  refine ⟨rs.map Int.toNat, ?_, ?_⟩
  · rw [List.map_map]
    have : ∀ x ∈ rs, ((fun j : Nat => (j : Int)) ∘ Int.toNat) x = x := fun x hx => by
      obtain ⟨o, _, rfl⟩ := List.mem_map.mp (h.mem_iff.mp hx)
      rfl
    rw [List.map_congr_left this, List.map_id']
  · have := h.map Int.toNat
    rw [List.map_map] at this
    rw [map_toNat] at this
    exact this
theorem nats_ints (os : List Nat) : (os.map fun j : Nat => V.int (j : Int)) = (os.map fun j : Nat => (j : Int)).map V.int := by
  rw [List.map_map]
  rfl
/-- sorted: rising, if no item stands twice -/
theorem sorted_rise {rs : List Int} {os : List Nat} (h : rs.Perm (os.map fun j : Nat => (j : Int))) (hs : rs.Pairwise (· ≤ ·)) (hn : os.Nodup) : ∃ ms : List Nat, rs = ms.map (fun j : Nat => (j : Int)) ∧ ms.Pairwise (· < ·) ∧ ms.Perm os := by
  obtain ⟨ms, rfl, hp⟩ := perm_nats h
  refine ⟨ms, rfl, ?_, hp⟩
  have nd : ms.Nodup := hp.nodup_iff.mpr hn
  rw [List.pairwise_map] at hs
  exact (hs.and nd).imp fun ⟨h1, h2⟩ => by omega
theorem sorted_fall {rs : List Int} {os : List Nat} (h : rs.Perm (os.map fun j : Nat => (j : Int))) (hs : rs.Pairwise (· ≥ ·)) (hn : os.Pairwise (· < ·)) : rs = os.reverse.map (fun j : Nat => (j : Int)) := by
  obtain ⟨ms, rfl, hp⟩ := perm_nats h
  congr 1
  have nd : ms.Nodup := hp.nodup_iff.mpr (hn.imp fun z => Nat.ne_of_lt z)
  rw [List.pairwise_map] at hs
  have hm : ms.reverse.Pairwise (· < ·) := by
    rw [List.pairwise_reverse]
    exact (hs.and nd).imp fun ⟨h1, h2⟩ => by omega
  have e := rise_unique ms.reverse os hm hn fun k => by rw [List.mem_reverse]; exact hp.mem_iff
  rw [← e, List.reverse_reverse]
end L2

namespace L2
open PySem PySem.Spec PyProof.Rows
section
variable {X : Cx}
theorem range_any (n : Nat) (f : Nat → Bool) (bs : List Bool) (hl : bs.length = n) (hf : ∀ i b, bs[i]? = some b → f i = b) : (List.range n).any f = bs.any id := by
  rw [Bool.eq_iff_iff, List.any_eq_true, List.any_eq_true]
  constructor
  · rintro ⟨i, hi, h⟩
    have hi' : i < bs.length := by rw [hl]; exact List.mem_range.mp hi
    rw [hf i _ (List.getElem?_eq_getElem hi')] at h
    exact ⟨_, List.getElem_mem hi', h⟩
  · rintro ⟨b, hb, h⟩
    obtain ⟨i, e⟩ := List.mem_iff_getElem?.mp hb
    have hi := (List.getElem?_eq_some_iff.mp e).1
    exact ⟨i, List.mem_range.mpr (by omega), by rw [hf i b e]; exact h⟩
/-- any(bs), bs a list of truths -/
theorem call_anyB (hc : X.calm = true) : CallR X (.builtin "any") (fun xs H Q => ∃ (p : Addr) (bs : List Bool), xs = [.ref p] ∧ SqL X.K H p (bs.map V.bl) ∧ Q (.bl (bs.any id)) H) := by
  intro pins s σ H xs us Q I r h
  obtain ⟨p, bs, rfl, hq, q⟩ := h
  obtain ⟨u, rfl, rx⟩ := vals1 r
  cases rx
  obtain ⟨its, rv, pl, hz⟩ := I.list hq
  have hlen := rv.length
  rw [List.length_map] at hlen
  have hlt : p < s.heap.objs.size := by
    obtain ⟨o, ho, _⟩ := pl.isList
    exact Heap.lt_size ho
  refine call_any_walk (wpAny_pyIter_list pl.isList ?_)
  refine ⟨s.heap.objs.size, [s.heap.objs.size, p], [s.heap.objs.size], its.toArray.size, fun i v => its.toArray[i]? = some v, fun i h => h.IsListIter s.heap.objs.size p i ∧ h.IsList p its.toArray, fun i => (bs[i]?).getD true, rfl,
    Walks.list (A := X.A.in1) (I.ok.hd hc) _ _ (Nat.ne_of_lt hlt) _, ⟨⟨_, Heap.get?_push_size _ rfl, rfl, rfl⟩, pl.isList.at fun o e => Heap.get?_push_of_some _ e⟩, ?_, ?_⟩
  · intro i v s' Q' E' hv hQ'
    have hi : i < bs.length := by
      have := (Array.getElem?_eq_some_iff.mp hv).1
      simp only [List.size_toArray] at this
      omega
    have e : bs[i]? = some bs[i] := List.getElem?_eq_getElem hi
    obtain ⟨u, hu, ru⟩ := rv.get (i := i) (x := V.bl bs[i]) (by rw [List.getElem?_map, e]; rfl)
    have hv' : its[i]? = some v := by simpa using hv
    rw [hu] at hv'
    cases hv'
    cases ru
    have hQ2 : Q' ((bs[i]?).getD true) s' := hQ'
    rw [e] at hQ2
    exact wpAny_truthy_bool hQ2
  · intro h' tk k
    refine ⟨.bl (bs.any id), H, I.kept (t' := tk) (h' := h') fun b u e => k b u (fun z => ?_) (Heap.get?_push_of_some _ e), ?_, q⟩
    · have z' : b = s.heap.objs.size := by simpa using z
      exact absurd (Heap.lt_size e) (by rw [z']; exact Nat.lt_irrefl _)
    · show Value.bool _ = Value.bool _
      rw [range_any its.toArray.size _ bs (by simp only [List.size_toArray]; exact hlen) fun i b e => by rw [e]; rfl]
end
end L2

namespace Tr
/-! rooms by their depths: parents, kids, the chain of rooms above; plain mathematics -/
def parGo (ds : List Int) (d : Int) : Nat → Option Nat
  | 0 => none
  | j + 1 => if ds.getD j 0 < d then some j else parGo ds d j
def par (ds : List Int) (k : Nat) : Option Nat := parGo ds (ds.getD k 0) k
theorem parGo_some {ds : List Int} {d : Int} : ∀ {k j : Nat}, j < k → ds.getD j 0 < d → (∀ i, j < i → i < k → d ≤ ds.getD i 0) → parGo ds d k = some j
  | 0, j, h, _, _ => by omega
  | k + 1, j, h, hd, ha => by
    unfold parGo
    by_cases e : j = k
    · subst e
      rw [if_pos hd]
    · have := ha k (by omega) (by omega)
      rw [if_neg (by omega)]
      exact parGo_some (by omega) hd fun i h1 h2 => ha i h1 (by omega)
theorem parGo_none {ds : List Int} {d : Int} : ∀ {k : Nat}, (∀ i, i < k → d ≤ ds.getD i 0) → parGo ds d k = none
  | 0, _ => rfl
  | k + 1, h => by
    unfold parGo
    have := h k (by omega)
    rw [if_neg (by omega)]
    exact parGo_none fun i hi => h i (by omega)
theorem parGo_lt {ds : List Int} {d : Int} : ∀ {k j : Nat}, parGo ds d k = some j → j < k ∧ ds.getD j 0 < d ∧ ∀ i, j < i → i < k → d ≤ ds.getD i 0
  | 0, j, h => by cases h
  | k + 1, j, h => by
    unfold parGo at h
    split at h
    · cases h
      exact ⟨by omega, by assumption, fun i h1 h2 => by omega⟩
    · rename_i hn
      obtain ⟨a, b, c⟩ := parGo_lt h
      refine ⟨by omega, b, fun i h1 h2 => ?_⟩
      by_cases e : i = k
      · subst e
        omega
      · exact c i h1 (by omega)
theorem par_lt {ds : List Int} {k j : Nat} (h : par ds k = some j) : j < k := (parGo_lt h).1
/-- the depths as they may stand -/
structure Good (ds : List Int) : Prop where
  pos : 0 < ds.length
  first : ds.getD 0 0 = 0
  next : ∀ k, k + 1 < ds.length → 1 ≤ ds.getD (k + 1) 0 ∧ ds.getD (k + 1) 0 ≤ ds.getD k 0 + 1
theorem Good.nonneg {ds : List Int} (g : Good ds) : ∀ k, k < ds.length → 0 ≤ ds.getD k 0
  | 0, _ => by rw [g.first]; exact Int.le_refl _
  | k + 1, h => by have := g.next k h; omega
theorem Good.le_ix {ds : List Int} (g : Good ds) : ∀ k, k < ds.length → ds.getD k 0 ≤ (k : Int)
  | 0, _ => by rw [g.first]; exact Int.le_refl _
  | k + 1, h => by
    have := g.next k h
    have := g.le_ix k (by omega)
    omega
theorem Good.par_zero {ds : List Int} : par ds 0 = none := rfl
theorem Good.snoc {ds : List Int} {v : Int} (g : Good ds) (h1 : 1 ≤ v) (h2 : v ≤ ds.getD (ds.length - 1) 0 + 1) : Good (ds ++ [v]) := by
  have hp := g.pos
  have old : ∀ k, k < ds.length → (ds ++ [v]).getD k 0 = ds.getD k 0 := fun k hk => by
    rw [List.getD_eq_getElem?_getD, List.getD_eq_getElem?_getD, List.getElem?_append_left hk]
  have new : (ds ++ [v]).getD ds.length 0 = v := by
    rw [List.getD_eq_getElem?_getD, List.getElem?_append_right (Nat.le_refl _)]
    simp
  refine ⟨by simp, by rw [old 0 hp]; exact g.first, fun k hk => ?_⟩
  rw [List.length_append, List.length_singleton] at hk
  by_cases e : k + 1 < ds.length
  · rw [old _ e, old k (by omega)]
    exact g.next k e
  · have e' : k + 1 = ds.length := by omega
    rw [old k (by omega), e', new, show k = ds.length - 1 by omega]
    exact ⟨h1, h2⟩
theorem Good.one : Good [0] := ⟨by decide, rfl, fun k h => by simp at h⟩
/-- what stands above, a row of rooms each the parent of the next; behind room k -/
structure Above (ds : List Int) (k : Nat) (s : List Nat) : Prop where
  len : (s.length : Int) = ds.getD k 0 + 1
  top : s[(ds.getD k 0).toNat]? = some k
  le : ∀ (i v : Nat), s[i]? = some v → v ≤ k ∧ ds.getD v 0 = (i : Int) ∧ ∀ j, v < j → j ≤ k → (i : Int) < ds.getD j 0
theorem Above.zero {ds : List Int} (g : Good ds) : Above ds 0 [0] := by
  refine ⟨by rw [g.first]; rfl, by rw [g.first]; rfl, fun i v h => ?_⟩
  cases i with
  | zero =>
    simp at h
    subst h
    exact ⟨Nat.le_refl _, by rw [g.first]; rfl, fun j h1 h2 => by omega⟩
  | succ i => simp at h
theorem Above.next {ds : List Int} {k : Nat} {s : List Nat} (g : Good ds) (h : k + 1 < ds.length) (a : Above ds k s) : Above ds (k + 1) (s.take (ds.getD (k + 1) 0).toNat ++ [k + 1]) := by
  obtain ⟨n1, n2⟩ := g.next k h
  have n0 := g.nonneg k (by omega)
  have hl := a.len
  have ht : (s.take (ds.getD (k + 1) 0).toNat).length = (ds.getD (k + 1) 0).toNat := by
    rw [List.length_take]
    omega
  refine ⟨?_, ?_, fun i v hv => ?_⟩
  · rw [List.length_append, ht, List.length_singleton]
    omega
  · rw [List.getElem?_append_right (by omega), ht]
    simp
  · by_cases hi : i < (ds.getD (k + 1) 0).toNat
    · rw [List.getElem?_append_left (by omega), List.getElem?_take_of_lt hi] at hv
      obtain ⟨a1, a2, a3⟩ := a.le i v hv
      refine ⟨by omega, a2, fun j h1 h2 => ?_⟩
      by_cases e : j = k + 1
      · subst e
        omega
      · exact a3 j h1 (by omega)
    · rw [List.getElem?_append_right (by omega), ht] at hv
      have e : i - (ds.getD (k + 1) 0).toNat = 0 := by
        by_cases z : i - (ds.getD (k + 1) 0).toNat = 0
        · exact z
        · rw [List.getElem?_eq_none (by rw [List.length_singleton]; omega)] at hv
          cases hv
      rw [e] at hv
      simp at hv
      subst hv
      exact ⟨Nat.le_refl _, by omega, fun j h1 h2 => by omega⟩
theorem Above.par {ds : List Int} {k : Nat} {s : List Nat} (g : Good ds) (hk : k < ds.length) (a : Above ds k s) : par ds k = if 1 < s.length then s[s.length - 2]? else none := by
  have hl := a.len
  have n0 := g.nonneg k hk
  by_cases h : 1 < s.length
  · rw [if_pos h, List.getElem?_eq_getElem (by omega)]
    obtain ⟨a1, a2, a3⟩ := a.le (s.length - 2) s[s.length - 2] (List.getElem?_eq_getElem (by omega))
    have e : ds.getD k 0 = ((s.length - 2 : Nat) : Int) + 1 := by omega
    refine parGo_some ?_ (by omega) fun i h1 h2 => ?_
    · by_cases z : s[s.length - 2] = k
      · rw [z] at a2
        omega
      · omega
    · have := a3 i h1 (by omega)
      omega
  · rw [if_neg h]
    refine parGo_none fun i hi => ?_
    have e : ds.getD k 0 = 0 := by omega
    have := g.nonneg i (by omega)
    omega
/-- the rooms whose parent this is -/
def kidsTo (ds : List Int) (r n : Nat) : List Nat := (List.range n).filter fun j => par ds j == some r
def kids (ds : List Int) (r : Nat) : List Nat := kidsTo ds r ds.length
theorem kidsTo_succ (ds : List Int) (r n : Nat) : kidsTo ds r (n + 1) = kidsTo ds r n ++ if par ds n == some r then [n] else [] := by
  unfold kidsTo
  rw [List.range_succ, List.filter_append]
  congr 1
  rw [List.filter_cons]
  simp
theorem kidsTo_len (ds : List Int) (r n : Nat) : (kidsTo ds r n).length ≤ n := by
  unfold kidsTo
  refine Nat.le_trans (List.length_filter_le _ _) ?_
  simp
/-! the chain of rooms above a room -/
def upF (ds : List Int) : Nat → Nat → List Nat
  | 0, _ => []
  | f + 1, k => match par ds k with
    | none => []
    | some j => j :: upF ds f j
def ups (ds : List Int) (k : Nat) : List Nat := upF ds k k
theorem upF_more (ds : List Int) : ∀ (f k : Nat), k ≤ f → upF ds f k = upF ds k k
  | f, 0, _ => by
    cases f with
    | zero => rfl
    | succ f => rfl
  | 0, k + 1, h => by omega
  | f + 1, k + 1, h => by
    show (match par ds (k + 1) with | none => [] | some j => j :: upF ds f j) = (match par ds (k + 1) with | none => [] | some j => j :: upF ds k j)
    cases e : par ds (k + 1) with
    | none => rfl
    | some j =>
      have hj := par_lt e
      show j :: upF ds f j = j :: upF ds k j
      rw [upF_more ds f j (by omega), upF_more ds k j (by omega)]
theorem ups_none {ds : List Int} {k : Nat} (h : par ds k = none) : ups ds k = [] := by
  unfold ups
  cases k with
  | zero => rfl
  | succ k =>
    show (match par ds (k + 1) with | none => [] | some j => j :: upF ds k j) = []
    rw [h]
theorem ups_some {ds : List Int} {k j : Nat} (h : par ds k = some j) : ups ds k = j :: ups ds j := by
  have hj := par_lt h
  unfold ups
  cases k with
  | zero => omega
  | succ k =>
    show (match par ds (k + 1) with | none => [] | some j => j :: upF ds k j) = _
    rw [h]
    show j :: upF ds k j = _
    rw [upF_more ds k j (by omega)]
theorem ups_lt {ds : List Int} : ∀ {k v : Nat}, v ∈ ups ds k → v < k := by
  intro k
  induction k using Nat.strongRecOn with
  | ind k ih =>
    intro v hv
    cases e : par ds k with
    | none =>
      rw [ups_none e] at hv
      cases hv
    | some j =>
      have hj := par_lt e
      rw [ups_some e] at hv
      rcases List.mem_cons.mp hv with rfl | h
      · exact hj
      · have := ih j hj h
        omega
theorem ups_desc (ds : List Int) : ∀ k : Nat, (ups ds k).Pairwise (· > ·) := by
  intro k
  induction k using Nat.strongRecOn with
  | ind k ih =>
    cases e : par ds k with
    | none =>
      rw [ups_none e]
      exact .nil
    | some j =>
      rw [ups_some e]
      exact List.pairwise_cons.mpr ⟨fun v hv => ups_lt hv, ih j (par_lt e)⟩
theorem ups_len (ds : List Int) : ∀ k : Nat, (ups ds k).length ≤ k := by
  intro k
  induction k using Nat.strongRecOn with
  | ind k ih =>
    cases e : par ds k with
    | none =>
      rw [ups_none e]
      exact Nat.zero_le _
    | some j =>
      have hj := par_lt e
      have := ih j hj
      rw [ups_some e, List.length_cons]
      omega
/-- the deepest room of a sort in which both lie -/
def hall (ds : List Int) (isOne : Nat → Bool) (a b : Nat) : Option Nat := (ups ds a).find? fun x => (ups ds b).contains x && isOne x
/-- a room lies in another one -/
def liesIn (ds : List Int) (a b : Nat) : Bool := (ups ds a).contains b
theorem liesIn_none {ds : List Int} {a b : Nat} (h : par ds a = none) : liesIn ds a b = false := by
  unfold liesIn
  rw [ups_none h]
  rfl
theorem liesIn_some {ds : List Int} {a b j : Nat} (h : par ds a = some j) : liesIn ds a b = (j == b || liesIn ds j b) := by
  unfold liesIn
  rw [ups_some h, List.contains_cons]
  congr 1
  exact Bool.eq_iff_iff.mpr ⟨fun z => by simpa using (eq_of_beq z).symm, fun z => by simpa using (eq_of_beq z).symm⟩
end Tr

namespace Tr
/-! where the rooms that lie in a room end -/
structure EndOf (ds : List Int) (k e : Nat) : Prop where
  lt : k < e
  le : e ≤ ds.length
  ins : ∀ j, k < j → j < e → ds.getD k 0 < ds.getD j 0
  out : e < ds.length → ds.getD e 0 ≤ ds.getD k 0
theorem parGo_no {ds : List Int} {d : Int} : ∀ {k : Nat}, parGo ds d k = none → ∀ i, i < k → d ≤ ds.getD i 0
  | 0, _, i, h => by omega
  | k + 1, e, i, h => by
    unfold parGo at e
    split at e
    · cases e
    · rename_i hn
      by_cases q : i = k
      · subst q
        omega
      · exact parGo_no e i (by omega)
theorem par_iff {ds : List Int} {k j : Nat} : par ds j = some k ↔ k < j ∧ ds.getD k 0 < ds.getD j 0 ∧ ∀ i, k < i → i < j → ds.getD j 0 ≤ ds.getD i 0 :=
  ⟨fun h => parGo_lt h, fun ⟨a, b, c⟩ => parGo_some a b c⟩
theorem mem_ups {ds : List Int} : ∀ (a b : Nat), b ∈ ups ds a ↔ b < a ∧ ∀ j, b < j → j ≤ a → ds.getD b 0 < ds.getD j 0 := by
  intro a
  induction a using Nat.strongRecOn with
  | ind a ih =>
    intro b
    cases e : par ds a with
    | none =>
      rw [ups_none e]
      refine ⟨fun z => (by cases z), fun ⟨h1, h2⟩ => ?_⟩
      have := parGo_no e b h1
      have := h2 a h1 (Nat.le_refl _)
      omega
    | some p =>
      obtain ⟨hp, hd, ha⟩ := par_iff.mp e
      rw [ups_some e, List.mem_cons, ih p hp b]
      constructor
      · rintro (rfl | ⟨h1, h2⟩)
        · refine ⟨hp, fun j j1 j2 => ?_⟩
          by_cases q : j = a
          · rw [q]
            exact hd
          · have := ha j j1 (by omega)
            omega
        · refine ⟨by omega, fun j j1 j2 => ?_⟩
          by_cases q : j ≤ p
          · exact h2 j j1 q
          · have z := h2 p h1 (Nat.le_refl _)
            by_cases q2 : j = a
            · rw [q2]
              omega
            · have := ha j (by omega) (by omega)
              omega
      · rintro ⟨h1, h2⟩
        by_cases q : b = p
        · exact .inl q
        · right
          have z := h2 a h1 (Nat.le_refl _)
          by_cases q2 : p < b
          · have := ha b q2 h1
            omega
          · exact ⟨by omega, fun j j1 j2 => h2 j j1 (by omega)⟩
theorem lies_end {ds : List Int} {a b e : Nat} (h : EndOf ds b e) (ha : a < ds.length) : liesIn ds a b = (decide (b < a) && decide (a < e)) := by
  unfold liesIn
  rw [Bool.eq_iff_iff, List.contains_iff_mem, mem_ups, Bool.and_eq_true, decide_eq_true_iff, decide_eq_true_iff]
  constructor
  · rintro ⟨h1, h2⟩
    refine ⟨h1, ?_⟩
    by_cases q : a < e
    · exact q
    · have := h2 e h.lt (by omega)
      have := h.out (by omega)
      omega
  · rintro ⟨h1, h2⟩
    exact ⟨h1, fun j j1 j2 => h.ins j j1 (by omega)⟩
theorem par_end {ds : List Int} (g : Good ds) {j k e : Nat} (h : EndOf ds k e) (hj : j < ds.length) : (par ds j = some k) ↔ (k < j ∧ j < e ∧ ds.getD j 0 = ds.getD k 0 + 1) := by
  rw [par_iff]
  constructor
  · rintro ⟨h1, h2, h3⟩
    refine ⟨h1, ?_, ?_⟩
    · by_cases q : j < e
      · exact q
      · have := h.out (by have := h.lt; omega)
        by_cases q2 : j = e
        · subst q2
          omega
        · have := h3 e h.lt (by omega)
          omega
    · have n := g.next k (by omega)
      by_cases q : j = k + 1
      · subst q
        omega
      · have := h3 (k + 1) (by omega) (by omega)
        omega
  · rintro ⟨h1, h2, h3⟩
    refine ⟨h1, by omega, fun i i1 i2 => ?_⟩
    have := h.ins i i1 (by omega)
    omega
theorem kidsTo_low (ds : List Int) (k : Nat) : ∀ n, n ≤ k + 1 → kidsTo ds k n = []
  | 0, _ => rfl
  | n + 1, h => by
    rw [kidsTo_succ, kidsTo_low ds k n (by omega), if_neg]
    · rfl
    · intro z
      have := par_lt (eq_of_beq z)
      omega
theorem kidsTo_high {ds : List Int} (g : Good ds) {k e : Nat} (h : EndOf ds k e) : ∀ n, e + n ≤ ds.length → kidsTo ds k (e + n) = kidsTo ds k e
  | 0, _ => rfl
  | n + 1, hn => by
    rw [show e + (n + 1) = (e + n) + 1 by omega, kidsTo_succ, kidsTo_high g h n (by omega), if_neg, List.append_nil]
    intro z
    have := (par_end g h (by omega)).mp (eq_of_beq z)
    omega
theorem kids_end {ds : List Int} (g : Good ds) {k e : Nat} (h : EndOf ds k e) : kids ds k = kidsTo ds k e := by
  have q := kidsTo_high g h (ds.length - e) (by have := h.le; omega)
  rw [show e + (ds.length - e) = ds.length by have := h.le; omega] at q
  exact q
end Tr

namespace Tr
/-! goings in: plain mathematics -/
def bears (ds : List Int) (gs : List Nat) (k : Nat) : Bool := gs.any fun g => g == k || liesIn ds g k
def next (ds : List Int) (al : Nat → Bool) (gs : List Nat) (p : Nat) : List Nat :=
  if al p = true then kids ds p else match (kids ds p).find? (bears ds gs) with
    | some k => [k]
    | none => (kids ds p).take 1
inductive Gone (ds : List Int) (al : Nat → Bool) (gs : List Nat) (un : Option Nat) : Nat → Prop where
  | top : un = none → Gone ds al gs un 0
  | root {p k : Nat} : k ∈ next ds al gs p → un = some p → Gone ds al gs un k
  | low {p k : Nat} : k ∈ next ds al gs p → Gone ds al gs un p → Gone ds al gs un k
theorem Gone.kid {ds : List Int} {al : Nat → Bool} {gs : List Nat} {un : Option Nat} {p k : Nat} (h : k ∈ next ds al gs p) (h' : un = some p ∨ Gone ds al gs un p) : Gone ds al gs un k := by
  rcases h' with e | g
  · exact .root h e
  · exact .low h g
theorem mem_kids {ds : List Int} {r k : Nat} : k ∈ kids ds r ↔ k < ds.length ∧ par ds k = some r := by
  unfold kids kidsTo
  rw [List.mem_filter, List.mem_range]
  exact ⟨fun ⟨a, b⟩ => ⟨a, eq_of_beq b⟩, fun ⟨a, b⟩ => ⟨a, by rw [b]; exact beq_self_eq_true _⟩⟩
theorem kids_rise (ds : List Int) (p : Nat) : (kids ds p).Pairwise (· < ·) := by
  unfold kids kidsTo
  exact List.pairwise_lt_range.filter _
theorem next_sub {ds : List Int} {al : Nat → Bool} {gs : List Nat} {p k : Nat} (h : k ∈ next ds al gs p) : k ∈ kids ds p := by
  unfold next at h
  split at h
  · exact h
  · split at h
    · rename_i k' e
      rw [List.mem_singleton.mp h]
      exact List.mem_of_find?_eq_some e
    · exact List.mem_of_mem_take h
theorem next_par {ds : List Int} {al : Nat → Bool} {gs : List Nat} {p k : Nat} (h : k ∈ next ds al gs p) : par ds k = some p := (mem_kids.mp (next_sub h)).2
theorem next_lt {ds : List Int} {al : Nat → Bool} {gs : List Nat} {p k : Nat} (h : k ∈ next ds al gs p) : k < ds.length := (mem_kids.mp (next_sub h)).1
theorem next_rise (ds : List Int) (al : Nat → Bool) (gs : List Nat) (p : Nat) : (next ds al gs p).Pairwise (· < ·) := by
  unfold next
  split
  · exact kids_rise ds p
  · split
    · exact List.pairwise_singleton _ _
    · exact (kids_rise ds p).sublist (List.take_sublist _ _)
theorem Gone.lt {ds : List Int} {al : Nat → Bool} {gs : List Nat} {un : Option Nat} {k : Nat} (pos : 0 < ds.length) (h : Gone ds al gs un k) : k < ds.length := by
  cases h with
  | top => exact pos
  | root h _ => exact next_lt h
  | low h _ => exact next_lt h
theorem Gone.over {ds : List Int} {al : Nat → Bool} {gs : List Nat} {un : Option Nat} {k : Nat} (h : Gone ds al gs un k) : ∀ u, un = some u → u < k := by
  induction h with
  | top e => intro u e'; rw [e] at e'; cases e'
  | root h hp =>
    intro u e
    rw [e] at hp
    cases hp
    exact par_lt (next_par h)
  | low h _ ih =>
    intro u e
    have := par_lt (next_par h)
    have := ih u e
    omega
/-- of a room that has a parent -/
theorem Gone.iff {ds : List Int} {al : Nat → Bool} {gs : List Nat} {un : Option Nat} {k p : Nat} (h : par ds k = some p) : Gone ds al gs un k ↔ k ∈ next ds al gs p ∧ (un = some p ∨ Gone ds al gs un p) := by
  constructor
  · intro g
    cases g with
    | top => cases h
    | root hk hp =>
      have e := next_par hk
      rw [h] at e
      cases e
      exact ⟨hk, .inl hp⟩
    | low hk hp =>
      have e := next_par hk
      rw [h] at e
      cases e
      exact ⟨hk, .inr hp⟩
  · rintro ⟨a, b⟩
    exact .kid a b
theorem Gone.zero {ds : List Int} {al : Nat → Bool} {gs : List Nat} {un : Option Nat} : Gone ds al gs un 0 ↔ un = none := by
  constructor
  · intro g
    cases un with
    | none => rfl
    | some u => exact absurd (g.over u rfl) (Nat.not_lt_zero _)
  · exact .top
theorem Good.par_some {ds : List Int} (g : Good ds) {k : Nat} (h0 : 0 < k) (h : k < ds.length) : ∃ p, par ds k = some p := by
  cases e : par ds k with
  | some p => exact ⟨p, rfl⟩
  | none =>
    have a := parGo_no e 0 h0
    rw [g.first] at a
    have b := g.next (k - 1) (by omega)
    rw [show k - 1 + 1 = k by omega] at b
    omega
/-! the row of rooms ahead -/
structure Work (ds : List Int) (al : Nat → Bool) (gs : List Nat) (un : Option Nat) (gone ahead : List Nat) : Prop where
  nd : (gone ++ ahead).Nodup
  ok : ∀ x ∈ gone ++ ahead, Gone ds al gs un x
  fr : ∀ x ∈ gone ++ ahead, par ds x = un ∨ ∃ g ∈ gone, par ds x = some g
  st : un = none → 0 ∈ gone ++ ahead
  su : ∀ u, un = some u → ∀ x ∈ next ds al gs u, x ∈ gone ++ ahead
  cl : ∀ g ∈ gone, ∀ x ∈ next ds al gs g, x ∈ gone ++ ahead
theorem nodup_rise {l : List Nat} (h : l.Pairwise (· < ·)) : l.Nodup := h.imp fun z => Nat.ne_of_lt z
theorem Work.none (ds : List Int) (al : Nat → Bool) (gs : List Nat) : Work ds al gs none [] [0] :=
  ⟨by simp, fun x hx => by rw [List.mem_singleton.mp hx]; exact .top rfl, fun x hx => by rw [List.mem_singleton.mp hx]; exact .inl rfl, fun _ => List.mem_singleton.mpr rfl, fun u e => (by cases e), fun g hg => (by cases hg)⟩
theorem Work.some (ds : List Int) (al : Nat → Bool) (gs : List Nat) (u : Nat) : Work ds al gs (some u) [] (next ds al gs u) :=
  ⟨nodup_rise (next_rise ds al gs u), fun x hx => .kid hx (.inl rfl), fun x hx => .inl (next_par hx), fun e => (by cases e), fun v e x hx => by cases e; exact hx, fun g hg => (by cases hg)⟩
theorem Work.step {ds : List Int} {al : Nat → Bool} {gs : List Nat} {un : Option Nat} {gone a : List Nat} {r : Nat} (w : Work ds al gs un gone (a ++ [r])) : Work ds al gs un (gone ++ [r]) (a ++ next ds al gs r) := by
  have gr : Gone ds al gs un r := w.ok r (by simp)
  have sub : ∀ x, x ∈ gone ++ (a ++ [r]) → x ∈ (gone ++ [r]) ++ (a ++ next ds al gs r) := fun x hx => by
    simp only [List.mem_append, List.mem_singleton] at hx ⊢
    rcases hx with h | h | h
    · exact .inl (.inl h)
    · exact .inr (.inl h)
    · exact .inl (.inr h)
  have nr : r ∉ gone := fun z => by
    have := (List.nodup_append.mp w.nd).2.2 r z r (by simp)
    exact this rfl
  have new : ∀ x ∈ next ds al gs r, x ∉ gone ++ (a ++ [r]) := fun x hx z => by
    have e := next_par hx
    rcases w.fr x z with h | ⟨g, hg, h⟩
    · rw [e] at h
      exact absurd (gr.over r h.symm) (Nat.lt_irrefl _)
    · rw [e] at h
      cases h
      exact nr hg
  have p1 : ((gone ++ [r]) ++ (a ++ next ds al gs r)).Perm ((gone ++ (a ++ [r])) ++ next ds al gs r) := by
    rw [List.append_assoc, List.append_assoc]
    refine List.Perm.append_left gone ?_
    rw [← List.append_assoc]
    refine List.Perm.append_right _ ?_
    exact List.perm_append_comm
  refine ⟨?_, fun x hx => ?_, fun x hx => ?_, fun e => sub _ (w.st e), fun u e x hx => sub _ (w.su u e x hx), fun g hg x hx => ?_⟩
  · refine p1.nodup_iff.mpr (List.nodup_append.mpr ⟨w.nd, nodup_rise (next_rise ds al gs r), fun x hx y hy e => ?_⟩)
    subst e
    exact new x hy hx
  · rcases List.mem_append.mp (p1.mem_iff.mp hx) with h | h
    · exact w.ok x h
    · exact .kid h (.inr gr)
  · rcases List.mem_append.mp (p1.mem_iff.mp hx) with h | h
    · rcases w.fr x h with h | ⟨g, hg, h⟩
      · exact .inl h
      · exact .inr ⟨g, List.mem_append_left _ hg, h⟩
    · exact .inr ⟨r, by simp, next_par h⟩
  · rcases List.mem_append.mp hg with h | h
    · exact sub _ (w.cl g h x hx)
    · rw [List.mem_singleton.mp h] at hx
      simp [hx]
theorem Work.done {ds : List Int} {al : Nat → Bool} {gs : List Nat} {un : Option Nat} {gone : List Nat} (w : Work ds al gs un gone []) (k : Nat) : k ∈ gone ↔ Gone ds al gs un k := by
  constructor
  · intro h
    exact w.ok k (by simpa using h)
  · intro h
    induction h with
    | top e => simpa using w.st e
    | root hk hp => simpa using w.su _ hp _ hk
    | low hk _ ih => simpa using w.cl _ ih _ hk
theorem nodup_lt : ∀ (n : Nat) (l : List Nat), l.Nodup → (∀ k ∈ l, k < n) → l.length ≤ n
  | 0, l, _, h => by
    cases l with
    | nil => exact Nat.le_refl _
    | cons x l => exact absurd (h x List.mem_cons_self) (Nat.not_lt_zero _)
  | n + 1, l, hd, h => by
    have e := nodup_lt n (l.filter (· ≠ n)) (hd.filter _) fun k hk => by
      obtain ⟨a, b⟩ := List.mem_filter.mp hk
      have := h k a
      have : k ≠ n := by simpa using b
      omega
    have : l.length ≤ (l.filter (· ≠ n)).length + 1 := by
      clear e h
      induction l with
      | nil => exact Nat.zero_le _
      | cons x l ih =>
        obtain ⟨h1, h2⟩ := List.nodup_cons.mp hd
        by_cases c : x = n
        · subst c
          have : l.filter (· ≠ x) = l := by
            rw [List.filter_eq_self]
            intro a ha
            have : a ≠ x := fun z => h1 (z ▸ ha)
            simpa using this
          rw [List.filter_cons, if_neg (by simp), this]
          exact Nat.le_refl _
        · rw [List.filter_cons, if_pos (by simpa using c), List.length_cons, List.length_cons]
          have := ih h2
          omega
    omega
theorem Work.len {ds : List Int} {al : Nat → Bool} {gs : List Nat} {un : Option Nat} {gone ahead : List Nat} (pos : 0 < ds.length) (w : Work ds al gs un gone ahead) : gone.length + ahead.length ≤ ds.length := by
  rw [← List.length_append]
  exact nodup_lt _ _ w.nd fun k hk => (w.ok k hk).lt pos
/-- what is gone into, rising -/
def Ins (ds : List Int) (al : Nat → Bool) (gs : List Nat) (un : Option Nat) (os : List Nat) : Prop := os.Pairwise (· < ·) ∧ ∀ k, k ∈ os ↔ Gone ds al gs un k
theorem Ins.unique {ds : List Int} {al : Nat → Bool} {gs : List Nat} {un : Option Nat} {a b : List Nat} (h1 : Ins ds al gs un a) (h2 : Ins ds al gs un b) : a = b :=
  L2.rise_unique a b h1.1 h2.1 fun k => (h1.2 k).trans (h2.2 k).symm
theorem Ins.lt {ds : List Int} {al : Nat → Bool} {gs : List Nat} {un : Option Nat} {os : List Nat} (pos : 0 < ds.length) (h : Ins ds al gs un os) : ∀ o ∈ os, o < ds.length := fun o ho => ((h.2 o).mp ho).lt pos
theorem Ins.len {ds : List Int} {al : Nat → Bool} {gs : List Nat} {un : Option Nat} {os : List Nat} (pos : 0 < ds.length) (h : Ins ds al gs un os) : os.length ≤ ds.length := nodup_lt _ _ (nodup_rise h.1) (h.lt pos)
/-- the kid that is gone into in a room of the kind one -/
def pick (ds : List Int) (gs : List Nat) (p : Nat) : Nat := match (kids ds p).find? (bears ds gs) with
  | some k => k
  | none => (kids ds p).headD 0
theorem next_one {ds : List Int} {al : Nat → Bool} {gs : List Nat} {p k : Nat} (h : al p = false) (hk : k ∈ kids ds p) : next ds al gs p = [pick ds gs p] := by
  unfold next pick
  rw [if_neg (by rw [h]; exact Bool.false_ne_true)]
  cases e : (kids ds p).find? (bears ds gs) with
  | some j => rfl
  | none =>
    show (kids ds p).take 1 = [(kids ds p).headD 0]
    cases e2 : kids ds p with
    | nil => rw [e2] at hk; cases hk
    | cons x l => rfl
theorem next_all {ds : List Int} {al : Nat → Bool} {gs : List Nat} {p : Nat} (h : al p = true) : next ds al gs p = kids ds p := by
  unfold next
  rw [if_pos h]
theorem pick_mem {ds : List Int} {gs : List Nat} {p k : Nat} (hk : k ∈ kids ds p) : pick ds gs p ∈ kids ds p := by
  unfold pick
  cases e : (kids ds p).find? (bears ds gs) with
  | some j => exact List.mem_of_find?_eq_some e
  | none =>
    show (kids ds p).headD 0 ∈ kids ds p
    cases e2 : kids ds p with
    | nil => rw [e2] at hk; cases hk
    | cons x l => exact List.mem_cons_self
/-! full openings -/
def want (ds : List Int) (on al : Nat → Bool) (os : List Nat) (r : Nat) : Nat := if (decide (r ∈ os) && al r) = true then (kids ds r).length else if (decide (r ∈ os) && on r) = true then 1 else 0
def openKids (ds : List Int) (os : List Nat) (r : Nat) : List Nat := (kids ds r).filter fun k => decide (k ∈ os)
def FullB (ds : List Int) (on al : Nat → Bool) (os : List Nat) : Prop := os.Pairwise (· < ·) ∧ (∀ r, r < ds.length → (openKids ds os r).length = want ds on al os r) ∧ 0 ∈ os
theorem mem_open {ds : List Int} {os : List Nat} {r k : Nat} : k ∈ openKids ds os r ↔ k ∈ kids ds r ∧ k ∈ os := by
  unfold openKids
  rw [List.mem_filter, decide_eq_true_iff]
theorem one_of {l : List Nat} (h : l.length = 1) {a b : Nat} (ha : a ∈ l) (hb : b ∈ l) : a = b := by
  match l, h with
  | [x], _ => rw [List.mem_singleton.mp ha, List.mem_singleton.mp hb]
/-- a full opening holds the parents of its rooms -/
theorem FullB.up {ds : List Int} {on al : Nat → Bool} {os : List Nat} (f : FullB ds on al os) (lt : ∀ o ∈ os, o < ds.length) {k p : Nat} (hk : k ∈ os) (h : par ds k = some p) : p ∈ os := by
  have hl := lt k hk
  have hp := par_lt h
  have c := f.2.1 p (by omega)
  have m : k ∈ openKids ds os p := mem_open.mpr ⟨mem_kids.mpr ⟨hl, h⟩, hk⟩
  have pos : 0 < (openKids ds os p).length := List.length_pos_of_mem m
  rw [c] at pos
  unfold want at pos
  by_cases q : p ∈ os
  · exact q
  · rw [decide_eq_false q, Bool.false_and, Bool.false_and, if_neg Bool.false_ne_true, if_neg Bool.false_ne_true] at pos
    exact absurd pos (Nat.lt_irrefl _)
theorem FullB.ups {ds : List Int} {on al : Nat → Bool} {os : List Nat} (f : FullB ds on al os) (lt : ∀ o ∈ os, o < ds.length) : ∀ (k : Nat), k ∈ os → ∀ x, x ∈ ups ds k → x ∈ os := by
  intro k
  induction k using Nat.strongRecOn with
  | ind k ih =>
    intro hk x hx
    cases e : par ds k with
    | none =>
      rw [ups_none e] at hx
      cases hx
    | some p =>
      rw [ups_some e] at hx
      have hp := f.up lt hk e
      rcases List.mem_cons.mp hx with rfl | h
      · exact hp
      · exact ih p (par_lt e) hp x h
theorem FullB.bears {ds : List Int} {on al : Nat → Bool} {os : List Nat} (f : FullB ds on al os) (lt : ∀ o ∈ os, o < ds.length) (k : Nat) : bears ds os k = decide (k ∈ os) := by
  rw [Bool.eq_iff_iff, decide_eq_true_iff]
  unfold Tr.bears
  rw [List.any_eq_true]
  constructor
  · rintro ⟨g, hg, e⟩
    rw [Bool.or_eq_true] at e
    rcases e with e | e
    · rw [← eq_of_beq e]
      exact hg
    · unfold liesIn at e
      exact f.ups lt g hg k (List.contains_iff_mem.mp e)
  · intro h
    exact ⟨k, h, by rw [beq_self_eq_true, Bool.true_or]⟩
theorem find_filter {f : Nat → Bool} : ∀ (l : List Nat), l.find? f = (l.filter f).head?
  | [] => rfl
  | x :: l => by
    rw [List.find?_cons, List.filter_cons]
    cases e : f x with
    | true => simp
    | false => simpa using find_filter l
/-- beneath an open room of a full opening -/
theorem FullB.next {ds : List Int} {on al : Nat → Bool} {os : List Nat} (f : FullB ds on al os) (lt : ∀ o ∈ os, o < ds.length) {p : Nat} (hp : p ∈ os) (ha : al p = true ∨ on p = true) : next ds al os p = openKids ds os p := by
  have c := f.2.1 p (lt p hp)
  unfold want at c
  rw [decide_eq_true hp, Bool.true_and, Bool.true_and] at c
  cases e : al p with
  | true =>
    rw [e, if_pos rfl] at c
    rw [next_all e]
    unfold openKids at c ⊢
    exact (List.filter_eq_self.mpr (List.length_filter_eq_length_iff.mp c)).symm
  | false =>
    have o : on p = true := by
      rcases ha with h | h
      · rw [e] at h
        cases h
      · exact h
    rw [e, if_neg Bool.false_ne_true, o, if_pos rfl] at c
    unfold Tr.next
    rw [if_neg (by rw [e]; exact Bool.false_ne_true), find_filter]
    have eq : (kids ds p).filter (Tr.bears ds os) = openKids ds os p := by
      unfold openKids
      congr 1
      funext k
      exact f.bears lt k
    rw [eq]
    match openKids ds os p, c with
    | [x], _ => rfl
theorem full_ins {ds : List Int} (g : Good ds) {on al : Nat → Bool} {os : List Nat} (lt : ∀ o ∈ os, o < ds.length) (fit : ∀ k p, k < ds.length → par ds k = some p → (al p = true ∨ on p = true)) (hon : ∀ p, on p = true → kids ds p ≠ []) : FullB ds on al os ↔ Ins ds al os none os := by
  constructor
  · intro f
    refine ⟨f.1, fun k => ?_⟩
    induction k using Nat.strongRecOn with
    | ind k ih =>
      by_cases k0 : k = 0
      · subst k0
        exact ⟨fun _ => .top rfl, fun _ => f.2.2⟩
      by_cases kl : k < ds.length
      · obtain ⟨p, hp⟩ := g.par_some (by omega : 0 < k) kl
        have pl := par_lt hp
        rw [Gone.iff hp]
        constructor
        · intro hk
          have po := f.up lt hk hp
          refine ⟨?_, .inr ((ih p pl).mp po)⟩
          rw [f.next lt po (fit k p kl hp)]
          exact mem_open.mpr ⟨mem_kids.mpr ⟨kl, hp⟩, hk⟩
        · rintro ⟨h1, h2 | h2⟩
          · cases h2
          · have po := (ih p pl).mpr h2
            rw [f.next lt po (fit k p kl hp)] at h1
            exact (mem_open.mp h1).2
      · exact ⟨fun h => absurd (lt k h) kl, fun h => absurd (h.lt g.pos) kl⟩
  · rintro ⟨h1, h2⟩
    refine ⟨h1, fun r hr => ?_, (h2 0).mpr (.top rfl)⟩
    have mo : ∀ k, k ∈ openKids ds os r ↔ (k ∈ Tr.next ds al os r ∧ r ∈ os) := fun k => by
      rw [mem_open, h2 k, h2 r]
      constructor
      · rintro ⟨a, b⟩
        have e := (mem_kids.mp a).2
        rw [Gone.iff e] at b
        rcases b with ⟨b1, b2 | b2⟩
        · cases b2
        · exact ⟨b1, b2⟩
      · rintro ⟨a, b⟩
        exact ⟨next_sub a, .kid a (.inr b)⟩
    unfold want
    by_cases ro : r ∈ os
    · have eq : openKids ds os r = Tr.next ds al os r := by
        refine L2.rise_unique _ _ ?_ (next_rise _ _ _ _) fun k => by rw [mo k]; exact ⟨fun h => h.1, fun h => ⟨h, ro⟩⟩
        unfold openKids
        exact (kids_rise ds r).filter _
      rw [decide_eq_true ro, Bool.true_and, Bool.true_and, eq]
      cases e : al r with
      | true => rw [if_pos rfl, next_all e]
      | false =>
        rw [if_neg Bool.false_ne_true]
        cases hk : kids ds r with
        | nil =>
          have nn : Tr.next ds al os r = [] := by
            cases e2 : Tr.next ds al os r with
            | nil => rfl
            | cons x l =>
              have : x ∈ kids ds r := next_sub (al := al) (gs := os) (by rw [e2]; exact List.mem_cons_self)
              rw [hk] at this
              cases this
          rw [nn]
          cases e3 : on r with
          | false => rfl
          | true => exact absurd hk (hon r e3)
        | cons x l =>
          have hx' : x ∈ kids ds r := by rw [hk]; exact List.mem_cons_self
          rw [next_one e hx']
          rcases fit x r (mem_kids.mp hx').1 (mem_kids.mp hx').2 with h | h
          · rw [e] at h
            cases h
          · rw [h]
            rfl
    · have eq : openKids ds os r = [] := by
        cases e2 : openKids ds os r with
        | nil => rfl
        | cons x l =>
          have := (mo x).mp (by rw [e2]; exact List.mem_cons_self)
          exact absurd this.2 ro
      rw [eq, decide_eq_false ro, Bool.false_and, Bool.false_and, if_neg Bool.false_ne_true, if_neg Bool.false_ne_true]
      rfl
end Tr

namespace Tr
/-! an opening that is made room by room; out and in -/
theorem filter_one : ∀ (l : List Nat) (x : Nat), l.Pairwise (· < ·) → x ∈ l → (l.filter fun k => decide (x = k)).length = 1
  | [], x, _, h => (by cases h)
  | y :: l, x, hp, h => by
    obtain ⟨h1, h2⟩ := List.pairwise_cons.mp hp
    rw [List.filter_cons]
    by_cases c : x = y
    · subst c
      rw [if_pos (by simp), List.length_cons, List.filter_eq_nil_iff.mpr fun k hk => by
        have := h1 k hk
        have : x ≠ k := by omega
        simpa using this]
      rfl
    · rw [if_neg (by simpa using c)]
      rcases List.mem_cons.mp h with e | e
      · exact absurd e c
      · exact filter_one l x h2 e
theorem sel_full {ds : List Int} {on al : Nat → Bool} {os : List Nat} {sel : Nat → Nat} (rise : os.Pairwise (· < ·)) (h0 : 0 ∈ os)
    (char : ∀ k p, k < ds.length → par ds k = some p → (k ∈ os ↔ (p ∈ os ∧ (al p = true ∨ sel p = k)))) (hsel : ∀ p, kids ds p ≠ [] → sel p ∈ kids ds p)
    (fit : ∀ k p, k < ds.length → par ds k = some p → (al p = true ∨ on p = true)) (hon : ∀ p, on p = true → kids ds p ≠ []) : FullB ds on al os := by
  refine ⟨rise, fun r hr => ?_, h0⟩
  have mk : ∀ k ∈ kids ds r, (k ∈ os ↔ (r ∈ os ∧ (al r = true ∨ sel r = k))) := fun k hk => char k r (mem_kids.mp hk).1 (mem_kids.mp hk).2
  unfold openKids want
  by_cases ro : r ∈ os
  · rw [decide_eq_true ro, Bool.true_and, Bool.true_and]
    cases e : al r with
    | true =>
      rw [if_pos rfl, List.filter_eq_self.mpr fun k hk => decide_eq_true ((mk k hk).mpr ⟨ro, .inl e⟩)]
    | false =>
      rw [if_neg Bool.false_ne_true]
      have ef : (kids ds r).filter (fun k => decide (k ∈ os)) = (kids ds r).filter fun k => decide (sel r = k) := by
        refine List.filter_congr fun k hk => decide_eq_decide.mpr ?_
        rw [mk k hk]
        constructor
        · rintro ⟨_, h | h⟩
          · rw [e] at h
            cases h
          · exact h
        · intro h
          exact ⟨ro, .inr h⟩
      rw [ef]
      by_cases hk : kids ds r = []
      · cases e3 : on r with
        | true => exact absurd hk (hon r e3)
        | false =>
          rw [hk]
          rfl
      · have hm := hsel r hk
        rw [filter_one _ _ (kids_rise ds r) hm]
        rcases fit (sel r) r (mem_kids.mp hm).1 (mem_kids.mp hm).2 with h | h
        · rw [e] at h
          cases h
        · rw [h]
          rfl
  · rw [decide_eq_false ro, Bool.false_and, Bool.false_and, if_neg Bool.false_ne_true, if_neg Bool.false_ne_true, List.filter_eq_nil_iff.mpr fun k hk => by
      intro z
      exact ro ((mk k hk).mp (of_decide_eq_true z)).1]
    rfl
/-- whether a room lies in the one that is gone out of; in all of them from outside -/
def under (ds : List Int) (k : Nat) : Option Nat → Bool
  | none => true
  | some u => liesIn ds k u
theorem under_kid {ds : List Int} {un : Option Nat} {k p : Nat} (h : par ds k = some p) (hu : un = some p ∨ under ds p un = true) : under ds k un = true := by
  cases un with
  | none => rfl
  | some u =>
    show liesIn ds k u = true
    rw [liesIn_some h, Bool.or_eq_true]
    rcases hu with e | e
    · injection e with e
      left
      rw [e]
      exact beq_self_eq_true _
    · exact .inr e
theorem under_par {ds : List Int} {un : Option Nat} {k p : Nat} (h : par ds k = some p) (hu : under ds k un = true) : un = some p ∨ under ds p un = true := by
  cases un with
  | none => exact .inr rfl
  | some u =>
    have hu' : liesIn ds k u = true := hu
    rw [liesIn_some h, Bool.or_eq_true] at hu'
    rcases hu' with e | e
    · left
      rw [eq_of_beq e]
    · exact .inr e
theorem Gone.under {ds : List Int} {al : Nat → Bool} {gs : List Nat} {un : Option Nat} {k : Nat} (h : Gone ds al gs un k) : under ds k un = true := by
  induction h with
  | top e =>
    subst e
    rfl
  | root hk hp => exact under_kid (next_par hk) (.inl hp)
  | low hk _ ih => exact under_kid (next_par hk) (.inr ih)
theorem not_under_self {ds : List Int} {u : Nat} : under ds u (some u) = false := by
  show liesIn ds u u = false
  unfold liesIn
  rw [Bool.eq_false_iff]
  intro z
  exact Nat.lt_irrefl _ (ups_lt (List.contains_iff_mem.mp z))
/-- the opening that stands behind goings out and goings in -/
theorem step_full {ds : List Int} (g : Good ds) {on al : Nat → Bool} {os fs ms gs : List Nat} {un : Option Nat} (f : FullB ds on al os) (lt : ∀ o ∈ os, o < ds.length) (hun : ∀ u, un = some u → u ∈ os)
    (fit : ∀ k p, k < ds.length → par ds k = some p → (al p = true ∨ on p = true)) (hon : ∀ p, on p = true → kids ds p ≠ []) (ins : Ins ds al gs un fs) (rise : ms.Pairwise (· < ·))
    (hm : ∀ k, k ∈ ms ↔ ((k ∈ os ∧ under ds k un = false) ∨ k ∈ fs)) : FullB ds on al ms := by
  refine ⟨rise, fun r hr => ?_, ?_⟩
  · by_cases c : un = some r ∨ under ds r un = true
    · -- r is the room itself or lies in it
      have rm : r ∈ ms ↔ (un = some r ∨ Gone ds al gs un r) := by
        rw [hm r, ins.2 r]
        constructor
        · rintro (⟨h1, h2⟩ | h)
          · rcases c with c | c
            · exact .inl c
            · rw [h2] at c
              cases c
          · exact .inr h
        · rintro (h | h)
          · subst h
            exact .inl ⟨hun r rfl, not_under_self⟩
          · exact .inr h
      have km : ∀ k ∈ kids ds r, (k ∈ ms ↔ (k ∈ Tr.next ds al gs r ∧ r ∈ ms)) := fun k hk => by
        have hp := (mem_kids.mp hk).2
        have uk := under_kid hp c
        rw [hm k, ins.2 k, rm, Gone.iff hp]
        constructor
        · rintro (⟨_, h⟩ | h)
          · rw [uk] at h
            cases h
          · exact h
        · intro h
          exact .inr h
      unfold openKids want
      by_cases ro : r ∈ ms
      · have eq : (kids ds r).filter (fun k => decide (k ∈ ms)) = Tr.next ds al gs r := by
          refine L2.rise_unique _ _ ((kids_rise ds r).filter _) (next_rise _ _ _ _) fun k => ?_
          rw [List.mem_filter, decide_eq_true_iff]
          exact ⟨fun h => ((km k h.1).mp h.2).1, fun h => ⟨next_sub h, (km k (next_sub h)).mpr ⟨h, ro⟩⟩⟩
        rw [eq, decide_eq_true ro, Bool.true_and, Bool.true_and]
        cases e : al r with
        | true => rw [if_pos rfl, next_all e]
        | false =>
          rw [if_neg Bool.false_ne_true]
          cases hk : kids ds r with
          | nil =>
            have nn : Tr.next ds al gs r = [] := by
              cases e2 : Tr.next ds al gs r with
              | nil => rfl
              | cons x l =>
                have : x ∈ kids ds r := next_sub (al := al) (gs := gs) (by rw [e2]; exact List.mem_cons_self)
                rw [hk] at this
                cases this
            rw [nn]
            cases e3 : on r with
            | false => rfl
            | true => exact absurd hk (hon r e3)
          | cons x l =>
            have hx' : x ∈ kids ds r := by rw [hk]; exact List.mem_cons_self
            rw [next_one e hx']
            rcases fit x r (mem_kids.mp hx').1 (mem_kids.mp hx').2 with h | h
            · rw [e] at h
              cases h
            · rw [h]
              rfl
      · rw [decide_eq_false ro, Bool.false_and, Bool.false_and, if_neg Bool.false_ne_true, if_neg Bool.false_ne_true, List.filter_eq_nil_iff.mpr fun k hk => by
          intro z
          exact ro ((km k hk).mp (of_decide_eq_true z)).2]
        rfl
    · -- elsewhere all is as it was
      have same : ∀ k, (k = r ∨ k ∈ kids ds r) → (k ∈ ms ↔ k ∈ os) := fun k hk => by
        have uk : under ds k un = false := by
          rw [Bool.eq_false_iff]
          intro z
          rcases hk with e | hk
          · subst e
            exact c (.inr z)
          · exact c (under_par (mem_kids.mp hk).2 z)
        rw [hm k]
        constructor
        · rintro (h | h)
          · exact h.1
          · have := ((ins.2 k).mp h).under
            rw [uk] at this
            cases this
        · intro h
          exact .inl ⟨h, uk⟩
      have q := f.2.1 r hr
      unfold openKids want at q ⊢
      rw [decide_eq_decide.mpr (same r (.inl rfl)), List.filter_congr fun k hk => decide_eq_decide.mpr (same k (.inr hk))]
      exact q
  · rw [hm 0, ins.2 0, Gone.zero]
    cases un with
    | none => exact .inr rfl
    | some u =>
      left
      refine ⟨f.2.2, ?_⟩
      show liesIn ds 0 u = false
      exact liesIn_none rfl
end Tr

namespace Tr
/-! the open kid is the least of the open rooms that lie in its parent -/
theorem lies_kid {ds : List Int} {r : Nat} : ∀ (x : Nat), liesIn ds x r = true → ∃ c, par ds c = some r ∧ (c = x ∨ c ∈ ups ds x) := by
  intro x
  induction x using Nat.strongRecOn with
  | ind x ih =>
    intro h
    cases e : par ds x with
    | none =>
      rw [liesIn_none e] at h
      cases h
    | some j =>
      rw [liesIn_some e, Bool.or_eq_true] at h
      rcases h with h | h
      · rw [eq_of_beq h] at e
        exact ⟨x, e, .inl rfl⟩
      · obtain ⟨c, hc, hx⟩ := ih j (par_lt e) h
        refine ⟨c, hc, .inr ?_⟩
        rw [ups_some e]
        rcases hx with hx | hx
        · rw [hx]
          exact List.mem_cons_self
        · exact List.mem_cons_of_mem _ hx
theorem near_kept {ds : List Int} {on al : Nat → Bool} {os : List Nat} {r : Nat} (f : FullB ds on al os) (lt : ∀ o ∈ os, o < ds.length) (ro : r ∈ os) (ho : on r = true) (ha : al r = false) :
    (os.filter fun o => liesIn ds o r).take 1 = os.filter fun o => par ds o == some r := by
  have c := f.2.1 r (lt r ro)
  unfold want at c
  rw [decide_eq_true ro, Bool.true_and, Bool.true_and, ha, if_neg Bool.false_ne_true, ho, if_pos rfl] at c
  obtain ⟨k, hk⟩ : ∃ k, openKids ds os r = [k] := by
    match openKids ds os r, c with
    | [x], _ => exact ⟨x, rfl⟩
  have km : ∀ x, (x ∈ os ∧ par ds x = some r) ↔ x = k := fun x => by
    have : x ∈ openKids ds os r ↔ x = k := by rw [hk, List.mem_singleton]
    rw [← this, mem_open, mem_kids]
    exact ⟨fun ⟨a, b⟩ => ⟨⟨lt x a, b⟩, a⟩, fun ⟨⟨_, b⟩, a⟩ => ⟨a, b⟩⟩
  obtain ⟨ko, kp⟩ := (km k).mpr rfl
  have e1 : (os.filter fun o => par ds o == some r) = [k] := by
    refine L2.rise_unique _ _ (f.1.filter _) (List.pairwise_singleton _ _) fun x => ?_
    rw [List.mem_filter, List.mem_singleton, ← km x]
    exact ⟨fun ⟨a, b⟩ => ⟨a, eq_of_beq b⟩, fun ⟨a, b⟩ => ⟨a, by rw [b]; exact beq_self_eq_true _⟩⟩
  rw [e1]
  have kl : k ∈ os.filter fun o => liesIn ds o r := by
    rw [List.mem_filter]
    refine ⟨ko, ?_⟩
    rw [liesIn_some kp, beq_self_eq_true, Bool.true_or]
  have low : ∀ x ∈ os.filter (fun o => liesIn ds o r), k ≤ x := fun x hx => by
    obtain ⟨xo, xl⟩ := List.mem_filter.mp hx
    obtain ⟨c, hc, h⟩ := lies_kid x xl
    rcases h with h | h
    · subst h
      rw [(km c).mp ⟨xo, hc⟩]
      exact Nat.le_refl _
    · have := (km c).mp ⟨f.ups lt x xo c h, hc⟩
      have := ups_lt h
      omega
  have rise := f.1.filter fun o => liesIn ds o r
  generalize (os.filter fun o => liesIn ds o r) = L at kl low rise
  cases L with
  | nil => cases kl
  | cons y l =>
    have a := low y List.mem_cons_self
    rcases List.mem_cons.mp kl with e | e
    · rw [e]
      rfl
    · have := (List.pairwise_cons.mp rise).1 k e
      omega
end Tr

namespace Tr
/-! what is kept leads back -/
theorem ups_trans {ds : List Int} {a b c : Nat} (h1 : b ∈ ups ds a) (h2 : c ∈ ups ds b) : c ∈ ups ds a := by
  rw [mem_ups] at h1 h2 ⊢
  refine ⟨by omega, fun j j1 j2 => ?_⟩
  by_cases q : j ≤ b
  · exact h2.2 j j1 q
  · have := h1.2 j (by omega) j2
    have := h2.2 b h2.1 (Nat.le_refl _)
    omega
theorem lies_iff {ds : List Int} {a b : Nat} : liesIn ds a b = true ↔ b ∈ ups ds a := by
  unfold liesIn
  exact List.contains_iff_mem
theorem lies_par {ds : List Int} {a p : Nat} (h : par ds a = some p) : liesIn ds a p = true := by
  rw [lies_iff, ups_some h]
  exact List.mem_cons_self
theorem lies_trans {ds : List Int} {a b c : Nat} (h1 : liesIn ds a b = true) (h2 : liesIn ds b c = true) : liesIn ds a c = true := by
  rw [lies_iff] at *
  exact ups_trans h1 h2
theorem lies_lt {ds : List Int} {a b : Nat} (h : liesIn ds a b = true) : b < a := ups_lt (lies_iff.mp h)
/-- one kid alone bears it -/
theorem kid_unique {ds : List Int} {p a c x : Nat} (ha : par ds a = some p) (hc : par ds c = some p) (xa : x = a ∨ liesIn ds x a = true) (xc : x = c ∨ liesIn ds x c = true) : a = c := by
  have aux : ∀ {a c : Nat}, par ds a = some p → par ds c = some p → (x = a ∨ liesIn ds x a = true) → (x = c ∨ liesIn ds x c = true) → ¬ a < c := by
    intro a c ha hc xa xc lt
    have cx : c ≤ x := by
      rcases xc with h | h
      · omega
      · have := lies_lt h
        omega
    have al : a ∈ ups ds x := by
      rcases xa with h | h
      · omega
      · exact lies_iff.mp h
    have h1 := (mem_ups x a).mp al
    have h2 := h1.2 c lt cx
    have h3 := (par_iff.mp hc).2.2 a (par_lt ha) lt
    omega
  have h1 := aux ha hc xa xc
  have h2 := aux hc ha xc xa
  omega
theorem plain_below {ds : List Int} {on al pl : Nat → Bool} {os : List Nat} (f : FullB ds on al os) (lt : ∀ o ∈ os, o < ds.length) (fit : ∀ k p, k < ds.length → par ds k = some p → (al p = true ∨ on p = true)) (hpl : ∀ c, c < ds.length → kids ds c = [] → pl c = true) :
    ∀ (m c : Nat), ds.length - c ≤ m → c ∈ os → ∃ x ∈ os, pl x = true ∧ (x = c ∨ liesIn ds x c = true) := by
  intro m
  induction m with
  | zero =>
    intro c h hc
    have := lt c hc
    omega
  | succ m ih =>
    intro c h hc
    have cl := lt c hc
    cases hk : kids ds c with
    | nil => exact ⟨c, hc, hpl c cl hk, .inl rfl⟩
    | cons y l =>
      have hy : y ∈ kids ds c := by rw [hk]; exact List.mem_cons_self
      have q := f.2.1 c cl
      have ne : 0 < (openKids ds os c).length := by
        rw [q]
        unfold want
        rw [decide_eq_true hc, Bool.true_and, Bool.true_and]
        cases e : al c with
        | true =>
          rw [if_pos rfl, hk]
          simp
        | false =>
          rcases fit y c (mem_kids.mp hy).1 (mem_kids.mp hy).2 with z | z
          · rw [e] at z
            cases z
          · rw [z, if_neg Bool.false_ne_true, if_pos rfl]
            decide
      obtain ⟨k, hko⟩ := List.exists_mem_of_length_pos ne
      obtain ⟨hkk, ko⟩ := mem_open.mp hko
      have kp := (mem_kids.mp hkk).2
      have := par_lt kp
      obtain ⟨x, xo, xp, xb⟩ := ih k (by omega) ko
      refine ⟨x, xo, xp, .inr ?_⟩
      rcases xb with e | e
      · rw [e]
        exact lies_par kp
      · exact lies_trans e (lies_par kp)
/-- goals that all lie in a room lead to it -/
theorem reach {ds : List Int} (gd : Good ds) {al : Nat → Bool} {gs : List Nat} {room : Nat} {un : Option Nat} (rl : room < ds.length) (ne : gs ≠ []) (gl : ∀ g ∈ gs, liesIn ds g room = true) :
    ∀ a : Nat, (room = a ∨ liesIn ds room a = true) → (∀ u, un = some u → liesIn ds a u = true) → Gone ds al gs un a := by
  intro a
  induction a using Nat.strongRecOn with
  | ind a ih =>
    intro hb hu
    have ale : a ≤ room := by
      rcases hb with h | h
      · omega
      · have := lies_lt h
        omega
    have ga : ∀ g ∈ gs, liesIn ds g a = true := fun g hg => by
      rcases hb with h | h
      · rw [← h]
        exact gl g hg
      · exact lies_trans (gl g hg) h
    cases e : par ds a with
    | none =>
      have un0 : un = none := by
        cases un with
        | none => rfl
        | some u =>
          have := hu u rfl
          rw [liesIn_none e] at this
          cases this
      subst un0
      by_cases a0 : a = 0
      · subst a0
        exact .top rfl
      · exfalso
        obtain ⟨p, hp⟩ := gd.par_some (by omega : 0 < a) (by omega)
        rw [e] at hp
        cases hp
    | some p =>
      have pa := par_lt e
      have ak : a ∈ kids ds p := mem_kids.mpr ⟨by omega, e⟩
      refine (Gone.iff e).mpr ⟨?_, ?_⟩
      · cases ha : al p with
        | true =>
          rw [next_all ha]
          exact ak
        | false =>
          rw [next_one ha ak, List.mem_singleton]
          have ba : bears ds gs a = true := by
            obtain ⟨g, hg⟩ := List.exists_mem_of_ne_nil gs ne
            unfold bears
            rw [List.any_eq_true]
            exact ⟨g, hg, by rw [ga g hg, Bool.or_true]⟩
          unfold pick
          cases ef : (kids ds p).find? (bears ds gs) with
          | none => exact absurd ba (by simpa using List.find?_eq_none.mp ef a ak)
          | some c =>
            have ck := List.mem_of_find?_eq_some ef
            have cb := List.find?_some ef
            unfold bears at cb
            rw [List.any_eq_true] at cb
            obtain ⟨g, hg, e2⟩ := cb
            rw [Bool.or_eq_true] at e2
            exact kid_unique e (mem_kids.mp ck).2 (.inr (ga g hg)) (e2.imp (fun z => eq_of_beq z) id)
      · have hbp : room = p ∨ liesIn ds room p = true := by
          right
          rcases hb with h | h
          · rw [h]
            exact lies_par e
          · exact lies_trans h (lies_par e)
        by_cases c : un = some p
        · exact .inl c
        · refine .inr (ih p pa hbp fun u hu' => ?_)
          have := hu u hu'
          rw [liesIn_some e, Bool.or_eq_true] at this
          rcases this with z | z
          · rw [eq_of_beq z] at c
            exact absurd hu' c
          · exact z
/-- of a room that keeps deep just the same rooms are gone into -/
theorem deep_same {ds : List Int} {on al pl : Nat → Bool} {os gs : List Nat} {room : Nat} {un : Option Nat} (f : FullB ds on al os) (lt : ∀ o ∈ os, o < ds.length) (fit : ∀ k p, k < ds.length → par ds k = some p → (al p = true ∨ on p = true)) (hpl : ∀ c, c < ds.length → kids ds c = [] → pl c = true)
    (ro : room ∈ os) (hg : ∀ g, g ∈ gs ↔ (g ∈ os ∧ liesIn ds g room = true ∧ pl g = true)) (hR : un = some room ∨ Gone ds al gs un room) (hun : ∀ u, un = some u → u ≤ room) :
    ∀ k : Nat, k < ds.length → liesIn ds k room = true → (Gone ds al gs un k ↔ k ∈ os) := by
  intro k
  induction k using Nat.strongRecOn with
  | ind k ih =>
    intro kl hk
    cases e : par ds k with
    | none =>
      rw [liesIn_none e] at hk
      cases hk
    | some p =>
      have pk := par_lt e
      have kk : k ∈ kids ds p := mem_kids.mpr ⟨kl, e⟩
      have hp : p = room ∨ liesIn ds p room = true := by
        rw [liesIn_some e, Bool.or_eq_true] at hk
        exact hk.imp (fun z => eq_of_beq z) id
      have P : (un = some p ∨ Gone ds al gs un p) ↔ p ∈ os := by
        rcases hp with h | h
        · rw [h]
          exact ⟨fun _ => ro, fun _ => hR⟩
        · rw [← ih p pk (by omega) h]
          refine ⟨fun z => z.elim (fun z => ?_) id, .inr⟩
          have := hun p z
          have := lies_lt h
          omega
      rw [Gone.iff e, P]
      by_cases po : p ∈ os
      · have nx : Tr.next ds al gs p = openKids ds os p := by
          have c := f.2.1 p (lt p po)
          unfold want at c
          rw [decide_eq_true po, Bool.true_and, Bool.true_and] at c
          cases ha : al p with
          | true =>
            rw [ha, if_pos rfl] at c
            rw [next_all ha]
            unfold openKids at c ⊢
            exact (List.filter_eq_self.mpr (List.length_filter_eq_length_iff.mp c)).symm
          | false =>
            have o : on p = true := by
              rcases fit k p kl e with h | h
              · rw [ha] at h
                cases h
              · exact h
            rw [ha, if_neg Bool.false_ne_true, o, if_pos rfl] at c
            unfold Tr.next
            rw [if_neg (by rw [ha]; exact Bool.false_ne_true), find_filter]
            have eq : (kids ds p).filter (Tr.bears ds gs) = openKids ds os p := by
              unfold openKids
              refine List.filter_congr fun c hc => ?_
              have cp := (mem_kids.mp hc).2
              have cr : liesIn ds c room = true := by
                rcases hp with h | h
                · rw [← h]
                  exact lies_par cp
                · exact lies_trans (lies_par cp) h
              rw [Bool.eq_iff_iff, decide_eq_true_iff]
              unfold Tr.bears
              rw [List.any_eq_true]
              constructor
              · rintro ⟨g, hgg, eb⟩
                have go := ((hg g).mp hgg).1
                rw [Bool.or_eq_true] at eb
                rcases eb with eb | eb
                · rw [← eq_of_beq eb]
                  exact go
                · exact f.ups lt g go c (lies_iff.mp eb)
              · intro co
                obtain ⟨x, xo, xp, xb⟩ := plain_below f lt fit hpl ds.length c (by omega) co
                refine ⟨x, (hg x).mpr ⟨xo, ?_, xp⟩, ?_⟩
                · rcases xb with h | h
                  · rw [h]
                    exact cr
                  · exact lies_trans h cr
                · rw [Bool.or_eq_true]
                  rcases xb with h | h
                  · left
                    rw [h]
                    exact beq_self_eq_true _
                  · exact .inr h
            rw [eq]
            match openKids ds os p, c with
            | [x], _ => rfl
        rw [nx, mem_open]
        exact ⟨fun z => z.1.2, fun z => ⟨⟨kk, z⟩, po⟩⟩
      · exact ⟨fun z => absurd z.2 po, fun z => absurd (f.up lt z e) po⟩
theorem first_kid {ds : List Int} {p k : Nat} (hk : k ∈ kids ds p) : (kids ds p).take 1 = [p + 1] := by
  obtain ⟨kl, kp⟩ := mem_kids.mp hk
  obtain ⟨h1, h2, h3⟩ := par_iff.mp kp
  have pm : p + 1 ∈ kids ds p := by
    refine mem_kids.mpr ⟨by omega, par_iff.mpr ⟨by omega, ?_, fun i a b => by omega⟩⟩
    by_cases q : k = p + 1
    · rw [← q]
      exact h2
    · have := h3 (p + 1) (by omega) (by omega)
      omega
  have rise := kids_rise ds p
  have low : ∀ x ∈ kids ds p, p + 1 ≤ x := fun x hx => by
    have := par_lt (mem_kids.mp hx).2
    omega
  generalize kids ds p = L at pm rise low
  cases L with
  | nil => cases pm
  | cons y l =>
    have a := low y List.mem_cons_self
    rcases List.mem_cons.mp pm with e | e
    · rw [← e]
      rfl
    · have := (List.pairwise_cons.mp rise).1 _ e
      omega
/-- of a room that keeps near its kid, and beneath this the first kids and all kids -/
theorem near_same {ds : List Int} {al : Nat → Bool} {fl : List Nat} {room kid : Nat} {un : Option Nat} (kl' : kid < ds.length) (kp : par ds kid = some room) (ha : al room = false)
    (lo : ∀ x ∈ fl, kid ≤ x) (ki : kid ∈ fl) (char : ∀ k p, k < ds.length → k ≠ kid → par ds k = some p → (k ∈ fl ↔ (p ∈ fl ∧ (al p = true ∨ k = p + 1))))
    (hR : un = some room ∨ Gone ds al [kid] un room) (hun : ∀ u, un = some u → u ≤ room) :
    ∀ k : Nat, k < ds.length → liesIn ds k room = true → (Gone ds al [kid] un k ↔ k ∈ fl) := by
  intro k
  induction k using Nat.strongRecOn with
  | ind k ih =>
    intro kl hk
    have rk := par_lt kp
    cases e : par ds k with
    | none =>
      rw [liesIn_none e] at hk
      cases hk
    | some p =>
      have pk := par_lt e
      have kk : k ∈ kids ds p := mem_kids.mpr ⟨kl, e⟩
      have hp : p = room ∨ liesIn ds p room = true := by
        rw [liesIn_some e, Bool.or_eq_true] at hk
        exact hk.imp (fun z => eq_of_beq z) id
      rw [Gone.iff e]
      rcases hp with h | h
      · subst h
        have nx : ∀ x, x ∈ kids ds p → (x ∈ Tr.next ds al [kid] p ↔ x = kid) := fun x hx => by
          rw [next_one ha hx, List.mem_singleton]
          unfold pick
          cases ef : (kids ds p).find? (Tr.bears ds [kid]) with
          | none =>
            have := List.find?_eq_none.mp ef kid (mem_kids.mpr ⟨kl', kp⟩)
            exact absurd (show Tr.bears ds [kid] kid = true by
              unfold Tr.bears
              rw [List.any_cons, beq_self_eq_true, Bool.true_or, Bool.true_or]) this
          | some c =>
            have ck := List.mem_of_find?_eq_some ef
            have cb := List.find?_some ef
            unfold Tr.bears at cb
            rw [List.any_cons, List.any_nil, Bool.or_false, Bool.or_eq_true] at cb
            have : kid = c := kid_unique kp (mem_kids.mp ck).2 (.inl rfl) (cb.imp (fun z => eq_of_beq z) id)
            rw [this]
        rw [nx k kk]
        constructor
        · rintro ⟨z, _⟩
          rw [z]
          exact ki
        · intro z
          by_cases c : k = kid
          · exact ⟨c, hR⟩
          · have := ((char k p kl c e).mp z).1
            have := lo p this
            omega
      · have np : ¬ un = some p := fun z => by
          have := hun p z
          have := lies_lt h
          omega
        have kn : k ≠ kid := fun z => by
          rw [z, kp] at e
          injection e with e
          have := lies_lt h
          omega
        rw [char k p kl kn e, ← ih p pk (by omega) h]
        have pl' : p < ds.length := by omega
        constructor
        · rintro ⟨a, b⟩
          have gp := b.elim (fun z => absurd z np) id
          refine ⟨gp, ?_⟩
          cases hap : al p with
          | true => exact .inl rfl
          | false =>
            right
            have pf := lo p ((ih p pk pl' h).mp gp)
            unfold Tr.next at a
            rw [if_neg (by rw [hap]; exact Bool.false_ne_true)] at a
            have nb : (kids ds p).find? (Tr.bears ds [kid]) = none := by
              rw [List.find?_eq_none]
              intro c hc z
              have := par_lt (mem_kids.mp hc).2
              unfold Tr.bears at z
              rw [List.any_cons, List.any_nil, Bool.or_false, Bool.or_eq_true] at z
              rcases z with z | z
              · have := eq_of_beq z
                omega
              · have := lies_lt z
                omega
            rw [nb] at a
            have a' : k ∈ (kids ds p).take 1 := a
            rw [first_kid kk, List.mem_singleton] at a'
            exact a'
        · rintro ⟨gp, b⟩
          refine ⟨?_, .inr gp⟩
          cases hap : al p with
          | true =>
            rw [next_all hap]
            exact kk
          | false =>
            have b' : k = p + 1 := b.elim (fun z => by rw [hap] at z; cases z) id
            have pf := lo p ((ih p pk pl' h).mp gp)
            unfold Tr.next
            rw [if_neg (by rw [hap]; exact Bool.false_ne_true)]
            have nb : (kids ds p).find? (Tr.bears ds [kid]) = none := by
              rw [List.find?_eq_none]
              intro c hc z
              have := par_lt (mem_kids.mp hc).2
              unfold Tr.bears at z
              rw [List.any_cons, List.any_nil, Bool.or_false, Bool.or_eq_true] at z
              rcases z with z | z
              · have := eq_of_beq z
                omega
              · have := lies_lt z
                omega
            rw [nb]
            show k ∈ (kids ds p).take 1
            rw [first_kid kk, List.mem_singleton]
            exact b'
end Tr
namespace Tr
theorem near_kid {ds : List Int} {on al : Nat → Bool} {os : List Nat} {r : Nat} (f : FullB ds on al os) (lt : ∀ o ∈ os, o < ds.length) (ro : r ∈ os) (ho : on r = true) (ha : al r = false) :
    ∃ k ∈ os, par ds k = some r ∧ (os.filter fun o => liesIn ds o r).take 1 = [k] ∧ ((os.filter fun o => liesIn ds o r).filter fun o => par ds o == some r) = [k] := by
  have nk := near_kept f lt ro ho ha
  have c := f.2.1 r (lt r ro)
  unfold want at c
  rw [decide_eq_true ro, Bool.true_and, Bool.true_and, ha, if_neg Bool.false_ne_true, ho, if_pos rfl] at c
  obtain ⟨k, hk⟩ : ∃ k, openKids ds os r = [k] := by
    match openKids ds os r, c with
    | [x], _ => exact ⟨x, rfl⟩
  have km : ∀ x, (x ∈ os ∧ par ds x = some r) ↔ x = k := fun x => by
    have : x ∈ openKids ds os r ↔ x = k := by rw [hk, List.mem_singleton]
    rw [← this, mem_open, mem_kids]
    exact ⟨fun ⟨a, b⟩ => ⟨⟨lt x a, b⟩, a⟩, fun ⟨⟨_, b⟩, a⟩ => ⟨a, b⟩⟩
  obtain ⟨ko, kp⟩ := (km k).mpr rfl
  have e1 : (os.filter fun o => par ds o == some r) = [k] := by
    refine L2.rise_unique _ _ (f.1.filter _) (List.pairwise_singleton _ _) fun x => ?_
    rw [List.mem_filter, List.mem_singleton, ← km x]
    exact ⟨fun ⟨a, b⟩ => ⟨a, eq_of_beq b⟩, fun ⟨a, b⟩ => ⟨a, by rw [b]; exact beq_self_eq_true _⟩⟩
  refine ⟨k, ko, kp, nk.trans e1, ?_⟩
  rw [List.filter_filter, ← e1]
  refine List.filter_congr fun x _ => ?_
  cases e : par ds x == some r with
  | false => rfl
  | true => rw [Bool.true_and, lies_par (eq_of_beq e)]
end Tr

namespace Rms
open PySem L2 Gds
/-! rooms as a datum of our own -/
structure Rm where
  nm : Str
  kind : Str
  depth : Int
  keeps : Str
  lamp : Str
  ins : V
  outs : V
def RmIn (H : Hp) (v : V) (r : Rm) : Prop := ∃ a : Addr, v = .ref a ∧ H a = some (.tup [.str r.nm, .str r.kind, .int r.depth, .str r.keeps, .str r.lamp, r.ins, r.outs])
inductive RmsIn (H : Hp) : List V → List Rm → Prop where
  | nil : RmsIn H [] []
  | cons {v : V} {r : Rm} {vs : List V} {rs : List Rm} : RmIn H v r → RmsIn H vs rs → RmsIn H (v :: vs) (r :: rs)
theorem RmIn.mono {H H' : Hp} {v : V} {r : Rm} (x : RmIn H v r) (k : KeepT H H') : RmIn H' v r := by
  obtain ⟨a, e, h⟩ := x
  exact ⟨a, e, k _ _ h⟩
theorem RmsIn.mono {H H' : Hp} {vs : List V} {rs : List Rm} (x : RmsIn H vs rs) (k : KeepT H H') : RmsIn H' vs rs := by
  induction x with
  | nil => exact .nil
  | cons h _ ih => exact .cons (h.mono k) ih
theorem RmsIn.length {H : Hp} {vs : List V} {rs : List Rm} (x : RmsIn H vs rs) : vs.length = rs.length := by
  induction x with
  | nil => rfl
  | cons _ _ ih => rw [List.length_cons, List.length_cons, ih]
theorem RmsIn.snoc {H : Hp} {vs : List V} {rs : List Rm} {v : V} {r : Rm} (x : RmsIn H vs rs) (y : RmIn H v r) : RmsIn H (vs ++ [v]) (rs ++ [r]) := by
  induction x with
  | nil => exact .cons y .nil
  | cons h _ ih => exact .cons h ih
theorem RmsIn.get {H : Hp} {vs : List V} {rs : List Rm} (x : RmsIn H vs rs) : ∀ {k : Nat} {r : Rm}, rs[k]? = some r → ∃ v, vs[k]? = some v ∧ RmIn H v r := by
  induction x with
  | nil => intro k r h; simp at h
  | cons h _ ih =>
    intro k r e
    cases k with
    | zero =>
      simp at e
      subst e
      exact ⟨_, rfl, h⟩
    | succ k => exact ih (by simpa using e)
/-- the rooms of a chart, a tuple -/
def Rooms (H : Hp) (t : Addr) (rs : List Rm) : Prop := ∃ vs, H t = some (.tup vs) ∧ RmsIn H vs rs
theorem Rooms.mono {H H' : Hp} {t : Addr} {rs : List Rm} (x : Rooms H t rs) (k : KeepT H H') : Rooms H' t rs := by
  obtain ⟨vs, h, r⟩ := x
  exact ⟨vs, k _ _ h, r.mono k⟩
def depths (rs : List Rm) : List Int := rs.map (·.depth)
theorem depths_len (rs : List Rm) : (depths rs).length = rs.length := List.length_map _
theorem depths_at {rs : List Rm} {k : Nat} {r : Rm} (h : rs[k]? = some r) : (depths rs).getD k 0 = r.depth := by
  unfold depths
  rw [List.getD_eq_getElem?_getD, List.getElem?_map, h]
  rfl
/-- the k-th room's own tuple -/
theorem Rooms.at {H : Hp} {t : Addr} {rs : List Rm} (x : Rooms H t rs) {k : Nat} (h : k < rs.length) : ∃ (vs : List V) (a : Addr) (r : Rm), H t = some (.tup vs) ∧ vs.length = rs.length ∧ rs[k]? = some r ∧ atI vs ((k : Nat) : Int) = some (.ref a) ∧ H a = some (.tup [.str r.nm, .str r.kind, .int r.depth, .str r.keeps, .str r.lamp, r.ins, r.outs]) := by
  obtain ⟨vs, hv, hr⟩ := x
  have e : rs[k]? = some rs[k] := List.getElem?_eq_getElem h
  obtain ⟨v, h1, a, rfl, h2⟩ := hr.get e
  exact ⟨vs, a, rs[k], hv, hr.length, e, atI_nat h1, h2⟩
/-- kinds that go with the depths -/
def Fit (rs : List Rm) : Prop := ∀ (k : Nat) (r : Rm), rs[k]? = some r → if k + 1 < rs.length ∧ (depths rs).getD k 0 < (depths rs).getD (k + 1) 0 then (r.kind = "one" ∨ r.kind = "all") else r.kind = "plain"
end Rms

namespace L2
open PySem
/-! items of a display whose kind is plain at sight: the rest is not looked at -/
section
variable {X : Cx} {es : List Expr} {te : TE} {t : TA}
theorem pa_k {k : Const} {j : Nat} {p : Pos} (ha : PE X (.Constant k j p) te) (hr : PA X es t) : PA X (.Constant k j p :: es) (tCons te t) := pa_cons ha hr rfl
theorem pa_u {o : UnaryOp} {e : Expr} {p : Pos} (ha : PE X (.UnaryOp o e p) te) (hr : PA X es t) : PA X (.UnaryOp o e p :: es) (tCons te t) := pa_cons ha hr rfl
theorem pa_b {o : Operator} {a b : Expr} {p : Pos} (ha : PE X (.BinOp a o b p) te) (hr : PA X es t) : PA X (.BinOp a o b p :: es) (tCons te t) := pa_cons ha hr rfl
end
end L2

namespace L2
open PySem PySem.Spec PyProof.Rows
section
variable {X : Cx} {a b c : Expr} {ta tb tc : TE} {pos : Pos}
/-- a op1 b op2 c of ints, c a calm expression: one truth -/
def tChV (p p' : Int → Int → Bool) (ta tb tc : TE) : TE := fun σ H Q => ta σ H fun x H1 => tb σ H1 fun y H2 => ∃ i j k, x = .int i ∧ y = .int j ∧ tc σ H2 (fun z H3 => z = .int k ∧ H3 = H2) ∧ Q (.bl (p i j && p' j k)) H2
theorem pe_chV {op op' : CmpOp} {p p' : Int → Int → Bool} (ho : OpR X (compareOp op) (rI0 fun i j => .bl (p i j))) (ho' : OpR X (compareOp op') (rI0 fun i j => .bl (p' i j))) (ha : PE X a ta) (hb : PE X b tb) (hc : PE X c tc)
    (hm : lastMarks [op, op'] [b, c] = false := by with_unfolding_all rfl) : PE X (.Compare a [op, op'] [b, c] pos) (tChV p p' ta tb tc) := by
  intro pins s σ H Q I h
  refine Compare_chain (thn (ha pins s σ H _ I h) fun v s1 ⟨x, H1, I1, r1, q1⟩ => chain_link (thn (hb pins s1 σ H1 _ I1 q1) fun u s2 ⟨y, H2, I2, r2, q2⟩ => ?_)) hm
  obtain ⟨i, j, k, rfl, rfl, tq, q⟩ := q2
  refine thn (ho pins s2 σ H2 _ _ v u (fun z H3 => z = .bl (p i j) ∧ H3 = H2) I2 r1 r2 ⟨i, j, rfl, rfl, rfl, rfl⟩) fun d s3 ⟨z, H3, I3, r3, e1, e2⟩ => ?_
  subst e1 e2
  cases r3
  refine wpAny_truthy_bool ?_
  cases e : p i j with
  | false =>
    rw [e, Bool.false_and] at q
    exact ite_ff ⟨.bl false, _, I3, rfl, q⟩
  | true =>
    rw [e, Bool.true_and] at q
    exact ite_tt (chain_last (thn (hc pins s3 σ _ _ I3 tq) fun w' s4 ⟨z', H4, I4, r4, e3, e4⟩ => by
      subst e3 e4
      exact ho' pins s4 σ _ _ _ u w' Q I4 r2 r4 ⟨j, k, rfl, rfl, q⟩))
theorem pt_chV {op op' : CmpOp} {p p' : Int → Int → Bool} (ho : OpR X (compareOp op) (rI0 fun i j => .bl (p i j))) (ho' : OpR X (compareOp op') (rI0 fun i j => .bl (p' i j))) (ha : PE X a ta) (hb : PE X b tb) (hc : PE X c tc)
    (hm : lastMarks [op, op'] [b, c] = false := by with_unfolding_all rfl) : PT X (.Compare a [op, op'] [b, c] pos) (tTest (tChV p p' ta tb tc)) := by
  intro pins s σ H Q I h
  refine isTrue_chain (thn (ha pins s σ H _ I h) fun v s1 ⟨x, H1, I1, r1, q1⟩ => test_link (thn (hb pins s1 σ H1 _ I1 q1) fun u s2 ⟨y, H2, I2, r2, q2⟩ => ?_)) hm
  obtain ⟨i, j, k, rfl, rfl, tq, kk, ek, q⟩ := q2
  cases ek
  refine thn (ho pins s2 σ H2 _ _ v u (fun z H3 => z = .bl (p i j) ∧ H3 = H2) I2 r1 r2 ⟨i, j, rfl, rfl, rfl, rfl⟩) fun d s3 ⟨z, H3, I3, r3, e1, e2⟩ => ?_
  subst e1 e2
  cases r3
  refine wpAny_truthy_bool ?_
  cases e : p i j with
  | false =>
    rw [e, Bool.false_and] at q
    exact ite_ff ⟨_, I3, q⟩
  | true =>
    rw [e, Bool.true_and] at q
    refine ite_tt (test_last (thn (hc pins s3 σ _ _ I3 tq) fun w' s4 ⟨z', H4, I4, r4, e3, e4⟩ => ?_))
    subst e3 e4
    refine thn (ho' pins s4 σ _ _ _ u w' (fun z H5 => z = .bl (p' j k) ∧ H5 = H4) I4 r2 r4 ⟨j, k, rfl, rfl, rfl, rfl⟩) fun d' s5 ⟨z2, H5, I5, r5, e5, e6⟩ => ?_
    subst e5 e6
    cases r5
    exact wpAny_truthy_bool ⟨_, I5, q⟩
end
theorem itB {c : Bool} {A B : Prop} (h1 : c = true → A) (h2 : c = false → B) : if c = true then A else B := by
  cases c with
  | true =>
    rw [if_pos rfl]
    exact h1 rfl
  | false =>
    rw [if_neg Bool.false_ne_true]
    exact h2 rfl
theorem in_strs (z : Str) (zs : List Str) : inV (.str z) (zs.map V.str) = zs.contains z := by
  unfold inV
  rw [List.any_map, List.contains_eq_any_beq]
  congr 1
  funext y
  show (y == z) = (z == y)
  rw [Bool.eq_iff_iff]
  exact ⟨fun h => by rw [eq_of_beq h]; exact beq_self_eq_true z, fun h => by rw [eq_of_beq h]; exact beq_self_eq_true y⟩
theorem strs_flat (zs : List Str) : (zs.map V.str).all flatV = true := by
  rw [List.all_eq_true]
  intro x hx
  obtain ⟨n, _, rfl⟩ := List.mem_map.mp hx
  rfl
theorem Same.seqT {K : PySem.W.Frag} {H H' : Hp} {a : Addr} {xs : List V} (e : Same H H') (h : SqT K H a xs) : SqT K H' a xs := by
  rcases h with (h | ⟨o, h⟩) | h
  · exact .inl (.inl (e _ _ h))
  · exact .inl (.inr ⟨o, e _ _ h⟩)
  · exact .inr h
end L2

namespace Mix
open PySem L2
def top (i : Nat) : Stmt := PySem.Challenge.pw_nesthall_k17_deep_comes_back.main.body.getD i (.Pass ⟨0, 0, 0, 0⟩)
abbrev sEndOf : Stmt := top 1
abbrev sKids : Stmt := top 2
abbrev sBears : Stmt := top 4
abbrev sNext : Stmt := top 5
abbrev sIn : Stmt := top 6
abbrev sOut : Stmt := top 7
abbrev sPlain : Stmt := top 9
abbrev sKeptOf : Stmt := top 10
abbrev sKeeping : Stmt := top 11
abbrev sCell : Stmt := top 13
abbrev sMixed : Stmt := top 14
abbrev sWhole : Stmt := top 15
abbrev sTree : Stmt := top 16
abbrev sRooms : Stmt := top 17
abbrev sParents : Stmt := top 18
abbrev sOpening : Stmt := top 19
abbrev sLies : Stmt := top 20
abbrev s_L_fresh : Stmt := top 21
abbrev sRow : Stmt := top 22
abbrev s_L_back : Stmt := top 23
abbrev sLawF : Stmt := top 24
abbrev sNear : Str := "_law_near"
end Mix

namespace Mix
open PySem L2
/-! the cell of a script and the mixed draw: the same two defs stand in every law -/
def spCell (K : PySem.W.Frag) : Sp := fun vs H Q _ => ∃ (a : Addr) (ns : List Int) (k : Int), vs = [.ref a, .int k] ∧ SqL K H a (ns.map V.int) ∧ ns.length ≤ 63 ∧ ∀ v : Int, Q (.int v) H
def spMixed (K : PySem.W.Frag) : Sp := fun vs H Q _ => ∃ (a : Addr) (ns : List Int) (k salt : Int), vs = [.ref a, .int k, .int salt] ∧ SqL K H a (ns.map V.int) ∧ ns.length ≤ 63 ∧ (0 ≤ k ∧ k ≤ 1000000) ∧ (0 ≤ salt ∧ salt ≤ 1000) ∧
  ∀ r : Int, 0 ≤ r → r < 2147483648 → Q (.int r) H
section
variable {P : Program} {w : World} {K : PySem.W.Frag} {mg : Str → Option Value} {base : Heap}
theorem scC : FnScope ["_law_script", "_law_k"] ["_law_script", "_law_k"] (defScope sCell) := ⟨rfl, rfl, rfl, by decide +kernel, rfl, by decide +kernel, by decide +kernel⟩
theorem ok_cell {f : Addr} {fd : FuncData} (F : Fun K "_law_cell_at" "_law_cell_at" sCell f fd) (ml : mg "len" = none) : FnOk P w K mg base CX0 1 f fd ["_law_script", "_law_k"] (spCell K) := by
  refine F.ok scC (fun vs H Q E h => ?_) (fun cdv A outer s H vs Q E hr h => ?_)
  · obtain ⟨a, ns, k, rfl, _⟩ := h
    rfl
  obtain ⟨a, ns, k, rfl, hS, h63, q⟩ := h
  refine ⟨_, pss_cons (ps_if (pt_cmpR op_eq (pe_callB call_len_seq rfl ml PySem.boot_len (pa_cons (pv 0) pa_nil)) pe_int (nomark _)) (pss_one (ps_ret pe_int)) pss_nil)
    (pss_one (ps_ret (pe_ix ix_list (pv 0) (pe_op op_mod (pv 1) (pe_callB call_len_seq rfl ml PySem.boot_len (pa_cons (pv 0) pa_nil))) (fun _ _ => rfl)))), ?_⟩
  have hl : (ns.map V.int).length = ns.length := List.length_map _
  refine ⟨_, rfl, a, _, rfl, .inl hS, rfl, _, rfl, ?_⟩
  refine ite2 (fun c => ?_) (fun c => ?_)
  · exact q 0
  · have c' : ¬ V.int (((ns.map V.int).length : Nat) : Int) = V.int 0 := of_decide_eq_false (Bool.eq_false_iff.mpr c)
    have hp : (0 : Int) < (((ns.map V.int).length : Nat) : Int) := by
      rw [hl] at c' ⊢
      have : ns.length ≠ 0 := fun z => c' (by rw [z]; rfl)
      omega
    obtain ⟨v, hv⟩ := atI_int (ns := ns) (i := k % (((ns.map V.int).length : Nat) : Int)) (Int.emod_nonneg _ (by omega)) (by have := Int.emod_lt_of_pos k hp; rw [hl] at this ⊢; exact this)
    exact ⟨_, rfl, _, rfl, _, rfl, a, _, rfl, .inl hS, _, _, rfl, rfl, hp, a, _, _, _, rfl, rfl, hS, hv, q v⟩
theorem scM : FnScope ["_law_script", "_law_k", "_law_salt", "_law_cell", "_law_lap", sNear] ["_law_script", "_law_k", "_law_salt"] (defScope sMixed) := ⟨rfl, rfl, rfl, by decide +kernel, rfl, by decide +kernel, by decide +kernel⟩
theorem mulIn {i j : Int} (h0 : 0 ≤ i) (h1 : i < 18446744073709551616) : CMul i j := .inl ⟨by omega, by omega⟩
theorem ok_mixed {f g : Addr} {fd gd : FuncData} (F : Fun K "_law_mixed" "_law_mixed" sMixed f fd) (G : FnOk P w K mg base CX0 1 g gd ["_law_script", "_law_k"] (spCell K)) (bG : Binds K gd ["_law_script", "_law_k"] []) (kG : PySem.W.keepIn K (.ref g) = true) (mG : mg "_law_cell_at" = some (.ref g))
    (ml : mg "len" = none) (mm : mg "max" = none) : FnOk P w K mg base CX0 2 f fd ["_law_script", "_law_k", "_law_salt"] (spMixed K) := by
  refine F.ok scM (fun vs H Q E h => ?_) (fun cdv A outer s H vs Q E hr h => ?_)
  · obtain ⟨a, ns, k, salt, rfl, _⟩ := h
    rfl
  obtain ⟨a, ns, k, salt, rfl, hS, h63, hk, hs, q⟩ := h
  refine ⟨_, pss_cons (ps_set (i := 3) scM.nd rfl (Or.inl rfl) (pe_call G hr rfl mG kG bG .nil pass0 (pa_cons (pv 0) (pa_cons (pv 1) pa_nil))))
    (pss_cons (ps_set (i := 4) scM.nd rfl (Or.inl rfl) (pe_op op_fdiv (pv 1) (pe_callB (call_max2 rfl) rfl mm PyProof.Rows.boot_max (pa_cons pe_int (pa_cons (pe_callB call_len_seq rfl ml PySem.boot_len (pa_cons (pv 0) pa_nil)) pa_nil)))))
    (pss_cons (ps_set (i := 5) scM.nd rfl (Or.inl rfl) (pe_op op_add (pe_op op_add (pe_op op_add (pe_op op_and (pv 3) pe_int) (pe_op op_mul (pe_op op_mul pe_int (pv 1)) (pv 1))) (pe_op op_mul (pe_op op_mul pe_int (pv 2)) (pv 2))) pe_int))
    (pss_cons (ps_set (i := 5) scM.nd rfl (Or.inl rfl) (pe_op op_mod (pe_op op_mul (pv 5) pe_int) pe_int))
    (pss_cons (ps_set (i := 5) scM.nd rfl (Or.inl rfl) (pe_op op_mod (pe_op op_mul (pv 5) (pv 5)) pe_int))
    (pss_one (ps_ret (pe_op op_and (pe_op op_add (pe_op op_shr (pv 3) (pe_op op_mul pe_int (pe_op op_add (pv 2) (pe_op op_mul pe_int (pv 4))))) (pv 5)) pe_int))))))), ?_⟩
  have hl : (ns.map V.int).length = ns.length := List.length_map _
  refine ⟨_, rfl, _, rfl, a, ns, k, rfl, hS, h63, fun v => ?_⟩
  -- lap
  refine ⟨_, rfl, _, rfl, a, _, rfl, .inl hS, _, _, rfl, _, _, rfl, rfl, ?_⟩
  have hM : 0 < (if (((ns.map V.int).length : Nat) : Int) > 1 then (((ns.map V.int).length : Nat) : Int) else 1) ∧ (if (((ns.map V.int).length : Nat) : Int) > 1 then (((ns.map V.int).length : Nat) : Int) else 1) < 1073741824 := by
    rw [hl]
    split <;> omega
  refine ⟨hM, ?_⟩
  have hlap : 0 ≤ k / (if (((ns.map V.int).length : Nat) : Int) > 1 then (((ns.map V.int).length : Nat) : Int) else 1) := Int.ediv_nonneg hk.1 (Int.le_of_lt hM.1)
  -- near
  refine ⟨_, rfl, _, _, rfl, rfl, _, rfl, _, _, rfl, rfl, mulIn (by decide) (by decide), _, rfl, _, _, rfl, rfl, mulIn (by omega) (by omega), _, _, rfl, rfl, _, rfl, _, _, rfl, rfl, mulIn (by decide) (by decide), _, rfl, _, _, rfl, rfl, mulIn (by omega) (by omega), _, _, rfl, rfl, _, _, rfl, rfl, ?_⟩
  refine ⟨_, rfl, _, _, rfl, rfl, .inr ⟨by decide, by decide⟩, _, _, rfl, rfl, (by show (0 : Int) < 2147483647; decide), ?_⟩
  have b1 := Int.emod_nonneg ((Builtin.bitAnd v 2147483647 + 1009 * k * k + 7919 * salt * salt + 12) * 48271) (show (2147483647 : Int) ≠ 0 by decide)
  have b2 := Int.emod_lt_of_pos ((Builtin.bitAnd v 2147483647 + 1009 * k * k + 7919 * salt * salt + 12) * 48271) (show (0 : Int) < 2147483647 by decide)
  refine ⟨_, rfl, _, rfl, _, _, rfl, rfl, mulIn b1 (Int.lt_trans b2 (by decide)), _, _, rfl, rfl, (by show (0 : Int) < 2147483629; decide), ?_⟩
  refine ⟨_, rfl, _, rfl, _, rfl, _, _, rfl, rfl, mulIn (by decide) (by decide), _, _, rfl, rfl, _, _, rfl, rfl, mulIn (by decide) (by decide), _, _, rfl, rfl, ?_, _, rfl, _, _, rfl, rfl, _, _, rfl, rfl, ?_⟩
  · have nn : ∀ lap : Int, 0 ≤ lap → 0 ≤ 31 * (salt + 128 * lap) := fun lap h => by omega
    exact nn _ hlap
  · exact q _ (maskB _).1 (maskB _).2
end
end Mix

namespace Mix
open PySem L2
/-! the cell of a script and the mixed draw, told as what they are -/
def cellF (ns : List Int) (k : Int) : Int := if ns.length = 0 then 0 else ns.getD (k % (ns.length : Int)).toNat 0
def mixF (ns : List Int) (k salt : Int) : Int :=
  Builtin.bitAnd (cellF ns k / 2 ^ (31 * (salt + 128 * (k / (if ((ns.length : Nat) : Int) > 1 then ((ns.length : Nat) : Int) else 1)))).toNat
    + (Builtin.bitAnd (cellF ns k) 2147483647 + 1009 * k * k + 7919 * salt * salt + 12) * 48271 % 2147483647 * ((Builtin.bitAnd (cellF ns k) 2147483647 + 1009 * k * k + 7919 * salt * salt + 12) * 48271 % 2147483647) % 2147483629) 2147483647
def spCellD (K : PySem.W.Frag) : Sp := fun vs H Q _ => ∃ (a : Addr) (ns : List Int) (k : Int), vs = [.ref a, .int k] ∧ SqL K H a (ns.map V.int) ∧ ns.length ≤ 63 ∧ Q (.int (cellF ns k)) H
def spMixedD (K : PySem.W.Frag) : Sp := fun vs H Q _ => ∃ (a : Addr) (ns : List Int) (k salt : Int), vs = [.ref a, .int k, .int salt] ∧ SqL K H a (ns.map V.int) ∧ ns.length ≤ 63 ∧ (0 ≤ k ∧ k ≤ 1000000) ∧ (0 ≤ salt ∧ salt ≤ 1000) ∧ Q (.int (mixF ns k salt)) H
theorem mixF_nn (ns : List Int) (k salt : Int) : 0 ≤ mixF ns k salt := (maskB _).1
section
variable {P : Program} {w : World} {K : PySem.W.Frag} {mg : Str → Option Value} {base : Heap}
theorem ok_cellD {f : Addr} {fd : FuncData} (F : Fun K "_law_cell_at" "_law_cell_at" sCell f fd) (ml : mg "len" = none) : FnOk P w K mg base CX0 1 f fd ["_law_script", "_law_k"] (spCellD K) := by
  refine F.ok scC (fun vs H Q E h => ?_) (fun cdv A outer s H vs Q E hr h => ?_)
  · obtain ⟨a, ns, k, rfl, _⟩ := h
    rfl
  obtain ⟨a, ns, k, rfl, hS, h63, q⟩ := h
  refine ⟨_, pss_cons (ps_if (pt_cmpR op_eq (pe_callB call_len_seq rfl ml PySem.boot_len (pa_cons (pv 0) pa_nil)) pe_int (nomark _)) (pss_one (ps_ret pe_int)) pss_nil)
    (pss_one (ps_ret (pe_ix ix_list (pv 0) (pe_op op_mod (pv 1) (pe_callB call_len_seq rfl ml PySem.boot_len (pa_cons (pv 0) pa_nil))) (fun _ _ => rfl)))), ?_⟩
  have hl : (ns.map V.int).length = ns.length := List.length_map _
  refine ⟨_, rfl, a, _, rfl, .inl hS, rfl, _, rfl, ?_⟩
  refine ite2 (fun c => ?_) (fun c => ?_)
  · have c' := of_decide_eq_true c
    injection c' with c'
    have z : ns.length = 0 := by
      rw [hl] at c'
      omega
    unfold cellF at q
    rw [if_pos z] at q
    exact q
  · have c' : ¬ V.int (((ns.map V.int).length : Nat) : Int) = V.int 0 := of_decide_eq_false (Bool.eq_false_iff.mpr c)
    have hn : ns.length ≠ 0 := fun z => c' (by rw [hl, z]; rfl)
    have hp : (0 : Int) < (((ns.map V.int).length : Nat) : Int) := by
      rw [hl]
      omega
    unfold cellF at q
    rw [if_neg hn] at q
    have e0 := Int.emod_nonneg k (show (ns.length : Int) ≠ 0 by omega)
    have e1 := Int.emod_lt_of_pos k (show (0 : Int) < (ns.length : Int) by omega)
    have hv : atI (ns.map V.int) (k % (((ns.map V.int).length : Nat) : Int)) = some (.int (ns.getD (k % (ns.length : Int)).toNat 0)) := by
      rw [hl]
      generalize hj : k % (ns.length : Int) = j at e0 e1
      obtain ⟨i, rfl⟩ : ∃ i : Nat, j = (i : Int) := ⟨j.toNat, by omega⟩
      refine atI_nat ?_
      rw [List.getElem?_map, List.getElem?_eq_getElem (by omega), List.getD_eq_getElem?_getD, Int.toNat_natCast, List.getElem?_eq_getElem (by omega)]
      rfl
    exact ⟨_, rfl, _, rfl, _, rfl, a, _, rfl, .inl hS, _, _, rfl, rfl, hp, a, _, _, _, rfl, rfl, hS, hv, q⟩
theorem ok_mixedD {f g : Addr} {fd gd : FuncData} (F : Fun K "_law_mixed" "_law_mixed" sMixed f fd) (G : FnOk P w K mg base CX0 1 g gd ["_law_script", "_law_k"] (spCellD K)) (bG : Binds K gd ["_law_script", "_law_k"] []) (kG : PySem.W.keepIn K (.ref g) = true) (mG : mg "_law_cell_at" = some (.ref g))
    (ml : mg "len" = none) (mm : mg "max" = none) : FnOk P w K mg base CX0 2 f fd ["_law_script", "_law_k", "_law_salt"] (spMixedD K) := by
  refine F.ok scM (fun vs H Q E h => ?_) (fun cdv A outer s H vs Q E hr h => ?_)
  · obtain ⟨a, ns, k, salt, rfl, _⟩ := h
    rfl
  obtain ⟨a, ns, k, salt, rfl, hS, h63, hk, hs, q⟩ := h
  refine ⟨_, pss_cons (ps_set (i := 3) scM.nd rfl (Or.inl rfl) (pe_call G hr rfl mG kG bG .nil pass0 (pa_cons (pv 0) (pa_cons (pv 1) pa_nil))))
    (pss_cons (ps_set (i := 4) scM.nd rfl (Or.inl rfl) (pe_op op_fdiv (pv 1) (pe_callB (call_max2 rfl) rfl mm PyProof.Rows.boot_max (pa_cons pe_int (pa_cons (pe_callB call_len_seq rfl ml PySem.boot_len (pa_cons (pv 0) pa_nil)) pa_nil)))))
    (pss_cons (ps_set (i := 5) scM.nd rfl (Or.inl rfl) (pe_op op_add (pe_op op_add (pe_op op_add (pe_op op_and (pv 3) pe_int) (pe_op op_mul (pe_op op_mul pe_int (pv 1)) (pv 1))) (pe_op op_mul (pe_op op_mul pe_int (pv 2)) (pv 2))) pe_int))
    (pss_cons (ps_set (i := 5) scM.nd rfl (Or.inl rfl) (pe_op op_mod (pe_op op_mul (pv 5) pe_int) pe_int))
    (pss_cons (ps_set (i := 5) scM.nd rfl (Or.inl rfl) (pe_op op_mod (pe_op op_mul (pv 5) (pv 5)) pe_int))
    (pss_one (ps_ret (pe_op op_and (pe_op op_add (pe_op op_shr (pv 3) (pe_op op_mul pe_int (pe_op op_add (pv 2) (pe_op op_mul pe_int (pv 4))))) (pv 5)) pe_int))))))), ?_⟩
  have hl : (ns.map V.int).length = ns.length := List.length_map _
  refine ⟨_, rfl, _, rfl, a, ns, k, rfl, hS, h63, ?_⟩
  unfold mixF at q
  generalize cellF ns k = v at q ⊢
  refine ⟨_, rfl, _, rfl, a, _, rfl, .inl hS, _, _, rfl, _, _, rfl, rfl, ?_⟩
  rw [hl]
  have hM : 0 < (if ((ns.length : Nat) : Int) > 1 then ((ns.length : Nat) : Int) else 1) ∧ (if ((ns.length : Nat) : Int) > 1 then ((ns.length : Nat) : Int) else 1) < 1073741824 := by
    split <;> omega
  refine ⟨hM, ?_⟩
  have hlap : 0 ≤ k / (if ((ns.length : Nat) : Int) > 1 then ((ns.length : Nat) : Int) else 1) := Int.ediv_nonneg hk.1 (Int.le_of_lt hM.1)
  refine ⟨_, rfl, _, _, rfl, rfl, _, rfl, _, _, rfl, rfl, mulIn (by decide) (by decide), _, rfl, _, _, rfl, rfl, mulIn (by omega) (by omega), _, _, rfl, rfl, _, rfl, _, _, rfl, rfl, mulIn (by decide) (by decide), _, rfl, _, _, rfl, rfl, mulIn (by omega) (by omega), _, _, rfl, rfl, _, _, rfl, rfl, ?_⟩
  refine ⟨_, rfl, _, _, rfl, rfl, .inr ⟨by decide, by decide⟩, _, _, rfl, rfl, (by show (0 : Int) < 2147483647; decide), ?_⟩
  have b1 := Int.emod_nonneg ((Builtin.bitAnd v 2147483647 + 1009 * k * k + 7919 * salt * salt + 12) * 48271) (show (2147483647 : Int) ≠ 0 by decide)
  have b2 := Int.emod_lt_of_pos ((Builtin.bitAnd v 2147483647 + 1009 * k * k + 7919 * salt * salt + 12) * 48271) (show (0 : Int) < 2147483647 by decide)
  refine ⟨_, rfl, _, rfl, _, _, rfl, rfl, mulIn b1 (Int.lt_trans b2 (by decide)), _, _, rfl, rfl, (by show (0 : Int) < 2147483629; decide), ?_⟩
  refine ⟨_, rfl, _, rfl, _, rfl, _, _, rfl, rfl, mulIn (by decide) (by decide), _, _, rfl, rfl, _, _, rfl, rfl, mulIn (by decide) (by decide), _, _, rfl, rfl, ?_, _, rfl, _, _, rfl, rfl, _, _, rfl, rfl, ?_⟩
  · have nn : ∀ lap : Int, 0 ≤ lap → 0 ≤ 31 * (salt + 128 * lap) := fun lap h => by omega
    exact nn _ hlap
  · exact q
end
end Mix

namespace Mix
open PySem L2
/-! is it a whole number: the same def in many laws -/
def spWhole : Sp := fun vs H Q _ => ∃ n : Int, vs = [.int n] ∧ Q (.bl true) H
theorem kit_ll (K : PySem.W.Frag) : PySem.W.kitOne K (.type "list") (.type "list") = some true := by rfl
theorem kit_tt (K : PySem.W.Frag) : PySem.W.kitOne K (.type "tuple") (.type "tuple") = some true := by rfl
section
variable {P : Program} {w : World} {K : PySem.W.Frag} {mg : Str → Option Value} {base : Heap}
theorem sc_law_whole : FnScope ["_law_found"] ["_law_found"] (defScope sWhole) := ⟨rfl, rfl, rfl, by decide +kernel, rfl, by decide +kernel, by decide +kernel⟩
theorem ok_whole {f : Addr} {fd : FuncData} (F : Fun K "_law_whole" "_law_whole" sWhole f fd) (m_isinstance : mg "isinstance" = none) (m_int : mg "int" = none) (m_bool : mg "bool" = none) : FnOk P w K mg base CX0 1 f fd ["_law_found"] spWhole := by
  refine F.ok sc_law_whole (fun vs H Q E h => ?_) (fun cdv A outer s H vs Q E hr h => ?_)
  · obtain ⟨n, rfl, _⟩ := h
    rfl
  obtain ⟨n, rfl, q⟩ := h
  refine ⟨_, (pss_one (ps_ret (pe_and (pe_callB call_isinst rfl m_isinstance PyProof.Rows.boot_isinstance (pa_cons (pv 0) (pa_cons (pe_bltn (v := .ty "int") rfl m_int PyProof.Rows.boot_int rfl) pa_nil))) (pe_one (pe_not (pe_callB call_isinst rfl m_isinstance PyProof.Rows.boot_isinstance (pa_cons (pv 0) (pa_cons (pe_bltn (v := .ty "bool") rfl m_bool PyProof.Rows.boot_bool rfl) pa_nil)))))))), ?_⟩
  refine ⟨_, rfl, _, "int", _, true, rfl, .int n, kit_ii K, _, rfl, ifT rfl ?_⟩
  exact ⟨_, rfl, _, "bool", _, false, rfl, .int n, kit_ib K, _, rfl, q⟩
end
end Mix

namespace Mix
open PySem L2 Gds
/-! the parents of rooms, by a row of those above: the same def in many laws -/
def pV : Option Nat → V
  | none => .non
  | some j => .int (j : Int)
def parsV (ds : List Int) (n : Nat) : List V := (List.range n).map fun k => pV (Tr.par ds k)
theorem parsV_succ (ds : List Int) (n : Nat) : parsV ds (n + 1) = parsV ds n ++ [pV (Tr.par ds n)] := by
  unfold parsV
  rw [List.range_succ, List.map_append]
  rfl
theorem parsV_len (ds : List Int) (n : Nat) : (parsV ds n).length = n := by
  unfold parsV
  simp
theorem parsV_at (ds : List Int) {n k : Nat} (h : k < n) : (parsV ds n)[k]? = some (pV (Tr.par ds k)) := by
  unfold parsV
  rw [List.getElem?_map, List.getElem?_range h]
  rfl
def natsV (s : List Nat) : List V := s.map fun j : Nat => V.int (j : Int)
theorem cut_take (xs : List V) {d : Int} (h : 0 ≤ d) : cutV xs none (some d) = xs.take d.toNat := by
  show (xs.drop 0).take ((if d < 0 then (d + (xs.length : Int)).toNat else min d.toNat xs.length) - 0) = _
  rw [if_neg (by omega), List.drop_zero, Nat.sub_zero, List.take_eq_take_iff]
  omega
theorem atI_two {α : Type} {xs : List α} (h : 1 < xs.length) : atI xs (-2) = xs[xs.length - 2]? := by
  unfold atI ixN
  rw [if_neg (by decide), if_pos (by omega)]
  show xs[((-2 : Int) + (xs.length : Int)).toNat]? = _
  congr 1
  omega
def spParents : Sp := fun vs H Q _ => ∃ (a : Addr) (ds : List Int), vs = [.ref a] ∧ H a = some (.lst (ds.map V.int)) ∧ Tr.Good ds ∧ ds.length ≤ 63 ∧ ∀ (p : Addr) (H' : Hp), Same H H' → H p = none → H' p = some (.lst (parsV ds ds.length)) → Q (.ref p) H'
section
variable {P : Program} {w : World} {K : PySem.W.Frag} {mg : Str → Option Value} {base : Heap}
theorem sc_law_parents : FnScope ["_law_depths", "_law_above", "_law_found", "_law_k"] ["_law_depths"] (defScope sParents) := ⟨rfl, rfl, rfl, by decide +kernel, rfl, by decide +kernel, by decide +kernel⟩
theorem ok_parents {f : Addr} {fd : FuncData} (F : Fun K "_law_parents" "_law_parents" sParents f fd) (m_range : mg "range" = none) (m_len : mg "len" = none) : FnOk P w K mg base CX0 1 f fd ["_law_depths"] spParents := by
  refine F.ok sc_law_parents (fun vs H Q E h => ?_) (fun cdv A outer s H vs Q E hr h => ?_)
  · obtain ⟨a, ds, rfl, _⟩ := h
    rfl
  obtain ⟨a, ds, rfl, ha, good, h63, q⟩ := h
  refine ⟨_, (pss_cons (ps_set (i := 1) sc_law_parents.nd rfl (Or.inl rfl) (pe_lst pa_nil))
    (pss_cons (ps_set (i := 2) sc_law_parents.nd rfl (Or.inl rfl) (pe_lst pa_nil))
    (pss_cut (ps_for PassesOwn.never rfl (pi_range1 rfl m_range (pa_cons (pe_callB call_len_seq rfl m_len PySem.boot_len (pa_cons (pv 0) pa_nil)) pa_nil)) (pg_name (i := 3) sc_law_parents.nd rfl (Or.inl rfl))
      (pss_cons (ps_set (i := 1) sc_law_parents.nd rfl (Or.inl rfl) (pe_op op_cat (pe_slice sl_list (pv 1) po_none (po_some (pe_ix ix_list (pv 0) (pv 3) (fun _ _ => rfl)))) (pe_lst (pa_cons (pv 3) pa_nil))))
      (pss_one (ps_if (pt_cmpR op_gt (pe_callB call_len_seq rfl m_len PySem.boot_len (pa_cons (pv 1) pa_nil)) pe_int (nomark _))
        (pss_one (ps_expr (pe_bm PySem.F.plainAttrs_list PySem.F.slot_list_append PySem.F.type_list_append mt_append (pv 2) (pa_cons (pe_ix ix_list (pv 1) (pe_un un_neg pe_int) (fun _ _ => rfl)) pa_nil))))
        (pss_one (ps_expr (pe_bm PySem.F.plainAttrs_list PySem.F.slot_list_append PySem.F.type_list_append mt_append (pv 2) (pa_cons pe_non pa_nil))))))))
    (pss_one (ps_ret (pv 2)))))), ?_⟩
  refine ⟨Nat.zero_le _, fun p0 hp0 => ⟨Nat.zero_le _, fun pf hpf => ?_⟩⟩
  have s0 := same_new hp0 (.lst [])
  have hpf0 : H pf = none := s0.free hpf
  refine ⟨fun σ' H' => Same H H' ∧ H' pf = some (.lst (parsV ds ds.length)) ∧ ∃ o1 o3 : Option V, σ' = [some (.ref a), o1, some (.ref pf), o3], ?_, ?_⟩
  · have s1 := s0.trans (same_new hpf (.lst []))
    refine ⟨_, rfl, a, _, rfl, .inl (SqL.of (s1 _ _ ha)), _, rfl, by omega, by rw [List.length_map]; omega, ?_⟩
    refine for_range (fun i σ' H' => ∃ (pa : Addr) (s : List Nat) (o3 : Option V), Same H H' ∧ H' pf = some (.lst (parsV ds i)) ∧ pa ≠ pf ∧ H' pa = some (.lst (natsV s)) ∧ (i = 0 → s = []) ∧ (∀ k, i = k + 1 → Tr.Above ds k s) ∧ σ' = [some (.ref a), some (.ref pa), some (.ref pf), o3])
      ⟨p0, [], none, s1, upd_same, ne_of_none upd_same hpf, (same_new hpf _) _ _ upd_same, fun _ => rfl, fun k z => by omega, rfl⟩ ?_ ?_
    · rintro i σ' H1 hi ⟨pa, s, o3, s2, hf, npf, hpa, e0, e1, rfl⟩
      have hi' : i < ds.length := by
        simp only [List.length_map, Int.toNat_natCast] at hi
        exact hi
      have hat : atI (ds.map V.int) (0 + (i : Int)) = some (.int (ds.getD i 0)) := by
        rw [Int.zero_add]
        refine atI_nat ?_
        rw [List.getElem?_map, List.getElem?_eq_getElem hi', List.getD_eq_getElem?_getD, List.getElem?_eq_getElem hi']
        rfl
      have n0 := good.nonneg i hi'
      refine ⟨_, rfl, _, rfl, _, rfl, a, _, _, _, rfl, rfl, SqL.of (s2 _ _ ha), hat, _, rfl, pa, _, rfl, SqL.of hpa, fun p1 hp1 => ?_⟩
      rw [cut_take _ n0]
      have u1 := same_new hp1 (.lst ((natsV s).take (ds.getD i 0).toNat))
      refine ⟨_, rfl, small_le (by show 1 ≤ 1000; decide), fun p2 hp2 => ?_⟩
      have u2 := same_new hp2 (.lst [V.int (0 + (i : Int))])
      have ls : s.length ≤ 64 := by
        cases i with
        | zero => rw [e0 rfl]; exact Nat.zero_le _
        | succ k =>
          have a1 := (e1 k rfl).len
          have a2 := good.le_ix k (by omega)
          omega
      have lt : ((natsV s).take (ds.getD i 0).toNat).length ≤ 64 := by
        rw [List.length_take]
        unfold natsV
        rw [List.length_map]
        omega
      refine ⟨p1, p2, _, _, rfl, rfl, u2 _ _ upd_same, upd_same, small_le (by show _ + 1 ≤ 1000; omega), fun p3 hp3 => ?_⟩
      have ev : (natsV s).take (ds.getD i 0).toNat ++ [V.int (0 + (i : Int))] = natsV (s.take (ds.getD i 0).toNat ++ [i]) := by
        unfold natsV
        rw [List.map_append, List.map_take, Int.zero_add]
        rfl
      rw [ev]
      have ab : Tr.Above ds i (s.take (ds.getD i 0).toNat ++ [i]) := by
        cases i with
        | zero =>
          rw [e0 rfl, List.take_nil]
          exact .zero good
        | succ k => exact (e1 k rfl).next good hi'
      have ep := ab.par good hi'
      have la := ab.len
      generalize hs' : s.take (ds.getD i 0).toNat ++ [i] = s' at ab ep la ⊢
      have u3 := same_new hp3 (.lst (natsV s'))
      have sA := s2.trans (u1.trans (u2.trans u3))
      have hf3 := u3 _ _ (u2 _ _ (u1 _ _ hf))
      have nl : (natsV s').length = s'.length := by
        unfold natsV
        rw [List.length_map]
      have n3 : p3 ≠ pf := Ne.symm (ne_of_none (u2 _ _ (u1 _ _ hf)) hp3)
      refine ⟨_, rfl, p3, _, rfl, .inl (SqL.of upd_same), _, _, rfl, rfl, _, rfl, ?_⟩
      refine ite2 (fun c => ?_) (fun c => ?_)
      · have c' : (1 : Int) < (((natsV s').length : Nat) : Int) := of_decide_eq_true c
        rw [if_pos (by omega)] at ep
        have hx : (natsV s')[(natsV s').length - 2]? = some (pV (Tr.par ds i)) := by
          rw [nl, ep]
          unfold natsV
          rw [List.getElem?_map, List.getElem?_eq_getElem (show s'.length - 2 < s'.length by omega)]
          rfl
        refine ⟨_, rfl, .inl ⟨rfl, _, SqL.of hf3⟩, _, rfl, _, rfl, p3, _, _, _, rfl, rfl, SqL.of upd_same, (atI_two (by omega)).trans hx, pf, _, _, rfl, rfl, hf3, small1000 (by rw [parsV_len]; omega), p3, s', _, same_upd hpf0 sA _, ?_, n3, ?_, fun z => by omega, fun k z => by cases z; exact ab, rfl⟩
        · rw [parsV_succ]
          exact upd_same
        · rw [upd_ne n3]
          exact upd_same
      · have c' : ¬ (1 : Int) < (((natsV s').length : Nat) : Int) := fun z => c (decide_eq_true z)
        rw [if_neg (by omega)] at ep
        refine ⟨_, rfl, .inl ⟨rfl, _, SqL.of hf3⟩, pf, _, _, rfl, rfl, hf3, small1000 (by rw [parsV_len]; omega), p3, s', _, same_upd hpf0 sA _, ?_, n3, ?_, fun z => by omega, fun k z => by cases z; exact ab, rfl⟩
        · rw [parsV_succ, ep]
          exact upd_same
        · rw [upd_ne n3]
          exact upd_same
    · rintro σ' H1 ⟨pa, s, o3, s2, hf, npf, hpa, e0, e1, rfl⟩
      have e : (((ds.map V.int).length : Nat) : Int).toNat = ds.length := by simp
      rw [e] at hf
      exact ⟨s2, hf, _, _, rfl⟩
  rintro σ' H1 ⟨s2, hf, o1, o3, rfl⟩
  exact ⟨_, rfl, q pf H1 s2 hpf0 hf⟩
end
end Mix

namespace Mix
open PySem L2 Gds Rms
/-! k17: the tree, the rooms -/
def spTree1 (K : PySem.W.Frag) : Sp := fun vs H Q _ => ∃ (a : Addr) (ns : List Int), vs = [.ref a] ∧ SqL K H a (ns.map V.int) ∧ ns.length ≤ 63 ∧
  ∀ (p : Addr) (ds : List Int) (H' : Hp), Same H H' → H p = none → H' p = some (.lst (ds.map V.int)) → Tr.Good ds → ds.length ≤ 40 → Q (.ref p) H'
theorem last_at {ds : List Int} {k : Nat} (h : k < ds.length) : atI (ds.map V.int) ((k : Nat) : Int) = some (.int (ds.getD k 0)) := by
  refine atI_nat ?_
  rw [List.getElem?_map, List.getElem?_eq_getElem h, List.getD_eq_getElem?_getD, List.getElem?_eq_getElem h]
  rfl
section
variable {P : Program} {w : World} {K : PySem.W.Frag} {mg : Str → Option Value} {base : Heap}
theorem sc_law_tree : FnScope ["_law_script", "_law_many", "_law_depths", "_law_k"] ["_law_script"] (defScope sTree) := ⟨rfl, rfl, rfl, by decide +kernel, rfl, by decide +kernel, by decide +kernel⟩
theorem ok_tree {f gm gc : Addr} {fd dm dc : FuncData} (F : Fun K "_law_tree" "_law_tree" sTree f fd) (G_law_mixed : FnOk P w K mg base CX0 2 gm dm ["_law_script", "_law_k", "_law_salt"] (spMixed K)) (b_law_mixed : Binds K dm ["_law_script", "_law_k", "_law_salt"] []) (k_law_mixed : PySem.W.keepIn K (.ref gm) = true) (m_law_mixed : mg "_law_mixed" = some (.ref gm))
    (G_law_cell_at : FnOk P w K mg base CX0 2 gc dc ["_law_script", "_law_k"] (spCell K)) (b_law_cell_at : Binds K dc ["_law_script", "_law_k"] []) (k_law_cell_at : PySem.W.keepIn K (.ref gc) = true) (m_law_cell_at : mg "_law_cell_at" = some (.ref gc))
    (m_range : mg "range" = none) (m_min : mg "min" = none) : FnOk P w K mg base CX0 3 f fd ["_law_script"] (spTree1 K) := by
  refine F.ok sc_law_tree (fun vs H Q E h => ?_) (fun cdv A outer s H vs Q E hr h => ?_)
  · obtain ⟨a, ns, rfl, _⟩ := h
    rfl
  obtain ⟨a, ns, rfl, hS, h63, q⟩ := h
  refine ⟨_, (pss_cons (ps_set (i := 1) sc_law_tree.nd rfl (Or.inl rfl) (pe_op op_add pe_int (pe_op op_mod (pe_call G_law_mixed hr rfl m_law_mixed k_law_mixed b_law_mixed .nil pass0 (pa_cons (pv 0) (pa_cons pe_int (pa_cons pe_int pa_nil)))) pe_int)))
    (pss_cut (ps_if (pt_cmpR op_eq (pe_op op_mod (pe_call G_law_mixed hr rfl m_law_mixed k_law_mixed b_law_mixed .nil pass0 (pa_cons (pv 0) (pa_cons pe_int (pa_cons pe_int pa_nil)))) pe_int) pe_int (nomark _))
      (pss_one (ps_set (i := 1) sc_law_tree.nd rfl (Or.inl rfl) (pe_op op_add pe_int (pe_op op_mod (pe_call G_law_cell_at hr rfl m_law_cell_at k_law_cell_at b_law_cell_at .nil pass0 (pa_cons (pv 0) (pa_cons pe_int pa_nil))) pe_int))))
      pss_nil)
    (pss_cons (ps_set (i := 2) sc_law_tree.nd rfl (Or.inl rfl) (pe_lst (pa_cons pe_int pa_nil)))
    (pss_cut (ps_for PassesOwn.never rfl (pi_range2 rfl m_range (pa_cons pe_int (pa_cons (pv 1) pa_nil))) (pg_name (i := 3) sc_law_tree.nd rfl (Or.inl rfl))
      (pss_one (ps_expr (pe_bm PySem.F.plainAttrs_list PySem.F.slot_list_append PySem.F.type_list_append mt_append (pv 2) (pa_cons (pe_op op_add pe_int (pe_op op_mod (pe_op op_add (pe_call G_law_cell_at hr rfl m_law_cell_at k_law_cell_at b_law_cell_at .nil pass0 (pa_cons (pv 0) (pa_cons (pv 3) pa_nil))) (pe_op op_mul (pv 3) (pv 3))) (pe_callB (call_min2 rfl) rfl m_min PyProof.Rows.boot_min (pa_cons (pe_op op_add (pe_ix ix_list (pv 2) (pe_op op_sub (pv 3) pe_int) (fun _ _ => rfl)) pe_int) (pa_cons pe_int pa_nil))))) pa_nil)))))
    (pss_one (ps_ret (pv 2))))))), ?_⟩
  refine ⟨_, rfl, a, ns, _, _, rfl, hS, h63, ⟨by decide, by decide⟩, ⟨by decide, by decide⟩, fun x x0 x1 => ⟨_, _, rfl, rfl, (by show (0 : Int) < 12; decide), _, _, rfl, rfl, ?_⟩⟩
  refine ⟨fun σ' H' => H' = H ∧ ∃ m : Nat, 1 ≤ m ∧ m ≤ 40 ∧ σ' = [some (.ref a), some (.int (m : Int)), none, none], ?_, ?_⟩
  · refine ⟨_, rfl, a, ns, _, _, rfl, hS, h63, ⟨by decide, by decide⟩, ⟨by decide, by decide⟩, fun y y0 y1 => ⟨_, _, rfl, rfl, (by show (0 : Int) < 4; decide), rfl, _, rfl, ?_⟩⟩
    refine itB (fun _ => ?_) (fun _ => ⟨rfl, (1 + x % 12).toNat, by omega, by omega, ?_⟩)
    · refine ⟨_, rfl, a, ns, _, rfl, hS, h63, fun z => ⟨_, _, rfl, rfl, (by show (0 : Int) < 30; decide), _, _, rfl, rfl, rfl, (1 + z % 30).toNat, by omega, by omega, ?_⟩⟩
      rw [show (((1 + z % 30).toNat : Nat) : Int) = 1 + z % 30 by omega]
      rfl
    · rw [show (((1 + x % 12).toNat : Nat) : Int) = 1 + x % 12 by omega]
      rfl
  rintro σ1 H1 ⟨rfl, m, m1, m40, rfl⟩
  refine ⟨small_le (by show 1 ≤ 1000; decide), fun pd hpd => ?_⟩
  refine ⟨fun σ' H' => ∃ dl : List Int, Same H1 H' ∧ H' pd = some (.lst (dl.map V.int)) ∧ Tr.Good dl ∧ dl.length = m ∧ ∃ o3 : Option V, σ' = [some (.ref a), some (.int (m : Int)), some (.ref pd), o3], ?_, ?_⟩
  · refine ⟨_, rfl, 1, (m : Int), rfl, ⟨by decide, by decide, by omega, by omega⟩, ?_⟩
    refine for_range (fun i σ' H' => ∃ dl : List Int, Same H1 H' ∧ H' pd = some (.lst (dl.map V.int)) ∧ Tr.Good dl ∧ dl.length = i + 1 ∧ ∃ o3 : Option V, σ' = [some (.ref a), some (.int (m : Int)), some (.ref pd), o3])
      ⟨[0], same_new hpd _, upd_same, .one, rfl, none, rfl⟩ ?_ ?_
    · rintro i σ' H2 hi ⟨dl, s2, h2, good, hl, o3, rfl⟩
      have gn := good.nonneg i (by omega)
      have hat : atI (dl.map V.int) (1 + (i : Int) - 1) = some (.int (dl.getD i 0)) := by
        rw [show (1 + (i : Int)) - 1 = (i : Int) by omega]
        exact last_at (by omega)
      refine ⟨_, rfl, .inl ⟨rfl, _, SqL.of h2⟩, _, rfl, _, rfl, a, ns, _, rfl, s2.seq hS, h63, fun y => ?_⟩
      have tp : 1 ≤ (if (12 : Int) < dl.getD i 0 + 1 then 12 else dl.getD i 0 + 1) ∧ (if (12 : Int) < dl.getD i 0 + 1 then 12 else dl.getD i 0 + 1) ≤ dl.getD i 0 + 1 := by split <;> omega
      have hy0 := Int.emod_nonneg (y + (1 + (i : Int)) * (1 + (i : Int))) (show (if (12 : Int) < dl.getD i 0 + 1 then 12 else dl.getD i 0 + 1) ≠ 0 by omega)
      have hy1 := Int.emod_lt_of_pos (y + (1 + (i : Int)) * (1 + (i : Int))) (show 0 < (if (12 : Int) < dl.getD i 0 + 1 then 12 else dl.getD i 0 + 1) by omega)
      refine ⟨_, rfl, _, rfl, _, _, rfl, rfl, mulIn (by omega) (by omega), _, _, rfl, rfl, _, rfl, _, rfl, _, _, rfl, rfl, pd, _, _, _, rfl, rfl, SqL.of h2, hat, _, _, rfl, rfl, _, _, rfl, _, _, rfl, rfl, (by show (0 : Int) < (if (12 : Int) < dl.getD i 0 + 1 then 12 else dl.getD i 0 + 1); omega), _, _, rfl, rfl, pd, _, _, rfl, rfl, h2, small1000 (by rw [List.length_map]; omega), ?_⟩
      refine ⟨dl ++ [1 + (y + (1 + (i : Int)) * (1 + (i : Int))) % (if (12 : Int) < dl.getD i 0 + 1 then 12 else dl.getD i 0 + 1)], same_upd hpd s2 _, ?_, good.snoc (by omega) (by rw [hl, Nat.add_sub_cancel]; omega), by simp [hl], _, rfl⟩
      rw [upd_same, List.map_append]
      rfl
    · rintro σ' H2 ⟨dl, s2, h2, good, hl, o3, rfl⟩
      exact ⟨dl, s2, h2, good, by omega, o3, rfl⟩
  rintro σ' H2 ⟨dl, s2, h2, good, hl, o3, rfl⟩
  exact ⟨_, rfl, q pd dl H2 s2 hpd h2 good (by omega)⟩
end
end Mix

namespace Mix
open PySem L2 Gds Rms
/-! k17: rooms by their depths, with kinds and keeps by the cells -/
def KeepKind (rs : List Rm) : Prop := ∀ r ∈ rs, (r.keeps = ("near" : Str) → r.kind = ("one" : Str)) ∧ (r.keeps ≠ ("" : Str) → r.kind ≠ ("plain" : Str))
def spRooms (K : PySem.W.Frag) : Sp := fun vs H Q _ => ∃ (a pd : Addr) (ns ds : List Int), vs = [.ref a, .ref pd] ∧ SqL K H a (ns.map V.int) ∧ ns.length ≤ 63 ∧ H pd = some (.lst (ds.map V.int)) ∧ ds.length ≤ 40 ∧
  ∀ (t : Addr) (rs : List Rm) (H' : Hp), Same H H' → Rooms H' t rs → depths rs = ds → Fit rs → KeepKind rs → Q (.ref t) H'
section
variable {P : Program} {w : World} {K : PySem.W.Frag} {mg : Str → Option Value} {base : Heap}
theorem sc_law_rooms : FnScope ["_law_script", "_law_depths", "_law_rooms_here", "_law_k", "_law_number", "_law_kind", "_law_keeps", "_law_name"] ["_law_script", "_law_depths"] (defScope sRooms) := ⟨rfl, rfl, rfl, by decide +kernel, rfl, by decide +kernel, by decide +kernel⟩
theorem ok_rooms {f gm : Addr} {fd dm : FuncData} (F : Fun K "_law_rooms" "_law_rooms" sRooms f fd) (G_law_mixed : FnOk P w K mg base CX0 2 gm dm ["_law_script", "_law_k", "_law_salt"] (spMixed K)) (b_law_mixed : Binds K dm ["_law_script", "_law_k", "_law_salt"] []) (k_law_mixed : PySem.W.keepIn K (.ref gm) = true) (m_law_mixed : mg "_law_mixed" = some (.ref gm))
    (m_range : mg "range" = none) (m_len : mg "len" = none) (m_tuple : mg "tuple" = none) : FnOk P w K mg base CX0 3 f fd ["_law_script", "_law_depths"] (spRooms K) := by
  refine F.ok sc_law_rooms (fun vs H Q E h => ?_) (fun cdv A outer s H vs Q E hr h => ?_)
  · obtain ⟨a, pd, ns, ds, rfl, _⟩ := h
    rfl
  obtain ⟨a, pd, ns, ds, rfl, hS, h63, hd, h40, q⟩ := h
  refine ⟨_, (pss_cons (ps_set (i := 2) sc_law_rooms.nd rfl (Or.inl rfl) (pe_lst pa_nil))
    (pss_cut (ps_for PassesOwn.never rfl (pi_range1 rfl m_range (pa_cons (pe_callB call_len_seq rfl m_len PySem.boot_len (pa_cons (pv 1) pa_nil)) pa_nil)) (pg_name (i := 3) sc_law_rooms.nd rfl (Or.inl rfl))
      (pss_cons (ps_set (i := 4) sc_law_rooms.nd rfl (Or.inl rfl) (pe_call G_law_mixed hr rfl m_law_mixed k_law_mixed b_law_mixed .nil pass0 (pa_cons (pv 0) (pa_cons (pv 3) (pa_cons pe_int pa_nil)))))
      (pss_cons (ps_set (i := 5) sc_law_rooms.nd rfl (Or.inl rfl) pe_str)
      (pss_cons (ps_set (i := 6) sc_law_rooms.nd rfl (Or.inl rfl) pe_str)
      (pss_cut (ps_if (pt_cut (PW.pt (pw_and (pt_cmpR op_lt (pe_op op_add (pv 3) pe_int) (pe_callB call_len_seq rfl m_len PySem.boot_len (pa_cons (pv 1) pa_nil)) (nomark _)) (pw_and1 (pt_cmpR op_gt (pe_ix ix_list (pv 1) (pe_op op_add (pv 3) pe_int) (fun _ _ => rfl)) (pe_ix ix_list (pv 1) (pv 3) (fun _ _ => rfl)) (nomark _))))))
        (pss_cons (ps_set (i := 5) sc_law_rooms.nd rfl (Or.inl rfl) (pe_ix ix_list (pe_lst (pa_cons pe_str (pa_cons pe_str (pa_cons pe_str pa_nil)))) (pe_op op_mod (pv 4) pe_int) (fun _ _ => rfl)))
        (pss_one (ps_set (i := 6) sc_law_rooms.nd rfl (Or.inl rfl) (pe_ix ix_list (pe_lst (pa_cons pe_str (pa_cons pe_str (pa_cons (pe_ix ix_list (pe_lst (pa_cons pe_str (pa_cons pe_str (pa_cons pe_str pa_nil)))) (pe_op op_mod (pv 4) pe_int) (fun _ _ => rfl)) (pa_cons pe_str pa_nil))))) (pe_op op_mod (pe_op op_fdiv (pv 4) pe_int) pe_int) (fun _ _ => rfl)))))
        pss_nil)
      (pss_cons (ps_set (i := 7) sc_law_rooms.nd rfl (Or.inl rfl) (pe_cut (pe_op op_add_str (pe_op op_add_str pe_str (pe_ix ix_str pe_str (pe_op op_mod (pv 3) pe_int) (fun _ _ => rfl))) (pe_ix ix_str pe_str (pe_op op_fdiv (pv 3) pe_int) (fun _ _ => rfl)))))
      (pss_one (ps_expr (pe_bm PySem.F.plainAttrs_list PySem.F.slot_list_append PySem.F.type_list_append mt_append (pv 2) (pa_cons (pe_tup (pa_cons (pv 7) (pa_cons (pv 5) (pa_cons (pe_ix ix_list (pv 1) (pv 3) (fun _ _ => rfl)) (pa_cons (pv 6) (pa_cons pe_str (pa_cons (pe_tup pa_nil) (pa_cons (pe_tup pa_nil) pa_nil)))))))) pa_nil))))))))))
    (pss_one (ps_ret (pe_callTy call_tuple_of rfl m_tuple PyProof.Rows.boot_tuple (pa_cons (pv 2) pa_nil)))))), ?_⟩
  have lds : (ds.map V.int).length = ds.length := List.length_map _
  refine ⟨Nat.zero_le _, fun pr hpr => ?_⟩
  have s1 := same_new hpr (.lst [])
  refine ⟨fun σ' H' => ∃ (vs : List V) (rs : List Rm), Same H H' ∧ H' pr = some (.lst vs) ∧ RmsIn H' vs rs ∧ depths rs = ds ∧ Fit rs ∧ KeepKind rs ∧ ∃ o3 o4 o5 o6 o7 : Option V, σ' = [some (.ref a), some (.ref pd), some (.ref pr), o3, o4, o5, o6, o7], ?_, ?_⟩
  · refine ⟨_, rfl, pd, _, rfl, .inl (SqL.of (s1 _ _ hd)), _, rfl, by omega, by rw [lds]; omega, ?_⟩
    refine for_range (fun i σ' H' => ∃ (vs : List V) (rs : List Rm), Same H H' ∧ H' pr = some (.lst vs) ∧ RmsIn H' vs rs ∧ depths rs = ds.take i ∧ rs.length = i ∧ (∀ (k : Nat) (x : Rm), rs[k]? = some x → if k + 1 < ds.length ∧ ds.getD k 0 < ds.getD (k + 1) 0 then (x.kind = "one" ∨ x.kind = "all") else x.kind = "plain") ∧ KeepKind rs ∧
      ∃ o3 o4 o5 o6 o7 : Option V, σ' = [some (.ref a), some (.ref pd), some (.ref pr), o3, o4, o5, o6, o7]) ⟨[], [], s1, upd_same, .nil, rfl, rfl, (fun k x h => by simp at h), (fun x h => by cases h), none, none, none, none, none, rfl⟩ ?_ ?_
    · rintro i σ' H3 hi ⟨vs, rs, s3, h3, hI, hdep, hlen, hkd, hno, o3, o4, o5, o6, o7, rfl⟩
      have hi' : i < ds.length := by
        simp only [List.length_map, Int.toNat_natCast] at hi
        exact hi
      have hd3 := s3 _ _ hd
      have hat : atI (ds.map V.int) (0 + (i : Int)) = some (.int (ds.getD i 0)) := by
        rw [Int.zero_add]
        exact last_at hi'
      refine ⟨_, rfl, _, rfl, a, ns, _, _, rfl, s3.seq hS, h63, ⟨by omega, by omega⟩, ⟨by decide, by decide⟩, fun x x0 x1 => ?_⟩
      refine ⟨fun σ' H4 => Same H3 H4 ∧ ∃ kd kp : Str, (if i + 1 < ds.length ∧ ds.getD i 0 < ds.getD (i + 1) 0 then (kd = "one" ∨ kd = "all") else (kd = "plain" ∧ kp = "")) ∧ (kp = "near" → kd = "one") ∧ ∃ o7 : Option V, σ' = [some (.ref a), some (.ref pd), some (.ref pr), some (.int (0 + (i : Int))), some (.int x), some (.str kd), some (.str kp), o7], ?_, ?_⟩
      · refine ⟨fun c H4 => H4 = H3 ∧ c = decide (i + 1 < ds.length ∧ ds.getD i 0 < ds.getD (i + 1) 0), ?_, ?_⟩
        · refine ⟨_, rfl, _, _, rfl, rfl, _, rfl, pd, _, rfl, .inl (SqL.of hd3), _, _, rfl, rfl, _, rfl, ?_⟩
          refine ite2 (fun c => ?_) (fun c => ⟨rfl, ?_⟩)
          · have c' : (0 : Int) + (i : Int) + 1 < (((ds.map V.int).length : Nat) : Int) := of_decide_eq_true c
            rw [lds] at c'
            have hat2 : atI (ds.map V.int) (0 + (i : Int) + 1) = some (.int (ds.getD (i + 1) 0)) := by
              rw [show (0 : Int) + (i : Int) + 1 = ((i + 1 : Nat) : Int) by omega]
              exact last_at (by omega)
            refine ⟨_, rfl, _, rfl, _, _, rfl, rfl, pd, _, _, _, rfl, rfl, SqL.of hd3, hat2, _, rfl, _, rfl, pd, _, _, _, rfl, rfl, SqL.of hd3, hat, _, _, rfl, rfl, _, rfl, rfl, ?_⟩
            have e : i + 1 < ds.length := by omega
            simp [e]
          · have c' : ¬ (0 : Int) + (i : Int) + 1 < (((ds.map V.int).length : Nat) : Int) := fun z => c (decide_eq_true z)
            rw [lds] at c'
            have e : ¬ i + 1 < ds.length := by omega
            simp [e]
        rintro c H4 ⟨rfl, hc⟩
        refine ite2 (fun c1 => ?_) (fun c1 => ?_)
        · rw [c1] at hc
          have hc' := of_decide_eq_true hc.symm
          obtain ⟨kd, kq, hk1, hk2, hkk⟩ : ∃ kd kq : Str, atI [V.str "one", V.str "one", V.str "all"] (x % 3) = some (.str kd) ∧ atI [V.str "near", V.str "near", V.str "deep"] (x % 3) = some (.str kq) ∧ ((kd = "one" ∧ kq = "near") ∨ (kd = "all" ∧ kq = "deep")) := by
            have : x % 3 = 0 ∨ x % 3 = 1 ∨ x % 3 = 2 := by omega
            rcases this with e | e | e
            · rw [e]; exact ⟨_, _, rfl, rfl, .inl ⟨rfl, rfl⟩⟩
            · rw [e]; exact ⟨_, _, rfl, rfl, .inl ⟨rfl, rfl⟩⟩
            · rw [e]; exact ⟨_, _, rfl, rfl, .inr ⟨rfl, rfl⟩⟩
          refine ⟨small_le (by show 3 ≤ 1000; decide), fun p5 hp5 => ?_⟩
          have s5 := same_new hp5 (.lst [V.str "one", V.str "one", V.str "all"])
          refine ⟨_, rfl, _, _, rfl, rfl, (by show (0 : Int) < 3; decide), p5, _, _, _, rfl, rfl, SqL.of upd_same, hk1, ?_⟩
          refine ⟨small_le (by show 3 ≤ 1000; decide), fun p6 hp6 => ?_⟩
          have s6 := s5.trans (same_new hp6 (.lst [V.str "near", V.str "near", V.str "deep"]))
          refine ⟨_, rfl, _, _, rfl, rfl, (by show (0 : Int) < 3; decide), p6, _, _, _, rfl, rfl, SqL.of upd_same, hk2, small_le (by show 4 ≤ 1000; decide), fun p7 hp7 => ?_⟩
          have s7 := s6.trans (same_new hp7 (.lst [V.str "deep", V.str "deep", V.str kq, V.str ""]))
          obtain ⟨v2, hv2, hat3⟩ := atI_some (xs := [V.str "deep", V.str "deep", V.str kq, V.str ""]) (i := x / 3 % 4) (by omega) (by show x / 3 % 4 < 4; omega)
          obtain ⟨kp, rfl, hkp⟩ : ∃ kp : Str, v2 = .str kp ∧ (kp = "near" → kd = "one") := by
            simp only [List.mem_cons, List.not_mem_nil, or_false] at hv2
            rcases hv2 with rfl | rfl | rfl | rfl
            · exact ⟨_, rfl, fun z => absurd z (by decide)⟩
            · exact ⟨_, rfl, fun z => absurd z (by decide)⟩
            · refine ⟨_, rfl, fun z => ?_⟩
              rcases hkk with h | h
              · exact h.1
              · rw [h.2] at z
                exact absurd z (by decide)
            · exact ⟨_, rfl, fun z => absurd z (by decide)⟩
          exact ⟨_, rfl, _, _, rfl, rfl, ⟨by decide, by decide⟩, _, _, rfl, rfl, (by show (0 : Int) < 4; decide), p7, _, _, _, rfl, rfl, SqL.of upd_same, hat3, s7, kd, kp, (by rw [if_pos hc']; exact hkk.imp (fun h => h.1) (fun h => h.1)), hkp, _, rfl⟩
        · rw [Bool.eq_false_iff.mpr c1] at hc
          have hc' := of_decide_eq_false hc.symm
          exact ⟨Same.refl _, _, _, (by rw [if_neg hc']; exact ⟨rfl, rfl⟩), fun z => absurd z (by decide), _, rfl⟩
      rintro σ5 H5 ⟨s4, kd, kp, hkd4, hnear, o7', rfl⟩
      refine ⟨fun v H' => H' = H5 ∧ ∃ y : Str, v = .str y, ?_, ?_⟩
      · obtain ⟨c1, _, h1⟩ := atI_some (xs := ("abcdef" : Str).cps.toList) (i := (0 + (i : Int)) % 6) (by omega) (by show (0 + (i : Int)) % 6 < 6; omega)
        obtain ⟨c2, _, h2⟩ := atI_some (xs := ("ghijklmno" : Str).cps.toList) (i := (0 + (i : Int)) / 6) (by omega) (by show (0 + (i : Int)) / 6 < 9; omega)
        have la : ∀ x y : Str, (x ++ y).length = x.length + y.length := fun x y => by
          show (x.cps ++ y.cps).size = _
          rw [Array.size_append]
          rfl
        have lo : ∀ c : Nat, (⟨#[c]⟩ : Str).length = 1 := fun c => rfl
        have lr : ("room" : Str).length = 4 := by decide +kernel
        refine ⟨_, rfl, _, _, rfl, rfl, (by show (0 : Int) < 6; decide), _, _, c1, rfl, rfl, small_le (by decide +kernel), h1, _, _, rfl, rfl, small_le (by rw [lo, lr]; omega), _, rfl, _, _, rfl, rfl, ⟨by decide, by decide⟩, _, _, c2, rfl, rfl, small_le (by decide +kernel), h2, _, _, rfl, rfl, small_le (by rw [la, lo, lo, lr]; omega), rfl, _, rfl⟩
      rintro _ H4 ⟨rfl, y, rfl⟩
      have h4 := s4 _ _ h3
      have s34 := s3.trans s4
      refine ⟨_, rfl, .inl ⟨rfl, _, SqL.of h4⟩, _, rfl, _, rfl, _, rfl, _, rfl, pd, _, _, _, rfl, rfl, SqL.of (s4 _ _ hd3), hat, _, rfl, Nat.zero_le _, fun e1 he1 => ⟨Nat.zero_le _, fun e2 he2 => ⟨small_le (by show 7 ≤ 1000; decide), fun p7 hp7 => ?_⟩⟩⟩
      have u1 := same_new he1 (.tup [])
      have u2 := same_new he2 (.tup [])
      have u3 := same_new hp7 (.tup [.str y, .str kd, .int (ds.getD i 0), .str kp, .str "", .ref e1, .ref e2])
      have uA := (u1.trans u2).trans u3
      have h7 := uA _ _ h4
      have lv := hI.length
      have kl := KeepT.lst h7 (.lst (vs ++ [.ref p7]))
      refine ⟨pr, _, _, rfl, rfl, h7, small1000 (by omega), vs ++ [.ref p7], rs ++ [⟨y, kd, ds.getD i 0, kp, "", .ref e1, .ref e2⟩], same_upd hpr (s34.trans uA) _, upd_same, RmsIn.snoc (hI.mono ((KeepT.of (s4.trans uA)).trans kl)) ⟨p7, rfl, kl _ _ upd_same⟩, ?_, by simp [hlen], fun k x hx => ?_, fun x hx => ?_, _, _, _, _, _, rfl⟩
      · unfold depths at hdep ⊢
        rw [List.map_append, hdep, List.take_add_one, List.getElem?_eq_getElem hi', List.getD_eq_getElem?_getD, List.getElem?_eq_getElem hi']
        rfl
      · by_cases hk : k < rs.length
        · rw [List.getElem?_append_left hk] at hx
          exact hkd k x hx
        · have hk' : k = rs.length := by
            have := (List.getElem?_eq_some_iff.mp hx).1
            simp only [List.length_append, List.length_singleton] at this
            omega
          subst hk'
          rw [List.getElem?_append_right (Nat.le_refl _)] at hx
          simp at hx
          subst hx
          rw [hlen]
          show if i + 1 < ds.length ∧ ds.getD i 0 < ds.getD (i + 1) 0 then (kd = "one" ∨ kd = "all") else kd = "plain"
          split at hkd4
          · rename_i hc
            rw [if_pos hc]
            exact hkd4
          · rename_i hc
            rw [if_neg hc]
            exact hkd4.1
      · rcases List.mem_append.mp hx with h | h
        · exact hno x h
        · rw [List.mem_singleton.mp h]
          refine ⟨hnear, fun z w => ?_⟩
          split at hkd4
          · have w' : kd = ("plain" : Str) := w
            rcases hkd4 with e | e <;> exact absurd (e.symm.trans w') (by decide)
          · exact z hkd4.2
    · rintro σ' H3 ⟨vs, rs, s3, h3, hI, hdep, hlen, hkd, hno, o3, o4, o5, o6, o7, rfl⟩
      have e : (((ds.map V.int).length : Nat) : Int).toNat = ds.length := by simp
      rw [e] at hdep hlen
      rw [List.take_of_length_le (Nat.le_refl _)] at hdep
      refine ⟨vs, rs, s3, h3, hI, hdep, fun k x hx => ?_, hno, o3, o4, o5, o6, o7, rfl⟩
      rw [hdep, hlen]
      exact hkd k x hx
  rintro σ' H3 ⟨vs, rs, s3, h3, hI, hdep, hfit, hno, o3, o4, o5, o6, o7, rfl⟩
  refine ⟨_, rfl, pr, _, rfl, .inl ⟨SqL.of h3, fun t ht => ?_⟩⟩
  exact q t rs _ (s3.trans (same_new ht _)) ⟨vs, upd_same, hI.mono (KeepT.new ht _)⟩ hdep hfit hno
end
end Mix

namespace Mix
open PySem L2 Gds Rms
/-! an opening by the cells: the same def in many laws -/
def spOpening (K : PySem.W.Frag) : Sp := fun vs H Q _ => ∃ (a t pp : Addr) (ns ds : List Int) (rs : List Rm) (salt : Int), vs = [.ref a, .ref t, .ref pp, .int salt] ∧ SqL K H a (ns.map V.int) ∧ ns.length ≤ 63 ∧ Rooms H t rs ∧ H pp = some (.lst (parsV ds ds.length)) ∧ ds.length = rs.length ∧ 1 ≤ rs.length ∧ rs.length ≤ 40 ∧ (0 ≤ salt ∧ salt ≤ 100) ∧
  ∀ (p : Addr) (os : List Nat) (H' : Hp), Same H H' → H p = none → H' p = some (.lst (natsV os)) → (∀ o ∈ os, o < rs.length) → os.length ≤ 40 → os.Pairwise (· < ·) → 0 ∈ os → Q (.ref p) H'
theorem scP (x y : Option Nat) : scal (pV x) (pV y) = true := by cases x <;> cases y <;> rfl
theorem nats_flat (os : List Nat) : (natsV os).all flatV = true := by
  rw [List.all_eq_true]
  intro x hx
  obtain ⟨n, _, rfl⟩ := List.mem_map.mp hx
  rfl
theorem nats_in {os : List Nat} {j : Int} (h : inV (.int j) (natsV os) = true) : ∃ o ∈ os, (o : Int) = j := by
  unfold inV natsV at h
  rw [List.any_map, List.any_eq_true] at h
  obtain ⟨o, ho, e⟩ := h
  exact ⟨o, ho, by simpa [eqV] using e⟩
theorem nats_non (os : List Nat) : inV .non (natsV os) = false := by
  unfold inV natsV
  rw [List.any_map, List.any_eq_false]
  intro x hx e
  cases e
theorem natsV_at {os : List Nat} {i : Int} (h0 : 0 ≤ i) (h1 : i < (os.length : Int)) : ∃ o ∈ os, atI (natsV os) i = some (.int (o : Int)) := by
  obtain ⟨v, hv, e⟩ := atI_some (xs := natsV os) (i := i) h0 (by unfold natsV; rw [List.length_map]; exact h1)
  obtain ⟨o, ho, rfl⟩ := List.mem_map.mp hv
  exact ⟨o, ho, e⟩
theorem natsV_len (os : List Nat) : (natsV os).length = os.length := List.length_map _
theorem natsV_app (os : List Nat) (k : Nat) : natsV os ++ [.int (k : Int)] = natsV (os ++ [k]) := by
  unfold natsV
  rw [List.map_append]
  rfl
section
variable {P : Program} {w : World} {K : PySem.W.Frag} {mg : Str → Option Value} {base : Heap}
theorem sc_law_opening : FnScope ["_law_script", "_law_rooms_here", "_law_parents_here", "_law_salt", "_law_opened", "_law_k", "_law_above", "_law_near", "_law_pick"] ["_law_script", "_law_rooms_here", "_law_parents_here", "_law_salt"] (defScope sOpening) := ⟨rfl, rfl, rfl, by decide +kernel, rfl, by decide +kernel, by decide +kernel⟩
theorem ok_opening {f gm : Addr} {fd dm : FuncData} (F : Fun K "_law_opening" "_law_opening" sOpening f fd)
    (G_law_mixed : FnOk P w K mg base CX0 2 gm dm ["_law_script", "_law_k", "_law_salt"] (spMixed K)) (b_law_mixed : Binds K dm ["_law_script", "_law_k", "_law_salt"] []) (k_law_mixed : PySem.W.keepIn K (.ref gm) = true) (m_law_mixed : mg "_law_mixed" = some (.ref gm))
    (m_range : mg "range" = none) (m_len : mg "len" = none) : FnOk P w K mg base CX0 3 f fd ["_law_script", "_law_rooms_here", "_law_parents_here", "_law_salt"] (spOpening K) := by
  refine F.ok sc_law_opening (fun vs H Q E h => ?_) (fun cdv A outer s H vs Q E hr h => ?_)
  · obtain ⟨a, t, pp, ns, ds, rs, salt, rfl, _⟩ := h
    rfl
  obtain ⟨a, t, pp, ns, ds, rs, salt, rfl, hS, h63, hR, hpp, ld, l1, l40, ⟨t0, t1⟩, q⟩ := h
  refine ⟨_, (pss_cons (ps_set (i := 4) sc_law_opening.nd rfl (Or.inl rfl) (pe_lst (pa_cons pe_int pa_nil)))
    (pss_cut (ps_for PassesOwn.never rfl (pi_range2 rfl m_range (pa_cons pe_int (pa_cons (pe_callB call_len_seq rfl m_len PySem.boot_len (pa_cons (pv 1) pa_nil)) pa_nil))) (pg_name (i := 5) sc_law_opening.nd rfl (Or.inl rfl))
      (pss_cons (ps_set (i := 6) sc_law_opening.nd rfl (Or.inr rfl) (pe_ix ix_list (pv 2) (pv 5) (fun _ _ => rfl)))
      (pss_one (ps_if (pt_cmpR op_in_seq (pv 6) (pv 4) rfl)
        (pss_cons (ps_setC (i := 7) (caps := [(6, "_law_above"), (2, "_law_parents_here")]) rfl sc_law_opening.nd rfl (Or.inl rfl) (show CompSc (defScope sOpening) ["_law_script", "_law_rooms_here", "_law_parents_here", "_law_salt", "_law_opened", "_law_k", "_law_above", "_law_near", "_law_pick"] _ _ _ from ⟨rfl, rfl, by decide +kernel, by decide +kernel, by decide +kernel, by decide +kernel, by decide +kernel⟩) (pi_range1 rfl m_range (pa_cons (pe_callB call_len_seq rfl m_len PySem.boot_len (pa_cons (pv 1) pa_nil)) pa_nil)) (fun _ _ _ _ _ _ => pifs_one (pt_cmpR op_eq (pe_ix (r := rIxL K) ix_list (pv 2) (pv 0) (fun _ _ => rfl)) (pv 1) (nomark _))) (fun _ _ _ _ _ _ => (pv 0)))
        (pss_cons (ps_set (i := 8) sc_law_opening.nd rfl (Or.inl rfl) (pe_ix ix_list (pv 7) (pe_op op_mod (pe_call G_law_mixed hr rfl m_law_mixed k_law_mixed b_law_mixed .nil pass0 (pa_cons (pv 0) (pa_cons (pv 6) (pa_cons (pv 3) pa_nil)))) (pe_callB call_len_seq rfl m_len PySem.boot_len (pa_cons (pv 7) pa_nil))) (fun _ _ => rfl)))
        (pss_one (ps_if (pt_cut (PW.pt (pw_or (pt_cmpR op_eq (pe_ix ix_tup (pe_ix ix_tup (pv 1) (pv 6) (fun _ _ => rfl)) pe_int (fun _ _ => rfl)) pe_str (nomark _)) (pw_or1 (pt_cmpR op_eq (pv 8) (pv 5) (nomark _))))))
          (pss_one (ps_expr (pe_bm PySem.F.plainAttrs_list PySem.F.slot_list_append PySem.F.type_list_append mt_append (pv 4) (pa_cons (pv 5) pa_nil))))
          pss_nil))))
        pss_nil))))
    (pss_one (ps_ret (pv 4))))), ?_⟩
  obtain ⟨rv, htr, hrs⟩ := hR
  have lrv := hrs.length
  refine ⟨small_le (by show 1 ≤ 1000; decide), fun po hpo => ?_⟩
  have s1 := same_new hpo (.lst [V.int 0])
  refine ⟨fun σ' H' => ∃ os : List Nat, Same H H' ∧ H' po = some (.lst (natsV os)) ∧ (∀ o ∈ os, o < rs.length) ∧ os.length ≤ 40 ∧ os.Pairwise (· < ·) ∧ 0 ∈ os ∧ ∃ o5 o6 o7 o8 : Option V, σ' = [some (.ref a), some (.ref t), some (.ref pp), some (.int salt), some (.ref po), o5, o6, o7, o8], ?_, ?_⟩
  · refine ⟨_, rfl, t, _, rfl, .inr (SqT.of (s1 _ _ htr)), 1, (rv.length : Int), rfl, ⟨by decide, by decide, by omega, by omega⟩, ?_⟩
    refine for_range (fun i σ' H' => ∃ os : List Nat, Same H H' ∧ H' po = some (.lst (natsV os)) ∧ (∀ o ∈ os, o < 1 + i) ∧ os.length ≤ 1 + i ∧ os.Pairwise (· < ·) ∧ 0 ∈ os ∧ ∃ o5 o6 o7 o8 : Option V, σ' = [some (.ref a), some (.ref t), some (.ref pp), some (.int salt), some (.ref po), o5, o6, o7, o8])
      ⟨[0], s1, upd_same, fun o ho => (by rw [List.mem_singleton.mp ho]; omega), (by show 1 ≤ 1 + 0; decide), List.pairwise_singleton _ _, List.mem_singleton.mpr rfl, _, _, _, _, rfl⟩ ?_ ?_
    · rintro i σ' H2 hi ⟨os, s2, h2, hos, los, inc, zin, o5, o6, o7, o8, rfl⟩
      have hi' : 1 + i < rs.length := by omega
      have hk : (1 : Int) + (i : Int) = ((1 + i : Nat) : Int) := by omega
      have hat : atI (parsV ds ds.length) (1 + (i : Int)) = some (pV (Tr.par ds (1 + i))) := by
        rw [hk]
        exact atI_nat (parsV_at ds (by omega))
      refine ⟨_, rfl, _, rfl, pp, _, _, _, rfl, rfl, SqL.of (s2 _ _ hpp), hat, ?_⟩
      have skip : ∀ (H' : Hp) (x6 x7 x8 : Option V), Same H H' → H' po = some (.lst (natsV os)) → ∃ os' : List Nat, Same H H' ∧ H' po = some (.lst (natsV os')) ∧ (∀ o ∈ os', o < 1 + (i + 1)) ∧ os'.length ≤ 1 + (i + 1) ∧ os'.Pairwise (· < ·) ∧ 0 ∈ os' ∧ ∃ o5 o6 o7 o8 : Option V, [some (.ref a), some (.ref t), some (.ref pp), some (.int salt), some (.ref po), some (.int (1 + (i : Int))), x6, x7, x8] = [some (.ref a), some (.ref t), some (.ref pp), some (.int salt), some (.ref po), o5, o6, o7, o8] := fun H' x6 x7 x8 s h => ⟨os, s, h, fun o ho => by have := hos o ho; omega, by omega, inc, zin, _, _, _, _, rfl⟩
      cases hpar : Tr.par ds (1 + i) with
      | none => exact ⟨_, rfl, _, rfl, po, _, rfl, .inl (SqL.of h2), rfl, nats_flat os, _, rfl, ifF (nats_non os) (skip _ _ _ _ s2 h2)⟩
      | some j =>
        refine ⟨_, rfl, _, rfl, po, _, rfl, .inl (SqL.of h2), rfl, nats_flat os, _, rfl, ?_⟩
        refine itB (fun c => ?_) (fun _ => skip _ _ _ _ s2 h2)
        obtain ⟨j', hj', ej⟩ := nats_in c
        have hj : j < rs.length := by
          have := hos j' hj'
          omega
        refine ⟨_, rfl, t, _, rfl, .inr (SqT.of (s2 _ _ htr)), _, rfl, by omega, by omega, ?_⟩
        refine comp_range (fun i' acc H' => H' = H2 ∧ ∃ js : List Nat, acc = natsV js ∧ js.length ≤ i' ∧ (1 + i < i' → 1 + i ∈ js)) ⟨rfl, [], rfl, Nat.le_refl _, fun z => by omega⟩ (fun i' acc H' hi2 ⟨e1, js, e2, e3, e4⟩ => ?_) (fun acc H' ⟨e1, js, e2, e3, e4⟩ p2 hp2 => ?_)
        · subst e1 e2
          have hi3 : i' < ds.length := by omega
          have hat2 : atI (parsV ds ds.length) (0 + (i' : Int)) = some (pV (Tr.par ds i')) := by
            rw [Int.zero_add]
            exact atI_nat (parsV_at ds hi3)
          refine ⟨_, rfl, _, rfl, pp, _, _, _, rfl, rfl, SqL.of (s2 _ _ hpp), hat2, _, rfl, scP _ _, _, rfl, ?_⟩
          refine itB (fun c => ?_) (fun c => ?_)
          · refine ⟨_, rfl, small1000 (by rw [natsV_len]; omega), rfl, js ++ [i'], ?_, by simp; omega, fun z => ?_⟩
            · rw [← natsV_app, Int.zero_add]
            · by_cases e : 1 + i = i'
              · rw [e]
                exact List.mem_append_right _ (List.mem_singleton.mpr rfl)
              · exact List.mem_append_left _ (e4 (by omega))
          · refine ⟨rfl, js, rfl, by omega, fun z => ?_⟩
            by_cases e : 1 + i = i'
            · exfalso
              rw [← e, hpar] at c
              have c' := of_decide_eq_false c
              exact c' rfl
            · exact e4 (by omega)
        subst e1 e2
        have hmem := e4 (by omega)
        have ljs : 0 < js.length := List.length_pos_of_mem hmem
        have s3 := same_new hp2 (.lst (natsV js))
        have s23 := s2.trans s3
        have h3 := s3 _ _ h2
        refine ⟨_, rfl, _, rfl, _, rfl, _, rfl, a, ns, _, _, rfl, s23.seq hS, h63, ⟨by omega, by omega⟩, ⟨by omega, by omega⟩, fun y y0 y1 => ?_⟩
        have ln := natsV_len js
        obtain ⟨pk, _, hpk⟩ := natsV_at (os := js) (i := y % (((natsV js).length : Nat) : Int)) (Int.emod_nonneg _ (by omega)) (by
          have := Int.emod_lt_of_pos y (show (0 : Int) < (((natsV js).length : Nat) : Int) by omega)
          omega)
        refine ⟨_, rfl, p2, _, rfl, .inl (SqL.of upd_same), _, _, rfl, rfl, (by show (0 : Int) < (((natsV js).length : Nat) : Int); omega), p2, _, _, _, rfl, rfl, SqL.of upd_same, hpk, ?_⟩
        obtain ⟨v2, hv2, a2, rfl, ha2⟩ := hrs.get (List.getElem?_eq_getElem hj)
        generalize hH3 : upd H' p2 (.lst (natsV js)) = H3 at s3 s23 h3 ⊢
        refine ⟨fun c H4 => H4 = H3, ?_, ?_⟩
        · refine ⟨_, rfl, _, rfl, t, _, _, _, rfl, rfl, SqT.of (s23 _ _ htr), atI_nat hv2, a2, _, _, _, rfl, rfl, SqT.of (s23 _ _ ha2), rfl, rfl, _, rfl, ?_⟩
          refine itB (fun _ => rfl) (fun _ => ?_)
          exact ⟨_, rfl, _, rfl, rfl, _, rfl, rfl⟩
        rintro c2 H4 rfl
        refine itB (fun _ => ?_) (fun _ => skip _ _ _ _ s23 h3)
        refine ⟨_, rfl, .inl ⟨rfl, _, SqL.of h3⟩, _, rfl, po, _, _, rfl, rfl, h3, small1000 (by rw [natsV_len]; omega), os ++ [1 + i], same_upd hpo s23 _, ?_, fun o ho => ?_, by simp; omega, ?_, List.mem_append_left _ zin, _, _, _, _, rfl⟩
        · rw [upd_same, ← natsV_app, hk]
        · rcases List.mem_append.mp ho with h | h
          · have := hos o h
            omega
          · rw [List.mem_singleton.mp h]
            omega
        · refine List.pairwise_append.mpr ⟨inc, List.pairwise_singleton _ _, fun x hx y hy => ?_⟩
          rw [List.mem_singleton.mp hy]
          exact hos x hx
    · rintro σ' H2 ⟨os, s2, h2, hos, los, inc, zin, o5, o6, o7, o8, rfl⟩
      exact ⟨os, s2, h2, fun o ho => by have := hos o ho; omega, by omega, inc, zin, o5, o6, o7, o8, rfl⟩
  rintro σ' H2 ⟨os, s2, h2, hos, los, inc, zin, o5, o6, o7, o8, rfl⟩
  exact ⟨_, rfl, q po os H2 s2 hpo h2 hos los inc zin⟩
end
end Mix

namespace Prg
open PySem L2 Mix Gds Rms
/-! rows of the numbers of rooms -/
theorem filter_succ {os : List Nat} {f : Nat → Bool} {i o : Nat} (h : os[i]? = some o) : (os.take (i + 1)).filter f = (os.take i).filter f ++ (if f o = true then [o] else []) := by
  rw [List.take_add_one, h, List.filter_append]
  congr 1
  show [o].filter f = _
  rw [List.filter_cons]
  split <;> rfl
theorem natsV_get {os : List Nat} {i : Nat} {x : V} (h : (natsV os)[i]? = some x) : ∃ hi : i < os.length, x = .int ((os[i] : Nat) : Int) := by
  have hi : i < os.length := by
    have := (List.getElem?_eq_some_iff.mp h).1
    rw [natsV_len] at this
    exact this
  refine ⟨hi, ?_⟩
  unfold natsV at h
  rw [List.getElem?_map, List.getElem?_eq_getElem hi] at h
  exact (Option.some.inj h).symm
end Prg

namespace K14
open PySem L2 Mix Gds Rms
/-! steps to the parent -/
def leftOf (ds : List Int) (other : Nat) : Option Nat → Bool
  | none => false
  | some j => j == other || Tr.liesIn ds j other
theorem lies_step (ds : List Int) (k other : Nat) : Tr.liesIn ds k other = leftOf ds other (Tr.par ds k) := by
  cases e : Tr.par ds k with
  | none => exact Tr.liesIn_none e
  | some j => exact Tr.liesIn_some e
def hgt : Option Nat → Nat
  | none => 0
  | some j => j + 1
theorem par_at (ds : List Int) {k : Nat} (h : k < ds.length) : atI (parsV ds ds.length) (k : Int) = some (pV (Tr.par ds k)) := atI_nat (parsV_at ds h)
theorem ne_nat (j o : Nat) : (!decide (V.int (j : Int) = V.int (o : Int))) = !(j == o) := by
  congr 1
  rw [show (j == o) = decide (j = o) from rfl]
  exact decide_eq_decide.mpr ⟨fun h => by injection h with h; omega, fun h => by rw [h]⟩
end K14

namespace K14
open PySem L2 Mix Gds Rms
/-! whether a room is met by steps to the parent -/
def spLies : Sp := fun vs H Q _ => ∃ (p : Addr) (ds : List Int) (one other : Nat), vs = [.ref p, .int (one : Int), .int (other : Int)] ∧ H p = some (.lst (parsV ds ds.length)) ∧ one < ds.length ∧ Q (.bl (Tr.liesIn ds one other)) H
section
variable {P : Program} {w : World} {K : PySem.W.Frag} {mg : Str → Option Value} {base : Heap}
theorem sc_law_lies : FnScope ["_law_parents_here", "_law_one", "_law_other", "_law_at"] ["_law_parents_here", "_law_one", "_law_other"] (defScope sLies) := ⟨rfl, rfl, rfl, by decide +kernel, rfl, by decide +kernel, by decide +kernel⟩
theorem ok_lies {f : Addr} {fd : FuncData} (F : Fun K "_law_lies" "_law_lies" sLies f fd) : FnOk P w K mg base CX0 1 f fd ["_law_parents_here", "_law_one", "_law_other"] spLies := by
  refine F.ok sc_law_lies (fun vs H Q E h => ?_) (fun cdv A outer s H vs Q E hr h => ?_)
  · obtain ⟨p, ds, one, other, rfl, _⟩ := h
    rfl
  obtain ⟨p, ds, one, other, rfl, hp, h1, q⟩ := h
  refine ⟨_, (pss_cons (ps_set (i := 3) sc_law_lies.nd rfl (Or.inl rfl) (pe_ix ix_list (pv 0) (pv 1) (fun _ _ => rfl)))
    (pss_cut (ps_while PassesOwn.never (PW.pt (pw_and (pt_cmpR op_notN (pv 3) pe_non (nomark _)) (pw_and1 (pt_cmpR op_ne (pv 3) (pv 2) (nomark _)))))
      (pss_one (ps_set (i := 3) sc_law_lies.nd rfl (Or.inl rfl) (pe_ix ix_list (pv 0) (pv 3) (fun _ _ => rfl)))))
    (pss_one (ps_ret (pe_cmpR op_notN (pv 3) pe_non (nomark _)))))), ?_⟩
  refine ⟨_, rfl, _, rfl, p, _, _, _, rfl, rfl, SqL.of hp, par_at ds h1, ?_⟩
  refine ⟨fun σ' H' => H' = H ∧ ∃ v : Option Nat, Tr.liesIn ds one other = v.isSome ∧ σ' = [some (.ref p), some (.int (one : Int)), some (.int (other : Int)), some (pV v)], ?_, ?_⟩
  · refine ⟨fun m σ' H' => H' = H ∧ ∃ v : Option Nat, m = hgt v ∧ (∀ j, v = some j → j < ds.length) ∧ Tr.liesIn ds one other = leftOf ds other v ∧ σ' = [some (.ref p), some (.int (one : Int)), some (.int (other : Int)), some (pV v)],
      ⟨_, rfl, _, rfl, fun j e => Nat.lt_trans (Tr.par_lt e) h1, lies_step ds one other, rfl⟩, ?_⟩
    rintro m σ' H' ⟨rfl, v, rfl, hv, hl, rfl⟩
    cases v with
    | none => exact ⟨_, rfl, rfl, _, rfl, ifF rfl (ifF rfl ⟨rfl, none, hl, rfl⟩)⟩
    | some j =>
      have hj := hv j rfl
      have hl' : Tr.liesIn ds one other = (j == other || Tr.liesIn ds j other) := hl
      refine ⟨_, rfl, rfl, _, rfl, ifT rfl ⟨_, rfl, _, rfl, rfl, _, rfl, ?_⟩⟩
      refine itB (fun c => ?_) (fun c => ?_)
      · have c : (!decide (V.int (j : Int) = V.int (other : Int))) = true := c
        rw [ne_nat, Bool.not_eq_true'] at c
        rw [c, Bool.false_or] at hl'
        refine ⟨fun σ' H2 => H2 = H' ∧ Tr.liesIn ds one other = leftOf ds other (Tr.par ds j) ∧ σ' = [some (.ref p), some (.int (one : Int)), some (.int (other : Int)), some (pV (Tr.par ds j))], ?_, ?_⟩
        · rintro σ' H2 ⟨rfl, e, rfl⟩
          refine ⟨hgt (Tr.par ds j), ?_, rfl, _, rfl, fun i e => Nat.lt_trans (Tr.par_lt e) hj, e, rfl⟩
          cases e2 : Tr.par ds j with
          | none => show 0 < j + 1; omega
          | some i => have := Tr.par_lt e2; show i + 1 < j + 1; omega
        · exact ⟨_, rfl, _, rfl, p, _, _, _, rfl, rfl, SqL.of hp, par_at ds hj, rfl, hl'.trans (lies_step ds j other), rfl⟩
      · have c : (!decide (V.int (j : Int) = V.int (other : Int))) = false := c
        rw [ne_nat, Bool.not_eq_false'] at c
        rw [c, Bool.true_or] at hl'
        exact ⟨rfl, some j, hl', rfl⟩
  rintro σ' H' ⟨rfl, v, e, rfl⟩
  rw [e] at q
  cases v with
  | none => exact ⟨_, rfl, rfl, q⟩
  | some j => exact ⟨_, rfl, rfl, q⟩
end
end K14

namespace K14
open PySem L2 Mix Gds Rms
/-! goings out: what is asked of them -/
def under (ds : List Int) (o : Nat) : Option Nat → Bool
  | none => true
  | some u => Tr.liesIn ds o u
def outsOf (ds : List Int) (un : Option Nat) (os : List Nat) : List Nat := (os.filter fun o => under ds o un).reverse
def spOut : Sp := fun vs H Q _ => ∃ (t to' : Addr) (rs : List Rm) (un : Option Nat) (os : List Nat), vs = [.ref t, pV un, .ref to'] ∧ Rooms H t rs ∧ Tr.Good (depths rs) ∧ rs.length ≤ 40 ∧ (∀ u, un = some u → u < rs.length) ∧ H to' = some (.tup (natsV os)) ∧ (∀ o ∈ os, o < rs.length) ∧ os.length ≤ 40 ∧ os.Pairwise (· < ·) ∧
  ∀ (p : Addr) (H' : Hp), Same H H' → H p = none → H' p = some (.lst (natsV (outsOf (depths rs) un os))) → Q (.ref p) H'
theorem outs_mem (ds : List Int) (un : Option Nat) (os : List Nat) (k : Nat) : decide (k ∈ outsOf ds un os) = (decide (k ∈ os) && under ds k un) := by
  unfold outsOf
  rw [Bool.eq_iff_iff, decide_eq_true_iff, Bool.and_eq_true, decide_eq_true_iff, List.mem_reverse, List.mem_filter]
theorem outs_fall (ds : List Int) (un : Option Nat) {os : List Nat} (h : os.Pairwise (· < ·)) : (outsOf ds un os).Pairwise (· > ·) := by
  unfold outsOf
  rw [List.pairwise_reverse]
  exact h.filter _
theorem outs_len (ds : List Int) (un : Option Nat) (os : List Nat) : (outsOf ds un os).length ≤ os.length := by
  unfold outsOf
  rw [List.length_reverse]
  exact List.length_filter_le _ _
theorem outs_sub (ds : List Int) (un : Option Nat) (os : List Nat) {k : Nat} (h : k ∈ outsOf ds un os) : k ∈ os := by
  unfold outsOf at h
  rw [List.mem_reverse, List.mem_filter] at h
  exact h.1
theorem in_nats (k : Nat) (os : List Nat) : inV (.int (k : Int)) (natsV os) = decide (k ∈ os) := by
  rw [Bool.eq_iff_iff, decide_eq_true_iff]
  constructor
  · intro h
    obtain ⟨o, ho, e⟩ := nats_in h
    rw [show k = o by omega]
    exact ho
  · intro h
    unfold inV natsV
    rw [List.any_map, List.any_eq_true]
    exact ⟨k, h, by simp [eqV]⟩
theorem nats_lt (os : List Nat) {k : Nat} (h : k < os.length) : atI (natsV os) (k : Int) = some (.int ((os[k] : Nat) : Int)) := atI_nat (by unfold natsV; rw [List.getElem?_map, List.getElem?_eq_getElem h]; rfl)
end K14

namespace Prg
open PySem L2 Mix Gds Rms
/-! goings in: what is asked of them -/
def kindAt (rs : List Rm) (p : Nat) : Str := (rs.map (·.kind)).getD p ("" : Str)
theorem kind_at {rs : List Rm} {p : Nat} {r : Rm} (h : rs[p]? = some r) : kindAt rs p = r.kind := by
  unfold kindAt
  rw [List.getD_eq_getElem?_getD, List.getElem?_map, h]
  rfl
def alB (rs : List Rm) (p : Nat) : Bool := decide (kindAt rs p = ("all" : Str))
def onB (rs : List Rm) (p : Nat) : Bool := decide (kindAt rs p = ("one" : Str))
theorem up_next {ds : List Int} {j k : Nat} (hj : j < ds.length) (h : Tr.par ds j = some k) : k + 1 < ds.length ∧ ds.getD k 0 < ds.getD (k + 1) 0 := by
  obtain ⟨h1, h2, h3⟩ := Tr.par_iff.mp h
  refine ⟨by omega, ?_⟩
  by_cases q : j = k + 1
  · rw [← q]
    exact h2
  · have := h3 (k + 1) (by omega) (by omega)
    omega
theorem Fit.par {rs : List Rm} (f : Fit rs) {j k : Nat} (hj : j < rs.length) (h : Tr.par (depths rs) j = some k) : alB rs k = true ∨ onB rs k = true := by
  have ld := depths_len rs
  obtain ⟨a, b⟩ := up_next (by omega) h
  have e := List.getElem?_eq_getElem (show k < rs.length by omega)
  have q := f k _ e
  rw [if_pos ⟨by omega, b⟩] at q
  unfold alB onB
  rw [kind_at e]
  rcases q with q | q
  · exact .inr (decide_eq_true q)
  · exact .inl (decide_eq_true q)
theorem Fit.one {rs : List Rm} (g : Tr.Good (depths rs)) (f : Fit rs) (k : Nat) (h : onB rs k = true) : Tr.kids (depths rs) k ≠ [] := by
  have h' := of_decide_eq_true h
  have ld := depths_len rs
  by_cases hk : k < rs.length
  · have e := List.getElem?_eq_getElem hk
    rw [kind_at e] at h'
    have q := f k _ e
    by_cases c : k + 1 < rs.length ∧ (depths rs).getD k 0 < (depths rs).getD (k + 1) 0
    · have m : k + 1 ∈ Tr.kids (depths rs) k := Tr.mem_kids.mpr ⟨by omega, Tr.par_iff.mpr ⟨by omega, c.2, fun i h1 h2 => by omega⟩⟩
      intro z
      rw [z] at m
      cases m
    · rw [if_neg c, h'] at q
      exact absurd q (by decide)
  · unfold kindAt at h'
    rw [List.getD_eq_getElem?_getD, List.getElem?_eq_none (by rw [List.length_map]; omega)] at h'
    exact absurd h' (by decide)
def GoalsIn (H : Hp) (pg : Addr) (rs : List Rm) (gs : List Nat) : Prop := H pg = some (.lst (natsV gs)) ∧ (∀ g ∈ gs, g < rs.length) ∧ gs.length ≤ 100
theorem GoalsIn.mono {H H' : Hp} {pg : Addr} {rs : List Rm} {gs : List Nat} (h : GoalsIn H pg rs gs) (s : Same H H') : GoalsIn H' pg rs gs := ⟨s _ _ h.1, h.2⟩
def spBears : Sp := fun vs H Q _ => ∃ (t pg : Addr) (rs : List Rm) (k : Nat) (gs : List Nat), vs = [.ref t, .int (k : Int), .ref pg] ∧ Rooms H t rs ∧ rs.length ≤ 40 ∧ k < rs.length ∧ GoalsIn H pg rs gs ∧ ∀ H', Same H H' → Q (.bl (Tr.bears (depths rs) gs k)) H'
def spNext : Sp := fun vs H Q _ => ∃ (t pg : Addr) (rs : List Rm) (k : Nat) (gs : List Nat), vs = [.ref t, .int (k : Int), .ref pg] ∧ Rooms H t rs ∧ Tr.Good (depths rs) ∧ rs.length ≤ 40 ∧ k < rs.length ∧ GoalsIn H pg rs gs ∧
  ∀ (p : Addr) (H' : Hp), Same H H' → H p = none → H' p = some (.lst (natsV (Tr.next (depths rs) (alB rs) gs k))) → Q (.ref p) H'
def spIn : Sp := fun vs H Q _ => ∃ (t pg : Addr) (rs : List Rm) (un : Option Nat) (gs : List Nat), vs = [.ref t, pV un, .ref pg] ∧ Rooms H t rs ∧ Tr.Good (depths rs) ∧ rs.length ≤ 40 ∧ (∀ u, un = some u → u < rs.length) ∧ GoalsIn H pg rs gs ∧
  ∀ (p : Addr) (ms : List Nat) (H' : Hp), Same H H' → H p = none → H' p = some (.lst (natsV ms)) → Tr.Ins (depths rs) (alB rs) gs un ms → Q (.ref p) H'
end Prg

namespace Prg
open PySem L2 Mix Gds Rms
/-! what is kept -/
def RowIn (H : Hp) (v : V) (k : List Nat) : Prop := ∃ a : Addr, v = .ref a ∧ H a = some (.tup (natsV k))
inductive RowsIn (H : Hp) : List V → List (List Nat) → Prop where
  | nil : RowsIn H [] []
  | cons {v : V} {k : List Nat} {vs : List V} {ks : List (List Nat)} : RowIn H v k → RowsIn H vs ks → RowsIn H (v :: vs) (k :: ks)
theorem RowIn.mono {H H' : Hp} {v : V} {k : List Nat} (x : RowIn H v k) (s : KeepT H H') : RowIn H' v k := by
  obtain ⟨a, e, h⟩ := x
  exact ⟨a, e, s _ _ h⟩
theorem RowsIn.mono {H H' : Hp} {vs : List V} {ks : List (List Nat)} (x : RowsIn H vs ks) (s : KeepT H H') : RowsIn H' vs ks := by
  induction x with
  | nil => exact .nil
  | cons h _ ih => exact .cons (h.mono s) ih
theorem RowsIn.length {H : Hp} {vs : List V} {ks : List (List Nat)} (x : RowsIn H vs ks) : vs.length = ks.length := by
  induction x with
  | nil => rfl
  | cons _ _ ih => rw [List.length_cons, List.length_cons, ih]
theorem RowsIn.get {H : Hp} {vs : List V} {ks : List (List Nat)} (x : RowsIn H vs ks) : ∀ {i : Nat} {k : List Nat}, ks[i]? = some k → ∃ v, vs[i]? = some v ∧ RowIn H v k := by
  induction x with
  | nil => intro i k h; simp at h
  | cons h _ ih =>
    intro i k e
    cases i with
    | zero =>
      simp at e
      subst e
      exact ⟨_, rfl, h⟩
    | succ i => exact ih (by simpa using e)
theorem RowsIn.set {H : Hp} {vs : List V} {ks : List (List Nat)} (x : RowsIn H vs ks) {v : V} {k : List Nat} (h : RowIn H v k) : ∀ i : Nat, RowsIn H (vs.set i v) (ks.set i k) := by
  induction x with
  | nil => intro i; exact .nil
  | cons h' hs ih =>
    intro i
    cases i with
    | zero => exact .cons h hs
    | succ i => exact .cons h' (ih i)
theorem RowsIn.snoc {H : Hp} {vs : List V} {ks : List (List Nat)} {v : V} {k : List Nat} (x : RowsIn H vs ks) (y : RowIn H v k) : RowsIn H (vs ++ [v]) (ks ++ [k]) := by
  induction x with
  | nil => exact .cons y .nil
  | cons h _ ih => exact .cons h ih
def keepsAt (rs : List Rm) (p : Nat) : Str := (rs.map (·.keeps)).getD p ("" : Str)
theorem keeps_at {rs : List Rm} {p : Nat} {r : Rm} (h : rs[p]? = some r) : keepsAt rs p = r.keeps := by
  unfold keepsAt
  rw [List.getD_eq_getElem?_getD, List.getElem?_map, h]
  rfl
def plB (rs : List Rm) (p : Nat) : Bool := decide (kindAt rs p = ("plain" : Str))
def insideOf (ds : List Int) (os : List Nat) (r : Nat) : List Nat := os.filter fun o => Tr.liesIn ds o r
/-- what is kept of a room -/
def keptV (rs : List Rm) (os : List Nat) (r : Nat) : List Nat := if keepsAt rs r = ("near" : Str) then (insideOf (depths rs) os r).take 1 else (insideOf (depths rs) os r).filter (plB rs)
def keptFold (rs : List Rm) (os : List Nat) (ls : List Nat) (ks : List (List Nat)) : List (List Nat) := ls.foldl (fun k r => if keepsAt rs r = ("" : Str) then k else k.set r (keptV rs os r)) ks
theorem keptFold_len (rs : List Rm) (os : List Nat) : ∀ (ls : List Nat) (ks : List (List Nat)), (keptFold rs os ls ks).length = ks.length
  | [], _ => rfl
  | r :: ls, ks => by
    show (keptFold rs os ls (if keepsAt rs r = ("" : Str) then ks else ks.set r (keptV rs os r))).length = _
    rw [keptFold_len rs os ls]
    split
    · rfl
    · rw [List.length_set]
theorem keptFold_snoc (rs : List Rm) (os ls : List Nat) (r : Nat) (ks : List (List Nat)) : keptFold rs os (ls ++ [r]) ks = if keepsAt rs r = ("" : Str) then keptFold rs os ls ks else (keptFold rs os ls ks).set r (keptV rs os r) := by
  unfold keptFold
  rw [List.foldl_append]
  rfl
theorem keptFold_at (rs : List Rm) (os : List Nat) : ∀ (ls : List Nat) (ks : List (List Nat)) (r : Nat), r < ks.length → (keptFold rs os ls ks)[r]? = if r ∈ ls ∧ keepsAt rs r ≠ ("" : Str) then some (keptV rs os r) else ks[r]?
  | [], ks, r, h => by
    rw [if_neg (fun z => by cases z.1)]
    rfl
  | x :: ls, ks, r, h => by
    show (keptFold rs os ls (if keepsAt rs x = ("" : Str) then ks else ks.set x (keptV rs os x)))[r]? = _
    by_cases c : keepsAt rs x = ("" : Str)
    · rw [if_pos c, keptFold_at rs os ls ks r h]
      by_cases e : r = x
      · subst e
        rw [if_neg (fun z => z.2 c), if_neg (fun z => z.2 c)]
      · have : (r ∈ x :: ls) ↔ r ∈ ls := ⟨fun z => (List.mem_cons.mp z).elim (fun z => absurd z e) id, List.mem_cons_of_mem _⟩
        by_cases m : r ∈ ls ∧ keepsAt rs r ≠ ("" : Str)
        · rw [if_pos m, if_pos ⟨this.mpr m.1, m.2⟩]
        · rw [if_neg m, if_neg (fun z => m ⟨this.mp z.1, z.2⟩)]
    · rw [if_neg c, keptFold_at rs os ls _ r (by rw [List.length_set]; exact h)]
      by_cases e : r = x
      · subst e
        rw [if_pos (show r ∈ r :: ls ∧ keepsAt rs r ≠ ("" : Str) from ⟨List.mem_cons_self, c⟩)]
        split
        · rfl
        · rw [List.getElem?_set_self h]
      · have : (r ∈ x :: ls) ↔ r ∈ ls := ⟨fun z => (List.mem_cons.mp z).elim (fun z => absurd z e) id, List.mem_cons_of_mem _⟩
        rw [List.getElem?_set_ne (Ne.symm e)]
        by_cases m : r ∈ ls ∧ keepsAt rs r ≠ ("" : Str)
        · rw [if_pos m, if_pos ⟨this.mpr m.1, m.2⟩]
        · rw [if_neg m, if_neg (fun z => m ⟨this.mp z.1, z.2⟩)]
end Prg

namespace Mix
open PySem L2 Gds Rms Prg
/-! an opening by the cells: it is full -/
def selF (ns : List Int) (salt : Int) (ds : List Int) (p : Nat) : Nat := (Tr.kids ds p).getD (mixF ns (p : Int) salt % ((Tr.kids ds p).length : Int)).toNat 0
theorem selF_mem (ns : List Int) (salt : Int) (ds : List Int) (p : Nat) (h : Tr.kids ds p ≠ []) : selF ns salt ds p ∈ Tr.kids ds p := by
  have hp : 0 < (Tr.kids ds p).length := List.length_pos_iff.mpr h
  have e0 := Int.emod_nonneg (mixF ns (p : Int) salt) (show ((Tr.kids ds p).length : Int) ≠ 0 by omega)
  have e1 := Int.emod_lt_of_pos (mixF ns (p : Int) salt) (show (0 : Int) < ((Tr.kids ds p).length : Int) by omega)
  unfold selF
  rw [List.getD_eq_getElem?_getD, List.getElem?_eq_getElem (by omega)]
  exact List.getElem_mem _
def spOpeningD (K : PySem.W.Frag) : Sp := fun vs H Q _ => ∃ (a t pp : Addr) (ns : List Int) (rs : List Rm) (salt : Int), vs = [.ref a, .ref t, .ref pp, .int salt] ∧ SqL K H a (ns.map V.int) ∧ ns.length ≤ 63 ∧ Rooms H t rs ∧ Tr.Good (depths rs) ∧ Fit rs ∧ H pp = some (.lst (parsV (depths rs) (depths rs).length)) ∧ rs.length ≤ 40 ∧ (0 ≤ salt ∧ salt ≤ 1000) ∧
  ∀ (p : Addr) (os : List Nat) (H' : Hp), Same H H' → H p = none → H' p = some (.lst (natsV os)) → (∀ o ∈ os, o < rs.length) → os.length ≤ 40 → Tr.FullB (depths rs) (onB rs) (alB rs) os → Q (.ref p) H'
section
variable {P : Program} {w : World} {K : PySem.W.Frag} {mg : Str → Option Value} {base : Heap}
theorem ok_openingD {f gm : Addr} {fd dm : FuncData} (F : Fun K "_law_opening" "_law_opening" sOpening f fd)
    (G_law_mixedD : FnOk P w K mg base CX0 2 gm dm ["_law_script", "_law_k", "_law_salt"] (spMixedD K)) (b_law_mixed : Binds K dm ["_law_script", "_law_k", "_law_salt"] []) (k_law_mixed : PySem.W.keepIn K (.ref gm) = true) (m_law_mixed : mg "_law_mixed" = some (.ref gm))
    (m_range : mg "range" = none) (m_len : mg "len" = none) : FnOk P w K mg base CX0 3 f fd ["_law_script", "_law_rooms_here", "_law_parents_here", "_law_salt"] (spOpeningD K) := by
  refine F.ok sc_law_opening (fun vs H Q E h => ?_) (fun cdv A outer s H vs Q E hr h => ?_)
  · obtain ⟨a, t, pp, ns, rs, salt, rfl, _⟩ := h
    rfl
  obtain ⟨a, t, pp, ns, rs, salt, rfl, hS, h63, hR, good, fit, hpp, l40, ⟨t0, t1⟩, q⟩ := h
  refine ⟨_, (pss_cons (ps_set (i := 4) sc_law_opening.nd rfl (Or.inl rfl) (pe_lst (pa_cons pe_int pa_nil)))
    (pss_cut (ps_for PassesOwn.never rfl (pi_range2 rfl m_range (pa_cons pe_int (pa_cons (pe_callB call_len_seq rfl m_len PySem.boot_len (pa_cons (pv 1) pa_nil)) pa_nil))) (pg_name (i := 5) sc_law_opening.nd rfl (Or.inl rfl))
      (pss_cons (ps_set (i := 6) sc_law_opening.nd rfl (Or.inr rfl) (pe_ix ix_list (pv 2) (pv 5) (fun _ _ => rfl)))
      (pss_one (ps_if (pt_cmpR op_in_seq (pv 6) (pv 4) rfl)
        (pss_cons (ps_setC (i := 7) (caps := [(6, "_law_above"), (2, "_law_parents_here")]) rfl sc_law_opening.nd rfl (Or.inl rfl) (show CompSc (defScope sOpening) ["_law_script", "_law_rooms_here", "_law_parents_here", "_law_salt", "_law_opened", "_law_k", "_law_above", "_law_near", "_law_pick"] _ _ _ from ⟨rfl, rfl, by decide +kernel, by decide +kernel, by decide +kernel, by decide +kernel, by decide +kernel⟩) (pi_range1 rfl m_range (pa_cons (pe_callB call_len_seq rfl m_len PySem.boot_len (pa_cons (pv 1) pa_nil)) pa_nil)) (fun _ _ _ _ _ _ => pifs_one (pt_cmpR op_eq (pe_ix (r := rIxL K) ix_list (pv 2) (pv 0) (fun _ _ => rfl)) (pv 1) (nomark _))) (fun _ _ _ _ _ _ => (pv 0)))
        (pss_cons (ps_set (i := 8) sc_law_opening.nd rfl (Or.inl rfl) (pe_ix ix_list (pv 7) (pe_op op_mod (pe_call G_law_mixedD hr rfl m_law_mixed k_law_mixed b_law_mixed .nil pass0 (pa_cons (pv 0) (pa_cons (pv 6) (pa_cons (pv 3) pa_nil)))) (pe_callB call_len_seq rfl m_len PySem.boot_len (pa_cons (pv 7) pa_nil))) (fun _ _ => rfl)))
        (pss_one (ps_if (pt_cut (PW.pt (pw_or (pt_cmpR op_eq (pe_ix ix_tup (pe_ix ix_tup (pv 1) (pv 6) (fun _ _ => rfl)) pe_int (fun _ _ => rfl)) pe_str (nomark _)) (pw_or1 (pt_cmpR op_eq (pv 8) (pv 5) (nomark _))))))
          (pss_one (ps_expr (pe_bm PySem.F.plainAttrs_list PySem.F.slot_list_append PySem.F.type_list_append mt_append (pv 4) (pa_cons (pv 5) pa_nil))))
          pss_nil))))
        pss_nil))))
    (pss_one (ps_ret (pv 4))))), ?_⟩
  obtain ⟨rv, htr, hrs⟩ := id hR
  have lrv := hrs.length
  have ld : (depths rs).length = rs.length := depths_len rs
  have l1 : 1 ≤ rs.length := by
    have := good.pos
    omega
  refine ⟨small_le (by show 1 ≤ 1000; decide), fun po hpo => ?_⟩
  have s1 := same_new hpo (.lst [V.int 0])
  refine ⟨fun σ' H' => ∃ os : List Nat, Same H H' ∧ H' po = some (.lst (natsV os)) ∧ (∀ o ∈ os, o < rs.length) ∧ os.length ≤ 40 ∧ Tr.FullB (depths rs) (onB rs) (alB rs) os ∧ ∃ o5 o6 o7 o8 : Option V, σ' = [some (.ref a), some (.ref t), some (.ref pp), some (.int salt), some (.ref po), o5, o6, o7, o8], ?_, ?_⟩
  · refine ⟨_, rfl, t, _, rfl, .inr (SqT.of (s1 _ _ htr)), 1, (rv.length : Int), rfl, ⟨by decide, by decide, by omega, by omega⟩, ?_⟩
    refine for_range (fun i σ' H' => ∃ os : List Nat, Same H H' ∧ H' po = some (.lst (natsV os)) ∧ (∀ o ∈ os, o < 1 + i) ∧ os.length ≤ 1 + i ∧ os.Pairwise (· < ·) ∧ 0 ∈ os ∧ (∀ k p, k < 1 + i → Tr.par (depths rs) k = some p → (k ∈ os ↔ (p ∈ os ∧ (alB rs p = true ∨ selF ns salt (depths rs) p = k)))) ∧ ∃ o5 o6 o7 o8 : Option V, σ' = [some (.ref a), some (.ref t), some (.ref pp), some (.int salt), some (.ref po), o5, o6, o7, o8])
      ⟨[0], s1, upd_same, fun o ho => (by rw [List.mem_singleton.mp ho]; omega), (by show 1 ≤ 1 + 0; decide), List.pairwise_singleton _ _, List.mem_singleton.mpr rfl, fun k p hk hp => (by have := Tr.par_lt hp; omega), _, _, _, _, rfl⟩ ?_ ?_
    · rintro i σ' H2 hi ⟨os, s2, h2, hos, los, inc, zin, char, o5, o6, o7, o8, rfl⟩
      have hi' : 1 + i < rs.length := by omega
      have hk : (1 : Int) + (i : Int) = ((1 + i : Nat) : Int) := by omega
      have hat : atI (parsV (depths rs) (depths rs).length) (1 + (i : Int)) = some (pV (Tr.par (depths rs) (1 + i))) := by
        rw [hk]
        exact atI_nat (parsV_at (depths rs) (by omega))
      refine ⟨_, rfl, _, rfl, pp, _, _, _, rfl, rfl, SqL.of (s2 _ _ hpp), hat, ?_⟩
      have nin : 1 + i ∉ os := fun z => by
        have := hos _ z
        omega
      have skip : ∀ (H' : Hp) (x6 x7 x8 : Option V), Same H H' → H' po = some (.lst (natsV os)) → (∀ p, Tr.par (depths rs) (1 + i) = some p → ¬ (p ∈ os ∧ (alB rs p = true ∨ selF ns salt (depths rs) p = 1 + i))) →
          ∃ os' : List Nat, Same H H' ∧ H' po = some (.lst (natsV os')) ∧ (∀ o ∈ os', o < 1 + (i + 1)) ∧ os'.length ≤ 1 + (i + 1) ∧ os'.Pairwise (· < ·) ∧ 0 ∈ os' ∧ (∀ k p, k < 1 + (i + 1) → Tr.par (depths rs) k = some p → (k ∈ os' ↔ (p ∈ os' ∧ (alB rs p = true ∨ selF ns salt (depths rs) p = k)))) ∧ ∃ o5 o6 o7 o8 : Option V, [some (.ref a), some (.ref t), some (.ref pp), some (.int salt), some (.ref po), some (.int (1 + (i : Int))), x6, x7, x8] = [some (.ref a), some (.ref t), some (.ref pp), some (.int salt), some (.ref po), o5, o6, o7, o8] := fun H' x6 x7 x8 s h no => ⟨os, s, h, fun o ho => by have := hos o ho; omega, by omega, inc, zin, fun k p hk' hp => by
            by_cases e : k = 1 + i
            · subst e
              exact ⟨fun z => absurd z nin, fun z => absurd z (no p hp)⟩
            · exact char k p (by omega) hp, _, _, _, _, rfl⟩
      cases hpar : Tr.par (depths rs) (1 + i) with
      | none => exact ⟨_, rfl, _, rfl, po, _, rfl, .inl (SqL.of h2), rfl, nats_flat os, _, rfl, ifF (nats_non os) (skip _ _ _ _ s2 h2 fun p hp => by rw [hpar] at hp; cases hp)⟩
      | some j =>
        have jl := Tr.par_lt hpar
        refine ⟨_, rfl, _, rfl, po, _, rfl, .inl (SqL.of h2), rfl, nats_flat os, _, rfl, ?_⟩
        have ei : inV (.int (j : Int)) (natsV os) = decide (j ∈ os) := K14.in_nats j os
        refine itB (fun c => ?_) (fun c => skip _ _ _ _ s2 h2 fun p hp z => ?_)
        rotate_left
        · rw [hpar] at hp
          cases hp
          have : decide (j ∈ os) = false := ei.symm.trans c
          exact of_decide_eq_false this z.1
        have jo : j ∈ os := of_decide_eq_true (ei.symm.trans c)
        have hj : j < rs.length := by omega
        refine ⟨_, rfl, t, _, rfl, .inr (SqT.of (s2 _ _ htr)), _, rfl, by omega, by omega, ?_⟩
        refine comp_range (fun i' acc H' => H' = H2 ∧ acc = natsV (Tr.kidsTo (depths rs) j i')) ⟨rfl, rfl⟩ (fun i' acc H' hi2 ⟨e1, e2⟩ => ?_) (fun acc H' ⟨e1, e2⟩ p2 hp2 => ?_)
        · subst e1 e2
          have hi3 : i' < (depths rs).length := by omega
          have hat2 : atI (parsV (depths rs) (depths rs).length) (0 + (i' : Int)) = some (pV (Tr.par (depths rs) i')) := by
            rw [Int.zero_add]
            exact atI_nat (parsV_at (depths rs) hi3)
          have kl := Tr.kidsTo_len (depths rs) j i'
          refine ⟨_, rfl, _, rfl, pp, _, _, _, rfl, rfl, SqL.of (s2 _ _ hpp), hat2, _, rfl, scP _ _, _, rfl, ?_⟩
          have eb : decide (pV (Tr.par (depths rs) i') = V.int (j : Int)) = (Tr.par (depths rs) i' == some j) := by
            cases Tr.par (depths rs) i' with
            | none => exact decide_eq_false (fun z => by cases z)
            | some x =>
              rw [show ((some x : Option Nat) == some j) = decide (x = j) from rfl]
              exact decide_eq_decide.mpr ⟨fun z => by injection z with z; omega, fun z => by rw [z]; rfl⟩
          rw [Tr.kidsTo_succ]
          refine itB (fun c => ?_) (fun c => ?_)
          · have c' : (Tr.par (depths rs) i' == some j) = true := eb.symm.trans c
            rw [if_pos c', ← natsV_app]
            exact ⟨_, rfl, small1000 (by rw [natsV_len]; omega), rfl, by rw [Int.zero_add]⟩
          · have c' : (Tr.par (depths rs) i' == some j) = false := eb.symm.trans c
            rw [if_neg (by rw [c']; exact Bool.false_ne_true), List.append_nil]
            exact ⟨rfl, rfl⟩
        have e3 : acc = natsV (Tr.kids (depths rs) j) := by
          rw [e2]
          unfold Tr.kids
          congr 2 <;> omega
        subst e1
        subst e3
        have hmem : 1 + i ∈ Tr.kids (depths rs) j := Tr.mem_kids.mpr ⟨by omega, hpar⟩
        have ljs : 0 < (Tr.kids (depths rs) j).length := List.length_pos_of_mem hmem
        have s3 := same_new hp2 (.lst (natsV (Tr.kids (depths rs) j)))
        have hp3 : (upd H' p2 (.lst (natsV (Tr.kids (depths rs) j)))) p2 = some (.lst (natsV (Tr.kids (depths rs) j))) := upd_same
        have s23 := s2.trans s3
        have h3 := s3 _ _ h2
        generalize upd H' p2 (.lst (natsV (Tr.kids (depths rs) j))) = H3 at s3 s23 h3 hp3 ⊢
        have ln := natsV_len (Tr.kids (depths rs) j)
        have e0 := Int.emod_nonneg (mixF ns (j : Int) salt) (show (((natsV (Tr.kids (depths rs) j)).length : Nat) : Int) ≠ 0 by omega)
        have e1' := Int.emod_lt_of_pos (mixF ns (j : Int) salt) (show (0 : Int) < (((natsV (Tr.kids (depths rs) j)).length : Nat) : Int) by omega)
        have hpk : atI (natsV (Tr.kids (depths rs) j)) (mixF ns (j : Int) salt % (((natsV (Tr.kids (depths rs) j)).length : Nat) : Int)) = some (.int ((selF ns salt (depths rs) j : Nat) : Int)) := by
          unfold selF
          rw [ln] at e0 e1' ⊢
          generalize mixF ns (j : Int) salt % (((Tr.kids (depths rs) j).length : Nat) : Int) = y at e0 e1'
          obtain ⟨y', rfl⟩ : ∃ y' : Nat, y = (y' : Int) := ⟨y.toNat, by omega⟩
          refine atI_nat ?_
          unfold natsV
          rw [List.getElem?_map, Int.toNat_natCast, List.getD_eq_getElem?_getD, List.getElem?_eq_getElem (by omega)]
          rfl
        refine ⟨_, rfl, _, rfl, _, rfl, _, rfl, a, ns, _, _, rfl, s23.seq hS, h63, ⟨by omega, by omega⟩, ⟨by omega, by omega⟩, ?_⟩
        refine ⟨_, rfl, p2, _, rfl, .inl (SqL.of hp3), _, _, rfl, rfl, (by show (0 : Int) < (((natsV (Tr.kids (depths rs) j)).length : Nat) : Int); omega), p2, _, _, _, rfl, rfl, SqL.of hp3, hpk, ?_⟩
        have er := List.getElem?_eq_getElem hj
        obtain ⟨v2, hv2, a2, rfl, ha2⟩ := hrs.get er
        have eal : alB rs j = decide (V.str rs[j].kind = V.str ("all" : Str)) := by
          unfold alB
          rw [kind_at er]
          exact decide_eq_decide.mpr ⟨fun z => by rw [z], fun z => by injection z⟩
        refine ⟨fun c H4 => H4 = H3 ∧ c = (alB rs j || decide (selF ns salt (depths rs) j = 1 + i)), ?_, ?_⟩
        · refine ⟨_, rfl, _, rfl, t, _, _, _, rfl, rfl, SqT.of (s23 _ _ htr), atI_nat hv2, a2, _, _, _, rfl, rfl, SqT.of (s23 _ _ ha2), rfl, rfl, _, rfl, ?_⟩
          refine itB (fun c => ⟨rfl, by rw [show alB rs j = true from eal.trans c, Bool.true_or]⟩) (fun c => ?_)
          refine ⟨_, rfl, _, rfl, rfl, _, rfl, rfl, ?_⟩
          rw [show alB rs j = false from eal.trans c, Bool.false_or]
          exact decide_eq_decide.mpr ⟨fun z => by injection z with z; omega, fun z => by rw [z, hk]⟩
        rintro c2 H4 ⟨rfl, rfl⟩
        refine itB (fun c2 => ?_) (fun c2 => skip _ _ _ _ s23 h3 fun p hp z => ?_)
        rotate_left
        · rw [hpar] at hp
          cases hp
          rw [Bool.or_eq_false_iff] at c2
          rcases z.2 with y | y
          · rw [c2.1] at y
            cases y
          · exact of_decide_eq_false c2.2 y
        rw [Bool.or_eq_true, decide_eq_true_iff] at c2
        refine ⟨_, rfl, .inl ⟨rfl, _, SqL.of h3⟩, _, rfl, po, _, _, rfl, rfl, h3, small1000 (by rw [natsV_len]; omega), os ++ [1 + i], same_upd hpo s23 _, ?_, fun o ho => ?_, by simp; omega, ?_, List.mem_append_left _ zin, fun k p hk' hp => ?_, _, _, _, _, rfl⟩
        · rw [upd_same, ← natsV_app, hk]
        · rcases List.mem_append.mp ho with h | h
          · have := hos o h
            omega
          · rw [List.mem_singleton.mp h]
            omega
        · refine List.pairwise_append.mpr ⟨inc, List.pairwise_singleton _ _, fun x hx y hy => ?_⟩
          rw [List.mem_singleton.mp hy]
          exact hos x hx
        · have pl := Tr.par_lt hp
          have pm : p ∈ os ++ [1 + i] ↔ p ∈ os := by
            rw [List.mem_append, List.mem_singleton]
            exact ⟨fun z => z.elim id fun z => by omega, .inl⟩
          rw [pm]
          by_cases e : k = 1 + i
          · subst e
            rw [hpar] at hp
            cases hp
            exact ⟨fun _ => ⟨jo, c2⟩, fun _ => List.mem_append_right _ (List.mem_singleton.mpr rfl)⟩
          · rw [List.mem_append, List.mem_singleton, ← char k p (by omega) hp]
            exact ⟨fun z => z.elim id fun z => absurd z e, .inl⟩
    · rintro σ' H2 ⟨os, s2, h2, hos, los, inc, zin, char, o5, o6, o7, o8, rfl⟩
      refine ⟨os, s2, h2, fun o ho => by have := hos o ho; omega, by omega, ?_, o5, o6, o7, o8, rfl⟩
      exact Tr.sel_full inc zin (fun k p hk hp => char k p (by omega) hp) (selF_mem ns salt (depths rs)) (fun k p hk hp => Fit.par fit (by omega) hp) (fun p h => Fit.one good fit p h)
  rintro σ' H2 ⟨os, s2, h2, hos, los, full, o5, o6, o7, o8, rfl⟩
  exact ⟨_, rfl, q po os H2 s2 hpo h2 hos los full⟩
end
end Mix

namespace K17
open PySem L2 Mix Gds Rms Prg
/-! k17: what is kept leads back -/
def OkUn (ds : List Int) (room : Nat) (un : Option Nat) : Prop := ∀ u, un = some u → u = room ∨ Tr.liesIn ds room u = true
theorem Fit.pl {rs : List Rm} (f : Fit rs) (c : Nat) (h : c < (depths rs).length) (hk : Tr.kids (depths rs) c = []) : plB rs c = true := by
  have ld := depths_len rs
  have e := List.getElem?_eq_getElem (show c < rs.length by omega)
  have q := f c _ e
  by_cases k : c + 1 < rs.length ∧ (depths rs).getD c 0 < (depths rs).getD (c + 1) 0
  · exfalso
    have m : c + 1 ∈ Tr.kids (depths rs) c := Tr.mem_kids.mpr ⟨by omega, Tr.par_iff.mpr ⟨by omega, k.2, fun i h1 h2 => by omega⟩⟩
    rw [hk] at m
    cases m
  · rw [if_neg k] at q
    unfold plB
    rw [kind_at e]
    exact decide_eq_true q
section
variable {rs : List Rm} {os : List Nat} {room : Nat}
theorem fitK (fit : Fit rs) : ∀ k p, k < (depths rs).length → Tr.par (depths rs) k = some p → (alB rs p = true ∨ onB rs p = true) := fun k p hk hp => Fit.par fit (by rw [← depths_len rs]; exact hk) hp
theorem goals_in (f : Tr.FullB (depths rs) (onB rs) (alB rs) os) (lt : ∀ o ∈ os, o < rs.length) (fit : Fit rs) (kk : KeepKind rs) (ro : room ∈ os) (hk : keepsAt rs room ≠ ("" : Str)) :
    keptV rs os room ≠ [] ∧ (∀ g ∈ keptV rs os room, g ∈ os ∧ Tr.liesIn (depths rs) g room = true) := by
  have ld := depths_len rs
  have e := List.getElem?_eq_getElem (lt room ro)
  have kr := kk _ (List.getElem_mem (lt room ro))
  rw [keeps_at e] at hk
  have lt' : ∀ o ∈ os, o < (depths rs).length := fun o h => by rw [ld]; exact lt o h
  unfold keptV
  by_cases c : keepsAt rs room = ("near" : Str)
  · rw [if_pos c]
    rw [keeps_at e] at c
    have k1 := kr.1 c
    have ho : onB rs room = true := by
      unfold onB
      rw [kind_at e]
      exact decide_eq_true k1
    have ha : alB rs room = false := by
      unfold alB
      rw [kind_at e, k1]
      decide
    obtain ⟨k, ko, kp, e1, _⟩ := Tr.near_kid f lt' ro ho ha
    unfold insideOf
    rw [e1]
    refine ⟨by simp, fun g hg => ?_⟩
    rw [List.mem_singleton.mp hg]
    exact ⟨ko, Tr.lies_par kp⟩
  · rw [if_neg c]
    refine ⟨?_, fun g hg => ?_⟩
    · obtain ⟨x, xo, xp, xb⟩ := Tr.plain_below f lt' (fitK fit) (Fit.pl fit) (depths rs).length room (by omega) ro
      have xl : Tr.liesIn (depths rs) x room = true := by
        rcases xb with h | h
        · exfalso
          rw [h] at xp
          unfold plB at xp
          rw [kind_at e] at xp
          exact kr.2 hk (of_decide_eq_true xp)
        · exact h
      intro z
      have : x ∈ (insideOf (depths rs) os room).filter (plB rs) := by
        unfold insideOf
        rw [List.mem_filter, List.mem_filter]
        exact ⟨⟨xo, xl⟩, xp⟩
      rw [z] at this
      cases this
    · unfold insideOf at hg
      rw [List.mem_filter, List.mem_filter] at hg
      exact hg.1
theorem back_room (good : Tr.Good (depths rs)) (f : Tr.FullB (depths rs) (onB rs) (alB rs) os) (lt : ∀ o ∈ os, o < rs.length) (fit : Fit rs) (kk : KeepKind rs) (ro : room ∈ os) (hk : keepsAt rs room ≠ ("" : Str)) {un : Option Nat} (hu : OkUn (depths rs) room un) :
    un = some room ∨ Tr.Gone (depths rs) (alB rs) (keptV rs os room) un room := by
  have ld := depths_len rs
  obtain ⟨g1, g2⟩ := goals_in f lt fit kk ro hk
  by_cases c : un = some room
  · exact .inl c
  · refine .inr (Tr.reach good (by rw [ld]; exact lt room ro) g1 (fun g hg => (g2 g hg).2) room (.inl rfl) fun u e => ?_)
    rcases hu u e with h | h
    · subst h
      exact absurd e c
    · exact h
theorem un_le {ds : List Int} {un : Option Nat} (hu : OkUn ds room un) : ∀ u, un = some u → u ≤ room := fun u e => by
  rcases hu u e with h | h
  · omega
  · have := Tr.lies_lt h
    omega
theorem back_deep (good : Tr.Good (depths rs)) (f : Tr.FullB (depths rs) (onB rs) (alB rs) os) (lt : ∀ o ∈ os, o < rs.length) (fit : Fit rs) (kk : KeepKind rs) (ro : room ∈ os) (hk : keepsAt rs room ≠ ("" : Str)) (hn : keepsAt rs room ≠ ("near" : Str)) {un : Option Nat} (hu : OkUn (depths rs) room un) {fs : List Nat} (ins : Tr.Ins (depths rs) (alB rs) (keptV rs os room) un fs) :
    (fs.filter fun o => Tr.liesIn (depths rs) o room) = insideOf (depths rs) os room := by
  have ld := depths_len rs
  have lt' : ∀ o ∈ os, o < (depths rs).length := fun o h => by rw [ld]; exact lt o h
  refine rise_unique _ _ (ins.1.filter _) (f.1.filter _) fun k => ?_
  unfold insideOf
  rw [List.mem_filter, List.mem_filter, ins.2 k]
  have q := Tr.deep_same (pl := plB rs) (un := un) (gs := keptV rs os room) f lt' (fitK fit) (Fit.pl fit) ro (fun g => by
    unfold keptV insideOf
    rw [if_neg hn, List.mem_filter, List.mem_filter]
    exact ⟨fun ⟨⟨a, b⟩, c⟩ => ⟨a, b, c⟩, fun ⟨a, b, c⟩ => ⟨⟨a, b⟩, c⟩⟩) (back_room good f lt fit kk ro hk hu) (un_le hu) k
  constructor
  · rintro ⟨a, b⟩
    exact ⟨(q (a.lt good.pos) b).mp a, b⟩
  · rintro ⟨a, b⟩
    exact ⟨(q (lt' k a) b).mpr a, b⟩
theorem back_near (good : Tr.Good (depths rs)) (f : Tr.FullB (depths rs) (onB rs) (alB rs) os) (lt : ∀ o ∈ os, o < rs.length) (fit : Fit rs) (kk : KeepKind rs) (ro : room ∈ os) (hk : keepsAt rs room ≠ ("" : Str)) (hal : alB rs room = false) {kid : Nat} (kl : kid < (depths rs).length) (kp : Tr.par (depths rs) kid = some room) (hg : keptV rs os room = [kid]) {fl : List Nat} (frise : fl.Pairwise (· < ·))
    (lo : ∀ x ∈ fl, kid ≤ x) (ki : kid ∈ fl) (flt : ∀ x ∈ fl, x < rs.length) (char : ∀ k p, k < (depths rs).length → k ≠ kid → Tr.par (depths rs) k = some p → (k ∈ fl ↔ (p ∈ fl ∧ (alB rs p = true ∨ k = p + 1))))
    {un : Option Nat} (hu : OkUn (depths rs) room un) {fs : List Nat} (ins : Tr.Ins (depths rs) (alB rs) (keptV rs os room) un fs) : (fs.filter fun o => Tr.liesIn (depths rs) o room) = fl := by
  have ld := depths_len rs
  have hR := back_room good f lt fit kk ro hk hu
  rw [hg] at hR ins
  have q := Tr.near_same (un := un) kl kp hal lo ki char hR (un_le hu)
  have inl : ∀ m k : Nat, k < m → k ∈ fl → Tr.liesIn (depths rs) k room = true := by
    intro m
    induction m with
    | zero => intro k h; omega
    | succ m ih =>
      intro k h kf
      by_cases c : k = kid
      · rw [c]
        exact Tr.lies_par kp
      · have k0 : 0 < k := by
          have := lo k kf
          have := Tr.par_lt kp
          omega
        obtain ⟨p, hp⟩ := good.par_some k0 (by rw [ld]; exact flt k kf)
        have pf := ((char k p (by rw [ld]; exact flt k kf) c hp).mp kf).1
        have := Tr.par_lt hp
        exact Tr.lies_trans (Tr.lies_par hp) (ih p (by omega) pf)
  refine rise_unique _ _ (ins.1.filter _) frise fun k => ?_
  rw [List.mem_filter, ins.2 k]
  constructor
  · rintro ⟨a, b⟩
    exact (q k (a.lt good.pos) b).mp a
  · intro a
    have b := inl (k + 1) k (by omega) a
    exact ⟨(q k (by rw [ld]; exact flt k a) b).mpr a, b⟩
end
end K17

namespace K17
open PySem L2 Mix Gds Rms Prg
/-! k17: first kids, a row, the way back -/
def spFresh : Sp := fun vs H Q _ => ∃ (t pp : Addr) (rs : List Rm) (kid : Nat), vs = [.ref t, .ref pp, .int (kid : Int)] ∧ Rooms H t rs ∧ rs.length ≤ 40 ∧ H pp = some (.lst (parsV (depths rs) (depths rs).length)) ∧ kid < rs.length ∧
  ∀ (p : Addr) (fl : List Nat) (H' : Hp), Same H H' → H' p = some (.lst (natsV fl)) → fl.Pairwise (· < ·) → (∀ x ∈ fl, kid ≤ x) → kid ∈ fl → (∀ x ∈ fl, x < rs.length) → (∀ k p, k < (depths rs).length → k ≠ kid → Tr.par (depths rs) k = some p → (k ∈ fl ↔ (p ∈ fl ∧ (alB rs p = true ∨ k = p + 1)))) → Q (.ref p) H'
def spRow1 : Sp := fun vs H Q _ => ∃ (p : Addr) (fs : List Nat), vs = [.ref p] ∧ H p = some (.lst (natsV fs)) ∧ Q (.bl true) H
section
variable {P : Program} {w : World} {K : PySem.W.Frag} {mg : Str → Option Value} {base : Heap}
theorem sc_law_fresh : FnScope ["_law_rooms_here", "_law_parents_here", "_law_kid", "_law_opened", "_law_k", "_law_above"] ["_law_rooms_here", "_law_parents_here", "_law_kid"] (defScope s_L_fresh) := ⟨rfl, rfl, rfl, by decide +kernel, rfl, by decide +kernel, by decide +kernel⟩
theorem ok_fresh {f : Addr} {fd : FuncData} (F : Fun K "_law_fresh" "_law_fresh" s_L_fresh f fd) (m_range : mg "range" = none) (m_len : mg "len" = none) : FnOk P w K mg base CX0 1 f fd ["_law_rooms_here", "_law_parents_here", "_law_kid"] spFresh := by
  refine F.ok sc_law_fresh (fun vs H Q E h => ?_) (fun cdv A outer s H vs Q E hr h => ?_)
  · obtain ⟨t, pp, rs, kid, rfl, _⟩ := h
    rfl
  obtain ⟨t, pp, rs, kid, rfl, hR, l40, hpp, hkid, q⟩ := h
  refine ⟨_, (pss_cons (ps_set (i := 3) sc_law_fresh.nd rfl (Or.inl rfl) (pe_lst (pa_cons (pv 2) pa_nil)))
    (pss_cut (ps_for PassesOwn.never rfl (pi_range2 rfl m_range (pa_cons (pe_op op_add (pv 2) pe_int) (pa_cons (pe_callB call_len_seq rfl m_len PySem.boot_len (pa_cons (pv 0) pa_nil)) pa_nil))) (pg_name (i := 4) sc_law_fresh.nd rfl (Or.inl rfl))
      (pss_cons (ps_set (i := 5) sc_law_fresh.nd rfl (Or.inl rfl) (pe_ix ix_list (pv 1) (pv 4) (fun _ _ => rfl)))
      (pss_one (ps_if (pt_cut (PW.pt (pw_and (pt_cmpR op_in_seq (pv 5) (pv 3) rfl) (pw_and1 (PW.pt (pw_or (pt_cmpR op_eq (pe_ix ix_tup (pe_ix ix_tup (pv 0) (pv 5) (fun _ _ => rfl)) pe_int (fun _ _ => rfl)) pe_str (nomark _)) (pw_or1 (pt_cmpR op_eq (pv 4) (pe_op op_add (pv 5) pe_int) (nomark _)))))))))
        (pss_one (ps_expr (pe_bm PySem.F.plainAttrs_list PySem.F.slot_list_append PySem.F.type_list_append mt_append (pv 3) (pa_cons (pv 4) pa_nil))))
        pss_nil))))
    (pss_one (ps_ret (pv 3))))), ?_⟩
  obtain ⟨rv, htr, hrs⟩ := id hR
  have lrv := hrs.length
  have ld : (depths rs).length = rs.length := depths_len rs
  refine ⟨_, rfl, small_le (by show 1 ≤ 1000; decide), fun po hpo => ?_⟩
  have s1 := same_new hpo (.lst [V.int (kid : Int)])
  refine ⟨fun σ' H' => ∃ os : List Nat, Same H H' ∧ H' po = some (.lst (natsV os)) ∧ os.Pairwise (· < ·) ∧ (∀ x ∈ os, kid ≤ x) ∧ kid ∈ os ∧ (∀ x ∈ os, x < rs.length) ∧ (∀ k p, k < (depths rs).length → k ≠ kid → Tr.par (depths rs) k = some p → (k ∈ os ↔ (p ∈ os ∧ (alB rs p = true ∨ k = p + 1)))) ∧ ∃ o4 o5 : Option V, σ' = [some (.ref t), some (.ref pp), some (.int (kid : Int)), some (.ref po), o4, o5], ?_, ?_⟩
  · refine ⟨_, rfl, _, _, rfl, rfl, _, rfl, t, _, rfl, .inr (SqT.of (s1 _ _ htr)), (kid : Int) + 1, (rv.length : Int), rfl, ⟨by omega, by omega, by omega, by omega⟩, ?_⟩
    refine for_range (fun i σ' H' => ∃ os : List Nat, Same H H' ∧ H' po = some (.lst (natsV os)) ∧ os.Pairwise (· < ·) ∧ (∀ x ∈ os, kid ≤ x) ∧ kid ∈ os ∧ (∀ x ∈ os, x < kid + 1 + i) ∧ os.length ≤ 1 + i ∧ (∀ k p, k < kid + 1 + i → k ≠ kid → Tr.par (depths rs) k = some p → (k ∈ os ↔ (p ∈ os ∧ (alB rs p = true ∨ k = p + 1)))) ∧ ∃ o4 o5 : Option V, σ' = [some (.ref t), some (.ref pp), some (.int (kid : Int)), some (.ref po), o4, o5])
      ⟨[kid], s1, upd_same, List.pairwise_singleton _ _, fun x hx => (by rw [List.mem_singleton.mp hx]; exact Nat.le_refl _), List.mem_singleton.mpr rfl, fun x hx => (by rw [List.mem_singleton.mp hx]; omega), (by show 1 ≤ 1 + 0; decide), fun k p hk hn hp => (by
        have := Tr.par_lt hp
        rw [List.mem_singleton, List.mem_singleton]
        exact ⟨fun z => absurd z hn, fun z => by omega⟩), _, _, rfl⟩ ?_ ?_
    · rintro i σ' H2 hi ⟨os, s2, h2, inc, lo, ki, hos, los, char, o4, o5, rfl⟩
      have hi' : kid + 1 + i < rs.length := by omega
      have hk : (kid : Int) + 1 + (i : Int) = ((kid + 1 + i : Nat) : Int) := by omega
      have hat : atI (parsV (depths rs) (depths rs).length) ((kid : Int) + 1 + (i : Int)) = some (pV (Tr.par (depths rs) (kid + 1 + i))) := by
        rw [hk]
        exact atI_nat (parsV_at (depths rs) (by omega))
      have nin : kid + 1 + i ∉ os := fun z => by
        have := hos _ z
        omega
      refine ⟨_, rfl, _, rfl, pp, _, _, _, rfl, rfl, SqL.of (s2 _ _ hpp), hat, ?_⟩
      have step : ∀ (c : Bool) (x5 : Option V), (c = true ↔ ∃ p, Tr.par (depths rs) (kid + 1 + i) = some p ∧ p ∈ os ∧ (alB rs p = true ∨ kid + 1 + i = p + 1)) → c = false → ∃ os' : List Nat, Same H H2 ∧ H2 po = some (.lst (natsV os')) ∧ os'.Pairwise (· < ·) ∧ (∀ x ∈ os', kid ≤ x) ∧ kid ∈ os' ∧ (∀ x ∈ os', x < kid + 1 + (i + 1)) ∧ os'.length ≤ 1 + (i + 1) ∧ (∀ k p, k < kid + 1 + (i + 1) → k ≠ kid → Tr.par (depths rs) k = some p → (k ∈ os' ↔ (p ∈ os' ∧ (alB rs p = true ∨ k = p + 1)))) ∧ ∃ o4 o5 : Option V, [some (.ref t), some (.ref pp), some (.int (kid : Int)), some (.ref po), some (.int ((kid : Int) + 1 + (i : Int))), x5] = [some (.ref t), some (.ref pp), some (.int (kid : Int)), some (.ref po), o4, o5] := fun c x5 hc c0 => ⟨os, s2, h2, inc, lo, ki, fun x hx => by have := hos x hx; omega, by omega, fun k p hk' hn hp => by
          by_cases e : k = kid + 1 + i
          · subst e
            refine ⟨fun z => absurd z nin, fun z => ?_⟩
            have := hc.mpr ⟨p, hp, z⟩
            rw [c0] at this
            cases this
          · exact char k p (by omega) hn hp, _, _, rfl⟩
      refine ⟨fun c H' => H' = H2 ∧ (c = true ↔ ∃ p, Tr.par (depths rs) (kid + 1 + i) = some p ∧ p ∈ os ∧ (alB rs p = true ∨ kid + 1 + i = p + 1)), ?_, ?_⟩
      · cases hpar : Tr.par (depths rs) (kid + 1 + i) with
        | none => exact ⟨_, rfl, _, rfl, po, _, rfl, .inl (SqL.of h2), rfl, nats_flat os, _, rfl, ifF (nats_non os) ⟨rfl, fun z => (by cases z), fun ⟨p, hp, _⟩ => (by cases hp)⟩⟩
        | some j =>
          have jl := Tr.par_lt hpar
          have hj : j < rs.length := by omega
          have ei : inV (.int (j : Int)) (natsV os) = decide (j ∈ os) := K14.in_nats j os
          have er := List.getElem?_eq_getElem hj
          obtain ⟨v2, hv2, a2, rfl, ha2⟩ := hrs.get er
          have eal : alB rs j = decide (V.str rs[j].kind = V.str ("all" : Str)) := by
            unfold alB
            rw [kind_at er]
            exact decide_eq_decide.mpr ⟨fun z => by rw [z], fun z => by injection z⟩
          refine ⟨_, rfl, _, rfl, po, _, rfl, .inl (SqL.of h2), rfl, nats_flat os, _, rfl, ?_⟩
          refine itB (fun c => ?_) (fun c => ⟨rfl, fun z => ?_, fun ⟨p, hp, po', _⟩ => ?_⟩)
          rotate_left
          · cases z
          · injection hp with hp
            subst hp
            exact absurd po' (of_decide_eq_false (ei.symm.trans c))
          have jo : j ∈ os := of_decide_eq_true (ei.symm.trans c)
          refine ⟨_, rfl, _, rfl, t, _, _, _, rfl, rfl, SqT.of (s2 _ _ htr), atI_nat hv2, a2, _, _, _, rfl, rfl, SqT.of (s2 _ _ ha2), rfl, rfl, _, rfl, ?_⟩
          refine itB (fun c => ⟨rfl, fun _ => ⟨j, rfl, jo, .inl (eal.trans c)⟩, fun _ => rfl⟩) (fun c => ?_)
          refine ⟨_, rfl, _, rfl, _, _, rfl, rfl, rfl, _, rfl, rfl, ?_⟩
          have na : alB rs j = false := eal.trans c
          constructor
          · intro z
            have := of_decide_eq_true z
            injection this with this
            exact ⟨j, rfl, jo, .inr (by omega)⟩
          · rintro ⟨p, hp, _, h | h⟩
            · injection hp with hp
              rw [← hp, na] at h
              cases h
            · injection hp with hp
              exact decide_eq_true (by rw [hk, h, ← hp]; rfl)
      rintro c H' ⟨rfl, hc⟩
      refine itB (fun c1 => ?_) (fun c1 => step c _ hc c1)
      obtain ⟨j, hpar, jo, hj⟩ := hc.mp c1
      refine ⟨_, rfl, .inl ⟨rfl, _, SqL.of h2⟩, _, rfl, po, _, _, rfl, rfl, h2, small1000 (by rw [natsV_len]; omega), os ++ [kid + 1 + i], same_upd hpo s2 _, ?_, ?_, fun x hx => ?_, List.mem_append_left _ ki, fun x hx => ?_, by simp; omega, fun k p hk' hn hp => ?_, _, _, rfl⟩
      · rw [upd_same, ← natsV_app, hk]
      · refine List.pairwise_append.mpr ⟨inc, List.pairwise_singleton _ _, fun x hx y hy => ?_⟩
        rw [List.mem_singleton.mp hy]
        exact hos x hx
      · rcases List.mem_append.mp hx with h | h
        · exact lo x h
        · rw [List.mem_singleton.mp h]
          omega
      · rcases List.mem_append.mp hx with h | h
        · have := hos x h
          omega
        · rw [List.mem_singleton.mp h]
          omega
      · have pl := Tr.par_lt hp
        have pm : p ∈ os ++ [kid + 1 + i] ↔ p ∈ os := by
          rw [List.mem_append, List.mem_singleton]
          exact ⟨fun z => z.elim id fun z => by omega, .inl⟩
        rw [pm]
        by_cases e : k = kid + 1 + i
        · subst e
          rw [hpar] at hp
          cases hp
          exact ⟨fun _ => ⟨jo, hj⟩, fun _ => List.mem_append_right _ (List.mem_singleton.mpr rfl)⟩
        · rw [List.mem_append, List.mem_singleton, ← char k p (by omega) hn hp]
          exact ⟨fun z => z.elim id fun z => absurd z e, .inl⟩
    · rintro σ' H2 ⟨os, s2, h2, inc, lo, ki, hos, los, char, o4, o5, rfl⟩
      exact ⟨os, s2, h2, inc, lo, ki, fun x hx => by have := hos x hx; omega, fun k p hk hn hp => char k p (by omega) hn hp, _, _, rfl⟩
  rintro σ' H2 ⟨os, s2, h2, inc, lo, ki, hos, char, o4, o5, rfl⟩
  exact ⟨_, rfl, q po os H2 s2 h2 inc lo ki hos char⟩
theorem sc_law_row : FnScope ["_law_found", "_law_room"] ["_law_found"] (defScope sRow) := ⟨rfl, rfl, rfl, by decide +kernel, rfl, by decide +kernel, by decide +kernel⟩
theorem ok_row {f gw : Addr} {fd dw : FuncData} (F : Fun K "_law_row" "_law_row" sRow f fd) (G_law_whole : FnOk P w K mg base CX0 1 gw dw ["_law_found"] spWhole) (b_law_whole : Binds K dw ["_law_found"] []) (k_law_whole : PySem.W.keepIn K (.ref gw) = true) (m_law_whole : mg "_law_whole" = some (.ref gw))
    (m_isinstance : mg "isinstance" = none) (m_list : mg "list" = none) : FnOk P w K mg base CX0 2 f fd ["_law_found"] spRow1 := by
  refine F.ok sc_law_row (fun vs H Q E h => ?_) (fun cdv A outer s H vs Q E hr h => ?_)
  · obtain ⟨p, fs, rfl, _⟩ := h
    rfl
  obtain ⟨p, fs, rfl, hp, q⟩ := h
  refine ⟨_, (pss_cons (ps_if (pt_not (pt_val (pe_callB call_isinst rfl m_isinstance PyProof.Rows.boot_isinstance (pa_cons (pv 0) (pa_cons (pe_bltn (v := .ty "list") rfl m_list PyProof.Rows.boot_list rfl) pa_nil)))))
      (pss_one (ps_ret pe_bl))
      pss_nil)
    (pss_cut (ps_for PassesOwn.never rfl (pi_list (pv 0)) (pg_name (i := 1) sc_law_row.nd rfl (Or.inl rfl))
      (pss_one (ps_if (pt_not (pt_val (pe_call G_law_whole hr rfl m_law_whole k_law_whole b_law_whole .nil pass0 (pa_cons (pv 1) pa_nil))))
        (pss_one (ps_ret pe_bl))
        pss_nil)))
    (pss_one (ps_ret pe_bl)))), ?_⟩
  refine ⟨_, rfl, _, "list", _, true, rfl, .lst hp, kit_ll K, _, rfl, ifF rfl ?_⟩
  refine ⟨fun _ H' => H' = H, ?_, fun _ H' e => by subst e; exact q⟩
  refine ⟨_, rfl, p, rfl, ⟨_, SqL.of hp⟩, ?_⟩
  refine for_list (K := K) (a := p) (xs := natsV fs) (fun i σ' H' => H' = H ∧ ∃ o1 : Option V, σ' = [some (.ref p), o1]) ⟨rfl, _, rfl⟩ (fun i σ' H' _ ⟨e, _⟩ => by subst e; exact SqL.of hp) ?_ (fun _ _ h => h.1)
  rintro i x σ' H' hx ⟨rfl, o1, rfl⟩
  obtain ⟨hi, rfl⟩ := natsV_get hx
  exact ⟨_, rfl, _, rfl, _, rfl, ifF rfl ⟨rfl, _, rfl⟩⟩
end
end K17

namespace Prg
open PySem L2 Mix Gds Rms
def spEnd : Sp := fun vs H Q _ => ∃ (t : Addr) (rs : List Rm) (k : Nat), vs = [.ref t, .int (k : Int)] ∧ Rooms H t rs ∧ rs.length ≤ 40 ∧ k < rs.length ∧ ∀ e : Nat, Tr.EndOf (depths rs) k e → Q (.int (e : Int)) H
section
variable {P : Program} {w : World} {K : PySem.W.Frag} {mg : Str → Option Value} {base : Heap}
theorem sc_end_of : FnScope ["rooms", "room", "depth", "other"] ["rooms", "room"] (defScope sEndOf) := ⟨rfl, rfl, rfl, by decide +kernel, rfl, by decide +kernel, by decide +kernel⟩
theorem ok_end {f : Addr} {fd : FuncData} (F : Fun K "end_of" "end_of" sEndOf f fd) (m_range : mg "range" = none) (m_len : mg "len" = none) : FnOk P w K mg base CX0 1 f fd ["rooms", "room"] spEnd := by
  refine F.ok sc_end_of (fun vs H Q E h => ?_) (fun cdv A outer s H vs Q E hr h => ?_)
  · obtain ⟨t, rs, k, rfl, _⟩ := h
    rfl
  obtain ⟨t, rs, k, rfl, hR, h40, hk, q⟩ := h
  refine ⟨_, (pss_cons (ps_set (i := 2) sc_end_of.nd rfl (Or.inl rfl) (pe_ix ix_tup (pe_ix ix_tup (pv 0) (pv 1) (fun _ _ => rfl)) pe_int (fun _ _ => rfl)))
    (pss_cut (ps_for PassesOwn.never rfl (pi_range2 rfl m_range (pa_cons (pe_op op_add (pv 1) pe_int) (pa_cons (pe_callB call_len_seq rfl m_len PySem.boot_len (pa_cons (pv 0) pa_nil)) pa_nil))) (pg_name (i := 3) sc_end_of.nd rfl (Or.inl rfl))
      (pss_one (ps_if (pt_cmpR op_le (pe_ix ix_tup (pe_ix ix_tup (pv 0) (pv 3) (fun _ _ => rfl)) pe_int (fun _ _ => rfl)) (pv 2) (nomark _))
        (pss_one (ps_ret (pv 3)))
        pss_nil)))
    (pss_one (ps_ret (pe_callB call_len_seq rfl m_len PySem.boot_len (pa_cons (pv 0) pa_nil)))))), ?_⟩
  obtain ⟨vs, a, r, ht, hl, hr0, hat, ha⟩ := hR.at hk
  have ed := depths_at hr0
  have dl := depths_len rs
  refine ⟨_, rfl, _, rfl, t, vs, _, _, rfl, rfl, SqT.of ht, hat, a, _, _, _, rfl, rfl, SqT.of ha, rfl, ?_⟩
  refine ⟨fun σ' H' => H' = H ∧ Tr.EndOf (depths rs) k rs.length ∧ ∃ o3 : Option V, σ' = [some (.ref t), some (.int (k : Int)), some (.int r.depth), o3], ?_, ?_⟩
  · refine ⟨_, rfl, _, _, rfl, rfl, _, rfl, t, _, rfl, .inr (SqT.of ht), _, _, rfl, ⟨by omega, by omega, by omega, by omega⟩, ?_⟩
    refine for_range (fun i σ' H' => H' = H ∧ (∀ j, k < j → j < k + 1 + i → (depths rs).getD k 0 < (depths rs).getD j 0) ∧ ∃ o3 : Option V, σ' = [some (.ref t), some (.int (k : Int)), some (.int r.depth), o3]) ⟨rfl, fun j j1 j2 => by omega, none, rfl⟩ ?_ ?_
    · rintro i σ' H' hi ⟨rfl, hin, o3, rfl⟩
      have hj : k + 1 + i < rs.length := by omega
      obtain ⟨vs2, a2, r2, ht2, hl2, hr2, hat2, ha2⟩ := hR.at hj
      rw [ht] at ht2
      cases ht2
      have ed2 := depths_at hr2
      have ej : (k : Int) + 1 + (i : Int) = ((k + 1 + i : Nat) : Int) := by omega
      refine ⟨_, rfl, _, rfl, t, vs, _, _, rfl, rfl, SqT.of ht, (by rw [ej]; exact hat2), a2, _, _, _, rfl, rfl, SqT.of ha2, rfl, _, rfl, _, _, rfl, rfl, _, rfl, ?_⟩
      refine ite2 (fun c => ?_) (fun c => ?_)
      · have c' := of_decide_eq_true c
        refine ⟨_, rfl, ?_⟩
        have z := q (k + 1 + i) ⟨by omega, by omega, hin, fun _ => by rw [ed2, ed]; exact c'⟩
        rw [← ej] at z
        exact z
      · have c' : ¬ r2.depth ≤ r.depth := fun z => c (decide_eq_true z)
        refine ⟨rfl, fun j j1 j2 => ?_, _, rfl⟩
        by_cases y : j = k + 1 + i
        · rw [y, ed2, ed]
          omega
        · exact hin j j1 (by omega)
    · rintro σ' H' ⟨rfl, hin, o3, rfl⟩
      exact ⟨rfl, ⟨hk, by omega, fun j j1 j2 => hin j j1 (by omega), fun z => by omega⟩, o3, rfl⟩
  rintro σ' H' ⟨rfl, he, o3, rfl⟩
  refine ⟨_, rfl, t, _, rfl, .inr (SqT.of ht), ?_⟩
  have z := q _ he
  rw [← hl] at z
  exact z
end
end Prg

namespace Prg
open PySem L2 Mix Gds Rms
def spKids : Sp := fun vs H Q _ => ∃ (t : Addr) (rs : List Rm) (k : Nat), vs = [.ref t, .int (k : Int)] ∧ Rooms H t rs ∧ Tr.Good (depths rs) ∧ rs.length ≤ 40 ∧ k < rs.length ∧ ∀ (p : Addr) (H' : Hp), Same H H' → H p = none → H' p = some (.lst (natsV (Tr.kids (depths rs) k))) → Q (.ref p) H'
section
variable {P : Program} {w : World} {K : PySem.W.Frag} {mg : Str → Option Value} {base : Heap}
theorem sc_kids : FnScope ["rooms", "room", "depth"] ["rooms", "room"] (defScope sKids) := ⟨rfl, rfl, rfl, by decide +kernel, rfl, by decide +kernel, by decide +kernel⟩
theorem ok_kids {n : Nat} {f ge : Addr} {fd de : FuncData} (F : Fun K "kids" "kids" sKids f fd) (G_end_of : FnOk P w K mg base CX0 n ge de ["rooms", "room"] spEnd) (b_end_of : Binds K de ["rooms", "room"] []) (k_end_of : PySem.W.keepIn K (.ref ge) = true) (m_end_of : mg "end_of" = some (.ref ge)) (m_range : mg "range" = none) :
    FnOk P w K mg base CX0 (n + 1) f fd ["rooms", "room"] spKids := by
  refine F.ok sc_kids (fun vs H Q E h => ?_) (fun cdv A outer s H vs Q E hr h => ?_)
  · obtain ⟨t, rs, k, rfl, _⟩ := h
    rfl
  obtain ⟨t, rs, k, rfl, hR, good, h40, hk, q⟩ := h
  refine ⟨_, (pss_cons (ps_set (i := 2) sc_kids.nd rfl (Or.inr rfl) (pe_op op_add (pe_ix ix_tup (pe_ix ix_tup (pv 0) (pv 1) (fun _ _ => rfl)) pe_int (fun _ _ => rfl)) pe_int))
    (pss_one (ps_ret (pe_comp (caps := [(2, "depth"), (0, "rooms")]) rfl (show CompSc (defScope sKids) ["rooms", "room", "depth"] _ _ _ from ⟨rfl, rfl, by decide +kernel, by decide +kernel, by decide +kernel, by decide +kernel, by decide +kernel⟩) (pi_range2 rfl m_range (pa_cons (pe_op op_add (pv 1) pe_int) (pa_cons (pe_call G_end_of hr rfl m_end_of k_end_of b_end_of .nil pass0 (pa_cons (pv 0) (pa_cons (pv 1) pa_nil))) pa_nil))) (fun _ _ _ _ _ _ => pifs_one (pt_cmpR op_eq (pe_ix (r := rIxT K) ix_tup (pe_ix (r := rIxT K) ix_tup (pv 2) (pv 0) (fun _ _ => rfl)) pe_int (fun _ _ => rfl)) (pv 1) (nomark _))) (fun _ _ _ _ _ _ => (pv 0)))))), ?_⟩
  obtain ⟨vs, a, r, ht, hl, hr0, hat, ha⟩ := hR.at hk
  have ed := depths_at hr0
  have dl := depths_len rs
  refine ⟨_, rfl, _, rfl, t, vs, _, _, rfl, rfl, SqT.of ht, hat, a, _, _, _, rfl, rfl, SqT.of ha, rfl, _, _, rfl, rfl, ?_⟩
  refine ⟨_, rfl, _, _, rfl, rfl, _, rfl, _, rfl, t, rs, k, rfl, hR, h40, hk, fun e he => ?_⟩
  have he1 := he.lt
  have he2 := he.le
  refine ⟨_, _, rfl, ⟨by omega, by omega, by omega, by omega⟩, ?_⟩
  refine comp_range (fun i acc H' => H' = H ∧ acc = natsV (Tr.kidsTo (depths rs) k (k + 1 + i))) ⟨rfl, by rw [Tr.kidsTo_low _ _ _ (by omega)]; rfl⟩ (fun i acc H' hi ⟨e1, e2⟩ => ?_) (fun acc H' ⟨e1, e2⟩ p hp => ?_)
  · subst e1 e2
    have hj : k + 1 + i < rs.length := by omega
    obtain ⟨vs2, a2, r2, ht2, hl2, hr2, hat2, ha2⟩ := hR.at hj
    rw [ht] at ht2
    cases ht2
    have ed2 := depths_at hr2
    have ej : (k : Int) + 1 + (i : Int) = ((k + 1 + i : Nat) : Int) := by omega
    have pe := Tr.par_end good he (j := k + 1 + i) (by omega)
    refine ⟨_, rfl, _, rfl, t, vs, _, _, rfl, rfl, SqT.of ht, (by rw [ej]; exact hat2), a2, _, _, _, rfl, rfl, SqT.of ha2, rfl, _, rfl, rfl, _, rfl, ?_⟩
    refine ite2 (fun c => ?_) (fun c => ?_)
    · have c' := of_decide_eq_true c
      injection c' with c'
      refine ⟨_, rfl, ?_, rfl, ?_⟩
      · unfold natsV
        have := Tr.kidsTo_len (depths rs) k (k + 1 + i)
        exact small1000 (by rw [List.length_map]; omega)
      · rw [show k + 1 + (i + 1) = (k + 1 + i) + 1 by omega, Tr.kidsTo_succ, if_pos (by rw [pe.mpr ⟨by omega, by omega, by rw [ed2, ed]; exact c'⟩]; simp), ej]
        unfold natsV
        rw [List.map_append]
        rfl
    · refine ⟨rfl, ?_⟩
      rw [show k + 1 + (i + 1) = (k + 1 + i) + 1 by omega, Tr.kidsTo_succ, if_neg, List.append_nil]
      intro z
      have y := (pe.mp (eq_of_beq z)).2.2
      rw [ed2, ed] at y
      exact c (decide_eq_true (by rw [y]))
  · subst e1 e2
    refine q p _ (same_new hp _) hp ?_
    rw [upd_same, Tr.kids_end good he, show k + 1 + ((e : Int) - ((k : Int) + 1)).toNat = e by omega]
end
end Prg

namespace Prg
open PySem L2 Mix Gds Rms
/-! goings out -/
section
variable {P : Program} {w : World} {K : PySem.W.Frag} {mg : Str → Option Value} {base : Heap}
theorem sc_goings_out : FnScope ["rooms", "under", "opening", "end"] ["rooms", "under", "opening"] (defScope sOut) := ⟨rfl, rfl, rfl, by decide +kernel, rfl, by decide +kernel, by decide +kernel⟩
theorem ok_goings_out {n : Nat} {f ge : Addr} {fd de : FuncData} (F : Fun K "goings_out" "goings_out" sOut f fd) (G_end_of : FnOk P w K mg base CX0 n ge de ["rooms", "room"] spEnd) (b_end_of : Binds K de ["rooms", "room"] []) (k_end_of : PySem.W.keepIn K (.ref ge) = true) (m_end_of : mg "end_of" = some (.ref ge)) (m_sorted : mg "sorted" = none) :
    FnOk P w K mg base CX0 (n + 1) f fd ["rooms", "under", "opening"] K14.spOut := by
  refine F.ok sc_goings_out (fun vs H Q E h => ?_) (fun cdv A outer s H vs Q E hr h => ?_)
  · obtain ⟨t, to', rs, un, os, rfl, _⟩ := h
    rfl
  obtain ⟨t, to', rs, un, os, rfl, hR, good, h40, hun, hto, hos, los, inc, q⟩ := h
  refine ⟨_, (pss_cons (ps_if (pt_cmpR op_isN (pv 1) pe_non (nomark _))
      (pss_one (ps_ret (pe_sortedR rfl m_sorted (pa_cons (pv 2) pa_nil))))
      pss_nil)
    (pss_cons (ps_set (i := 3) sc_goings_out.nd rfl (Or.inr rfl) (pe_call G_end_of hr rfl m_end_of k_end_of b_end_of .nil pass0 (pa_cons (pv 0) (pa_cons (pv 1) pa_nil))))
    (pss_one (ps_ret (pe_sortedR rfl m_sorted (pa_cons (pe_comp (caps := [(1, "under"), (3, "end")]) rfl (show CompSc (defScope sOut) ["rooms", "under", "opening", "end"] _ _ _ from ⟨rfl, rfl, by decide +kernel, by decide +kernel, by decide +kernel, by decide +kernel, by decide +kernel⟩) (pi_tup (pv 2)) (fun _ _ _ _ _ _ => pifs_one (pt_chV op_lt op_lt (pv 1) (pv 0) (pv 2))) (fun _ _ _ _ _ _ => (pv 0))) pa_nil)))))), ?_⟩
  have dl := depths_len rs
  cases un with
  | none =>
    refine ⟨_, rfl, rfl, _, rfl, ifT rfl ⟨_, rfl, to', _, rfl, .inr (SqT.of (by rw [← nats_ints]; exact hto)), by rw [List.length_map]; omega, fun p rs' hp perm srt => ?_⟩⟩
    have e := sorted_fall perm srt inc
    subst e
    refine q p _ (same_new hp _) hp ?_
    rw [upd_same]
    show some (HO.lst _) = some (HO.lst (natsV (K14.outsOf (depths rs) none os)))
    rw [show K14.outsOf (depths rs) none os = os.reverse by
      unfold K14.outsOf
      rw [(List.filter_eq_self (p := fun o => K14.under (depths rs) o none)).mpr fun _ _ => rfl], ← nats_ints]
    rfl
  | some u =>
    have hu := hun u rfl
    refine ⟨_, rfl, rfl, _, rfl, ifF rfl ⟨_, rfl, _, rfl, t, rs, u, rfl, hR, h40, hu, fun e he => ?_⟩⟩
    refine ⟨_, rfl, to', rfl, ⟨_, SqT.of hto⟩, ?_⟩
    refine comp_tup (K := K) (a := to') (xs := natsV os) (fun i acc H' => H' = H ∧ acc = natsV ((os.take i).filter fun o => Tr.liesIn (depths rs) o u)) ⟨rfl, rfl⟩ (fun i acc H' ⟨e, _⟩ => by subst e; exact SqT.of hto) (fun i x acc H' hx ⟨e1, e2⟩ => ?_) (fun acc H' ⟨e1, e2⟩ p hp => ?_)
    · subst e1 e2
      obtain ⟨hi, rfl⟩ := natsV_get hx
      have ho := hos _ (List.getElem_mem hi)
      have el := Tr.lies_end he (a := os[i]) (by omega)
      refine ⟨_, rfl, _, rfl, _, _, (e : Int), rfl, rfl, ⟨_, rfl, rfl, rfl⟩, _, rfl, ?_⟩
      have ec : (decide ((u : Int) < ((os[i] : Nat) : Int)) && decide (((os[i] : Nat) : Int) < (e : Int))) = Tr.liesIn (depths rs) os[i] u := by
        rw [el]
        congr 1
        · exact decide_eq_decide.mpr (by omega)
        · exact decide_eq_decide.mpr (by omega)
      rw [filter_succ (List.getElem?_eq_getElem hi)]
      have ll := List.length_filter_le (fun o => Tr.liesIn (depths rs) o u) (os.take i)
      rw [List.length_take] at ll
      refine itB (fun c => ?_) (fun c => ?_)
      · have c' : Tr.liesIn (depths rs) os[i] u = true := ec.symm.trans c
        rw [if_pos c', ← natsV_app]
        exact ⟨_, rfl, small1000 (by rw [natsV_len]; omega), rfl, rfl⟩
      · have c' : Tr.liesIn (depths rs) os[i] u = false := ec.symm.trans c
        rw [if_neg (by rw [c']; exact Bool.false_ne_true), List.append_nil]
        exact ⟨rfl, rfl⟩
    subst e1 e2
    rw [List.take_of_length_le (by rw [natsV_len]; exact Nat.le_refl _)]
    have ll := List.length_filter_le (fun o => Tr.liesIn (depths rs) o u) os
    refine ⟨p, _, rfl, .inl (SqL.of (by rw [upd_same]; unfold natsV; rw [nats_ints])), by rw [List.length_map]; omega, fun p2 rs' hp2 perm srt => ?_⟩
    have e := sorted_fall perm srt (inc.filter _)
    subst e
    refine q p2 _ ((same_new hp _).trans (same_new hp2 _)) ((same_new hp _).free hp2) ?_
    rw [upd_same, ← nats_ints]
    rfl
end
end Prg

namespace Prg
open PySem L2 Mix Gds Rms
/-! goings in -/
section
variable {P : Program} {w : World} {K : PySem.W.Frag} {mg : Str → Option Value} {base : Heap}
theorem sc_bears_goal : FnScope ["rooms", "room", "goals", "end"] ["rooms", "room", "goals"] (defScope sBears) := ⟨rfl, rfl, rfl, by decide +kernel, rfl, by decide +kernel, by decide +kernel⟩
theorem ok_bears_goal {n : Nat} {f ge : Addr} {fd de : FuncData} (F : Fun K "bears_goal" "bears_goal" sBears f fd) (G_end_of : FnOk P w K mg base CX0 n ge de ["rooms", "room"] spEnd) (b_end_of : Binds K de ["rooms", "room"] []) (k_end_of : PySem.W.keepIn K (.ref ge) = true) (m_end_of : mg "end_of" = some (.ref ge)) (m_any : mg "any" = none) :
    FnOk P w K mg base CX0 (n + 1) f fd ["rooms", "room", "goals"] spBears := by
  refine F.ok sc_bears_goal (fun vs H Q E h => ?_) (fun cdv A outer s H vs Q E hr h => ?_)
  · obtain ⟨t, pg, rs, k, gs, rfl, _⟩ := h
    rfl
  obtain ⟨t, pg, rs, k, gs, rfl, hR, h40, hk, hG, q⟩ := h
  refine ⟨_, (pss_cons (ps_set (i := 3) sc_bears_goal.nd rfl (Or.inr rfl) (pe_call G_end_of hr rfl m_end_of k_end_of b_end_of .nil pass0 (pa_cons (pv 0) (pa_cons (pv 1) pa_nil))))
    (pss_one (ps_ret (pe_callB (call_anyB rfl) rfl m_any PyProof.Rows.boot_any (pa_cons (pe_comp (caps := [(1, "room"), (3, "end")]) rfl (show CompSc (defScope sBears) ["rooms", "room", "goals", "end"] _ _ _ from ⟨rfl, rfl, by decide +kernel, by decide +kernel, by decide +kernel, by decide +kernel, by decide +kernel⟩) (pi_list (pv 2)) (fun _ _ _ _ _ _ => pifs_nil) (fun _ _ _ _ _ _ => (pe_chV op_le op_lt (pv 1) (pv 0) (pv 2)))) pa_nil))))), ?_⟩
  obtain ⟨hg, hgl, hg100⟩ := hG
  have dl := depths_len rs
  refine ⟨_, rfl, _, rfl, t, rs, k, rfl, hR, h40, hk, fun e he => ?_⟩
  refine ⟨_, rfl, pg, rfl, ⟨_, SqL.of hg⟩, ?_⟩
  refine comp_list (K := K) (a := pg) (xs := natsV gs) (fun i acc H' => H' = H ∧ acc = ((gs.take i).map fun g : Nat => (decide ((k : Int) ≤ (g : Int)) && decide ((g : Int) < (e : Int)))).map V.bl) ⟨rfl, rfl⟩ (fun i acc H' ⟨e, _⟩ => by subst e; exact SqL.of hg) (fun i x acc H' hx ⟨e1, e2⟩ => ?_) (fun acc H' ⟨e1, e2⟩ p hp => ?_)
  · subst e1 e2
    obtain ⟨hi, rfl⟩ := natsV_get hx
    refine ⟨_, rfl, _, rfl, _, _, (e : Int), rfl, rfl, ⟨_, rfl, rfl, rfl⟩, small1000 (by rw [List.length_map, List.length_map, List.length_take]; omega), rfl, ?_⟩
    rw [List.take_add_one, List.getElem?_eq_getElem hi, List.map_append, List.map_append]
    rfl
  subst e1 e2
  rw [List.take_of_length_le (by rw [natsV_len]; exact Nat.le_refl _)]
  refine ⟨p, _, rfl, SqL.of upd_same, ?_⟩
  have z := q (upd H' p (.lst ((gs.map fun g : Nat => (decide ((k : Int) ≤ (g : Int)) && decide ((g : Int) < (e : Int)))).map V.bl))) (same_new hp _)
  have ee : (gs.map fun g : Nat => (decide ((k : Int) ≤ (g : Int)) && decide ((g : Int) < (e : Int)))).any id = Tr.bears (depths rs) gs k := by
    unfold Tr.bears
    rw [List.any_map, Bool.eq_iff_iff, List.any_eq_true, List.any_eq_true]
    have he1 := he.lt
    have pt : ∀ g ∈ gs, ((id ∘ fun g : Nat => (decide ((k : Int) ≤ (g : Int)) && decide ((g : Int) < (e : Int)))) g = true ↔ (g == k || Tr.liesIn (depths rs) g k) = true) := fun g hg' => by
      have := hgl g hg'
      rw [Tr.lies_end he (by omega)]
      show (decide ((k : Int) ≤ (g : Int)) && decide ((g : Int) < (e : Int))) = true ↔ _
      rw [Bool.or_eq_true, Bool.and_eq_true, Bool.and_eq_true, decide_eq_true_iff, decide_eq_true_iff, decide_eq_true_iff, decide_eq_true_iff, beq_iff_eq]
      omega
    exact ⟨fun ⟨g, a, b⟩ => ⟨g, a, (pt g a).mp b⟩, fun ⟨g, a, b⟩ => ⟨g, a, (pt g a).mpr b⟩⟩
  rw [ee]
  exact z
theorem sc_next_in : FnScope ["rooms", "room", "goals", "own", "kid"] ["rooms", "room", "goals"] (defScope sNext) := ⟨rfl, rfl, rfl, by decide +kernel, rfl, by decide +kernel, by decide +kernel⟩
theorem ok_next_in {n : Nat} {f gk gb : Addr} {fd dk db : FuncData} (F : Fun K "next_in" "next_in" sNext f fd)
    (G_kids : FnOk P w K mg base CX0 n gk dk ["rooms", "room"] spKids) (b_kids : Binds K dk ["rooms", "room"] []) (k_kids : PySem.W.keepIn K (.ref gk) = true) (m_kids : mg "kids" = some (.ref gk))
    (G_bears_goal : FnOk P w K mg base CX0 n gb db ["rooms", "room", "goals"] spBears) (b_bears_goal : Binds K db ["rooms", "room", "goals"] []) (k_bears_goal : PySem.W.keepIn K (.ref gb) = true) (m_bears_goal : mg "bears_goal" = some (.ref gb)) :
    FnOk P w K mg base CX0 (n + 1) f fd ["rooms", "room", "goals"] spNext := by
  refine F.ok sc_next_in (fun vs H Q E h => ?_) (fun cdv A outer s H vs Q E hr h => ?_)
  · obtain ⟨t, pg, rs, k, gs, rfl, _⟩ := h
    rfl
  obtain ⟨t, pg, rs, k, gs, rfl, hR, good, h40, hk, hG, q⟩ := h
  refine ⟨_, (pss_cons (ps_set (i := 3) sc_next_in.nd rfl (Or.inl rfl) (pe_call G_kids hr rfl m_kids k_kids b_kids .nil pass0 (pa_cons (pv 0) (pa_cons (pv 1) pa_nil))))
    (pss_cons (ps_if (pt_cmpR op_eq (pe_ix ix_tup (pe_ix ix_tup (pv 0) (pv 1) (fun _ _ => rfl)) pe_int (fun _ _ => rfl)) pe_str (nomark _))
      (pss_one (ps_ret (pv 3)))
      pss_nil)
    (pss_cut (ps_for PassesOwn.never rfl (pi_list (pv 3)) (pg_name (i := 4) sc_next_in.nd rfl (Or.inl rfl))
      (pss_one (ps_if (pt_val (pe_call G_bears_goal hr rfl m_bears_goal k_bears_goal b_bears_goal .nil pass0 (pa_cons (pv 0) (pa_cons (pv 4) (pa_cons (pv 2) pa_nil)))))
        (pss_one (ps_ret (pe_lst (pa_cons (pv 4) pa_nil))))
        pss_nil)))
    (pss_one (ps_ret (pe_slice sl_list (pv 3) po_none (po_some pe_int))))))), ?_⟩
  obtain ⟨vs, a, r, ht, hl, hr0, hat, ha⟩ := hR.at hk
  have dl := depths_len rs
  refine ⟨_, rfl, _, rfl, t, rs, k, rfl, hR, good, h40, hk, fun po H1 s1 npo hpo => ?_⟩
  refine ⟨_, rfl, _, rfl, t, vs, _, _, rfl, rfl, SqT.of (s1 _ _ ht), hat, a, _, _, _, rfl, rfl, SqT.of (s1 _ _ ha), rfl, rfl, _, rfl, ?_⟩
  have eal : alB rs k = decide (V.str r.kind = V.str ("all" : Str)) := by
    unfold alB
    rw [kind_at hr0]
    exact decide_eq_decide.mpr ⟨fun z => by rw [z], fun z => by injection z⟩
  refine itB (fun c => ?_) (fun c => ?_)
  · refine ⟨_, rfl, q po H1 s1 npo ?_⟩
    rw [Tr.next_all (eal.trans c)]
    exact hpo
  have nal : alB rs k = false := eal.trans c
  have kl : ∀ x ∈ Tr.kids (depths rs) k, x < rs.length := fun x hx => by
    have := (Tr.mem_kids.mp hx).1
    omega
  have eN : Tr.next (depths rs) (alB rs) gs k = match (Tr.kids (depths rs) k).find? (Tr.bears (depths rs) gs) with
      | some j => [j]
      | none => (Tr.kids (depths rs) k).take 1 := by
    unfold Tr.next
    rw [if_neg (by rw [nal]; exact Bool.false_ne_true)]
    all_goals (cases (Tr.kids (depths rs) k).find? (Tr.bears (depths rs) gs) <;> rfl)
  generalize hks : Tr.kids (depths rs) k = ks at hpo kl eN
  refine ⟨fun σ' H' => Same H1 H' ∧ (∀ x ∈ ks, Tr.bears (depths rs) gs x = false) ∧ ∃ o4 : Option V, σ' = [some (.ref t), some (.int (k : Int)), some (.ref pg), some (.ref po), o4], ?_, ?_⟩
  · refine ⟨_, rfl, po, rfl, ⟨_, SqL.of hpo⟩, ?_⟩
    refine for_list (K := K) (a := po) (xs := natsV ks) (fun i σ' H' => Same H1 H' ∧ (∀ x ∈ ks.take i, Tr.bears (depths rs) gs x = false) ∧ ∃ o4 : Option V, σ' = [some (.ref t), some (.int (k : Int)), some (.ref pg), some (.ref po), o4])
      ⟨Same.refl _, fun x hx => (by rw [List.take_zero] at hx; cases hx), _, rfl⟩ (fun i σ' H' _ ⟨s2, _⟩ => SqL.of (s2 _ _ hpo)) ?_ ?_
    · rintro j x σ' H2 hx ⟨s2, hno, o4, rfl⟩
      obtain ⟨hj, rfl⟩ := natsV_get hx
      have hlt := kl _ (List.getElem_mem hj)
      refine ⟨_, rfl, _, rfl, _, rfl, t, pg, rs, ks[j], gs, rfl, hR.mono (KeepT.of (s1.trans s2)), h40, hlt, hG.mono (s1.trans s2), fun H3 s3 => ⟨_, rfl, ?_⟩⟩
      refine itB (fun c => ?_) (fun c => ?_)
      · refine ⟨_, rfl, small_le (by show 1 ≤ 1000; decide), fun p hp => q p _ ((s1.trans (s2.trans s3)).trans (same_new hp _)) ((s1.trans (s2.trans s3)).free hp) ?_⟩
        have ef : ks.find? (Tr.bears (depths rs) gs) = some ks[j] := by
          rw [List.find?_eq_some_iff_getElem]
          exact ⟨c, j, hj, rfl, fun i hi => by rw [hno _ (by rw [List.mem_take_iff_getElem]; exact ⟨i, by omega, rfl⟩)]; rfl⟩
        rw [upd_same, eN, ef]
        rfl
      · refine ⟨s2.trans s3, fun x hx => ?_, _, rfl⟩
        rw [List.take_add_one, List.getElem?_eq_getElem hj] at hx
        rcases List.mem_append.mp hx with h | h
        · exact hno x h
        · rw [List.mem_singleton.mp h]
          exact c
    · rintro σ' H2 ⟨s2, hno, o4, rfl⟩
      rw [List.take_of_length_le (by rw [natsV_len]; exact Nat.le_refl _)] at hno
      exact ⟨s2, hno, _, rfl⟩
  rintro σ' H2 ⟨s2, hno, o4, rfl⟩
  refine ⟨_, rfl, _, rfl, po, _, rfl, SqL.of (s2 _ _ hpo), fun p hp => q p _ ((s1.trans s2).trans (same_new hp _)) ((s1.trans s2).free hp) ?_⟩
  have ef : ks.find? (Tr.bears (depths rs) gs) = none := by
    rw [List.find?_eq_none]
    intro x hx
    rw [hno x hx]
    exact Bool.false_ne_true
  rw [upd_same, eN, ef, cut_take _ (by decide)]
  show some (HO.lst ((natsV ks).take 1)) = some (HO.lst (natsV (ks.take 1)))
  unfold natsV
  rw [List.map_take]
theorem sc_goings_in : FnScope ["rooms", "under", "goals", "ahead", "gone", "room"] ["rooms", "under", "goals"] (defScope sIn) := ⟨rfl, rfl, rfl, by decide +kernel, rfl, by decide +kernel, by decide +kernel⟩
theorem ok_goings_in {n : Nat} {f gn : Addr} {fd dn : FuncData} (F : Fun K "goings_in" "goings_in" sIn f fd)
    (G_next_in : FnOk P w K mg base CX0 n gn dn ["rooms", "room", "goals"] spNext) (b_next_in : Binds K dn ["rooms", "room", "goals"] []) (k_next_in : PySem.W.keepIn K (.ref gn) = true) (m_next_in : mg "next_in" = some (.ref gn))
    (m_len : mg "len" = none) (m_sorted : mg "sorted" = none) : FnOk P w K mg base CX0 (n + 1) f fd ["rooms", "under", "goals"] spIn := by
  refine F.ok sc_goings_in (fun vs H Q E h => ?_) (fun cdv A outer s H vs Q E hr h => ?_)
  · obtain ⟨t, pg, rs, un, gs, rfl, _⟩ := h
    rfl
  obtain ⟨t, pg, rs, un, gs, rfl, hR, good, h40, hun, hG, q⟩ := h
  refine ⟨_, (pss_cons (ps_set (i := 3) sc_goings_in.nd rfl (Or.inl rfl) (pe_cut (pe_ifExp (pt_cmpR op_isN (pv 1) pe_non (nomark _)) (pe_lst (pa_cons pe_int pa_nil)) (pe_call G_next_in hr rfl m_next_in k_next_in b_next_in .nil pass0 (pa_cons (pv 0) (pa_cons (pv 1) (pa_cons (pv 2) pa_nil)))))))
    (pss_cons (ps_set (i := 4) sc_goings_in.nd rfl (Or.inl rfl) (pe_lst pa_nil))
    (pss_cut (ps_while PassesOwn.never (pt_cmpR op_gt (pe_callB call_len_seq rfl m_len PySem.boot_len (pa_cons (pv 3) pa_nil)) pe_int (nomark _))
      (pss_cons (ps_set (i := 5) sc_goings_in.nd rfl (Or.inl rfl) (pe_bm0 PySem.F.plainAttrs_list PySem.F.slot_list_pop PySem.F.type_list_pop mt_pop (pv 3)))
      (pss_cons (ps_expr (pe_bm PySem.F.plainAttrs_list PySem.F.slot_list_append PySem.F.type_list_append mt_append (pv 4) (pa_cons (pv 5) pa_nil)))
      (pss_one (ps_expr (pe_bm PySem.F.plainAttrs_list PySem.F.slot_list_extend PySem.F.type_list_extend mt_extend (pv 3) (pa_cons (pe_call G_next_in hr rfl m_next_in k_next_in b_next_in .nil pass0 (pa_cons (pv 0) (pa_cons (pv 5) (pa_cons (pv 2) pa_nil)))) pa_nil)))))))
    (pss_one (ps_ret (pe_callB call_sorted rfl m_sorted PyProof.Rows.boot_sorted (pa_cons (pv 4) pa_nil))))))), ?_⟩
  have dl := depths_len rs
  have pos := good.pos
  refine ⟨fun v H' => ∃ (pa : Addr) (ah : List Nat), v = .ref pa ∧ Same H H' ∧ H pa = none ∧ H' pa = some (.lst (natsV ah)) ∧ Tr.Work (depths rs) (alB rs) gs un [] ah, ?_, ?_⟩
  · cases un with
    | none => exact ⟨_, rfl, rfl, _, rfl, ifT rfl ⟨small_le (by show 1 ≤ 1000; decide), fun p hp => ⟨p, [0], rfl, same_new hp _, hp, upd_same, Tr.Work.none _ _ _⟩⟩⟩
    | some u => exact ⟨_, rfl, rfl, _, rfl, ifF rfl ⟨_, rfl, _, rfl, _, rfl, t, pg, rs, u, gs, rfl, hR, good, h40, hun u rfl, hG, fun p H1 s1 np hp => ⟨p, _, rfl, s1, np, hp, Tr.Work.some _ _ _ u⟩⟩⟩
  rintro _ H1 ⟨pa, ah, rfl, s1, npa, hpa, wk⟩
  refine ⟨Nat.zero_le _, fun pn hpn => ?_⟩
  have npn : H pn = none := s1.free hpn
  have ne : pn ≠ pa := fun e => by
    rw [e, hpa] at hpn
    cases hpn
  refine ⟨fun σ' H' => ∃ gone : List Nat, Same H H' ∧ H' pn = some (.lst (natsV gone)) ∧ Tr.Work (depths rs) (alB rs) gs un gone [] ∧ ∃ o5 : Option V, σ' = [some (.ref t), some (pV un), some (.ref pg), some (.ref pa), some (.ref pn), o5], ?_, ?_⟩
  · refine ⟨fun m σ' H' => ∃ (gone ahead : List Nat), m = rs.length - gone.length ∧ Same H H' ∧ H' pa = some (.lst (natsV ahead)) ∧ H' pn = some (.lst (natsV gone)) ∧ Tr.Work (depths rs) (alB rs) gs un gone ahead ∧ ∃ o5 : Option V, σ' = [some (.ref t), some (pV un), some (.ref pg), some (.ref pa), some (.ref pn), o5],
      ⟨_, [], ah, rfl, s1.trans (same_new hpn _), (same_new hpn _) _ _ hpa, upd_same, wk, _, rfl⟩, ?_⟩
    rintro m σ' H2 ⟨gone, ahead, rfl, s2, ha2, hn2, wk2, o5, rfl⟩
    refine ⟨_, rfl, pa, _, rfl, .inl (SqL.of ha2), _, _, rfl, rfl, _, rfl, ?_⟩
    refine itB (fun c => ?_) (fun c => ?_)
    · have c' := of_decide_eq_true c
      rw [natsV_len] at c'
      have wl := wk2.len pos
      obtain ⟨a, r, rfl⟩ : ∃ a r, ahead = a ++ [r] := by
        refine ⟨ahead.dropLast, ahead.getLast (fun z => by rw [z] at c'; exact absurd c' (by decide)), (List.dropLast_concat_getLast _).symm⟩
      have hrl : r < rs.length := by
        have := (wk2.ok r (by simp)).lt pos
        omega
      rw [List.length_append, List.length_singleton] at wl
      refine ⟨fun σ' H' => ∃ (gone2 ahead2 : List Nat), gone2.length = gone.length + 1 ∧ Same H H' ∧ H' pa = some (.lst (natsV ahead2)) ∧ H' pn = some (.lst (natsV gone2)) ∧ Tr.Work (depths rs) (alB rs) gs un gone2 ahead2 ∧ ∃ o5 : Option V, σ' = [some (.ref t), some (pV un), some (.ref pg), some (.ref pa), some (.ref pn), o5], ?_, ?_⟩
      · rintro σ' H3 ⟨g2, a2, hl, rest⟩
        exact ⟨rs.length - g2.length, by omega, g2, a2, rfl, rest⟩
      refine ⟨_, rfl, .inl ⟨rfl, _, SqL.of ha2⟩, pa, _, .int (r : Int), rfl, rfl, ha2, ?_, ?_⟩
      · rw [← natsV_app, List.length_append, List.length_singleton, Nat.add_sub_cancel, List.getElem?_append_right (Nat.le_refl _), Nat.sub_self]
        rfl
      have hn3 : (upd H2 pa (.lst (natsV (a ++ [r])).dropLast)) pn = some (.lst (natsV gone)) := by
        rw [upd_ne ne]
        exact hn2
      refine ⟨_, rfl, .inl ⟨rfl, _, SqL.of hn3⟩, _, rfl, pn, _, _, rfl, rfl, hn3, small1000 (by rw [natsV_len]; omega), ?_⟩
      have s3 : Same H (upd (upd H2 pa (.lst (natsV (a ++ [r])).dropLast)) pn (.lst (natsV gone ++ [.int (r : Int)]))) := same_upd npn (same_upd npa s2 _) _
      have ha3 : (upd (upd H2 pa (.lst (natsV (a ++ [r])).dropLast)) pn (.lst (natsV gone ++ [.int (r : Int)]))) pa = some (.lst (natsV a)) := by
        rw [upd_ne (Ne.symm ne), upd_same, ← natsV_app, List.dropLast_concat]
      have hn4 : (upd (upd H2 pa (.lst (natsV (a ++ [r])).dropLast)) pn (.lst (natsV gone ++ [.int (r : Int)]))) pn = some (.lst (natsV (gone ++ [r]))) := by
        rw [upd_same, natsV_app]
      generalize upd (upd H2 pa (.lst (natsV (a ++ [r])).dropLast)) pn (.lst (natsV gone ++ [.int (r : Int)])) = H3 at s3 ha3 hn4 ⊢
      refine ⟨_, rfl, .inl ⟨rfl, _, SqL.of ha3⟩, _, rfl, _, rfl, _, rfl, t, pg, rs, r, gs, rfl, hR.mono (KeepT.of s3), good, h40, hrl, hG.mono s3, fun px H4 s4 npx hpx => ?_⟩
      have wk3 := wk2.step
      have wl3 := wk3.len pos
      rw [List.length_append] at wl3
      refine ⟨pa, px, _, _, rfl, rfl, s4 _ _ ha3, hpx, small_le (by rw [natsV_len, natsV_len]; rw [List.length_append] at wl3; omega), gone ++ [r], a ++ Tr.next (depths rs) (alB rs) gs r, by rw [List.length_append]; rfl, same_upd npa (s3.trans s4) _, ?_, ?_, wk3, _, rfl⟩
      · rw [upd_same]
        unfold natsV
        rw [List.map_append]
      · rw [upd_ne ne]
        exact s4 _ _ hn4
    · have c' := of_decide_eq_false c
      rw [natsV_len] at c'
      have e : ahead = [] := List.eq_nil_of_length_eq_zero (by omega)
      subst e
      exact ⟨gone, s2, hn2, wk2, _, rfl⟩
  rintro σ' H2 ⟨gone, s2, hn2, wk2, o5, rfl⟩
  have wl := wk2.len pos
  refine ⟨_, rfl, pn, _, rfl, .inl (SqL.of (by rw [hn2]; unfold natsV; rw [nats_ints])), by rw [List.length_map]; omega, fun p rs' hp perm srt => ?_⟩
  have nd : gone.Nodup := by
    have := wk2.nd
    rw [List.append_nil] at this
    exact this
  obtain ⟨ms, rfl, rise, hpm⟩ := sorted_rise perm srt nd
  refine q p ms _ (s2.trans (same_new hp _)) (s2.free hp) ?_ ⟨rise, fun k => (hpm.mem_iff).trans (wk2.done k)⟩
  rw [upd_same, ← nats_ints]
  rfl
end
end Prg

namespace Prg
open PySem L2 Mix Gds Rms
/-! what is kept: the defs -/
def spPlain : Sp := fun vs H Q _ => ∃ (t pt : Addr) (rs : List Rm) (os : List Nat), vs = [.ref t, .ref pt] ∧ Rooms H t rs ∧ rs.length ≤ 40 ∧ H pt = some (.lst (natsV os)) ∧ (∀ o ∈ os, o < rs.length) ∧ os.length ≤ 100 ∧
  ∀ (p : Addr) (H' : Hp), Same H H' → H' p = some (.tup (natsV (os.filter (plB rs)))) → Q (.ref p) H'
def spKeptOf : Sp := fun vs H Q _ => ∃ (t to' : Addr) (rs : List Rm) (os : List Nat) (r : Nat), vs = [.ref t, .ref to', .int (r : Int)] ∧ Rooms H t rs ∧ Tr.Good (depths rs) ∧ rs.length ≤ 40 ∧ H to' = some (.tup (natsV os)) ∧ (∀ o ∈ os, o < rs.length) ∧ os.length ≤ 40 ∧ os.Pairwise (· < ·) ∧ r < rs.length ∧
  ∀ (p : Addr) (H' : Hp), Same H H' → H' p = some (.tup (natsV (keptV rs os r))) → Q (.ref p) H'
def spKeeping : Sp := fun vs H Q _ => ∃ (t to' pl pk : Addr) (rs : List Rm) (os ls : List Nat) (kv : List V) (ks : List (List Nat)), vs = [.ref t, .ref to', .ref pl, .ref pk] ∧ Rooms H t rs ∧ Tr.Good (depths rs) ∧ rs.length ≤ 40 ∧ H to' = some (.tup (natsV os)) ∧ (∀ o ∈ os, o < rs.length) ∧ os.length ≤ 40 ∧ os.Pairwise (· < ·) ∧ H pl = some (.lst (natsV ls)) ∧ (∀ l ∈ ls, l < rs.length) ∧ H pk = some (.tup kv) ∧ RowsIn H kv ks ∧ ks.length = rs.length ∧
  ∀ (p : Addr) (kv' : List V) (H' : Hp), Same H H' → H' p = some (.tup kv') → RowsIn H' kv' (keptFold rs os ls ks) → Q (.ref p) H'
section
variable {P : Program} {w : World} {K : PySem.W.Frag} {mg : Str → Option Value} {base : Heap}
theorem sc_plain_ones : FnScope ["rooms", "told"] ["rooms", "told"] (defScope sPlain) := ⟨rfl, rfl, rfl, by decide +kernel, rfl, by decide +kernel, by decide +kernel⟩
theorem ok_plain_ones {f : Addr} {fd : FuncData} (F : Fun K "plain_ones" "plain_ones" sPlain f fd) (m_tuple : mg "tuple" = none) : FnOk P w K mg base CX0 1 f fd ["rooms", "told"] spPlain := by
  refine F.ok sc_plain_ones (fun vs H Q E h => ?_) (fun cdv A outer s H vs Q E hr h => ?_)
  · obtain ⟨t, pt, rs, os, rfl, _⟩ := h
    rfl
  obtain ⟨t, pt, rs, os, rfl, hR, h40, hpt, hos, los, q⟩ := h
  refine ⟨_, (pss_one (ps_ret (pe_callTy call_tuple_of rfl m_tuple PyProof.Rows.boot_tuple (pa_cons (pe_comp (caps := [(0, "rooms")]) rfl (show CompSc (defScope sPlain) ["rooms", "told"] _ _ _ from ⟨rfl, rfl, by decide +kernel, by decide +kernel, by decide +kernel, by decide +kernel, by decide +kernel⟩) (pi_list (pv 1)) (fun _ _ _ _ _ _ => pifs_one (pt_cmpR op_eq (pe_ix (r := rIxT K) ix_tup (pe_ix (r := rIxT K) ix_tup (pv 1) (pv 0) (fun _ _ => rfl)) pe_int (fun _ _ => rfl)) pe_str (nomark _))) (fun _ _ _ _ _ _ => (pv 0))) pa_nil)))), ?_⟩
  refine ⟨_, rfl, pt, rfl, ⟨_, SqL.of hpt⟩, ?_⟩
  refine comp_list (K := K) (a := pt) (xs := natsV os) (fun i acc H' => H' = H ∧ acc = natsV ((os.take i).filter (plB rs))) ⟨rfl, rfl⟩ (fun i acc H' ⟨e, _⟩ => by subst e; exact SqL.of hpt) (fun i x acc H' hx ⟨e1, e2⟩ => ?_) (fun acc H' ⟨e1, e2⟩ p hp => ?_)
  · subst e1 e2
    obtain ⟨hi, rfl⟩ := natsV_get hx
    obtain ⟨vs, a, r, ht, hl, hr0, hat, ha⟩ := hR.at (hos _ (List.getElem_mem hi))
    refine ⟨_, rfl, _, rfl, t, vs, _, _, rfl, rfl, SqT.of ht, hat, a, _, _, _, rfl, rfl, SqT.of ha, rfl, rfl, _, rfl, ?_⟩
    have ep : plB rs os[i] = decide (V.str r.kind = V.str ("plain" : Str)) := by
      unfold plB
      rw [kind_at hr0]
      exact decide_eq_decide.mpr ⟨fun z => by rw [z], fun z => by injection z⟩
    rw [filter_succ (List.getElem?_eq_getElem hi)]
    have ll := List.length_filter_le (plB rs) (os.take i)
    rw [List.length_take] at ll
    refine itB (fun c => ?_) (fun c => ?_)
    · rw [if_pos (ep.trans c), ← natsV_app]
      exact ⟨_, rfl, small1000 (by rw [natsV_len]; omega), rfl, rfl⟩
    · rw [if_neg (by rw [show plB rs os[i] = false from ep.trans c]; exact Bool.false_ne_true), List.append_nil]
      exact ⟨rfl, rfl⟩
  subst e1 e2
  rw [List.take_of_length_le (by rw [natsV_len]; exact Nat.le_refl _)]
  exact ⟨p, _, rfl, .inl ⟨SqL.of upd_same, fun p2 hp2 => q p2 _ ((same_new hp _).trans (same_new hp2 _)) upd_same⟩⟩
theorem sc_kept_of : FnScope ["rooms", "opening", "room", "inside"] ["rooms", "opening", "room"] (defScope sKeptOf) := ⟨rfl, rfl, rfl, by decide +kernel, rfl, by decide +kernel, by decide +kernel⟩
theorem ok_kept_of {n : Nat} {f gg gp : Addr} {fd dg dp : FuncData} (F : Fun K "kept_of" "kept_of" sKeptOf f fd)
    (G_goings_out : FnOk P w K mg base CX0 n gg dg ["rooms", "under", "opening"] K14.spOut) (b_goings_out : Binds K dg ["rooms", "under", "opening"] []) (k_goings_out : PySem.W.keepIn K (.ref gg) = true) (m_goings_out : mg "goings_out" = some (.ref gg))
    (G_plain_ones : FnOk P w K mg base CX0 n gp dp ["rooms", "told"] spPlain) (b_plain_ones : Binds K dp ["rooms", "told"] []) (k_plain_ones : PySem.W.keepIn K (.ref gp) = true) (m_plain_ones : mg "plain_ones" = some (.ref gp))
    (m_sorted : mg "sorted" = none) (m_tuple : mg "tuple" = none) : FnOk P w K mg base CX0 (n + 1) f fd ["rooms", "opening", "room"] spKeptOf := by
  refine F.ok sc_kept_of (fun vs H Q E h => ?_) (fun cdv A outer s H vs Q E hr h => ?_)
  · obtain ⟨t, to', rs, os, r, rfl, _⟩ := h
    rfl
  obtain ⟨t, to', rs, os, r, rfl, hR, good, h40, hto, hos, los, inc, hr', q⟩ := h
  refine ⟨_, (pss_cons (ps_set (i := 3) sc_kept_of.nd rfl (Or.inl rfl) (pe_callB call_sorted rfl m_sorted PyProof.Rows.boot_sorted (pa_cons (pe_call G_goings_out hr rfl m_goings_out k_goings_out b_goings_out .nil pass0 (pa_cons (pv 0) (pa_cons (pv 2) (pa_cons (pv 1) pa_nil)))) pa_nil)))
    (pss_cons (ps_if (pt_cmpR op_eq (pe_ix ix_tup (pe_ix ix_tup (pv 0) (pv 2) (fun _ _ => rfl)) pe_int (fun _ _ => rfl)) pe_str (nomark _))
      (pss_one (ps_ret (pe_callTy call_tuple_of rfl m_tuple PyProof.Rows.boot_tuple (pa_cons (pe_slice sl_list (pv 3) po_none (po_some pe_int)) pa_nil))))
      pss_nil)
    (pss_one (ps_ret (pe_call G_plain_ones hr rfl m_plain_ones k_plain_ones b_plain_ones .nil pass0 (pa_cons (pv 0) (pa_cons (pv 3) pa_nil))))))), ?_⟩
  obtain ⟨vs, a, r0, ht, hl, hr0, hat, ha⟩ := hR.at hr'
  refine ⟨_, rfl, _, rfl, _, rfl, t, to', rs, some r, os, rfl, hR, good, h40, fun u e => (by cases e; exact hr'), hto, hos, los, inc, fun pf H1 s1 npf hpf => ?_⟩
  have eo : K14.outsOf (depths rs) (some r) os = (insideOf (depths rs) os r).reverse := rfl
  have li := List.length_filter_le (fun o => Tr.liesIn (depths rs) o r) os
  have li' : (insideOf (depths rs) os r).length ≤ os.length := li
  have ri : (insideOf (depths rs) os r).Pairwise (· < ·) := inc.filter _
  have mi : ∀ o ∈ insideOf (depths rs) os r, o < rs.length := fun o ho => hos o (List.mem_filter.mp ho).1
  unfold keptV at q
  generalize insideOf (depths rs) os r = xs at eo li' ri mi q
  rw [eo] at hpf
  refine ⟨pf, _, rfl, .inl (SqL.of (by rw [hpf]; unfold natsV; rw [nats_ints])), by rw [List.length_map, List.length_reverse]; omega, fun p1 rs' hp1 perm srt => ?_⟩
  obtain ⟨ms, rfl, rise, hpm⟩ := sorted_rise perm srt (by unfold List.Nodup; rw [List.pairwise_reverse]; exact ri.imp fun z => Ne.symm (Nat.ne_of_lt z))
  obtain rfl : ms = xs := rise_unique _ _ rise ri fun k => by rw [hpm.mem_iff, List.mem_reverse]
  rw [← nats_ints]
  have s2 := s1.trans (same_new hp1 (.lst (natsV ms)))
  have h2 : (upd H1 p1 (.lst (natsV ms))) p1 = some (.lst (natsV ms)) := upd_same
  change _ at s2
  refine ⟨_, rfl, _, rfl, t, vs, _, _, rfl, rfl, SqT.of (s2 _ _ ht), hat, a, _, _, _, rfl, rfl, SqT.of (s2 _ _ ha), rfl, rfl, _, rfl, ?_⟩
  have ek : (keepsAt rs r = ("near" : Str)) ↔ V.str r0.keeps = V.str ("near" : Str) := by
    rw [keeps_at hr0]
    exact ⟨fun z => by rw [z], fun z => by injection z⟩
  refine itB (fun c => ?_) (fun c => ?_)
  · have c' := ek.mpr (of_decide_eq_true c)
    refine ⟨_, rfl, _, rfl, p1, _, rfl, SqL.of h2, fun p2 hp2 => ?_⟩
    rw [cut_take _ (by decide)]
    have e2 : (natsV ms).take (1 : Int).toNat = natsV (ms.take 1) := by
      unfold natsV
      rw [List.map_take]
      rfl
    rw [e2]
    refine ⟨p2, _, rfl, .inl ⟨SqL.of upd_same, fun p3 hp3 => ?_⟩⟩
    refine q p3 _ ((s2.trans (same_new hp2 _)).trans (same_new hp3 _)) ?_
    rw [upd_same, if_pos c']
  · have c' : ¬ keepsAt rs r = ("near" : Str) := fun z => of_decide_eq_false c (ek.mp z)
    refine ⟨_, rfl, _, rfl, t, p1, rs, ms, rfl, hR.mono (KeepT.of s2), h40, h2, mi, by omega, fun p2 H3 s3 hp2 => ?_⟩
    refine q p2 H3 (s2.trans s3) ?_
    rw [if_neg c']
    exact hp2
theorem sc_keeping : FnScope ["rooms", "opening", "left", "kept", "told", "room"] ["rooms", "opening", "left", "kept"] (defScope sKeeping) := ⟨rfl, rfl, rfl, by decide +kernel, rfl, by decide +kernel, by decide +kernel⟩
theorem ok_keeping {n : Nat} {f gk : Addr} {fd dk : FuncData} (F : Fun K "keeping" "keeping" sKeeping f fd)
    (G_kept_of : FnOk P w K mg base CX0 n gk dk ["rooms", "opening", "room"] spKeptOf) (b_kept_of : Binds K dk ["rooms", "opening", "room"] []) (k_kept_of : PySem.W.keepIn K (.ref gk) = true) (m_kept_of : mg "kept_of" = some (.ref gk))
    (m_list : mg "list" = none) (m_tuple : mg "tuple" = none) : FnOk P w K mg base CX0 (n + 1) f fd ["rooms", "opening", "left", "kept"] spKeeping := by
  refine F.ok sc_keeping (fun vs H Q E h => ?_) (fun cdv A outer s H vs Q E hr h => ?_)
  · obtain ⟨t, to', pl, pk, rs, os, ls, kv, ks, rfl, _⟩ := h
    rfl
  obtain ⟨t, to', pl, pk, rs, os, ls, kv, ks, rfl, hR, good, h40, hto, hos, los, inc, hpl, hls, hpk, hks, lks, q⟩ := h
  refine ⟨_, (pss_cons (ps_set (i := 4) sc_keeping.nd rfl (Or.inl rfl) (pe_callTy call_list_of rfl m_list PyProof.Rows.boot_list (pa_cons (pv 3) pa_nil)))
    (pss_cut (ps_for PassesOwn.never rfl (pi_list (pv 2)) (pg_name (i := 5) sc_keeping.nd rfl (Or.inl rfl))
      (pss_one (ps_if (pt_cmpR op_ne (pe_ix ix_tup (pe_ix ix_tup (pv 0) (pv 5) (fun _ _ => rfl)) pe_int (fun _ _ => rfl)) pe_str (nomark _))
        (pss_one (ps_asg (pe_call G_kept_of hr rfl m_kept_of k_kept_of b_kept_of .nil pass0 (pa_cons (pv 0) (pa_cons (pv 1) (pa_cons (pv 5) pa_nil)))) (pg_sub (pv 4) (pv 5) set_list)))
        pss_nil)))
    (pss_one (ps_ret (pe_callTy call_tuple_of rfl m_tuple PyProof.Rows.boot_tuple (pa_cons (pv 4) pa_nil)))))), ?_⟩
  refine ⟨_, rfl, pk, _, rfl, .inr (SqT.of hpk), fun pt hpt => ?_⟩
  have s1 := same_new hpt (.lst kv)
  refine ⟨fun σ' H' => ∃ kv' : List V, Same H H' ∧ H' pt = some (.lst kv') ∧ RowsIn H' kv' (keptFold rs os ls ks) ∧ ∃ o5 : Option V, σ' = [some (.ref t), some (.ref to'), some (.ref pl), some (.ref pk), some (.ref pt), o5], ?_, ?_⟩
  · refine ⟨_, rfl, pl, rfl, ⟨_, SqL.of (s1 _ _ hpl)⟩, ?_⟩
    refine for_list (K := K) (a := pl) (xs := natsV ls) (fun i σ' H' => ∃ kv' : List V, Same H H' ∧ H' pt = some (.lst kv') ∧ RowsIn H' kv' (keptFold rs os (ls.take i) ks) ∧ ∃ o5 : Option V, σ' = [some (.ref t), some (.ref to'), some (.ref pl), some (.ref pk), some (.ref pt), o5])
      ⟨kv, s1, upd_same, hks.mono (KeepT.of s1), _, rfl⟩ (fun i σ' H' _ ⟨_, s2, _⟩ => SqL.of (s2 _ _ hpl)) ?_ ?_
    · rintro i x σ' H2 hx ⟨kv2, s2, h2, hk2, o5, rfl⟩
      obtain ⟨hi, rfl⟩ := natsV_get hx
      have hlt := hls _ (List.getElem_mem hi)
      obtain ⟨vs, a, r0, ht, hl, hr0, hat, ha⟩ := hR.at hlt
      have lk2 := hk2.length
      rw [keptFold_len] at lk2
      have es : keptFold rs os (ls.take (i + 1)) ks = if keepsAt rs ls[i] = ("" : Str) then keptFold rs os (ls.take i) ks else (keptFold rs os (ls.take i) ks).set ls[i] (keptV rs os ls[i]) := by
        rw [List.take_add_one, List.getElem?_eq_getElem hi]
        exact keptFold_snoc rs os _ _ ks
      refine ⟨_, rfl, _, rfl, t, vs, _, _, rfl, rfl, SqT.of (s2 _ _ ht), hat, a, _, _, _, rfl, rfl, SqT.of (s2 _ _ ha), rfl, rfl, _, rfl, ?_⟩
      have ek : keepsAt rs ls[i] = ("" : Str) ↔ V.str r0.keeps = V.str ("" : Str) := by
        rw [keeps_at hr0]
        exact ⟨fun z => by rw [z], fun z => by injection z⟩
      refine itB (fun c => ?_) (fun c => ?_)
      · have c' : ¬ keepsAt rs ls[i] = ("" : Str) := fun z => by
          have c : (!decide (V.str r0.keeps = V.str ("" : Str))) = true := c
          rw [decide_eq_true (ek.mp z)] at c
          cases c
        rw [if_neg c'] at es
        refine ⟨_, rfl, _, rfl, _, rfl, t, to', rs, os, ls[i], rfl, hR.mono (KeepT.of s2), good, h40, s2 _ _ hto, hos, los, inc, hlt, fun p H3 s3 hp => ?_⟩
        refine ⟨_, rfl, _, rfl, pt, _, _, ls[i], rfl, rfl, s3 _ _ h2, ?_, ?_⟩
        · unfold ixN
          rw [if_pos (by omega), if_pos (by omega)]
          simp
        have kt : KeepT H3 (upd H3 pt (.lst (kv2.set ls[i] (.ref p)))) := KeepT.lst (s3 _ _ h2) _
        refine ⟨kv2.set ls[i] (.ref p), same_upd hpt (s2.trans s3) _, upd_same, ?_, _, rfl⟩
        rw [es]
        exact ((hk2.mono (KeepT.of s3)).mono kt).set ⟨p, rfl, kt _ _ hp⟩ _
      · have c' : keepsAt rs ls[i] = ("" : Str) := by
          have c : (!decide (V.str r0.keeps = V.str ("" : Str))) = false := c
          rw [Bool.not_eq_false'] at c
          exact ek.mpr (of_decide_eq_true c)
        rw [if_pos c'] at es
        exact ⟨kv2, s2, h2, by rw [es]; exact hk2, _, rfl⟩
    · rintro σ' H2 ⟨kv2, s2, h2, hk2, o5, rfl⟩
      rw [List.take_of_length_le (by rw [natsV_len]; exact Nat.le_refl _)] at hk2
      exact ⟨kv2, s2, h2, hk2, _, rfl⟩
  rintro σ' H2 ⟨kv2, s2, h2, hk2, o5, rfl⟩
  refine ⟨_, rfl, pt, _, rfl, .inl ⟨SqL.of h2, fun p hp => ?_⟩⟩
  exact q p kv2 _ (s2.trans (same_new hp _)) upd_same (hk2.mono (KeepT.of (same_new hp _)))
end
end Prg

namespace K17
open PySem L2 Mix Gds Rms Prg
/-! k17: the way back -/
def spBack : Sp := fun vs H Q _ => ∃ (t pp po pg : Addr) (rs : List Rm) (os : List Nat) (room : Nat), vs = [.ref t, .ref pp, .ref po, .ref pg, .int (room : Int)] ∧ Rooms H t rs ∧ Tr.Good (depths rs) ∧ Fit rs ∧ KeepKind rs ∧ rs.length ≤ 40 ∧ H pp = some (.lst (parsV (depths rs) (depths rs).length)) ∧ H po = some (.lst (natsV os)) ∧ (∀ o ∈ os, o < rs.length) ∧ os.length ≤ 40 ∧ Tr.FullB (depths rs) (onB rs) (alB rs) os ∧ room ∈ os ∧ keepsAt rs room ≠ ("" : Str) ∧ H pg = some (.tup (natsV (keptV rs os room))) ∧ ∀ H', Same H H' → Q (.bl true) H'
theorem keptV_len (rs : List Rm) (os : List Nat) (r : Nat) : (keptV rs os r).length ≤ os.length := by
  unfold keptV insideOf
  split
  · rw [List.length_take]
    have := List.length_filter_le (fun o => Tr.liesIn (depths rs) o r) os
    omega
  · exact Nat.le_trans (List.length_filter_le _ _) (List.length_filter_le _ _)
def DueIs (rs : List Rm) (os : List Nat) (room : Nat) (fl : List Nat) : Prop := ∀ (un : Option Nat) (fs : List Nat), OkUn (depths rs) room un → Tr.Ins (depths rs) (alB rs) (keptV rs os room) un fs → (fs.filter fun o => Tr.liesIn (depths rs) o room) = fl
theorem scI (x : Option Nat) (i : Int) : scal (pV x) (.int i) = true := by cases x <;> rfl
section
variable {P : Program} {w : World} {K : PySem.W.Frag} {mg : Str → Option Value} {base : Heap}
theorem sc_law_back : FnScope ["_law_rooms_here", "_law_parents_here", "_law_opening_here", "_law_goals", "_law_room", "_law_due", "_law_roads", "_law_under", "_law_found"] ["_law_rooms_here", "_law_parents_here", "_law_opening_here", "_law_goals", "_law_room"] (defScope s_L_back) := ⟨rfl, rfl, rfl, by decide +kernel, rfl, by decide +kernel, by decide +kernel⟩
theorem ok_back {n : Nat} {f gl gf gg gr : Addr} {fd dl df dg dr : FuncData} (F : Fun K "_law_back" "_law_back" s_L_back f fd)
    (G_law_lies : FnOk P w K mg base CX0 n gl dl ["_law_parents_here", "_law_one", "_law_other"] K14.spLies) (b_law_lies : Binds K dl ["_law_parents_here", "_law_one", "_law_other"] []) (k_law_lies : PySem.W.keepIn K (.ref gl) = true) (m_law_lies : mg "_law_lies" = some (.ref gl))
    (G_law_fresh : FnOk P w K mg base CX0 n gf df ["_law_rooms_here", "_law_parents_here", "_law_kid"] spFresh) (b_law_fresh : Binds K df ["_law_rooms_here", "_law_parents_here", "_law_kid"] []) (k_law_fresh : PySem.W.keepIn K (.ref gf) = true) (m_law_fresh : mg "_law_fresh" = some (.ref gf))
    (G_goings_in : FnOk P w K mg base CX0 n gg dg ["rooms", "under", "goals"] spIn) (b_goings_in : Binds K dg ["rooms", "under", "goals"] []) (k_goings_in : PySem.W.keepIn K (.ref gg) = true) (m_goings_in : mg "goings_in" = some (.ref gg))
    (G_law_row : FnOk P w K mg base CX0 n gr dr ["_law_found"] spRow1) (b_law_row : Binds K dr ["_law_found"] []) (k_law_row : PySem.W.keepIn K (.ref gr) = true) (m_law_row : mg "_law_row" = some (.ref gr))
    (m_list : mg "list" = none) : FnOk P w K mg base CX0 (n + 1) f fd ["_law_rooms_here", "_law_parents_here", "_law_opening_here", "_law_goals", "_law_room"] spBack := by
  refine F.ok sc_law_back (fun vs H Q E h => ?_) (fun cdv A outer s H vs Q E hr h => ?_)
  · obtain ⟨t, pp, po, pg, rs, os, room, rfl, _⟩ := h
    rfl
  obtain ⟨t, pp, po, pg, rs, os, room, rfl, hR, good, fit, kk, l40, hpp, hpo, hos, los, full, ro, hk, hpg, q⟩ := h
  refine ⟨_, (pss_cons (ps_setC (i := 5) (caps := [(1, "_law_parents_here"), (4, "_law_room")]) rfl sc_law_back.nd rfl (Or.inl rfl) (show CompSc (defScope s_L_back) ["_law_rooms_here", "_law_parents_here", "_law_opening_here", "_law_goals", "_law_room", "_law_due", "_law_roads", "_law_under", "_law_found"] _ _ _ from ⟨rfl, rfl, by decide +kernel, by decide +kernel, by decide +kernel, by decide +kernel, by decide +kernel⟩) (pi_list (pv 2)) (fun _ _ _ _ _ _ => pifs_one (pt_val (pe_call G_law_lies hr rfl m_law_lies k_law_lies b_law_lies .nil pass0 (pa_cons (pv 1) (pa_cons (pv 0) (pa_cons (pv 2) pa_nil)))))) (fun _ _ _ _ _ _ => (pv 0)))
    (pss_cut (ps_if (pt_cmpR op_eq (pe_ix ix_tup (pe_ix ix_tup (pv 0) (pv 4) (fun _ _ => rfl)) pe_int (fun _ _ => rfl)) pe_str (nomark _))
      (pss_one (ps_set (i := 5) sc_law_back.nd rfl (Or.inl rfl) (pe_call G_law_fresh hr rfl m_law_fresh k_law_fresh b_law_fresh .nil pass0 (pa_cons (pv 0) (pa_cons (pv 1) (pa_cons (pe_ix ix_list (pe_comp (caps := [(4, "_law_room"), (1, "_law_parents_here")]) rfl (show CompSc (defScope s_L_back) ["_law_rooms_here", "_law_parents_here", "_law_opening_here", "_law_goals", "_law_room", "_law_due", "_law_roads", "_law_under", "_law_found"] _ _ _ from ⟨rfl, rfl, by decide +kernel, by decide +kernel, by decide +kernel, by decide +kernel, by decide +kernel⟩) (pi_list (pv 5)) (fun _ _ _ _ _ _ => pifs_one (pt_cmpR op_eq (pe_ix (r := rIxL K) ix_list (pv 2) (pv 0) (fun _ _ => rfl)) (pv 1) (nomark _))) (fun _ _ _ _ _ _ => (pv 0))) pe_int (fun _ _ => rfl)) pa_nil))))))
      pss_nil)
    (pss_cons (ps_set (i := 6) sc_law_back.nd rfl (Or.inl rfl) (pe_lst (pa_cons (pv 4) (pa_cons (pe_ix ix_list (pv 1) (pv 4) (fun _ _ => rfl)) (pa_cons pe_non pa_nil)))))
    (pss_cut (ps_if (pt_cmpR op_notN (pe_ix ix_list (pv 1) (pv 4) (fun _ _ => rfl)) pe_non (nomark _))
      (pss_one (ps_expr (pe_bm PySem.F.plainAttrs_list PySem.F.slot_list_append PySem.F.type_list_append mt_append (pv 6) (pa_cons (pe_ix ix_list (pv 1) (pe_ix ix_list (pv 1) (pv 4) (fun _ _ => rfl)) (fun _ _ => rfl)) pa_nil))))
      pss_nil)
    (pss_cut (ps_for PassesOwn.never rfl (pi_list (pv 6)) (pg_name (i := 7) sc_law_back.nd rfl (Or.inl rfl))
      (pss_cons (ps_set (i := 8) sc_law_back.nd rfl (Or.inl rfl) (pe_call G_goings_in hr rfl m_goings_in k_goings_in b_goings_in .nil pass0 (pa_cons (pv 0) (pa_cons (pv 7) (pa_cons (pe_callTy call_list_of rfl m_list PyProof.Rows.boot_list (pa_cons (pv 3) pa_nil)) pa_nil)))))
      (pss_cons (ps_if (pt_not (pt_val (pe_call G_law_row hr rfl m_law_row k_law_row b_law_row .nil pass0 (pa_cons (pv 8) pa_nil))))
        (pss_one (ps_ret pe_bl))
        pss_nil)
      (pss_cons (ps_if (pt_cmpR (op_neL hr.units0) (pe_comp (caps := [(1, "_law_parents_here"), (4, "_law_room")]) rfl (show CompSc (defScope s_L_back) ["_law_rooms_here", "_law_parents_here", "_law_opening_here", "_law_goals", "_law_room", "_law_due", "_law_roads", "_law_under", "_law_found"] _ _ _ from ⟨rfl, rfl, by decide +kernel, by decide +kernel, by decide +kernel, by decide +kernel, by decide +kernel⟩) (pi_list (pv 8)) (fun _ _ _ _ _ _ => pifs_one (pt_val (pe_call G_law_lies hr rfl m_law_lies k_law_lies b_law_lies .nil pass0 (pa_cons (pv 1) (pa_cons (pv 0) (pa_cons (pv 2) pa_nil)))))) (fun _ _ _ _ _ _ => (pv 0))) (pv 5) (nomark _))
        (pss_one (ps_ret pe_bl))
        pss_nil)
      (pss_one (ps_if (pt_cut (PW.pt (pw_and (pt_cmpR op_ne (pv 7) (pv 4) (nomark _)) (pw_and1 (pt_cmpR op_notIn_seq (pv 4) (pv 8) rfl)))))
        (pss_one (ps_ret pe_bl))
        pss_nil))))))
    (pss_one (ps_ret pe_bl))))))), ?_⟩
  have ld : (depths rs).length = rs.length := depths_len rs
  have hos' : ∀ o ∈ os, o < (depths rs).length := fun o h => by rw [ld]; exact hos o h
  have rl := hos room ro
  obtain ⟨gne, gin⟩ := goals_in full hos fit kk ro hk
  have glen := keptV_len rs os room
  refine ⟨_, rfl, po, rfl, ⟨_, SqL.of hpo⟩, ?_⟩
  refine comp_list (K := K) (a := po) (xs := natsV os) (fun i acc H' => H' = H ∧ acc = natsV ((os.take i).filter fun o => Tr.liesIn (depths rs) o room)) ⟨rfl, rfl⟩ (fun i acc H' ⟨e, _⟩ => by subst e; exact SqL.of hpo) (fun i x acc H' hx ⟨e1, e2⟩ => ?_) (fun acc H' ⟨e1, e2⟩ p0 hp0 => ?_)
  · subst e1 e2
    obtain ⟨hi, rfl⟩ := natsV_get hx
    refine ⟨_, rfl, _, rfl, _, rfl, pp, depths rs, os[i], room, rfl, hpp, hos' _ (List.getElem_mem hi), _, rfl, ?_⟩
    rw [filter_succ (List.getElem?_eq_getElem hi)]
    have ll := List.length_filter_le (fun o => Tr.liesIn (depths rs) o room) (os.take i)
    rw [List.length_take] at ll
    refine itB (fun c => ?_) (fun c => ?_)
    · rw [if_pos c, ← natsV_app]
      exact ⟨_, rfl, small1000 (by rw [natsV_len]; omega), rfl, rfl⟩
    · rw [if_neg (by rw [c]; exact Bool.false_ne_true), List.append_nil]
      exact ⟨rfl, rfl⟩
  have e3 : acc = natsV (insideOf (depths rs) os room) := by
    rw [e2, List.take_of_length_le (by rw [natsV_len]; exact Nat.le_refl _)]
    rfl
  subst e1
  subst e3
  have s1 := same_new hp0 (.lst (natsV (insideOf (depths rs) os room)))
  have h1 : (upd H' p0 (.lst (natsV (insideOf (depths rs) os room)))) p0 = some (.lst (natsV (insideOf (depths rs) os room))) := upd_same
  generalize upd H' p0 (.lst (natsV (insideOf (depths rs) os room))) = H1 at s1 h1 ⊢
  have lin : (insideOf (depths rs) os room).length ≤ os.length := List.length_filter_le _ _
  refine ⟨fun σ' H2 => ∃ (pd : Addr) (fl : List Nat), Same H' H2 ∧ H2 pd = some (.lst (natsV fl)) ∧ DueIs rs os room fl ∧ σ' = [some (.ref t), some (.ref pp), some (.ref po), some (.ref pg), some (.int (room : Int)), some (.ref pd), none, none, none], ?_, ?_⟩
  · obtain ⟨vs, a, r0, ht, hl, hr0, hat, ha⟩ := hR.at rl
    refine ⟨_, rfl, _, rfl, t, vs, _, _, rfl, rfl, SqT.of (s1 _ _ ht), hat, a, _, _, _, rfl, rfl, SqT.of (s1 _ _ ha), rfl, rfl, _, rfl, ?_⟩
    have ek : (keepsAt rs room = ("near" : Str)) ↔ V.str r0.keeps = V.str ("near" : Str) := by
      rw [keeps_at hr0]
      exact ⟨fun z => by rw [z], fun z => by injection z⟩
    refine itB (fun c => ?_) (fun c => ⟨p0, _, s1, h1, fun un fs hu ins => back_deep good full hos fit kk ro hk (fun y => of_decide_eq_false c (ek.mp y)) hu ins, rfl⟩)
    have c' := ek.mpr (of_decide_eq_true c)
    have k1 : r0.kind = ("one" : Str) := by
      have := kk r0 (List.mem_of_getElem? hr0)
      exact this.1 (by rw [← keeps_at hr0]; exact c')
    have ho : onB rs room = true := by
      unfold onB
      rw [kind_at hr0]
      exact decide_eq_true k1
    have hal : alB rs room = false := by
      unfold alB
      rw [kind_at hr0, k1]
      decide
    obtain ⟨kid, kido, kp, ek1, ek2⟩ := Tr.near_kid full hos' ro ho hal
    have hg : keptV rs os room = [kid] := by
      unfold keptV insideOf
      rw [if_pos c']
      exact ek1
    refine ⟨_, rfl, _, rfl, _, rfl, p0, rfl, ⟨_, SqL.of h1⟩, ?_⟩
    refine comp_list (K := K) (a := p0) (xs := natsV (insideOf (depths rs) os room)) (fun i acc H2 => H2 = H1 ∧ acc = natsV (((insideOf (depths rs) os room).take i).filter fun o => Tr.par (depths rs) o == some room)) ⟨rfl, rfl⟩ (fun i acc H2 ⟨e, _⟩ => by subst e; exact SqL.of h1) (fun i x acc H2 hx ⟨e1, e2⟩ => ?_) (fun acc H2 ⟨e1, e2⟩ p2 hp2 => ?_)
    · subst e1 e2
      obtain ⟨hi, rfl⟩ := natsV_get hx
      have hlt := hos' _ (List.mem_filter.mp (List.getElem_mem hi)).1
      refine ⟨_, rfl, _, rfl, pp, _, _, _, rfl, rfl, SqL.of (s1 _ _ hpp), K14.par_at _ hlt, _, rfl, scI _ _, _, rfl, ?_⟩
      have eb : decide (pV (Tr.par (depths rs) (insideOf (depths rs) os room)[i]) = V.int (room : Int)) = (Tr.par (depths rs) (insideOf (depths rs) os room)[i] == some room) := by
        cases Tr.par (depths rs) (insideOf (depths rs) os room)[i] with
        | none => exact decide_eq_false (fun z => by cases z)
        | some x =>
          rw [show ((some x : Option Nat) == some room) = decide (x = room) from rfl]
          exact decide_eq_decide.mpr ⟨fun z => by injection z with z; omega, fun z => by rw [z]; rfl⟩
      rw [filter_succ (List.getElem?_eq_getElem hi)]
      have ll := List.length_filter_le (fun o => Tr.par (depths rs) o == some room) ((insideOf (depths rs) os room).take i)
      rw [List.length_take] at ll
      refine itB (fun c => ?_) (fun c => ?_)
      · rw [if_pos (eb.symm.trans c), ← natsV_app]
        exact ⟨_, rfl, small1000 (by rw [natsV_len]; omega), rfl, rfl⟩
      · rw [if_neg (by rw [eb.symm.trans c]; exact Bool.false_ne_true), List.append_nil]
        exact ⟨rfl, rfl⟩
    have e4 : acc = natsV [kid] := by
      rw [e2, List.take_of_length_le (by rw [natsV_len]; exact Nat.le_refl _)]
      congr 1
    subst e1
    subst e4
    have s2 := s1.trans (same_new hp2 (.lst (natsV [kid])))
    refine ⟨_, _, _, _, rfl, rfl, SqL.of upd_same, (show atI (natsV [kid]) ((0 : Nat) : Int) = some (.int (kid : Int)) from K14.nats_lt [kid] (by simp)), t, pp, rs, kid, rfl, hR.mono (KeepT.of s2), l40, s2 _ _ hpp, hos kid kido, fun pd fl H3 s3 hpd frise flo fki flt fch => ?_⟩
    exact ⟨pd, fl, s2.trans s3, hpd, fun un fs hu ins => back_near good full hos fit kk ro hk hal (hos' kid kido) kp hg frise flo fki flt fch hu ins, rfl⟩
  rintro σ2 H2 ⟨pd, fl, s2, hpd, due, rfl⟩
  have hatr : atI (parsV (depths rs) (depths rs).length) (room : Int) = some (pV (Tr.par (depths rs) room)) := K14.par_at _ (by omega)
  refine ⟨_, rfl, _, rfl, _, rfl, pp, _, _, _, rfl, rfl, SqL.of (s2 _ _ hpp), hatr, small_le (by show 3 ≤ 1000; decide), fun pr hpr => ?_⟩
  have n0 : H' pr = none := s2.free hpr
  have s3 := s2.trans (same_new hpr (.lst [V.int (room : Int), pV (Tr.par (depths rs) room), V.non]))
  have hpd3 := (same_new hpr (.lst [V.int (room : Int), pV (Tr.par (depths rs) room), V.non])) _ _ hpd
  have h3 : (upd H2 pr (.lst [V.int (room : Int), pV (Tr.par (depths rs) room), V.non])) pr = some (.lst ([some room, Tr.par (depths rs) room, none].map pV)) := upd_same
  have npd : pd ≠ pr := fun e => by
    rw [← e, hpd] at hpr
    cases hpr
  generalize upd H2 pr (.lst [V.int (room : Int), pV (Tr.par (depths rs) room), V.non]) = H3 at s3 hpd3 h3 ⊢
  have ok1 : OkUn (depths rs) room (some room) := fun u e => by injection e with e; exact .inl e.symm
  have ok2 : OkUn (depths rs) room (Tr.par (depths rs) room) := fun u e => .inr (Tr.lies_par e)
  have ok3 : OkUn (depths rs) room none := fun u e => (by cases e)
  refine ⟨fun σ' H4 => ∃ uns : List (Option Nat), Same H' H4 ∧ H4 pd = some (.lst (natsV fl)) ∧ H4 pr = some (.lst (uns.map pV)) ∧ (∀ un ∈ uns, OkUn (depths rs) room un) ∧ σ' = [some (.ref t), some (.ref pp), some (.ref po), some (.ref pg), some (.int (room : Int)), some (.ref pd), some (.ref pr), none, none], ?_, ?_⟩
  · have ok123 : ∀ un ∈ [some room, Tr.par (depths rs) room, none], OkUn (depths rs) room un := fun un h => by
      simp only [List.mem_cons, List.not_mem_nil, or_false] at h
      rcases h with h | h | h
      · rw [h]; exact ok1
      · rw [h]; exact ok2
      · rw [h]; exact ok3
    cases hpar : Tr.par (depths rs) room with
    | none =>
      rw [hpar] at hatr h3 ok123
      exact ⟨_, rfl, _, rfl, pp, _, _, _, rfl, rfl, SqL.of (s3 _ _ hpp), hatr, rfl, _, rfl, ifF rfl ⟨_, s3, hpd3, h3, ok123, rfl⟩⟩
    | some p =>
      rw [hpar] at hatr h3 ok123
      have pl := Tr.par_lt hpar
      refine ⟨_, rfl, _, rfl, pp, _, _, _, rfl, rfl, SqL.of (s3 _ _ hpp), hatr, rfl, _, rfl, ifT rfl ?_⟩
      refine ⟨_, rfl, .inl ⟨rfl, _, SqL.of h3⟩, _, rfl, _, rfl, _, rfl, pp, _, _, _, rfl, rfl, SqL.of (s3 _ _ hpp), hatr, pp, _, _, _, rfl, rfl, SqL.of (s3 _ _ hpp), K14.par_at _ (by omega), pr, _, _, rfl, rfl, h3, small1000 (by show 3 ≤ 1000; decide), [some room, some p, none] ++ [Tr.par (depths rs) p], same_upd n0 s3 _, ?_, ?_, fun un h => ?_, rfl⟩
      · rw [upd_ne npd]
        exact hpd3
      · rw [upd_same, List.map_append]
        rfl
      · rcases List.mem_append.mp h with h | h
        · exact ok123 un h
        · rw [List.mem_singleton.mp h]
          exact fun u e => .inr (Tr.lies_trans (Tr.lies_par hpar) (Tr.lies_par e))
  rintro σ4 H4 ⟨uns, s4, hpd4, h4, okU, rfl⟩
  refine ⟨fun _ H5 => Same H' H5, ?_, fun _ H5 s5 => q H5 s5⟩
  refine ⟨_, rfl, pr, rfl, ⟨_, SqL.of h4⟩, ?_⟩
  refine for_list (K := K) (a := pr) (xs := uns.map pV) (fun i σ' H5 => Same H4 H5 ∧ ∃ o7 o8 : Option V, σ' = [some (.ref t), some (.ref pp), some (.ref po), some (.ref pg), some (.int (room : Int)), some (.ref pd), some (.ref pr), o7, o8]) ⟨Same.refl _, _, _, rfl⟩ (fun i σ' H5 _ ⟨s5, _⟩ => SqL.of (s5 _ _ h4)) ?_ (fun _ H5 h => s4.trans h.1)
  rintro i x σ' H5 hx ⟨s5, o7, o8, rfl⟩
  obtain ⟨un, hun, rfl⟩ : ∃ un ∈ uns, x = pV un := by
    rw [List.getElem?_map] at hx
    cases e : uns[i]? with
    | none => rw [e] at hx; cases hx
    | some un =>
      rw [e] at hx
      exact ⟨un, List.mem_of_getElem? e, (Option.some.inj hx).symm⟩
  have hu := okU un hun
  have s45 := s4.trans s5
  refine ⟨_, rfl, _, rfl, _, rfl, pg, _, rfl, .inr (SqT.of (s45 _ _ hpg)), fun ph hph => ?_⟩
  have s6 := same_new hph (.lst (natsV (keptV rs os room)))
  refine ⟨t, ph, rs, un, keptV rs os room, rfl, hR.mono (KeepT.of (s45.trans s6)), good, l40, fun u e => ?_, ⟨upd_same, fun g hg => hos g (gin g hg).1, by omega⟩, fun pf fs H6 s7 npf hpf ins => ?_⟩
  · have := un_le hu u e
    omega
  have s47 := s5.trans (s6.trans s7)
  have s07 := s4.trans s47
  have fl' : ∀ o ∈ fs, o < (depths rs).length := ins.lt good.pos
  have fll := ins.len good.pos
  refine ⟨_, rfl, pf, fs, rfl, hpf, _, rfl, ifF rfl ?_⟩
  refine ⟨_, rfl, pf, rfl, ⟨_, SqL.of hpf⟩, ?_⟩
  refine comp_list (K := K) (a := pf) (xs := natsV fs) (fun i acc H7 => H7 = H6 ∧ acc = natsV ((fs.take i).filter fun o => Tr.liesIn (depths rs) o room)) ⟨rfl, rfl⟩ (fun i acc H7 ⟨e, _⟩ => by subst e; exact SqL.of hpf) (fun i x acc H7 hx ⟨e1, e2⟩ => ?_) (fun acc H7 ⟨e1, e2⟩ pc hpc => ?_)
  · subst e1 e2
    obtain ⟨hi, rfl⟩ := natsV_get hx
    refine ⟨_, rfl, _, rfl, _, rfl, pp, depths rs, fs[i], room, rfl, s07 _ _ hpp, fl' _ (List.getElem_mem hi), _, rfl, ?_⟩
    rw [filter_succ (List.getElem?_eq_getElem hi)]
    have ll := List.length_filter_le (fun o => Tr.liesIn (depths rs) o room) (fs.take i)
    rw [List.length_take] at ll
    refine itB (fun c => ?_) (fun c => ?_)
    · rw [if_pos c, ← natsV_app]
      exact ⟨_, rfl, small1000 (by rw [natsV_len]; omega), rfl, rfl⟩
    · rw [if_neg (by rw [c]; exact Bool.false_ne_true), List.append_nil]
      exact ⟨rfl, rfl⟩
  have e5 : acc = natsV fl := by
    rw [e2, List.take_of_length_le (by rw [natsV_len]; exact Nat.le_refl _), due un fs hu ins]
  subst e1
  subst e5
  have s8 := same_new hpc (.lst (natsV fl))
  refine ⟨_, rfl, pc, pd, natsV fl, rfl, rfl, SqL.of upd_same, SqL.of ((s47.trans s8) _ _ hpd4), nats_flat fl, _, rfl, ifF rfl ?_⟩
  have s48 := s47.trans s8
  generalize hH8 : upd H7 pc (.lst (natsV fl)) = H8 at s8 s48 ⊢
  refine ⟨fun c H9 => c = false ∧ H9 = H8, ?_, ?_⟩
  · refine ⟨_, rfl, _, rfl, scI un _, _, rfl, ?_⟩
    refine itB (fun c => ?_) (fun c => ⟨rfl, rfl⟩)
    have c1 : ¬ un = some room := fun e => by
      have c : (!decide (pV un = V.int (room : Int))) = true := c
      rw [e, decide_eq_true (show pV (some room) = V.int (room : Int) from rfl)] at c
      cases c
    have rin : room ∈ fs := (ins.2 room).mpr ((back_room good full hos fit kk ro hk hu).elim (fun z => absurd z c1) id)
    refine ⟨_, rfl, _, rfl, pf, _, rfl, .inl (SqL.of (s8 _ _ hpf)), rfl, nats_flat fs, _, rfl, ?_, rfl⟩
    show (!inV (V.int (room : Int)) (natsV fs)) = false
    rw [K14.in_nats, decide_eq_true rin]
    rfl
  rintro c H9 ⟨rfl, rfl⟩
  exact ifF rfl ⟨s48, _, _, rfl⟩
end
end K17

namespace K17
open PySem L2 Mix Gds Rms Prg
/-! k17: the law -/
def spLaw (K : PySem.W.Frag) : Sp := fun vs H Q _ => ∃ (a : Addr) (ns : List Int), vs = [.ref a] ∧ SqL K H a (ns.map V.int) ∧ ns.length ≤ 63 ∧ ∀ H', Q (.bl true) H'
section
variable {P : Program} {w : World} {K : PySem.W.Frag} {mg : Str → Option Value} {base : Heap}
theorem sc_law : FnScope ["_law_script", "_law_rooms_here", "_law_parents_here", "_law_k", "_law_opening_here", "_law_left", "_law_kept", "_law_room"] ["_law_script"] (defScope sLawF) := ⟨rfl, rfl, rfl, by decide +kernel, rfl, by decide +kernel, by decide +kernel⟩
theorem ok_law {n : Nat} {f g0 g1 g2 g3 g4 g5 : Addr} {fd d0 d1 d2 d3 d4 d5 : FuncData} (F : Fun K "law" "law" sLawF f fd)
    (G_law_rooms : FnOk P w K mg base CX0 n g0 d0 ["_law_script", "_law_depths"] (spRooms K)) (b_law_rooms : Binds K d0 ["_law_script", "_law_depths"] []) (k_law_rooms : PySem.W.keepIn K (.ref g0) = true) (m_law_rooms : mg "_law_rooms" = some (.ref g0))
    (G_law_tree : FnOk P w K mg base CX0 n g1 d1 ["_law_script"] (spTree1 K)) (b_law_tree : Binds K d1 ["_law_script"] []) (k_law_tree : PySem.W.keepIn K (.ref g1) = true) (m_law_tree : mg "_law_tree" = some (.ref g1))
    (G_law_parents : FnOk P w K mg base CX0 n g2 d2 ["_law_depths"] spParents) (b_law_parents : Binds K d2 ["_law_depths"] []) (k_law_parents : PySem.W.keepIn K (.ref g2) = true) (m_law_parents : mg "_law_parents" = some (.ref g2))
    (G_law_openingD : FnOk P w K mg base CX0 n g3 d3 ["_law_script", "_law_rooms_here", "_law_parents_here", "_law_salt"] (spOpeningD K)) (b_law_opening : Binds K d3 ["_law_script", "_law_rooms_here", "_law_parents_here", "_law_salt"] []) (k_law_opening : PySem.W.keepIn K (.ref g3) = true) (m_law_opening : mg "_law_opening" = some (.ref g3))
    (G_keeping : FnOk P w K mg base CX0 n g4 d4 ["rooms", "opening", "left", "kept"] spKeeping) (b_keeping : Binds K d4 ["rooms", "opening", "left", "kept"] []) (k_keeping : PySem.W.keepIn K (.ref g4) = true) (m_keeping : mg "keeping" = some (.ref g4))
    (G_law_back : FnOk P w K mg base CX0 n g5 d5 ["_law_rooms_here", "_law_parents_here", "_law_opening_here", "_law_goals", "_law_room"] spBack) (b_law_back : Binds K d5 ["_law_rooms_here", "_law_parents_here", "_law_opening_here", "_law_goals", "_law_room"] []) (k_law_back : PySem.W.keepIn K (.ref g5) = true) (m_law_back : mg "_law_back" = some (.ref g5))
    (m_range : mg "range" = none) (m_len : mg "len" = none) (m_min : mg "min" = none) (m_tuple : mg "tuple" = none) (m_list : mg "list" = none) (m_isinstance : mg "isinstance" = none) : FnOk P w K mg base CX0 (n + 1) f fd ["_law_script"] (spLaw K) := by
  refine F.ok sc_law (fun vs H Q E h => ?_) (fun cdv A outer s H vs Q E hr h => ?_)
  · obtain ⟨a, ns, rfl, _⟩ := h
    rfl
  obtain ⟨a, ns, rfl, hS, h63, q⟩ := h
  refine ⟨_, (pss_cons (ps_set (i := 1) sc_law.nd rfl (Or.inl rfl) (pe_call G_law_rooms hr rfl m_law_rooms k_law_rooms b_law_rooms .nil pass0 (pa_cons (pv 0) (pa_cons (pe_call G_law_tree hr rfl m_law_tree k_law_tree b_law_tree .nil pass0 (pa_cons (pv 0) pa_nil)) pa_nil))))
    (pss_cons (ps_set (i := 2) sc_law.nd rfl (Or.inl rfl) (pe_call G_law_parents hr rfl m_law_parents k_law_parents b_law_parents .nil pass0 (pa_cons (pe_comp (caps := []) rfl (show CompSc (defScope sLawF) ["_law_script", "_law_rooms_here", "_law_parents_here", "_law_k", "_law_opening_here", "_law_left", "_law_kept", "_law_room"] _ _ _ from ⟨rfl, rfl, by decide +kernel, by decide +kernel, by decide +kernel, by decide +kernel, by decide +kernel⟩) (pi_tup (pv 1)) (fun _ _ _ _ _ _ => pifs_nil) (fun _ _ _ _ _ _ => (pe_ix (r := rIxT K) ix_tup (pv 0) pe_int (fun _ _ => rfl)))) pa_nil)))
    (pss_cut (ps_for PassesOwn.never rfl (pi_range1 rfl m_range (pa_cons (pe_callB (call_min2 rfl) rfl m_min PyProof.Rows.boot_min (pa_cons (pe_op op_add (pe_callB call_len_seq rfl m_len PySem.boot_len (pa_cons (pv 0) pa_nil)) pe_int) (pa_cons pe_int pa_nil))) pa_nil)) (pg_name (i := 3) sc_law.nd rfl (Or.inl rfl))
      (pss_cons (ps_set (i := 4) sc_law.nd rfl (Or.inl rfl) (pe_call G_law_openingD hr rfl m_law_opening k_law_opening b_law_opening .nil pass0 (pa_cons (pv 0) (pa_cons (pv 1) (pa_cons (pv 2) (pa_cons (pe_op op_add pe_int (pv 3)) pa_nil))))))
      (pss_cons (ps_set (i := 5) sc_law.nd rfl (Or.inl rfl) (pe_callTy call_list_of rfl m_list PyProof.Rows.boot_list (pa_cons (pv 4) pa_nil)))
      (pss_cons (ps_expr (pe_bm0 PySem.F.plainAttrs_list PySem.F.slot_list_reverse PySem.F.type_list_reverse mt_reverse (pv 5)))
      (pss_cons (ps_set (i := 6) sc_law.nd rfl (Or.inl rfl) (pe_call G_keeping hr rfl m_keeping k_keeping b_keeping .nil pass0 (pa_cons (pv 1) (pa_cons (pe_callTy call_tuple_of rfl m_tuple PyProof.Rows.boot_tuple (pa_cons (pv 4) pa_nil)) (pa_cons (pv 5) (pa_cons (pe_callTy call_tuple_of rfl m_tuple PyProof.Rows.boot_tuple (pa_cons (pe_comp (caps := []) rfl (show CompSc (defScope sLawF) ["_law_script", "_law_rooms_here", "_law_parents_here", "_law_k", "_law_opening_here", "_law_left", "_law_kept", "_law_room"] _ _ _ from ⟨rfl, rfl, by decide +kernel, by decide +kernel, by decide +kernel, by decide +kernel, by decide +kernel⟩) (pi_tup (pv 1)) (fun _ _ _ _ _ _ => pifs_nil) (fun _ _ _ _ _ _ => (pe_tup pa_nil))) pa_nil)) pa_nil))))))
      (pss_cons (ps_if (pt_cut (PW.pt (pw_or (pt_not (pt_val (pe_callB call_isinst rfl m_isinstance PyProof.Rows.boot_isinstance (pa_cons (pv 6) (pa_cons (pe_bltn (v := .ty "tuple") rfl m_tuple PyProof.Rows.boot_tuple rfl) pa_nil))))) (pw_or1 (pt_cmpR op_ne (pe_callB call_len_seq rfl m_len PySem.boot_len (pa_cons (pv 6) pa_nil)) (pe_callB call_len_seq rfl m_len PySem.boot_len (pa_cons (pv 1) pa_nil)) (nomark _))))))
        (pss_one (ps_ret pe_bl))
        pss_nil)
      (pss_one (ps_for PassesOwn.never rfl (pi_list (pv 4)) (pg_name (i := 7) sc_law.nd rfl (Or.inl rfl))
        (pss_cons (ps_if (pt_not (pt_val (pe_callB call_isinst rfl m_isinstance PyProof.Rows.boot_isinstance (pa_cons (pe_ix ix_tup (pv 6) (pv 7) (fun _ _ => rfl)) (pa_cons (pe_bltn (v := .ty "tuple") rfl m_tuple PyProof.Rows.boot_tuple rfl) pa_nil)))))
          (pss_one (ps_ret pe_bl))
          pss_nil)
        (pss_one (ps_if (pt_cmpR op_eq (pe_ix ix_tup (pe_ix ix_tup (pv 1) (pv 7) (fun _ _ => rfl)) pe_int (fun _ _ => rfl)) pe_str (nomark _))
          (pss_one (ps_if (pt_cmpR op_gt (pe_callB call_len_seq rfl m_len PySem.boot_len (pa_cons (pe_ix ix_tup (pv 6) (pv 7) (fun _ _ => rfl)) pa_nil)) pe_int (nomark _))
            (pss_one (ps_ret pe_bl))
            pss_nil))
          (pss_one (ps_if (pt_not (pt_val (pe_call G_law_back hr rfl m_law_back k_law_back b_law_back .nil pass0 (pa_cons (pv 1) (pa_cons (pv 2) (pa_cons (pv 4) (pa_cons (pe_ix ix_tup (pv 6) (pv 7) (fun _ _ => rfl)) (pa_cons (pv 7) pa_nil))))))))
            (pss_one (ps_ret pe_bl))
            pss_nil)))))))))))))
    (pss_one (ps_ret pe_bl))))), ?_⟩
  refine ⟨_, rfl, _, rfl, a, ns, rfl, hS, h63, fun pd ds H0 s0 npd hpd good lds => ?_⟩
  refine ⟨a, pd, ns, ds, rfl, s0.seq hS, h63, hpd, lds, fun t rs H1 s1' hR edp fit kk => ?_⟩
  have s1 := s0.trans s1'
  have l1 : 1 ≤ rs.length := by
    have e := congrArg List.length edp
    rw [depths_len] at e
    have g0 := good.1
    omega
  obtain ⟨rv, htr, hrs⟩ := id hR
  have lrv := hrs.length
  have ld : (depths rs).length = rs.length := depths_len rs
  have l40 : rs.length ≤ 40 := by rw [← ld, edp]; exact lds
  rw [← edp] at good
  refine ⟨_, rfl, t, rfl, ⟨_, SqT.of htr⟩, ?_⟩
  refine comp_tup (K := K) (a := t) (xs := rv) (fun i acc H' => H' = H1 ∧ acc = ((depths rs).take i).map V.int) ⟨rfl, rfl⟩ (fun i acc H' ⟨e, _⟩ => by subst e; exact SqT.of htr) (fun i x acc H' hx ⟨e1, e2⟩ => ?_) (fun acc H' ⟨e1, e2⟩ p hp => ?_)
  · subst e1 e2
    have hi : i < rs.length := by
      have := (List.getElem?_eq_some_iff.mp hx).1
      omega
    have er := List.getElem?_eq_getElem hi
    obtain ⟨v, hv, a2, rfl, ha2⟩ := hrs.get er
    rw [hv] at hx
    obtain rfl := Option.some.inj hx
    refine ⟨_, rfl, a2, _, _, _, rfl, rfl, SqT.of ha2, rfl, small1000 (by rw [List.length_map, List.length_take]; omega), rfl, ?_⟩
    rw [List.take_add_one, show (depths rs)[i]? = some rs[i].depth by unfold depths; rw [List.getElem?_map, er]; rfl, List.map_append]
    rfl
  subst e1 e2
  rw [show (depths rs).take rv.length = depths rs from List.take_of_length_le (by omega)]
  refine ⟨p, depths rs, rfl, upd_same, good, by omega, fun pp H2 s2 npp hpp => ?_⟩
  have s3 := (s1.trans (same_new hp _)).trans s2
  have s12 := (same_new hp (.lst ((depths rs).map V.int))).trans s2
  have hR2 := hR.mono (KeepT.of s12)
  refine ⟨fun _ _ => True, ?_, fun _ H' _ => q H'⟩
  refine ⟨_, rfl, a, _, rfl, .inl (s3.seq hS), _, _, rfl, rfl, _, _, rfl, _, rfl, (by split <;> omega), (by split <;> omega), ?_⟩
  refine for_range (fun i σ' H' => Same H2 H' ∧ ∃ o3 o4 o5 o6 o7 : Option V, σ' = [some (.ref a), some (.ref t), some (.ref pp), o3, o4, o5, o6, o7]) ⟨Same.refl _, _, _, _, _, _, rfl⟩ ?_ (fun _ _ _ => trivial)
  rintro i σ' H3 hi ⟨s4, o3, o4, o5, o6, o7, rfl⟩
  have hi' : i < 6 := by
    revert hi
    split <;> omega
  have s34 := s3.trans s4
  refine ⟨_, rfl, _, rfl, _, rfl, _, rfl, _, _, rfl, rfl, a, t, pp, ns, rs, _, rfl, s34.seq hS, h63, hR2.mono (KeepT.of s4), good, fit, s4 _ _ hpp, l40, ⟨by omega, by omega⟩, fun po os H4 s5 npo hpo hos los full => ?_⟩
  have s45 := s4.trans s5
  refine ⟨_, rfl, po, _, rfl, .inl (SqL.of hpo), fun pl hpl => ?_⟩
  have s6 := same_new hpl (.lst (natsV os))
  refine ⟨_, rfl, .inl ⟨rfl, _, SqL.of upd_same⟩, pl, _, rfl, rfl, upd_same, ?_⟩
  have s7 : Same H4 (upd (upd H4 pl (.lst (natsV os))) pl (.lst (natsV os).reverse)) := same_upd hpl s6 _
  have hpl7 : (upd (upd H4 pl (.lst (natsV os))) pl (.lst (natsV os).reverse)) pl = some (.lst (natsV os.reverse)) := by
    rw [upd_same]
    unfold natsV
    rw [List.map_reverse]
  generalize upd (upd H4 pl (.lst (natsV os))) pl (.lst (natsV os).reverse) = H5 at s7 hpl7 ⊢
  have s47 := s45.trans s7
  refine ⟨_, rfl, _, rfl, po, _, rfl, .inl ⟨SqL.of (s7 _ _ hpo), fun tt htt => ?_⟩⟩
  have s8 := same_new htt (.tup (natsV os))
  have htt8 : (upd H5 tt (.tup (natsV os))) tt = some (.tup (natsV os)) := upd_same
  generalize upd H5 tt (.tup (natsV os)) = H6 at s8 htt8 ⊢
  have s48 := s47.trans s8
  have htr6 : H6 t = some (.tup rv) := s48 _ _ (s12 _ _ htr)
  refine ⟨_, rfl, _, rfl, t, rfl, ⟨_, SqT.of htr6⟩, ?_⟩
  refine comp_tup (K := K) (a := t) (xs := rv) (fun i acc H' => Same H6 H' ∧ RowsIn H' acc (List.replicate i [])) ⟨Same.refl _, .nil⟩ (fun i acc H' ⟨e, _⟩ => SqT.of (e _ _ htr6)) (fun i x acc H' hx ⟨e1, e2⟩ => ?_) (fun acc H' ⟨e1, e2⟩ pz hpz => ?_)
  · have hi2 : i < rv.length := (List.getElem?_eq_some_iff.mp hx).1
    have la := e2.length
    rw [List.length_replicate] at la
    refine ⟨Nat.zero_le _, fun pe hpe => ⟨small1000 (by omega), e1.trans (same_new hpe _), ?_⟩⟩
    rw [List.replicate_succ']
    exact (e2.mono (KeepT.of (same_new hpe _))).snoc ⟨pe, rfl, upd_same⟩
  have s9 := e1.trans (same_new hpz (.lst acc))
  refine ⟨pz, _, rfl, .inl ⟨SqL.of upd_same, fun pk hpk => ?_⟩⟩
  have s10 := s9.trans (same_new hpk (.tup acc))
  have k10 := (same_new hpz (.lst acc)).trans (same_new hpk (.tup acc))
  have rows0 := e2.mono (KeepT.of k10)
  have s410 := s48.trans s10
  refine ⟨t, tt, pl, pk, rs, os, os.reverse, acc, List.replicate rv.length [], rfl, hR2.mono (KeepT.of s410), good, l40, s10 _ _ htt8, hos, los, full.1, (s8.trans s10) _ _ hpl7, fun l hl => hos l (List.mem_reverse.mp hl), upd_same, rows0, by rw [List.length_replicate, lrv], fun pf kv' H8 s11 hpf hrows => ?_⟩
  have s411 := s410.trans s11
  have lkf := hrows.length
  rw [keptFold_len, List.length_replicate, lrv] at lkf
  have htr8 : H8 t = some (.tup rv) := s411 _ _ (s12 _ _ htr)
  have hpo8 := ((s7.trans s8).trans (s10.trans s11)) _ _ hpo
  refine ⟨fun c H' => c = false ∧ H' = H8, ?_, ?_⟩
  · refine ⟨_, rfl, _, "tuple", _, true, rfl, .tup hpf, kit_tt K, _, rfl, ifF rfl ?_⟩
    refine ⟨_, rfl, pf, _, rfl, .inr (SqT.of hpf), _, rfl, t, _, rfl, .inr (SqT.of htr8), rfl, _, rfl, ?_, rfl⟩
    show (!decide (V.int ((kv'.length : Nat) : Int) = V.int ((rv.length : Nat) : Int))) = false
    rw [lkf, lrv, decide_eq_true rfl]
    rfl
  rintro c H9 ⟨rfl, rfl⟩
  refine ifF rfl ?_
  refine ⟨_, rfl, po, rfl, ⟨_, SqL.of hpo8⟩, ?_⟩
  refine for_list (K := K) (a := po) (xs := natsV os) (fun j σ' H' => Same H9 H' ∧ ∃ o7 : Option V, σ' = [some (.ref a), some (.ref t), some (.ref pp), some (.int (0 + (i : Int))), some (.ref po), some (.ref pl), some (.ref pf), o7]) ⟨Same.refl _, _, rfl⟩ (fun j σ' H' _ ⟨s, _⟩ => SqL.of (s _ _ hpo8)) ?_ ?_
  · rintro j x σ' H10 hx ⟨s12', p7, rfl⟩
    obtain ⟨hj, rfl⟩ := natsV_get hx
    have ro : os[j] ∈ os := List.getElem_mem hj
    have rl := hos _ ro
    have kf := keptFold_at rs os os.reverse (List.replicate rv.length []) os[j] (by rw [List.length_replicate, lrv]; exact rl)
    obtain ⟨vr, hvr, ar, rfl, har⟩ := hrs.get (List.getElem?_eq_getElem rl)
    have har10 := (s411.trans s12') _ _ (s12 _ _ har)
    have htr10 := s12' _ _ htr8
    have ek : (keepsAt rs os[j] = ("" : Str)) ↔ V.str (rs[os[j]]'rl).keeps = V.str ("" : Str) := by
      rw [keeps_at (List.getElem?_eq_getElem rl)]
      exact ⟨fun z => by rw [z], fun z => by injection z⟩
    by_cases kc : keepsAt rs os[j] = ("" : Str)
    · rw [if_neg (fun z => z.2 kc), List.getElem?_replicate, if_pos (by rw [lrv]; exact rl)] at kf
      obtain ⟨vf, hvf, af, rfl, haf⟩ := hrows.get kf
      have haf10 := s12' _ _ haf
      refine ⟨_, rfl, _, rfl, pf, _, _, _, rfl, rfl, SqT.of (s12' _ _ hpf), atI_nat hvf, _, "tuple", _, true, rfl, .tup haf10, kit_tt K, _, rfl, ifF rfl ?_⟩
      refine ⟨_, rfl, _, rfl, t, _, _, _, rfl, rfl, SqT.of htr10, atI_nat hvr, ar, _, _, _, rfl, rfl, SqT.of har10, rfl, rfl, _, rfl, ifT (decide_eq_true (ek.mp kc)) ?_⟩
      exact ⟨_, rfl, _, rfl, pf, _, _, _, rfl, rfl, SqT.of (s12' _ _ hpf), atI_nat hvf, af, _, rfl, .inr (SqT.of haf10), _, _, rfl, rfl, _, rfl, ifF rfl ⟨s12', _, rfl⟩⟩
    · rw [if_pos ⟨List.mem_reverse.mpr ro, kc⟩] at kf
      obtain ⟨vf, hvf, af, rfl, haf⟩ := hrows.get kf
      have haf10 := s12' _ _ haf
      refine ⟨_, rfl, _, rfl, pf, _, _, _, rfl, rfl, SqT.of (s12' _ _ hpf), atI_nat hvf, _, "tuple", _, true, rfl, .tup haf10, kit_tt K, _, rfl, ifF rfl ?_⟩
      refine ⟨_, rfl, _, rfl, t, _, _, _, rfl, rfl, SqT.of htr10, atI_nat hvr, ar, _, _, _, rfl, rfl, SqT.of har10, rfl, rfl, _, rfl, ifF (decide_eq_false (fun z => kc (ek.mpr z))) ?_⟩
      refine ⟨_, rfl, _, rfl, _, rfl, _, rfl, _, rfl, pf, _, _, _, rfl, rfl, SqT.of (s12' _ _ hpf), atI_nat hvf, _, rfl, t, pp, po, af, rs, os, os[j], rfl, hR2.mono (KeepT.of (s411.trans s12')), good, fit, kk, l40, (s411.trans s12') _ _ hpp, s12' _ _ hpo8, hos, los, full, ro, kc, haf10, fun H11 s13 => ⟨_, rfl, ifF rfl ⟨s12'.trans s13, _, rfl⟩⟩⟩
  · rintro σ' H10 ⟨s12', p7, rfl⟩
    exact ⟨s411.trans s12', _, _, _, _, _, rfl⟩
end
end K17

namespace K17
open PySem L2 Mix Gds Rms
/-! the top -/
theorem all_mk {l : PySem.W.OpenLaw} {w : World} {K : PySem.W.Frag} {h : Heap} {mg : Str → Option Value} {fa f1 f2 f3 f4 f5 f6 f7 f8 f9 f10 f11 f12 f13 f14 f15 f16 f17 f18 f19 f20 f21 : Addr} (X : K.In h) (G : h.Ns mainGlobals mg) (hfa : mg "law" = some (.ref fa))
    {od1 an1 od2 an2 od3 an3 od4 an4 od5 an5 od6 an6 od7 an7 od8 an8 od9 an9 od10 an10 od11 an11 od12 an12 od13 an13 od14 an14 od15 an15 od16 an16 od17 an17 od18 an18 od19 an19 od20 an20 od21 an21 : Option Addr} {sl1 sl2 sl3 sl4 sl5 sl6 sl7 sl8 sl9 sl10 sl11 sl12 sl13 sl14 sl15 sl16 sl17 sl18 sl19 sl20 sl21 : Array (Option Value)} {oc1 kV1 dc1 pm1 cd1 ct1 oc2 kV2 dc2 pm2 cd2 ct2 oc3 kV3 dc3 pm3 cd3 ct3 oc4 kV4 dc4 pm4 cd4 ct4 oc5 kV5 dc5 pm5 cd5 ct5 oc6 kV6 dc6 pm6 cd6 ct6 oc7 kV7 dc7 pm7 cd7 ct7 oc8 kV8 dc8 pm8 cd8 ct8 oc9 kV9 dc9 pm9 cd9 ct9 oc10 kV10 dc10 pm10 cd10 ct10 oc11 kV11 dc11 pm11 cd11 ct11 oc12 kV12 dc12 pm12 cd12 ct12 oc13 kV13 dc13 pm13 cd13 ct13 oc14 kV14 dc14 pm14 cd14 ct14 oc15 kV15 dc15 pm15 cd15 ct15 oc16 kV16 dc16 pm16 cd16 ct16 oc17 kV17 dc17 pm17 cd17 ct17 oc18 kV18 dc18 pm18 cd18 ct18 oc19 kV19 dc19 pm19 cd19 ct19 oc20 kV20 dc20 pm20 cd20 ct20 oc21 kV21 dc21 pm21 cd21 ct21 : Value}
    (a1 : PySem.W.nsIn K mainGlobals "_law_cell_at" = some (some (.ref f1))) (l1 : K.lookup f1 = some ⟨oc1, od1, .func (PySem.W.fnOf "_law_cell_at" "_law_cell_at" (defArgs sCell) (defBody sCell) (defScope sCell) .none kV1 dc1 pm1 an1 cd1 ct1), sl1⟩) (c1 : PySem.W.codeIn K cd1 "_law_cell_at" = true) (k1 : PySem.W.keepIn K (.ref f1) = true)
    (a2 : PySem.W.nsIn K mainGlobals "_law_mixed" = some (some (.ref f2))) (l2 : K.lookup f2 = some ⟨oc2, od2, .func (PySem.W.fnOf "_law_mixed" "_law_mixed" (defArgs sMixed) (defBody sMixed) (defScope sMixed) .none kV2 dc2 pm2 an2 cd2 ct2), sl2⟩) (c2 : PySem.W.codeIn K cd2 "_law_mixed" = true) (k2 : PySem.W.keepIn K (.ref f2) = true)
    (a3 : PySem.W.nsIn K mainGlobals "_law_whole" = some (some (.ref f3))) (l3 : K.lookup f3 = some ⟨oc3, od3, .func (PySem.W.fnOf "_law_whole" "_law_whole" (defArgs sWhole) (defBody sWhole) (defScope sWhole) .none kV3 dc3 pm3 an3 cd3 ct3), sl3⟩) (c3 : PySem.W.codeIn K cd3 "_law_whole" = true) (k3 : PySem.W.keepIn K (.ref f3) = true)
    (a4 : PySem.W.nsIn K mainGlobals "end_of" = some (some (.ref f4))) (l4 : K.lookup f4 = some ⟨oc4, od4, .func (PySem.W.fnOf "end_of" "end_of" (defArgs sEndOf) (defBody sEndOf) (defScope sEndOf) .none kV4 dc4 pm4 an4 cd4 ct4), sl4⟩) (c4 : PySem.W.codeIn K cd4 "end_of" = true) (k4 : PySem.W.keepIn K (.ref f4) = true)
    (a5 : PySem.W.nsIn K mainGlobals "kids" = some (some (.ref f5))) (l5 : K.lookup f5 = some ⟨oc5, od5, .func (PySem.W.fnOf "kids" "kids" (defArgs sKids) (defBody sKids) (defScope sKids) .none kV5 dc5 pm5 an5 cd5 ct5), sl5⟩) (c5 : PySem.W.codeIn K cd5 "kids" = true) (k5 : PySem.W.keepIn K (.ref f5) = true)
    (a6 : PySem.W.nsIn K mainGlobals "bears_goal" = some (some (.ref f6))) (l6 : K.lookup f6 = some ⟨oc6, od6, .func (PySem.W.fnOf "bears_goal" "bears_goal" (defArgs sBears) (defBody sBears) (defScope sBears) .none kV6 dc6 pm6 an6 cd6 ct6), sl6⟩) (c6 : PySem.W.codeIn K cd6 "bears_goal" = true) (k6 : PySem.W.keepIn K (.ref f6) = true)
    (a7 : PySem.W.nsIn K mainGlobals "next_in" = some (some (.ref f7))) (l7 : K.lookup f7 = some ⟨oc7, od7, .func (PySem.W.fnOf "next_in" "next_in" (defArgs sNext) (defBody sNext) (defScope sNext) .none kV7 dc7 pm7 an7 cd7 ct7), sl7⟩) (c7 : PySem.W.codeIn K cd7 "next_in" = true) (k7 : PySem.W.keepIn K (.ref f7) = true)
    (a8 : PySem.W.nsIn K mainGlobals "goings_in" = some (some (.ref f8))) (l8 : K.lookup f8 = some ⟨oc8, od8, .func (PySem.W.fnOf "goings_in" "goings_in" (defArgs sIn) (defBody sIn) (defScope sIn) .none kV8 dc8 pm8 an8 cd8 ct8), sl8⟩) (c8 : PySem.W.codeIn K cd8 "goings_in" = true) (k8 : PySem.W.keepIn K (.ref f8) = true)
    (a9 : PySem.W.nsIn K mainGlobals "goings_out" = some (some (.ref f9))) (l9 : K.lookup f9 = some ⟨oc9, od9, .func (PySem.W.fnOf "goings_out" "goings_out" (defArgs sOut) (defBody sOut) (defScope sOut) .none kV9 dc9 pm9 an9 cd9 ct9), sl9⟩) (c9 : PySem.W.codeIn K cd9 "goings_out" = true) (k9 : PySem.W.keepIn K (.ref f9) = true)
    (a10 : PySem.W.nsIn K mainGlobals "plain_ones" = some (some (.ref f10))) (l10 : K.lookup f10 = some ⟨oc10, od10, .func (PySem.W.fnOf "plain_ones" "plain_ones" (defArgs sPlain) (defBody sPlain) (defScope sPlain) .none kV10 dc10 pm10 an10 cd10 ct10), sl10⟩) (c10 : PySem.W.codeIn K cd10 "plain_ones" = true) (k10 : PySem.W.keepIn K (.ref f10) = true)
    (a11 : PySem.W.nsIn K mainGlobals "kept_of" = some (some (.ref f11))) (l11 : K.lookup f11 = some ⟨oc11, od11, .func (PySem.W.fnOf "kept_of" "kept_of" (defArgs sKeptOf) (defBody sKeptOf) (defScope sKeptOf) .none kV11 dc11 pm11 an11 cd11 ct11), sl11⟩) (c11 : PySem.W.codeIn K cd11 "kept_of" = true) (k11 : PySem.W.keepIn K (.ref f11) = true)
    (a12 : PySem.W.nsIn K mainGlobals "keeping" = some (some (.ref f12))) (l12 : K.lookup f12 = some ⟨oc12, od12, .func (PySem.W.fnOf "keeping" "keeping" (defArgs sKeeping) (defBody sKeeping) (defScope sKeeping) .none kV12 dc12 pm12 an12 cd12 ct12), sl12⟩) (c12 : PySem.W.codeIn K cd12 "keeping" = true) (k12 : PySem.W.keepIn K (.ref f12) = true)
    (a13 : PySem.W.nsIn K mainGlobals "_law_tree" = some (some (.ref f13))) (l13 : K.lookup f13 = some ⟨oc13, od13, .func (PySem.W.fnOf "_law_tree" "_law_tree" (defArgs sTree) (defBody sTree) (defScope sTree) .none kV13 dc13 pm13 an13 cd13 ct13), sl13⟩) (c13 : PySem.W.codeIn K cd13 "_law_tree" = true) (k13 : PySem.W.keepIn K (.ref f13) = true)
    (a14 : PySem.W.nsIn K mainGlobals "_law_rooms" = some (some (.ref f14))) (l14 : K.lookup f14 = some ⟨oc14, od14, .func (PySem.W.fnOf "_law_rooms" "_law_rooms" (defArgs sRooms) (defBody sRooms) (defScope sRooms) .none kV14 dc14 pm14 an14 cd14 ct14), sl14⟩) (c14 : PySem.W.codeIn K cd14 "_law_rooms" = true) (k14 : PySem.W.keepIn K (.ref f14) = true)
    (a15 : PySem.W.nsIn K mainGlobals "_law_opening" = some (some (.ref f15))) (l15 : K.lookup f15 = some ⟨oc15, od15, .func (PySem.W.fnOf "_law_opening" "_law_opening" (defArgs sOpening) (defBody sOpening) (defScope sOpening) .none kV15 dc15 pm15 an15 cd15 ct15), sl15⟩) (c15 : PySem.W.codeIn K cd15 "_law_opening" = true) (k15 : PySem.W.keepIn K (.ref f15) = true)
    (a16 : PySem.W.nsIn K mainGlobals "_law_parents" = some (some (.ref f16))) (l16 : K.lookup f16 = some ⟨oc16, od16, .func (PySem.W.fnOf "_law_parents" "_law_parents" (defArgs sParents) (defBody sParents) (defScope sParents) .none kV16 dc16 pm16 an16 cd16 ct16), sl16⟩) (c16 : PySem.W.codeIn K cd16 "_law_parents" = true) (k16 : PySem.W.keepIn K (.ref f16) = true)
    (a17 : PySem.W.nsIn K mainGlobals "_law_lies" = some (some (.ref f17))) (l17 : K.lookup f17 = some ⟨oc17, od17, .func (PySem.W.fnOf "_law_lies" "_law_lies" (defArgs sLies) (defBody sLies) (defScope sLies) .none kV17 dc17 pm17 an17 cd17 ct17), sl17⟩) (c17 : PySem.W.codeIn K cd17 "_law_lies" = true) (k17 : PySem.W.keepIn K (.ref f17) = true)
    (a18 : PySem.W.nsIn K mainGlobals "_law_fresh" = some (some (.ref f18))) (l18 : K.lookup f18 = some ⟨oc18, od18, .func (PySem.W.fnOf "_law_fresh" "_law_fresh" (defArgs s_L_fresh) (defBody s_L_fresh) (defScope s_L_fresh) .none kV18 dc18 pm18 an18 cd18 ct18), sl18⟩) (c18 : PySem.W.codeIn K cd18 "_law_fresh" = true) (k18 : PySem.W.keepIn K (.ref f18) = true)
    (a19 : PySem.W.nsIn K mainGlobals "_law_row" = some (some (.ref f19))) (l19 : K.lookup f19 = some ⟨oc19, od19, .func (PySem.W.fnOf "_law_row" "_law_row" (defArgs sRow) (defBody sRow) (defScope sRow) .none kV19 dc19 pm19 an19 cd19 ct19), sl19⟩) (c19 : PySem.W.codeIn K cd19 "_law_row" = true) (k19 : PySem.W.keepIn K (.ref f19) = true)
    (a20 : PySem.W.nsIn K mainGlobals "_law_back" = some (some (.ref f20))) (l20 : K.lookup f20 = some ⟨oc20, od20, .func (PySem.W.fnOf "_law_back" "_law_back" (defArgs s_L_back) (defBody s_L_back) (defScope s_L_back) .none kV20 dc20 pm20 an20 cd20 ct20), sl20⟩) (c20 : PySem.W.codeIn K cd20 "_law_back" = true) (k20 : PySem.W.keepIn K (.ref f20) = true)
    (a21 : PySem.W.nsIn K mainGlobals "law" = some (some (.ref f21))) (l21 : K.lookup f21 = some ⟨oc21, od21, .func (PySem.W.fnOf "law" "law" (defArgs sLawF) (defBody sLawF) (defScope sLawF) .none kV21 dc21 pm21 an21 cd21 ct21), sl21⟩) (c21 : PySem.W.codeIn K cd21 "law" = true) (k21 : PySem.W.keepIn K (.ref f21) = true)
    (z1 : PySem.W.nsIn K mainGlobals "len" = some none) (z2 : PySem.W.nsIn K mainGlobals "max" = some none) (z3 : PySem.W.nsIn K mainGlobals "min" = some none) (z4 : PySem.W.nsIn K mainGlobals "range" = some none) (z5 : PySem.W.nsIn K mainGlobals "list" = some none) (z6 : PySem.W.nsIn K mainGlobals "tuple" = some none) (z7 : PySem.W.nsIn K mainGlobals "isinstance" = some none) (z8 : PySem.W.nsIn K mainGlobals "int" = some none) (z9 : PySem.W.nsIn K mainGlobals "bool" = some none) (z10 : PySem.W.nsIn K mainGlobals "sorted" = some none) (z11 : PySem.W.nsIn K mainGlobals "any" = some none) :
    ∃ fd : FuncData, (∀ (s : Shared) (v : Value), BindsTo s fd ⟨[v], []⟩ [("_law_script", v)]) ∧ ∀ base : Heap, K.In base → base.Ns mainGlobals mg → FnOk l.prog w K mg base CX0 6 fa fd ["_law_script"] (spLaw K) := by
  have e := hfa.symm.trans (PySem.W.mg_of X G a21)
  cases e
  have F1 := fun_mk (st := sCell) l1 c1 k1
  have F2 := fun_mk (st := sMixed) l2 c2 k2
  have F3 := fun_mk (st := sWhole) l3 c3 k3
  have F4 := fun_mk (st := sEndOf) l4 c4 k4
  have F5 := fun_mk (st := sKids) l5 c5 k5
  have F6 := fun_mk (st := sBears) l6 c6 k6
  have F7 := fun_mk (st := sNext) l7 c7 k7
  have F8 := fun_mk (st := sIn) l8 c8 k8
  have F9 := fun_mk (st := sOut) l9 c9 k9
  have F10 := fun_mk (st := sPlain) l10 c10 k10
  have F11 := fun_mk (st := sKeptOf) l11 c11 k11
  have F12 := fun_mk (st := sKeeping) l12 c12 k12
  have F13 := fun_mk (st := sTree) l13 c13 k13
  have F14 := fun_mk (st := sRooms) l14 c14 k14
  have F15 := fun_mk (st := sOpening) l15 c15 k15
  have F16 := fun_mk (st := sParents) l16 c16 k16
  have F17 := fun_mk (st := sLies) l17 c17 k17
  have F18 := fun_mk (st := s_L_fresh) l18 c18 k18
  have F19 := fun_mk (st := sRow) l19 c19 k19
  have F20 := fun_mk (st := s_L_back) l20 c20 k20
  have F21 := fun_mk (st := sLawF) l21 c21 k21
  have b1 := F1.binds (ps := ["_law_script", "_law_k"]) fun _ _ _ _ _ _ us hl => match us, hl with | [_, _], _ => rfl
  have m1 := PySem.W.mg_of X G a1
  have b2 := F2.binds (ps := ["_law_script", "_law_k", "_law_salt"]) fun _ _ _ _ _ _ us hl => match us, hl with | [_, _, _], _ => rfl
  have m2 := PySem.W.mg_of X G a2
  have b3 := F3.binds (ps := ["_law_found"]) fun _ _ _ _ _ _ us hl => match us, hl with | [_], _ => rfl
  have m3 := PySem.W.mg_of X G a3
  have b4 := F4.binds (ps := ["rooms", "room"]) fun _ _ _ _ _ _ us hl => match us, hl with | [_, _], _ => rfl
  have m4 := PySem.W.mg_of X G a4
  have b5 := F5.binds (ps := ["rooms", "room"]) fun _ _ _ _ _ _ us hl => match us, hl with | [_, _], _ => rfl
  have m5 := PySem.W.mg_of X G a5
  have b6 := F6.binds (ps := ["rooms", "room", "goals"]) fun _ _ _ _ _ _ us hl => match us, hl with | [_, _, _], _ => rfl
  have m6 := PySem.W.mg_of X G a6
  have b7 := F7.binds (ps := ["rooms", "room", "goals"]) fun _ _ _ _ _ _ us hl => match us, hl with | [_, _, _], _ => rfl
  have m7 := PySem.W.mg_of X G a7
  have b8 := F8.binds (ps := ["rooms", "under", "goals"]) fun _ _ _ _ _ _ us hl => match us, hl with | [_, _, _], _ => rfl
  have m8 := PySem.W.mg_of X G a8
  have b9 := F9.binds (ps := ["rooms", "under", "opening"]) fun _ _ _ _ _ _ us hl => match us, hl with | [_, _, _], _ => rfl
  have m9 := PySem.W.mg_of X G a9
  have b10 := F10.binds (ps := ["rooms", "told"]) fun _ _ _ _ _ _ us hl => match us, hl with | [_, _], _ => rfl
  have m10 := PySem.W.mg_of X G a10
  have b11 := F11.binds (ps := ["rooms", "opening", "room"]) fun _ _ _ _ _ _ us hl => match us, hl with | [_, _, _], _ => rfl
  have m11 := PySem.W.mg_of X G a11
  have b12 := F12.binds (ps := ["rooms", "opening", "left", "kept"]) fun _ _ _ _ _ _ us hl => match us, hl with | [_, _, _, _], _ => rfl
  have m12 := PySem.W.mg_of X G a12
  have b13 := F13.binds (ps := ["_law_script"]) fun _ _ _ _ _ _ us hl => match us, hl with | [_], _ => rfl
  have m13 := PySem.W.mg_of X G a13
  have b14 := F14.binds (ps := ["_law_script", "_law_depths"]) fun _ _ _ _ _ _ us hl => match us, hl with | [_, _], _ => rfl
  have m14 := PySem.W.mg_of X G a14
  have b15 := F15.binds (ps := ["_law_script", "_law_rooms_here", "_law_parents_here", "_law_salt"]) fun _ _ _ _ _ _ us hl => match us, hl with | [_, _, _, _], _ => rfl
  have m15 := PySem.W.mg_of X G a15
  have b16 := F16.binds (ps := ["_law_depths"]) fun _ _ _ _ _ _ us hl => match us, hl with | [_], _ => rfl
  have m16 := PySem.W.mg_of X G a16
  have b17 := F17.binds (ps := ["_law_parents_here", "_law_one", "_law_other"]) fun _ _ _ _ _ _ us hl => match us, hl with | [_, _, _], _ => rfl
  have m17 := PySem.W.mg_of X G a17
  have b18 := F18.binds (ps := ["_law_rooms_here", "_law_parents_here", "_law_kid"]) fun _ _ _ _ _ _ us hl => match us, hl with | [_, _, _], _ => rfl
  have m18 := PySem.W.mg_of X G a18
  have b19 := F19.binds (ps := ["_law_found"]) fun _ _ _ _ _ _ us hl => match us, hl with | [_], _ => rfl
  have m19 := PySem.W.mg_of X G a19
  have b20 := F20.binds (ps := ["_law_rooms_here", "_law_parents_here", "_law_opening_here", "_law_goals", "_law_room"]) fun _ _ _ _ _ _ us hl => match us, hl with | [_, _, _, _, _], _ => rfl
  have m20 := PySem.W.mg_of X G a20
  have n_len := PySem.W.mg_none_of X G z1
  have n_max := PySem.W.mg_none_of X G z2
  have n_min := PySem.W.mg_none_of X G z3
  have n_range := PySem.W.mg_none_of X G z4
  have n_list := PySem.W.mg_none_of X G z5
  have n_tuple := PySem.W.mg_none_of X G z6
  have n_isinstance := PySem.W.mg_none_of X G z7
  have n_int := PySem.W.mg_none_of X G z8
  have n_bool := PySem.W.mg_none_of X G z9
  have n_sorted := PySem.W.mg_none_of X G z10
  have n_any := PySem.W.mg_none_of X G z11
  refine ⟨PySem.W.fnOf "law" "law" (defArgs sLawF) (defBody sLawF) (defScope sLawF) .none kV21 dc21 pm21 an21 cd21 ct21, fun s v => .of_eq rfl, fun base _ _ => ?_⟩
  have G1 := ok_cell (P := l.prog) (w := w) (base := base) (mg := mg) F1 n_len
  have G2 := ok_mixed (P := l.prog) (w := w) (base := base) (mg := mg) F2 G1 b1 k1 m1 n_len n_max
  have G3 := ok_whole (P := l.prog) (w := w) (base := base) (mg := mg) F3 n_isinstance n_int n_bool
  have G4 := Prg.ok_end (P := l.prog) (w := w) (base := base) (mg := mg) F4 n_range n_len
  have G5 := Prg.ok_kids (P := l.prog) (w := w) (base := base) (mg := mg) F5 G4 b4 k4 m4 n_range
  have G6 := Prg.ok_bears_goal (P := l.prog) (w := w) (base := base) (mg := mg) F6 G4 b4 k4 m4 n_any
  have G7 := Prg.ok_next_in (P := l.prog) (w := w) (base := base) (mg := mg) F7 G5 b5 k5 m5 G6 b6 k6 m6
  have G8 := Prg.ok_goings_in (P := l.prog) (w := w) (base := base) (mg := mg) F8 G7 b7 k7 m7 n_len n_sorted
  have G9 := Prg.ok_goings_out (P := l.prog) (w := w) (base := base) (mg := mg) F9 G4 b4 k4 m4 n_sorted
  have G10 := Prg.ok_plain_ones (P := l.prog) (w := w) (base := base) (mg := mg) F10 n_tuple
  have G11 := Prg.ok_kept_of (P := l.prog) (w := w) (base := base) (mg := mg) F11 G9 b9 k9 m9 (G10.mono (show 1 ≤ 2 by decide)) b10 k10 m10 n_sorted n_tuple
  have G12 := Prg.ok_keeping (P := l.prog) (w := w) (base := base) (mg := mg) F12 G11 b11 k11 m11 n_list n_tuple
  have G13 := ok_tree (P := l.prog) (w := w) (base := base) (mg := mg) F13 G2 b2 k2 m2 (G1.mono (show 1 ≤ 2 by decide)) b1 k1 m1 n_range n_min
  have G14 := ok_rooms (P := l.prog) (w := w) (base := base) (mg := mg) F14 G2 b2 k2 m2 n_range n_len n_tuple
  have GD1 := ok_cellD (P := l.prog) (w := w) (base := base) (mg := mg) F1 n_len
  have GD2 := ok_mixedD (P := l.prog) (w := w) (base := base) (mg := mg) F2 GD1 b1 k1 m1 n_len n_max
  have GDO := ok_openingD (P := l.prog) (w := w) (base := base) (mg := mg) F15 GD2 b2 k2 m2 n_range n_len
  have G15 := ok_opening (P := l.prog) (w := w) (base := base) (mg := mg) F15 G2 b2 k2 m2 n_range n_len
  have G16 := ok_parents (P := l.prog) (w := w) (base := base) (mg := mg) F16 n_range n_len
  have G17 := K14.ok_lies (P := l.prog) (w := w) (base := base) (mg := mg) F17
  have G18 := ok_fresh (P := l.prog) (w := w) (base := base) (mg := mg) F18 n_range n_len
  have G19 := ok_row (P := l.prog) (w := w) (base := base) (mg := mg) F19 G3 b3 k3 m3 n_isinstance n_list
  have G20 := ok_back (P := l.prog) (w := w) (base := base) (mg := mg) F20 (G17.mono (show 1 ≤ 4 by decide)) b17 k17 m17 (G18.mono (show 1 ≤ 4 by decide)) b18 k18 m18 G8 b8 k8 m8 (G19.mono (show 2 ≤ 4 by decide)) b19 k19 m19 n_list
  exact ok_law (n := 5) F21 (G14.mono (show 3 ≤ 5 by decide)) b14 k14 m14 (G13.mono (show 3 ≤ 5 by decide)) b13 k13 m13 (G16.mono (show 1 ≤ 5 by decide)) b16 k16 m16 (GDO.mono (show 3 ≤ 5 by decide)) b15 k15 m15 (G12.mono (show 4 ≤ 5 by decide)) b12 k12 m12 G20 b20 k20 m20 n_range n_len n_min n_tuple n_list n_isinstance
theorem walk {l : PySem.W.OpenLaw} {q : Program} {loose : List Str} {XP : (Str → Option Value) → Heap → Prop} {YP : World → Heap → Prop} {d : DefRec} {K : Params → PySem.W.Frag} (hn : l.most = some 63) (hdf : d.params.defaults = []) (hY : ∀ (w : World) (h : Heap), YP w h → (K w.params).In h)
    (F : ∀ (w : World) (mg : Str → Option Value) (fa : Addr) (h : Heap), (K w.params).In h → h.Ns mainGlobals mg → mg d.name = some (.ref fa) → ∃ fd : FuncData, (∀ (s : Shared) (u : Value), BindsTo s fd ⟨[u], []⟩ [("_law_script", u)]) ∧ ∀ base : Heap, (K w.params).In base → base.Ns mainGlobals mg → FnOk l.prog w (K w.params) mg base CX0 6 fa fd ["_law_script"] (spLaw (K w.params))) :
    PySem.W.WalkO q loose XP YP l.row.toRowW d [] (fun f vs => PySem.call f vs) :=
  L2.walk_of (n := 63) (k := 6) (x := "_law_script") (CX := fun _ => CX0) (sp := fun w => spLaw (K w.params)) hn (by decide) hdf ⟨rfl, by decide, by decide⟩ hY F (fun _ _ a ns hl _ hS => ⟨a, ns, rfl, hS, hl, fun _ => rfl⟩) fun _ _ _ _ _ z => z
end K17
open PySem PySem.W PyProof.Rows
set_option maxRecDepth 100000 in
set_option maxHeartbeats 0 in
theorem PySem.Challenge.cw_nesthall_k17_deep_comes_back_holds : PySem.Challenge.rw_nesthall_k17_deep_comes_back.Holds := by
  w_on; o_law; k_head; (case hw => w_witness2)
  k_fill
  refine K17.walk (l := PySem.Challenge.rw_nesthall_k17_deep_comes_back) rfl rfl (fun w h Y => PySem.W.kIn_of Y) ?F
  case F =>
    intro w mg fa h KX G hmg
    refine' K17.all_mk KX G hmg ?a1 ?l1 ?c1 ?k1 ?a2 ?l2 ?c2 ?k2 ?a3 ?l3 ?c3 ?k3 ?a4 ?l4 ?c4 ?k4 ?a5 ?l5 ?c5 ?k5 ?a6 ?l6 ?c6 ?k6 ?a7 ?l7 ?c7 ?k7 ?a8 ?l8 ?c8 ?k8 ?a9 ?l9 ?c9 ?k9 ?a10 ?l10 ?c10 ?k10 ?a11 ?l11 ?c11 ?k11 ?a12 ?l12 ?c12 ?k12 ?a13 ?l13 ?c13 ?k13 ?a14 ?l14 ?c14 ?k14 ?a15 ?l15 ?c15 ?k15 ?a16 ?l16 ?c16 ?k16 ?a17 ?l17 ?c17 ?k17 ?a18 ?l18 ?c18 ?k18 ?a19 ?l19 ?c19 ?k19 ?a20 ?l20 ?c20 ?k20 ?a21 ?l21 ?c21 ?k21 ?z1 ?z2 ?z3 ?z4 ?z5 ?z6 ?z7 ?z8 ?z9 ?z10 ?z11
    (case a1 => k_is)
    (case l1 => k_is)
    (case c1 => k_is)
    (case k1 => k_is)
    (case a2 => k_is)
    (case l2 => k_is)
    (case c2 => k_is)
    (case k2 => k_is)
    (case a3 => k_is)
    (case l3 => k_is)
    (case c3 => k_is)
    (case k3 => k_is)
    (case a4 => k_is)
    (case l4 => k_is)
    (case c4 => k_is)
    (case k4 => k_is)
    (case a5 => k_is)
    (case l5 => k_is)
    (case c5 => k_is)
    (case k5 => k_is)
    (case a6 => k_is)
    (case l6 => k_is)
    (case c6 => k_is)
    (case k6 => k_is)
    (case a7 => k_is)
    (case l7 => k_is)
    (case c7 => k_is)
    (case k7 => k_is)
    (case a8 => k_is)
    (case l8 => k_is)
    (case c8 => k_is)
    (case k8 => k_is)
    (case a9 => k_is)
    (case l9 => k_is)
    (case c9 => k_is)
    (case k9 => k_is)
    (case a10 => k_is)
    (case l10 => k_is)
    (case c10 => k_is)
    (case k10 => k_is)
    (case a11 => k_is)
    (case l11 => k_is)
    (case c11 => k_is)
    (case k11 => k_is)
    (case a12 => k_is)
    (case l12 => k_is)
    (case c12 => k_is)
    (case k12 => k_is)
    (case a13 => k_is)
    (case l13 => k_is)
    (case c13 => k_is)
    (case k13 => k_is)
    (case a14 => k_is)
    (case l14 => k_is)
    (case c14 => k_is)
    (case k14 => k_is)
    (case a15 => k_is)
    (case l15 => k_is)
    (case c15 => k_is)
    (case k15 => k_is)
    (case a16 => k_is)
    (case l16 => k_is)
    (case c16 => k_is)
    (case k16 => k_is)
    (case a17 => k_is)
    (case l17 => k_is)
    (case c17 => k_is)
    (case k17 => k_is)
    (case a18 => k_is)
    (case l18 => k_is)
    (case c18 => k_is)
    (case k18 => k_is)
    (case a19 => k_is)
    (case l19 => k_is)
    (case c19 => k_is)
    (case k19 => k_is)
    (case a20 => k_is)
    (case l20 => k_is)
    (case c20 => k_is)
    (case k20 => k_is)
    (case a21 => k_is)
    (case l21 => k_is)
    (case c21 => k_is)
    (case k21 => k_is)
    (case z1 => k_is)
    (case z2 => k_is)
    (case z3 => k_is)
    (case z4 => k_is)
    (case z5 => k_is)
    (case z6 => k_is)
    (case z7 => k_is)
    (case z8 => k_is)
    (case z9 => k_is)
    (case z10 => k_is)
    (case z11 => k_is)
