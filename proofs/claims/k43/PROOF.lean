import PyProof.Rows.All
import Wide.All
import OpenK.AllK
import Wide.FinOn
import Lean
import PyProof.EqAt
import PyProof.EqKinds
import PyProof.TupleCall
import PySem.Challenge.RW_nesthall_k43_charts_written
set_option Elab.async false
set_option linter.all false
set_option maxRecDepth 100000
/-! THE HAND LAYER, for ints, bools, texts, own classes, LISTS and tuples (index, slices, in, append, pop ..), calls, loops. Paste it whole ahead of your own text; what your proof does not reach may be deleted. -/
namespace L2
open PySem PySem.Spec PyProof.Rows

/-- a key: an int or a str -/
abbrev Key := Sum Int Str
def keyIs : Key → Value → Bool
  | .inl k, v => Value.isInt k v
  | .inr x, v => Value.isStrOf x v
def keyH (w : World) : Key → Int
  | .inl k => hashInt k
  | .inr x => hashStr w x
theorem keyIs_shape : ∀ {k : Key} {v : Value}, keyIs k v = true → (∃ i t, k = Sum.inl i ∧ v = Value.int i t) ∨ (∃ x t, k = Sum.inr x ∧ v = Value.str x t)
  | .inl i, v, h => by
    obtain ⟨t, e⟩ := Value.isInt_shape (k := i) (v := v) h
    exact .inl ⟨i, t, rfl, e⟩
  | .inr x, v, h => by
    obtain ⟨t, e⟩ := Value.isStrOf_shape (x := x) (v := v) h
    exact .inr ⟨x, t, rfl, e⟩
theorem keyIs_int (i : Int) (t : Tok) : keyIs (.inl i) (.int i t) = true := by simp [keyIs, Value.isInt]
theorem keyIs_str (x : Str) (t : Tok) : keyIs (.inr x) (.str x t) = true := by simp [keyIs, Value.isStrOf]
theorem key_ll (a b : Int) : decide ((Sum.inl a : Key) = Sum.inl b) = (a == b) := by
  by_cases e : a = b
  · subst e; simp
  · have h : ¬ (Sum.inl a : Key) = Sum.inl b := fun q => e (Sum.inl.inj q)
    rw [decide_eq_false h]
    exact (beq_eq_false_iff_ne.mpr e).symm
theorem key_rr (a b : Str) : decide ((Sum.inr a : Key) = Sum.inr b) = decide (a = b) := by
  by_cases e : a = b
  · subst e; simp
  · have h : ¬ (Sum.inr a : Key) = Sum.inr b := fun q => e (Sum.inr.inj q)
    rw [decide_eq_false h, decide_eq_false e]
theorem key_lr (a : Int) (b : Str) : decide ((Sum.inl a : Key) = Sum.inr b) = false := decide_eq_false (fun q => nomatch q)
theorem key_rl (a : Str) (b : Int) : decide ((Sum.inr a : Key) = Sum.inl b) = false := decide_eq_false (fun q => nomatch q)

def mixKind (prog : Program) (w : World) : PySem.KeyKind prog w Key where
  is := keyIs
  hash := keyH w
  inj := fun v a b ha hb => by
    rcases keyIs_shape ha with ⟨i, t, rfl, rfl⟩ | ⟨x, t, rfl, rfl⟩
    · rcases keyIs_shape hb with ⟨j, u, rfl, e⟩ | ⟨y, u, rfl, e⟩
      · injection e with e1 _; rw [e1]
      · exact nomatch e
    · rcases keyIs_shape hb with ⟨j, u, rfl, e⟩ | ⟨y, u, rfl, e⟩
      · exact nomatch e
      · injection e with e1 _; rw [e1]
  byValue := fun k v h => by
    rcases keyIs_shape h with ⟨i, t, rfl, rfl⟩ | ⟨x, t, rfl, rfl⟩ <;> rfl
  pyHash := fun hv h => by
    rcases keyIs_shape hv with ⟨i, t, rfl, rfl⟩ | ⟨x, t, rfl, rfl⟩
    · exact wpAny_pyHash_int h
    · exact wpAny_pyHash_str h
  eqBool := fun hu hv h => by
    rcases keyIs_shape hu with ⟨i, t, rfl, rfl⟩ | ⟨x, t, rfl, rfl⟩
    · rcases keyIs_shape hv with ⟨j, u, rfl, rfl⟩ | ⟨y, u, rfl, rfl⟩
      · rw [key_ll] at h; exact wpAny_eqBool_int h
      · rw [key_lr] at h; exact SeqAt.EqAt.int_str i t y u _ _ _ _ h
    · rcases keyIs_shape hv with ⟨j, u, rfl, rfl⟩ | ⟨y, u, rfl, rfl⟩
      · rw [key_rl] at h; exact SeqAt.EqAt.str_int x t j u _ _ _ _ h
      · rw [key_rr] at h; exact wpAny_eqBool_str h
  «strs» := fun k x t v h => by
    rcases keyIs_shape h with ⟨i, u, rfl, e⟩ | ⟨y, u, rfl, e⟩
    · exact nomatch e
    · injection e with e1 _
      subst e1
      cases v <;> rfl

theorem mixKind_is (prog : Program) (w : World) (k : Key) (v : Value) : (mixKind prog w).is k v = keyIs k v := rfl
theorem mixKind_int (prog : Program) (w : World) (i : Int) (t : Tok) : (mixKind prog w).is (.inl i) (.int i t) = true := keyIs_int i t
theorem mixKind_str (prog : Program) (w : World) (x : Str) (t : Tok) : (mixKind prog w).is (.inr x) (.str x t) = true := keyIs_str x t
end L2

namespace L2
open PySem PySem.Spec PyProof.Rows

/-- a value, without the heap -/
inductive V where
  | non | bl (b : Bool) | int (i : Int) | str (x : Str) | byt (b : Array UInt8) | flt (b : UInt64) | ref (a : Addr) | ty (n : String)
  deriving DecidableEq

def RelV : V → Value → Prop
  | .non, u => u = Value.none
  | .bl b, u => u = Value.bool b
  | .int i, u => ∃ t, u = Value.int i t
  | .str x, u => ∃ t, u = Value.str x t
  | .byt b, u => ∃ t, u = Value.bytes b t
  | .flt b, u => ∃ t, u = Value.float b t
  | .ref a, u => u = Value.ref a
  | .ty n, u => u = Value.type n

abbrev Vals : List V → List Value → Prop := Paired RelV
theorem Vals.length {xs : List V} {us : List Value} (r : Vals xs us) : xs.length = us.length := Paired.length r
theorem Vals.get : ∀ {xs : List V} {us : List Value} {i : Nat} {x : V}, Vals xs us → xs[i]? = some x → ∃ u, us[i]? = some u ∧ RelV x u
  | _, _, _, _, .nil, e => by simp at e
  | _, _, 0, _, .cons r _, e => by simp at e; subst e; exact ⟨_, rfl, r⟩
  | _, _, i + 1, x, .cons _ t, e => by
    obtain ⟨u, h1, h2⟩ := Vals.get (i := i) (x := x) t (by simpa using e)
    exact ⟨u, by simpa using h1, h2⟩
theorem Vals.set {x : V} {u : Value} (r : RelV x u) : ∀ {xs : List V} {us : List Value} (i : Nat), Vals xs us → Vals (xs.set i x) (us.set i u)
  | _, _, _, .nil => .nil
  | _, _, 0, .cons _ t => .cons r t
  | _, _, i + 1, .cons q t => .cons q (Vals.set r i t)
theorem Vals.append : ∀ {xs ys : List V} {us ws : List Value}, Vals xs us → Vals ys ws → Vals (xs ++ ys) (us ++ ws)
  | _, _, _, _, .nil, s => s
  | _, _, _, _, .cons r t, s => .cons r (Vals.append t s)
theorem Vals.take : ∀ {xs : List V} {us : List Value} (n : Nat), Vals xs us → Vals (xs.take n) (us.take n)
  | _, _, 0, _ => .nil
  | _, _, _ + 1, .nil => .nil
  | _, _, n + 1, .cons r t => .cons r (Vals.take n t)
theorem Vals.drop : ∀ {xs : List V} {us : List Value} (n : Nat), Vals xs us → Vals (xs.drop n) (us.drop n)
  | _, _, 0, r => r
  | _, _, _ + 1, .nil => .nil
  | _, _, n + 1, .cons _ t => Vals.drop n t
theorem Vals.none_of : ∀ {xs : List V} {us : List Value} {i : Nat}, Vals xs us → xs[i]? = none → us[i]? = none := fun {xs us i} r e => by
  have h1 := r.length
  have h2 : xs.length ≤ i := List.getElem?_eq_none_iff.mp e
  exact List.getElem?_eq_none_iff.mpr (by omega)

def RelO : Option V → Option Value → Prop
  | some v, some u => RelV v u
  | none, none => True
  | _, _ => False
def KV {κ : Type} : List (κ × V) → List (κ × Value) → Prop := Paired fun (p : κ × V) (q : κ × Value) => p.1 = q.1 ∧ RelV p.2 q.2

/-- a key of a dict (00_mix): an int or a text -/
def kV : Key → V
  | .inl i => .int i
  | .inr x => .str x

/-- what stands at a tracked address -/
inductive HO where
  /-- a list -/
  | lst (xs : List V)
  /-- a tuple (never changes) -/
  | tup (xs : List V)
  /-- a dict whose keys are ints and texts; one whose keys are tuples of ints and texts (the empty one is both) -/
  | dK (kvs : List (Key × V)) | dT (kvs : List (List Key × V))
  /-- a set of ints: its members, its size -/
  | set (S : Int → Bool) (n : Nat)
  /-- an instance of the class at C, its dict at dx, its attributes -/
  | ins (C dx : Addr) (fs : List (Str × V))
  /-- the dict of the instance at x -/
  | own (x : Addr)
  /-- the dict of an exception -/
  | xd (fs : List (Str × V))
  /-- a bound method, f of x -/
  | met (f x : Addr)
  /-- a range object lo, lo + 1, .. below hi -/
  | rng (lo hi : Int)
  /-- a thing that is known to the object (the script; a dict while a loop walks it): read, never written while it is so -/
  | frz (o : Obj) (u : HO)
  /-- a code object's table -/
  | tbl (ps : Array Value)
  /-- any other thing, by what is true of its one object (a def of one's own: SetO a S n := HO.ext fun h => ..) -/
  | ext (φ : Heap → Prop)

abbrev Hp := Addr → Option HO
def upd (H : Hp) (a : Addr) (o : HO) : Hp := fun b => if b = a then some o else H b
theorem upd_same {H : Hp} {a : Addr} {o : HO} : upd H a o a = some o := by unfold upd; rw [if_pos rfl]
theorem upd_ne {H : Hp} {a b : Addr} {o : HO} (h : b ≠ a) : upd H a o b = H b := by unfold upd; rw [if_neg h]
theorem upd_upd {H : Hp} {a : Addr} {o u : HO} : upd (upd H a o) a u = upd H a u := by
  funext b; unfold upd; split <;> rfl
/-- two objects of different content stand apart -/
theorem ne_of {H : Hp} {a b : Addr} {o u : HO} (h : H a = some o) (h' : H b = some u) (d : o ≠ u) : a ≠ b := by
  intro e; subst e; rw [h] at h'; exact d (Option.some.inj h')
theorem ne_of_none {H : Hp} {a b : Addr} {o : HO} (h : H a = some o) (h' : H b = none) : a ≠ b := by
  intro e; subst e; rw [h] at h'; cases h'

section
variable (P : Program) (w : World)
def ObjOk (H : Hp) (h : Heap) (a : Addr) : HO → Prop
  | .lst xs => xs.length ≤ sizeLine ∧ ∃ (its : List Value) (n : Nat), Vals xs its ∧ h.get? a = some { cls := .type "list", data := .seq its.toArray n }
  | .tup xs => xs.length ≤ sizeLine ∧ ∃ its : List Value, Vals xs its ∧ IsTup h a its.toArray
  | .dK kvs => kvs.length ≤ sizeLine ∧ (a == sysModules) = false ∧ ∃ vs, KV kvs vs ∧ h.DictOf (mixKind P w) a vs
  | .dT kvs => kvs.length ≤ sizeLine ∧ (a == sysModules) = false ∧ ∃ xs : List (List Key × Addr × Value),
      Paired (fun (p : List Key × V) (q : List Key × Addr × Value) => p.1 = q.1 ∧ H q.2.1 = some (.tup (p.1.map kV)) ∧ RelV p.2 q.2.2) kvs xs ∧
      ∃ o es ep, h.get? a = some o ∧ o.ExactDict ∧ o.data = .dict es ep ∧ es.toList = xs.map (entryOfKey (tupleKind (mixKind P w))) ∧ (xs.map (·.1)).Nodup
  | .set S n => h.SetOf (intKind P w) a S n
  | .ins C dx fs => H dx = some (.own a) ∧ fs.length ≤ 1000 ∧ dx ≠ a ∧ h.get? a = some (PySem.W.instObj C dx) ∧
      ∃ mA, h.Ns1 dx mA ∧ (∀ f, RelO (fs.lookup f) (mA f)) ∧ PySem.Within mA (fs.map (·.1))
  | .own _ => ∃ o, h.get? a = some o
  | .xd fs => ∃ mA, h.Ns1 a mA ∧ ∀ f, RelO (fs.lookup f) (mA f)
  | .rng lo hi => ∃ t u v, h.get? a = some { cls := .type "range", data := .fields #[.int lo t, .int hi u, .int 1 v] }
  | .frz o u => h.get? a = some o ∧ ObjOk H h a u
  | .tbl ps => h.get? a = some { cls := .none, data := .fields ps }
  | .met f x => h.get? a = some (PySem.W.methodObj (.ref f) (.ref x))
  | .ext φ => φ h ∧ (∃ o, h.get? a = some o) ∧ ∀ h1 h2 : Heap, φ h1 → (∀ o, h1.get? a = some o → h2.get? a = some o) → φ h2
/-- the abstract heap is held -/
def HOk (H : Hp) (h : Heap) : Prop := ∀ a o, H a = some o → ObjOk P w H h a o
end

section
variable {P : Program} {w : World} {H H' : Hp} {h h' : Heap} {a : Addr} {o : HO}
theorem ObjOk.lt (x : ObjOk P w H h a o) : a < h.objs.size := by
  cases o with
  | lst xs => obtain ⟨_, _, _, _, e⟩ := x; exact Heap.lt_size e
  | tup xs => obtain ⟨_, _, _, p⟩ := x; exact p.lt
  | dK kvs => obtain ⟨_, _, _, _, o, _, _, e, _⟩ := x; exact Heap.lt_size e
  | dT kvs => obtain ⟨_, _, _, _, o, _, _, e, _⟩ := x; exact Heap.lt_size e
  | set S n => obtain ⟨o, _, _, _, e, _⟩ := x; exact Heap.lt_size e
  | ins C dx fs => obtain ⟨_, _, _, e, _⟩ := x; exact Heap.lt_size e
  | own y => obtain ⟨_, e⟩ := x; exact Heap.lt_size e
  | xd fs => obtain ⟨_, ⟨_, _, _, e, _⟩, _⟩ := x; exact Heap.lt_size e
  | rng lo hi => obtain ⟨_, _, _, e⟩ := x; exact Heap.lt_size e
  | frz ob u => obtain ⟨e, _⟩ := x; exact Heap.lt_size e
  | tbl ps => exact Heap.lt_size (show h.get? a = some _ from x)
  | met f y => exact Heap.lt_size (show h.get? a = some _ from x)
  | ext φ => obtain ⟨_, ⟨_, e⟩, _⟩ := x; exact Heap.lt_size e
theorem Paired.mapP {α β : Type} {F G : α → β → Prop} : ∀ {l₁ : List α} {l₂ : List β}, Paired F l₁ l₂ → (∀ a b, F a b → G a b) → Paired G l₁ l₂
  | _, _, .nil, _ => .nil
  | _, _, .cons r t, f => .cons (f _ _ r) (Paired.mapP t f)
theorem Paired.imp' {α β : Type} {F G : α → β → Prop} (f : ∀ a b, F a b → G a b) {l₁ : List α} {l₂ : List β} (r : Paired F l₁ l₂) : Paired G l₁ l₂ := Paired.mapP r f
/-- what an object's description leans on: its own object, its own dict, the tuples -/
theorem ObjOk.stay (x : ObjOk P w H h a o) (k : ∀ b u, (b = a ∨ H b = some (.own a)) → h.get? b = some u → h'.get? b = some u)
    (ho : ∀ b, H b = some (.own a) → H' b = some (.own a)) (ht : ∀ b xs, H b = some (.tup xs) → H' b = some (.tup xs)) : ObjOk P w H' h' a o := by
  induction o with
  | lst xs => obtain ⟨z, its, n, r, e⟩ := x; exact ⟨z, its, n, r, k _ _ (.inl rfl) e⟩
  | tup xs => obtain ⟨z, its, r, ob, e, c⟩ := x; exact ⟨z, its, r, ob, k _ _ (.inl rfl) e, c⟩
  | dK kvs => obtain ⟨z, y, vs, r, ob, es, ep, e, c⟩ := x; exact ⟨z, y, vs, r, ob, es, ep, k _ _ (.inl rfl) e, c⟩
  | dT kvs =>
    obtain ⟨z, y, xs, r, ob, es, ep, e, c⟩ := x
    exact ⟨z, y, xs, Paired.mapP r fun p q z => ⟨z.1, ht _ _ z.2.1, z.2.2⟩, ob, es, ep, k _ _ (.inl rfl) e, c⟩
  | set S n => obtain ⟨ob, es, ep, t, e, c⟩ := x; exact ⟨ob, es, ep, t, k _ _ (.inl rfl) e, c⟩
  | ins C dx fs =>
    obtain ⟨d, z, ne, e, mA, ⟨od, es, ep, e2, c⟩, r⟩ := x
    exact ⟨ho _ d, z, ne, k _ _ (.inl rfl) e, mA, ⟨od, es, ep, k _ _ (.inr d) e2, c⟩, r⟩
  | own y => obtain ⟨ob, e⟩ := x; exact ⟨ob, k _ _ (.inl rfl) e⟩
  | xd fs => obtain ⟨mA, ⟨od, es, ep, e, c⟩, r⟩ := x; exact ⟨mA, ⟨od, es, ep, k _ _ (.inl rfl) e, c⟩, r⟩
  | rng lo hi => obtain ⟨t, u, v, e⟩ := x; exact ⟨t, u, v, k _ _ (.inl rfl) e⟩
  | frz ob u ih => obtain ⟨e, q⟩ := x; exact ⟨k _ _ (.inl rfl) e, ih q⟩
  | tbl ps =>
    have e : h.get? a = some { cls := .none, data := .fields ps } := x
    show h'.get? a = some { cls := .none, data := .fields ps }
    exact k a _ (.inl rfl) e
  | met f y =>
    have e : h.get? a = some (PySem.W.methodObj (.ref f) (.ref y)) := x
    show h'.get? a = some (PySem.W.methodObj (.ref f) (.ref y))
    exact k a _ (.inl rfl) e
  | ext φ => obtain ⟨p, ⟨o, e⟩, st⟩ := x; exact ⟨st _ _ p fun o q => k _ _ (.inl rfl) q, ⟨o, k _ _ (.inl rfl) e⟩, st⟩
theorem HOk.lt (x : HOk P w H h) (e : H a = some o) : a < h.objs.size := (x a o e).lt
theorem HOk.fresh (x : HOk P w H h) (e : h.objs.size ≤ a) : H a = none := by
  cases q : H a with
  | none => rfl
  | some u => exact absurd (Nat.lt_of_lt_of_le (x.lt q) e) (Nat.lt_irrefl _)
/-- every object of the heap is kept -/
theorem HOk.kept (x : HOk P w H h) (k : ∀ b u, h.get? b = some u → h'.get? b = some u) : HOk P w H h' := fun a o e =>
  (x a o e).stay (fun b u _ q => k b u q) (fun _ q => q) fun _ _ q => q
/-- a new object is laid and tracked -/
theorem HOk.laid (x : HOk P w H h) (k : ∀ b u, h.get? b = some u → h'.get? b = some u) (hp : h.objs.size ≤ a) (new : ObjOk P w (upd H a o) h' a o) : HOk P w (upd H a o) h' := fun b u e => by
  have hn := x.fresh hp
  by_cases hb : b = a
  · subst hb; rw [upd_same] at e; cases e; exact new
  · rw [upd_ne hb] at e
    exact (x b u e).stay (fun c v _ q => k c v q) (fun c q => by rw [upd_ne (ne_of_none q hn)]; exact q) fun c xs q => by rw [upd_ne (ne_of_none q hn)]; exact q
end

/-- what may be read as u: it is u, or a known u -/
def Rd (H : Hp) (a : Addr) (u : HO) : Prop := H a = some u ∨ ∃ o, H a = some (.frz o u)
theorem Rd.of {H : Hp} {a : Addr} {u : HO} (h : H a = some u) : Rd H a u := .inl h
theorem Rd.ok {P : Program} {w : World} {H : Hp} {h : Heap} {a : Addr} {u : HO} (r : Rd H a u) (x : HOk P w H h) : ObjOk P w H h a u := by
  rcases r with r | ⟨o, r⟩
  · exact x a u r
  · obtain ⟨_, q⟩ := x a _ r
    exact q
/-- what may be written -/
def Mut : Option HO → Prop
  | some (.lst _) => True
  | some (.dK _) => True
  | some (.dT _) => True
  | some (.set _ _) => True
  | some (.ins _ _ _) => True
  | some (.ext _) => True
  | _ => False
section
variable {P : Program} {w : World} {H : Hp} {h h' : Heap} {x e : Addr} {o' : HO}
/-- the object at e is changed: x itself, or the dict of the instance x -/
theorem HOk.write (ok : HOk P w H h) (mu : Mut (H x)) (he : e = x ∨ H e = some (.own x)) (k : ∀ b u, b ≠ e → h.get? b = some u → h'.get? b = some u) (heo : ∃ u, h'.get? e = some u)
    (new : ObjOk P w (upd H x o') h' x o') : HOk P w (upd H x o') h' := fun b u q => by
  have nown : ∀ c y, H c = some (.own y) → c ≠ x := fun c y r z => by subst z; rw [r] at mu; exact mu
  have ntup : ∀ c xs, H c = some (.tup xs) → c ≠ x := fun c xs r z => by subst z; rw [r] at mu; exact mu
  by_cases hb : b = x
  · subst hb; rw [upd_same] at q; cases q; exact new
  · rw [upd_ne hb] at q
    by_cases hbe : b = e
    · have q' : H b = some (.own x) := by
        rcases he with z | z
        · exact absurd (hbe.trans z) hb
        · rw [hbe]; exact z
      rw [q] at q'; cases q'
      obtain ⟨v, hv⟩ := heo
      exact ⟨v, by rw [hbe]; exact hv⟩
    · refine (ok b u q).stay (fun c v hc r => k c v ?_ r) (fun c r => by rw [upd_ne (nown c b r)]; exact r) fun c xs r => by rw [upd_ne (ntup c xs r)]; exact r
      rcases hc with rfl | hc
      · exact hbe
      · rintro rfl
        rcases he with z | z
        · exact nown c b hc z
        · rw [hc] at z; cases z; exact hb rfl
end

/-! ### kept unless tracked; of the frames at fs (the callers') the slots may change (an exception that passes writes there); of the records at ex (iterators) nothing is said -/
structure Un (fs ex : List Addr) (H H' : Hp) (h h' : Heap) : Prop where
  keep : ∀ b o, h.get? b = some o → H b = none → b ∉ fs → b ∉ ex → h'.get? b = some o
  slot : ∀ b o, h.get? b = some o → H b = none → b ∈ fs → b ∉ ex → ∃ sl, h'.get? b = some { o with slots := sl }
  free : ∀ b o, h.get? b = some o → H b = none → b ∉ ex → H' b = none
  there : ∀ b o, h.get? b = some o → b ∉ ex → ∃ o', h'.get? b = some o'
  tups : ∀ b xs, H b = some (.tup xs) → H' b = some (.tup xs)
  frzs : ∀ b o u, H b = some (.frz o u) → H' b = some (.frz o u)
  tbls : ∀ b ps, H b = some (.tbl ps) → ∃ more, H' b = some (.tbl (ps ++ more))
section
variable {fs fs' ex ex' : List Addr} {H H1 H2 : Hp} {h h1 h2 h' : Heap} {a x e : Addr} {o : HO}
theorem Un.any (u : Un fs ex H H1 h h1) {b : Addr} {ob : Obj} (q : h.get? b = some ob) (n : H b = none) (hx : b ∉ ex) : ∃ sl, h1.get? b = some { ob with slots := sl } := by
  by_cases hb : b ∈ fs
  · exact u.slot b ob q n hb hx
  · exact ⟨ob.slots, u.keep b ob q n hb hx⟩
theorem Un.trans (a : Un fs ex H H1 h h1) (b : Un fs ex H1 H2 h1 h2) : Un fs ex H H2 h h2 where
  keep := fun c ob q n hc hx => b.keep c ob (a.keep c ob q n hc hx) (a.free c ob q n hx) hc hx
  slot := fun c ob q n hc hx => by
    obtain ⟨sl, e1⟩ := a.slot c ob q n hc hx
    obtain ⟨sl', e2⟩ := b.slot c _ e1 (a.free c ob q n hx) hc hx
    exact ⟨sl', e2⟩
  free := fun c ob q n hx => by
    obtain ⟨o', e1⟩ := a.there c ob q hx
    exact b.free c o' e1 (a.free c ob q n hx) hx
  there := fun c ob q hx => by
    obtain ⟨o', e1⟩ := a.there c ob q hx
    exact b.there c o' e1 hx
  tups := fun c xs q => b.tups c xs (a.tups c xs q)
  frzs := fun c ob xs q => b.frzs c ob xs (a.frzs c ob xs q)
  tbls := fun c ps q => by
    obtain ⟨m1, e1⟩ := a.tbls c ps q
    obtain ⟨m2, e2⟩ := b.tbls c _ e1
    exact ⟨m1 ++ m2, by rw [e2, Array.append_assoc]⟩
theorem Un.kept (k : ∀ b u, h.get? b = some u → h'.get? b = some u) : Un fs ex H H h h' :=
  ⟨fun b ob q _ _ _ => k b ob q, fun b ob q _ _ _ => ⟨ob.slots, k b ob q⟩, fun _ _ _ n _ => n, fun b ob q _ => ⟨ob, k b ob q⟩, fun _ _ q => q, fun _ _ _ q => q, fun _ ps q => ⟨#[], by rw [q]; simp⟩⟩
theorem Un.refl : Un fs ex H H h h := Un.kept fun _ _ q => q
theorem Un.laid (k : ∀ b u, h.get? b = some u → h'.get? b = some u) (hp : h.objs.size ≤ a) (hn : H a = none) : Un fs ex H (upd H a o) h h' where
  keep := fun b u q _ _ _ => k b u q
  slot := fun b u q _ _ _ => ⟨u.slots, k b u q⟩
  free := fun b u q n _ => by rw [upd_ne (Nat.ne_of_lt (Nat.lt_of_lt_of_le (Heap.lt_size q) hp))]; exact n
  there := fun b u q _ => ⟨u, k b u q⟩
  tups := fun b xs q => by rw [upd_ne (ne_of_none q hn)]; exact q
  frzs := fun b u xs q => by rw [upd_ne (ne_of_none q hn)]; exact q
  tbls := fun b ps q => ⟨#[], by rw [upd_ne (ne_of_none q hn), q]; simp⟩
theorem Un.write (mu : Mut (H x)) (he : e = x ∨ H e = some (.own x)) (k : ∀ b u, b ≠ e → h.get? b = some u → h'.get? b = some u) (heo : ∃ u, h'.get? e = some u) : Un fs ex H (upd H x o) h h' := by
  have hx : ∀ b, H b = none → b ≠ x := fun b n z => by subst z; rw [n] at mu; exact mu
  have hb : ∀ b, H b = none → b ≠ e := fun b n z => by
    subst z
    rcases he with r | r
    · exact hx b n r
    · rw [n] at r; cases r
  have hm : ∀ b u, H b = some u → ¬ Mut (some u) → b ≠ x := fun b u q nm z => by subst z; rw [q] at mu; exact nm mu
  refine ⟨fun b u q n _ _ => k b u (hb b n) q, fun b u q n _ _ => ⟨u.slots, k b u (hb b n) q⟩, fun b u q n _ => by rw [upd_ne (hx b n)]; exact n, fun b u q _ => ?_,
    fun b xs q => by rw [upd_ne (hm b _ q fun z => z)]; exact q, fun b u xs q => by rw [upd_ne (hm b _ q fun z => z)]; exact q, fun b ps q => ⟨#[], by rw [upd_ne (hm b _ q fun z => z), q]; simp⟩⟩
  by_cases hbe : b = e
  · subst hbe; exact heo
  · exact ⟨u, k b u hbe q⟩
theorem Un.mono (u : Un fs ex H H1 h h1) (hs : ∀ b ∈ fs, b ∈ fs') (hx : ∀ b ∈ ex, b ∈ ex') : Un fs' ex' H H1 h h1 :=
  ⟨fun b ob q n hb he => u.keep b ob q n (fun z => hb (hs b z)) fun z => he (hx b z), fun _ _ q n _ he => u.any q n fun z => he (hx _ z), fun b ob q n he => u.free b ob q n fun z => he (hx b z), fun b ob q he => u.there b ob q fun z => he (hx b z), u.tups, u.frzs, u.tbls⟩
end

/-! ### the heap without what is tracked -/
def trk (h : Heap) (H : Hp) : List Addr := (List.range h.objs.size).filter fun a => (H a).isSome
def hidT (h : Heap) (H : Hp) : Heap := PySem.W.hideAll h (trk h H)
theorem hidT_size (h : Heap) (H : Hp) : (hidT h H).objs.size = h.objs.size := PySem.W.hideAll_size _ _
theorem hidT_get {h : Heap} {H : Hp} {b : Addr} {o : Obj} (e : h.get? b = some o) (n : H b = none) : (hidT h H).get? b = some o :=
  PySem.W.hideAll_get _ e fun hm => by
    have q : (H b).isSome = true := (List.mem_filter.mp hm).2
    rw [n] at q; simp at q
theorem of_hidT {h : Heap} {H : Hp} {b : Addr} {o : Obj} (e : (hidT h H).get? b = some o) : h.get? b = some o ∧ H b = none := by
  have e' : h.get? b = some o := PySem.W.of_hideAll (trk h H) e
  refine ⟨e', ?_⟩
  cases q : H b with
  | none => rfl
  | some x =>
    have hm : b ∈ trk h H := List.mem_filter.mpr ⟨List.mem_range.mpr (Heap.lt_size e'), by simp [q]⟩
    have z : (hidT h H).get? b = none := PySem.W.hideAll_none (trk h H) hm
    rw [z] at e; cases e

/-! ### OpenK's ledger, filled with every new object but one -/
def allNews (g h : Heap) (L : Addr) : List (Addr × Obj) := (List.range h.objs.size).filterMap fun a => if a = L ∨ (g.get? a).isSome = true then none else (h.get? a).map fun o => (a, o)
theorem mem_allNews {g h : Heap} {L a : Addr} {o : Obj} (h1 : a ≠ L) (h2 : g.get? a = none) (h3 : h.get? a = some o) : (a, o) ∈ allNews g h L :=
  List.mem_filterMap.mpr ⟨a, List.mem_range.mpr (Heap.lt_size h3), by simp [h1, h2, h3]⟩
theorem of_mem_allNews {g h : Heap} {L : Addr} {p : Addr × Obj} (hp : p ∈ allNews g h L) : p.1 ≠ L ∧ g.get? p.1 = none ∧ h.get? p.1 = some p.2 := by
  obtain ⟨b, _, e⟩ := List.mem_filterMap.mp hp
  split at e
  · cases e
  · rename_i hn
    cases q : h.get? b with
    | none => rw [q] at e; simp at e
    | some u =>
      rw [q] at e
      simp only [Option.map_some, Option.some.injEq] at e
      subst e
      refine ⟨fun z => hn (.inl z), ?_, q⟩
      show g.get? b = none
      cases r : g.get? b with
      | none => rfl
      | some v => exact (hn (.inr (by simp [r]))).elim
def rest (g h : Heap) (L d : Addr) : List (Addr × Obj) := (allNews g h L).filter fun p => decide (p.1 ≠ d)
theorem rest_ne {g h : Heap} {L d : Addr} : ∀ p ∈ rest g h L d, p.1 ≠ d := fun p hp => of_decide_eq_true (List.mem_filter.mp hp).2
theorem mem_rest {g h : Heap} {L d a : Addr} {o : Obj} (h1 : a ≠ L) (h2 : g.get? a = none) (h3 : h.get? a = some o) (h4 : a ≠ d) : (a, o) ∈ rest g h L d :=
  List.mem_filter.mpr ⟨mem_allNews h1 h2 h3, decide_eq_true h4⟩
theorem news_all {g h : Heap} {L : Addr} : News g L h (allNews g h L) := fun p hp => let ⟨a, b, c⟩ := of_mem_allNews hp; ⟨c, a, b⟩
theorem news_at {g h : Heap} {L d : Addr} {o : Obj} (h1 : d ≠ L) (h2 : g.get? d = none) (h3 : h.get? d = some o) : News g L h ((d, o) :: rest g h L d) := fun p hp => by
  rcases List.mem_cons.mp hp with rfl | hp
  · exact ⟨h3, h1, h2⟩
  · exact news_all p (List.mem_filter.mp hp).1
/-- behind a rule that changed d alone: all else but the frame is kept -/
theorem kept_of_news {g h h' : Heap} {L d : Addr} {m : Str → Option Value} (k : ∀ b o, g.get? b = some o → h.get? b = some o) (F : Fr g L h' m) (N : News g L h' (rest g h L d)) :
    ∀ b o, b ≠ L → b ≠ d → h.get? b = some o → h'.get? b = some o := fun b o h1 h2 e => by
  cases q : g.get? b with
  | some u =>
    have := k b u q
    rw [e] at this; cases this
    exact F.keep b _ q
  | none => exact (N (b, o) (mem_rest h1 q e h2)).1
end L2

namespace L2
open PySem PySem.Spec PyProof.Rows

/-- the module's facts, over the base: the heap at the law's entry without what is tracked there -/
structure Mod (K : PySem.W.Frag) (mg : Str → Option Value) (base : Heap) : Prop where
  kin : K.In base
  glob : base.Ns mainGlobals mg
  blt : ∃ mb, base.Ns builtinsNs mb ∧ ∀ x : Str, x ≠ "__name__" → mb x = bootBuiltins x
  nolimit : base.NoLimit

/-- the context: a def's body (or a comprehension's block) running. base: fixed through the whole law; s₀, H₀: the entry; outer: the frames whose slots others may change (a def's callers); stack: all frames that run;
   ex: iterators that were made ahead of the entry and are walked here (a comprehension's); fn: the names whose cells were made at the entry (a def: all; a comprehension's block: its own); calm: not within an except suite; pn: pins that every state bears; xe: what is wanted of an exception that leaves the code -/
structure Cx where
  prog : Program
  w : World
  K : PySem.W.Frag
  mg : Str → Option Value
  base : Heap
  A : Around
  N : List Str
  s₀ : Shared
  H₀ : Hp
  env : Env
  outer : List Env
  stack : List Env
  ex : List Addr
  fn : Str → Bool
  calm : Bool
  pn : List (Addr × Obj)
  xe : Value → Shared → Prop
/-- the callers' frames -/
def frs (l : List Env) : List Addr := l.filterMap (·.frame)
abbrev Cx.fs (X : Cx) : List Addr := frs X.outer

def Vis (sc : Scope) (x : Str) : Prop := sc.names.lookup x = some .local ∨ sc.names.lookup x = some .cell ∨ sc.names.lookup x = some .free
def Loc (sc : Scope) (x : Str) : Prop := sc.names.lookup x = some .local ∨ sc.names.lookup x = some .cell
def Look (env : Env) (h : Heap) (m : Str → Option Value) (x : Str) (u : Value) : Prop :=
  (env.kindOf x = some .local ∧ m x = some u) ∨ ((env.kindOf x = some .cell ∨ env.kindOf x = some .free) ∧ ∃ c, env.cells.lookup x = some c ∧ h.IsCell c (some u))

structure Cx.Ok (X : Cx) : Prop where
  mod : Mod X.K X.mg X.base
  kind : X.env.scope.kind = .function
  glob : X.env.globals = mainGlobals
  blt : X.env.builtins = builtinsNs
  above : X.s₀.heap.objs.size ≤ X.env.locals
  inj : ∀ x y c, X.env.cells.lookup x = some c → X.env.cells.lookup y = some c → x = y
  has : ∀ x, (X.env.kindOf x = some .cell ∨ X.env.kindOf x = some .free) → ∃ c, X.env.cells.lookup x = some c
  cab : ∀ x c, X.fn x = true → X.env.cells.lookup x = some c → X.s₀.heap.objs.size ≤ c
  hd : X.calm = true → X.A.handled = none
  frames : X.A.frames = some X.stack
  stk : X.stack = X.outer ∨ (X.stack = X.env :: X.outer ∧ X.env.frame = some X.env.locals)
  exf : ∀ b ∈ X.ex, b ≠ X.env.locals ∧ ∀ x c, X.env.cells.lookup x = some c → c ≠ b
  bs : ∀ b o, X.base.get? b = some o → X.s₀.heap.get? b = some o ∧ X.H₀ b = none
  bsz : X.base.objs.size ≤ X.s₀.heap.objs.size
  noex : ∀ b o, X.base.get? b = some o → b ∉ X.ex
  exfs : ∀ b ∈ X.ex, b ∉ X.fs
  funs : X.s₀.heap.FunFrames X.base X.outer
  frf : ∀ b ∈ X.fs, X.H₀ b = none

structure Inv (X : Cx) (pins : List (Addr × Obj)) (σ : List (Option V)) (H : Hp) (s : Shared) : Prop where
  ok : X.Ok
  os : s.os = X.s₀.os
  bare : AllBare s.gens
  base : Un X.fs X.ex X.H₀ H X.s₀.heap s.heap
  loc : ∃ m, s.heap.Ns X.env.locals m ∧ ∀ (i : Nat) (x : Str) (v : V), X.N[i]? = some x → σ[i]? = some (some v) → Vis X.env.scope x → ∃ u, RelV v u ∧ Look X.env s.heap m x u
  cell : ∀ x c, X.env.cells.lookup x = some c → ∃ v, s.heap.IsCell c v
  free : H X.env.locals = none
  freeC : ∀ x c, X.env.cells.lookup x = some c → H c = none
  pin : ∀ p ∈ X.pn ++ pins, s.heap.get? p.1 = some p.2 ∧ H p.1 = none ∧ p.1 ≠ X.env.locals ∧ p.1 ∉ X.fs ∧ ∀ v, p.2.data ≠ .cell v
  hok : HOk X.prog X.w H s.heap
  len : σ.length = X.N.length

section
variable {X : Cx} {pins : List (Addr × Obj)} {σ : List (Option V)} {H H' : Hp} {s : Shared} {h' : Heap}

theorem Cx.Ok.nofr (ok : X.Ok) {b : Addr} {o : Obj} (e : X.base.get? b = some o) : b ∉ X.fs := fun hb => by
  have := (ok.funs.mem hb).1
  rw [e] at this; cases this
theorem Inv.bs (I : Inv X pins σ H s) : ∀ b o, X.base.get? b = some o → s.heap.get? b = some o ∧ H b = none := fun b o e =>
  ⟨I.base.keep b o (I.ok.bs b o e).1 (I.ok.bs b o e).2 (I.ok.nofr e) (I.ok.noex b o e), I.base.free b o (I.ok.bs b o e).1 (I.ok.bs b o e).2 (I.ok.noex b o e)⟩
theorem Inv.bk (I : Inv X pins σ H s) : ∀ b o, X.base.get? b = some o → s.heap.get? b = some o := fun b o e => (I.bs b o e).1
theorem Inv.mod (I : Inv X pins σ H s) : Mod X.K X.mg X.base := I.ok.mod
theorem Inv.kIn (I : Inv X pins σ H s) : X.K.In s.heap := I.ok.mod.kin.keeps I.bk
theorem Inv.nolimit (I : Inv X pins σ H s) : s.heap.NoLimit := I.ok.mod.nolimit.keeps I.bk
/-- the frame over the base: for OpenK's rules (K.In X.base is I.mod.kin) -/
theorem Inv.fr (I : Inv X pins σ H s) : ∃ m, Fr X.base X.env.locals s.heap m :=
  let ⟨m, hn, _⟩ := I.loc
  ⟨m, hn, I.bk, Nat.le_trans I.ok.bsz I.ok.above⟩
theorem Inv.lt (I : Inv X pins σ H s) : X.env.locals < s.heap.objs.size := let ⟨_, hn, _⟩ := I.loc; hn.lt
theorem Inv.sz (I : Inv X pins σ H s) : X.s₀.heap.objs.size ≤ s.heap.objs.size := Nat.le_trans I.ok.above (Nat.le_of_lt I.lt)
theorem Inv.nofs (I : Inv X pins σ H s) {a : Addr} (h : s.heap.objs.size ≤ a) : a ∉ X.fs := fun hb => by
  obtain ⟨_, o, ho, _⟩ := I.ok.funs.mem hb
  exact absurd (Nat.lt_of_lt_of_le (Heap.lt_size ho) (Nat.le_trans I.sz h)) (Nat.lt_irrefl _)
theorem Inv.cne (I : Inv X pins σ H s) : ∀ x c, X.env.cells.lookup x = some c → c ≠ X.env.locals := fun x c e z => by
  obtain ⟨v, o, ho, hd⟩ := I.cell x c e
  obtain ⟨m, ⟨o', es, ep, ho', hd', _⟩, _⟩ := I.loc
  rw [z, ho'] at ho; cases ho; rw [hd'] at hd; cases hd
theorem Inv.funs (I : Inv X pins σ H s) : s.heap.FunFrames X.base X.outer := by
  have all : ∀ (l : List Env), (∀ b ∈ frs l, b ∈ X.fs) → X.s₀.heap.FunFrames X.base l → s.heap.FunFrames X.base l := by
    intro l
    induction l with
    | nil => intro _ _; trivial
    | cons env r ih =>
      intro hs hl
      obtain ⟨hk, ⟨L, o, hf, hn, ho, hd⟩, hr⟩ := hl
      have hL : L ∈ X.fs := hs L (by unfold frs; rw [List.filterMap_cons, hf]; exact List.mem_cons_self)
      obtain ⟨sl, e⟩ := I.base.slot L o ho (I.ok.frf L hL) hL fun z => I.ok.exfs L z hL
      exact ⟨hk, ⟨L, _, hf, hn, e, hd⟩, ih (fun b hb => hs b (by unfold frs; rw [List.filterMap_cons, hf]; exact List.mem_cons_of_mem _ hb)) hr⟩
  exact all X.outer (fun _ hb => hb) I.ok.funs

/-- the frames that run, for a call -/
theorem Inv.stack (I : Inv X pins σ H s) : s.heap.FunFrames X.base X.stack := by
  rcases I.ok.stk with e | ⟨e, hf⟩
  · rw [e]; exact I.funs
  · rw [e]
    obtain ⟨m, hn, _⟩ := I.loc
    refine .cons (by rw [I.ok.kind]; decide) hf hn ?_ I.funs
    exact Heap.get?_none_of_le (Nat.le_trans I.ok.bsz I.ok.above)
theorem Inv.stkSub (I : Inv X pins σ H s) : ∀ b ∈ frs X.stack, b ∈ X.env.locals :: X.fs := fun b hb => by
  rcases I.ok.stk with e | ⟨e, hf⟩
  · rw [e] at hb; exact List.mem_cons_of_mem _ hb
  · rw [e] at hb
    unfold frs at hb
    rw [List.filterMap_cons, hf] at hb
    exact hb
theorem Inv.stkFree (I : Inv X pins σ H s) : ∀ b ∈ frs X.stack, H b = none := fun b hb => by
  rcases List.mem_cons.mp (I.stkSub b hb) with e | hb
  · rw [e]; exact I.free
  · obtain ⟨_, o, ho, _⟩ := I.ok.funs.mem hb
    exact I.base.free b o ho (I.ok.frf b hb) fun z => I.ok.exfs b z hb

/-- THE STEP: the untracked objects but the frame and the records at ch are kept (the callers' frames up to slots), the frame's map is kept, the new abstract heap is held -/
theorem Inv.step {g' : Array GenState} {t' : Nat} {d' : Drawn} {ch : List Addr} (I : Inv X pins σ H s)
    (hch : ∀ b ∈ ch, (b ∈ X.ex ∨ X.s₀.heap.objs.size ≤ b) ∧ b ≠ X.env.locals ∧ (∀ x c, X.env.cells.lookup x = some c → c ≠ b) ∧ ∀ p ∈ X.pn ++ pins, p.1 ≠ b)
    (keep : ∀ b o, b ≠ X.env.locals → b ∉ X.fs → b ∉ ch → s.heap.get? b = some o → H b = none → h'.get? b = some o)
    (slot : ∀ b o, b ≠ X.env.locals → b ∈ X.fs → b ∉ ch → s.heap.get? b = some o → H b = none → ∃ sl, h'.get? b = some { o with slots := sl }) (free : ∀ b o, b ∉ ch → s.heap.get? b = some o → H b = none → H' b = none)
    (there : ∀ b o, b ∉ ch → s.heap.get? b = some o → ∃ o', h'.get? b = some o')
    (tups : ∀ b xs, H b = some (.tup xs) → H' b = some (.tup xs)) (frzs : ∀ b o u, H b = some (.frz o u) → H' b = some (.frz o u)) (tbls : ∀ b ps, H b = some (.tbl ps) → ∃ more, H' b = some (.tbl (ps ++ more)))
    (ns : ∀ m, s.heap.Ns X.env.locals m → h'.Ns X.env.locals m) (hok : HOk X.prog X.w H' h') (hg : AllBare g') :
    Inv X pins σ H' { s with heap := h', gens := g', drawn := d', toks := t' } := by
  have neL : ∀ b o, X.s₀.heap.get? b = some o → b ≠ X.env.locals := fun b o e => Nat.ne_of_lt (Nat.lt_of_lt_of_le (Heap.lt_size e) I.ok.above)
  have neC : ∀ b o, X.s₀.heap.get? b = some o → b ∉ X.ex → b ∉ ch := fun b o e hx hb => by
    rcases (hch b hb).1 with z | z
    · exact hx z
    · exact absurd (Nat.lt_of_lt_of_le (Heap.lt_size e) z) (Nat.lt_irrefl _)
  have cellK : ∀ x c, X.env.cells.lookup x = some c → ∀ v, s.heap.IsCell c v → h'.IsCell c v := fun x c e v ⟨o, ho, hd⟩ => by
    have nch : c ∉ ch := fun z => (hch c z).2.2.1 x c e rfl
    by_cases hc : c ∈ X.fs
    · obtain ⟨sl, q⟩ := slot c o (I.cne x c e) hc nch ho (I.freeC x c e)
      exact ⟨_, q, hd⟩
    · exact ⟨o, keep c o (I.cne x c e) hc nch ho (I.freeC x c e), hd⟩
  refine ⟨I.ok, I.os, hg, ⟨fun b o e n hb hx => ?_, fun b o e n hb hx => ?_, fun b o e n hx => ?_, fun b o e hx => ?_, fun b xs e => tups b xs (I.base.tups b xs e), fun b o xs e => frzs b o xs (I.base.frzs b o xs e), fun b ps e => ?_⟩, ?_, fun x c e => ?_, ?_, fun x c e => ?_, fun p hp => ?_, hok, I.len⟩
  · exact keep b o (neL b o e) hb (neC b o e hx) (I.base.keep b o e n hb hx) (I.base.free b o e n hx)
  · obtain ⟨sl, e1⟩ := I.base.slot b o e n hb hx
    obtain ⟨sl', e2⟩ := slot b _ (neL b o e) hb (neC b o e hx) e1 (I.base.free b o e n hx)
    exact ⟨sl', e2⟩
  · obtain ⟨o', e1⟩ := I.base.there b o e hx
    exact free b o' (neC b o e hx) e1 (I.base.free b o e n hx)
  · obtain ⟨o', e1⟩ := I.base.there b o e hx
    exact there b o' (neC b o e hx) e1
  · obtain ⟨m1, e1⟩ := I.base.tbls b ps e
    obtain ⟨m2, e2⟩ := tbls b _ e1
    exact ⟨m1 ++ m2, by rw [e2, Array.append_assoc]⟩
  · obtain ⟨m, hn, hl⟩ := I.loc
    refine ⟨m, ns m hn, fun i x v e1 e2 e3 => ?_⟩
    obtain ⟨u, r, l⟩ := hl i x v e1 e2 e3
    refine ⟨u, r, ?_⟩
    rcases l with l | ⟨k, c, e, z⟩
    · exact .inl l
    · exact .inr ⟨k, c, e, cellK x c e _ z⟩
  · obtain ⟨v, z⟩ := I.cell x c e
    exact ⟨v, cellK x c e v z⟩
  · obtain ⟨m, ⟨o, _, _, ho, _⟩, _⟩ := I.loc
    exact free _ o (fun z => (hch _ z).2.1 rfl) ho I.free
  · obtain ⟨v, o, ho, hd⟩ := I.cell x c e
    exact free c o (fun z => (hch c z).2.2.1 x c e rfl) ho (I.freeC x c e)
  · obtain ⟨e, n, ne, nf, d⟩ := I.pin p hp
    have nch : p.1 ∉ ch := fun z => (hch p.1 z).2.2.2 p hp rfl
    exact ⟨keep p.1 p.2 ne nf nch e n, free p.1 p.2 nch e n, ne, nf, d⟩
/-- .. where the frame's own object is kept too -/
theorem Inv.un {t' : Nat} (I : Inv X pins σ H s) (u : Un X.fs [] H H' s.heap h') (hok : HOk X.prog X.w H' h') : Inv X pins σ H' { s with heap := h', toks := t' } := by
  obtain ⟨m, ⟨o, es, ep, ho, r⟩, _⟩ := id I.loc
  obtain ⟨sl, hL⟩ := u.any ho I.free (by simp)
  exact I.step (g' := s.gens) (d' := s.drawn) (ch := []) (fun _ z => nomatch z) (fun b o _ hb _ e n => u.keep b o e n hb (by simp)) (fun b o _ hb _ e n => u.slot b o e n hb (by simp)) (fun b o _ e n => u.free b o e n (by simp)) (fun b o _ e => u.there b o e (by simp)) u.tups u.frzs u.tbls (fun m' hm => by
    obtain ⟨o', es', ep', ho', r'⟩ := hm
    rw [ho] at ho'; cases ho'
    exact ⟨_, es', ep', hL, r'⟩) hok I.bare
/-- behind a call (or a comprehension's block): the slots of this frame may have changed too, the records at ch may have turned -/
theorem Inv.call {g' : Array GenState} {t' : Nat} {d' : Drawn} {ch : List Addr} (I : Inv X pins σ H s) (u : Un (frs X.stack) ch H H' s.heap h') (hok : HOk X.prog X.w H' h') (hg : AllBare g')
    (hch : ∀ b ∈ ch, (b ∈ X.ex ∨ X.s₀.heap.objs.size ≤ b) ∧ b ≠ X.env.locals ∧ (∀ x c, X.env.cells.lookup x = some c → c ≠ b) ∧ ∀ p ∈ X.pn ++ pins, p.1 ≠ b) :
    Inv X pins σ H' { s with heap := h', gens := g', drawn := d', toks := t' } := by
  obtain ⟨m, ⟨o, es, ep, ho, r⟩, _⟩ := id I.loc
  obtain ⟨sl, hL⟩ := u.any ho I.free fun z => (hch _ z).2.1 rfl
  exact I.step (ch := ch) hch (fun b o hL hb hc e n => u.keep b o e n (fun z => (List.mem_cons.mp (I.stkSub b z)).elim hL hb) hc) (fun b o _ _ hc e n => u.any e n hc) (fun b o hc e n => u.free b o e n hc) (fun b o hc e => u.there b o e hc) u.tups u.frzs u.tbls (fun m' hm => by
    obtain ⟨o', es', ep', ho', r'⟩ := hm
    rw [ho] at ho'; cases ho'
    exact ⟨_, es', ep', hL, r'⟩) hok hg
/-- an untracked record of ours (an iterator) has turned -/
theorem Inv.turned {t' : Nat} {it : Addr} (I : Inv X pins σ H s) (k : ∀ b o, b ≠ it → s.heap.get? b = some o → h'.get? b = some o) (hn : H it = none) (hL : it ≠ X.env.locals)
    (h1 : it ∈ X.ex ∨ X.s₀.heap.objs.size ≤ it) (h2 : ∀ x c, X.env.cells.lookup x = some c → c ≠ it) (h3 : ∀ p ∈ X.pn ++ pins, p.1 ≠ it) : Inv X pins σ H { s with heap := h', toks := t' } := by
  have nit : ∀ b u, H b = some u → b ≠ it := fun b u e z => by rw [z, hn] at e; cases e
  refine I.step (g' := s.gens) (d' := s.drawn) (ch := [it]) (fun b hb => ?_) (fun b o _ _ hc e _ => k b o (fun z => hc (by simp [z])) e) (fun b o _ _ hc e _ => ⟨o.slots, k b o (fun z => hc (by simp [z])) e⟩) (fun _ _ _ _ n => n)
    (fun b o hc e => ⟨o, k b o (fun z => hc (by simp [z])) e⟩) (fun _ _ e => e) (fun _ _ _ e => e) (fun b ps e => ⟨#[], by rw [e]; simp⟩) (fun m hm => ?_) (fun b u e => ?_) I.bare
  · have e : b = it := by simpa using hb
    subst e
    exact ⟨h1, hL, h2, h3⟩
  · obtain ⟨o, es, ep, ho, r⟩ := hm
    exact ⟨o, es, ep, k _ o (Ne.symm hL) ho, r⟩
  · refine (I.hok b u e).stay (fun c v hc q => k c v ?_ q) (fun _ q => q) fun _ _ q => q
    rcases hc with z | z
    · rw [z]; exact nit b u e
    · exact nit c _ z
theorem Inv.tok (I : Inv X pins σ H s) (t : Nat) : Inv X pins σ H { s with toks := t } := I.un (h' := s.heap) (t' := t) Un.refl I.hok
/-- all objects kept -/
theorem Inv.kept {t' : Nat} (I : Inv X pins σ H s) (k : ∀ b u, s.heap.get? b = some u → h'.get? b = some u) : Inv X pins σ H { s with heap := h', toks := t' } := I.un (Un.kept k) (I.hok.kept k)
/-- a new object laid and tracked -/
theorem Inv.laid {a : Addr} {o : HO} {t' : Nat} (I : Inv X pins σ H s) (k : ∀ b u, s.heap.get? b = some u → h'.get? b = some u) (hp : s.heap.objs.size ≤ a) (new : ObjOk X.prog X.w (upd H a o) h' a o) :
    Inv X pins σ (upd H a o) { s with heap := h', toks := t' } := I.un (Un.laid k hp (I.hok.fresh hp)) (I.hok.laid k hp new)
/-- an object written -/
theorem Inv.write {x e : Addr} {o : HO} {t' : Nat} (I : Inv X pins σ H s) (mu : Mut (H x)) (he : e = x ∨ H e = some (.own x)) (k : ∀ b u, b ≠ e → s.heap.get? b = some u → h'.get? b = some u) (heo : ∃ u, h'.get? e = some u)
    (new : ObjOk X.prog X.w (upd H x o) h' x o) : Inv X pins σ (upd H x o) { s with heap := h', toks := t' } := I.un (Un.write mu he k heo) (I.hok.write mu he k heo new)
/-- forgetting slots, pins -/
theorem Inv.weak {σ' : List (Option V)} (I : Inv X pins σ H s) (hl : σ'.length = σ.length) (w : ∀ (i : Nat) v, σ'[i]? = some (some v) → σ[i]? = some (some v)) : Inv X pins σ' H s :=
  ⟨I.ok, I.os, I.bare, I.base, let ⟨m, hn, hl'⟩ := I.loc; ⟨m, hn, fun i x v e1 e2 e3 => hl' i x v e1 (w i v e2) e3⟩, I.cell, I.free, I.freeC, I.pin, I.hok, hl.trans I.len⟩
theorem Inv.pins_of {pins' : List (Addr × Obj)} (I : Inv X pins σ H s) (h : ∀ p ∈ pins', s.heap.get? p.1 = some p.2 ∧ H p.1 = none ∧ p.1 ≠ X.env.locals ∧ p.1 ∉ X.fs ∧ ∀ v, p.2.data ≠ .cell v) : Inv X pins' σ H s :=
  ⟨I.ok, I.os, I.bare, I.base, I.loc, I.cell, I.free, I.freeC, fun p hp => (List.mem_append.mp hp).elim (fun z => I.pin p (List.mem_append_left _ z)) (h p), I.hok, I.len⟩

theorem nodup_ix {N : List Str} (hN : N.Nodup) {i j : Nat} {x : Str} (a : N[i]? = some x) (b : N[j]? = some x) : i = j := by
  obtain ⟨h1, e1⟩ := List.getElem?_eq_some_iff.mp a
  obtain ⟨h2, e2⟩ := List.getElem?_eq_some_iff.mp b
  exact (List.getElem_inj hN).mp (e1.trans e2.symm)

/-- a name is stored; what changed -/
theorem store_ok2 {M : Model} {A : Around} {E : Value → Shared → Prop} {i : Nat} {x : Str} {v : V} {u : Value} {Q : Unit → Shared → Prop} (I : Inv X pins σ H s) (hN : X.N.Nodup) (hi : X.N[i]? = some x) (hx : Loc X.env.scope x) (r : RelV v u)
    (h : ∀ s', Inv X pins (σ.set i (some v)) H s' → (∃ a, Heap.SameBut a s.heap s'.heap ∧ (a = X.env.locals ∨ X.env.cells.lookup x = some a)) → Q () s') (hf : X.fn x = true ∨ X.env.scope.names.lookup x = some .local := by first | exact .inl rfl | exact .inr rfl | assumption) : wpAny M A (storeName X.env x u) Q E s := by
  obtain ⟨m, hn, hl⟩ := id I.loc
  have hcls : (X.env.scope.kind == .class || (X.env.scope.kind == .module && X.env.locals != X.env.globals)) = false := by rw [I.ok.kind]; rfl
  have hiσ : i < σ.length := by rw [I.len]; exact (List.getElem?_eq_some_iff.mp hi).1
  have cne := I.cne
  have tracked : ∀ {a : Addr} {h' : Heap}, (∃ o, s.heap.get? a = some o ∧ H a = none) → Heap.SameBut a s.heap h' → HOk X.prog X.w H h' := fun {a h'} ha hs b ob e => by
    obtain ⟨_, _, hfree⟩ := ha
    refine (I.hok b ob e).stay (fun c w' hc q => (hs.2 c ?_).trans q) (fun _ q => q) fun _ _ q => q
    rintro rfl
    rcases hc with rfl | hc
    · rw [hfree] at e; cases e
    · rw [hfree] at hc; cases hc
  rcases hx with hk | hk
  · refine wpAny_storeName_local hk hn (fun h' hn' hs => ?_) hcls
    obtain ⟨oL, _, _, hoL, _⟩ := id hn
    refine h _ ⟨I.ok, I.os, I.bare, ⟨fun b o e n hb hx => ?_, fun b o e n hb hx => ?_, I.base.free, fun b o e hx => ?_, I.base.tups, I.base.frzs, I.base.tbls⟩, ⟨_, hn', fun j y v' e1 e2 e3 => ?_⟩, fun y c e => ?_, I.free, I.freeC, fun p hp => ?_, tracked ⟨oL, hoL, I.free⟩ hs, by simpa using I.len⟩ ⟨_, hs, .inl rfl⟩
    · exact (hs.2 b (Nat.ne_of_lt (Nat.lt_of_lt_of_le (Heap.lt_size e) I.ok.above))).trans (I.base.keep b o e n hb hx)
    · obtain ⟨sl, e1⟩ := I.base.slot b o e n hb hx
      exact ⟨sl, (hs.2 b (Nat.ne_of_lt (Nat.lt_of_lt_of_le (Heap.lt_size e) I.ok.above))).trans e1⟩
    · obtain ⟨o', e1⟩ := I.base.there b o e hx
      exact ⟨o', (hs.2 b (Nat.ne_of_lt (Nat.lt_of_lt_of_le (Heap.lt_size e) I.ok.above))).trans e1⟩
    · by_cases hj : j = i
      · subst hj
        rw [hi] at e1; cases e1
        rw [List.getElem?_set_self hiσ] at e2
        cases e2
        exact ⟨u, r, .inl ⟨hk, by simp⟩⟩
      · rw [List.getElem?_set_ne (Ne.symm hj)] at e2
        obtain ⟨u', r', q⟩ := hl j y v' e1 e2 e3
        refine ⟨u', r', ?_⟩
        rcases q with ⟨k, e⟩ | ⟨k, c, e, z⟩
        · refine .inl ⟨k, ?_⟩
          have : y ≠ x := fun e => hj (nodup_ix hN e1 (e ▸ hi))
          simp [this, e]
        · exact .inr ⟨k, c, e, z.sameBut hs (cne y c e)⟩
    · obtain ⟨w', z⟩ := I.cell y c e
      exact ⟨w', z.sameBut hs (cne y c e)⟩
    · obtain ⟨e, n, ne, nf, d⟩ := I.pin p hp
      exact ⟨(hs.2 p.1 ne).trans e, n, ne, nf, d⟩
  · have hfn : X.fn x = true := by
      rcases hf with z | z
      · exact z
      · rw [z] at hk; cases hk
    obtain ⟨c, hc⟩ := I.ok.has x (.inl hk)
    obtain ⟨w', z⟩ := I.cell x c hc
    refine wpAny_storeName_cell I.ok.kind hk hc z (fun h' hc' hs => ?_)
    obtain ⟨oc, hoc, hocd⟩ := id z
    refine h { s with heap := h' } ⟨I.ok, I.os, I.bare, ⟨fun b o e n hb hx => ?_, fun b o e n hb hx => ?_, I.base.free, fun b o e hx => ?_, I.base.tups, I.base.frzs, I.base.tbls⟩, ⟨m, hn.sameBut hs (Ne.symm (cne x c hc)), fun j y v' e1 e2 e3 => ?_⟩, fun y c' e => ?_, I.free, I.freeC, fun p hp => ?_, tracked ⟨oc, hoc, I.freeC x c hc⟩ hs, by simpa using I.len⟩ ⟨c, hs, .inr hc⟩
    · exact (hs.2 b (Nat.ne_of_lt (Nat.lt_of_lt_of_le (Heap.lt_size e) (I.ok.cab x c hfn hc)))).trans (I.base.keep b o e n hb hx)
    · obtain ⟨sl, e1⟩ := I.base.slot b o e n hb hx
      exact ⟨sl, (hs.2 b (Nat.ne_of_lt (Nat.lt_of_lt_of_le (Heap.lt_size e) (I.ok.cab x c hfn hc)))).trans e1⟩
    · obtain ⟨o', e1⟩ := I.base.there b o e hx
      exact ⟨o', (hs.2 b (Nat.ne_of_lt (Nat.lt_of_lt_of_le (Heap.lt_size e) (I.ok.cab x c hfn hc)))).trans e1⟩
    · by_cases hj : j = i
      · subst hj
        rw [hi] at e1; cases e1
        rw [List.getElem?_set_self hiσ] at e2
        cases e2
        exact ⟨u, r, .inr ⟨.inl hk, c, hc, hc'⟩⟩
      · rw [List.getElem?_set_ne (Ne.symm hj)] at e2
        obtain ⟨u', r', q⟩ := hl j y v' e1 e2 e3
        refine ⟨u', r', ?_⟩
        rcases q with q | ⟨k, c', e, z'⟩
        · exact .inl q
        · refine .inr ⟨k, c', e, z'.sameBut hs ?_⟩
          rintro rfl
          exact hj (nodup_ix hN e1 (I.ok.inj _ _ _ e hc ▸ hi))
    · by_cases hcc : c' = c
      · subst hcc; exact ⟨_, hc'⟩
      · obtain ⟨w2, z2⟩ := I.cell y c' e
        exact ⟨w2, z2.sameBut hs hcc⟩
    · obtain ⟨e, n, ne, nf, d⟩ := I.pin p hp
      refine ⟨(hs.2 p.1 ?_).trans e, n, ne, nf, d⟩
      intro q
      rw [q, hoc] at e
      have q' : oc = p.2 := Option.some.inj e
      exact d w' (by rw [← q']; exact hocd)
theorem store_ok {M : Model} {A : Around} {E : Value → Shared → Prop} {i : Nat} {x : Str} {v : V} {u : Value} {Q : Unit → Shared → Prop} (I : Inv X pins σ H s) (hN : X.N.Nodup) (hi : X.N[i]? = some x) (hx : Loc X.env.scope x) (r : RelV v u)
    (h : ∀ s', Inv X pins (σ.set i (some v)) H s' → Q () s') (hf : X.fn x = true ∨ X.env.scope.names.lookup x = some .local := by first | exact .inl rfl | exact .inr rfl | assumption) : wpAny M A (storeName X.env x u) Q E s :=
  store_ok2 I hN hi hx r (fun s' I' _ => h s' I') hf
/-- behind a call or a block, the state as it is -/
theorem Inv.call' {s' : Shared} {ch : List Addr} (I : Inv X pins σ H s) (ho : s'.os = s.os) (u : Un (frs X.stack) ch H H' s.heap s'.heap) (hok : HOk X.prog X.w H' s'.heap) (hg : AllBare s'.gens)
    (hch : ∀ b ∈ ch, (b ∈ X.ex ∨ X.s₀.heap.objs.size ≤ b) ∧ b ≠ X.env.locals ∧ (∀ x c, X.env.cells.lookup x = some c → c ≠ b) ∧ ∀ p ∈ X.pn ++ pins, p.1 ≠ b) : Inv X pins σ H' s' := by
  obtain ⟨h', g', d', t', o'⟩ := s'
  have e : o' = s.os := ho
  subst e
  exact I.call (g' := g') (t' := t') (d' := d') u hok hg hch
end

/-! ### the judgements -/
/-- an exception: its class, its own dict's address (where it has one), the abstract heap behind it -/
abbrev XK := Value → Option Addr → Hp → Prop
abbrev St := List (Option V)
abbrev VK := V → Hp → Prop
/-- an expression's reading; a test's; an argument list's -/
abbrev TE := St → Hp → VK → Prop
abbrev TT := St → Hp → (Bool → Hp → Prop) → Prop
abbrev TA := St → Hp → (List V → Hp → Prop) → Prop
/-- what is wanted behind a statement -/
structure Ends where
  nx : St → Hp → Prop
  rt : VK
  bk : St → Hp → Prop := fun _ _ => False
  ct : St → Hp → Prop := fun _ _ => False
abbrev TS := Ends → St → Hp → Prop

def EP (X : Cx) (pins : List (Addr × Obj)) (σ : St) (Q : VK) (u : Value) (s' : Shared) : Prop := ∃ v H', Inv X pins σ H' s' ∧ RelV v u ∧ Q v H'
def TP (X : Cx) (pins : List (Addr × Obj)) (σ : St) (Q : Bool → Hp → Prop) (b : Bool) (s' : Shared) : Prop := ∃ H', Inv X pins σ H' s' ∧ Q b H'
def AP (X : Cx) (pins : List (Addr × Obj)) (σ : St) (Q : List V → Hp → Prop) (us : List Value) (s' : Shared) : Prop := ∃ vs H', Inv X pins σ H' s' ∧ Vals vs us ∧ Q vs H'
def SP (X : Cx) (pins : List (Addr × Obj)) (D : Ends) (f : Flow) (s' : Shared) : Prop :=
  match f with
  | .next => ∃ σ' H', Inv X pins σ' H' s' ∧ D.nx σ' H'
  | .brk => ∃ σ' H', Inv X pins σ' H' s' ∧ D.bk σ' H'
  | .cont => ∃ σ' H', Inv X pins σ' H' s' ∧ D.ct σ' H'
  | .ret u => ∃ v σ' H', Inv X pins σ' H' s' ∧ RelV v u ∧ D.rt v H'

def PE (X : Cx) (e : Expr) (t : TE) : Prop :=
  ∀ (pins : List (Addr × Obj)) (s : Shared) (σ : St) (H : Hp) (Q : VK), Inv X pins σ H s → t σ H Q → wpAny (model X.prog X.w) X.A (eval e X.env) (EP X pins σ Q) X.xe s
def PT (X : Cx) (e : Expr) (t : TT) : Prop :=
  ∀ (pins : List (Addr × Obj)) (s : Shared) (σ : St) (H : Hp) (Q : Bool → Hp → Prop), Inv X pins σ H s → t σ H Q → wpAny (model X.prog X.w) X.A (isTrue e X.env (eval e X.env)) (TP X pins σ Q) X.xe s
/-- a test whatever its 'whole' is (and, or) -/
def PW (X : Cx) (e : Expr) (t : TT) : Prop :=
  ∀ (whole : Sem Value) (pins : List (Addr × Obj)) (s : Shared) (σ : St) (H : Hp) (Q : Bool → Hp → Prop), Inv X pins σ H s → t σ H Q → wpAny (model X.prog X.w) X.A (isTrue e X.env whole) (TP X pins σ Q) X.xe s
theorem PW.pt {X : Cx} {e : Expr} {t : TT} (h : PW X e t) : PT X e t := h _
/-- an argument list (no star), from the left -/
def PA (X : Cx) (es : List Expr) (t : TA) : Prop :=
  ∀ (pos : Pos) (pins : List (Addr × Obj)) (s : Shared) (σ : St) (H : Hp) (Q : List V → Hp → Prop), Inv X pins σ H s → t σ H Q → wpAny (model X.prog X.w) X.A (spliced (backTo pos (starEach es X.env))) (AP X pins σ Q) X.xe s
def PS (X : Cx) (st : Stmt) (t : TS) : Prop :=
  ∀ (pins : List (Addr × Obj)) (s : Shared) (σ : St) (H : Hp) (D : Ends), Inv X pins σ H s → t D σ H → wpAny (model X.prog X.w) X.A (exec st X.env) (SP X pins D) X.xe s
def PSs (X : Cx) (st : List Stmt) (t : TS) : Prop :=
  ∀ (pins : List (Addr × Obj)) (s : Shared) (σ : St) (H : Hp) (D : Ends), Inv X pins σ H s → t D σ H → wpAny (model X.prog X.w) X.A (execs st X.env) (SP X pins D) X.xe s
/-- weaken the end -/
theorem thn {α : Type} {t : Sem α} {Q Q' : α → Shared → Prop} {M : Model} {A : Around} {E : Value → Shared → Prop} {s : Shared} (h : wpAny M A t Q E s) (hQ : ∀ a s, Q a s → Q' a s) : wpAny M A t Q' E s := wpAny_mono h hQ fun _ _ x => x
end L2

namespace L2
open PySem PySem.Spec PyProof.Rows
section
variable {X : Cx}

/-- two expressions in a row -/
theorem bin {a b : Expr} {ta tb : TE} (ha : PE X a ta) (hb : PE X b tb) {pins : List (Addr × Obj)} {s : Shared} {σ : St} {H : Hp} {R : V → V → Hp → Prop} (I : Inv X pins σ H s) (h : ta σ H fun x H1 => tb σ H1 fun y H2 => R x y H2)
    {α : Type} {Q : α → Shared → Prop} {f : Value → Value → Sem α}
    (hf : ∀ v u s2 x y H2, Inv X pins σ H2 s2 → RelV x v → RelV y u → R x y H2 → wpAny (model X.prog X.w) X.A (f v u) Q X.xe s2) :
    wpAny (model X.prog X.w) X.A (eval a X.env) (fun v s₁ => wpAny (model X.prog X.w) X.A (eval b X.env) (fun u s₂ => wpAny (model X.prog X.w) X.A (f v u) Q X.xe s₂) X.xe s₁) X.xe s := by
  refine thn (ha pins s σ H _ I h) fun v s1 ⟨x, H1, I1, r1, q1⟩ => ?_
  refine thn (hb pins s1 σ H1 _ I1 q1) fun u s2 ⟨y, H2, I2, r2, q2⟩ => ?_
  exact hf v u s2 x y H2 I2 r1 r2 q2

/-! ### names and constants -/
def tVar (i : Nat) : TE := fun σ H Q => ∃ v, σ[i]? = some (some v) ∧ Q v H
def tC (v : V) : TE := fun _ H Q => Q v H
theorem pe_var {i : Nat} {x : Str} {pos : Pos} (hN : X.N[i]? = some x) (hv : Vis X.env.scope x) (hd : (x == ("__debug__" : Str)) = false := by decide) (hcd : (x == ("__classdict__" : Str)) = false := by decide) : PE X (.Name x pos) (tVar i) := by
  intro pins s σ H Q I h
  obtain ⟨v, e, h⟩ := h
  obtain ⟨m, hn, hl⟩ := I.loc
  obtain ⟨u, r, l⟩ := hl i x v hN e hv
  have fin : EP X pins σ Q u s := ⟨v, H, I, r, h⟩
  rcases l with ⟨hk, hm⟩ | ⟨hk, c, hc, hcell⟩
  · exact wpAny_Name (wpAny_loadName_local I.ok.kind hk hn hm fin) hd
  · rcases hk with hk | hk
    · exact wpAny_Name (wpAny_loadName_cell I.ok.kind hk hc hcell fin) hd
    · exact wpAny_Name (wpAny_loadName_free I.ok.kind hk hc hcell fin hcd) hd
theorem pe_int {i j pos} : PE X (.Constant (.int i) j pos) (tC (.int i)) := fun _ _ _ H _ I h => wpAny_Constant_int ⟨.int i, H, I.tok _, ⟨_, rfl⟩, h⟩
theorem pe_bl {b j pos} : PE X (.Constant (.bool b) j pos) (tC (.bl b)) := fun _ _ _ H _ I h => Constant_bool ⟨.bl b, H, I, rfl, h⟩
theorem pe_non {j pos} : PE X (.Constant .none j pos) (tC .non) := fun _ _ _ H _ I h => Constant_none ⟨.non, H, I, rfl, h⟩
theorem pe_str {x j pos} : PE X (.Constant (.str x) j pos) (tC (.str x)) := fun _ _ _ H _ I h => Calls.Constant_str ⟨.str x, H, I.tok _, ⟨_, rfl⟩, h⟩

/-- a global name of the def -/
def Gl (X : Cx) (x : Str) : Prop := X.env.kindOf x = some .globalImplicit
theorem ld_glob {E : Value → Shared → Prop} {pins : List (Addr × Obj)} {s : Shared} {σ : St} {H : Hp} {x : Str} {u : Value} {pos : Pos} {Q : Value → Shared → Prop} (I : Inv X pins σ H s) (hg : Gl X x) (hm : X.mg x = some u) (h : Q u s)
    (hd : (x == ("__debug__" : Str)) = false := by decide) : wpAny (model X.prog X.w) X.A (eval (.Name x pos) X.env) Q E s :=
  Calls.Name_function_global I.ok.kind hg (Calls.loadGlobal_global (by rw [I.ok.glob]; exact I.mod.glob.keeps I.bk) hm h) hd
theorem ld_blt {E : Value → Shared → Prop} {pins : List (Addr × Obj)} {s : Shared} {σ : St} {H : Hp} {x : Str} {u : Value} {pos : Pos} {Q : Value → Shared → Prop} (I : Inv X pins σ H s) (hg : Gl X x) (hm : X.mg x = none) (hv : bootBuiltins x = some u) (h : Q u s)
    (hn : x ≠ "__name__" := by decide) (hd : (x == ("__debug__" : Str)) = false := by decide) : wpAny (model X.prog X.w) X.A (eval (.Name x pos) X.env) Q E s := by
  obtain ⟨mb, h1, h2⟩ := I.mod.blt
  exact Calls.Name_function_global I.ok.kind hg (Calls.loadGlobal_builtin (by rw [I.ok.glob]; exact I.mod.glob.keeps I.bk) hm (by rw [I.ok.blt]; exact h1.keeps I.bk) ((h2 x hn).trans hv) h) hd
/-- a module's constant, a class, a function, as a value -/
theorem pe_glob {x : Str} {v : V} {u : Value} {pos : Pos} (hg : Gl X x) (hm : X.mg x = some u) (r : RelV v u) (hd : (x == ("__debug__" : Str)) = false := by decide) : PE X (.Name x pos) (tC v) :=
  fun _ _ _ H _ I h => ld_glob I hg hm ⟨v, H, I, r, h⟩ hd
theorem pe_bltn {x : Str} {v : V} {u : Value} {pos : Pos} (hg : Gl X x) (hm : X.mg x = none) (hv : bootBuiltins x = some u) (r : RelV v u) (hn : x ≠ "__name__" := by decide) (hd : (x == ("__debug__" : Str)) = false := by decide) : PE X (.Name x pos) (tC v) :=
  fun _ _ _ H _ I h => ld_blt I hg hm hv ⟨v, H, I, r, h⟩ hn hd

/-! ### arithmetic -/
/-- two ints -/
def t2I (ta tb : TE) (k : Int → Int → Hp → Prop) : St → Hp → Prop := fun σ H => ta σ H fun x H1 => tb σ H1 fun y H2 => ∃ i j, x = .int i ∧ y = .int j ∧ k i j H2
def tAdd (ta tb : TE) : TE := fun σ H Q => t2I ta tb (fun i j H2 => Q (.int (i + j)) H2) σ H
def tSub (ta tb : TE) : TE := fun σ H Q => t2I ta tb (fun i j H2 => Q (.int (i - j)) H2) σ H
/-- the left factor below 2^64 -/
def tMul (ta tb : TE) : TE := fun σ H Q => t2I ta tb (fun i j H2 => (-(2 ^ 64) < i ∧ i < 2 ^ 64) ∧ Q (.int (i * j)) H2) σ H
variable {a b : Expr} {ta tb : TE} {pos : Pos}
theorem pe_add (ha : PE X a ta) (hb : PE X b tb) : PE X (.BinOp a .Add b pos) (tAdd ta tb) := by
  intro pins s σ H Q I h
  refine wpAny_BinOp (bin ha hb I h fun v u s2 x y H2 I2 rx ry q => ?_)
  obtain ⟨i, j, rfl, rfl, q⟩ := q
  obtain ⟨t, rfl⟩ := rx
  obtain ⟨t', rfl⟩ := ry
  exact add_int ⟨.int _, H2, I2.tok _, ⟨_, rfl⟩, q⟩
theorem pe_sub (ha : PE X a ta) (hb : PE X b tb) : PE X (.BinOp a .Sub b pos) (tSub ta tb) := by
  intro pins s σ H Q I h
  refine wpAny_BinOp (bin ha hb I h fun v u s2 x y H2 I2 rx ry q => ?_)
  obtain ⟨i, j, rfl, rfl, q⟩ := q
  obtain ⟨t, rfl⟩ := rx
  obtain ⟨t', rfl⟩ := ry
  exact sub_int ⟨.int _, H2, I2.tok _, ⟨_, rfl⟩, q⟩
theorem pe_mul (ha : PE X a ta) (hb : PE X b tb) : PE X (.BinOp a .Mult b pos) (tMul ta tb) := by
  intro pins s σ H Q I h
  refine wpAny_BinOp (bin ha hb I h fun v u s2 x y H2 I2 rx ry q => ?_)
  obtain ⟨i, j, rfl, rfl, ⟨q1, q2⟩, q⟩ := q
  obtain ⟨t, rfl⟩ := rx
  obtain ⟨t', rfl⟩ := ry
  exact mul_int ⟨.int _, H2, I2.tok _, ⟨_, rfl⟩, q⟩ (.of_left (intBits_le_64 q1 q2))

/-! ### comparisons -/
def PC (X : Cx) (op : CmpOp) (a b : Expr) (t : TE) : Prop :=
  ∀ (pins : List (Addr × Obj)) (s : Shared) (σ : St) (H : Hp) (Q : VK), Inv X pins σ H s → t σ H Q →
    wpAny (model X.prog X.w) X.A (eval a X.env) (fun v s₁ => wpAny (model X.prog X.w) X.A (eval b X.env) (fun u s₂ => wpAny (model X.prog X.w) X.A (compareOp op v u) (EP X pins σ Q) X.xe s₂) X.xe s₁) X.xe s
theorem nobehind (b : Expr) {op : CmpOp} (h : op ≠ .In) (h2 : op ≠ .NotIn) : behindInMarks op b = false := by
  have e1 : (op == CmpOp.In) = false := by cases op <;> first | rfl | exact absurd rfl h
  have e2 : (op == CmpOp.NotIn) = false := by cases op <;> first | rfl | exact absurd rfl h2
  cases b <;> simp [behindInMarks, e1, e2]
def tCmp (p : Int → Int → Bool) (ta tb : TE) : TE := fun σ H Q => t2I ta tb (fun i j H2 => Q (.bl (p i j)) H2) σ H
abbrev tLt : TE → TE → TE := tCmp fun i j => decide (i < j)
abbrev tLe : TE → TE → TE := tCmp fun i j => decide (i ≤ j)
abbrev tGt : TE → TE → TE := tCmp fun i j => decide (j < i)
abbrev tGe : TE → TE → TE := tCmp fun i j => decide (j ≤ i)
abbrev tEqI : TE → TE → TE := tCmp fun i j => decide (i = j)
abbrev tNeI : TE → TE → TE := tCmp fun i j => !decide (i = j)
/-- a comparison of two ints, by its rule -/
theorem pc_int {op : CmpOp} {p : Int → Int → Bool} (ha : PE X a ta) (hb : PE X b tb)
    (rule : ∀ (i j : Int) (t u : Tok) (Q : Value → Shared → Prop) (s : Shared), Q (.bool (p i j)) s → wpAny (model X.prog X.w) X.A (compareOp op (.int i t) (.int j u)) Q X.xe s) : PC X op a b (tCmp p ta tb) := by
  intro pins s σ H Q I h
  refine bin ha hb I h fun v u s2 x y H2 I2 rx ry q => ?_
  obtain ⟨i, j, rfl, rfl, q⟩ := q
  obtain ⟨t, rfl⟩ := rx
  obtain ⟨t', rfl⟩ := ry
  exact rule i j t t' _ s2 ⟨.bl _, H2, I2, rfl, q⟩
theorem pc_lt (ha : PE X a ta) (hb : PE X b tb) : PC X .Lt a b (tLt ta tb) := pc_int ha hb fun _ _ _ _ _ _ h => lt_int h
theorem pc_le (ha : PE X a ta) (hb : PE X b tb) : PC X .LtE a b (tLe ta tb) := pc_int ha hb fun _ _ _ _ _ _ h => le_int h
theorem pc_gt (ha : PE X a ta) (hb : PE X b tb) : PC X .Gt a b (tGt ta tb) := pc_int ha hb fun _ _ _ _ _ _ h => gt_int h
theorem pc_ge (ha : PE X a ta) (hb : PE X b tb) : PC X .GtE a b (tGe ta tb) := pc_int ha hb fun _ _ _ _ _ _ h => ge_int h
theorem pc_eqI (ha : PE X a ta) (hb : PE X b tb) : PC X .Eq a b (tEqI ta tb) := pc_int ha hb fun _ _ _ _ _ _ h => eq_int (by rw [Bool.beq_eq_decide_eq]; exact h)
theorem pc_neI (ha : PE X a ta) (hb : PE X b tb) : PC X .NotEq a b (tNeI ta tb) := pc_int ha hb fun _ _ _ _ _ _ h => ne_int (by rw [bne, Bool.beq_eq_decide_eq]; exact h)
/-- is None -/
def tIsN (ta : TE) : TE := fun σ H Q => ta σ H fun x H1 => Q (.bl (decide (x = .non))) H1
def tNotN (ta : TE) : TE := fun σ H Q => ta σ H fun x H1 => Q (.bl (!decide (x = .non))) H1
theorem RelV.none_iff {x : V} {v : Value} (r : RelV x v) : (v == Value.none) = decide (x = .non) := by
  cases x with
  | non => cases r; rfl
  | bl _ => cases r; rfl
  | int _ => obtain ⟨t, rfl⟩ := r; rfl
  | str _ => obtain ⟨t, rfl⟩ := r; rfl
  | byt _ => obtain ⟨t, rfl⟩ := r; rfl
  | flt _ => obtain ⟨t, rfl⟩ := r; rfl
  | ref _ => cases r; rfl
  | ty _ => cases r; rfl
theorem pc_isN {j pos'} (ha : PE X a ta) : PC X .Is a (.Constant .none j pos') (tIsN ta) := by
  intro pins s σ H Q I h
  refine thn (ha pins s σ H _ I h) fun v s1 ⟨x, H1, I1, r1, q1⟩ => ?_
  exact Constant_none (is_none_gen ⟨.bl _, H1, I1, by rw [r1.none_iff]; rfl, q1⟩)
theorem pc_notN {j pos'} (ha : PE X a ta) : PC X .IsNot a (.Constant .none j pos') (tNotN ta) := by
  intro pins s σ H Q I h
  refine thn (ha pins s σ H _ I h) fun v s1 ⟨x, H1, I1, r1, q1⟩ => ?_
  exact Constant_none (isnot_none_gen ⟨.bl _, H1, I1, by rw [r1.none_iff]; rfl, q1⟩)
/-- a comparison as a value, as a test -/
def tB (t : TE) : TT := fun σ H Q => t σ H fun x H1 => ∃ c, x = .bl c ∧ Q c H1
theorem pe_cmp {op : CmpOp} {t : TE} (h : PC X op a b t) (h1 : behindInMarks op b = false := by first | exact nobehind _ (by decide) (by decide) | rfl) : PE X (.Compare a [op] [b] pos) t := fun pins s σ H Q I hw => wpAny_Compare1 (h pins s σ H Q I hw) h1
theorem pt_cmp {op : CmpOp} {t : TE} (h : PC X op a b t) (h1 : behindInMarks op b = false := by first | exact nobehind _ (by decide) (by decide) | rfl) : PT X (.Compare a [op] [b] pos) (tB t) := by
  intro pins s σ H Q I hw
  refine wpAny_isTrue_Compare1 (thn (h pins s σ H _ I hw) fun v s1 h1 => thn h1 fun u s2 h2 => thn h2 fun c s3 ⟨x, H1, I1, r1, q1⟩ => ?_) h1
  obtain ⟨d, rfl, q⟩ := q1
  cases r1
  exact wpAny_truthy_bool ⟨H1, I1, q⟩
/-- an expression whose value is a bool, as a test -/
theorem pt_val {e : Expr} {t : TE} (h : PE X e t) (he : ∀ whole, isTrue e X.env whole = (do let v ← whole; standAt e.pos; holding [v] (truthy v)) := by intro _; rfl) : PT X e (tB t) := by
  intro pins s σ H Q I hw
  refine isTrue_plain (thn (h pins s σ H _ I hw) fun v s1 ⟨x, H1, I1, r1, q1⟩ => ?_) (he _)
  obtain ⟨d, rfl, q⟩ := q1
  cases r1
  exact wpAny_truthy_bool ⟨H1, I1, q⟩

/-! ### and, or, not -/
variable {tA tB' : TT} {rest : List Expr}
def tAnd (t u : TT) : TT := fun σ H Q => t σ H fun c H1 => if c = true then u σ H1 Q else Q false H1
def tOr (t u : TT) : TT := fun σ H Q => t σ H fun c H1 => if c = true then Q true H1 else u σ H1 Q
def tNot (t : TT) : TT := fun σ H Q => t σ H fun c H1 => Q (!c) H1
theorem pw_and1 (ha : PT X a tA) : PW X (.BoolOp .And [a] pos) tA := by
  intro wh pins s σ H Q I h
  refine isTrue_and (thn (ha pins s σ H Q I h) fun c s1 e => ?_)
  cases c with
  | true => exact isTrue_and_nil e
  | false => exact e
theorem pw_or1 (ha : PT X a tA) : PW X (.BoolOp .Or [a] pos) tA := by
  intro wh pins s σ H Q I h
  refine isTrue_or (thn (ha pins s σ H Q I h) fun c s1 e => ?_)
  cases c with
  | false => exact isTrue_or_nil e
  | true => exact e
theorem pw_and (ha : PT X a tA) (hb : PW X (.BoolOp .And (b :: rest) pos) tB') : PW X (.BoolOp .And (a :: b :: rest) pos) (tAnd tA tB') := by
  intro wh pins s σ H Q I h
  refine isTrue_and (thn (ha pins s σ H _ I h) fun c s1 ⟨H1, I1, q1⟩ => ?_)
  cases c with
  | true => exact hb wh pins s1 σ H1 Q I1 q1
  | false => exact ⟨H1, I1, q1⟩
theorem pw_or (ha : PT X a tA) (hb : PW X (.BoolOp .Or (b :: rest) pos) tB') : PW X (.BoolOp .Or (a :: b :: rest) pos) (tOr tA tB') := by
  intro wh pins s σ H Q I h
  refine isTrue_or (thn (ha pins s σ H _ I h) fun c s1 ⟨H1, I1, q1⟩ => ?_)
  cases c with
  | true => exact ⟨H1, I1, q1⟩
  | false => exact hb wh pins s1 σ H1 Q I1 q1
theorem pt_not (ha : PT X a tA) : PT X (.UnaryOp .Not a pos) (tNot tA) := by
  intro pins s σ H Q I h
  exact isTrue_not (ha pins s σ H (fun c H1 => Q (!c) H1) I h)
/-- .. as values (bools) -/
def tAndV (ta tb : TE) : TE := fun σ H Q => ta σ H fun x H1 => ∃ c, x = .bl c ∧ if c = true then tb σ H1 Q else Q (.bl false) H1
def tOrV (ta tb : TE) : TE := fun σ H Q => ta σ H fun x H1 => ∃ c, x = .bl c ∧ if c = true then Q (.bl true) H1 else tb σ H1 Q
def tNotV (ta : TE) : TE := fun σ H Q => ta σ H fun x H1 => ∃ c, x = .bl c ∧ Q (.bl (!c)) H1
theorem pe_one {op} {t : TE} (h : PE X a t) : PE X (.BoolOp op [a] pos) t := fun pins s σ H Q I hw => BoolOp_one (h pins s σ H Q I hw)
theorem pe_and (ha : PE X a ta) (hb : PE X (.BoolOp .And (b :: rest) pos) tb) : PE X (.BoolOp .And (a :: b :: rest) pos) (tAndV ta tb) := by
  intro pins s σ H Q I h
  refine BoolOp_and (thn (ha pins s σ H _ I h) fun v s1 ⟨x, H1, I1, r1, q1⟩ => ?_)
  obtain ⟨c, rfl, q1⟩ := q1
  cases r1
  refine wpAny_truthy_bool ?_
  cases c with
  | true => exact hb pins s1 σ H1 Q I1 q1
  | false => exact ⟨.bl false, H1, I1, rfl, q1⟩
theorem pe_or (ha : PE X a ta) (hb : PE X (.BoolOp .Or (b :: rest) pos) tb) : PE X (.BoolOp .Or (a :: b :: rest) pos) (tOrV ta tb) := by
  intro pins s σ H Q I h
  refine BoolOp_or (thn (ha pins s σ H _ I h) fun v s1 ⟨x, H1, I1, r1, q1⟩ => ?_)
  obtain ⟨c, rfl, q1⟩ := q1
  cases r1
  refine wpAny_truthy_bool ?_
  cases c with
  | false => exact hb pins s1 σ H1 Q I1 q1
  | true => exact ⟨.bl true, H1, I1, rfl, q1⟩
theorem pe_not (ha : PE X a ta) : PE X (.UnaryOp .Not a pos) (tNotV ta) := by
  intro pins s σ H Q I h
  refine UnaryOp_ (thn (ha pins s σ H _ I h) fun v s1 ⟨x, H1, I1, r1, q1⟩ => ?_)
  obtain ⟨c, rfl, q1⟩ := q1
  cases r1
  exact not_of (wpAny_truthy_bool ⟨.bl (!c), H1, I1, rfl, q1⟩)
/-- a if t else b -/
def tIf (t : TT) (ta tb : TE) : TE := fun σ H Q => t σ H fun c H1 => if c = true then ta σ H1 Q else tb σ H1 Q
theorem pe_ifExp {c : Expr} (hc : PT X c tA) (ha : PE X a ta) (hb : PE X b tb) : PE X (.IfExp c a b pos) (tIf tA ta tb) := by
  intro pins s σ H Q I h
  refine wpAny_IfExp (thn (hc pins s σ H _ I h) fun d s1 ⟨H1, I1, q1⟩ => ?_)
  cases d with
  | true => exact ha pins s1 σ H1 Q I1 q1
  | false => exact hb pins s1 σ H1 Q I1 q1
end
end L2

namespace L2
open PySem PySem.Spec PyProof.Rows

/-! ### a list, a tuple that is read: tracked, frozen, or an object of the module -/
def SqL (K : PySem.W.Frag) (H : Hp) (a : Addr) (xs : List V) : Prop :=
  Rd H a (.lst xs) ∨
    ∃ (o : Obj) (its : Array Value) (n : Nat), K.lookup a = some o ∧ o.cls = .type "list" ∧ o.dict = none ∧ o.data = .seq its n ∧ its.size ≤ sizeLine ∧ Vals xs its.toList
def SqT (K : PySem.W.Frag) (H : Hp) (a : Addr) (xs : List V) : Prop :=
  Rd H a (.tup xs) ∨
    ∃ (o : Obj) (its : Array Value) (n : Nat), K.lookup a = some o ∧ o.cls = .type "tuple" ∧ o.data = .seq its n ∧ its.size ≤ sizeLine ∧ Vals xs its.toList
def absV : Value → Option V
  | .none => some .non
  | .bool b => some (.bl b)
  | .int i _ => some (.int i)
  | .str x _ => some (.str x)
  | .bytes b _ => some (.byt b)
  | .float b _ => some (.flt b)
  | .ref a => some (.ref a)
  | .type n => some (.ty n)
  | _ => none
theorem RelV.abs {x : V} {u : Value} (r : RelV x u) : absV u = some x := by
  cases x with
  | non => cases r; rfl
  | bl _ => cases r; rfl
  | int _ => obtain ⟨t, rfl⟩ := r; rfl
  | str _ => obtain ⟨t, rfl⟩ := r; rfl
  | byt _ => obtain ⟨t, rfl⟩ := r; rfl
  | flt _ => obtain ⟨t, rfl⟩ := r; rfl
  | ref _ => cases r; rfl
  | ty _ => cases r; rfl
theorem RelV.inj {x y : V} {u : Value} (r : RelV x u) (q : RelV y u) : x = y := Option.some.inj (r.abs.symm.trans q.abs)
theorem Vals.inj : ∀ {xs ys : List V} {us : List Value}, Vals xs us → Vals ys us → xs = ys
  | _, _, _, .nil, .nil => rfl
  | _, _, _, .cons r t, .cons r' t' => by rw [r.inj r', Vals.inj t t']
section
variable {X : Cx} {pins : List (Addr × Obj)} {σ : St} {H : Hp} {s : Shared} {a : Addr} {xs ys : List V}
theorem SqL.of {K : PySem.W.Frag} (h : H a = some (.lst xs)) : SqL K H a xs := .inl (.inl h)
theorem SqT.of {K : PySem.W.Frag} (h : H a = some (.tup xs)) : SqT K H a xs := .inl (.inl h)
theorem Inv.list (I : Inv X pins σ H s) (h : SqL X.K H a xs) : ∃ its : List Value, Vals xs its ∧ PlainL s.heap a its.toArray ∧ xs.length ≤ sizeLine := by
  rcases h with h | ⟨o, its, n, hk, hc, hd, hs, hz, r⟩
  · obtain ⟨z, its, n, r, e⟩ := h.ok I.hok
    exact ⟨its, r, ⟨_, n, e, rfl, rfl, rfl⟩, z⟩
  · refine ⟨its.toList, r, ⟨o, n, I.kIn a o hk, hc, hd, by simpa using hs⟩, ?_⟩
    have e := r.length
    simp only [Array.length_toList] at e
    omega
theorem Inv.tuple (I : Inv X pins σ H s) (h : SqT X.K H a xs) : ∃ its : List Value, Vals xs its ∧ IsTup s.heap a its.toArray ∧ xs.length ≤ sizeLine := by
  rcases h with h | ⟨o, its, n, hk, hc, hs, hz, r⟩
  · obtain ⟨z, its, r, p⟩ := h.ok I.hok
    exact ⟨its, r, p, z⟩
  · refine ⟨its.toList, r, ⟨o, I.kIn a o hk, hc, n, by simpa using hs⟩, ?_⟩
    have e := r.length
    simp only [Array.length_toList] at e
    omega
theorem Inv.list_inj (I : Inv X pins σ H s) (h : SqL X.K H a xs) (h' : SqL X.K H a ys) : xs = ys := by
  obtain ⟨its, r, ⟨o, n, e, _, _, d⟩, _⟩ := I.list h
  obtain ⟨its', r', ⟨o', n', e', _, _, d'⟩, _⟩ := I.list h'
  rw [e] at e'; cases e'
  rw [d] at d'
  injection d' with d1 _
  have : its = its' := by simpa using congrArg Array.toList d1
  subst this
  exact r.inj r'
theorem Inv.tuple_inj (I : Inv X pins σ H s) (h : SqT X.K H a xs) (h' : SqT X.K H a ys) : xs = ys := by
  obtain ⟨its, r, ⟨o, e, _, n, d⟩, _⟩ := I.tuple h
  obtain ⟨its', r', ⟨o', e', _, n', d'⟩, _⟩ := I.tuple h'
  rw [e] at e'; cases e'
  rw [d] at d'
  injection d' with d1 _
  have : its = its' := by simpa using congrArg Array.toList d1
  subst this
  exact r.inj r'
end

/-! ### another wish about exceptions -/
abbrev Cx.wish (X : Cx) (E : Value → Shared → Prop) : Cx := { X with xe := E }
/-- no exception leaves -/
abbrev Cx.nox (X : Cx) : Cx := X.wish fun _ _ => False
theorem Cx.Ok.wish {X : Cx} (ok : X.Ok) (E : Value → Shared → Prop) : (X.wish E).Ok :=
  ⟨ok.mod, ok.kind, ok.glob, ok.blt, ok.above, ok.inj, ok.has, ok.cab, ok.hd, ok.frames, ok.stk, ok.exf, ok.bs, ok.bsz, ok.noex, ok.exfs, ok.funs, ok.frf⟩
theorem Cx.Ok.unwish {X : Cx} {E : Value → Shared → Prop} (ok : (X.wish E).Ok) : X.Ok :=
  ⟨ok.mod, ok.kind, ok.glob, ok.blt, ok.above, ok.inj, ok.has, ok.cab, ok.hd, ok.frames, ok.stk, ok.exf, ok.bs, ok.bsz, ok.noex, ok.exfs, ok.funs, ok.frf⟩
section
variable {X : Cx} {pins : List (Addr × Obj)} {σ : St} {H : Hp} {s : Shared} {E : Value → Shared → Prop}
theorem Inv.wish (I : Inv X pins σ H s) (E : Value → Shared → Prop) : Inv (X.wish E) pins σ H s := ⟨I.ok.wish E, I.os, I.bare, I.base, I.loc, I.cell, I.free, I.freeC, I.pin, I.hok, I.len⟩
theorem Inv.unwish (I : Inv (X.wish E) pins σ H s) : Inv X pins σ H s := ⟨I.ok.unwish, I.os, I.bare, I.base, I.loc, I.cell, I.free, I.freeC, I.pin, I.hok, I.len⟩
theorem SP.unwish {D : Ends} {f : Flow} {s' : Shared} (h : SP (X.wish E) pins D f s') : SP X pins D f s' := by
  cases f with
  | next => obtain ⟨σ', H', I, q⟩ := h; exact ⟨σ', H', I.unwish, q⟩
  | brk => obtain ⟨σ', H', I, q⟩ := h; exact ⟨σ', H', I.unwish, q⟩
  | cont => obtain ⟨σ', H', I, q⟩ := h; exact ⟨σ', H', I.unwish, q⟩
  | ret u => obtain ⟨v, σ', H', I, r, q⟩ := h; exact ⟨v, σ', H', I.unwish, r, q⟩
theorem PE.nox {e : Expr} {t : TE} (h : PE X.nox e t) : PE X e t := fun pins s σ H Q I hw =>
  wpAny_mono (h pins s σ H Q (I.wish _) hw) (fun _ _ ⟨v, H', I', r, q⟩ => ⟨v, H', I'.unwish, r, q⟩) fun _ _ z => False.elim z
theorem PT.nox {e : Expr} {t : TT} (h : PT X.nox e t) : PT X e t := fun pins s σ H Q I hw =>
  wpAny_mono (h pins s σ H Q (I.wish _) hw) (fun _ _ ⟨H', I', q⟩ => ⟨H', I'.unwish, q⟩) fun _ _ z => False.elim z
theorem PSs.nox {st : List Stmt} {t : TS} (h : PSs X.nox st t) : PSs X st t := fun pins s σ H D I hw =>
  wpAny_mono (h pins s σ H D (I.wish _) hw) (fun _ _ q => q.unwish) fun _ _ z => False.elim z
end

/-! ### blocks and small statements -/
section
variable {X : Cx} {st : Stmt} {rest : List Stmt} {t u : TS} {e : Expr} {te : TE} {pos : Pos}
def tNext : TS := fun D σ H => D.nx σ H
def tSeq (t u : TS) : TS := fun D σ H => t { D with nx := u D } σ H
theorem pss_nil : PSs X [] tNext := fun _ _ σ H _ I h => wpAny_execs_nil ⟨σ, H, I, h⟩
theorem pss_cons (h1 : PS X st t) (h2 : PSs X rest u) : PSs X (st :: rest) (tSeq t u) := by
  intro pins s σ H D I h
  refine wpAny_execs_cons (thn (h1 pins s σ H { D with nx := u D } I h) fun f s1 q => ?_)
  cases f with
  | next =>
    obtain ⟨σ', H', I', q⟩ := q
    exact h2 pins s1 σ' H' D I' q
  | ret v => exact q
  | brk => exact q
  | cont => exact q
theorem pss_one (h1 : PS X st t) : PSs X [st] t := by
  intro pins s σ H D I h
  refine wpAny_execs_cons (thn (h1 pins s σ H D I h) fun f s1 q => ?_)
  cases f with
  | next => exact wpAny_execs_nil q
  | ret v => exact q
  | brk => exact q
  | cont => exact q
def tBreak : TS := fun D σ H => D.bk σ H
def tCont : TS := fun D σ H => D.ct σ H
theorem ps_pass : PS X (.Pass pos) tNext := fun _ _ σ H _ I h => wpAny_Pass ⟨σ, H, I, h⟩
theorem ps_break : PS X (.Break pos) tBreak := fun _ _ σ H _ I h => wpAny_Break ⟨σ, H, I, h⟩
theorem ps_continue : PS X (.Continue pos) tCont := fun _ _ σ H _ I h => wpAny_Continue ⟨σ, H, I, h⟩
/-- in a def's body nothing is shown -/
theorem Inv.quiet {pins : List (Addr × Obj)} {σ : St} {H : Hp} {s : Shared} (I : Inv X pins σ H s) : interactive X.env = false := by simp [interactive, I.ok.kind]
/-- a docstring -/
theorem ps_doc {x j pos pos'} : PS X (.Expr (.Constant (.str x) j pos) pos') tNext := fun _ s σ H _ I h => wpAny_Expr (Calls.Constant_str (show SP X _ _ .next { s with toks := s.toks + 1 } from ⟨σ, H, I.tok _, h⟩)) I.quiet
/-- an expression whose value is dropped -/
def tDrop (te : TE) : TS := fun D σ H => te σ H fun _ H1 => D.nx σ H1
theorem ps_expr (he : PE X e te) (hs : swapsWith e none pos.line X.env = pure false := by rfl) : PS X (.Expr e pos) (tDrop te) := by
  intro pins s σ H D I h
  exact wpAny_Expr_any (thn (he pins s σ H _ I h) fun v s1 ⟨x, H1, I1, r1, q1⟩ => ⟨σ, H1, I1, q1⟩) I.quiet hs
def tRet (te : TE) : TS := fun D σ H => te σ H D.rt
theorem ps_ret (he : PE X e te) : PS X (.Return (some e) pos) (tRet te) := by
  intro pins s σ H D I h
  exact wpAny_Return_some (thn (he pins s σ H _ I h) fun v s1 ⟨x, H1, I1, r1, q1⟩ => ⟨x, σ, H1, I1, r1, q1⟩)
def tRetN : TS := fun D _ H => D.rt .non H
theorem ps_retN : PS X (.Return none pos) tRetN := fun _ _ σ H _ I h => wpAny_Return_none ⟨.non, σ, H, I, rfl, h⟩
def tIfS (c : TT) (t u : TS) : TS := fun D σ H => c σ H fun b H1 => if b = true then t D σ H1 else u D σ H1
theorem ps_if {c : Expr} {a b : List Stmt} {tc : TT} (hc : PT X c tc) (ha : PSs X a t) (hb : PSs X b u) : PS X (.If c a b pos) (tIfS tc t u) := by
  intro pins s σ H D I h
  refine wpAny_If (thn (hc pins s σ H _ I h) fun d s1 ⟨H1, I1, q1⟩ => ?_)
  cases d with
  | true => exact ha pins s1 σ H1 D I1 q1
  | false => exact hb pins s1 σ H1 D I1 q1
/-- code that the proof never comes to -/
def tNever : TS := fun _ _ _ => False
theorem ps_never : PS X st tNever := fun _ _ _ _ _ _ h => h.elim
theorem pss_never {sts : List Stmt} : PSs X sts tNever := fun _ _ _ _ _ _ h => h.elim
end

/-! ### targets -/
abbrev TG := V → St → Hp → (St → Hp → Prop) → Prop
abbrev TGs := List V → St → Hp → (St → Hp → Prop) → Prop
def PG (X : Cx) (target : Expr) (t : TG) : Prop :=
  ∀ (pins : List (Addr × Obj)) (s : Shared) (σ : St) (H : Hp) (v : V) (u : Value) (Q : St → Hp → Prop), Inv X pins σ H s → RelV v u → t v σ H Q →
    wpAny (model X.prog X.w) X.A (assign target X.env u) (fun _ s' => ∃ σ' H', Inv X pins σ' H' s' ∧ Q σ' H') X.xe s
/-- several targets, one after another -/
def PGs (X : Cx) (ts : List Expr) (t : TGs) : Prop :=
  ∀ (pins : List (Addr × Obj)) (s : Shared) (σ : St) (H : Hp) (vs : List V) (us : List Value) (Q : St → Hp → Prop), Inv X pins σ H s → Vals vs us → t vs σ H Q →
    wpAny (model X.prog X.w) X.A (assignInOrder ((assignEach ts X.env).map (·.2)) us) (fun _ s' => ∃ σ' H', Inv X pins σ' H' s' ∧ Q σ' H') X.xe s
/-- o[i] = v, by values -/
abbrev TSet := V → V → V → Hp → (Hp → Prop) → Prop
def PSet (X : Cx) (t : TSet) : Prop :=
  ∀ (pins : List (Addr × Obj)) (s : Shared) (σ : St) (H : Hp) (o i v : V) (ov iv u : Value) (Q : Hp → Prop), Inv X pins σ H s → RelV o ov → RelV i iv → RelV v u → t o i v H Q →
    wpAny (model X.prog X.w) X.A (setItem ov iv u) (fun _ s' => ∃ H', Inv X pins σ H' s' ∧ Q H') X.xe s
/-- a op= b, by values -/
abbrev TIp := V → V → Hp → VK → Prop
def PIp (X : Cx) (op : Operator) (t : TIp) : Prop :=
  ∀ (pins : List (Addr × Obj)) (s : Shared) (σ : St) (H : Hp) (x y : V) (v u : Value) (Q : VK), Inv X pins σ H s → RelV x v → RelV y u → t x y H Q →
    wpAny (model X.prog X.w) X.A (inplaceOp op v u) (EP X pins σ Q) X.xe s
section
variable {X : Cx} {pos : Pos}
def gName (i : Nat) : TG := fun v σ H Q => Q (σ.set i (some v)) H
theorem pg_name {i : Nat} {x : Str} (hN : X.N.Nodup) (hi : X.N[i]? = some x) (hx : Loc X.env.scope x) (hf : X.fn x = true ∨ X.env.scope.names.lookup x = some .local := by first | exact .inl rfl | exact .inr rfl | assumption) : PG X (.Name x pos) (gName i) := by
  intro pins s σ H v u Q I r h
  exact wpAny_assign_Name (store_ok I hN hi hx r (fun s' I' => ⟨_, H, I', h⟩) hf)
def gNil : TGs := fun vs σ H Q => vs = [] ∧ Q σ H
def gCons (t : TG) (u : TGs) : TGs := fun vs σ H Q => ∃ v r, vs = v :: r ∧ t v σ H fun σ' H' => u r σ' H' Q
theorem pgs_nil : PGs X [] gNil := by
  intro pins s σ H vs us Q I r h
  obtain ⟨e, h⟩ := h
  subst e
  cases r
  exact assignInOrder_nil ⟨σ, H, I, h⟩
theorem pgs_cons {e : Expr} {es : List Expr} {t : TG} {u : TGs} (h1 : PG X e t) (h2 : PGs X es u)
    (hs : (assignEach (e :: es) X.env).map (·.2) = assign e X.env :: (assignEach es X.env).map (·.2) := by rfl) : PGs X (e :: es) (gCons t u) := by
  intro pins s σ H vs us Q I r h
  obtain ⟨v, vr, e1, h⟩ := h
  subst e1
  cases r with
  | cons r rr =>
    rw [hs]
    refine assignInOrder_cons (thn (h1 pins s σ H _ _ _ I r h) fun _ s1 ⟨σ1, H1, I1, q1⟩ => ?_)
    exact h2 pins s1 σ1 H1 _ _ Q I1 rr q1
/-- (a, b, ..) = a tuple of that length -/
def gTup (K : PySem.W.Frag) (n : Nat) (t : TGs) : TG := fun v σ H Q => ∃ a xs, v = .ref a ∧ SqT K H a xs ∧ xs.length = n ∧ t xs σ H Q
theorem pg_tup {es : List Expr} {k : Nat} {t : TGs} {n : Nat} (hc : X.calm = true) (h : PGs X es t)
    (hn : (assignEach es X.env).length = n := by rfl) (hst : (assignEach es X.env).findIdx? (·.1) = none := by rfl) : PG X (.Tuple es k pos) (gTup X.K n t) := by
  intro pins s σ H v u Q I r hw
  obtain ⟨a, xs, e1, hq, hl, hw⟩ := hw
  subst e1
  cases r
  obtain ⟨its, rv, ht, hz⟩ := I.tuple hq
  refine assign_Tuple_tuple (I.ok.hd hc) ht (by simp [hn, ← hl, rv.length]) hst fun h' hx => ?_
  have I1 : Inv X pins σ H { s with heap := h' } := I.kept (t' := s.toks) fun b o e => hx b o (Nat.ne_of_lt (Heap.lt_size e)) e
  exact h pins _ σ H xs _ Q I1 (by simpa using rv) hw
/-- o[i] = .. -/
def gSub (to ti : TE) (t : TSet) : TG := fun v σ H Q => to σ H fun o H1 => ti σ H1 fun i H2 => t o i v H2 fun H3 => Q σ H3
theorem pg_sub {o i : Expr} {to ti : TE} {t : TSet} (ho : PE X o to) (hi : PE X i ti) (hs : PSet X t)
    (ha : ∀ v, assign (.Subscript o i pos) X.env v = (do
      let ov ← holding [v] (eval o X.env)
      let iv ← holding [v, ov] (eval i X.env)
      standAt pos
      holding [v, ov, iv] (setItem ov iv v)
      release [v, ov, iv] []) := by intro _; rfl) : PG X (.Subscript o i pos) (gSub to ti t) := by
  intro pins s σ H v u Q I r h
  rw [ha]
  refine wpAny_bind (wpAny_holding (thn (ho pins s σ H _ I h) fun ov s1 ⟨x, H1, I1, r1, q1⟩ => ?_))
  refine wpAny_bind (wpAny_holding (thn (hi pins s1 σ H1 _ I1 q1) fun iv s2 ⟨y, H2, I2, r2, q2⟩ => ?_))
  refine wpAny_bind (wpAny_standAt (wpAny_bind (wpAny_holding (thn (hs pins s2 σ H2 x y v ov iv u _ I2 r1 r2 r q2) fun _ s3 ⟨H3, I3, q3⟩ => ?_))))
  exact wpAny_release ⟨σ, H3, I3, q3⟩
/-- target = value -/
def tAsg (te : TE) (g : TG) : TS := fun D σ H => te σ H fun x H1 => g x σ H1 D.nx
theorem ps_asg {tg e : Expr} {te : TE} {g : TG} (he : PE X e te) (hg : PG X tg g) (hs : swapsWithSole [tg] e pos.line X.env = pure false := by rfl) (hw : swappedStores [tg] e X.env = pure none := by rfl)
    (h1 : (assignEach [tg] X.env).map (·.2) = [assign tg X.env] := by rfl) : PS X (.Assign [tg] e pos) (tAsg te g) := by
  intro pins s σ H D I h
  refine wpAny_Assign_stores (thn (he pins s σ H _ I h) fun v s1 ⟨x, H1, I1, r1, q1⟩ => ?_) hs hw
  rw [h1]
  exact thn (hg pins s1 σ H1 x v _ I1 r1 q1) fun _ s2 q => q
/-- name = value -/
theorem ps_set {i : Nat} {x : Str} {e : Expr} {te : TE} {pos' : Pos} (hN : X.N.Nodup) (hi : X.N[i]? = some x) (hx : Loc X.env.scope x) (he : PE X e te) (hs : swapsWith e (some (.Name x pos')) pos.line X.env = pure false := by rfl) (hf : X.fn x = true ∨ X.env.scope.names.lookup x = some .local := by first | exact .inl rfl | exact .inr rfl | assumption) :
    PS X (.Assign [.Name x pos'] e pos) (tAsg te (gName i)) := by
  intro pins s σ H D I h
  refine wpAny_Assign_Name (thn (he pins s σ H _ I h) fun v s1 ⟨y, H1, I1, r1, q1⟩ => ?_) hs
  exact store_ok I1 hN hi hx r1 (fun s2 I2 => ⟨_, H1, I2, q1⟩) hf
/-- a, b = x, y with plain local names: stored from the right; the pair itself is not tracked (the opening rows as in PyProof/Rows/TupAssign.lean:23) -/
def tPar (i j : Nat) (ta : TA) : TS := fun D σ H => ta σ H fun vs H1 => ∃ v w, vs = [v, w] ∧ D.nx ((σ.set i (some v)).set j (some w)) H1
theorem ps_par {i j : Nat} {x y : Str} {a b : Expr} {ta : TA} {px py pt : Pos} {kt k2 pt2} (hc : X.calm = true) (hN : X.N.Nodup) (hi : X.N[i]? = some x) (hj : X.N[j]? = some y) (hij : i ≠ j)
    (hx : X.env.scope.names.lookup x = some .local) (hy : X.env.scope.names.lookup y = some .local) (ha : PA X [a, b] ta)
    (hw : swappedStores [.Tuple [.Name x px, .Name y py] kt pt] (.Tuple [a, b] k2 pt2) X.env = pure (some [x, y]))
    (hs : swapsWithSole [.Tuple [.Name x px, .Name y py] kt pt] (.Tuple [a, b] k2 pt2) pos.line X.env = pure false := by rfl) :
    PS X (.Assign [.Tuple [.Name x px, .Name y py] kt pt] (.Tuple [a, b] k2 pt2) pos) (tPar i j ta) := by
  intro pins s σ H D I h
  rw [exec_Assign_arm]
  refine wpAny_bind (wpAny_standAt ?_)
  rw [hs]
  refine wpAny_bind (wpAny_pure ?_)
  rw [if_neg (by decide)]
  refine wpAny_bind (Tuple_ (thn (ha _ pins s σ H _ I h) fun us s1 ⟨vs, H1, I1, r1, q1⟩ => ?_))
  obtain ⟨v, w, e1, q1⟩ := q1
  subst e1
  obtain ⟨u1, u2, rfl, rv, rw'⟩ : ∃ u1 u2, us = [u1, u2] ∧ RelV v u1 ∧ RelV w u2 := by
    cases r1 with
    | cons p q =>
      cases q with
      | cons p' q' =>
        cases q'
        exact ⟨_, _, rfl, p, p'⟩
  refine wpAny_newObj_type ?_ (by show 2 ≤ sizeLine; decide)
  have I2 : Inv X pins σ H1 { s1 with heap := s1.heap.push { cls := .type "tuple", data := .seq [u1, u2].toArray } } := I1.kept (t' := s1.toks) fun b o e => Heap.get?_push_of_some _ e
  rw [hw]
  refine wpAny_bind (wpAny_pure ?_)
  show wpAny (model X.prog X.w) X.A (do rule "assign.swapped-stores"; let items ← unpackItems (.ref s1.heap.objs.size) 2 none; assignInOrder [fun v => bindName X.env y v, fun v => bindName X.env x v] items.reverse; pure Flow.next) _ _ _
  refine wpAny_bind (wpAny_rule (wpAny_bind (unpackItems_tuple (items := #[u1, u2]) (I.ok.hd hc) (IsTup.new s1.heap _) fun h' hx' => ?_)))
  have I3 := I2.kept (h' := h') (t' := s1.toks) fun b o e => hx' b o (Nat.ne_of_lt (Heap.lt_size e)) e
  show wpAny _ _ (assignInOrder [fun v => bindName X.env y v, fun v => bindName X.env x v] [u2, u1] >>= fun _ => pure Flow.next) _ _ _
  refine wpAny_bind (assignInOrder_cons (wpAny_bindName (store_ok I3 hN hj (.inl hy) rw' (fun s2 I4 => ?_) (.inr hy))))
  refine assignInOrder_cons (wpAny_bindName (store_ok I4 hN hi (.inl hx) rv (fun s3 I5 => assignInOrder_nil (wpAny_pure ?_)) (.inr hx)))
  rw [List.set_comm _ _ (Ne.symm hij)] at I5
  exact ⟨_, H1, I5, q1⟩
/-- name op= e -/
def tAug (i : Nat) (te : TE) (ti : TIp) : TS := fun D σ H => ∃ x, σ[i]? = some (some x) ∧ te σ H fun y H1 => ti x y H1 fun z H2 => D.nx (σ.set i (some z)) H2
theorem ps_aug {i : Nat} {x : Str} {e : Expr} {te : TE} {op : Operator} {ti : TIp} {pos' : Pos} (hN : X.N.Nodup) (hi : X.N[i]? = some x) (hx : Loc X.env.scope x) (he : PE X e te) (ho : PIp X op ti) (hf : X.fn x = true ∨ X.env.scope.names.lookup x = some .local := by first | exact .inl rfl | exact .inr rfl | assumption) :
    PS X (.AugAssign (.Name x pos') op e pos) (tAug i te ti) := by
  intro pins s σ H D I h
  obtain ⟨v, e1, h⟩ := h
  obtain ⟨m, hn, hl⟩ := I.loc
  have vis : Vis X.env.scope x := by rcases hx with k | k; exact .inl k; exact .inr (.inl k)
  obtain ⟨u, r, l⟩ := hl i x v hi e1 vis
  refine wpAny_AugAssign_Name ?_
  have go : wpAny (model X.prog X.w) X.A (eval e X.env) (fun w s₂ => wpAny (model X.prog X.w) X.A (inplaceOp op u w) (fun r s₃ => wpAny (model X.prog X.w) X.A (storeName X.env x r) (fun _ => SP X pins D .next) X.xe s₃) X.xe s₂) X.xe s := by
    refine thn (he pins s σ H _ I h) fun w s1 ⟨y, H1, I1, r1, q1⟩ => ?_
    refine thn (ho pins s1 σ H1 v y u w _ I1 r r1 q1) fun z s2 ⟨zv, H2, I2, r2, q2⟩ => ?_
    exact store_ok I2 hN hi hx r2 (fun s3 I3 => ⟨_, H2, I3, q2⟩) hf
  rcases l with ⟨hk, hm⟩ | ⟨hk, c, hc, hcell⟩
  · exact wpAny_loadName_local I.ok.kind hk hn hm go
  · rcases hk with hk | hk
    · exact wpAny_loadName_cell I.ok.kind hk hc hcell go
    · rcases hx with k | k
      · have : X.env.scope.names.lookup x = some .free := hk
        rw [k] at this; cases this
      · have : X.env.scope.names.lookup x = some .free := hk
        rw [k] at this; cases this
/-- o[i] op= e -/
def tAugS (to ti te : TE) (tget : V → V → Hp → VK → Prop) (tip : TIp) (tset : TSet) : TS := fun D σ H => to σ H fun o H1 => ti σ H1 fun i H2 => tget o i H2 fun x H3 => te σ H3 fun y H4 => tip x y H4 fun z H5 => tset o i z H5 fun H6 => D.nx σ H6
/-- o[i], by values -/
def PGet (X : Cx) (t : V → V → Hp → VK → Prop) : Prop :=
  ∀ (pins : List (Addr × Obj)) (s : Shared) (σ : St) (H : Hp) (o i : V) (ov iv : Value) (Q : VK), Inv X pins σ H s → RelV o ov → RelV i iv → t o i H Q →
    wpAny (model X.prog X.w) X.A (getItem ov iv) (EP X pins σ Q) X.xe s
theorem ps_augS {o i e : Expr} {to ti te : TE} {tget : V → V → Hp → VK → Prop} {tip : TIp} {tset : TSet} {op : Operator} {tpos : Pos} (ho : PE X o to) (hi : PE X i ti) (hg : PGet X tget) (he : PE X e te) (hp : PIp X op tip) (hs : PSet X tset)
    (ha : ∀ ov iv new, augStore i ov iv new = (do holding [new, ov, iv] (setItem ov iv new); release [new, ov, iv] []; pure .next) := by intros; rfl) : PS X (.AugAssign (.Subscript o i tpos) op e pos) (tAugS to ti te tget tip tset) := by
  intro pins s σ H D I h
  refine wpAny_AugAssign_SubscriptAny (thn (ho pins s σ H _ I h) fun ov s1 ⟨x1, H1, I1, r1, q1⟩ => ?_) ha
  refine thn (hi pins s1 σ H1 _ I1 q1) fun iv s2 ⟨x2, H2, I2, r2, q2⟩ => ?_
  refine thn (hg pins s2 σ H2 x1 x2 ov iv _ I2 r1 r2 q2) fun old s3 ⟨x3, H3, I3, r3, q3⟩ => ?_
  refine thn (he pins s3 σ H3 _ I3 q3) fun v s4 ⟨x4, H4, I4, r4, q4⟩ => ?_
  refine thn (hp pins s4 σ H4 x3 x4 old v _ I4 r3 r4 q4) fun new s5 ⟨x5, H5, I5, r5, q5⟩ => ?_
  exact thn (hs pins s5 σ H5 x1 x2 x5 ov iv new _ I5 r1 r2 r5 q5) fun _ s6 ⟨H6, I6, q6⟩ => ⟨σ, H6, I6, q6⟩
/-- ints -/
def ipI (f : Int → Int → Int) : TIp := fun x y H Q => ∃ i j, x = .int i ∧ y = .int j ∧ Q (.int (f i j)) H
theorem ip_add : PIp X .Add (ipI fun i j => i + j) := by
  intro pins s σ H x y v u Q I r1 r2 h
  obtain ⟨i, j, e1, e2, q⟩ := h
  subst e1; subst e2
  obtain ⟨t, rfl⟩ := r1
  obtain ⟨t', rfl⟩ := r2
  exact iadd_int ⟨.int _, H, I.tok _, ⟨_, rfl⟩, q⟩
theorem ip_sub : PIp X .Sub (ipI fun i j => i - j) := by
  intro pins s σ H x y v u Q I r1 r2 h
  obtain ⟨i, j, e1, e2, q⟩ := h
  subst e1; subst e2
  obtain ⟨t, rfl⟩ := r1
  obtain ⟨t', rfl⟩ := r2
  exact isub_int ⟨.int _, H, I.tok _, ⟨_, rfl⟩, q⟩
end

/-! ### while -/
section
variable {X : Cx} {pos : Pos}
/-- the invariant W with its measure -/
def tWhile (c : TT) (tb : TS) : TS := fun D σ H => ∃ W : Nat → St → Hp → Prop, (∃ m, W m σ H) ∧ ∀ m σ H, W m σ H →
  c σ H fun b H1 => if b = true then ∃ N : St → Hp → Prop, (∀ σ' H', N σ' H' → ∃ m', m' < m ∧ W m' σ' H') ∧ tb { D with nx := N, ct := N, bk := D.nx } σ H1 else D.nx σ H1
theorem ps_while {c : Expr} {body : List Stmt} {tc : TT} {tb : TS} (hp : PassesOwn (model X.prog X.w) X.A X.env X.xe) (hc : PT X c tc) (hb : PSs X body tb) : PS X (.While c body [] pos) (tWhile tc tb) := by
  intro pins s σ H D I h
  obtain ⟨W, ⟨m0, w0⟩, turn⟩ := h
  refine wpAny_While (codeAny_whileLoop (fun n s' => ∃ σ' H', Inv X pins σ' H' s' ∧ W n σ' H') ?_ m0 ⟨σ, H, I, w0⟩)
  rintro n s1 ⟨σ1, H1, I1, w1⟩
  refine wpAny_passesOwn hp (thn (hc pins s1 σ1 H1 _ I1 (turn n σ1 H1 w1)) fun b s2 ⟨H2, I2, q2⟩ => ?_)
  cases b with
  | true =>
    obtain ⟨N, hN, q2⟩ := q2
    rw [if_pos rfl]
    refine wpAny_passesOwn hp (thn (hb pins s2 σ1 H2 _ I2 q2) fun f s3 q3 => ?_)
    cases f with
    | next =>
      obtain ⟨σ3, H3, I3, n3⟩ := q3
      obtain ⟨m', hm, w3⟩ := hN σ3 H3 n3
      exact ⟨m', hm, σ3, H3, I3, w3⟩
    | cont =>
      obtain ⟨σ3, H3, I3, n3⟩ := q3
      obtain ⟨m', hm, w3⟩ := hN σ3 H3 n3
      exact ⟨m', hm, σ3, H3, I3, w3⟩
    | brk => exact q3
    | ret v => exact q3
  | false =>
    rw [if_neg Bool.false_ne_true]
    exact wpAny_execs_nil ⟨σ1, H2, I2, q2⟩
end

/-! ### what a loop or a comprehension walks -/
/-- at turn i: it yields x (the heap may grow), or it stops -/
structure It where
  go : Nat → Hp → Prop
  yld : Nat → Hp → V → Hp → Prop
  stop : Nat → Hp → Prop
/-- the iterator's own objects may turn: they are not the frame's, not pinned, younger than the entry (or a comprehension's own) -/
def FpOk (X : Cx) (pins : List (Addr × Obj)) (H : Hp) (b : Addr) : Prop :=
  H b = none ∧ b ≠ X.env.locals ∧ b ∉ X.fs ∧ (b ∈ X.ex ∨ X.s₀.heap.objs.size ≤ b) ∧ (∀ x c, X.env.cells.lookup x = some c → c ≠ b) ∧ ∀ p ∈ X.pn ++ pins, p.1 ≠ b
theorem Inv.fpOk {X : Cx} {pins : List (Addr × Obj)} {σ : St} {H H' : Hp} {s : Shared} {b : Addr} (I : Inv X pins σ H s) (hb : s.heap.objs.size ≤ b) (hn : H' b = none) : FpOk X pins H' b := by
  refine ⟨hn, Nat.ne_of_gt (Nat.lt_of_lt_of_le I.lt hb), I.nofs hb, .inr (Nat.le_trans I.sz hb), fun x c e z => ?_, fun p hp z => ?_⟩
  · obtain ⟨v, q⟩ := I.cell x c e
    exact absurd (Nat.lt_of_lt_of_le q.lt (by rw [z]; exact hb)) (Nat.lt_irrefl _)
  · exact absurd (Nat.lt_of_lt_of_le (Heap.lt_size (I.pin p hp).1) (by rw [z]; exact hb)) (Nat.lt_irrefl _)
structure Turn (P : Program) (w : World) (K : PySem.W.Frag) (tg : Expr) (J : It) (fp : List Addr) (it : Addr) (tn : Nat → Heap → Prop) : Prop where
  mem : it ∈ fp
  obj : ∀ i h, tn i h → ∀ b ∈ fp, ∃ o, h.get? b = some o ∧ ∀ v, o.data ≠ .cell v
  keep : ∀ i h h', tn i h → (∀ b ∈ fp, ∀ o, h.get? b = some o → h'.get? b = some o) → tn i h'
  item : ∀ (X : Cx), X.prog = P → X.w = w → X.K = K → X.calm = true → ∀ (i : Nat) (pins : List (Addr × Obj)) (s : Shared) (σ : St) (H : Hp) (E : Value → Shared → Prop), Inv X pins σ H s → (∀ b ∈ fp, FpOk X pins H b) → tn i s.heap → J.go i H →
    wpAny (model P w) X.A (pyNext (.ref it)) (fun r s1 => ∃ u, r = some u ∧
      wpAny (model P w) X.A (letOwnedTupleGo tg (.ref it) u) (fun _ s2 => ∃ x H', Inv X pins σ H' s2 ∧ RelV x u ∧ J.yld i H x H' ∧ tn (i + 1) s2.heap ∧ ∀ b ∈ fp, H' b = none) E s1) E s
  done : ∀ (X : Cx), X.prog = P → X.w = w → X.K = K → X.calm = true → ∀ (i : Nat) (pins : List (Addr × Obj)) (s : Shared) (σ : St) (H : Hp) (E : Value → Shared → Prop), Inv X pins σ H s → (∀ b ∈ fp, FpOk X pins H b) → tn i s.heap → J.stop i H →
    wpAny (model P w) X.A (pyNext (.ref it)) (fun r s1 => r = none ∧ Inv X pins σ H s1) E s
  self : ∀ (A : Around) (i : Nat) (s : Shared) (Q : Value → Shared → Prop) (E : Value → Shared → Prop), tn i s.heap → Q (.ref it) s → wpAny (model P w) A (pyIter (.ref it)) Q E s
abbrev TI := St → Hp → (It → Hp → Prop) → Prop
/-- an iterator has come -/
def PIE (X : Cx) (pins : List (Addr × Obj)) (σ : St) (tg : Expr) (R : It → Hp → Prop) (itv : Value) (s2 : Shared) : Prop :=
  ∃ (it : Addr) (fp : List Addr) (tn : Nat → Heap → Prop) (J : It) (H' : Hp), itv = .ref it ∧ Inv X pins σ H' s2 ∧ Turn X.prog X.w X.K tg J fp it tn ∧ tn 0 s2.heap ∧ (∀ b ∈ fp, FpOk X pins H' b) ∧ R J H'
def PI (X : Cx) (tg iter : Expr) (wi : TI) : Prop :=
  ∀ (pins : List (Addr × Obj)) (s : Shared) (σ : St) (H : Hp) (R : It → Hp → Prop), Inv X pins σ H s → wi σ H R →
    wpAny (model X.prog X.w) X.A (eval iter X.env) (fun v s1 => wpAny (model X.prog X.w) X.A (pyIter v) (PIE X pins σ tg R) X.xe s1) X.xe s

/-- the step ahead of the store is nothing for an iterator that keeps no tuple -/
theorem go_of {M : Model} {A : Around} {E : Value → Shared → Prop} {s : Shared} {tg : Expr} {it : Addr} {u : Value} {o : Obj} {n : String} {vs : Array Value} {Q : Unit → Shared → Prop} (ho : s.heap.get? it = some o) (hc : o.cls = .type n) (hd : o.data = .fields vs)
    (hn : ["enumerate", "zip", "dict_itemiterator", "dict_reverseitemiterator", "odict_iterator", "itertools.zip_longest", "itertools.pairwise"].contains n = false) (hQ : Q () s) : wpAny M A (letOwnedTupleGo tg (.ref it) u) Q E s := by
  unfold letOwnedTupleGo
  cases tg <;> first
    | exact wpAny_pure hQ
    | (cases u <;> first
        | exact wpAny_pure hQ
        | (refine wpAny_bind (wpAny_load ho ?_)
           rw [hc, hd]
           show wpAny M A (if (["enumerate", "zip", "dict_itemiterator", "dict_reverseitemiterator", "odict_iterator", "itertools.zip_longest", "itertools.pairwise"].contains n && vs[0]? == some (rawInt _)) = true then _ else _) Q E s
           rw [if_neg (by intro h; rw [hn, Bool.false_and] at h; cases h)]
           exact wpAny_pure hQ))

/-- the list at a, as it stands at each turn (a loop may append to it) -/
def Itl (K : PySem.W.Frag) (a : Addr) : It :=
  ⟨fun i H => ∃ xs x, SqL K H a xs ∧ xs[i]? = some x, fun i H x H' => H' = H ∧ ∀ xs, SqL K H a xs → xs[i]? = some x, fun i H => ∃ xs, SqL K H a xs ∧ xs.length ≤ i⟩
def Itt (K : PySem.W.Frag) (a : Addr) : It :=
  ⟨fun i H => ∃ xs x, SqT K H a xs ∧ xs[i]? = some x, fun i H x H' => H' = H ∧ ∀ xs, SqT K H a xs → xs[i]? = some x, fun i H => ∃ xs, SqT K H a xs ∧ xs.length ≤ i⟩
/-- lo, lo + 1, .. (n of them) -/
def Itr (lo : Int) (n : Nat) : It := ⟨fun i _ => i < n, fun i H x H' => H' = H ∧ x = .int (lo + i), fun i _ => n ≤ i⟩
theorem turn_list {P : Program} {w : World} {K : PySem.W.Frag} {tg : Expr} (a it : Addr) : Turn P w K tg (Itl K a) [it] it (fun i h => h.IsListIter it a i) where
  mem := by simp
  obj := fun i h st b hb => by
    have e : b = it := by simpa using hb
    subst e
    obtain ⟨o, e, c, d⟩ := st
    exact ⟨o, e, fun v z => by rw [d] at z; cases z⟩
  keep := fun i h h' st k => st.at fun o e => k it (by simp) o e
  item := by
    intro X hP hw hK hc i pins s σ H E I hf st hg
    subst hP hw hK
    obtain ⟨xs, x, hq, hx⟩ := hg
    obtain ⟨its, rv, p, hz⟩ := I.list hq
    obtain ⟨u, hu, ru⟩ := rv.get hx
    obtain ⟨f0, f1, f2, f3, f4, f5⟩ := hf it (by simp)
    refine wpAny_pyNext_list_item st p.isList (x := u) (by simpa using hu) fun h' st' sb => ?_
    have I1 : Inv X pins σ H { s with heap := h' } := I.turned (t' := s.toks) (fun b o hb e => (sb.2 b hb).trans e) f0 f1 f3 f4 f5
    obtain ⟨o, e, c, d⟩ := id st'
    exact ⟨u, rfl, go_of (s := { s with heap := h' }) e c d (by decide) ⟨x, H, I1, ru, ⟨rfl, fun ys hy => by rw [I.list_inj hy hq]; exact hx⟩, st', fun b hb => (hf b hb).1⟩⟩
  done := by
    intro X hP hw hK hc i pins s σ H E I hf st hg
    subst hP hw hK
    obtain ⟨xs, hq, hx⟩ := hg
    obtain ⟨its, rv, p, hz⟩ := I.list hq
    obtain ⟨f0, f1, f2, f3, f4, f5⟩ := hf it (by simp)
    have hl := rv.length
    exact wpAny_pyNext_list_end (I.ok.hd hc) st p.isList (by simp; omega) fun h' eb => ⟨rfl, I.turned (t' := s.toks) (fun b o hb e => eb b o hb e) f0 f1 f3 f4 f5⟩
  self := fun _ _ _ _ _ st h => wpAny_pyIter_listiter st h
theorem turn_tuple {P : Program} {w : World} {K : PySem.W.Frag} {tg : Expr} (a it : Addr) : Turn P w K tg (Itt K a) [it] it (fun i h => h.IsTupleIter it a i) where
  mem := by simp
  obj := fun i h st b hb => by
    have e : b = it := by simpa using hb
    subst e
    obtain ⟨o, e, c, d⟩ := st
    exact ⟨o, e, fun v z => by rw [d] at z; cases z⟩
  keep := fun i h h' st k => st.at fun o e => k it (by simp) o e
  item := by
    intro X hP hw hK hc i pins s σ H E I hf st hg
    subst hP hw hK
    obtain ⟨xs, x, hq, hx⟩ := hg
    obtain ⟨its, rv, p, hz⟩ := I.tuple hq
    obtain ⟨u, hu, ru⟩ := rv.get hx
    obtain ⟨f0, f1, f2, f3, f4, f5⟩ := hf it (by simp)
    refine wpAny_pyNext_tuple_item st (show s.heap.IsTuple a its.toArray from p) (x := u) (by simpa using hu) fun h' st' sb => ?_
    have I1 : Inv X pins σ H { s with heap := h' } := I.turned (t' := s.toks) (fun b o hb e => (sb.2 b hb).trans e) f0 f1 f3 f4 f5
    obtain ⟨o, e, c, d⟩ := id st'
    exact ⟨u, rfl, go_of (s := { s with heap := h' }) e c d (by decide) ⟨x, H, I1, ru, ⟨rfl, fun ys hy => by rw [I.tuple_inj hy hq]; exact hx⟩, st', fun b hb => (hf b hb).1⟩⟩
  done := by
    intro X hP hw hK hc i pins s σ H E I hf st hg
    subst hP hw hK
    obtain ⟨xs, hq, hx⟩ := hg
    obtain ⟨its, rv, p, hz⟩ := I.tuple hq
    obtain ⟨f0, f1, f2, f3, f4, f5⟩ := hf it (by simp)
    have hl := rv.length
    exact wpAny_pyNext_tuple_end (I.ok.hd hc) st (show s.heap.IsTuple a its.toArray from p) (by simp; omega) fun h' eb => ⟨rfl, I.turned (t' := s.toks) (fun b o hb e => eb b o hb e) f0 f1 f3 f4 f5⟩
  self := fun _ _ _ _ _ st h => wpAny_pyIter_tupleiter st h
theorem turn_range {P : Program} {w : World} {K : PySem.W.Frag} {tg : Expr} (it : Addr) (lo : Int) (n : Nat) : Turn P w K tg (Itr lo n) [it] it (fun i h => IsRangeIter h it (lo + (i : Nat) * 1) ((n : Int) - (i : Nat)) 1) where
  mem := by simp
  obj := fun i h st b hb => by
    have e : b = it := by simpa using hb
    subst e
    exact ⟨_, st, fun v z => by
      have z' : Data.fields _ = Data.cell v := z
      cases z'⟩
  keep := fun i h h' st k => k it (by simp) _ st
  item := by
    intro X hP hw hK hc i pins s σ H E I hf st hg
    subst hP hw hK
    obtain ⟨f0, f1, f2, f3, f4, f5⟩ := hf it (by simp)
    have W := Walks.range (prog := X.prog) (w := X.w) (I.ok.hd hc) it lo 1 n
    refine W.item i s _ _ hg st fun v h' tk hv st' kk => ?_
    obtain ⟨t, rfl⟩ := hv
    have I1 : Inv X pins σ H { s with heap := h', toks := tk } := I.turned (fun b o hb e => kk b o (by simpa using hb) e) f0 f1 f3 f4 f5
    refine ⟨_, rfl, go_of (s := { s with heap := h', toks := tk }) (n := "range_iterator") st' rfl rfl (by decide) ⟨.int (lo + i), H, I1, ⟨t, ?_⟩, ⟨rfl, rfl⟩, st', fun b hb => (hf b hb).1⟩⟩
    rw [Int.mul_one]
  done := by
    intro X hP hw hK hc i pins s σ H E I hf st hg
    subst hP hw hK
    obtain ⟨f0, f1, f2, f3, f4, f5⟩ := hf it (by simp)
    exact wpAny_pyNext_range_end (I.ok.hd hc) st (by have : n ≤ i := hg; omega) fun h' eb => ⟨rfl, I.turned (t' := s.toks) (fun b o hb e => eb b o hb e) f0 f1 f3 f4 f5⟩
  self := fun _ _ _ _ _ st h => wpAny_pyIter_rangeiter st h
end L2

namespace L2
open PySem PySem.Spec PyProof.Rows
section
variable {X : Cx} {tg : Expr}
def iList (K : PySem.W.Frag) (tl : TE) : TI := fun σ H R => tl σ H fun x H1 => ∃ a, x = .ref a ∧ (∃ xs, SqL K H1 a xs) ∧ R (Itl K a) H1
def iTup (K : PySem.W.Frag) (tl : TE) : TI := fun σ H R => tl σ H fun x H1 => ∃ a, x = .ref a ∧ (∃ xs, SqT K H1 a xs) ∧ R (Itt K a) H1
theorem pi_list {l : Expr} {tl : TE} (hl : PE X l tl) : PI X tg l (iList X.K tl) := by
  intro pins s σ H R I h
  refine thn (hl pins s σ H _ I h) fun v s1 ⟨x, H1, I1, r1, q1⟩ => ?_
  obtain ⟨a, e, ⟨xs, hq⟩, q⟩ := q1
  subst e
  cases r1
  obtain ⟨its, rv, p, hz⟩ := I1.list hq
  refine wpAny_pyIter_list p.isList ?_
  refine ⟨s1.heap.objs.size, [s1.heap.objs.size], _, _, H1, rfl, I1.kept (t' := s1.toks) fun b o e => Heap.get?_push_of_some _ e, turn_list a _, ⟨_, Heap.get?_push_size _ rfl, rfl, rfl⟩, fun b hb => ?_, q⟩
  have e : b = s1.heap.objs.size := by simpa using hb
  subst e
  exact I1.fpOk (Nat.le_refl _) (I1.hok.fresh (Nat.le_refl _))
theorem pi_tup {l : Expr} {tl : TE} (hl : PE X l tl) : PI X tg l (iTup X.K tl) := by
  intro pins s σ H R I h
  refine thn (hl pins s σ H _ I h) fun v s1 ⟨x, H1, I1, r1, q1⟩ => ?_
  obtain ⟨a, e, ⟨xs, hq⟩, q⟩ := q1
  subst e
  cases r1
  obtain ⟨its, rv, p, hz⟩ := I1.tuple hq
  refine wpAny_pyIter_tuple (show s1.heap.IsTuple a its.toArray from p) ?_
  refine ⟨s1.heap.objs.size, [s1.heap.objs.size], _, _, H1, rfl, I1.kept (t' := s1.toks) fun b o e => Heap.get?_push_of_some _ e, turn_tuple a _, ⟨_, Heap.get?_push_size _ rfl, rfl, rfl⟩, fun b hb => ?_, q⟩
  have e : b = s1.heap.objs.size := by simpa using hb
  subst e
  exact I1.fpOk (Nat.le_refl _) (I1.hok.fresh (Nat.le_refl _))
/-- a range object just made, walked -/
theorem range_it {pins : List (Addr × Obj)} {σ : St} {H : Hp} {s : Shared} {R : It → Hp → Prop} {E : Value → Shared → Prop} {lo hi : Int} {t u v : Tok} {tk : Nat} (I : Inv X pins σ H s) (h1 : -(2 ^ 62) ≤ lo) (h2 : lo < 2 ^ 62) (h3 : -(2 ^ 62) ≤ hi) (h4 : hi < 2 ^ 62)
    (q : R (Itr lo (hi - lo).toNat) H) : wpAny (model X.prog X.w) X.A (pyIter (.ref s.heap.objs.size)) (PIE X pins σ tg R) E { s with heap := s.heap.push { cls := .type "range", data := .fields #[.int lo t, .int hi u, .int 1 v] }, toks := tk } := by
  refine wpAny_pyIter_range (IsRange.new ..) (small_one h1 h2 h3 h4) ?_
  have I1 : Inv X pins σ H { s with heap := s.heap.push { cls := .type "range", data := .fields #[.int lo t, .int hi u, .int 1 v] }, toks := tk } := I.kept fun b o e => Heap.get?_push_of_some _ e
  refine ⟨(s.heap.push { cls := .type "range", data := .fields #[.int lo t, .int hi u, .int 1 v] }).objs.size, [(s.heap.push { cls := .type "range", data := .fields #[.int lo t, .int hi u, .int 1 v] }).objs.size], _, _, H, rfl,
    I1.kept (t' := tk) fun b o e => Heap.get?_push_of_some _ e, turn_range _ lo (hi - lo).toNat, ?_, fun b hb => ?_, q⟩
  · have e1 : lo + ((0 : Nat) : Int) * 1 = lo := by simp
    have e2 : (((hi - lo).toNat : Nat) : Int) - ((0 : Nat) : Int) = Builtin.Range.rangeSize lo hi 1 := by rw [rangeSize_one]; split <;> omega
    show IsRangeIter _ _ (lo + ((0 : Nat) : Int) * 1) ((((hi - lo).toNat : Nat) : Int) - ((0 : Nat) : Int)) 1
    rw [e1, e2]
    exact Heap.get?_push_size _ rfl
  · have e : b = (s.heap.push { cls := .type "range", data := .fields #[.int lo t, .int hi u, .int 1 v] }).objs.size := by simpa using hb
    subst e
    exact I1.fpOk (Nat.le_refl _) (I1.hok.fresh (Nat.le_refl _))
def iRng1 (ta : TA) : TI := fun σ H R => ta σ H fun vs H1 => ∃ j : Int, vs = [.int j] ∧ -(2 ^ 62) ≤ j ∧ j < 2 ^ 62 ∧ R (Itr 0 j.toNat) H1
def iRng2 (ta : TA) : TI := fun σ H R => ta σ H fun vs H1 => ∃ i j : Int, vs = [.int i, .int j] ∧ (-(2 ^ 62) ≤ i ∧ i < 2 ^ 62 ∧ -(2 ^ 62) ≤ j ∧ j < 2 ^ 62) ∧ R (Itr i (j - i).toNat) H1
theorem pi_range1 {a : Expr} {ta : TA} {p pos : Pos} (hg : Gl X "range") (hm : X.mg "range" = none) (ha : PA X [a] ta) (hs : starEach [a] X.env = [(false, eval a X.env)] := by rfl) : PI X tg (.Call (.Name "range" p) [a] [] pos) (iRng1 ta) := by
  intro pins s σ H R I h
  refine Call_ (ld_blt I hg hm boot_range (PyProof.Rows.callWith_type1 (thn (ha pos pins s σ H _ I h) fun us s1 ⟨vs, H1, I1, r1, q1⟩ => ?_) hs rfl))
  obtain ⟨j, e, q1, q2, q⟩ := q1
  subst e
  cases r1 with
  | cons r rr =>
    cases rr
    obtain ⟨t, rfl⟩ := r
    exact call_range_1 (range_it I1 (by omega) (by omega) q1 q2 (by simpa using q))
theorem pi_range2 {a b : Expr} {ta : TA} {p pos : Pos} (hg : Gl X "range") (hm : X.mg "range" = none) (ha : PA X [a, b] ta) (hs : starEach [a, b] X.env = [(false, eval a X.env), (false, eval b X.env)] := by rfl) (hs2 : starEach [b] X.env = [(false, eval b X.env)] := by rfl) :
    PI X tg (.Call (.Name "range" p) [a, b] [] pos) (iRng2 ta) := by
  intro pins s σ H R I h
  refine Call_ (ld_blt I hg hm boot_range (PyProof.Rows.callWith_type1 (thn (ha pos pins s σ H _ I h) fun us s1 ⟨vs, H1, I1, r1, q1⟩ => ?_) (by rw [hs, hs2]) (by rw [hs2]; rfl)))
  obtain ⟨i, j, e, ⟨q1, q2, q3, q4⟩, q⟩ := q1
  subst e
  cases r1 with
  | cons r rr =>
    cases rr with
    | cons r' rr =>
      cases rr
      obtain ⟨t, rfl⟩ := r
      obtain ⟨t', rfl⟩ := r'
      exact call_range_2 (range_it I1 q1 q2 q3 q4 q)

/-! ### for -/
/-- W: the invariant by the turn and a measure; N: what the body is to reach -/
def tFor (wi : TI) (g : TG) (tb : TS) : TS := fun D σ H => wi σ H fun J H1 => ∃ W : Nat → Nat → St → Hp → Prop, (∃ m, W 0 m σ H1) ∧ ∀ i m σ H, W i m σ H →
  (J.stop i H ∧ D.nx σ H) ∨ (J.go i H ∧ ∃ N : St → Hp → Prop, (∀ σ' H', N σ' H' → ∃ m', m' < m ∧ W (i + 1) m' σ' H') ∧ ∀ x H', J.yld i H x H' → g x σ H' fun σ2 H2 => tb { D with nx := N, ct := N, bk := D.nx } σ2 H2)
/-- the records at fp as they stand -/
def pinsAt (fp : List Addr) (h : Heap) : List (Addr × Obj) := fp.filterMap fun b => (h.get? b).map fun o => (b, o)
theorem mem_pinsAt {fp : List Addr} {h : Heap} {b : Addr} {o : Obj} (hb : b ∈ fp) (e : h.get? b = some o) : (b, o) ∈ pinsAt fp h := List.mem_filterMap.mpr ⟨b, hb, by rw [e]; rfl⟩
theorem of_pinsAt {fp : List Addr} {h : Heap} {p : Addr × Obj} (hp : p ∈ pinsAt fp h) : p.1 ∈ fp ∧ h.get? p.1 = some p.2 := by
  obtain ⟨b, hb, e⟩ := List.mem_filterMap.mp hp
  cases q : h.get? b with
  | none => rw [q] at e; cases e
  | some o =>
    rw [q] at e
    have e' : (b, o) = p := Option.some.inj e
    subst e'
    exact ⟨hb, q⟩
theorem Inv.pinned {pins : List (Addr × Obj)} {σ : St} {H : Hp} {s : Shared} {fp : List Addr} (I : Inv X pins σ H s) (hf : ∀ b ∈ fp, FpOk X pins H b) (ho : ∀ b ∈ fp, ∃ o, s.heap.get? b = some o ∧ ∀ v, o.data ≠ .cell v) : Inv X (pins ++ pinsAt fp s.heap) σ H s :=
  I.pins_of fun p hp => (List.mem_append.mp hp).elim (fun z => I.pin p (List.mem_append_right _ z)) fun z => by
    obtain ⟨hb, e⟩ := of_pinsAt z
    obtain ⟨f0, f1, f2, _⟩ := hf p.1 hb
    obtain ⟨o, e', d⟩ := ho p.1 hb
    rw [e] at e'; cases e'
    exact ⟨e, f0, f1, f2, d⟩
theorem Inv.unpinned {pins pl : List (Addr × Obj)} {σ : St} {H : Hp} {s : Shared} (I : Inv X (pins ++ pl) σ H s) : Inv X pins σ H s := I.pins_of fun p hp => I.pin p (List.mem_append_right _ (List.mem_append_left _ hp))
theorem ps_for {iter : Expr} {body : List Stmt} {wi : TI} {g : TG} {tb : TS} {pos : Pos} (hp : PassesOwn (model X.prog X.w) X.A X.env X.xe) (hc : X.calm = true) (hi : PI X tg iter wi) (hg : PG X tg g) (hb : PSs X body tb)
    (hs : ∀ x, foldedSetIterable iter X.env x = pure x := by intro _; rfl) : PS X (.For tg iter body [] pos) (tFor wi g tb) := by
  intro pins s σ H D I h
  refine wpAny_For (thn (hi pins s σ H _ I h) fun v s1 h1 => thn h1 fun itv s2 h2 => ?_) hs
  obtain ⟨it, fp, tn, J, H2, e, I2, T, st2, f2, W, ⟨m0, w0⟩, turn⟩ := h2
  subst e
  -- what stays true of the iterator's objects through the loop
  have stat : ∀ {H' : Hp}, (∀ b ∈ fp, H' b = none) → ∀ b ∈ fp, FpOk X pins H' b := fun hn b hb => ⟨hn b hb, (f2 b hb).2⟩
  refine codeAny_forLoop_any (fun n s' => ∃ i σ' H', Inv X pins σ' H' s' ∧ tn i s'.heap ∧ (∀ b ∈ fp, H' b = none) ∧ W i n σ' H') ?_ m0 ⟨0, σ, H2, I2, st2, fun b hb => (f2 b hb).1, w0⟩
  rintro n s3 ⟨i, σ3, H3, I3, st3, fr3, w3⟩
  rcases turn i n σ3 H3 w3 with ⟨stop, qn⟩ | ⟨go, N, hN, step⟩
  · refine wpAny_passesOwn hp (thn (T.done X rfl rfl rfl hc i pins s3 σ3 H3 X.xe I3 (stat fr3) st3 stop) fun r s4 ⟨hr, I4⟩ => ?_)
    subst hr
    exact wpAny_execs_nil ⟨σ3, H3, I4, qn⟩
  · refine wpAny_passesOwn hp (thn (T.item X rfl rfl rfl hc i pins s3 σ3 H3 X.xe I3 (stat fr3) st3 go) fun r s4 ⟨u, hr, h4⟩ => ?_)
    subst hr
    refine wpAny_passesOwn hp (thn h4 fun _ s5 ⟨x, H5, I5, r5, y5, st5, fr5⟩ => ?_)
    have I5' := I5.pinned (stat fr5) (T.obj _ _ st5)
    refine wpAny_passesOwn hp (thn (hg _ s5 σ3 H5 x u _ I5' r5 (step x H5 y5)) fun _ s6 ⟨σ6, H6, I6, q6⟩ => ?_)
    refine wpAny_passesOwn hp (thn (hb _ s6 σ6 H6 _ I6 q6) fun f s7 q7 => ?_)
    have again : ∀ {σ7 : St} {H7 : Hp}, Inv X (pins ++ pinsAt fp s5.heap) σ7 H7 s7 → N σ7 H7 → ∃ m, m < n ∧ ∃ i σ' H', Inv X pins σ' H' s7 ∧ tn i s7.heap ∧ (∀ b ∈ fp, H' b = none) ∧ W i m σ' H' := fun {σ7 H7} I7 n7 => by
      obtain ⟨m', hm, w7⟩ := hN σ7 H7 n7
      refine ⟨m', hm, i + 1, σ7, H7, I7.unpinned, T.keep _ _ _ st5 fun b hb o e => (I7.pin (b, o) (List.mem_append_right _ (List.mem_append_right _ (mem_pinsAt hb e)))).1, fun b hb => ?_, w7⟩
      obtain ⟨o, e, d⟩ := T.obj _ _ st5 b hb
      exact (I7.pin (b, o) (List.mem_append_right _ (List.mem_append_right _ (mem_pinsAt hb e)))).2.1
    cases f with
    | next => obtain ⟨σ7, H7, I7, n7⟩ := q7; exact again I7 n7
    | cont => obtain ⟨σ7, H7, I7, n7⟩ := q7; exact again I7 n7
    | brk => obtain ⟨σ7, H7, I7, q7⟩ := q7; exact ⟨σ7, H7, I7.unpinned, q7⟩
    | ret v => obtain ⟨x7, σ7, H7, I7, r7, q7⟩ := q7; exact ⟨x7, σ7, H7, I7.unpinned, r7, q7⟩
end

/-! ### the forms one uses -/
/-- over a list that the body leaves as it is -/
theorem for_list {K : PySem.W.Frag} {a : Addr} {xs : List V} {g : TG} {tb : TS} {D : Ends} {σ : St} {H : Hp} (Pv : Nat → St → Hp → Prop) (h0 : Pv 0 σ H) (hl : ∀ i σ H, i ≤ xs.length → Pv i σ H → SqL K H a xs)
    (hs : ∀ i x σ H, xs[i]? = some x → Pv i σ H → g x σ H fun σ2 H2 => tb { D with nx := Pv (i + 1), ct := Pv (i + 1), bk := D.nx } σ2 H2) (hd : ∀ σ H, Pv xs.length σ H → D.nx σ H) :
    ∃ W : Nat → Nat → St → Hp → Prop, (∃ m, W 0 m σ H) ∧ ∀ i m σ H, W i m σ H →
      ((Itl K a).stop i H ∧ D.nx σ H) ∨ ((Itl K a).go i H ∧ ∃ N : St → Hp → Prop, (∀ σ' H', N σ' H' → ∃ m', m' < m ∧ W (i + 1) m' σ' H') ∧ ∀ x H', (Itl K a).yld i H x H' → g x σ H' fun σ2 H2 => tb { D with nx := N, ct := N, bk := D.nx } σ2 H2) := by
  refine ⟨fun i m σ H => m = xs.length - i ∧ i ≤ xs.length ∧ Pv i σ H, ⟨xs.length, by simp, Nat.zero_le _, h0⟩, ?_⟩
  rintro i m σ H ⟨rfl, hi, p⟩
  have q := hl i σ H hi p
  by_cases hlt : i < xs.length
  · refine .inr ⟨⟨xs, xs[i], q, by simp [hlt]⟩, Pv (i + 1), fun σ' H' p' => ⟨xs.length - (i + 1), by omega, rfl, hlt, p'⟩, fun x H' y => ?_⟩
    obtain ⟨e, y⟩ := y
    subst e
    exact hs i x σ _ (y xs q) p
  · have e : i = xs.length := by omega
    subst e
    exact .inl ⟨⟨xs, q, Nat.le_refl _⟩, hd σ H p⟩
theorem for_tup {K : PySem.W.Frag} {a : Addr} {xs : List V} {g : TG} {tb : TS} {D : Ends} {σ : St} {H : Hp} (Pv : Nat → St → Hp → Prop) (h0 : Pv 0 σ H) (hl : ∀ i σ H, i ≤ xs.length → Pv i σ H → SqT K H a xs)
    (hs : ∀ i x σ H, xs[i]? = some x → Pv i σ H → g x σ H fun σ2 H2 => tb { D with nx := Pv (i + 1), ct := Pv (i + 1), bk := D.nx } σ2 H2) (hd : ∀ σ H, Pv xs.length σ H → D.nx σ H) :
    ∃ W : Nat → Nat → St → Hp → Prop, (∃ m, W 0 m σ H) ∧ ∀ i m σ H, W i m σ H →
      ((Itt K a).stop i H ∧ D.nx σ H) ∨ ((Itt K a).go i H ∧ ∃ N : St → Hp → Prop, (∀ σ' H', N σ' H' → ∃ m', m' < m ∧ W (i + 1) m' σ' H') ∧ ∀ x H', (Itt K a).yld i H x H' → g x σ H' fun σ2 H2 => tb { D with nx := N, ct := N, bk := D.nx } σ2 H2) := by
  refine ⟨fun i m σ H => m = xs.length - i ∧ i ≤ xs.length ∧ Pv i σ H, ⟨xs.length, by simp, Nat.zero_le _, h0⟩, ?_⟩
  rintro i m σ H ⟨rfl, hi, p⟩
  have q := hl i σ H hi p
  by_cases hlt : i < xs.length
  · refine .inr ⟨⟨xs, xs[i], q, by simp [hlt]⟩, Pv (i + 1), fun σ' H' p' => ⟨xs.length - (i + 1), by omega, rfl, hlt, p'⟩, fun x H' y => ?_⟩
    obtain ⟨e, y⟩ := y
    subst e
    exact hs i x σ _ (y xs q) p
  · have e : i = xs.length := by omega
    subst e
    exact .inl ⟨⟨xs, q, Nat.le_refl _⟩, hd σ H p⟩
theorem for_range {lo : Int} {n : Nat} {g : TG} {tb : TS} {D : Ends} {σ : St} {H : Hp} (Pv : Nat → St → Hp → Prop) (h0 : Pv 0 σ H)
    (hs : ∀ i σ H, i < n → Pv i σ H → g (.int (lo + i)) σ H fun σ2 H2 => tb { D with nx := Pv (i + 1), ct := Pv (i + 1), bk := D.nx } σ2 H2) (hd : ∀ σ H, Pv n σ H → D.nx σ H) :
    ∃ W : Nat → Nat → St → Hp → Prop, (∃ m, W 0 m σ H) ∧ ∀ i m σ H, W i m σ H →
      ((Itr lo n).stop i H ∧ D.nx σ H) ∨ ((Itr lo n).go i H ∧ ∃ N : St → Hp → Prop, (∀ σ' H', N σ' H' → ∃ m', m' < m ∧ W (i + 1) m' σ' H') ∧ ∀ x H', (Itr lo n).yld i H x H' → g x σ H' fun σ2 H2 => tb { D with nx := N, ct := N, bk := D.nx } σ2 H2) := by
  refine ⟨fun i m σ H => m = n - i ∧ i ≤ n ∧ Pv i σ H, ⟨n, by simp, Nat.zero_le _, h0⟩, ?_⟩
  rintro i m σ H ⟨rfl, hi, p⟩
  by_cases hlt : i < n
  · refine .inr ⟨hlt, Pv (i + 1), fun σ' H' p' => ⟨n - (i + 1), by omega, rfl, hlt, p'⟩, fun x H' y => ?_⟩
    obtain ⟨e, y⟩ := y
    subst e y
    exact hs i σ _ hlt p
  · have e : i = n := by omega
    subst e
    exact .inl ⟨Nat.le_refl _, hd σ H p⟩
/-- while, by a word and a measure of the state -/
theorem while_by {c : TT} {tb : TS} {D : Ends} {σ : St} {H : Hp} (Pv : St → Hp → Prop) (μ : St → Hp → Nat) (h0 : Pv σ H)
    (hs : ∀ σ H, Pv σ H → c σ H fun b H1 => if b = true then tb { D with nx := fun σ' H' => Pv σ' H' ∧ μ σ' H' < μ σ H, ct := fun σ' H' => Pv σ' H' ∧ μ σ' H' < μ σ H, bk := D.nx } σ H1 else D.nx σ H1)
    (mono : ∀ σ H Q Q', (∀ b H1, Q b H1 → Q' b H1) → c σ H Q → c σ H Q') : tWhile c tb D σ H := by
  refine ⟨fun m σ H => m = μ σ H ∧ Pv σ H, ⟨_, rfl, h0⟩, ?_⟩
  rintro m σ H ⟨rfl, p⟩
  refine mono σ H _ _ (fun b H1 q => ?_) (hs σ H p)
  cases b with
  | true => exact ⟨_, fun σ' H' ⟨p', l⟩ => ⟨_, l, rfl, p'⟩, q⟩
  | false => exact q
end L2

namespace L2
open PySem PySem.Spec PyProof.Rows

abbrev R2 := V → V → Hp → VK → Prop
/-- a two-place operation on values: f is binaryOp op, inplaceOp op or compareOp op -/
def OpR (X : Cx) (f : Value → Value → Sem Value) (r : R2) : Prop :=
  ∀ (pins : List (Addr × Obj)) (s : Shared) (σ : St) (H : Hp) (x y : V) (v u : Value) (Q : VK), Inv X pins σ H s → RelV x v → RelV y u → r x y H Q →
    wpAny (model X.prog X.w) X.A (f v u) (EP X pins σ Q) X.xe s
/-- a one-place operation -/
def UnR (X : Cx) (f : Value → Sem Value) (r : V → Hp → VK → Prop) : Prop :=
  ∀ (pins : List (Addr × Obj)) (s : Shared) (σ : St) (H : Hp) (x : V) (v : Value) (Q : VK), Inv X pins σ H s → RelV x v → r x H Q →
    wpAny (model X.prog X.w) X.A (f v) (EP X pins σ Q) X.xe s
/-- a call of a value that is known (a builtin, a type) with values -/
def CallR (X : Cx) (f : Value) (r : List V → Hp → VK → Prop) : Prop :=
  ∀ (pins : List (Addr × Obj)) (s : Shared) (σ : St) (H : Hp) (xs : List V) (us : List Value) (Q : VK), Inv X pins σ H s → Vals xs us → r xs H Q →
    wpAny (model X.prog X.w) X.A (call f us) (EP X pins σ Q) X.xe s
/-- a value's truth -/
def TruR (X : Cx) (r : V → Hp → (Bool → Hp → Prop) → Prop) : Prop :=
  ∀ (pins : List (Addr × Obj)) (s : Shared) (σ : St) (H : Hp) (x : V) (v : Value) (Q : Bool → Hp → Prop), Inv X pins σ H s → RelV x v → r x H Q →
    wpAny (model X.prog X.w) X.A (truthy v) (TP X pins σ Q) X.xe s

def tOp (r : R2) (ta tb : TE) : TE := fun σ H Q => ta σ H fun x H1 => tb σ H1 fun y H2 => r x y H2 Q
def tUn (r : V → Hp → VK → Prop) (ta : TE) : TE := fun σ H Q => ta σ H fun x H1 => r x H1 Q
/-- ints in, under C, and a value out -/
def rI (C : Int → Int → Prop) (g : Int → Int → V) : R2 := fun x y H Q => ∃ i j, x = .int i ∧ y = .int j ∧ C i j ∧ Q (g i j) H
def rI0 (g : Int → Int → V) : R2 := fun x y H Q => ∃ i j, x = .int i ∧ y = .int j ∧ Q (g i j) H
def rU (g : Int → V) : V → Hp → VK → Prop := fun x H Q => ∃ i, x = .int i ∧ Q (g i) H

section
variable {X : Cx} {a b c : Expr} {ta tb tc : TE} {pos : Pos}

theorem binT (ha : PE X a ta) (hb : PE X b tb) {pins : List (Addr × Obj)} {s : Shared} {σ : St} {H : Hp} {R : V → V → Hp → Prop} (I : Inv X pins σ H s)
    (h : ta σ H fun x H1 => tb σ H1 fun y H2 => R x y H2) {Q : Value → Shared → Prop} {f : Value → Value → Sem Value}
    (hf : ∀ v u s2 x y H2, Inv X pins σ H2 s2 → RelV x v → RelV y u → R x y H2 → wpAny (model X.prog X.w) X.A (f v u) Q X.xe s2) :
    wpAny (model X.prog X.w) X.A (eval a X.env) (fun v s₁ => wpAny (model X.prog X.w) X.A (eval b X.env) (fun u s₂ => wpAny (model X.prog X.w) X.A (f v u) Q X.xe s₂) X.xe s₁) X.xe s := by
  refine thn (ha pins s σ H _ I h) fun v s1 ⟨x, H1, I1, r1, q1⟩ => ?_
  refine thn (hb pins s1 σ H1 _ I1 q1) fun u s2 ⟨y, H2, I2, r2, q2⟩ => ?_
  exact hf v u s2 x y H2 I2 r1 r2 q2

theorem pe_op {op : Operator} {r : R2} (ho : OpR X (binaryOp op) r) (ha : PE X a ta) (hb : PE X b tb) : PE X (.BinOp a op b pos) (tOp r ta tb) := by
  intro pins s σ H Q I h
  exact wpAny_BinOp (binT ha hb I h fun v u s2 x y H2 I2 rx ry q => ho pins s2 σ H2 x y v u Q I2 rx ry q)
theorem pe_un {op : UnaryOp} {r : V → Hp → VK → Prop} (ho : UnR X (unaryOp op) r) (ha : PE X a ta) : PE X (.UnaryOp op a pos) (tUn r ta) := by
  intro pins s σ H Q I h
  exact UnaryOp_ (thn (ha pins s σ H _ I h) fun v s1 ⟨x, H1, I1, r1, q1⟩ => ho pins s1 σ H1 x v Q I1 r1 q1)
/-- a op= e at a name: the name's slot i -/
theorem augR {op : Operator} {r : R2} (ho : OpR X (inplaceOp op) r) {pins : List (Addr × Obj)} {s : Shared} {σ : St} {H : Hp} {x y : V} {v u : Value} {Q : VK} (I : Inv X pins σ H s)
    (rx : RelV x v) (ry : RelV y u) (q : r x y H Q) : wpAny (model X.prog X.w) X.A (inplaceOp op v u) (EP X pins σ Q) X.xe s := ho pins s σ H x y v u Q I rx ry q

/-! ### ints -/
theorem opI {f : Value → Value → Sem Value} {C : Int → Int → Prop} {g : Int → Int → Int}
    (rule : ∀ (i j : Int) (t u : Tok) (s : Shared) (Q : Value → Shared → Prop) (E : Value → Shared → Prop), C i j → Q (.int (g i j) s.toks) { s with toks := s.toks + 1 } → wpAny (model X.prog X.w) X.A (f (.int i t) (.int j u)) Q E s) :
    OpR X f (rI C fun i j => .int (g i j)) := by
  intro pins s σ H x y v u Q I rx ry h
  obtain ⟨i, j, rfl, rfl, hc, q⟩ := h
  obtain ⟨t, rfl⟩ := rx
  obtain ⟨t', rfl⟩ := ry
  exact rule i j t t' s _ _ hc ⟨.int (g i j), H, I.tok _, ⟨_, rfl⟩, q⟩
theorem opI0 {f : Value → Value → Sem Value} {g : Int → Int → Int}
    (rule : ∀ (i j : Int) (t u : Tok) (s : Shared) (Q : Value → Shared → Prop) (E : Value → Shared → Prop), Q (.int (g i j) s.toks) { s with toks := s.toks + 1 } → wpAny (model X.prog X.w) X.A (f (.int i t) (.int j u)) Q E s) :
    OpR X f (rI0 fun i j => .int (g i j)) := by
  intro pins s σ H x y v u Q I rx ry h
  obtain ⟨i, j, rfl, rfl, q⟩ := h
  obtain ⟨t, rfl⟩ := rx
  obtain ⟨t', rfl⟩ := ry
  exact rule i j t t' s _ _ ⟨.int (g i j), H, I.tok _, ⟨_, rfl⟩, q⟩
theorem opB0 {f : Value → Value → Sem Value} {g : Int → Int → Bool}
    (rule : ∀ (i j : Int) (t u : Tok) (s : Shared) (Q : Value → Shared → Prop) (E : Value → Shared → Prop), Q (.bool (g i j)) s → wpAny (model X.prog X.w) X.A (f (.int i t) (.int j u)) Q E s) :
    OpR X f (rI0 fun i j => .bl (g i j)) := by
  intro pins s σ H x y v u Q I rx ry h
  obtain ⟨i, j, rfl, rfl, q⟩ := h
  obtain ⟨t, rfl⟩ := rx
  obtain ⟨t', rfl⟩ := ry
  exact rule i j t t' s _ _ ⟨.bl (g i j), H, I, rfl, q⟩

def CDiv (i j : Int) : Prop := 0 < j ∧ j < 1073741824
def CDivN (i j : Int) : Prop := j ≠ 0 ∧ j.natAbs < 1073741824
def CPow (i j : Int) : Prop := 0 ≤ j ∧ j ≤ 1000000 ∧ i.natAbs < 2 ^ 64
def CMul (i j : Int) : Prop := (-(2 ^ 64) < i ∧ i < 2 ^ 64) ∨ (-(2 ^ 64) < j ∧ j < 2 ^ 64)
theorem CMul.ok {i j : Int} (h : CMul i j) : IntMulOk i j := by
  rcases h with ⟨h1, h2⟩ | ⟨h1, h2⟩
  · exact .of_left (intBits_le_64 h1 h2)
  · exact .of_right (intBits_le_64 h1 h2)
theorem two_pow_nn (k : Nat) : (0 : Int) ≤ 2 ^ k := by
  rw [two_pow_cast]
  exact Int.natCast_nonneg _

theorem op_add : OpR X (binaryOp .Add) (rI0 fun i j => .int (i + j)) := opI0 fun _ _ _ _ _ _ _ q => add_int q
theorem op_sub : OpR X (binaryOp .Sub) (rI0 fun i j => .int (i - j)) := opI0 fun _ _ _ _ _ _ _ q => sub_int q
theorem op_mul : OpR X (binaryOp .Mult) (rI CMul fun i j => .int (i * j)) := opI fun _ _ _ _ _ _ _ hc q => mul_int q hc.ok
/-- // by a positive divisor -/
theorem op_fdiv : OpR X (binaryOp .FloorDiv) (rI CDiv fun i j => .int (i / j)) := opI fun i j _ _ _ _ _ hc q => by
  have h1 : (0 : Int) < j := hc.1
  have h2 : j < 1073741824 := hc.2
  exact floordiv_int (by omega) (by rw [Int.fdiv_eq_ediv_of_nonneg i (by omega)]; exact q) (.inl (PyProof.noPylong_small (by omega)))
theorem op_fdivN : OpR X (binaryOp .FloorDiv) (rI CDivN fun i j => .int (i.fdiv j)) := opI fun _ _ _ _ _ _ _ hc q => floordiv_int hc.1 q (.inl (PyProof.noPylong_small hc.2))
/-- % by a positive divisor of any size -/
theorem op_mod : OpR X (binaryOp .Mod) (rI (fun _ j => 0 < j) fun i j => .int (i % j)) := opI fun i j _ _ _ _ _ hc q => by
  have h1 : (0 : Int) < j := hc
  exact mod_int' (by omega) (by rw [Int.fmod_eq_emod_of_nonneg i (by omega)]; exact q)
theorem op_modN : OpR X (binaryOp .Mod) (rI (fun _ j => j ≠ 0) fun i j => .int (i.fmod j)) := opI fun _ _ _ _ _ _ _ hc q => mod_int' hc q
theorem op_pow : OpR X (binaryOp .Pow) (rI CPow fun i j => .int (i ^ j.toNat)) := opI fun _ _ _ _ _ _ _ hc q => pow_int_small hc.1 hc.2.1 hc.2.2 q
theorem op_shl : OpR X (binaryOp .LShift) (rI CPow fun i j => .int (i * 2 ^ j.toNat)) := opI fun _ _ _ _ _ _ _ hc q => lshift_int_small hc.1 hc.2.1 hc.2.2 q
theorem op_shr : OpR X (binaryOp .RShift) (rI (fun _ j => 0 ≤ j) fun i j => .int (i / 2 ^ j.toNat)) := opI fun i j _ _ _ _ _ hc q =>
  rshift_int hc (by rw [Int.fdiv_eq_ediv_of_nonneg i (two_pow_nn _)]; exact q)
theorem op_and : OpR X (binaryOp .BitAnd) (rI0 fun i j => .int (Builtin.bitAnd i j)) := opI0 fun _ _ _ _ _ _ _ q => and_int q
theorem op_or : OpR X (binaryOp .BitOr) (rI0 fun i j => .int (Builtin.bitOr i j)) := opI0 fun _ _ _ _ _ _ _ q => or_int q
theorem op_xor : OpR X (binaryOp .BitXor) (rI0 fun i j => .int (Builtin.bitXor i j)) := opI0 fun _ _ _ _ _ _ _ q => xor_int q

theorem iop_add : OpR X (inplaceOp .Add) (rI0 fun i j => .int (i + j)) := opI0 fun _ _ _ _ _ _ _ q => iadd_int q
theorem iop_sub : OpR X (inplaceOp .Sub) (rI0 fun i j => .int (i - j)) := opI0 fun _ _ _ _ _ _ _ q => isub_int q
theorem iop_mul : OpR X (inplaceOp .Mult) (rI CMul fun i j => .int (i * j)) := opI fun _ _ _ _ _ _ _ hc q => imul_int q hc.ok
theorem iop_fdiv : OpR X (inplaceOp .FloorDiv) (rI CDiv fun i j => .int (i / j)) := opI fun i j _ _ _ _ _ hc q => by
  have h1 : (0 : Int) < j := hc.1
  have h2 : j < 1073741824 := hc.2
  exact ifloordiv_int (by omega) (by rw [Int.fdiv_eq_ediv_of_nonneg i (by omega)]; exact q) (.inl (PyProof.noPylong_small (by omega)))
theorem iop_mod : OpR X (inplaceOp .Mod) (rI (fun _ j => 0 < j) fun i j => .int (i % j)) := opI fun i j _ _ _ _ _ hc q => by
  have h1 : (0 : Int) < j := hc
  exact imod_int (by omega) (by rw [Int.fmod_eq_emod_of_nonneg i (by omega)]; exact q)
theorem iop_shl : OpR X (inplaceOp .LShift) (rI CPow fun i j => .int (i * 2 ^ j.toNat)) := opI fun _ _ _ _ _ _ _ hc q => ilshift_int_small hc.1 hc.2.1 hc.2.2 q
theorem iop_shr : OpR X (inplaceOp .RShift) (rI (fun _ j => 0 ≤ j) fun i j => .int (i / 2 ^ j.toNat)) := opI fun i j _ _ _ _ _ hc q =>
  irshift_int hc (by rw [Int.fdiv_eq_ediv_of_nonneg i (two_pow_nn _)]; exact q)
theorem iop_and : OpR X (inplaceOp .BitAnd) (rI0 fun i j => .int (Builtin.bitAnd i j)) := opI0 fun _ _ _ _ _ _ _ q => iand_int q
theorem iop_or : OpR X (inplaceOp .BitOr) (rI0 fun i j => .int (Builtin.bitOr i j)) := opI0 fun _ _ _ _ _ _ _ q => ior_int q
theorem iop_xor : OpR X (inplaceOp .BitXor) (rI0 fun i j => .int (Builtin.bitXor i j)) := opI0 fun _ _ _ _ _ _ _ q => ixor_int q

theorem unI {f : Value → Sem Value} {g : Int → Int}
    (rule : ∀ (i : Int) (t : Tok) (s : Shared) (Q : Value → Shared → Prop) (E : Value → Shared → Prop), Q (.int (g i) s.toks) { s with toks := s.toks + 1 } → wpAny (model X.prog X.w) X.A (f (.int i t)) Q E s) :
    UnR X f (rU fun i => .int (g i)) := by
  intro pins s σ H x v Q I rx h
  obtain ⟨i, rfl, q⟩ := h
  obtain ⟨t, rfl⟩ := rx
  exact rule i t s _ _ ⟨.int (g i), H, I.tok _, ⟨_, rfl⟩, q⟩
theorem un_neg : UnR X (unaryOp .USub) (rU fun i => .int (-i)) := unI fun _ _ _ _ _ q => neg_int q
theorem un_inv : UnR X (unaryOp .Invert) (rU fun i => .int (Builtin.bitNot i)) := unI fun _ _ _ _ _ q => invert_int q

/-! ### bools among ints: n += (a < b) -/
theorem op_add_ib : OpR X (binaryOp .Add) (fun x y H Q => ∃ i k, x = .int i ∧ y = .bl k ∧ Q (.int (i + b2i k)) H) := by
  intro pins s σ H x y v u Q I rx ry h
  obtain ⟨i, k, rfl, rfl, q⟩ := h
  obtain ⟨t, rfl⟩ := rx
  cases ry
  exact add_int_bool ⟨.int (i + b2i k), H, I.tok _, ⟨_, rfl⟩, q⟩
end

/-! ### comparisons -/
/-- the scalars that == tells apart as data does -/
def scal : V → V → Bool
  | .non, .non => true | .non, .int _ => true | .int _, .non => true | .non, .bl _ => true | .bl _, .non => true | .non, .str _ => true | .str _, .non => true
  | .int _, .int _ => true | .bl _, .bl _ => true | .str _, .str _ => true | .byt _, .byt _ => true
  | .int _, .str _ => true | .str _, .int _ => true | .bl _, .str _ => true | .str _, .bl _ => true
  | _, _ => false
def rEq : R2 := fun x y H Q => scal x y = true ∧ Q (.bl (decide (x = y))) H
def rNe : R2 := fun x y H Q => scal x y = true ∧ Q (.bl (!decide (x = y))) H

theorem dec_int {i j : Int} : decide (V.int i = V.int j) = (i == j) := by
  rw [Bool.eq_iff_iff]
  simp
theorem dec_bl {i j : Bool} : decide (V.bl i = V.bl j) = (i == j) := by
  rw [Bool.eq_iff_iff]
  simp
theorem dec_str {i j : Str} : decide (V.str i = V.str j) = (i == j) := by
  rw [Bool.eq_iff_iff]
  simp
theorem dec_byt {i j : Array UInt8} : decide (V.byt i = V.byt j) = (i.toList == j.toList) := by
  rw [Bool.eq_iff_iff]
  cases i
  cases j
  simp

section
variable {X : Cx} {a b c : Expr} {ta tb tc : TE} {pos : Pos}
theorem fin_bl {pins : List (Addr × Obj)} {σ : St} {H : Hp} {s : Shared} {Q : VK} {k k' : Bool} (I : Inv X pins σ H s) (q : Q (.bl k) H) (e : k = k') : EP X pins σ Q (.bool k') s := by
  subst e
  exact ⟨.bl k, H, I, rfl, q⟩
theorem op_eq : OpR X (compareOp .Eq) rEq := by
  intro pins s σ H x y v u Q I rx ry h
  obtain ⟨hs, q⟩ := h
  cases x with
  | non =>
    cases rx
    cases y with
    | non => cases ry; exact PySem.EqNone.eq_none_none (fin_bl I q (by simp))
    | bl j => cases ry; exact PySem.EqNone.eq_none_bool (fin_bl I q (by simp))
    | int j => obtain ⟨t', rfl⟩ := ry; exact PySem.EqNone.eq_none_int (fin_bl I q (by simp))
    | str j => obtain ⟨t', rfl⟩ := ry; exact PySem.EqNone.eq_none_str (fin_bl I q (by simp))
    | _ => exact absurd (show false = true from hs) Bool.false_ne_true
  | bl i =>
    cases rx
    cases y with
    | non => cases ry; exact PySem.EqNone.eq_bool_none (fin_bl I q (by simp))
    | bl j => cases ry; exact eq_bool (fin_bl I q dec_bl)
    | str j => obtain ⟨t', rfl⟩ := ry; exact PySem.EqMixed.eq_bool_str (fin_bl I q (by simp))
    | _ => exact absurd (show false = true from hs) Bool.false_ne_true
  | int i =>
    obtain ⟨t, rfl⟩ := rx
    cases y with
    | non => cases ry; exact PySem.EqNone.eq_int_none (fin_bl I q (by simp))
    | int j => obtain ⟨t', rfl⟩ := ry; exact eq_int (fin_bl I q dec_int)
    | str j => obtain ⟨t', rfl⟩ := ry; exact PySem.EqMixed.eq_int_str (fin_bl I q (by simp))
    | _ => exact absurd (show false = true from hs) Bool.false_ne_true
  | str i =>
    obtain ⟨t, rfl⟩ := rx
    cases y with
    | non => cases ry; exact PySem.EqNone.eq_str_none (fin_bl I q (by simp))
    | bl j => cases ry; exact PySem.EqMixed.eq_str_bool (fin_bl I q (by simp))
    | int j => obtain ⟨t', rfl⟩ := ry; exact PySem.EqMixed.eq_str_int (fin_bl I q (by simp))
    | str j => obtain ⟨t', rfl⟩ := ry; exact eq_str (fin_bl I q dec_str)
    | _ => exact absurd (show false = true from hs) Bool.false_ne_true
  | byt i =>
    obtain ⟨t, rfl⟩ := rx
    cases y with
    | byt j => obtain ⟨t', rfl⟩ := ry; exact PySem.W.eq_bytes (fin_bl I q dec_byt)
    | _ => exact absurd (show false = true from hs) Bool.false_ne_true
  | _ => cases y <;> exact absurd (show false = true from hs) Bool.false_ne_true
theorem op_ne : OpR X (compareOp .NotEq) rNe := by
  intro pins s σ H x y v u Q I rx ry h
  obtain ⟨hs, q⟩ := h
  cases x with
  | non =>
    cases rx
    cases y with
    | non => cases ry; exact PySem.EqNone.ne_none_none (fin_bl I q (by simp))
    | bl j => cases ry; exact PySem.EqNone.ne_none_bool (fin_bl I q (by simp))
    | int j => obtain ⟨t', rfl⟩ := ry; exact PySem.EqNone.ne_none_int (fin_bl I q (by simp))
    | str j => obtain ⟨t', rfl⟩ := ry; exact PySem.EqNone.ne_none_str (fin_bl I q (by simp))
    | _ => exact absurd (show false = true from hs) Bool.false_ne_true
  | bl i =>
    cases rx
    cases y with
    | non => cases ry; exact PySem.EqNone.ne_bool_none (fin_bl I q (by simp))
    | bl j => cases ry; exact ne_bool (fin_bl I q (congrArg not dec_bl))
    | str j => obtain ⟨t', rfl⟩ := ry; exact PySem.EqMixed.ne_bool_str (fin_bl I q (by simp))
    | _ => exact absurd (show false = true from hs) Bool.false_ne_true
  | int i =>
    obtain ⟨t, rfl⟩ := rx
    cases y with
    | non => cases ry; exact PySem.EqNone.ne_int_none (fin_bl I q (by simp))
    | int j => obtain ⟨t', rfl⟩ := ry; exact ne_int (fin_bl I q (congrArg not dec_int))
    | str j => obtain ⟨t', rfl⟩ := ry; exact PySem.EqMixed.ne_int_str (fin_bl I q (by simp))
    | _ => exact absurd (show false = true from hs) Bool.false_ne_true
  | str i =>
    obtain ⟨t, rfl⟩ := rx
    cases y with
    | non => cases ry; exact PySem.EqNone.ne_str_none (fin_bl I q (by simp))
    | bl j => cases ry; exact PySem.EqMixed.ne_str_bool (fin_bl I q (by simp))
    | int j => obtain ⟨t', rfl⟩ := ry; exact PySem.EqMixed.ne_str_int (fin_bl I q (by simp))
    | str j => obtain ⟨t', rfl⟩ := ry; exact ne_str (fin_bl I q (congrArg not dec_str))
    | _ => exact absurd (show false = true from hs) Bool.false_ne_true
  | byt i =>
    obtain ⟨t, rfl⟩ := rx
    cases y with
    | byt j => obtain ⟨t', rfl⟩ := ry; exact PySem.W.ne_bytes (fin_bl I q (congrArg not dec_byt))
    | _ => exact absurd (show false = true from hs) Bool.false_ne_true
  | _ => cases y <;> exact absurd (show false = true from hs) Bool.false_ne_true

theorem op_lt : OpR X (compareOp .Lt) (rI0 fun i j => .bl (decide (i < j))) := opB0 fun _ _ _ _ _ _ _ q => lt_int q
theorem op_le : OpR X (compareOp .LtE) (rI0 fun i j => .bl (decide (i ≤ j))) := opB0 fun _ _ _ _ _ _ _ q => le_int q
theorem op_gt : OpR X (compareOp .Gt) (rI0 fun i j => .bl (decide (j < i))) := opB0 fun _ _ _ _ _ _ _ q => gt_int q
theorem op_ge : OpR X (compareOp .GtE) (rI0 fun i j => .bl (decide (j ≤ i))) := opB0 fun _ _ _ _ _ _ _ q => ge_int q
theorem op_lt_str : OpR X (compareOp .Lt) (fun x y H Q => ∃ i j, x = .str i ∧ y = .str j ∧ Q (.bl (decide (i.cps.toList < j.cps.toList))) H) := by
  intro pins s σ H x y v u Q I rx ry h
  obtain ⟨i, j, rfl, rfl, q⟩ := h
  obtain ⟨t, rfl⟩ := rx
  obtain ⟨t', rfl⟩ := ry
  exact lt_str (fin_bl I q rfl)
/-- the one string within the other -/
theorem op_in_str : OpR X (compareOp .In) (fun x y H Q => ∃ i j, x = .str i ∧ y = .str j ∧ Q (.bl (!(Builtin.Str.occurrences j i 0 j.length 1).isEmpty)) H) := by
  intro pins s σ H x y v u Q I rx ry h
  obtain ⟨i, j, rfl, rfl, q⟩ := h
  obtain ⟨t, rfl⟩ := rx
  obtain ⟨t', rfl⟩ := ry
  exact in_str (fin_bl I q rfl)

/-- is None, is not None: the right side a value none -/
theorem op_isN : OpR X (compareOp .Is) (fun x y H Q => y = .non ∧ Q (.bl (decide (x = .non))) H) := by
  intro pins s σ H x y v u Q I rx ry h
  obtain ⟨rfl, q⟩ := h
  cases ry
  refine is_none_gen (fin_bl I q ?_)
  cases x <;> first
    | (cases rx; rfl)
    | (obtain ⟨t, rfl⟩ := rx; rfl)
theorem op_notN : OpR X (compareOp .IsNot) (fun x y H Q => y = .non ∧ Q (.bl (!decide (x = .non))) H) := by
  intro pins s σ H x y v u Q I rx ry h
  obtain ⟨rfl, q⟩ := h
  cases ry
  refine isnot_none_gen (fin_bl I q ?_)
  cases x <;> first
    | (cases rx; rfl)
    | (obtain ⟨t, rfl⟩ := rx; rfl)

theorem op_notin_str : OpR X (compareOp .NotIn) (fun x y H Q => ∃ i j, x = .str i ∧ y = .str j ∧ Q (.bl (!(!(Builtin.Str.occurrences j i 0 j.length 1).isEmpty))) H) := by
  intro pins s σ H x y v u Q I rx ry h
  obtain ⟨i, j, rfl, rfl, q⟩ := h
  obtain ⟨t, rfl⟩ := rx
  obtain ⟨t', rfl⟩ := ry
  exact notIn_str (fin_bl I q rfl)
/-- is, is not of two objects that are tracked lists or instances -/
def isObj : HO → Bool
  | .lst _ => true
  | .ins _ _ _ => true
  | _ => false
theorem obj_there {pins : List (Addr × Obj)} {s : Shared} {σ : St} {H : Hp} {a : Addr} {o : HO} (I : Inv X pins σ H s) (h : H a = some o) (p : isObj o = true) : ∃ ob, s.heap.get? a = some ob ∧ ob.cls ≠ .type "tuple" := by
  cases o with
  | lst xs =>
    obtain ⟨_, its, n, _, e⟩ : xs.length ≤ sizeLine ∧ ∃ (its : List Value) (n : Nat), Vals xs its ∧ s.heap.get? a = some { cls := .type "list", data := .seq its.toArray n } := I.hok a _ h
    exact ⟨_, e, (by show Value.type "list" ≠ .type "tuple"; decide +kernel)⟩
  | ins C dx fs =>
    have x := I.hok a _ h
    obtain ⟨_, _, _, e, _⟩ := x
    exact ⟨_, e, (by show Value.ref C ≠ .type "tuple"; exact fun z => by cases z)⟩
  | _ => exact absurd (show false = true from p) Bool.false_ne_true
theorem op_is_ref : OpR X (compareOp .Is) (fun x y H Q => ∃ a b oa ob, x = .ref a ∧ y = .ref b ∧ H a = some oa ∧ isObj oa = true ∧ H b = some ob ∧ isObj ob = true ∧ Q (.bl (decide (a = b))) H) := by
  intro pins s σ H x y v u Q I rx ry h
  obtain ⟨a, b, oa, ob, rfl, rfl, ha, pa, hb, pb, q⟩ := h
  cases rx
  cases ry
  obtain ⟨o1, e1, n1⟩ := obj_there I ha pa
  obtain ⟨o2, e2, _⟩ := obj_there I hb pb
  by_cases z : a = b
  · subst z
    exact wpAny_is_ref_self (fin_bl I q (by simp))
  · exact wpAny_is_ref_other z e1 e2 n1 (fin_bl I q (by simp [z]))
theorem op_isnot_ref : OpR X (compareOp .IsNot) (fun x y H Q => ∃ a b oa ob, x = .ref a ∧ y = .ref b ∧ H a = some oa ∧ isObj oa = true ∧ H b = some ob ∧ isObj ob = true ∧ Q (.bl (!decide (a = b))) H) := by
  intro pins s σ H x y v u Q I rx ry h
  obtain ⟨a, b, oa, ob, rfl, rfl, ha, pa, hb, pb, q⟩ := h
  cases rx
  cases ry
  obtain ⟨o1, e1, n1⟩ := obj_there I ha pa
  obtain ⟨o2, e2, _⟩ := obj_there I hb pb
  by_cases z : a = b
  · subst z
    exact wpAny_isNot_ref_self (fin_bl I q (by simp))
  · exact wpAny_isNot_ref_other z e1 e2 n1 (fin_bl I q (by simp [z]))

/-- two rules for one operation: by cases -/
theorem OpR.or {f : Value → Value → Sem Value} {r r' : R2} (h : OpR X f r) (h' : OpR X f r') : OpR X f (fun x y H Q => r x y H Q ∨ r' x y H Q) := by
  intro pins s σ H x y v u Q I rx ry q
  rcases q with q | q
  · exact h pins s σ H x y v u Q I rx ry q
  · exact h' pins s σ H x y v u Q I rx ry q

theorem nomark (b : Expr) {op : CmpOp} (h : op ≠ .In := by decide) (h2 : op ≠ .NotIn := by decide) : behindInMarks op b = false := by
  have e1 : (op == CmpOp.In) = false := by cases op <;> first | rfl | exact absurd rfl h
  have e2 : (op == CmpOp.NotIn) = false := by cases op <;> first | rfl | exact absurd rfl h2
  cases b <;> simp [behindInMarks, e1, e2]
/-- a comparison as a value; hm: nomark b, or (for in, not in) by with_unfolding_all rfl -/
theorem pe_cmpR {op : CmpOp} {r : R2} (ho : OpR X (compareOp op) r) (ha : PE X a ta) (hb : PE X b tb) (hm : behindInMarks op b = false) : PE X (.Compare a [op] [b] pos) (tOp r ta tb) := by
  intro pins s σ H Q I h
  exact wpAny_Compare1 (binT ha hb I h fun v u s2 x y H2 I2 rx ry q => ho pins s2 σ H2 x y v u Q I2 rx ry q) hm
/-- a reading of a value as a test -/
def tTest (t : TE) : TT := fun σ H Q => t σ H fun x H' => ∃ k, x = .bl k ∧ Q k H'
theorem pt_cmpR {op : CmpOp} {r : R2} (ho : OpR X (compareOp op) r) (ha : PE X a ta) (hb : PE X b tb) (hm : behindInMarks op b = false) : PT X (.Compare a [op] [b] pos) (tTest (tOp r ta tb)) := by
  intro pins s σ H Q I h
  refine wpAny_isTrue_Compare1 (thn (ha pins s σ H _ I h) fun v s1 ⟨x, H1, I1, r1, q1⟩ => thn (hb pins s1 σ H1 _ I1 q1) fun u s2 ⟨y, H2, I2, r2, q2⟩ =>
    thn (ho pins s2 σ H2 x y v u _ I2 r1 r2 q2) fun c s3 ⟨z, H3, I3, r3, k, e, q3⟩ => ?_) hm
  subst e
  cases r3
  exact wpAny_truthy_bool ⟨H3, I3, q3⟩
/-- a op1 b op2 c -/
def tChain (r r' : R2) (ta tb tc : TE) : TE := fun σ H Q => ta σ H fun x H1 => tb σ H1 fun y H2 => r x y H2 fun z H3 => ∃ k, z = .bl k ∧
  (if k = true then tc σ H3 fun w' H4 => r' y w' H4 Q else Q (.bl false) H3)
theorem pe_chain {op op' : CmpOp} {r r' : R2} (ho : OpR X (compareOp op) r) (ho' : OpR X (compareOp op') r') (ha : PE X a ta) (hb : PE X b tb) (hc : PE X c tc)
    (hm : lastMarks [op, op'] [b, c] = false := by with_unfolding_all rfl) : PE X (.Compare a [op, op'] [b, c] pos) (tChain r r' ta tb tc) := by
  intro pins s σ H Q I h
  refine Compare_chain (thn (ha pins s σ H _ I h) fun v s1 ⟨x, H1, I1, r1, q1⟩ => chain_link (thn (hb pins s1 σ H1 _ I1 q1) fun u s2 ⟨y, H2, I2, r2, q2⟩ =>
    thn (ho pins s2 σ H2 x y v u _ I2 r1 r2 q2) fun d s3 ⟨z, H3, I3, r3, k, e, q3⟩ => ?_)) hm
  subst e
  cases r3
  refine wpAny_truthy_bool ?_
  cases k with
  | false => exact ite_ff ⟨.bl false, H3, I3, rfl, q3⟩
  | true => exact ite_tt (chain_last (thn (hc pins s3 σ H3 _ I3 q3) fun w' s4 ⟨z', H4, I4, r4, q4⟩ => ho' pins s4 σ H4 y z' u w' Q I4 r2 r4 q4))
theorem pt_chain {op op' : CmpOp} {r r' : R2} (ho : OpR X (compareOp op) r) (ho' : OpR X (compareOp op') r') (ha : PE X a ta) (hb : PE X b tb) (hc : PE X c tc)
    (hm : lastMarks [op, op'] [b, c] = false := by with_unfolding_all rfl) : PT X (.Compare a [op, op'] [b, c] pos) (tTest (tChain r r' ta tb tc)) := by
  intro pins s σ H Q I h
  refine isTrue_chain (thn (ha pins s σ H _ I h) fun v s1 ⟨x, H1, I1, r1, q1⟩ => test_link (thn (hb pins s1 σ H1 _ I1 q1) fun u s2 ⟨y, H2, I2, r2, q2⟩ =>
    thn (ho pins s2 σ H2 x y v u _ I2 r1 r2 q2) fun d s3 ⟨z, H3, I3, r3, k, e, q3⟩ => ?_)) hm
  subst e
  cases r3
  refine wpAny_truthy_bool ?_
  cases k with
  | false =>
    obtain ⟨k', e', q'⟩ := q3
    cases e'
    exact ite_ff ⟨H3, I3, q'⟩
  | true =>
    refine ite_tt (test_last (thn (hc pins s3 σ H3 _ I3 q3) fun w' s4 ⟨z', H4, I4, r4, q4⟩ => thn (ho' pins s4 σ H4 y z' u w' _ I4 r2 r4 q4) fun d' s5 ⟨z2, H5, I5, r5, k2, e2, q5⟩ => ?_))
    subst e2
    cases r5
    exact wpAny_truthy_bool ⟨H5, I5, q5⟩

/-! ### truth -/
/-- a value's truth by the abstract heap -/
def TruV (K : PySem.W.Frag) (x : V) (H : Hp) (k : Bool) : Prop :=
  match x with
  | .non => k = false
  | .bl b => k = b
  | .int i => k = (i != 0)
  | .str y => y.length ≤ sizeLine ∧ k = ((y.length : Int) != 0)
  | .byt y => y.size ≤ sizeLine ∧ k = ((y.size : Int) != 0)
  | .ref p => (∃ xs, SqL K H p xs ∧ k = !xs.isEmpty) ∨ (∃ xs, SqT K H p xs ∧ k = !xs.isEmpty) ∨ ∃ kvs, H p = some (.dK kvs) ∧ k = !kvs.isEmpty
  | _ => False
theorem isEmpty_kv {κ : Type} {kvs : List (κ × V)} {vs : List (κ × Value)} (r : KV kvs vs) : (!vs.isEmpty) = !kvs.isEmpty := by
  cases r <;> rfl
theorem isEmpty_of {xs : List V} {its : List Value} (r : Vals xs its) : (!its.toArray.isEmpty) = !xs.isEmpty := by
  cases r <;> simp
theorem line63 : (sizeLine : Nat) < 2 ^ 63 := by rw [sizeLine_eq]; decide
theorem tru_ok : TruR X (fun x H Q => ∃ k, TruV X.K x H k ∧ Q k H) := by
  intro pins s σ H x v Q I rx h
  obtain ⟨k, e, q⟩ := h
  have hl := line63
  have hs : sizeLine = 16777216 := sizeLine_eq
  cases x with
  | non =>
    cases rx
    have e' : k = false := e
    subst e'
    exact truthy_none ⟨H, I, q⟩
  | bl b =>
    cases rx
    have e' : k = b := e
    subst e'
    exact wpAny_truthy_bool ⟨H, I, q⟩
  | int i =>
    obtain ⟨t, rfl⟩ := rx
    have e' : k = (i != 0) := e
    subst e'
    exact PySem.P.truthy_int ⟨H, I, q⟩
  | str y =>
    obtain ⟨t, rfl⟩ := rx
    obtain ⟨hy, e'⟩ : y.length ≤ sizeLine ∧ k = ((y.length : Int) != 0) := e
    subst e'
    exact PySem.P.truthy_str (by omega) ⟨H, I.tok _, q⟩
  | byt y =>
    obtain ⟨t, rfl⟩ := rx
    obtain ⟨hy, e'⟩ : y.size ≤ sizeLine ∧ k = ((y.size : Int) != 0) := e
    subst e'
    exact PySem.W.truthy_bytes (by omega) ⟨H, I.tok _, q⟩
  | ref p =>
    cases rx
    have e' : (∃ xs, SqL X.K H p xs ∧ k = !xs.isEmpty) ∨ (∃ xs, SqT X.K H p xs ∧ k = !xs.isEmpty) ∨ ∃ kvs, H p = some (.dK kvs) ∧ k = !kvs.isEmpty := e
    rcases e' with ⟨xs, hx, e'⟩ | ⟨xs, hx, e'⟩ | ⟨kvs, hx, e'⟩
    · subst e'
      obtain ⟨its, r, pl, hz⟩ := I.list hx
      have hlen := r.length
      exact wpAny_truthy_list pl.isList (by simp only [List.size_toArray]; omega) ⟨H, I.tok _, by rw [isEmpty_of r]; exact q⟩
    · subst e'
      obtain ⟨its, r, pl, hz⟩ := I.tuple hx
      have hlen := r.length
      exact truthy_tuple pl (by simp only [List.size_toArray]; omega) ⟨H, I.tok _, by rw [isEmpty_of r]; exact q⟩
    · subst e'
      obtain ⟨hz, hS, vs, r, m⟩ : kvs.length ≤ sizeLine ∧ (p == sysModules) = false ∧ ∃ vs, KV kvs vs ∧ s.heap.DictOf (mixKind X.prog X.w) p vs := I.hok p _ hx
      have hlen : kvs.length = vs.length := Paired.length r
      exact wpAny_truthy_dict hS m (by omega) ⟨H, I.tok _, by rw [isEmpty_kv r]; exact q⟩
  | _ => exact (show False from e).elim
/-- any expression whose test is its value's truth (a name, a call, a subscript, a field ..: he by fun _ => rfl) -/
theorem pt_truth (ha : PE X a ta) (he : ∀ whole, isTrue a X.env whole = (do let v ← whole; standAt a.pos; holding [v] (truthy v))) :
    PT X a (fun σ H Q => ta σ H fun x H' => ∃ k, TruV X.K x H' k ∧ Q k H') := by
  intro pins s σ H Q I h
  exact isTrue_plain (thn (ha pins s σ H _ I h) fun v s1 ⟨x, H1, I1, r1, q1⟩ => tru_ok pins s1 σ H1 x v Q I1 r1 q1) (he _)

/-! ### strs and bytes -/
theorem pe_byt {x : List UInt8} {k : Nat} : PE X (.Constant (.bytes x) k pos) (fun _ H Q => Q (.byt x.toArray) H) := fun _ _ _ H _ I h => PySem.W.Constant_bytes ⟨.byt x.toArray, H, I.tok _, ⟨_, rfl⟩, h⟩
theorem op_add_str : OpR X (binaryOp .Add) (fun x y H Q => ∃ i j, x = .str i ∧ y = .str j ∧ i.length + j.length ≤ sizeLine ∧ Q (.str (i ++ j)) H) := by
  intro pins s σ H x y v u Q I rx ry h
  obtain ⟨i, j, rfl, rfl, hz, q⟩ := h
  obtain ⟨t, rfl⟩ := rx
  obtain ⟨t', rfl⟩ := ry
  exact add_str (fun t' tk => ⟨.str (i ++ j), H, I.tok _, ⟨_, rfl⟩, q⟩) hz
theorem iop_add_str : OpR X (inplaceOp .Add) (fun x y H Q => ∃ i j, x = .str i ∧ y = .str j ∧ i.length + j.length ≤ sizeLine ∧ Q (.str (i ++ j)) H) := by
  intro pins s σ H x y v u Q I rx ry h
  obtain ⟨i, j, rfl, rfl, hz, q⟩ := h
  obtain ⟨t, rfl⟩ := rx
  obtain ⟨t', rfl⟩ := ry
  exact iadd_str (fun t' tk => ⟨.str (i ++ j), H, I.tok _, ⟨_, rfl⟩, q⟩) hz
theorem op_add_byt : OpR X (binaryOp .Add) (fun x y H Q => ∃ i j, x = .byt i ∧ y = .byt j ∧ i.size + j.size ≤ 16777216 ∧ Q (.byt (i ++ j)) H) := by
  intro pins s σ H x y v u Q I rx ry h
  obtain ⟨i, j, rfl, rfl, hz, q⟩ := h
  obtain ⟨t, rfl⟩ := rx
  obtain ⟨t', rfl⟩ := ry
  exact PySem.W.KBy.add_bytes hz (fun t' tk => ⟨.byt (i ++ j), H, I.tok _, ⟨_, rfl⟩, q⟩)

def PlainIxT (b : Expr) : Prop := ∀ o i, subscripted b false o i = operate [o, i] (getItem o i)
/-- s[i], 0 ≤ i < len -/
theorem pe_item_str (ha : PE X a ta) (hb : PE X b tb) (hs : PlainIxT b) :
    PE X (.Subscript a b pos) (tOp (fun x y H Q => ∃ z i c, x = .str z ∧ y = .int i ∧ 0 ≤ i ∧ i < 2 ^ 63 ∧ i < z.length ∧ z.cps[i.toNat]? = some c ∧ Q (.str ⟨#[c]⟩) H) ta tb) := by
  intro pins s σ H Q I h
  refine Subscript_ (binT ha hb I h fun v u s2 x y H2 I2 rx ry q => ?_)
  obtain ⟨z, i, c, rfl, rfl, h0, h63, h1, hc, q⟩ := q
  obtain ⟨t, rfl⟩ := rx
  obtain ⟨t', rfl⟩ := ry
  have e : seqIndex? i z.length = some i.toNat := PySem.StrLaws.seqIndex_nonneg h0 h1
  exact tail_any (typeIs_str s2 z t) slot_str_getitem.lookup (getItem_str (c := c) (by
    have e1 : decide (i < -(2 ^ 63 : Int)) = false := decide_eq_false (by omega)
    have e2 : decide (i ≥ 2 ^ 63) = false := decide_eq_false (by omega)
    rw [e1, e2] <;> rfl) (by rw [e]; exact hc) ⟨.str ⟨#[c]⟩, H2, I2.tok _, ⟨_, rfl⟩, q⟩) (hs _ _)
/-- b[i], 0 ≤ i < len -/
theorem pe_item_byt (ha : PE X a ta) (hb : PE X b tb) (hs : PlainIxT b) :
    PE X (.Subscript a b pos) (tOp (fun x y H Q => ∃ (z : List UInt8) (i : Int), x = .byt z.toArray ∧ y = .int i ∧ z.length ≤ sizeLine ∧ 0 ≤ i ∧ i < z.length ∧ Q (.int ((z.getD i.toNat 0).toNat : Nat)) H) ta tb) := by
  intro pins s σ H Q I h
  refine Subscript_ (binT ha hb I h fun v u s2 x y H2 I2 rx ry q => ?_)
  obtain ⟨z, i, rfl, rfl, hz, h0, h1, q⟩ := q
  obtain ⟨t, rfl⟩ := rx
  obtain ⟨t', rfl⟩ := ry
  have hl : sizeLine = 16777216 := sizeLine_eq
  exact tail_any (PySem.W.typeIs_bytes s2 z.toArray t) PySem.W.FB.slot_bytes_getitem.lookup (PySem.W.getItem_bytes (by omega) h0 h1 ⟨.int ((z.getD i.toNat 0).toNat : Nat), H2, I2.tok _, ⟨_, rfl⟩, q⟩) (hs _ _)

/-! ### scalar builtins, by CallR -/
theorem vals1 {x : V} {us : List Value} (r : Vals [x] us) : ∃ u, us = [u] ∧ RelV x u := by
  cases r with
  | cons r1 r2 => cases r2; exact ⟨_, rfl, r1⟩
theorem vals2 {x y : V} {us : List Value} (r : Vals [x, y] us) : ∃ u w', us = [u, w'] ∧ RelV x u ∧ RelV y w' := by
  cases r with
  | cons r1 r2 =>
    cases r2 with
    | cons r3 r4 => cases r4; exact ⟨_, _, rfl, r1, r3⟩
theorem call_abs : CallR X (.builtin "abs") (fun xs H Q => ∃ i, xs = [.int i] ∧ Q (.int (if i < 0 then -i else i)) H) := by
  intro pins s σ H xs us Q I r h
  obtain ⟨i, rfl, q⟩ := h
  obtain ⟨u, rfl, t, rfl⟩ := vals1 r
  exact call_abs_int fun u tk => ⟨.int (if i < 0 then -i else i), H, I.tok _, ⟨_, rfl⟩, q⟩
theorem call_max2 (hc : X.calm = true) : CallR X (.builtin "max") (fun xs H Q => ∃ i j, xs = [.int i, .int j] ∧ Q (.int (if j > i then j else i)) H) := by
  intro pins s σ H xs us Q I r h
  obtain ⟨i, j, rfl, q⟩ := h
  obtain ⟨u, w', rfl, ⟨t, rfl⟩, ⟨t', rfl⟩⟩ := vals2 r
  refine max_two_ints (I.ok.hd hc) fun h' tk k => ⟨_, H, I.kept k, ?_, q⟩
  by_cases hj : j > i
  · rw [if_pos hj, if_pos hj]; exact ⟨_, rfl⟩
  · rw [if_neg hj, if_neg hj]; exact ⟨_, rfl⟩
theorem call_min2 (hc : X.calm = true) : CallR X (.builtin "min") (fun xs H Q => ∃ i j, xs = [.int i, .int j] ∧ Q (.int (if j < i then j else i)) H) := by
  intro pins s σ H xs us Q I r h
  obtain ⟨i, j, rfl, q⟩ := h
  obtain ⟨u, w', rfl, ⟨t, rfl⟩, ⟨t', rfl⟩⟩ := vals2 r
  refine min_two_ints (I.ok.hd hc) fun h' tk k => ⟨_, H, I.kept k, ?_, q⟩
  by_cases hj : j < i
  · rw [if_pos hj, if_pos hj]; exact ⟨_, rfl⟩
  · rw [if_neg hj, if_neg hj]; exact ⟨_, rfl⟩
theorem call_int1 : CallR X (.type "int") (fun xs H Q => (∃ i, xs = [.int i] ∧ Q (.int i) H) ∨ ∃ k, xs = [.bl k] ∧ Q (.int (if k then 1 else 0)) H) := by
  intro pins s σ H xs us Q I r h
  rcases h with ⟨i, rfl, q⟩ | ⟨k, rfl, q⟩
  · obtain ⟨u, rfl, t, rfl⟩ := vals1 r
    exact call_int_int ⟨.int i, H, I, ⟨_, rfl⟩, q⟩
  · obtain ⟨u, rfl, r1⟩ := vals1 r
    cases r1
    exact call_int_bool ⟨.int (if k then 1 else 0), H, I.tok _, ⟨_, rfl⟩, q⟩
theorem call_bool1 : CallR X (.type "bool") (fun xs H Q => (∃ i, xs = [.int i] ∧ Q (.bl (i != 0)) H) ∨ ∃ k, xs = [.bl k] ∧ Q (.bl k) H) := by
  intro pins s σ H xs us Q I r h
  rcases h with ⟨i, rfl, q⟩ | ⟨k, rfl, q⟩
  · obtain ⟨u, rfl, t, rfl⟩ := vals1 r
    exact call_bool_int ⟨.bl (i != 0), H, I, rfl, q⟩
  · obtain ⟨u, rfl, r1⟩ := vals1 r
    cases r1
    exact call_bool_bool ⟨.bl k, H, I, rfl, q⟩
theorem call_str_int : CallR X (.type "str") (fun xs H Q => ∃ i, xs = [.int i] ∧ i.natAbs.log2 < 1920 ∧ Q (.str (toString i)) H) := by
  intro pins s σ H xs us Q I r h
  obtain ⟨i, rfl, hz, q⟩ := h
  obtain ⟨u, rfl, t, rfl⟩ := vals1 r
  exact PySem.P.str_of_int hz ⟨.str _, H, I.tok _, ⟨_, rfl⟩, q⟩
theorem call_ord : CallR X (.builtin "ord") (fun xs H Q => ∃ x, xs = [.str x] ∧ x.length = 1 ∧ Q (.int (x.cps.getD 0 0 : Nat)) H) := by
  intro pins s σ H xs us Q I r h
  obtain ⟨x, rfl, hz, q⟩ := h
  obtain ⟨u, rfl, t, rfl⟩ := vals1 r
  exact ord_of_one hz ⟨.int _, H, I.tok _, ⟨_, rfl⟩, q⟩
theorem call_chr : CallR X (.builtin "chr") (fun xs H Q => ∃ i, xs = [.int i] ∧ 0 ≤ i ∧ i ≤ 1114111 ∧ Q (.str ⟨#[i.toNat]⟩) H) := by
  intro pins s σ H xs us Q I r h
  obtain ⟨i, rfl, h0, h1, q⟩ := h
  obtain ⟨u, rfl, t, rfl⟩ := vals1 r
  exact chr_of_range h0 h1 ⟨.str _, H, I.tok _, ⟨_, rfl⟩, q⟩
/-- len of a str, a bytes, a list, a tuple -/
def LenV (K : PySem.W.Frag) (x : V) (H : Hp) (n : Nat) : Prop :=
  match x with
  | .str y => y.length ≤ sizeLine ∧ n = y.length
  | .byt y => y.size ≤ sizeLine ∧ n = y.size
  | .ref p => (∃ xs, SqL K H p xs ∧ n = xs.length) ∨ ∃ xs, SqT K H p xs ∧ n = xs.length
  | _ => False
theorem call_len : CallR X (.builtin "len") (fun xs H Q => ∃ x n, xs = [x] ∧ LenV X.K x H n ∧ Q (.int n) H) := by
  intro pins s σ H xs us Q I r h
  obtain ⟨x, n, rfl, e, q⟩ := h
  obtain ⟨u, rfl, rx⟩ := vals1 r
  have hl := line63
  have hs : sizeLine = 16777216 := sizeLine_eq
  cases x with
  | str y =>
    obtain ⟨t, rfl⟩ := rx
    obtain ⟨hy, e'⟩ : y.length ≤ sizeLine ∧ n = y.length := e
    subst e'
    exact len_str (by omega) ⟨.int _, H, I.tok _, ⟨_, rfl⟩, q⟩
  | byt y =>
    obtain ⟨t, rfl⟩ := rx
    obtain ⟨hy, e'⟩ : y.size ≤ sizeLine ∧ n = y.size := e
    subst e'
    exact PySem.W.len_bytes (by omega) ⟨.int _, H, I.tok _, ⟨_, rfl⟩, q⟩
  | ref p =>
    cases rx
    have e' : (∃ xs, SqL X.K H p xs ∧ n = xs.length) ∨ ∃ xs, SqT X.K H p xs ∧ n = xs.length := e
    rcases e' with ⟨xs, hx, e'⟩ | ⟨xs, hx, e'⟩
    · subst e'
      obtain ⟨its, r', pl, hz⟩ := I.list hx
      have hlen := r'.length
      exact Calls.call_len_list pl.isList (by simp only [List.size_toArray]; omega) ⟨.int xs.length, H, I.tok _, ⟨_, by simp only [List.size_toArray]; rw [hlen]⟩, q⟩
    · subst e'
      obtain ⟨its, r', pl, hz⟩ := I.tuple hx
      have hlen := r'.length
      exact len_tuple pl (by simp only [List.size_toArray]; omega) ⟨.int xs.length, H, I.tok _, ⟨_, by simp only [List.size_toArray]; rw [hlen]⟩, q⟩
  | _ => exact (show False from e).elim
/-- divmod: a new tuple -/
theorem call_divmod : CallR X (.builtin "divmod") (fun xs H Q => ∃ i j, xs = [.int i, .int j] ∧ CDiv i j ∧ ∀ p, H p = none → Q (.ref p) (upd H p (.tup [.int (i / j), .int (i % j)]))) := by
  intro pins s σ H xs us Q I r h
  obtain ⟨i, j, rfl, ⟨h1, h2⟩, q⟩ := h
  obtain ⟨u, w', rfl, ⟨t, rfl⟩, ⟨t', rfl⟩⟩ := vals2 r
  refine divmod_int (by omega) ?_ (.inl (PyProof.noPylong_small (by omega)))
  rw [Int.fdiv_eq_ediv_of_nonneg i (by omega), Int.fmod_eq_emod_of_nonneg i (by omega)]
  have hn : H s.heap.objs.size = none := I.hok.fresh (Nat.le_refl _)
  refine ⟨.ref s.heap.objs.size, _, ?_, rfl, q _ hn⟩
  refine I.laid (fun b o e => Heap.get?_push_of_some _ e) (Nat.le_refl _) ⟨by simp only [List.length_cons, List.length_nil]; rw [sizeLine_eq]; decide, [.int (i / j) s.toks, .int (i % j) (s.toks + 1)], .cons ⟨_, rfl⟩ (.cons ⟨_, rfl⟩ .nil), ?_⟩
  exact ⟨_, Heap.get?_push_size s.heap rfl, rfl, 0, rfl⟩
end
end L2

namespace L2
open PySem PySem.Spec PyProof.Rows

/-! ### an instance, its attributes a map -/
structure ObjM (h : Heap) (x dx C : Addr) (mA : Str → Option Value) : Prop where
  obj : h.get? x = some (PySem.W.instObj C dx)
  ns : h.Ns1 dx mA
  ne : dx ≠ x

theorem lookIn_ns {h : Heap} {dx : Addr} {mA : Str → Option Value} (n : h.Ns1 dx mA) : ∃ od, h.get? dx = some od ∧ ∀ name, PySem.W.lookIn name od = some (mA name) := by
  obtain ⟨o, es, ep, ho, hd, hk, _, hm⟩ := n
  refine ⟨o, ho, fun name => ?_⟩
  have e := hm name
  unfold nsFind findBy at e
  rw [← Array.find?_toList] at e
  unfold PySem.W.lookIn
  rw [hd]
  dsimp only
  split
  · rename_i y q
    rw [q] at e
    exact congrArg some e
  · rename_i q
    rw [q] at e
    have a : es.toList.any (·.refKey) = false := by
      rw [List.any_eq_false]
      intro y hy
      obtain ⟨z, t, hkey⟩ := hk y (Array.mem_toList_iff.mp hy)
      simp [DictEntry.refKey, hkey]
    have a' : ¬ es.toList.any (·.refKey) = true := by rw [a]; exact Bool.false_ne_true
    rw [if_neg a']
    exact congrArg some e

theorem ObjM.look {h : Heap} {x dx C : Addr} {mA : Str → Option Value} (I : ObjM h x dx C mA) : ∃ od, PySem.W.InstAt h x (PySem.W.instObj C dx) C (some od) ∧ ∀ name, PySem.W.lookIn name od = some (mA name) :=
  let ⟨od, ho, hl⟩ := lookIn_ns I.ns
  ⟨od, ⟨I.obj, rfl, rfl, ho⟩, hl⟩

section
variable {prog : Program} {w : World} {A : Around} {E : Value → Shared → Prop} {s : Shared} {K : PySem.W.Frag} {x dx C f : Addr} {mA : Str → Option Value} {name : Str} {v : Value}

theorem get_map {expr : Bool} {Q : Value → Shared → Prop} (X : K.In s.heap) (I : ObjM s.heap x dx C mA) (hg : PySem.W.plainGet K C name = true) (hh : PySem.W.hasDictIn K C = true)
    (ha : PySem.W.findIn K (.ref C) name = some none) (hv : mA name = some v) (hv' : PySem.W.handedIn v = true) (h : Q v { s with toks := s.toks + 1 }) :
    wpAny (model prog w) A (getAttr (.ref x) name expr) Q E s := by
  obtain ⟨od, J, hl⟩ := I.look
  exact PySem.W.get_value X J (PySem.W.plainGet_of hg).1 (PySem.W.findObj_own hh ha rfl (by rw [hl, hv])) hv' h

theorem get_const {expr : Bool} {a : Value} {Q : Value → Shared → Prop} (X : K.In s.heap) (I : ObjM s.heap x dx C mA) (hg : PySem.W.plainGet K C name = true) (hh : PySem.W.hasDictIn K C = true)
    (ha : PySem.W.findIn K (.ref C) name = some (some a)) (hn : PySem.W.specialIn K a "__get__" = some none) (hc : PySem.W.copiedNames.contains name = false) (hv : mA name = none) (hv' : PySem.W.handedIn a = true)
    (h : Q a { s with toks := s.toks + 1 }) : wpAny (model prog w) A (getAttr (.ref x) name expr) Q E s := by
  obtain ⟨od, J, hl⟩ := I.look
  exact PySem.W.get_value X J (PySem.W.plainGet_of hg).1 (PySem.W.findObj_cls hh ha hn hv' hc (by rw [hl, hv])) hv' h

theorem get_meth {pl : Sem Bool} {Q : Value × List Value → Shared → Prop} (X : K.In s.heap) (I : ObjM s.heap x dx C mA) (hg : PySem.W.plainGet K C name = true)
    (hf : PySem.W.findIn K (.ref C) name = some (some (.ref f))) (ht : PySem.W.isFn K (.ref f) = true) (hv : mA name = none) (h : Q (.ref f, [.ref x]) s) :
    wpAny (model prog w) A (getMethod (.ref x) name pl) Q E s := by
  obtain ⟨od, J, hl⟩ := I.look
  exact PySem.W.method_fn X J (PySem.W.plainGet_of hg).1 (PySem.W.plainGet_of hg).2 hf (beq_iff_eq.mp ht) (by show (PySem.W.lookIn name od).map (·.isSome) = some false; rw [hl, hv]; rfl) h

theorem set_map {ns : List Str} {Q : Unit → Shared → Prop} (X : K.In s.heap) (I : ObjM s.heap x dx C mA)
    (hs : PySem.W.findIn K (.ref C) "__setattr__" = some (some (.builtin "object.__setattr__"))) (hp : PySem.W.plainOver K C = true) (ht : PySem.W.takerIn K C name = some none) (hh : PySem.W.hasDictIn K C = true)
    (hw : PySem.Within mA ns) (hsz : ns.length ≤ sizeLine)
    (h : ∀ h', ObjM h' x dx C (fun y => if y = name then some v else mA y) → Heap.SameBut dx s.heap h' → Q () { s with heap := h', toks := s.toks + 2 }) :
    wpAny (model prog w) A (setAttr (.ref x) name v) Q E s := by
  obtain ⟨od, J, hl⟩ := I.look
  refine PySem.W.set_plain X J hs (PySem.W.osa_open (s := { s with toks := s.toks + 1 }) (r := none) X J hp ht fun b => ?_)
  obtain ⟨cd, hc, hd'⟩ := PySem.W.any_some hh
  have hx : s.heap.get? x = some ⟨.ref C, some dx, .plain, #[]⟩ := I.obj
  refine wpAny_bind (wpAny_pure (wpAny_bind (wpAny_bind (wpAny_loadPart hx (wpAny_bind (PySem.W.Looks.here (s := { s with toks := s.toks + 1 }) (PySem.W.looks_clsIn X hc) ?_))))))
  rw [hd']
  refine wpAny_pure (a := some dx) (wpAny_bind (wpAny_pure (wpAny_bind ?_)))
  refine wpAny_nsSet1 (s := { s with toks := s.toks + 1 }) I.ns fun h' hn2 hs2 => ?_
  obtain ⟨oD, esD, epD, hoD, hdD, hcD⟩ := hn2.count (PySem.Within.cons name v hw)
  refine wpAny_bind (wpAny_lookBehind hoD (by rw [hdD]; exact pastItsLine_dict (Nat.le_trans hcD (by rw [List.length_cons]; omega))) ?_)
  exact wpAny_pure (h _ ⟨(hs2.2 _ (Ne.symm I.ne)).trans I.obj, hn2, I.ne⟩ hs2)

/-- C(..): the dict at the heap's end, the instance behind it; then its __init__ -/
theorem make_map {R : Result → Shared → Prop} {vs : List Value} {kw : List (Str × Value)} (X : K.In s.heap) (hm : PySem.W.makesIn K C = true)
    (hi : PySem.W.findIn K (.ref C) "__init__" = some (some (.ref f))) (hf : PySem.W.typeIn K (.ref f) = some (.type "function"))
    (h : codeAny (model prog w) (A.under (.builtin "type.__call__" ⟨.ref C :: vs, kw⟩)) (.call (.ref f) ⟨.ref (s.heap.objs.size + 1) :: vs, kw⟩) (PySem.W.InitBack (s.heap.objs.size + 1) R)
      { s with heap := (s.heap.push PySem.W.emptyDict).push (PySem.W.instObj C s.heap.objs.size) }) :
    codeAny (model prog w) A (.call (.ref C) ⟨vs, kw⟩) R s := by
  obtain ⟨hh, g, d, t, os⟩ := s
  exact PySem.W.make_core (PySem.W.makes_of X hm) (PySem.W.looks_findIn X hi) (fun self => PySem.W.bind_fn X self hf) (.inl rfl) h
/-- C() where there is no __init__ but object's -/
theorem make_map0 {R : Result → Shared → Prop} (X : K.In s.heap) (hm : PySem.W.makesIn K C = true)
    (hi : PySem.W.findIn K (.ref C) "__init__" = some (some (.builtin "object.__init__")))
    (hb : ∀ self, PySem.W.Looks (model prog w) s.heap (bindSpecial (.builtin "object.__init__") self) (.builtin "object.__init__", [self]))
    (h : codeAny (model prog w) (A.under (.builtin "type.__call__" ⟨[.ref C], []⟩)) (.call (.builtin "object.__init__") ⟨[.ref (s.heap.objs.size + 1)], []⟩) (PySem.W.InitBack (s.heap.objs.size + 1) R)
      { s with heap := (s.heap.push PySem.W.emptyDict).push (PySem.W.instObj C s.heap.objs.size) }) :
    codeAny (model prog w) A (.call (.ref C) ⟨[], []⟩) R s := by
  obtain ⟨hh, g, d, t, os⟩ := s
  exact PySem.W.make_core (PySem.W.makes_of X hm) (PySem.W.looks_findIn X hi) hb (.inr ⟨rfl, rfl⟩) h
end

/-! ### the attributes as a list of pairs -/
def putF (f : Str) (v : V) : List (Str × V) → List (Str × V)
  | [] => [(f, v)]
  | (g, x) :: r => if g = f then (g, v) :: r else (g, x) :: putF f v r
theorem lookup_putF (f g : Str) (v : V) : ∀ fs : List (Str × V), (putF f v fs).lookup g = if g = f then some v else fs.lookup g
  | [] => by
    show List.lookup g [(f, v)] = _
    by_cases h : g = f
    · have hb : (g == f) = true := beq_iff_eq.mpr h
      simp only [List.lookup, hb, if_pos h]
    · have hb : (g == f) = false := beq_eq_false_iff_ne.mpr h
      simp only [List.lookup, hb, if_neg h]
  | (k, x) :: r => by
    have ih := lookup_putF f g v r
    rw [show putF f v ((k, x) :: r) = (if k = f then (k, v) :: r else (k, x) :: putF f v r) from rfl]
    by_cases hk : k = f
    · rw [if_pos hk]
      by_cases h : g = k
      · have hb : (g == k) = true := beq_iff_eq.mpr h
        simp only [List.lookup, hb, if_pos (h.trans hk)]
      · have hb : (g == k) = false := beq_eq_false_iff_ne.mpr h
        simp only [List.lookup, hb, if_neg (fun e : g = f => h (e.trans hk.symm))]
    · rw [if_neg hk]
      by_cases h : g = k
      · have hb : (g == k) = true := beq_iff_eq.mpr h
        simp only [List.lookup, hb, if_neg (fun e : g = f => hk (h.symm.trans e))]
      · have hb : (g == k) = false := beq_eq_false_iff_ne.mpr h
        simp only [List.lookup, hb]
        exact ih
theorem keys_putF (f : Str) (v : V) : ∀ fs : List (Str × V), f ∈ (putF f v fs).map (·.1) ∧ ∀ g, g ∈ fs.map (·.1) → g ∈ (putF f v fs).map (·.1)
  | [] => ⟨by simp [putF], fun g h => by simp at h⟩
  | (k, x) :: r => by
    obtain ⟨i1, i2⟩ := keys_putF f v r
    rw [show putF f v ((k, x) :: r) = (if k = f then (k, v) :: r else (k, x) :: putF f v r) from rfl]
    by_cases hk : k = f
    · rw [if_pos hk]
      subst hk
      exact ⟨by simp, fun g h => by simpa using h⟩
    · rw [if_neg hk]
      refine ⟨?_, fun g h => ?_⟩
      · rw [List.map_cons]
        exact List.mem_cons_of_mem _ i1
      · rw [List.map_cons] at h ⊢
        rcases List.mem_cons.mp h with e | e
        · exact List.mem_cons.mpr (.inl e)
        · exact List.mem_cons_of_mem _ (i2 g e)
theorem length_putF (f : Str) (v : V) : ∀ fs : List (Str × V), (putF f v fs).length ≤ fs.length + 1
  | [] => by simp [putF]
  | (k, x) :: r => by
    have ih := length_putF f v r
    rw [show putF f v ((k, x) :: r) = (if k = f then (k, v) :: r else (k, x) :: putF f v r) from rfl]
    by_cases hk : k = f
    · rw [if_pos hk, List.length_cons, List.length_cons]; omega
    · rw [if_neg hk, List.length_cons, List.length_cons]; omega

theorem RelO.some_of {v : V} {o : Option Value} (r : RelO (some v) o) : ∃ u, o = some u ∧ RelV v u := by
  cases o with
  | none => exact (show False from r).elim
  | some u => exact ⟨u, rfl, r⟩
theorem RelO.none_of {o : Option Value} (r : RelO none o) : o = none := by
  cases o with
  | none => rfl
  | some u => exact (show False from r).elim
theorem handed_of {v : V} {u : Value} (r : RelV v u) : PySem.W.handedIn u = true := by
  cases v with
  | non => cases (show u = Value.none from r); rfl
  | bl b => cases (show u = Value.bool b from r); rfl
  | int i => obtain ⟨t, e⟩ := (show ∃ t, u = Value.int i t from r); cases e; rfl
  | str x => obtain ⟨t, e⟩ := (show ∃ t, u = Value.str x t from r); cases e; rfl
  | byt b => obtain ⟨t, e⟩ := (show ∃ t, u = Value.bytes b t from r); cases e; rfl
  | flt b => obtain ⟨t, e⟩ := (show ∃ t, u = Value.float b t from r); cases e; rfl
  | ref a => cases (show u = Value.ref a from r); rfl
  | ty n => cases (show u = Value.type n from r); rfl

section
variable {P : Program} {w : World} {H H' : Hp} {h h' : Heap} {a C dx : Addr} {fs fs' : List (Str × V)}
theorem ins_get (hok : HOk P w H h) (e : H a = some (.ins C dx fs)) : ∃ mA, ObjM h a dx C mA ∧ (∀ f, RelO (fs.lookup f) (mA f)) ∧ PySem.Within mA (fs.map (·.1)) ∧ fs.length ≤ 1000 ∧ H dx = some (.own a) := by
  obtain ⟨d, z, ne, ob, mA, n, r, q⟩ := (show ObjOk P w H h a (.ins C dx fs) from hok a _ e)
  exact ⟨mA, ⟨ob, n, ne⟩, r, q, z, d⟩
end

/-! ### what of the text a class must have -/
structure Cls (K : PySem.W.Frag) (C : Addr) : Prop where
  pg : PySem.W.plainGet K C Str.empty = true
  hd : PySem.W.hasDictIn K C = true
  po : PySem.W.plainOver K C = true
  sa : PySem.W.findIn K (.ref C) "__setattr__" = some (some (.builtin "object.__setattr__"))
theorem Cls.get {K : PySem.W.Frag} {C : Addr} (c : Cls K C) (f : Str) : PySem.W.plainGet K C f = true := c.pg
/-- no class of it has the name -/
def NoAttr (K : PySem.W.Frag) (C : Addr) (f : Str) : Prop := PySem.W.findIn K (.ref C) f = some none
theorem NoAttr.taker {K : PySem.W.Frag} {C : Addr} {f : Str} (n : NoAttr K C f) : PySem.W.takerIn K C f = some none := by
  unfold PySem.W.takerIn
  rw [show PySem.W.findIn K (.ref C) f = some none from n]
  rfl
/-- a constant of the class -/
structure Con (K : PySem.W.Frag) (C : Addr) (f : Str) (v : V) (u : Value) : Prop where
  at_ : PySem.W.findIn K (.ref C) f = some (some u)
  rel : RelV v u
  get : PySem.W.specialIn K u "__get__" = some none
  cp : PySem.W.copiedNames.contains f = false
/-- a method: a plain def of the class or of one above it -/
structure Meth (K : PySem.W.Frag) (C : Addr) (m : Str) (f : Addr) : Prop where
  at_ : PySem.W.findIn K (.ref C) m = some (some (.ref f))
  fn : PySem.W.isFn K (.ref f) = true
  kp : PySem.W.keepIn K (.ref f) = true

section
variable {X : Cx} {pins : List (Addr × Obj)} {σ : St} {H : Hp} {s : Shared} {a C dx : Addr} {fs : List (Str × V)} {f : Str} {v : V} {A : Around} {E : Value → Shared → Prop}

theorem getattr_ok {b : Bool} {Q : Value → Shared → Prop} (I : Inv X pins σ H s) (e : H a = some (.ins C dx fs)) (c : Cls X.K C) (n : NoAttr X.K C f) (l : fs.lookup f = some v)
    (h : ∀ u s', Inv X pins σ H s' → RelV v u → Q u s') : wpAny (model X.prog X.w) A (getAttr (.ref a) f b) Q E s := by
  obtain ⟨mA, O, r, _, _, _⟩ := ins_get I.hok e
  obtain ⟨u, hu, ru⟩ := RelO.some_of (v := v) (o := mA f) (by rw [← l]; exact r f)
  exact get_map I.kIn O (c.get f) c.hd n hu (handed_of ru) (h u _ (I.tok _) ru)

theorem getcon_ok {b : Bool} {u : Value} {Q : Value → Shared → Prop} (I : Inv X pins σ H s) (e : H a = some (.ins C dx fs)) (c : Cls X.K C) (k : Con X.K C f v u) (l : fs.lookup f = none)
    (h : ∀ s', Inv X pins σ H s' → Q u s') : wpAny (model X.prog X.w) A (getAttr (.ref a) f b) Q E s := by
  obtain ⟨mA, O, r, _, _, _⟩ := ins_get I.hok e
  have hn : mA f = none := RelO.none_of (by rw [← l]; exact r f)
  exact get_const I.kIn O (c.get f) c.hd k.at_ k.get k.cp hn (handed_of k.rel) (h _ (I.tok _))

theorem getmeth_ok {m : Str} {g : Addr} {pl : Sem Bool} {Q : Value × List Value → Shared → Prop} (I : Inv X pins σ H s) (e : H a = some (.ins C dx fs)) (c : Cls X.K C) (k : Meth X.K C m g) (l : fs.lookup m = none)
    (h : Q (.ref g, [.ref a]) s) : wpAny (model X.prog X.w) A (getMethod (.ref a) m pl) Q E s := by
  obtain ⟨mA, O, r, _, _, _⟩ := ins_get I.hok e
  have hn : mA m = none := RelO.none_of (by rw [← l]; exact r m)
  exact get_meth I.kIn O (c.get m) k.at_ k.fn hn h

theorem setattr_ok {y : V} {u : Value} {Q : Unit → Shared → Prop} (I : Inv X pins σ H s) (e : H a = some (.ins C dx fs)) (c : Cls X.K C) (n : NoAttr X.K C f) (hl : fs.length < 1000) (ry : RelV y u)
    (h : ∀ s', Inv X pins σ (upd H a (.ins C dx (putF f y fs))) s' → Q () s') : wpAny (model X.prog X.w) A (setAttr (.ref a) f u) Q E s := by
  obtain ⟨mA, O, r, wi, _, ho⟩ := ins_get I.hok e
  have hz : (fs.map (·.1)).length ≤ sizeLine := by rw [List.length_map, sizeLine_eq]; omega
  refine set_map I.kIn O c.sa c.po n.taker c.hd wi hz fun h' O' sb => h _ ?_
  have hd : ∃ o, h'.get? dx = some o := let ⟨o, _, _, e', _⟩ := O'.ns; ⟨o, e'⟩
  refine I.write (x := a) (e := dx) (by rw [e]; exact True.intro) (.inr ho) (fun b q hb z => (sb.2 b hb).trans z) hd ?_
  refine ⟨by rw [upd_ne O.ne]; exact ho, ?_, O.ne, O'.obj, _, O'.ns, fun g => ?_, fun g hg => ?_⟩
  · have := length_putF f y fs; omega
  · show RelO ((putF f y fs).lookup g) (if g = f then some u else mA g)
    rw [lookup_putF]
    by_cases q : g = f
    · rw [if_pos q, if_pos q]; exact ry
    · rw [if_neg q, if_neg q]; exact r g
  · by_cases q : g = f
    · rw [q]; exact (keys_putF f y fs).1
    · refine (keys_putF f y fs).2 g (wi g fun z => hg ?_)
      show (if g = f then some u else mA g) = none
      rw [if_neg q]; exact z

/-- a new instance, tracked, without attributes -/
theorem Inv.made (I : Inv X pins σ H s) : Inv X pins σ (upd (upd H s.heap.objs.size (.own (s.heap.objs.size + 1))) (s.heap.objs.size + 1) (.ins C s.heap.objs.size []))
    { s with heap := (s.heap.push PySem.W.emptyDict).push (PySem.W.instObj C s.heap.objs.size) } := by
  have e1 : (s.heap.push PySem.W.emptyDict).get? s.heap.objs.size = some PySem.W.emptyDict := Heap.get?_push_size s.heap rfl
  have e2 : ((s.heap.push PySem.W.emptyDict).push (PySem.W.instObj C s.heap.objs.size)).get? (s.heap.objs.size + 1) = some (PySem.W.instObj C s.heap.objs.size) := by
    have := Heap.get?_push_size (s.heap.push PySem.W.emptyDict) (o := PySem.W.instObj C s.heap.objs.size) rfl
    rwa [Heap.size_push] at this
  have e3 : (s.heap.push PySem.W.emptyDict).Ns s.heap.objs.size (fun _ => none) := ⟨PySem.W.emptyDict, #[], _, e1, rfl, (fun e he => absurd he (by simp)), fun _ => rfl⟩
  have I1 := I.laid (a := s.heap.objs.size) (o := .own (s.heap.objs.size + 1)) (h' := s.heap.push PySem.W.emptyDict) (t' := s.toks) (fun b u q => Heap.get?_push_of_some _ q) (Nat.le_refl _) ⟨_, e1⟩
  refine I1.laid (a := s.heap.objs.size + 1) (o := .ins C s.heap.objs.size []) (t' := s.toks) (fun b u q => Heap.get?_push_of_some _ q) (Nat.le_of_eq (Heap.size_push _ _)) ?_
  have ne : s.heap.objs.size ≠ s.heap.objs.size + 1 := Nat.ne_of_lt (Nat.lt_succ_self _)
  refine ⟨by rw [upd_ne ne, upd_same], Nat.zero_le _, ne, e2, fun _ => none, (Heap.Ns1.of_empty e3).at fun o q => Heap.get?_push_of_some _ q, fun _ => True.intro, fun y hy => absurd rfl hy⟩

/-- e.f where nothing but the object is asked: through attributeBase (super) and the last hold -/
theorem attr_of {prog : Program} {w : World} {env : Env} {e : Expr} {f : Str} {pos : Pos} {s : Shared} {Q : Value → Shared → Prop} (hb : attributeBase e f env (eval e env) = eval e env)
    (h : wpAny (model prog w) A (eval e env) (fun o s₁ => wpAny (model prog w) A (getAttr o f true) Q E s₁) E s) : wpAny (model prog w) A (eval (.Attribute e f pos) env) Q E s :=
  Attribute_any_ h (by rw [arm_eval_Attribute, hb])
end

/-! ### readings and rules -/
/-- e.f, an attribute of the instance -/
def tFld (K : PySem.W.Frag) (ta : TE) (f : Str) : TE := fun σ H Q => ta σ H fun x H1 => ∃ a C dx fs v, x = .ref a ∧ H1 a = some (.ins C dx fs) ∧ Cls K C ∧ NoAttr K C f ∧ fs.lookup f = some v ∧ Q v H1
/-- e.f, a constant of the class -/
def tCon (K : PySem.W.Frag) (ta : TE) (f : Str) : TE := fun σ H Q => ta σ H fun x H1 => ∃ a C dx fs v u, x = .ref a ∧ H1 a = some (.ins C dx fs) ∧ Cls K C ∧ Con K C f v u ∧ fs.lookup f = none ∧ Q v H1
/-- e.f = value -/
def sFld (K : PySem.W.Frag) (ta tv : TE) (f : Str) : TS := fun D σ H => tv σ H fun y H1 => ta σ H1 fun x H2 => ∃ a C dx fs, x = .ref a ∧ H2 a = some (.ins C dx fs) ∧ Cls K C ∧ NoAttr K C f ∧ fs.length < 1000 ∧
  D.nx σ (upd H2 a (.ins C dx (putF f y fs)))
/-- an augmented operator on two values -/
def InOp (X : Cx) (op : Operator) (rd : V → V → Hp → VK → Prop) : Prop :=
  ∀ (pins : List (Addr × Obj)) (s : Shared) (σ : St) (H : Hp) (x y : V) (u v : Value) (Q : VK), Inv X pins σ H s → RelV x u → RelV y v → rd x y H Q → wpAny (model X.prog X.w) X.A (inplaceOp op u v) (EP X pins σ Q) X.xe s
/-- e.f op= value -/
def sFldAug (K : PySem.W.Frag) (ta tv : TE) (rd : V → V → Hp → VK → Prop) (f : Str) : TS := fun D σ H => ta σ H fun x H1 => ∃ a C dx fs v, x = .ref a ∧ H1 a = some (.ins C dx fs) ∧ Cls K C ∧ NoAttr K C f ∧ fs.lookup f = some v ∧
  tv σ H1 fun y H2 => rd v y H2 fun z H3 => ∃ dx' fs', H3 a = some (.ins C dx' fs') ∧ fs'.length < 1000 ∧ D.nx σ (upd H3 a (.ins C dx' (putF f z fs')))

section
variable {X : Cx} {o e value : Expr} {f : Str} {pos pos' tpos : Pos} {ta tv : TE}
theorem pe_fld (he : PE X e ta) (hb : attributeBase e f X.env (eval e X.env) = eval e X.env) : PE X (.Attribute e f pos) (tFld X.K ta f) := by
  intro pins s σ H Q I h
  refine attr_of hb (thn (he pins s σ H _ I h) fun u s1 ⟨x, H1, I1, rx, a, C, dx, fs, v, ex, ea, c, n, l, q⟩ => ?_)
  subst ex
  obtain rfl : u = Value.ref a := rx
  exact getattr_ok I1 ea c n l fun u' s2 I2 ru => ⟨v, H1, I2, ru, q⟩
theorem pe_con (he : PE X e ta) (hb : attributeBase e f X.env (eval e X.env) = eval e X.env) : PE X (.Attribute e f pos) (tCon X.K ta f) := by
  intro pins s σ H Q I h
  refine attr_of hb (thn (he pins s σ H _ I h) fun u s1 ⟨x, H1, I1, rx, a, C, dx, fs, v, u0, ex, ea, c, k, l, q⟩ => ?_)
  subst ex
  obtain rfl : u = Value.ref a := rx
  exact getcon_ok I1 ea c k l fun s2 I2 => ⟨v, H1, I2, k.rel, q⟩
theorem ps_fld (ha : PE X o ta) (hv : PE X value tv) (hs : swapsWith value (some (.Attribute o f pos')) pos.line X.env = pure false) : PS X (.Assign [.Attribute o f pos'] value pos) (sFld X.K ta tv f) := by
  intro pins s σ H D I h
  refine plainObj_wpAny_Assign_Attribute (thn (hv pins s σ H _ I h) fun u s1 ⟨y, H1, I1, ry, q⟩ => thn (ha pins s1 σ H1 _ I1 q) fun ov s2 ⟨x, H2, I2, rx, a, C, dx, fs, ex, ea, c, n, l, q2⟩ => ?_) hs
  subst ex
  obtain rfl : ov = Value.ref a := rx
  exact setattr_ok I2 ea c n l ry fun s3 I3 => ⟨σ, _, I3, q2⟩
theorem ps_fldaug {op : Operator} {rd : V → V → Hp → VK → Prop} (ha : PE X o ta) (hv : PE X value tv) (hop : InOp X op rd) : PS X (.AugAssign (.Attribute o f tpos) op value pos) (sFldAug X.K ta tv rd f) := by
  intro pins s σ H D I h
  refine wpAny_AugAssign_AttributeAny (thn (ha pins s σ H _ I h) fun ov s1 ⟨x, H1, I1, rx, a, C, dx, fs, v, ex, ea, c, n, l, q⟩ => ?_)
  subst ex
  obtain rfl : ov = Value.ref a := rx
  refine getattr_ok I1 ea c n l fun u s2 I2 ru => thn (hv pins s2 σ H1 _ I2 q) fun w3 s3 ⟨y, H2, I3, ry, q3⟩ => thn (hop pins s3 σ H2 v y u w3 _ I3 ru ry q3) fun w4 s4 ⟨z, H3, I4, rz, dx', fs', ea', l', q4⟩ => ?_
  exact setattr_ok I4 ea' c n l' rz fun s5 I5 => ⟨σ, _, I5, q4⟩
def rAdd : V → V → Hp → VK → Prop := fun x y H Q => ∃ i j, x = .int i ∧ y = .int j ∧ Q (.int (i + j)) H
def rSub : V → V → Hp → VK → Prop := fun x y H Q => ∃ i j, x = .int i ∧ y = .int j ∧ Q (.int (i - j)) H
theorem in_add : InOp X .Add rAdd := by
  rintro pins s σ H x y u v Q I rx ry ⟨i, j, rfl, rfl, q⟩
  obtain ⟨t, rfl⟩ := (show ∃ t, u = Value.int i t from rx)
  obtain ⟨t', rfl⟩ := (show ∃ t', v = Value.int j t' from ry)
  exact PyProof.Rows.iadd_int ⟨.int (i + j), H, I.tok _, ⟨_, rfl⟩, q⟩
theorem in_sub : InOp X .Sub rSub := by
  rintro pins s σ H x y u v Q I rx ry ⟨i, j, rfl, rfl, q⟩
  obtain ⟨t, rfl⟩ := (show ∃ t, u = Value.int i t from rx)
  obtain ⟨t', rfl⟩ := (show ∃ t', v = Value.int j t' from ry)
  exact PyProof.Rows.isub_int ⟨.int (i - j), H, I.tok _, ⟨_, rfl⟩, q⟩

/-- what is between an instance and its method: the tree of a method call -/
theorem methcall_of {pl : Sem Bool} {m : Str} {apos : Pos} {args : List Expr} {pins : List (Addr × Obj)} {s : Shared} {σ : St} {H : Hp} {Q : Value → Shared → Prop} {te : TE} (he : PE X e te) (I : Inv X pins σ H s)
    (h : te σ H fun x H1 => ∃ a C dx fs g, x = .ref a ∧ H1 a = some (.ins C dx fs) ∧ Cls X.K C ∧ Meth X.K C m g ∧ fs.lookup m = none ∧
      ∀ s1, Inv X pins σ H1 s1 → wpAny (model X.prog X.w) X.A (callWith pos (.ref g) [.ref a] (backTo pos (starEach args X.env)) (backToKw pos (keywordEach [] X.env))) Q X.xe s1)
    (ht : eval (.Call (.Attribute e m apos) args [] pos) X.env = (do
      let ov ← eval e X.env
      standAt apos.atName
      let (f, first) ← holding [ov] (getMethod ov m pl)
      callWith pos f first (backTo pos (starEach args X.env)) (backToKw pos (keywordEach [] X.env)))) :
    wpAny (model X.prog X.w) X.A (eval (.Call (.Attribute e m apos) args [] pos) X.env) Q X.xe s := by
  refine PySem.W.methodCall_KW (pl := pl) (thn (he pins s σ H _ I h) fun u s1 ⟨x, H1, I1, rx, a, C, dx, fs, g, ex, ea, c, k, l, q⟩ => ?_) ht
  subst ex
  obtain rfl : u = Value.ref a := rx
  exact getmeth_ok I1 ea c k l (q s1 I1)
end

/-! ### isinstance -/
section
variable {X : Cx} {pins : List (Addr × Obj)} {σ : St} {H : Hp} {s : Shared} {A : Around} {E : Value → Shared → Prop} {Q : Value → Shared → Prop} {c : Value} {b : Bool}
/-- the type of a value, as the fragment's deciders take it; for an instance its class -/
inductive TyOf (K : PySem.W.Frag) (H : Hp) : V → Value → Prop where
  | non : TyOf K H .non (.type "NoneType")
  | bl (x : Bool) : TyOf K H (.bl x) (.type "bool")
  | int (i : Int) : TyOf K H (.int i) (.type "int")
  | str (x : Str) : TyOf K H (.str x) (.type "str")
  | flt (x : UInt64) : TyOf K H (.flt x) (.type "float")
  | lst {a : Addr} {xs : List V} (e : H a = some (.lst xs)) : TyOf K H (.ref a) (.type "list")
  | frz {a : Addr} {o : Obj} {xs : List V} (e : H a = some (.frz o (.lst xs))) : TyOf K H (.ref a) (.type "list")
  | tup {a : Addr} {xs : List V} (e : H a = some (.tup xs)) : TyOf K H (.ref a) (.type "tuple")
  | dK {a : Addr} {kvs : List (Key × V)} (e : H a = some (.dK kvs)) : TyOf K H (.ref a) (.type "dict")
  | dT {a : Addr} {kvs : List (List Key × V)} (e : H a = some (.dT kvs)) : TyOf K H (.ref a) (.type "dict")
  | ins {a C dx : Addr} {fs : List (Str × V)} (e : H a = some (.ins C dx fs)) (cl : Cls K C) (ha : PySem.W.findIn K (.ref C) "__class__" = some (some (.builtin "object.__class__")))
      (hn : PySem.W.specialIn K (.builtin "object.__class__") "__get__" = some (some (.builtin "getset_descriptor.__get__"))) (htk : PySem.W.takesIn K (.builtin "object.__class__") = some true)
      (hm : PySem.W.mroIn K C (.type "object") = some true) : TyOf K H (.ref a) (.ref C)
/-- isinstance(x, c) for one class c, a built-in or an own one: kitOne's answer -/
theorem isinst_ok {x : V} {u t : Value} (I : Inv X pins σ H s) (rx : RelV x u) (ty : TyOf X.K H x t) (e : PySem.W.kitOne X.K t c = some b) (h : ∀ tk, Q (.bool b) { s with toks := tk }) :
    wpAny (model X.prog X.w) A (call (.builtin "isinstance") [u, c]) Q E s := by
  cases ty with
  | non => cases (show u = Value.none from rx); exact PySem.W.kia_one PySem.W.kitx_none I.kIn True.intro e (fun z => nomatch z) h
  | bl y => cases (show u = Value.bool y from rx); exact PySem.W.kia_one PySem.W.kitx_bool I.kIn True.intro e (fun z => nomatch z) h
  | int i => obtain ⟨t, q⟩ := (show ∃ t, u = Value.int i t from rx); cases q; exact PySem.W.kia_one PySem.W.kitx_int I.kIn True.intro e (fun z => nomatch z) h
  | str y => obtain ⟨t, q⟩ := (show ∃ t, u = Value.str y t from rx); cases q; exact PySem.W.kia_one PySem.W.kitx_str I.kIn True.intro e (fun z => nomatch z) h
  | flt y => obtain ⟨t, q⟩ := (show ∃ t, u = Value.float y t from rx); cases q; exact PySem.W.kia_one PySem.W.kitx_float I.kIn True.intro e (fun z => nomatch z) h
  | @lst a xs ea =>
    cases (show u = Value.ref a from rx)
    obtain ⟨_, _, n, _, h1⟩ := (show ObjOk X.prog X.w H s.heap a (.lst xs) from I.hok a _ ea)
    exact PySem.W.kia_one PySem.W.kitx_list I.kIn ⟨_, h1, rfl⟩ e (fun z => nomatch z) h
  | @frz a ob xs ea =>
    cases (show u = Value.ref a from rx)
    obtain ⟨_, _, _, n, _, h1⟩ := (show ObjOk X.prog X.w H s.heap a (.frz ob (.lst xs)) from I.hok a _ ea)
    exact PySem.W.kia_one PySem.W.kitx_list I.kIn ⟨_, h1, rfl⟩ e (fun z => nomatch z) h
  | @tup a xs ea =>
    cases (show u = Value.ref a from rx)
    obtain ⟨_, _, _, p⟩ := (show ObjOk X.prog X.w H s.heap a (.tup xs) from I.hok a _ ea)
    obtain ⟨o, h1, h2, _⟩ := p
    exact PySem.W.kia_one PySem.W.kitx_tuple I.kIn ⟨o, h1, h2⟩ e (fun z => nomatch z) h
  | @dK a kvs ea =>
    cases (show u = Value.ref a from rx)
    obtain ⟨_, _, vs, _, p⟩ := (show ObjOk X.prog X.w H s.heap a (.dK kvs) from I.hok a _ ea)
    obtain ⟨o, es, ep, h1, h2, _⟩ := p
    exact PySem.W.kia_one PySem.W.kitx_dict I.kIn ⟨o, h1, h2.1⟩ e (fun z => nomatch z) h
  | @dT a kvs ea =>
    cases (show u = Value.ref a from rx)
    obtain ⟨_, _, xs, _, o, es, ep, h1, h2, _⟩ := (show ObjOk X.prog X.w H s.heap a (.dT kvs) from I.hok a _ ea)
    exact PySem.W.kia_one PySem.W.kitx_dict I.kIn ⟨o, h1, h2.1⟩ e (fun z => nomatch z) h
  | @ins a C dx fs ea cl ha hn htk hm =>
    cases (show u = Value.ref a from rx)
    obtain ⟨mA, O, _⟩ := ins_get I.hok ea
    obtain ⟨od, J, _⟩ := O.look
    exact PySem.W.kia_one (PySem.W.kitx_own (cl.get _) cl.hd ha hn htk hm) I.kIn J e (fun z => nomatch z) h
end
end L2

namespace L2
open PySem PySem.Spec PyProof.Rows

/-! ### room -/
structure Room (k : Nat) (A : Around) : Prop where
  hd : A.handled = none
  dp : A.depth + 3 * k + 5 < recursionLimit
  un : A.units + 16 * k + 200 < cLine
theorem Room.mono {j k : Nat} {A : Around} (r : Room k A) (h : j ≤ k) : Room j A := ⟨r.hd, by have := r.dp; omega, by have := r.un; omega⟩
theorem Room.deeper {k : Nat} {A : Around} (r : Room (k + 1) A) (env : Env) : Room k (A.deeper env) :=
  ⟨r.hd, by have := r.dp; show A.depth + 1 + 3 * k + 5 < _; omega, by have := r.un; show A.units + 3 + 16 * k + 200 < _; omega⟩
theorem Room.in1 {k : Nat} {A : Around} (r : Room (k + 1) A) : Room k A.in1 :=
  ⟨r.hd, by have := r.dp; show A.depth + 3 * k + 5 < _; omega, by have := r.un; show A.units + 1 + 16 * k + 200 < _; omega⟩
theorem make_depth {A : Around} {C : Addr} {us : List Value} {kw : List (Str × Value)} : (A.under (.builtin "type.__call__" ⟨.ref C :: us, kw⟩)).depth = A.depth + 1 := by
  first | rfl | simp [Around.under, Code.weight, Code.isCreation, Code.isGuard, Code.isCaller, Code.frames, Code.isFrame, guardIds]
theorem make_units {A : Around} {C : Addr} {us : List Value} {kw : List (Str × Value)} : (A.under (.builtin "type.__call__" ⟨.ref C :: us, kw⟩)).units = A.units + 1 := by
  first | rfl | simp [Around.under, Code.cUnits, Code.frames, Code.isFrame]
theorem Room.make {k : Nat} {A : Around} (r : Room (k + 1) A) (C : Addr) (us : List Value) (kw : List (Str × Value)) : Room k (A.under (.builtin "type.__call__" ⟨.ref C :: us, kw⟩)) :=
  ⟨r.hd, by have := r.dp; rw [make_depth]; omega, by have := r.un; rw [make_units]; omega⟩
theorem Room.depth {k : Nat} {A : Around} (r : Room k A) : A.depth < recursionLimit := by have := r.dp; omega
theorem Room.units {k : Nat} {A : Around} (r : Room k A) : A.units + 64 < cLine := by have := r.un; omega
theorem Room.units0 {k : Nat} {A : Around} (r : Room k A) : A.units < cLine := by have := r.un; omega

/-! ### argument lists and displays -/
def tNil : TA := fun _ H Q => Q [] H
def tCons (ta : TE) (tr : TA) : TA := fun σ H Q => ta σ H fun x H1 => tr σ H1 fun xs H2 => Q (x :: xs) H2
section
variable {X : Cx} {e : Expr} {es : List Expr} {te : TE} {t : TA} {pos : Pos}
theorem pa_nil : PA X [] tNil := fun _ _ _ _ H Q I h => Calls.spliced_nil ⟨[], H, I, .nil, h⟩
theorem pa_cons (ha : PE X e te) (hr : PA X es t) (hs : starEach (e :: es) X.env = (false, eval e X.env) :: starEach es X.env := by rfl) : PA X (e :: es) (tCons te t) := by
  intro pos pins s σ H Q I h
  rw [hs]
  show wpAny _ _ (spliced ((false, eval e X.env) :: backTo pos (starEach es X.env))) _ _ s
  refine Calls.spliced_cons (thn (ha pins s σ H _ I h) fun u s1 ⟨x, H1, I1, r1, q1⟩ => ?_)
  exact thn (hr pos pins s1 σ H1 _ I1 q1) fun us s2 ⟨xs, H2, I2, r2, q2⟩ => ⟨x :: xs, H2, I2, .cons r1 r2, q2⟩

/-- a tuple, a list of written items -/
def tTup (t : TA) : TE := fun σ H Q => t σ H fun xs H1 => xs.length ≤ sizeLine ∧ ∀ p, H1 p = none → Q (.ref p) (upd H1 p (.tup xs))
def tLst (t : TA) : TE := fun σ H Q => t σ H fun xs H1 => xs.length ≤ sizeLine ∧ ∀ p, H1 p = none → Q (.ref p) (upd H1 p (.lst xs))
theorem pe_tup {x1} (h : PA X es t) : PE X (.Tuple es x1 pos) (tTup t) := by
  intro pins s σ H Q I hq
  refine wpAny_Tuple_spliced (thn (h pos pins s σ H _ I hq) fun us s1 ⟨xs, H1, I1, r, z, q⟩ => ⟨by rw [← r.length]; exact z, ?_⟩)
  have hf : H1 s1.heap.objs.size = none := I1.hok.fresh (Nat.le_refl _)
  refine ⟨.ref s1.heap.objs.size, upd H1 s1.heap.objs.size (.tup xs), I1.laid (t' := s1.toks) (fun b u e => Heap.get?_push_of_some _ e) (Nat.le_refl _) ?_, rfl, q _ hf⟩
  exact ⟨z, us, r, ⟨_, Heap.get?_push_size _ rfl, rfl, _, rfl⟩⟩
theorem pe_lst (h : PA X es t) : PE X (.List es pos) (tLst t) := by
  intro pins s σ H Q I hq
  refine wpAny_List_spliced (thn (h pos pins s σ H _ I hq) fun us s1 ⟨xs, H1, I1, r, z, q⟩ => ⟨by rw [← r.length]; exact z, ?_⟩)
  have hf : H1 s1.heap.objs.size = none := I1.hok.fresh (Nat.le_refl _)
  refine ⟨.ref s1.heap.objs.size, upd H1 s1.heap.objs.size (.lst xs), I1.laid (t' := s1.toks) (fun b u e => Heap.get?_push_of_some _ e) (Nat.le_refl _) ?_, rfl, q _ hf⟩
  exact ⟨z, us, 0, r, Heap.get?_push_size _ rfl⟩
end

/-! ### what a def promises -/
/-- a def's promise: the bound arguments in the parameters' order, the heap, the wanted end, the wanted exception -/
abbrev Sp := List V → Hp → VK → XK → Prop
/-- how an exception lies behind a call (file 08 gives it): the callers' frames, abstract heap and state ahead of the call, the wish, the exception, the state -/
abbrev CXT := List Env → Hp → Shared → XK → Value → Shared → Prop

/-- the state at a call -/
structure Env0 (P : Program) (w : World) (K : PySem.W.Frag) (mg : Str → Option Value) (base : Heap) (A : Around) (outer : List Env) (s : Shared) (H : Hp) : Prop where
  frames : A.frames = some outer
  mod : Mod K mg base
  bs : ∀ b o, base.get? b = some o → s.heap.get? b = some o ∧ H b = none
  bsz : base.objs.size ≤ s.heap.objs.size
  funs : s.heap.FunFrames base outer
  frf : ∀ b ∈ frs outer, H b = none
  hok : HOk P w H s.heap
  bare : AllBare s.gens
/-- a call's end -/
def CE (outer : List Env) (P : Program) (w : World) (H : Hp) (s : Shared) (Q : VK) (u : Value) (s' : Shared) : Prop :=
  ∃ v H', s'.os = s.os ∧ AllBare s'.gens ∧ Un (frs outer) [] H H' s.heap s'.heap ∧ HOk P w H' s'.heap ∧ RelV v u ∧ Q v H'
def CR (CX : CXT) (outer : List Env) (P : Program) (w : World) (H : Hp) (s : Shared) (Q : VK) (E : XK) (r : Result) (s' : Shared) : Prop :=
  match r with
  | .ok (.ret u) => CE outer P w H s Q u s'
  | .ok _ => False
  | .error e => CX outer H s E e s'
structure FnOk (P : Program) (w : World) (K : PySem.W.Frag) (mg : Str → Option Value) (base : Heap) (CX : CXT) (k : Nat) (f : Addr) (fd : FuncData) (ps : List Str) (sp : Sp) : Prop where
  len : ∀ vs H Q E, sp vs H Q E → vs.length = ps.length
  run : ∀ (A : Around) (outer : List Env) (s : Shared) (H : Hp) (args : Args) (us : List Value) (vs : List V) (Q : VK) (E : XK), Room k A → Env0 P w K mg base A outer s H → BindsTo s fd args (ps.zip us) → Vals vs us → sp vs H Q E →
    codeAny (model P w) A (.call (.ref f) args) (CR CX outer P w H s Q E) s
theorem FnOk.mono {P : Program} {w : World} {K : PySem.W.Frag} {mg : Str → Option Value} {base : Heap} {CX : CXT} {j k : Nat} {f : Addr} {fd : FuncData} {ps : List Str} {sp : Sp} (F : FnOk P w K mg base CX j f fd ps sp) (h : j ≤ k) :
    FnOk P w K mg base CX k f fd ps sp := ⟨F.len, fun A outer s H args us vs Q E hr => F.run A outer s H args us vs Q E (hr.mono h)⟩
/-- a weaker promise -/
theorem FnOk.imp {P : Program} {w : World} {K : PySem.W.Frag} {mg : Str → Option Value} {base : Heap} {CX : CXT} {k : Nat} {f : Addr} {fd : FuncData} {ps : List Str} {sp sp' : Sp} (F : FnOk P w K mg base CX k f fd ps sp)
    (h : ∀ vs H Q E, sp' vs H Q E → sp vs H Q E) : FnOk P w K mg base CX k f fd ps sp' :=
  ⟨fun vs H Q E q => F.len vs H Q E (h _ _ _ _ q), fun A outer s H args us vs Q E hr he hb hv hs => F.run A outer s H args us vs Q E hr he hb hv (h _ _ _ _ hs)⟩

theorem Env0.make {P : Program} {w : World} {K : PySem.W.Frag} {mg : Str → Option Value} {base : Heap} {A : Around} {outer : List Env} {s : Shared} {H : Hp} (e : Env0 P w K mg base A outer s H) (C : Addr) (us : List Value) (kw : List (Str × Value)) :
    Env0 P w K mg base (A.under (.builtin "type.__call__" ⟨.ref C :: us, kw⟩)) outer s H := ⟨by first | exact e.frames | (simpa [Around.under, Code.envs, Code.isFrame, pushEnvs] using e.frames), e.mod, e.bs, e.bsz, e.funs, e.frf, e.hok, e.bare⟩
theorem Env0.in1 {P : Program} {w : World} {K : PySem.W.Frag} {mg : Str → Option Value} {base : Heap} {A : Around} {outer : List Env} {s : Shared} {H : Hp} (e : Env0 P w K mg base A outer s H) :
    Env0 P w K mg base A.in1 outer s H := ⟨e.frames, e.mod, e.bs, e.bsz, e.funs, e.frf, e.hok, e.bare⟩

section
variable {X : Cx} {pins : List (Addr × Obj)} {σ : St} {H : Hp} {s s' : Shared}
/-- from a body: what a callee wants -/
theorem Inv.env0 (I : Inv X pins σ H s) : Env0 X.prog X.w X.K X.mg X.base X.A X.stack s H :=
  ⟨I.ok.frames, I.ok.mod, I.bs, Nat.le_trans I.ok.bsz I.sz, I.stack, I.stkFree, I.hok, I.bare⟩
/-- behind a call -/
theorem Inv.after {Q : VK} {u : Value} (I : Inv X pins σ H s) (h : CE X.stack X.prog X.w H s Q u s') : EP X pins σ Q u s' := by
  obtain ⟨v, H', os, bare, un, hok, r, q⟩ := h
  obtain ⟨hh, g, d, t, os'⟩ := s'
  obtain rfl : os' = s.os := os
  exact ⟨v, H', I.call (h' := hh) (g' := g) (d' := d) (t' := t) (ch := []) un hok bare (fun b z => absurd z (by simp)), r, q⟩
end

/-! ### calls -/
/-- f(..): the written arguments, then the defaults dvs; E: what is wanted of an exception -/
def tCall (sp : Sp) (dvs : List V) (E : XK) (t : TA) : TE := fun σ H Q => t σ H fun vs H1 => sp (vs ++ dvs) H1 Q E
/-- o.m(..) of an instance of the class at C -/
def tMeth (C : Addr) (m : Str) (sp : Sp) (dvs : List V) (E : XK) (ta : TE) (t : TA) : TE := fun σ H Q => ta σ H fun x H1 => ∃ a dx fs, x = .ref a ∧ H1 a = some (.ins C dx fs) ∧ fs.lookup m = none ∧
  t σ H1 fun vs H2 => sp (x :: (vs ++ dvs)) H2 Q E
/-- C(..): a new instance and its dict, then __init__ -/
def tMake (C : Addr) (sp : Sp) (dvs : List V) (E : XK) (t : TA) : TE := fun σ H Q => t σ H fun vs H1 => ∀ x dx, H1 x = none → H1 dx = none → dx ≠ x →
  sp (.ref x :: (vs ++ dvs)) (upd (upd H1 dx (.own x)) x (.ins C dx [])) (fun v H2 => v = .non ∧ Q (.ref x) H2) E

/-- how the parameters are bound: us the positional arguments, kw the keywords' values by name, ds the defaults that fill up -/
def Binds (K : PySem.W.Frag) (fd : FuncData) (ps : List Str) (ds : List Value) : Prop :=
  ∀ (s : Shared) (us : List Value), K.In s.heap → (us ++ ds).length = ps.length → BindsTo s fd ⟨us, []⟩ (ps.zip (us ++ ds))
/-- every parameter is given -/
theorem Binds.all {K : PySem.W.Frag} {fd : FuncData} {ps : List Str} (h : ∀ us : List Value, us.length = ps.length → bindArgs fd ⟨us, []⟩ = pure (ps.zip us)) : Binds K fd ps [] := fun s us _ hl => by
  rw [List.append_nil] at hl ⊢
  exact .of_eq (h us hl)

/-- an exception of a callee reaches what this body wants of exceptions -/
def Passes (CX : CXT) (X : Cx) (E : XK) : Prop := ∀ (pins : List (Addr × Obj)) (σ : St) (H : Hp) (s : Shared) (e : Value) (s' : Shared), Inv X pins σ H s → CX X.stack H s E e s' → X.xe e s'

section
variable {X : Cx} {CX : CXT} {k : Nat} {f C : Addr} {fd : FuncData} {ps : List Str} {sp : Sp} {dvs : List V} {ds : List Value} {E : XK} {x m : Str} {p pos apos : Pos} {e o : Expr} {es : List Expr} {ta : TE} {t : TA}

/-- the callee runs -/
theorem run_fn {pins : List (Addr × Obj)} {σ : St} {H : Hp} {s : Shared} {Q : VK} {us : List Value} {vs : List V} (F : FnOk X.prog X.w X.K X.mg X.base CX k f fd ps sp) (hr : Room k X.A) (hb : Binds X.K fd ps ds) (hd : Vals dvs ds) (hx : Passes CX X E)
    (I : Inv X pins σ H s) (r : Vals vs us) (h : sp (vs ++ dvs) H Q E) : wpAny (model X.prog X.w) X.A (call (.ref f) us) (EP X pins σ Q) X.xe s := by
  have r2 : Vals (vs ++ dvs) (us ++ ds) := r.append hd
  have hl : (us ++ ds).length = ps.length := by rw [← r2.length]; exact F.len _ _ _ _ h
  refine wpAny_call (codeAny_mono (F.run X.A X.stack s H ⟨us, []⟩ (us ++ ds) (vs ++ dvs) Q E hr I.env0 (hb s us I.kIn hl) r2 h) fun r s' hq => ?_)
  cases r with
  | error e => exact hx pins σ H s e s' I hq
  | ok fl =>
    cases fl with
    | ret u => exact I.after hq
    | next => exact False.elim hq
    | brk => exact False.elim hq
    | cont => exact False.elim hq

theorem pe_call (F : FnOk X.prog X.w X.K X.mg X.base CX k f fd ps sp) (hr : Room k X.A) (hg : Gl X x) (hm : X.mg x = some (.ref f)) (hk : PySem.W.keepIn X.K (.ref f) = true) (hb : Binds X.K fd ps ds) (hd : Vals dvs ds) (hx : Passes CX X E)
    (ha : PA X (e :: es) t) (hdb : (x == ("__debug__" : Str)) = false := by decide) (he : starEach (e :: es) X.env = (false, eval e X.env) :: starEach es X.env := by rfl) (hpl : (backTo pos (starEach es X.env)).any (·.1) = false := by rfl) :
    PE X (.Call (.Name x p) (e :: es) [] pos) (tCall sp dvs E t) := by
  intro pins s σ H Q I h
  refine wpAny_Call_Name_kw (ld_glob I hg hm ?_ hdb)
  refine PySem.W.callWith_K (h₀ := X.base) I.ok.mod.kin hk (thn (ha pos pins s σ H _ I h) fun us s1 ⟨vs, H1, I1, r, q⟩ => ⟨I1.kIn, ?_⟩) he hpl
  exact run_fn F hr hb hd hx I1 r q
theorem pe_call0 (F : FnOk X.prog X.w X.K X.mg X.base CX k f fd ps sp) (hr : Room k X.A) (hg : Gl X x) (hm : X.mg x = some (.ref f)) (hk : PySem.W.keepIn X.K (.ref f) = true) (hb : Binds X.K fd ps ds) (hd : Vals dvs ds) (hx : Passes CX X E)
    (hdb : (x == ("__debug__" : Str)) = false := by decide) : PE X (.Call (.Name x p) [] [] pos) (tCall sp dvs E tNil) := by
  intro pins s σ H Q I h
  refine wpAny_Call_Name_kw (ld_glob I hg hm ?_ hdb)
  exact PySem.W.callWith_K0 I.kIn hk (run_fn (us := []) F hr hb hd hx I .nil h)

/-- o.m(e, ..) -/
theorem pe_meth {pl : Sem Bool} (he : PE X o ta) (c : Cls X.K C) (hm : Meth X.K C m f) (F : FnOk X.prog X.w X.K X.mg X.base CX k f fd ps sp) (hr : Room k X.A) (hb : Binds X.K fd ps ds) (hd : Vals dvs ds) (hx : Passes CX X E) (ha : PA X (e :: es) t)
    (hst : starEach (e :: es) X.env = (false, eval e X.env) :: starEach es X.env := by rfl) (hpl : (backTo pos (starEach es X.env)).any (·.1) = false := by rfl)
    (ht : eval (.Call (.Attribute o m apos) (e :: es) [] pos) X.env = (do
      let ov ← eval o X.env
      standAt apos.atName
      let (f, first) ← holding [ov] (getMethod ov m pl)
      callWith pos f first (backTo pos (starEach (e :: es) X.env)) (backToKw pos (keywordEach [] X.env))) := by rfl) :
    PE X (.Call (.Attribute o m apos) (e :: es) [] pos) (tMeth C m sp dvs E ta t) := by
  intro pins s σ H Q I h
  refine PySem.W.methodCall_KW (pl := pl) (thn (he pins s σ H _ I h) fun u s1 ⟨x, H1, I1, rx, a, dx, fs, ex, ea, l, q⟩ => ?_) ht
  subst ex
  obtain rfl : u = Value.ref a := rx
  refine getmeth_ok I1 ea c hm l ?_
  refine PySem.W.callWith_K (first := [.ref a]) (h₀ := X.base) I.ok.mod.kin hm.kp (thn (ha pos pins s1 σ H1 _ I1 q) fun us s2 ⟨vs, H2, I2, r, q2⟩ => ⟨I2.kIn, ?_⟩) hst hpl
  exact run_fn (us := .ref a :: us) (vs := .ref a :: vs) F hr hb hd hx I2 (.cons rfl r) q2
/-- o.m() -/
theorem pe_meth0 {pl : Sem Bool} (he : PE X o ta) (c : Cls X.K C) (hm : Meth X.K C m f) (F : FnOk X.prog X.w X.K X.mg X.base CX k f fd ps sp) (hr : Room k X.A) (hb : Binds X.K fd ps ds) (hd : Vals dvs ds) (hx : Passes CX X E)
    (ht : eval (.Call (.Attribute o m apos) [] [] pos) X.env = (do
      let ov ← eval o X.env
      standAt apos.atName
      let (f, first) ← holding [ov] (getMethod ov m pl)
      callWith pos f first (backTo pos (starEach [] X.env)) (backToKw pos (keywordEach [] X.env))) := by rfl) :
    PE X (.Call (.Attribute o m apos) [] [] pos) (tMeth C m sp dvs E ta tNil) := by
  intro pins s σ H Q I h
  refine PySem.W.methodCall_KW (pl := pl) (thn (he pins s σ H _ I h) fun u s1 ⟨x, H1, I1, rx, a, dx, fs, ex, ea, l, q⟩ => ?_) ht
  subst ex
  obtain rfl : u = Value.ref a := rx
  refine getmeth_ok I1 ea c hm l ?_
  exact PySem.W.callWith_K0 (first := [.ref a]) I1.kIn hm.kp (run_fn (us := [.ref a]) (vs := [.ref a]) F hr hb hd hx I1 (.cons rfl .nil) q)

/-- what a class must have to be made -/
structure Mk (K : PySem.W.Frag) (C f : Addr) : Prop where
  makes : PySem.W.makesIn K C = true
  init : PySem.W.findIn K (.ref C) "__init__" = some (some (.ref f))
  fn : PySem.W.isFn K (.ref f) = true
  kp : PySem.W.keepIn K (.ref C) = true

theorem run_make {pins : List (Addr × Obj)} {σ : St} {H : Hp} {s : Shared} {Q : VK} {us : List Value} {vs : List V} (M : Mk X.K C f) (F : FnOk X.prog X.w X.K X.mg X.base CX k f fd ps sp) (hr : Room (k + 1) X.A) (hb : Binds X.K fd ps ds) (hd : Vals dvs ds)
    (hx : Passes CX X E) (I : Inv X pins σ H s) (r : Vals vs us)
    (h : ∀ x dx, H x = none → H dx = none → dx ≠ x → sp (.ref x :: (vs ++ dvs)) (upd (upd H dx (.own x)) x (.ins C dx [])) (fun v H2 => v = .non ∧ Q (.ref x) H2) E) :
    wpAny (model X.prog X.w) X.A (call (.ref C) us) (EP X pins σ Q) X.xe s := by
  have hq := h (s.heap.objs.size + 1) s.heap.objs.size (I.hok.fresh (Nat.le_succ _)) (I.hok.fresh (Nat.le_refl _)) (Nat.ne_of_lt (Nat.lt_succ_self _))
  have I2 := Inv.made (C := C) I
  have r2 : Vals (V.ref (s.heap.objs.size + 1) :: (vs ++ dvs)) (Value.ref (s.heap.objs.size + 1) :: (us ++ ds)) := .cons rfl (r.append hd)
  have hl : (Value.ref (s.heap.objs.size + 1) :: us ++ ds).length = ps.length := by
    have e := r2.length
    rw [F.len _ _ _ _ hq] at e
    exact e.symm
  refine wpAny_call (make_map (f := f) I.kIn M.makes M.init (beq_iff_eq.mp M.fn) (codeAny_mono (F.run _ X.stack _ _ ⟨Value.ref (s.heap.objs.size + 1) :: us, []⟩ (Value.ref (s.heap.objs.size + 1) :: (us ++ ds)) _ _ E (hr.make C us [])
    (I2.env0.make C us []) (hb _ (Value.ref (s.heap.objs.size + 1) :: us) I2.kIn hl) r2 hq) fun r s' hq' => ?_))
  cases r with
  | error e => exact hx pins σ _ _ e s' I2 hq'
  | ok fl =>
    cases fl with
    | ret u =>
      obtain ⟨v, H', I3, rv, ev, q3⟩ := I2.after hq'
      subst ev
      exact ⟨rv, ⟨V.ref (s.heap.objs.size + 1), H', I3, rfl, q3⟩⟩
    | next => exact False.elim hq'
    | brk => exact False.elim hq'
    | cont => exact False.elim hq'
theorem pe_make (M : Mk X.K C f) (F : FnOk X.prog X.w X.K X.mg X.base CX k f fd ps sp) (hr : Room (k + 1) X.A) (hg : Gl X x) (hm : X.mg x = some (.ref C)) (hb : Binds X.K fd ps ds) (hd : Vals dvs ds) (hx : Passes CX X E)
    (ha : PA X (e :: es) t) (hdb : (x == ("__debug__" : Str)) = false := by decide) (he : starEach (e :: es) X.env = (false, eval e X.env) :: starEach es X.env := by rfl) (hpl : (backTo pos (starEach es X.env)).any (·.1) = false := by rfl) :
    PE X (.Call (.Name x p) (e :: es) [] pos) (tMake C sp dvs E t) := by
  intro pins s σ H Q I h
  refine wpAny_Call_Name_kw (ld_glob I hg hm ?_ hdb)
  refine PySem.W.callWith_K (h₀ := X.base) I.ok.mod.kin M.kp (thn (ha pos pins s σ H _ I h) fun us s1 ⟨vs, H1, I1, r, q⟩ => ⟨I1.kIn, ?_⟩) he hpl
  exact run_make M F hr hb hd hx I1 r q
theorem pe_make0 (M : Mk X.K C f) (F : FnOk X.prog X.w X.K X.mg X.base CX k f fd ps sp) (hr : Room (k + 1) X.A) (hg : Gl X x) (hm : X.mg x = some (.ref C)) (hb : Binds X.K fd ps ds) (hd : Vals dvs ds) (hx : Passes CX X E)
    (hdb : (x == ("__debug__" : Str)) = false := by decide) : PE X (.Call (.Name x p) [] [] pos) (tMake C sp dvs E tNil) := by
  intro pins s σ H Q I h
  refine wpAny_Call_Name_kw (ld_glob I hg hm ?_ hdb)
  exact PySem.W.callWith_K0 I.kIn M.kp (run_make (us := []) M F hr hb hd hx I .nil h)
end

/-! ### keywords -/
/-- the values of the keywords, from the left -/
def PK (X : Cx) (kws : List Keyword) (t : TA) : Prop :=
  ∀ (pos : Pos) (pins : List (Addr × Obj)) (s : Shared) (σ : St) (H : Hp) (Q : List V → Hp → Prop), Inv X pins σ H s → t σ H Q → wpAny (model X.prog X.w) X.A (evalAll ((backToKw pos (keywordEach kws X.env)).map (·.2))) (AP X pins σ Q) X.xe s
section
variable {X : Cx} {CX : CXT} {k : Nat} {f C : Addr} {fd : FuncData} {ps ks : List Str} {sp : Sp} {E : XK} {x m : Str} {p pos apos kpos : Pos} {e o : Expr} {es : List Expr} {kws : List Keyword} {te ta : TE} {t tk : TA} {nm : Option Str}
theorem pk_nil : PK X [] tNil := fun _ _ _ _ H Q I h => wpAny_evalAll_nil ⟨[], H, I, .nil, h⟩
theorem pk_cons (ha : PE X e te) (hr : PK X kws t) : PK X (⟨nm, e, kpos⟩ :: kws) (tCons te t) := by
  intro pos pins s σ H Q I h
  show wpAny _ _ (evalAll ((do let v ← eval e X.env; standAt pos; pure v) :: (backToKw pos (keywordEach kws X.env)).map (·.2))) _ _ s
  refine wpAny_evalAll_cons (wpAny_bind (thn (ha pins s σ H _ I h) fun u s1 ⟨x, H1, I1, r1, q1⟩ => wpAny_bind (wpAny_standAt (wpAny_pure ?_))))
  exact thn (hr pos pins s1 σ H1 _ I1 q1) fun us s2 ⟨xs, H2, I2, r2, q2⟩ => ⟨x :: xs, H2, I2, .cons r1 r2, q2⟩

/-- how a call with keywords binds: g puts the positional values us and the keywords' values ws (names ks) in the parameters' order, defaults among them -/
structure KBinds (K : PySem.W.Frag) (fd : FuncData) (ps ks : List Str) (g : List Value → List Value → List Value) (gV : List V → List V → List V) : Prop where
  to : ∀ (s : Shared) (us ws : List Value), K.In s.heap → (g us ws).length = ps.length → BindsTo s fd ⟨us, ks.zip ws⟩ (ps.zip (g us ws))
  rel : ∀ {vs : List V} {us : List Value} {zs : List V} {ws : List Value}, Vals vs us → Vals zs ws → Vals (gV vs zs) (g us ws)
def tCallK (sp : Sp) (gV : List V → List V → List V) (E : XK) (t tk : TA) : TE := fun σ H Q => t σ H fun vs H1 => tk σ H1 fun zs H2 => sp (gV vs zs) H2 Q E
variable {g : List Value → List Value → List Value} {gV : List V → List V → List V}
theorem run_fnk {pins : List (Addr × Obj)} {σ : St} {H : Hp} {s : Shared} {Q : VK} {us ws : List Value} {vs zs : List V} (F : FnOk X.prog X.w X.K X.mg X.base CX k f fd ps sp) (hr : Room k X.A) (hb : KBinds X.K fd ps ks g gV) (hx : Passes CX X E)
    (I : Inv X pins σ H s) (r : Vals vs us) (rz : Vals zs ws) (h : sp (gV vs zs) H Q E) : wpAny (model X.prog X.w) X.A (call (.ref f) us (ks.zip ws)) (EP X pins σ Q) X.xe s := by
  have r2 := hb.rel r rz
  have hl : (g us ws).length = ps.length := by rw [← r2.length]; exact F.len _ _ _ _ h
  refine wpAny_call (codeAny_mono (F.run X.A X.stack s H ⟨us, ks.zip ws⟩ (g us ws) (gV vs zs) Q E hr I.env0 (hb.to s us ws I.kIn hl) r2 h) fun r s' hq => ?_)
  cases r with
  | error e => exact hx pins σ H s e s' I hq
  | ok fl =>
    cases fl with
    | ret u => exact I.after hq
    | next => exact False.elim hq
    | brk => exact False.elim hq
    | cont => exact False.elim hq
/-- f(e, .., k = v, ..) -/
theorem pe_callK (F : FnOk X.prog X.w X.K X.mg X.base CX k f fd ps sp) (hr : Room k X.A) (hg : Gl X x) (hm : X.mg x = some (.ref f)) (hk : PySem.W.keepIn X.K (.ref f) = true) (hb : KBinds X.K fd ps ks g gV) (hx : Passes CX X E)
    (ha : PA X (e :: es) t) (hkw : PK X kws tk) (hall : (backToKw pos (keywordEach kws X.env)).all (·.1.isSome) = true := by rfl) (hks : (backToKw pos (keywordEach kws X.env)).filterMap (·.1) = ks := by rfl)
    (hdb : (x == ("__debug__" : Str)) = false := by decide) (he : starEach (e :: es) X.env = (false, eval e X.env) :: starEach es X.env := by rfl)
    (hpl : ((backTo pos (starEach (e :: es) X.env)).any (·.1) || (backToKw pos (keywordEach kws X.env)).any (·.1.isNone)) = false := by rfl) :
    PE X (.Call (.Name x p) (e :: es) kws pos) (tCallK sp gV E t tk) := by
  intro pins s σ H Q I h
  refine wpAny_Call_Name_kw (ld_glob I hg hm ?_ hdb)
  refine PySem.W.callWith_KW (h₀ := X.base) I.ok.mod.kin hk hall (thn (ha pos pins s σ H _ I h) fun us s1 ⟨vs, H1, I1, r, q⟩ => ?_) hpl he
  refine thn (hkw pos pins s1 σ H1 _ I1 q) fun ws s2 ⟨zs, H2, I2, rz, q2⟩ => ⟨I2.kIn, ?_⟩
  rw [hks]
  exact run_fnk F hr hb hx I2 r rz q2
end

/-! ### a def's body keeps its promise -/
/-- names: the parameters first -/
structure FnScope (N P : List Str) (sc : Scope) : Prop where
  kind : sc.kind = .function
  co : sc.isCoroutine = false
  gen : sc.isGenerator = false
  nd : N.Nodup
  pre : N.take P.length = P
  par : ∀ x ∈ P, sc.names.lookup x = some .local ∨ sc.names.lookup x = some .cell
  nofree : ∀ y ∈ sc.names, y.2 ≠ .free

theorem bindL_out {kindOf : Str → Option NameKind} {x : Str} : ∀ {binds : List (Str × Value)} {m : Str → Option Value}, (∀ v, (x, v) ∉ binds) → bindL kindOf binds m x = m x
  | [], _, _ => rfl
  | (n, v) :: r, m, h => by
    unfold bindL
    rw [bindL_out fun w hw => h w (List.mem_cons_of_mem _ hw)]
    split
    · have : x ≠ n := by rintro rfl; exact h v List.mem_cons_self
      simp [this]
    · rfl
theorem bindC_out {kindOf : Str → Option NameKind} {x : Str} : ∀ {binds : List (Str × Value)} {m : Str → Option Value}, (∀ v, (x, v) ∉ binds) → bindC kindOf binds m x = m x
  | [], _, _ => rfl
  | (n, v) :: r, m, h => by
    unfold bindC
    rw [bindC_out fun w hw => h w (List.mem_cons_of_mem _ hw)]
    split
    · rfl
    · have : x ≠ n := by rintro rfl; exact h v List.mem_cons_self
      simp [this]
theorem bindL_get {kindOf : Str → Option NameKind} {x : Str} {v : Value} : ∀ {P : List Str} {vs : List Value} {i : Nat} {m : Str → Option Value}, P.Nodup → P[i]? = some x → vs[i]? = some v → kindOf x = some .local →
    bindL kindOf (P.zip vs) m x = some v
  | [], _, _, _, _, h, _, _ => by simp at h
  | _ :: _, [], _, _, _, _, h, _ => by simp at h
  | p :: P, w :: vs, 0, m, nd, h1, h2, hk => by
    simp at h1 h2; subst h1; subst h2
    show bindL kindOf ((p, w) :: P.zip vs) m p = _
    unfold bindL
    rw [bindL_out fun v hv => (List.nodup_cons.mp nd).1 (List.of_mem_zip hv).1, if_pos hk]
    simp
  | p :: P, w :: vs, i + 1, m, nd, h1, h2, hk => by
    show bindL kindOf ((p, w) :: P.zip vs) m x = _
    unfold bindL
    exact bindL_get (i := i) (List.nodup_cons.mp nd).2 (by simpa using h1) (by simpa using h2) hk
theorem bindC_get {kindOf : Str → Option NameKind} {x : Str} {v : Value} : ∀ {P : List Str} {vs : List Value} {i : Nat} {m : Str → Option Value}, P.Nodup → P[i]? = some x → vs[i]? = some v → kindOf x ≠ some .local →
    bindC kindOf (P.zip vs) m x = some v
  | [], _, _, _, _, h, _, _ => by simp at h
  | _ :: _, [], _, _, _, _, h, _ => by simp at h
  | p :: P, w :: vs, 0, m, nd, h1, h2, hk => by
    simp at h1 h2; subst h1; subst h2
    show bindC kindOf ((p, w) :: P.zip vs) m p = _
    unfold bindC
    rw [bindC_out fun v hv => (List.nodup_cons.mp nd).1 (List.of_mem_zip hv).1, if_neg hk]
    simp
  | p :: P, w :: vs, i + 1, m, nd, h1, h2, hk => by
    show bindC kindOf ((p, w) :: P.zip vs) m x = _
    unfold bindC
    exact bindC_get (i := i) (List.nodup_cons.mp nd).2 (by simpa using h1) (by simpa using h2) hk

/-- the names' values at the entry -/
def start (N : List Str) (vs : List V) : St := vs.map some ++ List.replicate (N.length - vs.length) none

/-- the context of a def's body, at its entry; an exception leaves the frame, then lies as CX says -/
def cxOf (CX : CXT) (P : Program) (w : World) (K : PySem.W.Frag) (mg : Str → Option Value) (base : Heap) (N : List Str) (qual : Str) (scope : Scope) (f : Addr) (cd : Value) (A : Around) (outer : List Env) (s : Shared) (H : Hp) (E : XK) : Cx where
  prog := P
  w := w
  K := K
  mg := mg
  base := base
  A := A.deeper (envOfC qual scope s.heap.objs.size f cd)
  N := N
  s₀ := s
  H₀ := H
  env := envOfC qual scope s.heap.objs.size f cd
  outer := outer
  stack := envOfC qual scope s.heap.objs.size f cd :: outer
  ex := []
  calm := true
  fn := fun _ => true
  pn := []
  xe := fun e s' => wpAny (model P w) (A.deeper (envOfC qual scope s.heap.objs.size f cd)) (leaving (envOfC qual scope s.heap.objs.size f cd) e) (fun _ s'' => CX outer H s E e s'') (fun e' s'' => CX outer H s E e' s'') s'

theorem cell_has {sc : Scope} {n : Nat} {x : Str} (h : sc.names.lookup x = some .cell) : ∃ c, (cellsFrom n sc.names []).lookup x = some c := by
  have q := PySem.W.cellsFrom_some sc.names n [] (.inl h)
  exact Option.isSome_iff_exists.mp q

theorem inv_start {CX : CXT} {P : Program} {w : World} {K : PySem.W.Frag} {mg : Str → Option Value} {base : Heap} {N ps : List Str} {qual : Str} {scope : Scope} {f : Addr} {cd : Value} {A : Around} {outer : List Env} {s s1 : Shared} {H : Hp} {E : XK} {us : List Value} {vs : List V}
    (S : FnScope N ps scope) (hd : A.handled = none) (e0 : Env0 P w K mg base A outer s H) (hl : vs.length = ps.length) (r : Vals vs us)
    (x : InCallC s s.heap.objs.size (bindL (envOfC qual scope s.heap.objs.size f cd).kindOf (ps.zip us) fun _ => none) (cellsFrom (s.heap.objs.size + 1) scope.names []) (bindC (envOfC qual scope s.heap.objs.size f cd).kindOf (ps.zip us) fun _ => none) s1) :
    Inv (cxOf CX P w K mg base N qual scope f cd A outer s H E) [] (start N vs) H s1 := by
  have hpl : ps.length ≤ N.length := by have := congrArg List.length S.pre; rw [List.length_take] at this; omega
  obtain ⟨h1, tk, rfl, hk⟩ := x.done
  have noA : ∀ b : Addr, b ∉ (cxOf CX P w K mg base N qual scope f cd A outer s H E).ex := fun b z => absurd (show b ∈ ([] : List Addr) from z) (by simp)
  refine ⟨⟨e0.mod, S.kind, rfl, rfl, Nat.le_refl _, fun y z c h1 h2 => ?_, fun y hy => ?_, fun y c _ h => ?_, fun _ => hd, Around.frames_deeper e0.frames, .inr ⟨rfl, rfl⟩, fun b z => absurd z (noA b), e0.bs, e0.bsz, fun b _ _ => noA b, fun b z => absurd z (noA b), e0.funs, e0.frf⟩,
    rfl, e0.bare, Un.kept hk, ⟨_, x.toInCall.ns, fun i y v h1 h2 h3 => ?_⟩, fun y c h => ⟨_, x.cell y c h⟩, e0.hok.fresh (Nat.le_refl _), fun y c h => ?_, fun p hp => absurd (show p ∈ ([] : List (Addr × Obj)) from hp) (by simp), e0.hok.kept hk, ?_⟩
  · exact name_of_addr x.apart (PySem.mem_of_lookup h1) (PySem.mem_of_lookup h2)
  · have hy : scope.names.lookup y = some .cell ∨ scope.names.lookup y = some .free := hy
    rcases hy with hy | hy
    · exact cell_has hy
    · exact absurd rfl (S.nofree _ (PySem.mem_of_lookup hy))
  · exact Nat.le_of_lt (x.above y c (PySem.mem_of_lookup h))
  · have hi : i < vs.length := by
      unfold start at h2
      by_cases hi : i < vs.length
      · exact hi
      · rw [List.getElem?_append_right (by simpa using hi)] at h2
        rw [List.getElem?_replicate] at h2
        split at h2 <;> cases h2
    have ha : vs[i]? = some v := by
      unfold start at h2
      rw [List.getElem?_append_left (by simpa using hi), List.getElem?_map] at h2
      cases e : vs[i]? with
      | none => rw [e] at h2; cases h2
      | some a => rw [e] at h2; cases h2; rfl
    obtain ⟨u, hu, rv⟩ := r.get ha
    have hp : ps[i]? = some y := by
      rw [← S.pre, List.getElem?_take_of_lt (by omega)]; exact h1
    have ndP : ps.Nodup := by rw [← S.pre]; exact S.nd.sublist (List.take_sublist _ _)
    refine ⟨u, rv, ?_⟩
    rcases S.par y (List.mem_of_getElem? hp) with k | k
    · exact .inl ⟨k, bindL_get ndP hp hu k⟩
    · obtain ⟨c, e⟩ := cell_has (n := s.heap.objs.size + 1) k
      refine .inr ⟨.inl k, c, e, ?_⟩
      have q := x.cell y c e
      rw [bindC_get ndP hp hu (by show scope.names.lookup y ≠ _; rw [k]; decide)] at q
      exact q
  · exact e0.hok.fresh (Nat.le_of_lt (x.above y c (PySem.mem_of_lookup h)))
  · unfold start
    show _ = N.length
    rw [List.length_append, List.length_map, List.length_replicate]
    omega

/-- THE RULE: a def (or a method) of the text, by its body. The body's reading t is chosen for each entry; it is run at the parameters' values -/
theorem fn_of {CX : CXT} {P : Program} {w : World} {K : PySem.W.Frag} {mg : Str → Option Value} {base : Heap} {k : Nat} {f : Addr} {name qual : Str} {params : Arguments} {body : List Stmt} {scope : Scope} {dV kV doc pm cdv ct oc : Value} {an od : Option Addr}
    {osl : Array (Option Value)} {N ps : List Str} {sp : Sp} (lk : K.lookup f = some ⟨oc, od, .func (PySem.W.fnOf name qual params body scope dV kV doc pm an cdv ct), osl⟩) (hcd : PySem.W.codeIn K cdv qual = true) (S : FnScope N ps scope)
    (len : ∀ vs H Q E, sp vs H Q E → vs.length = ps.length)
    (hbody : ∀ (A : Around) (outer : List Env) (s : Shared) (H : Hp) (vs : List V) (Q : VK) (E : XK), Room k (A.deeper (envOfC qual scope s.heap.objs.size f cdv)) → sp vs H Q E →
      ∃ t, PSs (cxOf CX P w K mg base N qual scope f cdv A outer s H E) body t ∧ t { nx := fun _ H' => Q .non H', rt := Q } (start N vs) H) :
    FnOk P w K mg base CX (k + 1) f (PySem.W.fnOf name qual params body scope dV kV doc pm an cdv ct) ps sp := by
  refine ⟨len, fun A outer s H args us vs Q E hr e0 hb r hsp => ?_⟩
  have hl := len _ _ _ _ hsp
  have KX : K.In s.heap := e0.mod.kin.keeps fun b o e => (e0.bs b o e).1
  have lim : s.heap.NoLimit := e0.mod.nolimit.keeps fun b o e => (e0.bs b o e).1
  have hkind : ∀ y ∈ ps.zip us, scope.names.lookup y.1 = some .local ∨ (scope.names.lookup y.1 = some .cell ∧ ((cellsFrom (s.heap.objs.size + 1) scope.names []).lookup y.1).isSome = true) := fun ⟨n, v⟩ hy => by
    rcases S.par n (List.of_mem_zip hy).1 with q | q
    · exact .inl q
    · exact .inr ⟨q, PySem.W.cellsFrom_some _ _ _ (.inl q)⟩
  refine codeAny_call_function hr.depth (KX _ _ lk) rfl S.co S.gen rfl (PySem.W.codeRec_of KX hcd) (hb _ _ _ _ ?_)
  refine wpAny_newFunctionEnv_cells S.kind hkind fun env he s1 x => ?_
  subst he
  refine ⟨lim.keeps x.toInCall.keep, codeAny_func ?_⟩
  obtain ⟨t, ht, hq⟩ := hbody A outer s H vs Q E (hr.deeper _) hsp
  have I : Inv (cxOf CX P w K mg base N qual scope f cdv A outer s H E) [] (start N vs) H s1 := inv_start S hr.hd e0 hl r x
  refine wpAny_mono (ht [] s1 (start N vs) H _ I hq) (fun fl s' hs => ?_) fun e s' hs => hs
  have fin : ∀ {σ' : St} {H' : Hp} {v : V} {u : Value}, Inv (cxOf CX P w K mg base N qual scope f cdv A outer s H E) [] σ' H' s' → RelV v u → Q v H' → CE outer P w H s Q u s' :=
    fun {σ' H' v u} J rv q => ⟨v, H', J.os, J.bare, J.base, J.hok, rv, q⟩
  cases fl with
  | ret u =>
    obtain ⟨v, σ', H', J, rv, q⟩ := hs
    exact fin J rv q
  | next =>
    obtain ⟨σ', H', J, q⟩ := hs
    exact fin (v := V.non) (u := Value.none) J rfl q
  | brk =>
    obtain ⟨_, _, _, q⟩ := hs
    exact False.elim q
  | cont =>
    obtain ⟨_, _, _, q⟩ := hs
    exact False.elim q
end L2

namespace L2
open PySem PySem.Spec PyProof.Rows
section
variable {X : Cx} {x : Str} {p pos : Pos} {e : Expr} {es : List Expr} {t : TA} {id T : String} {r : List V → Hp → VK → Prop}

def tCB (r : List V → Hp → VK → Prop) (t : TA) : TE := fun σ H Q => t σ H fun vs H1 => r vs H1 Q
/-- f(e, ..), f a built-in function -/
theorem pe_callB (hc : CallR X (.builtin id) r) (hg : Gl X x) (hm : X.mg x = none) (hv : bootBuiltins x = some (.builtin id)) (ha : PA X (e :: es) t) (hn : x ≠ "__name__" := by decide) (hdb : (x == ("__debug__" : Str)) = false := by decide)
    (he : starEach (e :: es) X.env = (false, eval e X.env) :: starEach es X.env := by rfl) (hpl : (backTo pos (starEach es X.env)).any (·.1) = false := by rfl) : PE X (.Call (.Name x p) (e :: es) [] pos) (tCB r t) := by
  intro pins s σ H Q I h
  refine wpAny_Call_Name_kw (ld_blt I hg hm hv ?_ hn hdb)
  exact PyProof.Rows.callWith_builtin1 (thn (ha pos pins s σ H _ I h) fun us s1 ⟨vs, H1, I1, r1, q1⟩ => hc pins s1 σ H1 vs us Q I1 r1 q1) he hpl
/-- T(e, ..), T a built-in type -/
theorem pe_callTy (hc : CallR X (.type T) r) (hg : Gl X x) (hm : X.mg x = none) (hv : bootBuiltins x = some (.type T)) (ha : PA X (e :: es) t) (hn : x ≠ "__name__" := by decide) (hdb : (x == ("__debug__" : Str)) = false := by decide)
    (he : starEach (e :: es) X.env = (false, eval e X.env) :: starEach es X.env := by rfl) (hpl : (backTo pos (starEach es X.env)).any (·.1) = false := by rfl) : PE X (.Call (.Name x p) (e :: es) [] pos) (tCB r t) := by
  intro pins s σ H Q I h
  refine wpAny_Call_Name_kw (ld_blt I hg hm hv ?_ hn hdb)
  exact PyProof.Rows.callWith_type1 (thn (ha pos pins s σ H _ I h) fun us s1 ⟨vs, H1, I1, r1, q1⟩ => hc pins s1 σ H1 vs us Q I1 r1 q1) he hpl
/-- T() -/
theorem pe_callTy0 (hc : CallR X (.type T) r) (hg : Gl X x) (hm : X.mg x = none) (hv : bootBuiltins x = some (.type T)) (hn : x ≠ "__name__" := by decide) (hdb : (x == ("__debug__" : Str)) = false := by decide) :
    PE X (.Call (.Name x p) [] [] pos) (tCB r tNil) := by
  intro pins s σ H Q I h
  refine wpAny_Call_Name_kw (ld_blt I hg hm hv ?_ hn hdb)
  exact PyProof.Rows.callWith_type0 (hc pins s σ H [] [] Q I .nil h)
end
end L2

namespace HT
open PySem PyProof.Rows

/-- t < u of tuples of ints -/
def lexLt : List Int → List Int → Bool
  | [], [] => false
  | [], _ :: _ => true
  | _ :: _, [] => false
  | x :: xs, y :: ys => if x = y then lexLt xs ys else decide (x < y)
theorem lexLt_cons (x y : Int) (xs ys : List Int) : lexLt (x :: xs) (y :: ys) = if x = y then lexLt xs ys else decide (x < y) := rfl
theorem lexLt_nil_nil : lexLt [] [] = false := rfl
theorem lexLt_nil_cons (y : Int) (ys : List Int) : lexLt [] (y :: ys) = true := rfl
theorem lexLt_cons_nil (x : Int) (xs : List Int) : lexLt (x :: xs) [] = false := rfl

theorem eqAt_int (A : Around) (s : Shared) (a : Int) (t : Tok) (c : Int) (u : Tok) : ∃ e, SeqAt.EqAt A s (.int a t) (.int c u) e ∧ (e = true ↔ a = c) :=
  ⟨(a == c), SeqAt.EqAt.int_int a t c u, by simp⟩
theorem rcLt_int (A : Around) (s : Shared) (a : Int) (t : Tok) (c : Int) (u : Tok) (prog : Program) (w : World) (E : Value → Shared → Prop) (Q : Value → Shared → Prop) (h : Q (.bool (decide (a < c))) s) :
    wpAny (model prog w) A (richCompare .Lt (.int a t) (.int c u)) Q E s :=
  (PyProof.Rows.lt_int h : wpAny (model prog w) A (compareOp .Lt (.int a t) (.int c u)) Q E s)

section
open PySem.SeqAt
open PySem.AutoSeq1 (wpAny_loadPart')
open PySem.MeetsSeq PySem.MeetsSeq2 PySem.MeetsSeq3

theorem tuple_lt_ints (l b : Addr) (items items2 : Array Value) (n n2 : Nat) (dd dd2 : Option Addr) (sl sl2 : Array (Option Value)) (ns ms : List Int) (hi : IntsAre items.toList ns) (hj : IntsAre items2.toList ms) :
    Meets (Builtin.«tuple.__lt__» ⟨[.ref l, .ref b], []⟩)
      (fun _ R s => s.heap.get? l = some { cls := .type "tuple", dict := dd, data := .seq items n, slots := sl } ∧ s.heap.get? b = some { cls := .type "tuple", dict := dd2, data := .seq items2 n2, slots := sl2 } ∧
        R (.ok (.ret (.bool (lexLt ns ms)))) s) :=
  .of_wp fun prog w A R s h => by
    obtain ⟨hp, g, d, tk, os⟩ := s; obtain ⟨hl, hb, h⟩ := h
    have f2 := AutoSeq1.sub_tuple_tuple
    have z1 : items.size = ns.length := by rw [← hi.length]; simp
    have z2 : items2.size = ms.length := by rw [← hj.length]; simp
    wp_walk using wpAny_loadPart' hl, wpAny_loadPart' hb, wpAny_forIn_list _ (fun rest b s' => b.1 = none ∧ s' = ⟨hp, g, d, tk, os⟩ ∧ ∃ (vs ws : List Value) (ns' ms' : List Int), rest = vs.zip ws ∧
      IntsAre vs ns' ∧ IntsAre ws ms' ∧ ns'.length + items2.size = ms'.length + items.size ∧ R (.ok (.ret (.bool (lexLt ns' ms')))) ⟨hp, g, d, tk, os⟩) _
    case turn =>
      rintro ⟨y, x⟩ rest b s' ⟨hb', rfl, vs, ws, ns', ms', hz, hvi, hwi, hlen, hR⟩
      cases hvi with
      | nil => rw [List.zip_nil_left] at hz; cases hz
      | cons a t hvi' =>
        cases hwi with
        | nil => rw [List.zip_nil_right] at hz; cases hz
        | cons c u hwi' =>
          rw [List.zip_cons_cons] at hz
          injection hz with hyx hrest
          injection hyx with hy hx
          subst hy hx
          rw [lexLt_cons] at hR
          simp only [List.length_cons] at hlen
          obtain ⟨e, he, hiff⟩ := eqAt_int A.in1 ⟨hp, g, d, tk, os⟩ a t c u
          refine wpAny_bind (he prog w _ _ ?_)
          cases e with
          | true =>
            rw [if_pos (hiff.mp rfl)] at hR
            wp_walk
            exact ⟨rfl, rfl, _, _, _, _, hrest, hvi', hwi', by omega, hR⟩
          | false =>
            rw [if_neg (fun q => absurd (hiff.mpr q) Bool.false_ne_true)] at hR
            have hri := rcLt_int A.in1 ⟨hp, g, d, tk, os⟩ a t c u prog w
            wp_walk using hri
            exact ⟨_, rfl, by simpa using hR⟩
    case fin =>
      rintro ⟨b1, b2⟩ s' ⟨hb', rfl, vs, ws, ns', ms', hz, hvi, hwi, hlen, hR⟩
      simp only at hb'
      subst hb'
      have hv : lexLt ns' ms' = decide (items.size < items2.size) := by
        cases hvi with
        | nil =>
          cases hwi with
          | nil =>
            simp only [List.length_nil] at hlen
            rw [lexLt_nil_nil]
            exact (decide_eq_false (by omega)).symm
          | cons c u hw =>
            simp only [List.length_nil, List.length_cons] at hlen
            rw [lexLt_nil_cons]
            exact (decide_eq_true (by omega)).symm
        | cons a t hv =>
          cases hwi with
          | nil =>
            simp only [List.length_nil, List.length_cons] at hlen
            rw [lexLt_cons_nil]
            exact (decide_eq_false (by omega)).symm
          | cons c u hw =>
            rw [List.zip_cons_cons] at hz
            cases hz
      rw [hv] at hR
      wp_walk
      exact ⟨_, rfl, by simpa [Builtin.Tuple.tupleCompareSizes] using hR⟩
    case h =>
      exact ⟨rfl, rfl, items.toList, items2.toList, ns, ms, rfl, hi, hj, by omega, h⟩
end

section
variable {prog : Program} {w : World} {A : Around} {E : Value → Shared → Prop} {s : Shared}

theorem lt_tupInts {l b : Addr} {items items2 : Array Value} {ns ms : List Int} {Q : Value → Shared → Prop} (hl : IsTup s.heap l items) (hb : IsTup s.heap b items2) (hi : IntsAre items.toList ns) (hj : IntsAre items2.toList ms)
    (hu : A.units < cLine) (h : Q (.bool (lexLt ns ms)) s) : wpAny (model prog w) A (compareOp .Lt (.ref l) (.ref b)) Q E s := by
  obtain ⟨⟨cls, dd, data, sl⟩, ho, hc, n, hd⟩ := id hl
  obtain ⟨⟨cls2, dd2, data2, sl2⟩, ho2, hc2, n2, hd2⟩ := id hb
  simp only at hc hd hc2 hd2
  subst hc hd hc2 hd2
  exact richCompare_meets_room (op := .Lt) ⟨_, ho, rfl⟩ ⟨_, ho2, rfl⟩ PySem.F.slot_tuple_lt PySem.F.entry_tuple_lt (PySem.F.args_tuple_lt_2 _ _) (tuple_lt_ints l b items items2 n n2 dd dd2 sl sl2 ns ms hi hj)
    ⟨ho, ho2, show Value.bool (lexLt ns ms) ≠ Value.notImplemented ∧ Q (.bool (lexLt ns ms)) s from ⟨(fun x => nomatch x), h⟩⟩ hu

/-- t + u, t not empty -/
theorem cat_tup {t b : Addr} {vs ws : List Value} {Q : Value → Shared → Prop} (ht : IsTup s.heap t vs.toArray) (hb : IsTup s.heap b ws.toArray) (hv : vs ≠ [])
    (h1 : ws = [] → Q (.ref t) s) (h2 : ws ≠ [] → Q (.ref s.heap.objs.size) { s with heap := s.heap.push { cls := .type "tuple", data := .seq (vs ++ ws).toArray } })
    (hsz : vs.length + ws.length ≤ sizeLine) : wpAny (model prog w) A (binaryOp .Add (.ref t) (.ref b)) Q E s := by
  obtain ⟨⟨cls, dd, data, sl⟩, ho, hc, n, hd⟩ := id ht
  obtain ⟨⟨cls2, dd2, data2, sl2⟩, ho2, hc2, n2, hd2⟩ := id hb
  simp only at hc hd hc2 hd2
  subst hc hd hc2 hd2
  have e : vs.toArray ++ ws.toArray = (vs ++ ws).toArray := by simp
  by_cases hw : ws = []
  · exact concat_meets ⟨_, ho, rfl⟩ ⟨_, ho2, rfl⟩ noFill_tuple_add seq_tuple_add PySem.F.slot_tuple_add PySem.F.entry_tuple_add (PySem.F.args_tuple_add_2 _ _)
      (tuple_addW1 t b vs.toArray ws.toArray n n2 dd dd2 sl sl2 (by simpa using hv) (by simp [hw])) ⟨ho, ho2, h1 hw⟩
  · refine concat_meets ⟨_, ho, rfl⟩ ⟨_, ho2, rfl⟩ noFill_tuple_add seq_tuple_add PySem.F.slot_tuple_add PySem.F.entry_tuple_add (PySem.F.args_tuple_add_2 _ _)
      (tuple_addW2 t b vs.toArray ws.toArray n n2 dd dd2 sl sl2 (by simpa using hv) (by simpa using hw) (by rw [List.size_toArray, List.size_toArray]; exact hsz)) ⟨ho, ho2, ?_⟩
    rw [e]
    exact h2 hw

/-! ### t[a:b], not the whole -/
/-- a slice's bound as a place among n (d where it is left out) -/
def sIx (n d : Nat) : Option Int → Nat
  | none => d
  | some v => if v < 0 then (v + (n : Int)).toNat else min v.toNat n
theorem sIx_none (n d : Nat) : sIx n d none = d := rfl
theorem sIx_nat (n d k : Nat) : sIx n d (some (k : Int)) = min k n := by
  show (if (k : Int) < 0 then ((k : Int) + (n : Int)).toNat else min (k : Int).toNat n) = min k n
  rw [if_neg (by omega), Int.toNat_natCast]
theorem sIx_le (n d : Nat) (hd : d ≤ n) (o : Option Int) : sIx n d o ≤ n := by
  cases o with
  | none => exact hd
  | some v =>
    show (if v < 0 then (v + (n : Int)).toNat else min v.toNat n) ≤ n
    by_cases hv : v < 0
    · rw [if_pos hv]; omega
    · rw [if_neg hv]; exact Nat.min_le_right _ _
theorem clip_eq (v : Int) (n d : Nat) : (if v < 0 then max (v + (n : Int)) 0 else min v (n : Int)) = ((sIx n d (some v) : Nat) : Int) := by
  show (if v < 0 then max (v + (n : Int)) 0 else min v (n : Int)) = (((if v < 0 then (v + (n : Int)).toNat else min v.toNat n) : Nat) : Int)
  by_cases hv : v < 0
  · simp only [if_pos hv]; omega
  · simp only [if_neg hv]; omega
theorem adjust_gen (lo hi : Option Int) (n : Nat) : Builtin.Slice.sliceAdjust lo hi 1 (n : Int) = (((sIx n 0 lo : Nat) : Int), ((sIx n n hi : Nat) : Int)) := by
  have h1 : ¬ ((1 : Int) < 0) := by omega
  unfold Builtin.Slice.sliceAdjust
  simp only [h1, if_false]
  refine Prod.ext ?_ ?_
  · cases lo with
    | none => rfl
    | some v => exact clip_eq v n 0
  · cases hi with
    | none => rfl
    | some v => exact clip_eq v n n
theorem places_gen (i j : Nat) : Builtin.Slice.slicePlaces (i : Int) (j : Int) 1 = j - i := by
  unfold Builtin.Slice.slicePlaces
  have h1 : (1 : Int) > 0 := by omega
  simp only [h1, if_true, Int.ediv_one]
  split <;> omega
theorem slicePart_ {v : Value} {o : Option Int} {Q : Option Int → Shared → Prop} (p : IsPart v o) (h : Q o s) : wpAny (model prog w) A (Builtin.Slice.slicePartIndex v) Q E s := by
  cases p with
  | none => exact slicePart_none h
  | int i t => exact slicePart_int h
theorem sliceApplied_gen {sl : Addr} {vl vu : Value} {lo hi : Option Int} {n : Nat} {Q : Int × Int × Nat → Shared → Prop} (hs : s.heap.IsSliceOf sl vl vu .none) (pl : IsPart vl lo) (pu : IsPart vu hi)
    (h : Q (((sIx n 0 lo : Nat) : Int), 1, sIx n n hi - sIx n 0 lo) s) : wpAny (model prog w) A (Builtin.Slice.sliceApplied (.ref sl) (pure (n : Int))) Q E s := by
  obtain ⟨os, hos, hcs, hds⟩ := id hs
  unfold Builtin.Slice.sliceApplied Builtin.Slice.sliceFields
  refine wpAny_bind (wpAny_bind (wpAny_field hos hds (x := vl) rfl (wpAny_bind (wpAny_field hos hds (x := vu) rfl (wpAny_bind (wpAny_field hos hds (x := .none) rfl (wpAny_pure ?_)))))))
  refine wpAny_bind (slicePart_none ?_)
  show wpAny _ _ (if ((1 : Int) == 0) = true then _ else _) _ _ s
  rw [if_neg (by decide)]
  refine wpAny_bind (slicePart_ pl (wpAny_bind (slicePart_ pu (wpAny_bind (wpAny_pure ?_)))))
  show wpAny _ _ (match Builtin.Slice.sliceAdjust lo hi 1 (n : Int) with | (lo, hi) => pure (lo, (1 : Int), Builtin.Slice.slicePlaces lo hi 1)) _ _ s
  rw [adjust_gen lo hi n]
  show wpAny _ _ (pure (((sIx n 0 lo : Nat) : Int), (1 : Int), Builtin.Slice.slicePlaces ((sIx n 0 lo : Nat) : Int) ((sIx n n hi : Nat) : Int) 1)) _ _ s
  rw [places_gen]
  exact wpAny_pure h
theorem pick_gen (xs : Array Value) (i k : Nat) : ((List.range k).filterMap fun (m : Nat) => xs[((i : Int) + (m : Int) * 1).toNat]?).toArray = ((xs.toList.drop i).take k).toArray := by
  have e : (fun (m : Nat) => xs[((i : Int) + (m : Int) * 1).toNat]?) = fun m => xs[i + m]? := by
    funext m
    have : ((i : Int) + (m : Int) * 1).toNat = i + m := by omega
    rw [this]
  rw [e]
  have := pick_run xs i k
  rw [List.filterMap_map] at this
  have e2 : ((fun x => xs[x]?) ∘ fun x => i + x) = fun m => xs[i + m]? := rfl
  rw [e2] at this
  rw [this]

theorem getItem_tuple_cut {t sl : Addr} {items : Array Value} {vl vu : Value} {lo hi : Option Int} {Q : Value → Shared → Prop} (ht : IsTup s.heap t items) (hs : s.heap.IsSliceOf sl vl vu .none) (pl : IsPart vl lo) (pu : IsPart vu hi)
    (hw : ¬ (sIx items.size 0 lo = 0 ∧ sIx items.size items.size hi = items.size))
    (h : Q (.ref s.heap.objs.size) { s with heap := s.heap.push { cls := .type "tuple", data := .seq ((items.toList.drop (sIx items.size 0 lo)).take (sIx items.size items.size hi - sIx items.size 0 lo)).toArray } })
    (hsz : items.size ≤ sizeLine) : wpAny (model prog w) A (getItem (.ref t) (.ref sl)) Q E s := by
  have htake : sizeOk (.seq ((items.toList.drop (sIx items.size 0 lo)).take (sIx items.size items.size hi - sIx items.size 0 lo)).toArray) := by
    show ((items.toList.drop (sIx items.size 0 lo)).take (sIx items.size items.size hi - sIx items.size 0 lo)).toArray.size ≤ sizeLine
    rw [List.size_toArray, List.length_take, List.length_drop, Array.length_toList]
    omega
  have hj : sIx items.size items.size hi ≤ items.size := sIx_le _ _ (Nat.le_refl _) hi
  obtain ⟨os, hos, hcs, hds⟩ := id hs
  have hTs : s.TypeIs (.ref sl) "slice" := ⟨os, hos, hcs⟩
  unfold getItem
  try with_reducible refine wpAny_holding ?_
  first | refine wpAny_bind (wpAny_pure ?_) | skip
  refine wpAny_bind (wpAny_sequenceKey ht.typeIs (by decide) ?_)
  refine wpAny_bind (wpAny_callSpecial?_slot (name := Str.ofString "__getitem__") ht.typeIs PyProof.Rows.slot_tuple_getitem
    (wpAny_call_entry PyProof.Rows.slot_tuple_getitem ht.typeIs entry_tuple_getitem ?_ (args_tuple_getitem _ _)))
  show wpAny _ _ (Builtin.Tuple.tupleItemsOf (.ref t) >>= _) _ _ s
  refine wpAny_bind (tupleItemsOf_ ht ?_)
  refine wpAny_bind (wpAny_typeOf hTs ?_)
  rw [if_pos (by decide)]
  refine wpAny_bind (sliceApplied_gen hs pl pu ?_)
  have hno : ¬ ((((sIx items.size 0 lo : Nat) : Int) == 0 && (1 : Int) == 1 && (sIx items.size items.size hi - sIx items.size 0 lo) == items.size) = true) := by
    intro q
    rw [Bool.and_eq_true, Bool.and_eq_true] at q
    have q1 : ((sIx items.size 0 lo : Nat) : Int) = 0 := eq_of_beq q.1.1
    have q2 : sIx items.size items.size hi - sIx items.size 0 lo = items.size := eq_of_beq q.2
    exact hw ⟨by omega, by omega⟩
  show wpAny _ _ (if (((sIx items.size 0 lo : Nat) : Int) == 0 && (1 : Int) == 1 && (sIx items.size items.size hi - sIx items.size 0 lo) == items.size) = true then _ else _) _ _ s
  rw [if_neg hno, pick_gen]
  first
    | exact wpAny_bind (m := Builtin.Tuple.tupleExact _) (wpAny_newObj_type (wpAny_pure ⟨_, rfl, wpAny_pure h⟩) htake)
    | exact wpAny_bind (m := Builtin.Tuple.tupleExact _) (wpAny_newObj_type (wpAny_bind (wpAny_pure (wpAny_pure ⟨_, rfl, wpAny_pure h⟩))) htake)
    | exact wpAny_bind (wpAny_bind (m := Builtin.Tuple.tupleExact _) (wpAny_newObj_type (wpAny_pure (wpAny_pure ⟨_, rfl, wpAny_pure h⟩)) htake))
    | exact wpAny_bind (wpAny_bind (m := Builtin.Tuple.tupleExact _) (wpAny_newObj_type (wpAny_pure ⟨_, rfl, wpAny_pure h⟩) htake))
end
end HT

namespace L2
open PySem PySem.Spec PyProof.Rows

/-! ### the parts of a slice -/
abbrev TO := St → Hp → (Option Int → Hp → Prop) → Prop
/-- a slice's part (left out, or an int) -/
def PO (X : Cx) (e : Option Expr) (t : TO) : Prop :=
  ∀ (pins : List (Addr × Obj)) (s : Shared) (σ : St) (H : Hp) (Q : Option Int → Hp → Prop), Inv X pins σ H s → t σ H Q →
    wpAny (model X.prog X.w) X.A (evalPart e X.env) (fun u s' => ∃ o H', Inv X pins σ H' s' ∧ IsPart u o ∧ Q o H') X.xe s
def tNoPart : TO := fun _ H Q => Q none H
def tPart (t : TE) : TO := fun σ H Q => t σ H fun x H1 => ∃ i, x = .int i ∧ Q (some i) H1

theorem intsAre_of {ns : List Int} : ∀ {us : List Value}, Vals (ns.map V.int) us → IntsAre us ns := by
  induction ns with
  | nil => intro us r; rw [List.map_nil] at r; cases r; exact .nil
  | cons n ns ih =>
    intro us r
    rw [List.map_cons] at r
    cases r with
    | cons r1 r2 =>
      obtain ⟨t, e⟩ := r1
      subst e
      exact .cons n t (ih r2)

section
variable {X : Cx} {e : Expr} {te : TE} {lo hi : Option Expr} {tl th : TO} {pos p2 : Pos}

theorem po_none : PO X none tNoPart := by
  intro pins s σ H Q I h
  rw [evalPart_none]
  exact wpAny_pure ⟨none, H, I, .none, h⟩
theorem po_some (h : PE X e te) : PO X (some e) (tPart te) := by
  intro pins s σ H Q I hw
  rw [evalPart_some]
  refine thn (h pins s σ H _ I hw) fun u s1 ⟨x, H1, I1, r1, q1⟩ => ?_
  obtain ⟨i, rfl, q⟩ := q1
  obtain ⟨t, rfl⟩ := r1
  exact ⟨some i, H1, I1, .int i t, q⟩

/-- what a slice of a value is, by values: the slice object stands at sl -/
def SlR (X : Cx) (r : V → Option Int → Option Int → Hp → VK → Prop) : Prop :=
  ∀ (pins : List (Addr × Obj)) (s : Shared) (σ : St) (H : Hp) (x : V) (v vl vu : Value) (lo hi : Option Int) (sl : Addr) (Q : VK), Inv X pins σ H s → RelV x v → s.heap.IsSliceOf sl vl vu .none → IsPart vl lo → IsPart vu hi → r x lo hi H Q →
    ∃ T id, typeLookup (.type T) "__getitem__" = pure (some (.builtin id)) ∧ s.TypeIs v T ∧ wpAny (model X.prog X.w) X.A (getItem v (.ref sl)) (EP X pins σ Q) X.xe s
theorem SlR.or {r r' : V → Option Int → Option Int → Hp → VK → Prop} (h : SlR X r) (h' : SlR X r') : SlR X (fun x lo hi H Q => r x lo hi H Q ∨ r' x lo hi H Q) := by
  intro pins s σ H x v vl vu lo hi sl Q I rx hs pl pu q
  rcases q with q | q
  · exact h pins s σ H x v vl vu lo hi sl Q I rx hs pl pu q
  · exact h' pins s σ H x v vl vu lo hi sl Q I rx hs pl pu q
def tSl (r : V → Option Int → Option Int → Hp → VK → Prop) (te : TE) (tl th : TO) : TE := fun σ H Q => te σ H fun x H1 => tl σ H1 fun l H2 => th σ H2 fun u H3 => r x l u H3 Q
/-- a[lo:hi], any a -/
theorem pe_slice {r : V → Option Int → Option Int → Hp → VK → Prop} (hr : SlR X r) (he : PE X e te) (hl : PO X lo tl) (hu : PO X hi th) : PE X (.Subscript e (.Slice lo hi none p2) pos) (tSl r te tl th) := by
  intro pins s σ H Q I h
  refine Subscript_ (thn (he pins s σ H _ I h) fun v s1 ⟨x, H1, I1, r1, q1⟩ => ?_)
  refine wpAny_Slice (thn (hl pins s1 σ H1 _ I1 q1) fun vl s2 ⟨l, H2, I2, pl, q2⟩ => thn (hu pins s2 σ H2 _ I2 q2) fun vu s3 ⟨u, H3, I3, pu, q3⟩ => ?_)
  rw [evalPart_none]
  refine wpAny_pure ?_
  have I4 : Inv X pins σ H3 { s3 with heap := s3.heap.push { cls := .type "slice", data := .fields #[vl, vu, .none] } } := I3.kept (t' := s3.toks) fun b ob q => Heap.get?_push_of_some _ q
  obtain ⟨T, id, hT, ht, hg⟩ := hr pins { s3 with heap := s3.heap.push { cls := .type "slice", data := .fields #[vl, vu, .none] } } σ H3 x v vl vu l u s3.heap.objs.size Q I4 r1 (Heap.IsSliceOf.new ..) pl pu q3
  show wpAny (model X.prog X.w) X.A (subscriptTail e (.Slice lo hi none p2) v (.ref s3.heap.objs.size)) (EP X pins σ Q) X.xe { s3 with heap := s3.heap.push { cls := .type "slice", data := .fields #[vl, vu, .none] } }
  exact tail_any (ops := [.ref s3.heap.objs.size, v]) ht hT hg (by with_unfolding_all rfl)

/-- the items of xs[lo:hi] -/
def cutV (xs : List V) (lo hi : Option Int) : List V := (xs.drop (HT.sIx xs.length 0 lo)).take (HT.sIx xs.length xs.length hi - HT.sIx xs.length 0 lo)
theorem cutV_length (xs : List V) (lo hi : Option Int) : (cutV xs lo hi).length ≤ xs.length := by
  unfold cutV
  rw [List.length_take, List.length_drop]
  omega
/-- t[lo:hi], not the whole of it (the whole would be t itself) -/
def rSlT (K : PySem.W.Frag) : V → Option Int → Option Int → Hp → VK → Prop := fun x lo hi H Q => ∃ a xs, x = .ref a ∧ SqT K H a xs ∧
  ¬ (HT.sIx xs.length 0 lo = 0 ∧ HT.sIx xs.length xs.length hi = xs.length) ∧ ∀ p, H p = none → Q (.ref p) (upd H p (.tup (cutV xs lo hi)))
theorem sl_tup : SlR X (rSlT X.K) := by
  intro pins s σ H x v vl vu lo hi sl Q I rx hs pl pu h
  obtain ⟨a, xs, rfl, hx, hw, q⟩ := h
  cases rx
  obtain ⟨its, r, ht, hz⟩ := I.tuple hx
  have hlen : its.toArray.size = xs.length := by rw [List.size_toArray]; exact r.length.symm
  refine ⟨"tuple", _, PyProof.Rows.slot_tuple_getitem.lookup, ht.typeIs, ?_⟩
  refine HT.getItem_tuple_cut ht hs pl pu (by rw [hlen]; exact hw) ?_ (by rw [hlen]; exact hz)
  rw [hlen]
  refine ⟨.ref s.heap.objs.size, _, I.laid (t' := s.toks) (o := .tup (cutV xs lo hi)) (fun b ob q => Heap.get?_push_of_some _ q) (Nat.le_refl _) ?_, rfl, q _ (I.hok.fresh (Nat.le_refl _))⟩
  exact ⟨Nat.le_trans (cutV_length xs lo hi) hz, _, (r.drop (HT.sIx xs.length 0 lo)).take (HT.sIx xs.length xs.length hi - HT.sIx xs.length 0 lo), IsTup.new _ _⟩

/-! ### t < u, t + u -/
def rLtT (K : PySem.W.Frag) : R2 := fun x y H Q => ∃ a b ns ms, x = .ref a ∧ y = .ref b ∧ SqT K H a (ns.map V.int) ∧ SqT K H b (ms.map V.int) ∧ Q (.bl (HT.lexLt ns ms)) H
theorem op_ltT (hu : X.A.units < cLine) : OpR X (compareOp .Lt) (rLtT X.K) := by
  intro pins s σ H x y v u Q I rx ry h
  obtain ⟨a, b, ns, ms, rfl, rfl, ha, hb, q⟩ := h
  cases rx
  cases ry
  obtain ⟨its, r1, p1, _⟩ := I.tuple ha
  obtain ⟨its2, r2, p2, _⟩ := I.tuple hb
  have i1 : IntsAre its.toArray.toList ns := intsAre_of r1
  have i2 : IntsAre its2.toArray.toList ms := intsAre_of r2
  exact HT.lt_tupInts p1 p2 i1 i2 hu ⟨.bl (HT.lexLt ns ms), H, I, rfl, q⟩
/-- t + u, t not empty: u empty gives t itself -/
def rCatT (K : PySem.W.Frag) : R2 := fun x y H Q => ∃ a b xs ys, x = .ref a ∧ y = .ref b ∧ SqT K H a xs ∧ SqT K H b ys ∧ xs ≠ [] ∧ xs.length + ys.length ≤ sizeLine ∧
  (ys = [] → Q (.ref a) H) ∧ (ys ≠ [] → ∀ p, H p = none → Q (.ref p) (upd H p (.tup (xs ++ ys))))
theorem Vals.nil_iff {xs : List V} {us : List Value} (r : Vals xs us) : us = [] ↔ xs = [] := by
  cases r with
  | nil => simp
  | cons _ _ => simp
theorem op_catT : OpR X (binaryOp .Add) (rCatT X.K) := by
  intro pins s σ H x y v u Q I rx ry h
  obtain ⟨a, b, xs, ys, rfl, rfl, ha, hb, hx, hz, q1, q2⟩ := h
  cases rx
  cases ry
  obtain ⟨its, r1, p1, _⟩ := I.tuple ha
  obtain ⟨its2, r2, p2, _⟩ := I.tuple hb
  refine HT.cat_tup p1 p2 (fun z => hx (r1.nil_iff.mp z)) (fun z => ⟨.ref a, H, I, rfl, q1 (r2.nil_iff.mp z)⟩) (fun z => ?_) (by rw [← r1.length, ← r2.length]; exact hz)
  refine ⟨.ref s.heap.objs.size, _, I.laid (t' := s.toks) (o := .tup (xs ++ ys)) (fun b ob q => Heap.get?_push_of_some _ q) (Nat.le_refl _) ?_, rfl, q2 (fun w => z (r2.nil_iff.mpr w)) _ (I.hok.fresh (Nat.le_refl _))⟩
  exact ⟨by rw [List.length_append]; exact hz, _, r1.append r2, IsTup.new _ _⟩
/-- tuple(t) -/
theorem call_tupleT : CallR X (.type "tuple") (fun xs H Q => ∃ a ys, xs = [.ref a] ∧ SqT X.K H a ys ∧ Q (.ref a) H) := by
  intro pins s σ H xs us Q I r h
  obtain ⟨a, ys, rfl, ha, q⟩ := h
  obtain ⟨u, rfl, ru⟩ := vals1 r
  cases ru
  obtain ⟨its, _, p1, _⟩ := I.tuple ha
  exact call_tuple_same (items := its.toArray) p1 ⟨.ref a, H, I, rfl, q⟩
end
end L2

namespace L2
open PySem PySem.Spec PyProof.Rows

/-! ### places -/
/-- the place that an index of any sign means -/
def ixN (n : Nat) (i : Int) : Option Nat := if 0 ≤ i then (if i < n then some i.toNat else none) else if -(n : Int) ≤ i then some (i + n).toNat else none
def atI {α : Type} (xs : List α) (i : Int) : Option α := (ixN xs.length i).bind fun j => xs[j]?
theorem ixN_seq {n : Nat} {i : Int} {j : Nat} (h : ixN n i = some j) : seqIndex? i n = some j ∧ j < n ∧ -(n : Int) ≤ i ∧ i < n := by
  unfold ixN at h
  by_cases h0 : 0 ≤ i
  · rw [if_pos h0] at h
    by_cases h1 : i < n
    · rw [if_pos h1] at h
      have e : i.toNat = j := Option.some.inj h
      exact ⟨by rw [seqIndex_of h0 h1, e], by omega, by omega, h1⟩
    · rw [if_neg h1] at h; cases h
  · rw [if_neg h0] at h
    by_cases h1 : -(n : Int) ≤ i
    · rw [if_pos h1] at h
      have e : (i + n).toNat = j := Option.some.inj h
      exact ⟨by rw [seqIndex_neg (by omega) h1, e], by omega, h1, by omega⟩
    · rw [if_neg h1] at h; cases h
theorem atI_get {α : Type} {xs : List α} {i : Int} {v : α} (h : atI xs i = some v) : ∃ j, seqIndex? i xs.length = some j ∧ xs[j]? = some v ∧ j < xs.length ∧ -(xs.length : Int) ≤ i ∧ i < xs.length := by
  unfold atI at h
  cases e : ixN xs.length i with
  | none => rw [e] at h; cases h
  | some j =>
    rw [e] at h
    obtain ⟨h1, h2, h3, h4⟩ := ixN_seq e
    exact ⟨j, h1, h, h2, h3, h4⟩
theorem atI_nat {α : Type} {xs : List α} {j : Nat} {v : α} (h : xs[j]? = some v) : atI xs (j : Int) = some v := by
  have hj : j < xs.length := (List.getElem?_eq_some_iff.mp h).1
  have e : ixN xs.length (j : Int) = some j := by
    unfold ixN
    rw [if_pos (by omega), if_pos (by omega)]; simp
  unfold atI; rw [e]; exact h
theorem atI_last {α : Type} (xs : List α) (v : α) : atI (xs ++ [v]) (-1) = some v := by
  have hl : (xs ++ [v]).length = xs.length + 1 := by simp
  have e : ixN (xs ++ [v]).length (-1) = some xs.length := by
    unfold ixN
    rw [hl, if_neg (by decide), if_pos (by omega)]
    congr 1
    omega
  unfold atI
  rw [e]
  show (xs ++ [v])[xs.length]? = some v
  simp

/-! ### what may be subscripted -/
/-- what stands as an index of a plain subscript -/
def PlainIx (b : Expr) : Prop := ∀ o i, subscripted b false o i = operate [o, i] (getItem o i)
/-- a subscript by values -/
def IxR (X : Cx) (r : R2) : Prop :=
  ∀ (value slice : Expr) (pins : List (Addr × Obj)) (s : Shared) (σ : St) (H : Hp) (x y : V) (v u : Value) (Q : VK), Inv X pins σ H s → RelV x v → RelV y u → r x y H Q →
    subscripted slice false v u = operate [v, u] (getItem v u) → wpAny (model X.prog X.w) X.A (subscriptTail value slice v u) (EP X pins σ Q) X.xe s
/-- a call of a builtin's method by values: the receiver, the arguments -/
def MtR (X : Cx) (id : String) (r : V → List V → Hp → VK → Prop) : Prop :=
  ∀ (pins : List (Addr × Obj)) (s : Shared) (σ : St) (H : Hp) (x : V) (xs : List V) (v : Value) (us : List Value) (Q : VK), Inv X pins σ H s → RelV x v → Vals xs us → r x xs H Q →
    wpAny (model X.prog X.w) X.A (call (.builtin id) (v :: us)) (EP X pins σ Q) X.xe s
section
variable {X : Cx} {a b : Expr} {ta tb : TE} {pos : Pos}
theorem IxR.or {r r' : R2} (h : IxR X r) (h' : IxR X r') : IxR X (fun x y H Q => r x y H Q ∨ r' x y H Q) := by
  intro value slice pins s σ H x y v u Q I rx ry q hs
  rcases q with q | q
  · exact h value slice pins s σ H x y v u Q I rx ry q hs
  · exact h' value slice pins s σ H x y v u Q I rx ry q hs
theorem MtR.or {id : String} {r r' : V → List V → Hp → VK → Prop} (h : MtR X id r) (h' : MtR X id r') : MtR X id (fun x xs H Q => r x xs H Q ∨ r' x xs H Q) := by
  intro pins s σ H x xs v us Q I rx rs q
  rcases q with q | q
  · exact h pins s σ H x xs v us Q I rx rs q
  · exact h' pins s σ H x xs v us Q I rx rs q
/-- a[b] -/
theorem pe_ix {r : R2} (hr : IxR X r) (ha : PE X a ta) (hb : PE X b tb) (hs : PlainIx b) : PE X (.Subscript a b pos) (tOp r ta tb) := by
  intro pins s σ H Q I h
  exact Subscript_ (binT ha hb I h fun v u s2 x y H2 I2 rx ry q => hr a b pins s2 σ H2 x y v u Q I2 rx ry q (hs _ _))

def rIxL (K : PySem.W.Frag) : R2 := fun x y H Q => ∃ p xs i v, x = .ref p ∧ y = .int i ∧ SqL K H p xs ∧ atI xs i = some v ∧ Q v H
def rIxT (K : PySem.W.Frag) : R2 := fun x y H Q => ∃ p xs i v, x = .ref p ∧ y = .int i ∧ SqT K H p xs ∧ atI xs i = some v ∧ Q v H
def rIxS : R2 := fun x y H Q => ∃ z i c, x = .str z ∧ y = .int i ∧ z.length ≤ sizeLine ∧ atI z.cps.toList i = some c ∧ Q (.str ⟨#[c]⟩) H
theorem ix_list : IxR X (rIxL X.K) := by
  intro value slice pins s σ H x y v u Q I rx ry h hs
  obtain ⟨p, xs, i, z, rfl, rfl, hq, he, q⟩ := h
  cases rx
  obtain ⟨t, rfl⟩ := ry
  obtain ⟨its, r, pl, hz⟩ := I.list hq
  obtain ⟨j, h1, h2, h3, h4, h5⟩ := atI_get he
  obtain ⟨w, ew, rw'⟩ := r.get h2
  have hl := r.length
  have hn := line63
  have fin : EP X pins σ Q w s := ⟨z, H, I, rw', q⟩
  by_cases h0 : 0 ≤ i
  · have hj : i.toNat = j := by
      rw [seqIndex_of h0 h5] at h1
      exact Option.some.inj h1
    exact item_listR pl.isList h0 (by omega) (by rw [hj]; simpa using ew) fin hs
  · have hj : (i + (its.toArray.size : Int)).toNat = j := by
      rw [seqIndex_neg (by omega) h4] at h1
      rw [List.size_toArray, ← hl]
      exact Option.some.inj h1
    exact subscriptTail_builtinR (x := w) pl.isList.typeIs slot_list_getitem.lookup
      (wpAny_getItem_list_neg (Q := fun r s' => r = w ∧ EP X pins σ Q r s') pl.isList (by omega) (by rw [List.size_toArray] <;> omega) (by omega) (by rw [hj]; simpa using ew) ⟨rfl, fin⟩) hs
theorem ix_tup : IxR X (rIxT X.K) := by
  intro value slice pins s σ H x y v u Q I rx ry h hs
  obtain ⟨p, xs, i, z, rfl, rfl, hq, he, q⟩ := h
  cases rx
  obtain ⟨t, rfl⟩ := ry
  obtain ⟨its, r, pl, hz⟩ := I.tuple hq
  obtain ⟨j, h1, h2, h3, h4, h5⟩ := atI_get he
  obtain ⟨w, ew, rw'⟩ := r.get h2
  have hl := r.length
  have hn := line63
  have fin : EP X pins σ Q w s := ⟨z, H, I, rw', q⟩
  exact subscriptTail_builtinR (x := w) pl.typeIs slot_tuple_getitem.lookup
    (getItem_tuple (j := j) (Q := fun r s' => r = w ∧ EP X pins σ Q r s') pl (by omega) (by omega) (by rw [List.size_toArray, ← hl]; exact h1) (by simpa using ew) ⟨rfl, fin⟩) hs
theorem ix_str : IxR X rIxS := by
  intro value slice pins s σ H x y v u Q I rx ry h hs
  obtain ⟨z, i, c, rfl, rfl, hz, he, q⟩ := h
  obtain ⟨t, rfl⟩ := rx
  obtain ⟨t', rfl⟩ := ry
  obtain ⟨j, h1, h2, h3, h4, h5⟩ := atI_get he
  have hl : z.cps.toList.length = z.length := by simp [Str.length]
  rw [hl] at h1 h4 h5
  have hn := line63
  exact tail_any (typeIs_str s z t) slot_str_getitem.lookup (getItem_str (c := c) (by
    have e1 : decide (i < -(2 ^ 63 : Int)) = false := decide_eq_false (by omega)
    have e2 : decide (i ≥ 2 ^ 63) = false := decide_eq_false (by omega)
    rw [e1, e2, Bool.or_false]) (by rw [h1]; simpa using h2) ⟨.str ⟨#[c]⟩, H, I.tok _, ⟨_, rfl⟩, q⟩) hs
/-- list, tuple or str -/
def rIx (K : PySem.W.Frag) : R2 := fun x y H Q => rIxL K x y H Q ∨ rIxT K x y H Q ∨ rIxS x y H Q
theorem ix_seq : IxR X (rIx X.K) := ix_list.or (ix_tup.or ix_str)

/-! ### xs[i] = v, any sign -/
/-- the list's object behind a store -/
theorem mapSeq_set (its : List Value) (n j : Nat) (u : Value) : Obj.mapSeq (·.setIfInBounds j u) { cls := .type "list", data := .seq its.toArray n } = { cls := .type "list", data := .seq (its.set j u).toArray n } := by
  simp [Obj.mapSeq]
theorem Inv.lst {pins : List (Addr × Obj)} {σ : St} {H : Hp} {s : Shared} {p : Addr} {xs : List V} (I : Inv X pins σ H s) (h : H p = some (.lst xs)) :
    ∃ (its : List Value) (n : Nat), Vals xs its ∧ s.heap.get? p = some { cls := .type "list", data := .seq its.toArray n } ∧ xs.length ≤ sizeLine := by
  obtain ⟨z, its, n, r, e⟩ := I.hok p _ h
  exact ⟨its, n, r, e, z⟩
/-- the list at p is written by an update of its object -/
theorem Inv.lstUpd {pins : List (Addr × Obj)} {σ : St} {H : Hp} {s : Shared} {p : Addr} {xs ys : List V} {its its' : List Value} {n n' : Nat} {f : Obj → Obj} (I : Inv X pins σ H s) (h : H p = some (.lst xs))
    (ho : s.heap.get? p = some { cls := .type "list", data := .seq its.toArray n }) (hf : f { cls := .type "list", data := .seq its.toArray n } = { cls := .type "list", data := .seq its'.toArray n' }) (r : Vals ys its') (hz : ys.length ≤ sizeLine) (t : Nat) :
    Inv X pins σ (upd H p (.lst ys)) { s with heap := s.heap.update p f, toks := t } := by
  have e : (s.heap.update p f).get? p = some { cls := .type "list", data := .seq its'.toArray n' } := by
    rw [Heap.get?_update_self f ho (by rw [hf] <;> rfl), hf]
  refine I.write (x := p) (e := p) (by rw [h]; trivial) (.inl rfl) (fun b u hb q => (Heap.get?_update_other _ _ (Ne.symm hb)).trans q) ⟨_, e⟩ ?_
  exact ⟨hz, its', n', r, e⟩
def rSetL : V → V → V → Hp → (Hp → Prop) → Prop := fun o i v H Q => ∃ p xs k j, o = .ref p ∧ i = .int k ∧ H p = some (.lst xs) ∧ ixN xs.length k = some j ∧ Q (upd H p (.lst (xs.set j v)))
theorem set_list : PSet X rSetL := by
  intro pins s σ H o i v ov iv u Q I ro ri rv h
  obtain ⟨p, xs, k, j, rfl, rfl, hp, hj, q⟩ := h
  cases ro
  obtain ⟨t, rfl⟩ := ri
  obtain ⟨its, n, r, ho, hz⟩ := I.lst hp
  obtain ⟨h1, h2, h3, h4⟩ := ixN_seq hj
  have hl := r.length
  have hn := line63
  have I' : Inv X pins σ (upd H p (.lst (xs.set j v))) { s with heap := s.heap.update p (Obj.mapSeq (·.setIfInBounds j u)) } :=
    I.lstUpd hp ho (mapSeq_set its n j u) (r.set rv j) (by rw [List.length_set]; exact hz) s.toks
  by_cases h0 : 0 ≤ k
  · have hk : k.toNat = j := by
      rw [seqIndex_of h0 h4] at h1
      exact Option.some.inj h1
    exact PySem.W.ki_setAt ho h0 (by omega) (by rw [List.size_toArray, ← hl]; exact h4) (by rw [hk]; exact ⟨_, I', q⟩)
  · have hk : (k + (its.toArray.size : Int)).toNat = j := by
      rw [seqIndex_neg (by omega) h3] at h1
      rw [List.size_toArray, ← hl]
      exact Option.some.inj h1
    exact PySem.W.ki_setBack ho (by omega) (by rw [List.size_toArray, ← hl]; exact h3) (by omega) (by rw [hk]; exact ⟨_, I', q⟩)

/-! ### slices -/
theorem slice_bounds (lo hi : Option Int) (n : Nat) : (sliceBounds lo hi none n).1 = ((HT.sIx n 0 lo : Nat) : Int) ∧ (sliceBounds lo hi none n).2.1 = ((HT.sIx n n hi : Nat) : Int) ∧ (sliceBounds lo hi none n).2.2 = 1 := by
  refine ⟨?_, ?_, rfl⟩
  · cases lo with
    | none => simp [sliceBounds, HT.sIx]
    | some i =>
      simp only [sliceBounds, HT.sIx, Option.getD_none, show (1 : Int) > 0 by decide, if_true]
      by_cases h : i < 0
      · simp only [h, if_true] <;> omega
      · simp only [h, if_false] <;> omega
  · cases hi with
    | none => simp [sliceBounds, HT.sIx]
    | some i =>
      simp only [sliceBounds, HT.sIx, Option.getD_none, show (1 : Int) > 0 by decide, if_true]
      by_cases h : i < 0
      · simp only [h, if_true] <;> omega
      · simp only [h, if_false] <;> omega
theorem slicePick_cut (its : List Value) (lo hi : Option Int) : slicePick its.toArray lo hi none = ((its.drop (HT.sIx its.length 0 lo)).take (HT.sIx its.length its.length hi - HT.sIx its.length 0 lo)).toArray := by
  obtain ⟨h1, h2, h3⟩ := slice_bounds lo hi its.toArray.size
  unfold slicePick
  rw [h1, h2, h3]
  simp only [sliceRange_one, pick_run, List.size_toArray] <;> rfl
/-- xs[lo:hi] of a list: a new list -/
def rSlL (K : PySem.W.Frag) : V → Option Int → Option Int → Hp → VK → Prop := fun x lo hi H Q => ∃ a xs, x = .ref a ∧ SqL K H a xs ∧ ∀ p, H p = none → Q (.ref p) (upd H p (.lst (cutV xs lo hi)))
theorem sl_list : SlR X (rSlL X.K) := by
  intro pins s σ H x v vl vu lo hi sl Q I rx hs pl pu h
  obtain ⟨a, xs, rfl, hx, q⟩ := h
  cases rx
  obtain ⟨its, r, ht, hz⟩ := I.list hx
  have hlen := r.length
  refine ⟨"list", _, slot_list_getitem.lookup, ht.isList.typeIs, ?_⟩
  refine wpAny_getItem_list_slice ht.isList hs pl pu .none (by simp) ?_ (by rw [List.size_toArray] <;> omega)
  rw [slicePick_cut, ← hlen]
  refine ⟨.ref s.heap.objs.size, _, I.laid (t' := s.toks) (o := .lst (cutV xs lo hi)) (fun b ob q => Heap.get?_push_of_some _ q) (Nat.le_refl _) ?_, rfl, q _ (I.hok.fresh (Nat.le_refl _))⟩
  exact ⟨Nat.le_trans (cutV_length xs lo hi) hz, _, 0, (r.drop (HT.sIx xs.length 0 lo)).take (HT.sIx xs.length xs.length hi - HT.sIx xs.length 0 lo), Heap.get?_push_size _ rfl⟩

/-! ### in, not in: flat items -/
def flatV : V → Bool
  | .non => true
  | .bl _ => true
  | .int _ => true
  | .str _ => true
  | _ => false
/-- == of flat values -/
def eqV : V → V → Bool
  | .non, .non => true
  | .bl a, .bl b => a == b
  | .bl a, .int b => (if a then 1 else 0) == b
  | .int a, .bl b => a == (if b then 1 else 0)
  | .int a, .int b => a == b
  | .str a, .str b => a == b
  | _, _ => false
theorem eqAt_V {A : Around} {s : Shared} {y x : V} {u v : Value} (ry : RelV y u) (rx : RelV x v) (fy : flatV y = true) (fx : flatV x = true) : SeqAt.EqAt A s u v (eqV y x) := by
  cases y with
  | non =>
    cases ry
    cases x with
    | non => cases rx; exact SeqAt.EqAt.same _
    | bl b => cases rx; exact SeqAt.EqAt.none_bool b
    | int b => obtain ⟨t, rfl⟩ := rx; exact SeqAt.EqAt.none_int b t
    | str b => obtain ⟨t, rfl⟩ := rx; exact SeqAt.EqAt.none_str b t
    | _ => exact absurd (show false = true from fx) Bool.false_ne_true
  | bl a =>
    cases ry
    cases x with
    | non => cases rx; exact SeqAt.EqAt.bool_none a
    | bl b => cases rx; exact SeqAt.EqAt.bool_bool a b
    | int b => obtain ⟨t, rfl⟩ := rx; exact SeqAt.EqAt.bool_int a b t
    | str b => obtain ⟨t, rfl⟩ := rx; exact SeqAt.EqAt.bool_str a b t
    | _ => exact absurd (show false = true from fx) Bool.false_ne_true
  | int a =>
    obtain ⟨t', rfl⟩ := ry
    cases x with
    | non => cases rx; exact SeqAt.EqAt.int_none a t'
    | bl b => cases rx; exact SeqAt.EqAt.int_bool a t' b
    | int b => obtain ⟨t, rfl⟩ := rx; exact SeqAt.EqAt.int_int a t' b t
    | str b => obtain ⟨t, rfl⟩ := rx; exact SeqAt.EqAt.int_str a t' b t
    | _ => exact absurd (show false = true from fx) Bool.false_ne_true
  | str a =>
    obtain ⟨t', rfl⟩ := ry
    cases x with
    | non => cases rx; exact SeqAt.EqAt.str_none a t'
    | bl b => cases rx; exact SeqAt.EqAt.str_bool a t' b
    | int b => obtain ⟨t, rfl⟩ := rx; exact SeqAt.EqAt.str_int a t' b t
    | str b => obtain ⟨t, rfl⟩ := rx; exact SeqAt.EqAt.str_str a t' b t
    | _ => exact absurd (show false = true from fx) Bool.false_ne_true
  | _ => exact absurd (show false = true from fy) Bool.false_ne_true
/-- the items' answers, read off the values (a value's own answer does not lean on its token) -/
def eqU (x : V) (u : Value) : Bool := match u with
  | .none => eqV .non x
  | .bool b => eqV (.bl b) x
  | .int i _ => eqV (.int i) x
  | .str z _ => eqV (.str z) x
  | _ => false
theorem eqU_of {x y : V} {u : Value} (r : RelV y u) (f : flatV y = true) : eqU x u = eqV y x := by
  cases y with
  | non => cases r; rfl
  | bl b => cases r; rfl
  | int i => obtain ⟨t, rfl⟩ := r; rfl
  | str z => obtain ⟨t, rfl⟩ := r; rfl
  | _ => exact absurd (show false = true from f) Bool.false_ne_true
theorem any_eqU {x : V} : ∀ {xs : List V} {us : List Value}, Vals xs us → xs.all flatV = true → us.any (eqU x) = xs.any fun y => eqV y x
  | _, _, .nil, _ => rfl
  | y :: xs, u :: us, .cons r t, f => by
    rw [List.all_cons, Bool.and_eq_true] at f
    rw [List.any_cons, List.any_cons, eqU_of r f.1, any_eqU t f.2]
theorem mem_eqAt {A : Around} {s : Shared} {x : V} {v : Value} (rx : RelV x v) (fx : flatV x = true) : ∀ {xs : List V} {us : List Value}, Vals xs us → xs.all flatV = true → ∀ u ∈ us, SeqAt.EqAt A s u v (eqU x u)
  | _, _, .nil, _ => fun u hu => by cases hu
  | y :: xs, u :: us, .cons r t, f => fun u' hu => by
    rw [List.all_cons, Bool.and_eq_true] at f
    rcases List.mem_cons.mp hu with rfl | hu
    · rw [eqU_of r f.1]; exact eqAt_V r rx f.1 fx
    · exact mem_eqAt rx fx t f.2 u' hu
def inV (x : V) (xs : List V) : Bool := xs.any fun y => eqV y x
/-- x in a list or tuple of flat items -/
def rIn (K : PySem.W.Frag) (neg : Bool) : R2 := fun x y H Q => ∃ p xs, y = .ref p ∧ (SqL K H p xs ∨ SqT K H p xs) ∧ flatV x = true ∧ xs.all flatV = true ∧ Q (.bl (if neg then !inV x xs else inV x xs)) H
theorem op_in_seq : OpR X (compareOp .In) (rIn X.K false) := by
  intro pins s σ H x y v u Q I rx ry h
  obtain ⟨p, xs, rfl, hq, fx, fs, q⟩ := h
  cases ry
  rcases hq with hq | hq
  · obtain ⟨its, r, pl, hz⟩ := I.list hq
    refine SeqAt.in_listAt (eqU x) pl.isList (fun w hw => mem_eqAt rx fx r fs w (by simpa using hw)) ⟨.bl _, H, I, rfl, ?_⟩
    rw [show its.toArray.any (eqU x) = its.any (eqU x) by simp, any_eqU r fs]
    exact q
  · obtain ⟨its, r, pl, hz⟩ := I.tuple hq
    refine SeqAt.in_tupleAt (eqU x) pl (fun w hw => mem_eqAt rx fx r fs w (by simpa using hw)) ⟨.bl _, H, I, rfl, ?_⟩
    rw [show its.toArray.any (eqU x) = its.any (eqU x) by simp, any_eqU r fs]
    exact q
theorem op_notIn_seq : OpR X (compareOp .NotIn) (rIn X.K true) := by
  intro pins s σ H x y v u Q I rx ry h
  obtain ⟨p, xs, rfl, hq, fx, fs, q⟩ := h
  cases ry
  rcases hq with hq | hq
  · obtain ⟨its, r, pl, hz⟩ := I.list hq
    refine SeqAt.notIn_listAt (eqU x) pl.isList (fun w hw => mem_eqAt rx fx r fs w (by simpa using hw)) ⟨.bl _, H, I, rfl, ?_⟩
    rw [show its.toArray.any (eqU x) = its.any (eqU x) by simp, any_eqU r fs]
    exact q
  · obtain ⟨its, r, pl, hz⟩ := I.tuple hq
    refine SeqAt.notIn_tupleAt (eqU x) pl (fun w hw => mem_eqAt rx fx r fs w (by simpa using hw)) ⟨.bl _, H, I, rfl, ?_⟩
    rw [show its.toArray.any (eqU x) = its.any (eqU x) by simp, any_eqU r fs]
    exact q
theorem op_notIn_str : OpR X (compareOp .NotIn) (fun x y H Q => ∃ i j, x = .str i ∧ y = .str j ∧ Q (.bl (!(!(Builtin.Str.occurrences j i 0 j.length 1).isEmpty))) H) := by
  intro pins s σ H x y v u Q I rx ry h
  obtain ⟨i, j, rfl, rfl, q⟩ := h
  obtain ⟨t, rfl⟩ := rx
  obtain ⟨t', rfl⟩ := ry
  exact notIn_str ⟨.bl _, H, I, rfl, q⟩

/-! ### len, list(x), tuple(x) of any list or tuple that is read -/
theorem call_len_seq : CallR X (.builtin "len") (fun xs H Q => ∃ p ys, xs = [.ref p] ∧ (SqL X.K H p ys ∨ SqT X.K H p ys) ∧ Q (.int ys.length) H) := by
  intro pins s σ H xs us Q I r h
  obtain ⟨p, ys, rfl, hq, q⟩ := h
  obtain ⟨u, rfl, rx⟩ := vals1 r
  cases rx
  have hn := line63
  rcases hq with hq | hq
  · obtain ⟨its, r', pl, hz⟩ := I.list hq
    have hlen := r'.length
    exact Calls.call_len_list pl.isList (by simp only [List.size_toArray] <;> omega) ⟨.int ys.length, H, I.tok _, ⟨s.toks + 1, by rw [List.size_toArray, hlen]⟩, q⟩
  · obtain ⟨its, r', pl, hz⟩ := I.tuple hq
    have hlen := r'.length
    exact len_tuple pl (by simp only [List.size_toArray] <;> omega) ⟨.int ys.length, H, I.tok _, ⟨s.toks + 1, by rw [List.size_toArray, hlen]⟩, q⟩
theorem call_len_str : CallR X (.builtin "len") (fun xs H Q => ∃ z, xs = [.str z] ∧ z.length ≤ sizeLine ∧ Q (.int z.length) H) := by
  intro pins s σ H xs us Q I r h
  obtain ⟨z, rfl, hz, q⟩ := h
  obtain ⟨u, rfl, t, rfl⟩ := vals1 r
  have hn := line63
  exact len_str (by omega) ⟨.int z.length, H, I.tok _, ⟨_, rfl⟩, q⟩
theorem CallR.or {f : Value} {r r' : List V → Hp → VK → Prop} (h : CallR X f r) (h' : CallR X f r') : CallR X f (fun xs H Q => r xs H Q ∨ r' xs H Q) := by
  intro pins s σ H xs us Q I rs q
  rcases q with q | q
  · exact h pins s σ H xs us Q I rs q
  · exact h' pins s σ H xs us Q I rs q
theorem call_list_of : CallR X (.type "list") (fun xs H Q => ∃ p ys, xs = [.ref p] ∧ (SqL X.K H p ys ∨ SqT X.K H p ys) ∧ ∀ l, H l = none → Q (.ref l) (upd H l (.lst ys))) := by
  intro pins s σ H xs us Q I r h
  obtain ⟨p, ys, rfl, hq, q⟩ := h
  obtain ⟨u, rfl, rx⟩ := vals1 r
  cases rx
  have fin : ∀ (its : List Value), Vals ys its → ys.length ≤ sizeLine → ∀ (h' : Heap) (c' : Nat), (∀ b o', s.heap.get? b = some o' → h'.get? b = some o') →
      h'.get? s.heap.objs.size = some { cls := .type "list", dict := none, data := .seq its.toArray c', slots := #[] } → EP X pins σ Q (.ref s.heap.objs.size) { s with heap := h' } := fun its r' hz h' c' kp e =>
    ⟨.ref s.heap.objs.size, _, I.laid (t' := s.toks) kp (Nat.le_refl _) (show ObjOk X.prog X.w _ h' _ (.lst ys) from ⟨hz, its, c', r', e⟩), rfl, q _ (I.hok.fresh (Nat.le_refl _))⟩
  rcases hq with hq | hq
  · obtain ⟨its, r', pl, hz⟩ := I.list hq
    have hlen := r'.length
    obtain ⟨o, ho, hc, n, hd⟩ := pl.isList
    exact call_list_seq p (.inl rfl) ho hc hd (fun h' c' kp e => fin its r' hz h' c' kp e) (by simp only [List.size_toArray] <;> omega)
  · obtain ⟨its, r', pl, hz⟩ := I.tuple hq
    have hlen := r'.length
    obtain ⟨o, ho, hc, n, hd⟩ := pl
    exact call_list_seq p (.inr rfl) ho hc hd (fun h' c' kp e => fin its r' hz h' c' kp e) (by simp only [List.size_toArray] <;> omega)
theorem call_tuple_of : CallR X (.type "tuple") (fun xs H Q => ∃ p ys, xs = [.ref p] ∧ ((SqL X.K H p ys ∧ ∀ l, H l = none → Q (.ref l) (upd H l (.tup ys))) ∨ (SqT X.K H p ys ∧ Q (.ref p) H))) := by
  intro pins s σ H xs us Q I r h
  obtain ⟨p, ys, rfl, h⟩ := h
  obtain ⟨u, rfl, rx⟩ := vals1 r
  cases rx
  rcases h with ⟨hq, q⟩ | ⟨hq, q⟩
  · obtain ⟨its, r', pl, hz⟩ := I.list hq
    have hlen := r'.length
    refine call_tuple_list pl.isList (fun h' kp => ?_) (by simp only [List.size_toArray] <;> omega)
    have I1 : Inv X pins σ H { s with heap := h' } := I.kept (t' := s.toks) kp
    have I2 : Inv X pins σ (upd H h'.objs.size (.tup ys)) { s with heap := h'.push { cls := .type "tuple", data := .seq its.toArray } } :=
      I1.laid (t' := s.toks) (fun b o e => Heap.get?_push_of_some _ e) (Nat.le_refl _) (show ObjOk X.prog X.w _ _ _ (.tup ys) from ⟨hz, its, r', IsTup.new _ _⟩)
    exact ⟨.ref h'.objs.size, _, I2, rfl, q _ (I1.hok.fresh (Nat.le_refl _))⟩
  · obtain ⟨its, r', pl, hz⟩ := I.tuple hq
    exact call_tuple_same pl ⟨.ref p, H, I, rfl, q⟩

/-! ### the call of a builtin's method: o.m(..) -/
/-- the value is of that builtin type -/
def tyV (K : PySem.W.Frag) (T : String) (x : V) (H : Hp) : Prop := match x with
  | .str _ => T = "str"
  | .int _ => T = "int"
  | .ref p => (T = "list" ∧ ∃ xs, SqL K H p xs) ∨ (T = "tuple" ∧ ∃ o, K.lookup p = some o ∧ o.cls = .type "tuple" ∧ o.dict = none) ∨
      (T = "dict" ∧ ((∃ kvs, H p = some (.dK kvs)) ∨ ∃ kvs, H p = some (.dT kvs))) ∨ (T = "set" ∧ ∃ S n, H p = some (.set S n))
  | _ => False
theorem tyV_is {pins : List (Addr × Obj)} {σ : St} {H : Hp} {s : Shared} {T : String} {x : V} {v : Value} (I : Inv X pins σ H s) (r : RelV x v) (ty : tyV X.K T x H) :
    s.TypeIs v T ∧ ∀ a, v = .ref a → ∃ ob, s.heap.get? a = some ob ∧ ob.dict = none := by
  cases x with
  | str z =>
    obtain ⟨t, rfl⟩ := r
    cases (show T = "str" from ty)
    exact ⟨typeIs_str s z t, fun _ e => nomatch e⟩
  | int i =>
    obtain ⟨t, rfl⟩ := r
    cases (show T = "int" from ty)
    exact ⟨typeIs_int s i t, fun _ e => nomatch e⟩
  | ref p =>
    cases r
    rcases ty with ⟨rfl, xs, hq⟩ | ⟨rfl, o, hk, hc, hd⟩ | ⟨rfl, hk⟩ | ⟨rfl, S, n, hk⟩
    · obtain ⟨its, _, pl, _⟩ := I.list hq
      refine ⟨pl.isList.typeIs, fun a e => ?_⟩
      cases e
      obtain ⟨o, n, e, c, hd, _⟩ := pl
      exact ⟨o, e, hd⟩
    · refine ⟨⟨o, I.kIn p o hk, hc⟩, fun a e => ?_⟩
      cases e
      exact ⟨o, I.kIn _ o hk, hd⟩
    · have z : ∃ o, s.heap.get? p = some o ∧ o.ExactDict := by
        rcases hk with ⟨kvs, hk⟩ | ⟨kvs, hk⟩
        · obtain ⟨_, _, _, _, o, _, _, e, ex, _⟩ := I.hok p _ hk
          exact ⟨o, e, ex⟩
        · obtain ⟨_, _, _, _, o, _, _, e, ex, _⟩ := I.hok p _ hk
          exact ⟨o, e, ex⟩
      obtain ⟨o, e, ex⟩ := z
      refine ⟨⟨o, e, ex.1⟩, fun a e2 => ?_⟩
      cases e2
      exact ⟨o, e, ex.2.1⟩
    · obtain ⟨o, _, _, _, e, ex, _⟩ := I.hok p _ hk
      refine ⟨⟨o, e, ex.1⟩, fun a e2 => ?_⟩
      cases e2
      exact ⟨o, e, ex.2.1⟩
  | _ => exact False.elim ty
def tBM0 (K : PySem.W.Frag) (T : String) (r : V → List V → Hp → VK → Prop) (to : TE) : TE := fun σ H Q => to σ H fun x H1 => tyV K T x H1 ∧ r x [] H1 Q
def tBM (K : PySem.W.Frag) (T : String) (r : V → List V → Hp → VK → Prop) (to : TE) (t : TA) : TE := fun σ H Q => to σ H fun x H1 => tyV K T x H1 ∧ t σ H1 fun xs H2 => r x xs H2 Q
variable {o e : Expr} {es : List Expr} {to : TE} {t : TA} {name : Str} {apos cpos : Pos} {T id : String} {r : V → List V → Hp → VK → Prop}
theorem pe_bm0 (pa : PlainAttrs T) (slot : Slot T name id) (hty : typeOf (.builtin id) = pure (.type "method_descriptor")) (hm : MtR X id r) (ho : PE X o to)
    (hbase : attributeBase o name X.env (eval o X.env) = eval o X.env := by rfl) (hline : (apos.endLine == cpos.line) = true := by rfl) : PE X (.Call (.Attribute o name apos) [] [] cpos) (tBM0 X.K T r to) := by
  intro pins s σ H Q I h
  refine wpAny_Call_method0_late hbase hline (thn (ho pins s σ H _ I h) fun v s1 ⟨x, H1, I1, r1, ty, q1⟩ => ?_)
  obtain ⟨h1, h2⟩ := tyV_is I1 r1 ty
  exact ⟨T, id, pa, slot, hty, h1, h2, Calls.callWith_builtin rfl (PySem.evalArgs_none (hm pins s1 σ H1 x [] v [] Q I1 r1 .nil q1))⟩
theorem pe_bm (pa : PlainAttrs T) (slot : Slot T name id) (hty : typeOf (.builtin id) = pure (.type "method_descriptor")) (hm : MtR X id r) (ho : PE X o to) (ha : PA X (e :: es) t)
    (hbase : attributeBase o name X.env (eval o X.env) = eval o X.env := by rfl)
    (hfew : ((backTo cpos (starEach (e :: es) X.env)).all (fun x => !x.1) && (backToKw cpos (keywordEach [] X.env)).all (fun x => x.1.isSome)
      && decide ((e :: es).length + ([] : List Keyword).length + (if ([] : List Keyword).isEmpty then 0 else 1) < 30)) = true := by rfl)
    (hline : (apos.endLine == cpos.line) = true := by rfl) (hs : starEach (e :: es) X.env = (false, eval e X.env) :: starEach es X.env := by rfl) (hplain : (backTo cpos (starEach es X.env)).any (·.1) = false := by rfl) :
    PE X (.Call (.Attribute o name apos) (e :: es) [] cpos) (tBM X.K T r to t) := by
  intro pins s σ H Q I h
  refine wpAny_Call_method_late hbase hfew hline rfl (thn (ho pins s σ H _ I h) fun v s1 ⟨x, H1, I1, r1, ty, q1⟩ => ?_)
  obtain ⟨h1, h2⟩ := tyV_is I1 r1 ty
  refine ⟨T, id, pa, slot, hty, h1, h2, ?_⟩
  have hA := ha cpos pins s1 σ H1 _ I1 q1
  rw [hs] at hA ⊢
  refine Calls.callWith_builtin (by show (false || (backTo cpos (starEach es X.env)).any (·.1)) = false; rw [hplain] <;> rfl) (Calls.evalArgs_plain ?_)
  exact thn hA fun us s2 ⟨vs, H2, I2, r2, q2⟩ => hm pins s2 σ H2 x vs v us Q I2 r1 r2 q2
/- xs.append(e), list.index on a module's tuple .. are MtR facts of 06m -/
end
end L2

namespace L2
open PySem PySem.Spec PyProof.Rows

def MtM (X : Cx) (id : String) (r : V → List V → Hp → VK → Prop) : Prop :=
  ∀ (pins : List (Addr × Obj)) (s : Shared) (σ : St) (H : Hp) (x : V) (xs : List V) (v : Value) (us : List Value) (Q : VK), Inv X pins σ H s → RelV x v → Vals xs us → r x xs H Q →
    wpAny (model X.prog X.w) X.A (call (.builtin id) (v :: us)) (EP X pins σ Q) X.xe s

/-! ### lists of values -/
theorem Vals.one : ∀ {x : V} {us : List Value}, Vals [x] us → ∃ u, us = [u] ∧ RelV x u
  | _, _, .cons r .nil => ⟨_, rfl, r⟩
theorem Vals.two : ∀ {x y : V} {us : List Value}, Vals [x, y] us → ∃ u v, us = [u, v] ∧ RelV x u ∧ RelV y v
  | _, _, _, .cons r (.cons q .nil) => ⟨_, _, rfl, r, q⟩
theorem Vals.zero : ∀ {us : List Value}, Vals [] us → us = []
  | _, .nil => rfl
theorem Vals.dropLast {xs : List V} {us : List Value} (h : Vals xs us) : Vals xs.dropLast us.dropLast := by
  induction h with
  | nil => exact .nil
  | cons r t ih =>
    cases t with
    | nil => exact .nil
    | cons q t' => exact .cons r ih
theorem Vals.eraseIdx : ∀ {xs : List V} {us : List Value} (i : Nat), Vals xs us → Vals (xs.eraseIdx i) (us.eraseIdx i)
  | _, _, _, .nil => .nil
  | _, _, 0, .cons _ t => t
  | _, _, i + 1, .cons r t => .cons r (Vals.eraseIdx i t)
theorem Vals.reverse {xs : List V} {us : List Value} (h : Vals xs us) : Vals xs.reverse us.reverse := by
  induction h with
  | nil => exact .nil
  | cons r t ih => rw [List.reverse_cons, List.reverse_cons]; exact Vals.append ih (.cons r .nil)
theorem Vals.rep {xs : List V} {us : List Value} (h : Vals xs us) : ∀ k : Nat, Vals (List.replicate k xs).flatten (List.replicate k us).flatten
  | 0 => .nil
  | k + 1 => by
    rw [List.replicate_succ, List.replicate_succ, List.flatten_cons, List.flatten_cons]
    exact Vals.append h (Vals.rep h k)
theorem erase_last {α : Type} (l : List α) : l.eraseIdx (l.length - 1) = l.dropLast := by
  induction l with
  | nil => rfl
  | cons a r ih =>
    cases r with
    | nil => rfl
    | cons b r =>
      have e : (a :: b :: r).length - 1 = ((b :: r).length - 1) + 1 := by
        have h1 : (a :: b :: r).length = r.length + 2 := rfl
        have h2 : (b :: r).length = r.length + 1 := rfl
        omega
      rw [e, List.eraseIdx_cons_succ, ih]
      all_goals rfl
theorem len_erase {α : Type} : ∀ (l : List α) (i : Nat), (l.eraseIdx i).length ≤ l.length
  | [], _ => Nat.le_refl _
  | _ :: _, 0 => Nat.le_succ _
  | _ :: r, i + 1 => Nat.succ_le_succ (len_erase r i)
theorem foldl_rep (its : List Value) : ∀ (k : Nat) (acc : List Value),
    List.foldl (fun x1 x2 => x1 ++ x2) acc.toArray (List.replicate k its.toArray) = (acc ++ (List.replicate k its).flatten).toArray
  | 0, acc => by simp
  | k + 1, acc => by
    have e : acc.toArray ++ its.toArray = (acc ++ its).toArray := by simp
    have e2 : (acc ++ its) ++ (List.replicate k its).flatten = acc ++ (List.replicate (k + 1) its).flatten := by
      rw [List.replicate_succ, List.flatten_cons, List.append_assoc]
    rw [← e2, ← foldl_rep its k (acc ++ its), ← e, List.replicate_succ, List.foldl_cons]

section
variable {X : Cx} {pins : List (Addr × Obj)} {σ : St} {H : Hp} {s : Shared} {l b : Addr} {xs ys zs : List V}

/-! ### the two steps: a tracked list is rewritten, a new list is laid -/
theorem Inv.lset {its its' : List Value} {n : Nat} {f : Array Value → Array Value} {t' : Nat} (I : Inv X pins σ H s) (hH : H l = some (.lst xs))
    (e : s.heap.get? l = some { cls := .type "list", data := .seq its.toArray n }) (hf : f its.toArray = its'.toArray) (hv : Vals ys its') (hz : ys.length ≤ sizeLine) :
    Inv X pins σ (upd H l (.lst ys)) { s with heap := s.heap.update l (Obj.mapSeq f), toks := t' } := by
  have q := PySem.IsL.update e f
  rw [hf] at q
  refine I.write (x := l) (e := l) (by rw [hH]; exact trivial) (.inl rfl) (fun b' u hb hu => (Heap.get?_update_other s.heap (Obj.mapSeq f) (Ne.symm hb)).trans hu) ⟨_, q⟩ ?_
  exact ⟨hz, its', _, hv, q⟩
theorem Inv.lnew {its : List Value} {t' : Nat} (I : Inv X pins σ H s) (hv : Vals ys its) (hz : ys.length ≤ sizeLine) :
    Inv X pins σ (upd H s.heap.objs.size (.lst ys)) { s with heap := s.heap.push { cls := .type "list", data := .seq its.toArray }, toks := t' } :=
  I.laid (fun _ _ q => Heap.get?_push_of_some _ q) (Nat.le_refl _) ⟨hz, its, 0, hv, Heap.get?_push_size _ rfl⟩
theorem Inv.fresh (I : Inv X pins σ H s) : H s.heap.objs.size = none := I.hok.fresh (Nat.le_refl _)
theorem Inv.lstM (I : Inv X pins σ H s) (hH : H l = some (.lst xs)) : xs.length ≤ sizeLine ∧ ∃ (its : List Value) (n : Nat), Vals xs its ∧ xs.length = its.length ∧ s.heap.get? l = some { cls := .type "list", data := .seq its.toArray n } := by
  obtain ⟨z, its, n, r, e⟩ := I.hok l _ hH
  exact ⟨z, its, n, r, r.length, e⟩

theorem notLongL {n : Nat} (h : n ≤ sizeLine) : Builtin.List.listTooLong n = false := by
  unfold Builtin.List.listTooLong
  exact decide_eq_false (by omega)
end

section
variable {X : Cx}

/-! ### methods -/
def rAppend : V → List V → Hp → VK → Prop := fun x vs H Q => ∃ l xs y, x = .ref l ∧ vs = [y] ∧ H l = some (.lst xs) ∧ xs.length < sizeLine ∧ Q .non (upd H l (.lst (xs ++ [y])))
theorem mt_append : MtM X "list.append" rAppend := by
  intro pins s σ H x vs v us Q I rx rv h
  obtain ⟨l, xs, y, rfl, rfl, hH, hz, q⟩ := h
  cases rx
  obtain ⟨u, rfl, ru⟩ := rv.one
  obtain ⟨z, its, n, r, hl, e⟩ := I.lstM hH
  refine call_meets F.slot_list_append ⟨_, e, rfl⟩ F.entry_list_append (F.args_list_append_2 _ _) (PySem.list_append l its.toArray n u (by rw [List.size_toArray]; omega)) ⟨e, ?_⟩
  refine ⟨.non, _, I.lset (its' := its ++ [u]) hH e (by simp) (r.append (.cons ru .nil)) ?_, rfl, q⟩
  rw [List.length_append, List.length_singleton]
  omega

def rExtend : V → List V → Hp → VK → Prop := fun x vs H Q => ∃ l b xs zs, x = .ref l ∧ vs = [.ref b] ∧ H l = some (.lst xs) ∧ H b = some (.lst zs) ∧ xs.length + zs.length ≤ sizeLine ∧ Q .non (upd H l (.lst (xs ++ zs)))
theorem mt_extend : MtM X "list.extend" rExtend := by
  intro pins s σ H x vs v us Q I rx rv h
  obtain ⟨l, b, xs, zs, rfl, rfl, hH, hB, hz, q⟩ := h
  cases rx
  obtain ⟨u, rfl, ru⟩ := rv.one
  cases ru
  obtain ⟨z, its, n, r, hl, e⟩ := I.lstM hH
  obtain ⟨z2, its2, n2, r2, hl2, e2⟩ := I.lstM hB
  have hsz : its.toArray.size + its2.toArray.size ≤ sizeLine := by rw [List.size_toArray, List.size_toArray]; omega
  have hlong : ¬ (!its.toArray.isEmpty && Builtin.List.listTooLong (its.toArray.size + its2.toArray.size)) = true := by
    rw [notLongL hsz, Bool.and_false]
    exact Bool.false_ne_true
  refine call_meets F.slot_list_extend ⟨_, e, rfl⟩ F.entry_list_extend (F.args_list_extend_2 _ _)
    (AutoSeq1.list_extend_list_list_0 l its.toArray n b its2.toArray n2 hlong (by rw [List.size_toArray]; omega) (by omega)) ⟨e, e2, ?_⟩
  refine ⟨.non, _, I.lset (its' := its ++ its2) hH e (by simp) (r.append r2) ?_, rfl, q⟩
  rw [List.length_append]
  omega

def rPop : V → List V → Hp → VK → Prop := fun x vs H Q => ∃ l xs y, x = .ref l ∧ vs = [] ∧ H l = some (.lst xs) ∧ xs[xs.length - 1]? = some y ∧ Q y (upd H l (.lst xs.dropLast))
theorem mt_pop : MtM X "list.pop" rPop := by
  intro pins s σ H x vs v us Q I rx rv h
  obtain ⟨l, xs, y, rfl, rfl, hH, hy, q⟩ := h
  cases rx
  have hus := rv.zero
  subst hus
  obtain ⟨z, its, n, r, hl, e⟩ := I.lstM hH
  obtain ⟨u, hu, ru⟩ := r.get hy
  have hy' : its.toArray[its.toArray.size - 1]? = some u := by
    show its.toArray[its.length - 1]? = some u
    rw [← Array.getElem?_toList, ← hl]
    exact hu
  refine call_meets F.slot_list_pop ⟨_, e, rfl⟩ F.entry_list_pop (F.args_list_pop_1 _) (MeetsSeq.list_pop_last l its.toArray n u hy' (by rw [List.size_toArray]; omega)) ⟨e, ?_⟩
  refine ⟨y, _, I.lset (its' := its.dropLast) hH e ?_ r.dropLast ?_, ru, q⟩
  · show its.toArray.eraseIdxIfInBounds (its.toArray.size - 1) = its.dropLast.toArray
    rw [List.size_toArray, List.eraseIdxIfInBounds_toArray, erase_last]
  · rw [List.length_dropLast]
    omega

def rPopAt : V → List V → Hp → VK → Prop := fun x vs H Q => ∃ l xs i k y, x = .ref l ∧ vs = [.int i] ∧ H l = some (.lst xs) ∧ -(2 ^ 63) ≤ i ∧ i < 2 ^ 63 ∧ seqIndex? i xs.length = some k ∧ xs[k]? = some y ∧ Q y (upd H l (.lst (xs.eraseIdx k)))
theorem mt_popAt : MtM X "list.pop" rPopAt := by
  intro pins s σ H x vs v us Q I rx rv h
  obtain ⟨l, xs, i, k, y, rfl, rfl, hH, h1, h2, hk, hy, q⟩ := h
  cases rx
  obtain ⟨u, rfl, ru⟩ := rv.one
  obtain ⟨t, rfl⟩ := ru
  obtain ⟨z, its, n, r, hl, e⟩ := I.lstM hH
  obtain ⟨w, hw, rw'⟩ := r.get hy
  refine call_meets F.slot_list_pop ⟨_, e, rfl⟩ F.entry_list_pop (F.args_list_pop_2 _ _)
    (MeetsSeq.list_pop_at l its.toArray n i t k w (fitsIndex_both h1 h2) (by rw [List.size_toArray, ← hl]; exact hk) (by rw [← Array.getElem?_toList]; exact hw) (by rw [List.size_toArray]; omega)) ⟨e, ?_⟩
  refine ⟨y, _, I.lset (its' := its.eraseIdx k) hH e ?_ (r.eraseIdx k) ?_, rw', q⟩
  · show its.toArray.eraseIdxIfInBounds k = (its.eraseIdx k).toArray
    rw [List.eraseIdxIfInBounds_toArray]
  · have := len_erase xs k
    omega

def rReverse : V → List V → Hp → VK → Prop := fun x vs H Q => ∃ l xs, x = .ref l ∧ vs = [] ∧ H l = some (.lst xs) ∧ Q .non (upd H l (.lst xs.reverse))
theorem mt_reverse : MtM X "list.reverse" rReverse := by
  intro pins s σ H x vs v us Q I rx rv h
  obtain ⟨l, xs, rfl, rfl, hH, q⟩ := h
  cases rx
  have hus := rv.zero
  subst hus
  obtain ⟨z, its, n, r, hl, e⟩ := I.lstM hH
  refine call_meets F.slot_list_reverse ⟨_, e, rfl⟩ F.entry_list_reverse (F.args_list_reverse_1 _) (AutoSeq1.list_reverse_list_0 l its.toArray n (by rw [List.size_toArray]; omega)) ⟨e, ?_⟩
  refine ⟨.non, _, I.lset (its' := its.reverse) hH e (by simp) r.reverse ?_, rfl, q⟩
  rw [List.length_reverse]
  omega

def rClear : V → List V → Hp → VK → Prop := fun x vs H Q => ∃ l xs, x = .ref l ∧ vs = [] ∧ H l = some (.lst xs) ∧ Q .non (upd H l (.lst []))
theorem mt_clear : MtM X "list.clear" rClear := by
  intro pins s σ H x vs v us Q I rx rv h
  obtain ⟨l, xs, rfl, rfl, hH, q⟩ := h
  cases rx
  have hus := rv.zero
  subst hus
  obtain ⟨z, its, n, r, hl, e⟩ := I.lstM hH
  refine call_meets F.slot_list_clear ⟨_, e, rfl⟩ F.entry_list_clear (F.args_list_clear_1 _) (AutoSeq1.list_clear_list_0 l its.toArray n (by rw [List.size_toArray]; omega)) ⟨e, ?_⟩
  exact ⟨.non, _, I.lset (its' := []) (ys := []) hH e rfl .nil (Nat.zero_le _), rfl, q⟩

/-! ### list + list, list += list, list * int -/
def rCat : R2 := fun x y H Q => ∃ l b xs zs, x = .ref l ∧ y = .ref b ∧ H l = some (.lst xs) ∧ H b = some (.lst zs) ∧ xs.length + zs.length ≤ sizeLine ∧ ∀ p, H p = none → Q (.ref p) (upd H p (.lst (xs ++ zs)))
theorem op_cat : OpR X (binaryOp .Add) rCat := by
  intro pins s σ H x y v u Q I rx ry h
  obtain ⟨l, b, xs, zs, rfl, rfl, hH, hB, hz, q⟩ := h
  cases rx
  cases ry
  obtain ⟨z, its, n, r, hl, e⟩ := I.lstM hH
  obtain ⟨z2, its2, n2, r2, hl2, e2⟩ := I.lstM hB
  refine PySem.P.add_list e e2 ?_ (by rw [List.size_toArray, List.size_toArray]; omega)
  have ea : its.toArray ++ its2.toArray = (its ++ its2).toArray := by simp
  rw [ea]
  exact ⟨.ref _, _, I.lnew (t' := s.toks) (r.append r2) (by rw [List.length_append]; omega), rfl, q _ I.fresh⟩
/-- a list times an int (a negative one is nothing) -/
def rRep : R2 := fun x y H Q => ∃ l k xs, x = .ref l ∧ y = .int k ∧ H l = some (.lst xs) ∧ -(2 ^ 63) ≤ k ∧ k < 2 ^ 63 ∧ xs.length * k.toNat ≤ sizeLine ∧
  ∀ p, H p = none → Q (.ref p) (upd H p (.lst (List.replicate k.toNat xs).flatten))
theorem len_rep {α : Type} (xs : List α) (k : Nat) : (List.replicate k xs).flatten.length = k * xs.length := by
  induction k with
  | zero => simp
  | succ k ih => rw [List.replicate_succ, List.flatten_cons, List.length_append, ih, Nat.succ_mul, Nat.add_comm]
theorem op_rep : OpR X (binaryOp .Mult) rRep := by
  intro pins s σ H x y v u Q I rx ry h
  obtain ⟨l, k, xs, rfl, rfl, hH, h1, h2, hz, q⟩ := h
  cases rx
  obtain ⟨t, rfl⟩ := ry
  obtain ⟨z, its, n, r, hl, e⟩ := I.lstM hH
  have hlen : its.toArray.size * k.toNat ≤ sizeLine := by rw [List.size_toArray, ← hl]; exact hz
  have hcap : ¬ its.toArray.size * k.toNat > (2 ^ 63 - 1) / 8 := by
    have : (sizeLine : Nat) ≤ (2 ^ 63 - 1) / 8 := by decide
    omega
  have hfit : ¬ (!Builtin.List.listFitsIndex k) = true := by
    rw [fitsIndex_both h1 h2]
    exact Bool.false_ne_true
  have hlong : ¬ Builtin.List.listTooLong (its.toArray.size * k.toNat) = true := by
    rw [notLongL hlen]
    exact Bool.false_ne_true
  have hnew : List.foldl (fun x1 x2 => x1 ++ x2) #[] (List.replicate (if its.toArray.isEmpty = true then 0 else k.toNat) its.toArray) = (List.replicate k.toNat its).flatten.toArray := by
    have f0 : ∀ m : Nat, List.foldl (fun x1 x2 => x1 ++ x2) #[] (List.replicate m its.toArray) = (List.replicate m its).flatten.toArray := fun m => by
      have := foldl_rep its m []
      rw [List.nil_append] at this
      exact this
    rw [f0]
    cases its with
    | nil => simp
    | cons a r' => rw [if_neg (by simp)]
  refine wpAny_binaryOp_repeat_ref (T := "list") (U := "int") (by decide) ⟨_, e, rfl⟩ (fun s' => typeIs_int s' k t) noFill_list_mul F.fills_int_mul F.slot_int_rmul repeat_list F.slot_int_index.lookup
    (call_meets F.slot_int_rmul (typeIs_int s k t) F.entry_int_rmul (F.args_int_rmul_2 _ _) (int___rmul___int_list k t l its.toArray n)
      ⟨e, rfl, ⟨_, e, rfl⟩, call_meets F.slot_list_mul ⟨_, e, rfl⟩ F.entry_list_mul (F.args_list_mul_2 _ _) (AutoListH.list___mul___list_int_3 l its.toArray n k t hfit hcap hlong) ⟨e, ?_⟩⟩)
  rw [hnew]
  exact ⟨.ref _, _, I.lnew (t' := s.toks) (r.rep k.toNat) (by rw [len_rep, Nat.mul_comm]; exact hz), rfl, q _ I.fresh⟩

/-! ### del xs[i] -/
theorem del_list {pins : List (Addr × Obj)} {s : Shared} {σ : St} {H : Hp} {l : Addr} {xs : List V} {i : Int} {t : Tok} {k : Nat} {Q : Unit → Shared → Prop} (I : Inv X pins σ H s) (hH : H l = some (.lst xs))
    (h1 : -(2 ^ 63) ≤ i) (h2 : i < 2 ^ 63) (hk : seqIndex? i xs.length = some k) (h : ∀ s', Inv X pins σ (upd H l (.lst (xs.eraseIdx k))) s' → Q () s') :
    wpAny (model X.prog X.w) X.A (delItem (.ref l) (.int i t)) Q X.xe s := by
  obtain ⟨z, its, n, r, hl, e⟩ := I.lstM hH
  refine PySem.P.delItem_list (k := k) e (fitsIndex_both h1 h2) (by rw [List.size_toArray, ← hl]; exact hk) (h _ ?_) (by rw [List.size_toArray]; omega)
  refine I.lset (its' := its.eraseIdx k) (t' := s.toks) hH e ?_ (r.eraseIdx k) ?_
  · show its.toArray.eraseIdxIfInBounds k = (its.eraseIdx k).toArray
    rw [List.eraseIdxIfInBounds_toArray]
  · have := len_erase xs k
    omega
end

/-! ### xs[a:b] = ys -/
section
variable {prog : Program} {w : World} {A : Around} {E : Value → Shared → Prop} {s : Shared}
theorem splice_eq (its its2 : List Value) (a c : Nat) : its.toArray.extract 0 a ++ its2.toArray ++ its.toArray.extract c its.toArray.size = (its.take a ++ its2 ++ its.drop c).toArray := by
  apply Array.toList_inj.mp
  first
    | (simp
       exact List.take_of_length_le (by simp))
    | simp [List.take_of_length_le]
    | simp
theorem bounds_run {a c n : Nat} (hac : a ≤ c) (hc : c ≤ n) : sliceBounds (some (a : Int)) (some (c : Int)) none n = ((a : Int), (c : Int), 1) := by
  simp only [sliceBounds, Option.getD_none]
  have h1 : ¬ ((a : Int) < 0) := by omega
  have h2 : ¬ ((c : Int) < 0) := by omega
  simp only [h1, h2, if_false, show (1 : Int) > 0 by decide, if_true]
  congr 1
  · omega
  · congr 1; omega
set_option maxRecDepth 100000 in
/-- list.__setitem__ with a slice of step one and another list -/
theorem setItem_slice {l b sl : Addr} {items new : Array Value} {n n2 : Nat} {vl vu : Value} {a c : Nat} {Q : Unit → Shared → Prop}
    (e : s.heap.get? l = some { cls := .type "list", data := .seq items n }) (e2 : s.heap.get? b = some { cls := .type "list", data := .seq new n2 }) (hne : l ≠ b)
    (hs : s.heap.IsSliceOf sl vl vu .none) (pl : IsPart vl (some (a : Int))) (pu : IsPart vu (some (c : Int))) (hac : a ≤ c) (hc : c ≤ items.size)
    (hsz : items.size + new.size ≤ sizeLine) (h : Q () { s with heap := s.heap.update l (Obj.mapSeq fun xs => xs.extract 0 a ++ new ++ xs.extract c xs.size) }) :
    wpAny (model prog w) A (setItem (.ref l) (.ref sl) (.ref b)) Q E s := by
  have hl : s.heap.IsList l items := PySem.IsL.isList e
  have hb : s.heap.IsList b new := PySem.IsL.isList e2
  obtain ⟨os, hos, hcs, hds⟩ := id hs
  have hTs : s.TypeIs (.ref sl) "slice" := ⟨os, hos, hcs⟩
  have hstep : ¬ ((rawPart none == rawInt 0) = true) := Bool.false_ne_true
  have hsame : Builtin.List.listSameRef (.ref l) (.ref b) = false := by
    unfold Builtin.List.listSameRef
    exact beq_eq_false_iff_ne.mpr hne
  have hmax : (max (a : Int) (c : Int)).toNat = c := by omega
  have hz' : ((fun xs : Array Value => xs.extract 0 a ++ new ++ xs.extract c xs.size) items).size ≤ sizeLine + 1 := by
    simp only [Array.size_append, Array.size_extract]
    omega
  unfold setItem
  try with_reducible refine wpAny_holding ?_
  first | refine wpAny_bind (wpAny_pure ?_) | skip
  refine wpAny_bind (wpAny_sequenceKey hl.typeIs (by decide) ?_)
  refine wpAny_bind (wpAny_callSpecial?_slot (name := Str.ofString "__setitem__") hl.typeIs slot_list_setitem
    (wpAny_call_entry slot_list_setitem hl.typeIs entry_list_setitem ?_ (args_list_setitem _ _ _)))
  show wpAny _ _ (Builtin.List.listSubscript? (.ref sl) >>= _) _ _ s
  refine wpAny_bind ?_
  unfold Builtin.List.listSubscript?
  refine wpAny_bind (wpAny_specialOf hTs slice_no_index ?_)
  simp only [Option.isNone_none, if_true]
  refine wpAny_pure ?_
  show wpAny _ _ (typeOf (.ref sl) >>= _) _ _ s
  refine wpAny_bind (wpAny_typeOf hTs ?_)
  first
    | rw [if_neg (by decide)]
    | refine PySem.W.KFB.if_not (by decide) ?_
  rw [listSliceParts_eq]
  refine wpAny_bind (wpAny_bind (wpAny_field hos hds (x := .none) rfl (wpAny_bind (wpAny_listPart .none ?_))))
  rw [if_neg hstep]
  refine wpAny_bind (wpAny_field hos hds (x := vl) rfl (wpAny_bind (wpAny_listPart pl ?_)))
  refine wpAny_bind (wpAny_field hos hds (x := vu) rfl (wpAny_bind (wpAny_listPart pu (wpAny_pure ?_))))
  first
    | simp only [hsame, Bool.false_eq_true, if_false]
    | refine PySem.W.KFB.if_not hsame ?_
    | (dsimp only
       rw [if_neg (by rw [hsame]; exact Bool.false_ne_true)])
  refine wpAny_bind (m := Builtin.List.listAllItems (.ref b) "must assign iterable to extended slice") ?_
  unfold Builtin.List.listAllItems
  refine wpAny_bind (wpAny_typeOf hb.typeIs ?_)
  first
    | refine PySem.W.KFB.if_so (by decide) ?_
    | rw [if_pos (by decide)]
    | simp only [beq_self_eq_true, Bool.true_or, if_true]
  unfold Builtin.List.listItems
  refine wpAny_bind (wpAny_seqItems e2 rfl (wpAny_pure ?_))
  refine wpAny_bind (wpAny_bind (wpAny_seqItems e rfl (wpAny_pure ?_)))
  refine wpAny_bind (wpAny_of_eq ((sliceIndices_raw (some (a : Int)) (some (c : Int)) none items.size (by simp)).trans (congrArg (pure : Int × Int × Int → Sem (Int × Int × Int)) (bounds_run hac hc))) ?_)
  show wpAny _ _ (if ((1 : Int) == 1) = true then _ else _) _ _ s
  rw [if_pos (by decide)]
  refine wpAny_bind (wpAny_rule ?_)
  first
    | simp only [notLongL hsz, Bool.false_eq_true, if_false]
    | refine PySem.W.KFB.if_not (notLongL hsz) ?_
  first | refine wpAny_bind (wpAny_pure ?_) | skip
  show wpAny _ _ (updateSeq l (fun xs => xs.extract 0 ((a : Int)).toNat ++ new ++ xs.extract (max (a : Int) (c : Int)).toNat xs.size) >>= _) _ _ s
  rw [hmax, Int.toNat_natCast]
  refine wpAny_bind (wpAny_updateSeq (hz := Nat.le_trans (Nat.le_add_right _ _) hsz) (_hz' := hz') e rfl ?_)
  refine wpAny_bind (wpAny_letGo ?_)
  first
    | exact wpAny_bind (wpAny_pure (wpAny_pure ⟨.none, rfl, wpAny_pure h⟩))
    | exact wpAny_pure ⟨.none, rfl, wpAny_pure h⟩
end

section
variable {X : Cx}
/-- xs[a:c] = ys of another list, at the value level: sl is the slice object that was just made -/
theorem set_slice {pins : List (Addr × Obj)} {s : Shared} {σ : St} {H : Hp} {l b sl : Addr} {xs ys : List V} {a c : Int} {vl vu : Value} {Q : Unit → Shared → Prop} (I : Inv X pins σ H s)
    (hH : H l = some (.lst xs)) (hB : H b = some (.lst ys)) (hne : l ≠ b) (hs : s.heap.IsSliceOf sl vl vu .none) (ra : RelV (.int a) vl) (rc : RelV (.int c) vu) (h0 : 0 ≤ a) (hac : a ≤ c) (hc : c ≤ xs.length)
    (hz : xs.length + ys.length ≤ sizeLine) (h : ∀ s', Inv X pins σ (upd H l (.lst (xs.take a.toNat ++ ys ++ xs.drop c.toNat))) s' → Q () s') :
    wpAny (model X.prog X.w) X.A (setItem (.ref l) (.ref sl) (.ref b)) Q X.xe s := by
  obtain ⟨ta, rfl⟩ := ra
  obtain ⟨tc, rfl⟩ := rc
  obtain ⟨z, its, n, r, hl, e⟩ := I.lstM hH
  obtain ⟨z2, its2, n2, r2, hl2, e2⟩ := I.lstM hB
  obtain ⟨a', rfl⟩ := Int.eq_ofNat_of_zero_le h0
  obtain ⟨c', rfl⟩ := Int.eq_ofNat_of_zero_le (Int.le_trans h0 hac)
  simp only [Int.toNat_natCast] at h
  refine setItem_slice (a := a') (c := c') e e2 hne hs (.int _ _) (.int _ _) (by omega) (by rw [List.size_toArray]; omega) (by rw [List.size_toArray, List.size_toArray]; omega) (h _ ?_)
  refine I.lset (its' := its.take a' ++ its2 ++ its.drop c') (t' := s.toks) hH e ?_ (Vals.append (Vals.append (r.take _) r2) (r.drop _)) ?_
  · exact splice_eq its its2 a' c'
  · rw [List.length_append, List.length_append, List.length_take, List.length_drop]
    omega
end
end L2

namespace Att
open PySem PySem.W PySem.Calls PyProof.Rows

/-! ### the script -/
theorem ints_of_wellAll {P : Params} {h : Heap} : ∀ (ns : List Int) (vs : List Value), WellAll P h vs (ns.map WData.int) → IntsAre vs ns := by
  intro ns
  induction ns with
  | nil =>
    intro vs w
    rw [List.map_nil] at w
    cases w
    exact .nil
  | cons n ns ih =>
    intro vs w
    rw [List.map_cons] at w
    cases w with
    | cons a b =>
      cases a
      exact .cons _ _ (ih _ b)

theorem script_of {l : OpenLaw} {n : Nat} (hn : l.most = some n) {P : Params} {h : Heap} {args : List WData} {vals : List Value}
    (hpre : l.row.toRowW.claim.pre args = true) (hwl : WellAll P h vals args) :
    ∃ a vs ns, vals = [Value.ref a] ∧ args = [WData.list (ns.map WData.int)] ∧ h.get? a = some { cls := .type "list", data := .seq vs.toArray } ∧ IntsAre vs ns ∧ ns.length ≤ n := by
  have hsh : WShape.hasAll [] args [.list .int] = true := (pre_splitW hpre).1
  have hc : l.pre.holds [] { args := args } = true := (pre_splitW hpre).2
  obtain ⟨d, r, rfl, h1, h2⟩ := hasAllW_cons hsh
  obtain rfl := hasAllW_nil h2
  obtain ⟨xs, rfl, h3⟩ := hasW_list h1
  obtain ⟨ns, rfl⟩ := items_int h3
  have hlen : ns.length ≤ n := by
    unfold OpenLaw.pre at hc
    have h4 : (WTm.not (.lt (.lit (.int (n : Int))) (.len (.arg 0)))).holds [] { args := [.list (ns.map .int)] } = true := by
      have h4 := (holds_andW hc).1
      rw [hn] at h4
      exact h4
    have h5 := condW_of h4 (w_not (w_lt w_lit (w_len_list (w_arg rfl))))
    rw [List.length_map] at h5
    refine Nat.le_of_not_lt fun q => ?_
    have q' : (n : Int) < ((ns.length : Nat) : Int) := by omega
    first
      | (rw [decide_eq_true q'] at h5; exact absurd h5 (by decide))
      | (simp at h5; omega)
  cases hwl with
  | cons w1 w2 =>
    cases w2
    cases w1 with
    | list ho hall => exact ⟨_, _, ns, rfl, rfl, ho, ints_of_wellAll ns _ hall, hlen⟩

theorem post_true (l : OpenLaw) (args : List WData) : l.row.toRowW.claim.post args (.bool true) args = true :=
  postW_of (r := l.row.toRowW) (X := (true == true))
    (show WShape.has [] (.bool true) .bool = true by first | rfl | decide | simp [WShape.has, WShape.arms, WShape.armsAll])
    (show (WTm.eq .res (.lit (.bool true))).value [] { args := args, res := some (.bool true), after := args } = some (.bool (true == true)) from w_eq_bool (w_res rfl) w_lit) rfl

/-! ### the attachment: holds_open's last premise (the goal 'hc' behind k_head) from a wpAny of the law's body -/
theorem attach {l : OpenLaw} {n : Nat} {q : Program} {loose : List Str} {XP : (Str → Option Value) → Heap → Prop} {YP : World → Heap → Prop} {d : DefRec} {x : Str}
    (hn : l.most = some n) (hdf : d.params.defaults = [])
    (hbind : ∀ pm cd doc v : Value, bindArgs (docDef d.name d.params d.body d.scope pm cd doc) ⟨[v], []⟩ = pure [(x, v)])
    (hx : d.scope.names.lookup x = some .local ∨ d.scope.names.lookup x = some .cell)
    (hk : d.scope.kind = .function) (hco : d.scope.isCoroutine = false) (hgen : d.scope.isGenerator = false)
    (body : ∀ (w : World) (s₀ s₁ s : Shared) (mg mb : Str → Option Value) (fa : Addr) (o : Obj) (pm cd doc : Value) (a : Addr) (vs : List Value) (ns : List Int),
      Ground q loose [] XP w s₀ mg mb s₁.heap → YP w s₁.heap →
      s₁.heap.get? fa = some o → o.data = .func (docDef d.name d.params d.body d.scope pm cd doc) → s₁.heap.CodeRec cd d.name → mg d.name = some (.ref fa) →
      s₁.heap.get? a = some { cls := .type "list", data := .seq vs.toArray } → IntsAre vs ns → ns.length ≤ n →
      s.gens = #[] → s.os = s₁.os →
      Fr s₁.heap s₁.heap.objs.size s.heap (bindL (envOfC d.name d.scope s₁.heap.objs.size fa cd).kindOf [(x, .ref a)] fun _ => none) →
      Cl s₁.heap.objs.size (cellsFrom (s₁.heap.objs.size + 1) d.scope.names []) s.heap (bindC (envOfC d.name d.scope s₁.heap.objs.size fa cd).kindOf [(x, .ref a)] fun _ => none) →
      wpAny (model l.prog w) (callerA.deeper (envOfC d.name d.scope s₁.heap.objs.size fa cd)) (execs d.body (envOfC d.name d.scope s₁.heap.objs.size fa cd))
        (fun f s' => f = .ret (.bool true) ∧ OldK s₁.heap s'.heap ∧ s'.os = s₁.os ∧ AllBare s'.gens) (fun _ _ => False) s) :
    WalkO q loose XP YP l.row.toRowW d [] (fun f vs => PySem.call f vs) := by
  intro w s₀ s₁ mg mb G Y fa o pm cd doc dV kV ho hd hcd hD hmg hg args vals as hpre hlay hrd hwl hlo
  obtain rfl : dV = .none := Dflts.none hD hdf
  obtain rfl : kV = .none := Dflts.noKw hD
  obtain ⟨a, vs, ns, rfl, rfl, hobj, hints, hlen⟩ := script_of hn hpre hwl
  refine enter_call ?_
  refine call_cells_ret (o := o) (by rw [depth_caller]; decide) ho (fd_plain hd) G.T.nolimit hcd (hbind pm cd doc (.ref a)) (fun y hy => ?_) (fun h₁ tk F X => ?_) hco hgen hk
  · obtain rfl : y = (x, Value.ref a) := List.mem_singleton.mp hy
    rcases hx with e | e
    · exact .inl e
    · exact .inr ⟨e, cellsFrom_some _ _ _ (.inl e)⟩
  · refine wpAny_mono (body w s₀ s₁ { s₁ with heap := h₁, toks := tk } mg mb fa o pm cd doc a vs ns G Y ho (fd_plain hd) hcd hmg hobj hints hlen hg rfl F X) (fun f s' hq => ?_) (fun _ _ hq => hq)
    obtain ⟨rfl, h2, h3, h4⟩ := hq
    exact ⟨.inl ⟨.bool true, .bool true, [], rfl, fun _ => rfl, .bool true, post_true l _, fun _ => ⟨List.Pairwise.nil, fun _ hm => (nomatch hm)⟩⟩, h2, h3, h4⟩

/-- the same from a codeAny of the CALL (for a layer whose function contracts speak of calls) -/
theorem attach_call {l : OpenLaw} {n : Nat} {q : Program} {loose : List Str} {XP : (Str → Option Value) → Heap → Prop} {YP : World → Heap → Prop} {d : DefRec}
    (hn : l.most = some n) (hdf : d.params.defaults = [])
    (call : ∀ (w : World) (s₀ s₁ : Shared) (mg mb : Str → Option Value) (fa : Addr) (o : Obj) (pm cd doc : Value) (a : Addr) (vs : List Value) (ns : List Int),
      Ground q loose [] XP w s₀ mg mb s₁.heap → YP w s₁.heap →
      s₁.heap.get? fa = some o → o.data = .func (docDef d.name d.params d.body d.scope pm cd doc) → s₁.heap.CodeRec cd d.name → mg d.name = some (.ref fa) →
      s₁.heap.get? a = some { cls := .type "list", data := .seq vs.toArray } → IntsAre vs ns → ns.length ≤ n → s₁.gens = #[] →
      codeAny (model l.prog w) callerA (.call (.ref fa) ⟨[.ref a], []⟩) (fun r s' => r = .ok (.ret (.bool true)) ∧ OldK s₁.heap s'.heap ∧ s'.os = s₁.os ∧ AllBare s'.gens) s₁) :
    WalkO q loose XP YP l.row.toRowW d [] (fun f vs => PySem.call f vs) := by
  intro w s₀ s₁ mg mb G Y fa o pm cd doc dV kV ho hd hcd hD hmg hg args vals as hpre hlay hrd hwl hlo
  obtain rfl : dV = .none := Dflts.none hD hdf
  obtain rfl : kV = .none := Dflts.noKw hD
  obtain ⟨a, vs, ns, rfl, rfl, hobj, hints, hlen⟩ := script_of hn hpre hwl
  refine enter_call (codeAny_mono (call w s₀ s₁ mg mb fa o pm cd doc a vs ns G Y ho (fd_plain hd) hcd hmg hobj hints hlen hg) fun r s' hq => ?_)
  obtain ⟨rfl, h2, h3, h4⟩ := hq
  exact ⟨.inl ⟨.bool true, .bool true, [], rfl, fun _ => rfl, .bool true, post_true l _, fun _ => ⟨List.Pairwise.nil, fun _ hm => (nomatch hm)⟩⟩, h2, h3, h4⟩

/-- the same where the top left finished generators (o_head chose holds_openN): nothing may have changed at all and no generator may be left -/
theorem attachN {l : OpenLaw} {n : Nat} {q : Program} {loose : List Str} {XP : (Str → Option Value) → Heap → Prop} {YP : World → Heap → Prop} {d : DefRec} {x : Str}
    (hn : l.most = some n) (hdf : d.params.defaults = [])
    (hbind : ∀ pm cd doc v : Value, bindArgs (docDef d.name d.params d.body d.scope pm cd doc) ⟨[v], []⟩ = pure [(x, v)])
    (hx : d.scope.names.lookup x = some .local ∨ d.scope.names.lookup x = some .cell)
    (hk : d.scope.kind = .function) (hco : d.scope.isCoroutine = false) (hgen : d.scope.isGenerator = false)
    (body : ∀ (w : World) (s₀ s₁ s : Shared) (mg mb : Str → Option Value) (fa : Addr) (o : Obj) (pm cd doc : Value) (a : Addr) (vs : List Value) (ns : List Int),
      Ground q loose [] XP w s₀ mg mb s₁.heap → YP w s₁.heap →
      s₁.heap.get? fa = some o → o.data = .func (docDef d.name d.params d.body d.scope pm cd doc) → s₁.heap.CodeRec cd d.name → mg d.name = some (.ref fa) →
      s₁.heap.get? a = some { cls := .type "list", data := .seq vs.toArray } → IntsAre vs ns → ns.length ≤ n →
      s.gens = #[] → s.os = s₁.os →
      Fr s₁.heap s₁.heap.objs.size s.heap (bindL (envOfC d.name d.scope s₁.heap.objs.size fa cd).kindOf [(x, .ref a)] fun _ => none) →
      Cl s₁.heap.objs.size (cellsFrom (s₁.heap.objs.size + 1) d.scope.names []) s.heap (bindC (envOfC d.name d.scope s₁.heap.objs.size fa cd).kindOf [(x, .ref a)] fun _ => none) →
      wpAny (model l.prog w) (callerA.deeper (envOfC d.name d.scope s₁.heap.objs.size fa cd)) (execs d.body (envOfC d.name d.scope s₁.heap.objs.size fa cd))
        (fun f s' => f = .ret (.bool true) ∧ (∀ b o, s₁.heap.get? b = some o → s'.heap.get? b = some o) ∧ s'.os = s₁.os ∧ s'.gens = #[]) (fun _ _ => False) s) :
    WalkN q loose XP YP l.row.toRowW d [] (fun f vs => PySem.call f vs) := by
  intro w s₀ s₁ mg mb G Y fa o pm cd doc dV kV ho hd hcd hD hmg hg args vals as hpre hlay hrd hwl hlo
  obtain rfl : dV = .none := Dflts.none hD hdf
  obtain rfl : kV = .none := Dflts.noKw hD
  obtain ⟨a, vs, ns, rfl, rfl, hobj, hints, hlen⟩ := script_of hn hpre hwl
  refine enter_callW ?_
  refine call_cells_ret (o := o) (by rw [depth_caller]; decide) ho (fd_plain hd) G.T.nolimit hcd (hbind pm cd doc (.ref a)) (fun y hy => ?_) (fun h₁ tk F X => ?_) hco hgen hk
  · obtain rfl : y = (x, Value.ref a) := List.mem_singleton.mp hy
    rcases hx with e | e
    · exact .inl e
    · exact .inr ⟨e, cellsFrom_some _ _ _ (.inl e)⟩
  · refine wpAny_mono (body w s₀ s₁ { s₁ with heap := h₁, toks := tk } mg mb fa o pm cd doc a vs ns G Y ho (fd_plain hd) hcd hmg hobj hints hlen hg rfl F X) (fun f s' hq => ?_) (fun _ _ hq => hq)
    obtain ⟨rfl, h2, h3, h4⟩ := hq
    exact ⟨.inl ⟨.bool true, .bool true, [], rfl, fun _ => rfl, .bool true, post_true l _, fun _ => ⟨List.Pairwise.nil, fun _ hm => (nomatch hm)⟩⟩, h2, h3, h4⟩

/-! ### rules over ANY heap (no ledger) from facts about the written part K: the library's own take a ledger (News) for what they write -/
section
variable {prog : Program} {w : World} {A : Around} {E : Value → Shared → Prop} {s : Shared} {K : Frag}

/-- a def of the module, or a method (qual 'C.m'), entered: the frame is the next address; cells behind it -/
theorem call_fn {R : Result → Shared → Prop} {name qual : Str} {params : Arguments} {body : List Stmt} {scope : Scope} {dV kV doc pm cdv ct oc : Value} {an od : Option Addr} {osl : Array (Option Value)} {f : Addr} {args : Args} {binds : List (Str × Value)}
    (X : K.In s.heap) (hlim : s.heap.NoLimit) (ho : K.lookup f = some ⟨oc, od, .func (fnOf name qual params body scope dV kV doc pm an cdv ct), osl⟩) (hcd : codeIn K cdv qual = true) (hroom : A.depth < recursionLimit)
    (hbind : BindsTo s (fnOf name qual params body scope dV kV doc pm an cdv ct) args binds)
    (hkind : (binds.all fun y => scope.names.lookup y.1 == some .local || scope.names.lookup y.1 == some .cell) = true)
    (h : ∀ s₁, InCallC s s.heap.objs.size (bindL (envOfC qual scope s.heap.objs.size f cdv).kindOf binds fun _ => none) (cellsFrom (s.heap.objs.size + 1) scope.names [])
        (bindC (envOfC qual scope s.heap.objs.size f cdv).kindOf binds fun _ => none) s₁ →
      wpAny (model prog w) (A.deeper (envOfC qual scope s.heap.objs.size f cdv)) (execs body (envOfC qual scope s.heap.objs.size f cdv))
        (fun fl s' => R (.ok (.ret (match fl with | .ret v => v | _ => .none))) s')
        (fun e s' => wpAny (model prog w) (A.deeper (envOfC qual scope s.heap.objs.size f cdv)) (leaving (envOfC qual scope s.heap.objs.size f cdv) e) (fun _ s'' => R (.error e) s'') (fun e' s'' => R (.error e') s'') s') s₁)
    (hco : scope.isCoroutine = false) (hgen : scope.isGenerator = false) (hk : scope.kind = .function) : codeAny (model prog w) A (.call (.ref f) args) R s := by
  refine codeAny_call_function hroom (X _ _ ho) rfl hco hgen rfl (codeRec_of X hcd) (hbind _ _ _ _ ?_)
  refine wpAny_newFunctionEnv_cells hk (kindsX hkind _) fun env he s₁ x => ?_
  subst he
  exact ⟨hlim.keeps x.toInCall.keep, codeAny_func (h s₁ x)⟩

/-- C(..): dict at size, instance at size + 1, then __init__ -/
theorem make_obj {R : Result → Shared → Prop} {C fI : Addr} {rest : List Value} {kw : List (Str × Value)}
    (X : K.In s.heap) (hm : makesIn K C = true) (hi : findIn K (.ref C) "__init__" = some (some (.ref fI))) (hf : isFn K (.ref fI) = true)
    (h : codeAny (model prog w) (A.under (.builtin "type.__call__" ⟨.ref C :: rest, kw⟩)) (.call (.ref fI) ⟨.ref (s.heap.objs.size + 1) :: rest, kw⟩) (InitBack (s.heap.objs.size + 1) R)
      { s with heap := (s.heap.push emptyDict).push (instObj C s.heap.objs.size) }) : codeAny (model prog w) A (.call (.ref C) ⟨rest, kw⟩) R s := by
  obtain ⟨hh, g, d, t, os⟩ := s
  exact make_core (makes_of X hm) (looks_findIn X hi) (fun self => bind_fn X self (beq_iff_eq.mp hf)) (.inl rfl) h

/-- x.name where the instance's dict holds the name and the class does not -/
theorem get_field {x C : Addr} {ox : Obj} {es : List DictEntry} {n : Nat} {name : Str} {expr : Bool} {v : Value} {Q : Value → Shared → Prop}
    (X : K.In s.heap) (I : PySem.W.InstAt s.heap x ox C (some (dictOf es n))) (hg : plainGet K C name = true) (hh : hasDictIn K C = true) (ha : findIn K (.ref C) name = some none)
    (hl : getL name es = some (some v)) (hv : handedIn v = true) (h : Q v { s with toks := s.toks + 1 }) : wpAny (model prog w) A (getAttr (.ref x) name expr) Q E s :=
  get_value X I (plainGet_of hg).1 (findObj_own hh ha rfl hl) hv h

/-- x.m(..): the method found in the class -/
theorem get_method {x C f : Addr} {ox : Obj} {es : List DictEntry} {n : Nat} {name : Str} {pl : Sem Bool} {Q : Value × List Value → Shared → Prop}
    (X : K.In s.heap) (I : PySem.W.InstAt s.heap x ox C (some (dictOf es n))) (hg : plainGet K C name = true) (hf : findIn K (.ref C) name = some (some (.ref f))) (ht : isFn K (.ref f) = true)
    (hl : getL name es = some none) (h : Q (.ref f, [.ref x]) s) : wpAny (model prog w) A (getMethod (.ref x) name pl) Q E s :=
  method_fn X I (plainGet_of hg).1 (plainGet_of hg).2 hf (beq_iff_eq.mp ht) (by show (lookIn name (dictOf es n)).map _ = _; rw [lookIn_dict, hl]; rfl) h

/-! the whole heap as the ledger: makes every rule that writes through a ledger a rule over any heap -/
def noObjs (h : Heap) : Heap := { h with objs := #[] }
theorem noObjs_get (h : Heap) (b : Addr) : (noObjs h).get? b = none := by
  cases e : (noObjs h).get? b with
  | none => rfl
  | some o => exact absurd (Heap.lt_size e) (Nat.not_lt_zero _)
def ledger (h : Heap) (L d : Addr) : List (Addr × Obj) := (List.range h.objs.size).filterMap fun a => if a = L ∨ a = d then none else (h.get? a).map fun o => (a, o)
theorem mem_ledger {h : Heap} {L d a : Addr} {o : Obj} : (a, o) ∈ ledger h L d ↔ a ≠ L ∧ a ≠ d ∧ h.get? a = some o := by
  unfold ledger
  rw [List.mem_filterMap]
  constructor
  · rintro ⟨b, _, e⟩
    split at e
    · cases e
    · rename_i hb
      obtain ⟨o', ho, e'⟩ := Option.map_eq_some_iff.mp e
      cases e'
      exact ⟨fun q => hb (.inl q), fun q => hb (.inr q), ho⟩
  · rintro ⟨n1, n2, ho⟩
    refine ⟨a, List.mem_range.mpr (Heap.lt_size ho), ?_⟩
    rw [if_neg (show ¬ (a = L ∨ a = d) from fun q => q.elim n1 n2), ho] <;> rfl
theorem news_ledger {h : Heap} {L d : Addr} {od : Obj} (hne : d ≠ L) (ho : h.get? d = some od) : News (noObjs h) L h ([] ++ (d, od) :: ledger h L d) := by
  rintro ⟨a, o⟩ hp
  rcases List.mem_cons.mp hp with e | hp
  · cases e
    exact ⟨ho, hne, noObjs_get _ _⟩
  · obtain ⟨n1, n2, e⟩ := mem_ledger.mp hp
    exact ⟨e, n1, noObjs_get _ _⟩
theorem fr_all {h : Heap} {L : Addr} {m : Str → Option Value} (n : h.Ns L m) : Fr (noObjs h) L h m :=
  ⟨n, fun b o e => (by rw [noObjs_get] at e; cases e), Nat.zero_le _⟩
/-- Upd of the head entry (for append_K, setItem_K ..) -/
theorem upd_ledger {h : Heap} {L d : Addr} {o o' : Obj} : Upd d o o' ((d, o) :: ledger h L d) ((d, o') :: ledger h L d) :=
  .head fun ⟨_, _⟩ hp => (mem_ledger.mp hp).2.1

/-- x.name = v over any heap: L is any namespace of the heap (the frame's, say): its map stays, its object is not told; all else but the dict stays -/
theorem set_field {x C dx L : Addr} {ox : Obj} {m : Str → Option Value} {es es' : List DictEntry} {n n' : Nat} {name : Str} {v : Value} {Q : Unit → Shared → Prop}
    (X : K.In s.heap) (I : PySem.W.InstAt s.heap x ox C (some (dictOf es n))) (hd : ox.dict = some dx) (hL : s.heap.Ns L m) (hne : dx ≠ L)
    (hs : findIn K (.ref C) "__setattr__" = some (some (.builtin "object.__setattr__"))) (hp : plainOver K C = true) (ht : takerIn K C name = some none) (hh : hasDictIn K C = true) (hl : (getL name es).isSome = true)
    (e : (putL name (PyData.keyHash w.params name) (.str name (s.toks + 1)) v es, putN name es n) = (es', n')) (hz : es'.length ≤ 1000)
    (h : ∀ h' : Heap, h'.Ns L m → h'.get? dx = some (dictOf es' n') → (∀ b o, b ≠ dx → b ≠ L → s.heap.get? b = some o → h'.get? b = some o) → Q () { s with heap := h', toks := s.toks + 2 }) :
    wpAny (model prog w) A (setAttr (.ref x) name v) Q E s := by
  obtain ⟨e1, e2⟩ := Prod.mk.inj e
  have hdx : s.heap.get? dx = some (dictOf es n) := by
    have := I.dict
    rw [hd] at this
    exact this
  refine set_plain X I hs (osa_dict (s := { s with toks := s.toks + 1 }) (h₀ := noObjs s.heap) (L := L) (m := m) (od := dictOf es n) (od' := dictOf es' n') (es := es') (n := n') (pre := []) (post := ledger s.heap L dx)
    (fr_all hL) (news_ledger hne hdx) X I hd hp ht hh hl (fun _ q => nomatch q) (fun ⟨_, _⟩ q => (mem_ledger.mp q).2.1) (by rw [putName_dict, e1, e2]) rfl hz fun h' F' N' => ?_)
  exact h h' F'.ns (N'.get (List.Mem.head _)) fun b o n1 n2 ho => N'.get (List.Mem.tail _ (mem_ledger.mpr ⟨n2, n1, ho⟩))
end
end Att

namespace L2
open PySem PySem.Spec PyProof.Rows

theorem vals_ints : ∀ {vs : List Value} {ns : List Int}, IntsAre vs ns → Vals (ns.map V.int) vs
  | _, _, .nil => .nil
  | _, _, .cons n t h => .cons ⟨t, rfl⟩ (vals_ints h)

/-- nothing is tracked but the script, known to the object (or it is an object of the module) -/
def Only (H : Hp) : Prop := ∀ b, H b = none ∨ ∃ o xs, H b = some (.frz o (.lst xs))

/-- THE HEAD: the law's promise, at the heap behind the top. F, the promise of the law's def, may use that base is part of the heap (so K.In base, base.Ns mainGlobals mg stand in Mod) -/
theorem law_call {P : Program} {w : World} {K : PySem.W.Frag} {mg mb : Str → Option Value} {CX : CXT} {k : Nat} {fa a : Addr} {fd : FuncData} {x : Str} {sp : Sp} {s₁ : Shared} {vs : List Value} {ns : List Int}
    (KX : K.In s₁.heap) (hns : s₁.heap.Ns mainGlobals mg) (hb : s₁.heap.Ns builtinsNs mb) (hbb : ∀ x : Str, x ≠ "__name__" → mb x = bootBuiltins x) (hlim : s₁.heap.NoLimit) (hg : s₁.gens = #[])
    (ha : s₁.heap.get? a = some { cls := .type "list", data := .seq vs.toArray }) (hi : IntsAre vs ns) (hl : ns.length ≤ sizeLine) (hr : Room k callerA)
    (F : ∀ base : Heap, K.In base → base.Ns mainGlobals mg → FnOk P w K mg base CX k fa fd [x] sp) (hbind : ∀ (s : Shared) (u : Value), BindsTo s fd ⟨[u], []⟩ [(x, u)])
    (hsp : ∀ H : Hp, Only H → SqL K H a (ns.map V.int) → sp [.ref a] H (fun v _ => v = .bl true) fun _ _ _ => False)
    (hCX : ∀ H e s', CX [] H s₁ (fun _ _ _ => False) e s' → False) :
    codeAny (model P w) callerA (.call (.ref fa) ⟨[.ref a], []⟩) (fun r s' => r = .ok (.ret (.bool true)) ∧ OldK s₁.heap s'.heap ∧ s'.os = s₁.os ∧ AllBare s'.gens) s₁ := by
  have rv := vals_ints hi
  have lenV := hi.length
  -- from an abstract heap in which nothing but the script may be tracked
  have core : ∀ H : Hp, Only H → SqL K H a (ns.map V.int) → HOk P w H s₁.heap → (∀ b, H b ≠ none → b = a) → (H a ≠ none → K.lookup a = none) →
      codeAny (model P w) callerA (.call (.ref fa) ⟨[.ref a], []⟩) (fun r s' => r = .ok (.ret (.bool true)) ∧ OldK s₁.heap s'.heap ∧ s'.os = s₁.os ∧ AllBare s'.gens) s₁ := by
    intro H hO hS hok hA hK
    have base_of : ∀ {b : Addr} {o : Obj}, s₁.heap.get? b = some o → H b = none → (hidT s₁.heap H).get? b = some o := fun e n => hidT_get e n
    have noA : ∀ {b : Addr} {o : Obj} {es : Array DictEntry} {ep : Nat}, s₁.heap.get? b = some o → o.data = .dict es ep → H b = none := fun {b o es ep} e d => by
      cases q : H b with
      | none => rfl
      | some u =>
        have e' : b = a := hA b (by rw [q]; simp)
        subst e'
        rw [ha] at e; cases e
        have d' : Data.seq vs.toArray _ = Data.dict es ep := d
        cases d'
    have nsK : ∀ {b : Addr} {m : Str → Option Value}, s₁.heap.Ns b m → (hidT s₁.heap H).Ns b m := fun {b m} ⟨o, es, ep, e, d, r⟩ => ⟨o, es, ep, base_of e (noA e d), d, r⟩
    have hKb : K.In (hidT s₁.heap H) := fun b o e => base_of (KX b o e) (by
      cases q : H b with
      | none => rfl
      | some u =>
        have e' : b = a := hA b (by rw [q]; simp)
        subst e'
        rw [hK (by rw [q]; simp)] at e; cases e)
    have hM : Mod K mg (hidT s₁.heap H) := ⟨hKb, nsK hns, ⟨mb, nsK hb, hbb⟩, let ⟨mc, h1, h2⟩ := hlim; ⟨mc, nsK h1, h2⟩⟩
    have e0 : Env0 P w K mg (hidT s₁.heap H) callerA [] s₁ H := ⟨rfl, hM, fun b o e => of_hidT e, Nat.le_of_eq (hidT_size _ _), trivial, fun b hb => absurd (show b ∈ ([] : List Addr) from hb) (by simp), hok, .of_eq hg⟩
    refine codeAny_mono ((F _ hKb (nsK hns)).run callerA [] s₁ H ⟨[.ref a], []⟩ [.ref a] [.ref a] _ _ hr e0 (hbind s₁ (.ref a)) (.cons rfl .nil) (hsp H hO hS)) fun r s' h => ?_
    cases r with
    | error e => exact (hCX H e s' h).elim
    | ok fl =>
      cases fl with
      | next => exact False.elim h
      | brk => exact False.elim h
      | cont => exact False.elim h
      | ret u =>
        obtain ⟨v, H', os, bare, un, hok', r', q⟩ := h
        have q' : v = .bl true := q
        subst q'
        obtain rfl : u = Value.bool true := r'
        refine ⟨rfl, OldK.of_keep fun b o e => ?_, os, bare⟩
        cases q : H b with
        | none => exact un.keep b o e q (by intro z; exact absurd (show b ∈ ([] : List Addr) from z) (by simp)) (by simp)
        | some u =>
          rcases hO b with z | ⟨ob, xs, z⟩
          · rw [q] at z; cases z
          · have z2 := un.frzs b ob _ z
            obtain ⟨e1, _⟩ := hok b _ z
            obtain ⟨e2, _⟩ := hok' b _ z2
            rw [e] at e1; cases e1
            exact e2
  cases hk : K.lookup a with
  | some o =>
    -- the script is one of the module's own objects
    have e := KX a o hk
    rw [ha] at e
    cases e
    refine core (fun _ => none) (fun _ => .inl rfl) (.inr ⟨_, vs.toArray, _, hk, rfl, rfl, rfl, by rw [List.size_toArray, lenV]; exact hl, by simpa using rv⟩) (fun b u z => by have z' : (none : Option HO) = some u := z; cases z') (fun b z => absurd rfl z) fun z => absurd rfl z
  | none =>
    refine core (fun b => if b = a then some (.frz { cls := .type "list", data := .seq vs.toArray } (.lst (ns.map V.int))) else none) (fun b => ?_) (.inl (.inr ⟨{ cls := .type "list", data := .seq vs.toArray }, if_pos rfl⟩)) (fun b u z => ?_) (fun b z => ?_) fun _ => hk
    · by_cases hb : b = a
      · exact .inr ⟨_, _, if_pos hb⟩
      · exact .inl (if_neg hb)
    · by_cases hb : b = a
      · have z' := (if_pos hb).symm.trans z
        cases z'
        subst hb
        exact ⟨ha, by rw [List.length_map]; exact hl, vs, _, rv, ha⟩
      · have z' := (if_neg hb).symm.trans z
        cases z'
    · by_cases hb : b = a
      · exact hb
      · exact absurd (if_neg hb) z
end L2

namespace L2
open PySem PySem.Spec PyProof.Rows

abbrev KOf {K : PySem.W.Frag} {h : Heap} (_ : K.In h) : PySem.W.Frag := K

/-- the goal that k_head leaves (case hc), from the law's promise. F gives the function object fd (K's own) once, then the promise over every base -/
theorem walk_of {l : PySem.W.OpenLaw} {n k : Nat} {q : Program} {loose : List Str} {XP : (Str → Option Value) → Heap → Prop} {YP : World → Heap → Prop} {d : DefRec} {K : Params → PySem.W.Frag} {CX : World → CXT} {sp : World → Sp} {x : Str}
    (hn : l.most = some n) (hn2 : n ≤ sizeLine) (hdf : d.params.defaults = []) (hr : Room k callerA)
    (hY : ∀ (w : World) (h : Heap), YP w h → (K w.params).In h)
    (F : ∀ (w : World) (mg : Str → Option Value) (fa : Addr) (h : Heap), (K w.params).In h → h.Ns mainGlobals mg → mg d.name = some (.ref fa) →
      ∃ fd : FuncData, (∀ (s : Shared) (u : Value), BindsTo s fd ⟨[u], []⟩ [(x, u)]) ∧
        ∀ base : Heap, (K w.params).In base → base.Ns mainGlobals mg → FnOk l.prog w (K w.params) mg base (CX w) k fa fd [x] (sp w))
    (hsp : ∀ (w : World) (H : Hp) (a : Addr) (ns : List Int), ns.length ≤ n → Only H → SqL (K w.params) H a (ns.map V.int) → sp w [.ref a] H (fun v _ => v = .bl true) fun _ _ _ => False)
    (hCX : ∀ (w : World) (H : Hp) (s : Shared) (e : Value) (s' : Shared), CX w [] H s (fun _ _ _ => False) e s' → False) :
    PySem.W.WalkO q loose XP YP l.row.toRowW d [] (fun f vs => PySem.call f vs) := by
  refine Att.attach_call hn hdf fun w s₀ s₁ mg mb fa o pm cd doc a vs ns G Y ho hd hcd hmg hobj hints hlen hg => ?_
  have KX := hY w _ Y
  obtain ⟨fd, hb, hF⟩ := F w mg fa _ KX G.T.g hmg
  exact law_call KX G.T.g G.T.b G.T.builtins G.T.nolimit hg hobj hints (Nat.le_trans hlen hn2) hr hF hb (fun H hO hS => hsp w H a ns hlen hO hS) fun H e s' => hCX w H s₁ e s'
/-- the same where the promise hangs on the written part alone: (sp := My.sp_law), no hole under a binder -/
theorem walk_ofK {l : PySem.W.OpenLaw} {n k : Nat} {q : Program} {loose : List Str} {XP : (Str → Option Value) → Heap → Prop} {YP : World → Heap → Prop} {d : DefRec} {K : Params → PySem.W.Frag} {CX : CXT} {sp : PySem.W.Frag → Sp} {x : Str}
    (hn : l.most = some n) (hn2 : n ≤ sizeLine) (hdf : d.params.defaults = []) (hr : Room k callerA)
    (hY : ∀ (w : World) (h : Heap), YP w h → (K w.params).In h)
    (F : ∀ (w : World) (mg : Str → Option Value) (fa : Addr) (h : Heap), (K w.params).In h → h.Ns mainGlobals mg → mg d.name = some (.ref fa) →
      ∃ fd : FuncData, (∀ (s : Shared) (u : Value), BindsTo s fd ⟨[u], []⟩ [(x, u)]) ∧
        ∀ base : Heap, (K w.params).In base → base.Ns mainGlobals mg → FnOk l.prog w (K w.params) mg base CX k fa fd [x] (sp (K w.params)))
    (hsp : ∀ (K : PySem.W.Frag) (H : Hp) (a : Addr) (ns : List Int), ns.length ≤ n → Only H → SqL K H a (ns.map V.int) → sp K [.ref a] H (fun v _ => v = .bl true) fun _ _ _ => False)
    (hCX : ∀ (H : Hp) (s : Shared) (e : Value) (s' : Shared), CX [] H s (fun _ _ _ => False) e s' → False) :
    PySem.W.WalkO q loose XP YP l.row.toRowW d [] (fun f vs => PySem.call f vs) :=
  walk_of (K := K) (CX := fun _ => CX) (sp := fun w => sp (K w.params)) hn hn2 hdf hr hY F (fun w H a ns h1 h2 h3 => hsp (K w.params) H a ns h1 h2 h3) fun _ H s e s' => hCX H s e s'
end L2

/- THE LAST THEOREM (shape; LID, My.* are yours):
   My.Adr: a structure of the addresses that your layer names (classes, functions); My.Txt K t: a structure (Prop) of the equations over K;
   My.txt_mk : {K} {implicit addresses ..} (e1 : nsIn K mainGlobals "law" = some (some (.ref f))) (e2 : K.lookup f = some ⟨oc, od, .func (fnOf "law" "law" params body scope dV kV doc pm an cdv ct), sl⟩) (e3 : codeIn K cdv "law" = true) .. : ∃ t, My.Txt K t

set_option maxRecDepth 100000 in
set_option maxHeartbeats 0 in
theorem PySem.Challenge.cw_LID_holds : PySem.Challenge.rw_LID.Holds := by
  w_on; o_law; k_head; (case hw => w_witness2)
  k_fill
  refine L2.walk_of (l := PySem.Challenge.rw_LID) (n := 63) (k := 40) (x := "script") (CX := fun w => ..) (sp := fun _ => My.sp_law) rfl (by decide) rfl ⟨rfl, by decide, by decide⟩ (fun w h Y => PySem.W.kIn_of Y) ?F ?S ?C
  case F =>
    intro w mg fa h KX G hmg
    have T : ∃ t, My.Txt (L2.KOf KX) t := by
      dsimp only [L2.KOf]                          -- K must stand as «<heap const> w.params» for k_is
      refine' My.txt_mk ?e1 ?e2 ?e3 ..
      (case e1 => PySem.W.k_is)                    -- in the order: a name -> its address -> its object -> its parts
      (case e2 => PySem.W.k_is)
      ..
    obtain ⟨t, T⟩ := T
    have e0 := hmg.symm.trans (PySem.W.mg_of KX G T.law)
    cases e0                                       -- fa is the law's own address
    exact ⟨_, fun s u => .of_eq rfl, fun base kb nb => My.law_fn T kb nb⟩     -- if «.of_eq rfl» comes too early: refine' ⟨_, ?b, fun base kb nb => My.law_fn T kb nb⟩; exact fun s u => .of_eq rfl
  case S => exact fun w H a ns hl hO hS => ..
  case C => exact ..
(the tactic k_is has no namespace: write k_is) -/

/-! SHORT WORDS over the layer: a def of the text, its body, what a loop and a test want. -/
namespace L2
open PySem PySem.Spec PyProof.Rows

/-! ### the text by places -/
/-- the j-th statement of a class's body -/
def inClass (s : Stmt) (j : Nat) : Stmt := match s with
  | .ClassDef _ _ _ body _ _ _ _ _ _ _ => body.getD j (.Pass ⟨0, 0, 0, 0⟩)
  | _ => .Pass ⟨0, 0, 0, 0⟩
def defArgs (s : Stmt) : Arguments := match s with
  | .FunctionDef _ a _ _ _ _ _ _ _ _ => a
  | _ => { posonlyargs := [], args := [], vararg := none, kwonlyargs := [], kw_defaults := [], kwarg := none, defaults := [] }
def defBody (s : Stmt) : List Stmt := match s with
  | .FunctionDef _ _ b _ _ _ _ _ _ _ => b
  | _ => []
def defScope (s : Stmt) : Scope := match s with
  | .FunctionDef _ _ _ _ _ _ sc _ _ _ => sc
  | _ => { kind := .function, names := [], isGenerator := false, isCoroutine := false }

/-! ### no exception leaves a def -/
abbrev CX0 : CXT := fun _ _ _ _ _ _ => False
abbrev E0 : XK := fun _ _ _ => False
theorem pass0 {X : Cx} : Passes CX0 X E0 := fun _ _ _ _ _ _ _ h => h.elim

/-! ### a def (or method) of the text as it stands behind the top -/
structure Fun (K : PySem.W.Frag) (x qual : Str) (st : Stmt) (f : Addr) (fd : FuncData) : Prop where
  ex : ∃ (oc : Value) (od : Option Addr) (kV doc pm : Value) (an : Option Addr) (cdv ct : Value) (osl : Array (Option Value)),
    fd = PySem.W.fnOf x qual (defArgs st) (defBody st) (defScope st) .none kV doc pm an cdv ct ∧ K.lookup f = some ⟨oc, od, .func fd, osl⟩ ∧ PySem.W.codeIn K cdv qual = true
  kp : PySem.W.keepIn K (.ref f) = true
section
variable {P : Program} {w : World} {K : PySem.W.Frag} {mg : Str → Option Value} {base : Heap}
/-- THE RULE for a def: its body as a term of rules, and the reading of that term -/
theorem Fun.ok {x qual : Str} {st : Stmt} {f : Addr} {fd : FuncData} {N ps : List Str} {k : Nat} {sp : Sp} (F : Fun K x qual st f fd) (S : FnScope N ps (defScope st)) (len : ∀ vs H Q E, sp vs H Q E → vs.length = ps.length)
    (hbody : ∀ (cdv : Value) (A : Around) (outer : List Env) (s : Shared) (H : Hp) (vs : List V) (Q : VK) (E : XK), Room k (A.deeper (envOfC qual (defScope st) s.heap.objs.size f cdv)) → sp vs H Q E →
      ∃ t, PSs (cxOf CX0 P w K mg base N qual (defScope st) f cdv A outer s H E).nox (defBody st) t ∧ t { nx := fun _ H' => Q .non H', rt := Q } (start N vs) H) : FnOk P w K mg base CX0 (k + 1) f fd ps sp := by
  obtain ⟨oc, od, kV, doc, pm, an, cdv, ct, osl, rfl, lk, hcd⟩ := F.ex
  refine fn_of lk hcd S len fun A outer s H vs Q E hr hsp => ?_
  obtain ⟨t, h, q⟩ := hbody cdv A outer s H vs Q E hr hsp
  exact ⟨t, h.nox, q⟩
/-- how its arguments bind (no defaults): h is «fun _ _ _ _ _ _ us hl => match us, hl with | [_, _], _ => rfl», one _ a parameter -/
theorem Fun.binds {x qual : Str} {st : Stmt} {f : Addr} {fd : FuncData} {ps : List Str} (F : Fun K x qual st f fd)
    (h : ∀ (kV doc pm : Value) (an : Option Addr) (cdv ct : Value) (us : List Value), us.length = ps.length → bindArgs (PySem.W.fnOf x qual (defArgs st) (defBody st) (defScope st) .none kV doc pm an cdv ct) ⟨us, []⟩ = pure (ps.zip us)) : Binds K fd ps [] := by
  obtain ⟨oc, od, kV, doc, pm, an, cdv, ct, osl, rfl, lk, hcd⟩ := F.ex
  exact .all (h kV doc pm an cdv ct)
theorem fun_mk {x qual : Str} {st : Stmt} {f : Addr} {oc : Value} {od an : Option Addr} {osl : Array (Option Value)} {kV doc pm cdv ct : Value} (l : K.lookup f = some ⟨oc, od, .func (PySem.W.fnOf x qual (defArgs st) (defBody st) (defScope st) .none kV doc pm an cdv ct), osl⟩)
    (c : PySem.W.codeIn K cdv qual = true) (k : PySem.W.keepIn K (.ref f) = true) : Fun K x qual st f (PySem.W.fnOf x qual (defArgs st) (defBody st) (defScope st) .none kV doc pm an cdv ct) := ⟨⟨oc, od, kV, doc, pm, an, cdv, ct, osl, rfl, l, c⟩, k⟩
end
theorem hu_of {A : Around} {k : Nat} (hr : Room k A) : A.units + 1 < cLine := Nat.lt_of_le_of_lt (Nat.add_le_add_left (by decide : 1 ≤ 64) _) hr.units
theorem small1000 {n : Nat} (h : n ≤ 1000) : n < sizeLine := Nat.lt_of_le_of_lt h (by decide)

/-! ### expressions in short: the name that stands in the i-th slot -/
section
variable {X : Cx}
theorem pv (i : Nat) {x : Str} {pos : Pos} (hN : X.N[i]? = some x := by rfl) (hv : Vis X.env.scope x := by first | exact Or.inl rfl | exact Or.inr (Or.inl rfl) | exact Or.inr (Or.inr rfl)) (hd : (x == ("__debug__" : Str)) = false := by decide)
    (hcd : (x == ("__classdict__" : Str)) = false := by decide) : PE X (.Name x pos) (tVar i) := pe_var hN hv hd hcd
end

/-! ### tests -/
theorem iteF {A B : Prop} (h : B) : if false = true then A else B := by
  rw [if_neg Bool.false_ne_true]
  exact h
theorem iteT {A B : Prop} (h : A) : if true = true then A else B := by
  rw [if_pos rfl]
  exact h
theorem ite2 {c A B : Prop} [Decidable c] (h1 : c → A) (h2 : ¬ c → B) : if c then A else B := by
  by_cases h : c
  · rw [if_pos h]
    exact h1 h
  · rw [if_neg h]
    exact h2 h
theorem iteNS {c A B : Prop} [Decidable c] (hc : c) (h : B) : if (!decide c) = true then A else B := by
  rw [decide_eq_true hc]
  exact iteF h

/-! ### heaps -/
/-- all that was tracked is as it was -/
def Same (H H' : Hp) : Prop := ∀ b o, H b = some o → H' b = some o
theorem Same.refl (H : Hp) : Same H H := fun _ _ h => h
theorem Same.trans {H H1 H2 : Hp} (a : Same H H1) (b : Same H1 H2) : Same H H2 := fun c o h => b c o (a c o h)
theorem Same.free {H H' : Hp} (e : Same H H') {l : Addr} (h : H' l = Option.none) : H l = Option.none := by
  cases q : H l with
  | none => rfl
  | some o =>
    rw [e l o q] at h
    cases h
theorem Same.seq {K : PySem.W.Frag} {H H' : Hp} {a : Addr} {xs : List V} (e : Same H H') (h : SqL K H a xs) : SqL K H' a xs := by
  rcases h with (h | ⟨o, h⟩) | h
  · exact .inl (.inl (e _ _ h))
  · exact .inl (.inr ⟨o, e _ _ h⟩)
  · exact .inr h

end L2

set_option maxHeartbeats 4000000
namespace L2
open PySem PySem.Spec PyProof.Rows

/-! ### list comprehensions of one clause, within the hand layer -/
section
variable {X : Cx} {pins : List (Addr × Obj)} {σ : St} {H : Hp} {s : Shared} {a : Addr} {o : HO}
theorem HOk.adopt {P : Program} {w : World} {h : Heap} (x : HOk P w H h) (hn : H a = none) (new : ObjOk P w (upd H a o) h a o) : HOk P w (upd H a o) h := fun b u e => by
  by_cases hb : b = a
  · subst hb; rw [upd_same] at e; cases e; exact new
  · rw [upd_ne hb] at e
    exact (x b u e).stay (fun c v _ q => q) (fun c q => by rw [upd_ne (ne_of_none q hn)]; exact q) fun c xs q => by rw [upd_ne (ne_of_none q hn)]; exact q
/-- an object that was not tracked is tracked from here on -/
theorem Inv.adopt (I : Inv X pins σ H s) (f : FpOk X pins H a) (new : ObjOk X.prog X.w (upd H a o) s.heap a o) : Inv X pins σ (upd H a o) s := by
  obtain ⟨hn, hL, hfs, hex, hc, hp⟩ := f
  refine ⟨I.ok, I.os, I.bare, ⟨I.base.keep, I.base.slot, fun b ob e n hx => ?_, I.base.there, fun b xs e => ?_, fun b ob u e => ?_, fun b ps e => ?_⟩, I.loc, I.cell, by rw [upd_ne (Ne.symm hL)]; exact I.free, fun x c e => by rw [upd_ne (hc x c e)]; exact I.freeC x c e, fun p q => ?_, HOk.adopt I.hok hn new, I.len⟩
  · have nb : b ≠ a := fun z => by
      rcases hex with z' | z'
      · exact hx (z ▸ z')
      · exact absurd (Heap.lt_size e) (by rw [z]; exact Nat.not_lt.mpr z')
    rw [upd_ne nb]
    exact I.base.free b ob e n hx
  · have q := I.base.tups b xs e
    rw [upd_ne (ne_of_none q hn)]
    exact q
  · have q := I.base.frzs b ob u e
    rw [upd_ne (ne_of_none q hn)]
    exact q
  · obtain ⟨m, q⟩ := I.base.tbls b ps e
    exact ⟨m, by rw [upd_ne (ne_of_none q hn)]; exact q⟩
  · obtain ⟨e, n, r⟩ := I.pin p q
    exact ⟨e, by rw [upd_ne (hp p q)]; exact n, r⟩
end

/-! the closure of the block -/
theorem forIn_yield_fold {α β : Type} {f : α → β → Sem (ForInStep β)} {g : α → β → β} : ∀ (l : List α) (c : β), (∀ x ∈ l, ∀ c, f x c = pure (.yield (g x c))) → forIn l c f = pure (l.foldl (fun c x => g x c) c)
  | [], _, _ => rfl
  | x :: l, c, h => by
    rw [List.forIn_cons, h x List.mem_cons_self, pure_bind]
    exact forIn_yield_fold l (g x c) fun y hy => h y (List.mem_cons_of_mem _ hy)
def clG (env : Env) (x : Str × NameKind) (c : List (Str × Addr)) : List (Str × Addr) := if (x.2 == NameKind.free) = true then (x.1, (env.cells.lookup x.1).getD 0) :: c else c
def clOf (env : Env) (scope : Scope) : List (Str × Addr) := scope.names.foldl (fun c x => clG env x c) []
theorem closure_eq {env : Env} {scope : Scope} (h : ∀ y ∈ scope.names, y.2 = .free → ∃ c, env.cells.lookup y.1 = some c) : closureFor scope env = pure (clOf env scope) := by
  simp only [closureFor]
  rw [forIn_yield_fold (g := clG env) scope.names [] (fun x hx c => by
    obtain ⟨n, k⟩ := x
    unfold clG
    by_cases hk : (k == NameKind.free) = true
    · obtain ⟨a, ha⟩ := h _ hx (by simpa using hk)
      have ha' : env.cells.lookup n = some a := ha
      simp only [hk, if_true, cellOf, ha', pure_bind, Option.getD_some]
    · have hk' : (k == NameKind.free) = false := Bool.eq_false_iff.mpr hk
      simp only [hk', Bool.false_eq_true, if_false])]
  rfl
theorem clG_look {env : Env} : ∀ (l : List (Str × NameKind)) (cs : List (Str × Addr)), (∀ y ∈ l, y.2 = .free → ∃ c, env.cells.lookup y.1 = some c) → (∀ y c, cs.lookup y = some c → env.cells.lookup y = some c) →
    (∀ y c, (l.foldl (fun c x => clG env x c) cs).lookup y = some c → env.cells.lookup y = some c) ∧ ∀ y, ((cs.lookup y).isSome = true ∨ (y, NameKind.free) ∈ l) → ((l.foldl (fun c x => clG env x c) cs).lookup y).isSome = true
  | [], cs, _, h => ⟨h, fun y hy => hy.elim id fun z => absurd z (by simp)⟩
  | (n, k) :: l, cs, hf, h => by
    have hf' : ∀ y ∈ l, y.2 = .free → ∃ c, env.cells.lookup y.1 = some c := fun y hy => hf y (List.mem_cons_of_mem _ hy)
    rw [List.foldl_cons]
    by_cases hk : k = .free
    · subst hk
      obtain ⟨a, ha⟩ := hf (n, .free) List.mem_cons_self rfl
      have ha' : env.cells.lookup n = some a := ha
      have e : clG env (n, .free) cs = (n, a) :: cs := by
        unfold clG
        rw [if_pos (by rfl)]
        show (n, (env.cells.lookup n).getD 0) :: cs = _
        rw [ha']
        rfl
      rw [e]
      have ih := clG_look l ((n, a) :: cs) hf' (fun y c hy => by
        rw [List.lookup_cons] at hy
        cases hb : y == n with
        | true =>
          rw [hb] at hy
          rw [eq_of_beq hb]
          exact ha'.trans hy
        | false =>
          rw [hb] at hy
          exact h y c hy)
      refine ⟨ih.1, fun y hy => ih.2 y ?_⟩
      rcases hy with hy | hy
      · left
        rw [List.lookup_cons]
        cases y == n with
        | true => rfl
        | false => exact hy
      · rcases List.mem_cons.mp hy with hy | hy
        · left
          rw [(Prod.mk.inj hy).1, List.lookup_cons]
          simp
        · exact .inr hy
    · have e : clG env (n, k) cs = cs := by
        unfold clG
        rw [if_neg (by simpa using hk)]
      rw [e]
      have ih := clG_look l cs hf' h
      refine ⟨ih.1, fun y hy => ih.2 y ?_⟩
      rcases hy with hy | hy
      · exact .inl hy
      · rcases List.mem_cons.mp hy with hy | hy
        · exact absurd (Prod.mk.inj hy).2.symm hk
        · exact .inr hy
theorem lookup_relabel_free {env : Env} : ∀ {names : List (Str × NameKind)} {x : Str}, names.lookup x = some .free →
    (names.map fun (n, k) => if (k == NameKind.free && env.scope.kind == .function && env.kindOf n == some .cell) then (n, NameKind.cell) else (n, k)).lookup x ≠ some .local
  | [], _, h => by simp at h
  | (n, k) :: r, x, h => by
    have ih := @lookup_relabel_free env r x
    show List.lookup x ((if (k == NameKind.free && env.scope.kind == .function && env.kindOf n == some .cell) = true then (n, NameKind.cell) else (n, k)) :: _) ≠ _
    cases hx : x == n with
    | true =>
      simp only [List.lookup_cons, hx] at h
      cases h
      split
      · simp [List.lookup_cons, hx]
      · simp [List.lookup_cons, hx]
    | false =>
      simp only [List.lookup_cons, hx] at h
      by_cases hc : (k == NameKind.free && env.scope.kind == .function && env.kindOf n == some .cell) = true
      · rw [if_pos hc]; simp only [List.lookup_cons, hx]; exact ih h
      · rw [if_neg hc]; simp only [List.lookup_cons, hx]; exact ih h
theorem free_of_relabel {env : Env} {scope : Scope} {y : Str} (nc : ∀ z ∈ scope.names, z.2 ≠ .cell) (h : (relabel scope env).names.lookup y = some .cell ∨ (relabel scope env).names.lookup y = some .free) : (y, NameKind.free) ∈ scope.names := by
  have go : ∀ k, (k = NameKind.cell ∨ k = NameKind.free) → (relabel scope env).names.lookup y = some k → (y, NameKind.free) ∈ scope.names := fun k hk e => by
    have m := PySem.mem_of_lookup e
    obtain ⟨⟨n, k'⟩, hm, e'⟩ := List.mem_map.mp m
    by_cases hc : (k' == NameKind.free && env.scope.kind == .function && env.kindOf n == some .cell) = true
    · have e2 : (n, NameKind.cell) = (y, k) := by
        rw [← e']
        show _ = (if (k' == NameKind.free && env.scope.kind == .function && env.kindOf n == some .cell) = true then (n, NameKind.cell) else (n, k'))
        rw [if_pos hc]
      have hk' : k' = .free := by
        simp only [Bool.and_eq_true, beq_iff_eq] at hc
        exact hc.1.1
      rw [← (Prod.mk.inj e2).1, ← hk']
      exact hm
    · have e2 : (n, k') = (y, k) := by
        rw [← e']
        show _ = (if (k' == NameKind.free && env.scope.kind == .function && env.kindOf n == some .cell) = true then (n, NameKind.cell) else (n, k'))
        rw [if_neg hc]
      rcases hk with hk | hk
      · exact absurd ((Prod.mk.inj e2).2.trans hk) (nc _ hm)
      · rw [← (Prod.mk.inj e2).1, ← hk, ← (Prod.mk.inj e2).2]
        exact hm
  rcases h with h | h
  · exact go _ (.inl rfl) h
  · exact go _ (.inr rfl) h

/-! the block's own context -/
def cxComp (X : Cx) (N : List Str) (scope : Scope) (C : Addr) (s : Shared) (H : Hp) (ex : List Addr) (pn : List (Addr × Obj)) (E : Value → Shared → Prop) : Cx where
  prog := X.prog
  w := X.w
  K := X.K
  mg := X.mg
  base := X.base
  A := X.A
  N := N
  s₀ := s
  H₀ := H
  env := compEnvC scope (clOf X.env scope) C X.env
  outer := X.stack
  stack := X.stack
  ex := ex
  fn := fun _ => false
  calm := X.calm
  pn := pn
  xe := E
/-- what is read off the text: osc, N the scope and the names around; caps: the names (with their places around) that the block sees -/
structure CompSc (osc : Scope) (N : List Str) (scope : Scope) (x : Str) (caps : List (Nat × Str)) : Prop where
  kind : scope.kind = .function
  hx : scope.names.lookup x = some .local
  ncell : ∀ y ∈ scope.names, y.2 ≠ .cell
  nloc : ∀ y ∈ scope.names, y.2 = .local → scope.names.lookup y.1 = some .local
  free : ∀ y ∈ scope.names, y.2 = .free → osc.names.lookup y.1 = some .cell ∨ osc.names.lookup y.1 = some .free
  cap : ∀ p ∈ caps, N[p.1]? = some p.2 ∧ scope.names.lookup p.2 = some .free
  nd : (x :: caps.map (·.2)).Nodup
def capS (caps : List (Nat × Str)) (σ : St) : St := caps.map fun p => (σ[p.1]?).getD none
def PIfs (X : Cx) (ifs : List Expr) (tc : TT) : Prop :=
  ∀ (pins : List (Addr × Obj)) (s : Shared) (σ : St) (H : Hp) (Q : Bool → Hp → Prop), Inv X pins σ H s → tc σ H Q →
    wpAny (model X.prog X.w) X.A (forIn ifs true fun c r => if r = true then do let ok ← isTrue c X.env (eval c X.env); pure (ForInStep.yield ok) else pure (ForInStep.yield r)) (TP X pins σ Q) X.xe s
def tYes : TT := fun _ H Q => Q true H
theorem pifs_nil {X : Cx} : PIfs X [] tYes := fun _ _ _ H _ I h => by
  simp only [List.forIn_nil]
  exact wpAny_pure ⟨H, I, h⟩
theorem pifs_one {X : Cx} {c : Expr} {tc : TT} (h : PT X c tc) : PIfs X [c] tc := by
  intro pins s σ H Q I hq
  simp only [List.forIn_cons, List.forIn_nil, if_true]
  exact wpAny_bind (wpAny_bind (wpAny_mono (h pins s σ H Q I hq) (fun b s' hb => wpAny_pure (wpAny_pure hb)) fun _ _ x => x))
/-- the block's reading: W, what holds ahead of turn i with a measure m and the items acc so far; Z, what is wanted behind -/
def tCompW (J : It) (cs : St) (tc : TT) (te : TE) (H1 : Hp) (Z : List V → Hp → Prop) : Prop :=
  ∃ W : Nat → Nat → List V → Hp → Prop, (∃ m, W 0 m [] H1) ∧ ∀ i m acc H, W i m acc H →
    (J.stop i H ∧ Z acc H) ∨ (J.go i H ∧ ∃ N : List V → Hp → Prop, (∀ a H', N a H' → ∃ m', m' < m ∧ W (i + 1) m' a H') ∧
      ∀ x H', J.yld i H x H' → tc (some x :: cs) H' fun b H2 => if b = true then te (some x :: cs) H2 fun v H3 => acc.length < sizeLine ∧ N (acc ++ [v]) H3 else N acc H2)
def tComp (wi : TI) (caps : List (Nat × Str)) (tc : TT) (te : TE) : TE := fun σ H Q => wi σ H fun J H1 => tCompW J (capS caps σ) tc te H1 fun acc H2 => ∀ p, H2 p = none → Q (.ref p) (upd H2 p (.lst acc))

/-! the loop -/
theorem comp_loop {X : Cx} {elt iter : Expr} {x : Str} {ns : List Str} {px pos : Pos} {ifs : List Expr} {scope : Scope} {it D : Addr} {fp : List Addr} {tn : Nat → Heap → Prop} {J : It} {tc : TT} {te : TE} {Z : List V → Hp → Prop} {R : Result → Shared → Prop}
    {cs : St} {o : Option V} {H : Hp} {s : Shared} (hc : X.calm = true) (hN : X.N = x :: ns) (nd : X.N.Nodup) (hx : X.env.scope.names.lookup x = some .local) (I : Inv X [] (o :: cs) H s) (T : Turn X.prog X.w X.K (.Name x px) J fp it tn) (st : tn 0 s.heap) (hf : ∀ b ∈ fp, FpOk X [] H b)
    (hD : FpOk X [] H D) (hDf : D ∉ fp) (pl : s.heap.PlainList D #[]) (hifs : PIfs X ifs tc) (helt : PE X elt te) (hW : tCompW J cs tc te H Z) (hxe : X.xe = notedBy (model X.prog X.w) X.A X.env fun e s' => R (.error e) s')
    (hR : ∀ (s' : Shared) (H' : Hp) (acc : List V) (its : List Value) (o' : Option V), Inv X [] (o' :: cs) H' s' → s'.heap.PlainList D its.toArray → Vals acc its → acc.length ≤ sizeLine → H' D = none → Z acc H' → R (.ok .next) s') :
    codeAny (model X.prog X.w) X.A (.compLoop (.ListComp elt [⟨.Name x px, iter, ifs, 0⟩] scope pos) 0 (.ref it) (.ref D) X.env) R s := by
  obtain ⟨W, ⟨m0, w0⟩, turn⟩ := hW
  refine codeAny_compLoop_tests (fun n s' => ∃ (i : Nat) (acc : List V) (its : List Value) (H' : Hp) (o' : Option V), Inv X [] (o' :: cs) H' s' ∧ tn i s'.heap ∧ (∀ b ∈ fp, H' b = none) ∧ H' D = none ∧ s'.heap.PlainList D its.toArray ∧ Vals acc its ∧ acc.length ≤ sizeLine ∧ W i n acc H') ?_ m0
    ⟨0, [], [], H, o, I, st, fun b hb => (hf b hb).1, hD.1, pl, .nil, Nat.zero_le _, w0⟩
  rintro n s3 ⟨i, acc, its, H3, o3, I3, st3, fr3, hD3, ⟨nD, gD⟩, va, hl, w3⟩
  rw [← hxe]
  -- the list is pinned through the turn
  have I4 : Inv X [(D, { cls := .type "list", data := .seq its.toArray nD })] (o3 :: cs) H3 s3 := I3.pins_of fun p hp => by
    obtain rfl : p = (D, { cls := .type "list", data := .seq its.toArray nD }) := by simpa using hp
    exact ⟨gD, hD3, hD.2.1, hD.2.2.1, fun v z => by cases (show Data.seq its.toArray nD = Data.cell v from z)⟩
  have stat : ∀ {H' : Hp}, (∀ b ∈ fp, H' b = none) → ∀ b ∈ fp, FpOk X [(D, { cls := .type "list", data := .seq its.toArray nD })] H' b := fun hn b hb => by
    obtain ⟨_, f1, f2, f3, f4, f5⟩ := hf b hb
    refine ⟨hn b hb, f1, f2, f3, f4, fun p hp => ?_⟩
    rcases List.mem_append.mp hp with z | z
    · exact f5 p (List.mem_append_left _ z)
    · obtain rfl : p = (D, { cls := .type "list", data := .seq its.toArray nD }) := by simpa using z
      exact fun e => hDf (by rw [show D = b from e]; exact hb)
  rcases turn i n acc H3 w3 with ⟨stop, z⟩ | ⟨go, N, hNn, step⟩
  · refine thn (T.done X rfl rfl rfl hc i _ s3 (o3 :: cs) H3 X.xe I4 (stat fr3) st3 stop) fun r s4 ⟨hr, I5⟩ => ?_
    subst hr
    exact hR s4 H3 acc its o3 (I5.pins_of fun p hp => absurd hp (by simp)) ⟨nD, (I5.pin _ (List.mem_append_right _ (List.mem_singleton.mpr rfl))).1⟩ va hl hD3 z
  · refine thn (T.item X rfl rfl rfl hc i _ s3 (o3 :: cs) H3 X.xe I4 (stat fr3) st3 go) fun r s4 ⟨u, hr, h4⟩ => ?_
    subst hr
    have e0 : (letOwnedTupleGo (.Name x px) (.ref it) u >>= fun _ => assign (.Name x px) X.env u) = assign (.Name x px) X.env u := rfl
    show wpAny _ _ (assign (.Name x px) X.env u) _ _ s4
    rw [← e0]
    refine wpAny_bind (thn h4 fun _ s5 ⟨xv, H5, I5, r5, y5, st5, fr5⟩ => ?_)
    have I5' := I5.pinned (stat fr5) (T.obj _ _ st5)
    refine wpAny_assign_Name (store_ok (i := 0) I5' nd (by rw [hN] <;> rfl) (.inl hx) r5 (fun s6 I6 => ?_) (.inr hx))
    have I6' : Inv X ([(D, { cls := .type "list", data := .seq its.toArray nD })] ++ pinsAt fp s5.heap) (some xv :: cs) H5 s6 := I6
    -- what stays of the iterator and of the list, at any later state of the turn
    have later : ∀ {σ' : St} {H' : Hp} {s' : Shared}, Inv X ([(D, { cls := .type "list", data := .seq its.toArray nD })] ++ pinsAt fp s5.heap) σ' H' s' →
        Inv X [] σ' H' s' ∧ tn (i + 1) s'.heap ∧ (∀ b ∈ fp, H' b = none) ∧ H' D = none ∧ s'.heap.get? D = some { cls := .type "list", data := .seq its.toArray nD } := fun {σ' H' s'} J' => by
      have pD := J'.pin (D, { cls := .type "list", data := .seq its.toArray nD }) (List.mem_append_right _ (List.mem_append_left _ (List.mem_singleton.mpr rfl)))
      refine ⟨J'.pins_of fun p hp => absurd hp (by simp), T.keep _ _ _ st5 fun b hb ob e => (J'.pin (b, ob) (List.mem_append_right _ (List.mem_append_right _ (mem_pinsAt hb e)))).1, fun b hb => ?_, pD.2.1, pD.1⟩
      obtain ⟨ob, e, _⟩ := T.obj _ _ st5 b hb
      exact (J'.pin (b, ob) (List.mem_append_right _ (List.mem_append_right _ (mem_pinsAt hb e)))).2.1
    refine thn (hifs _ s6 (some xv :: cs) H5 _ I6' (step xv H5 y5)) fun b s7 ⟨H7, I7, q7⟩ => ?_
    cases b with
    | false =>
      obtain ⟨m', hm, w7⟩ : ∃ m', m' < n ∧ W (i + 1) m' acc H7 := hNn acc H7 q7
      obtain ⟨l1, l2, l3, l4, l5⟩ := later I7
      exact ⟨m', hm, i + 1, acc, its, H7, some xv, l1, l2, l3, l4, ⟨nD, l5⟩, va, hl, w7⟩
    | true =>
      have q7' : te (some xv :: cs) H7 fun v H3 => acc.length < sizeLine ∧ N (acc ++ [v]) H3 := q7
      show wpAny _ _ (eval elt X.env) _ _ s7
      refine thn (helt _ s7 (some xv :: cs) H7 _ I7 q7') fun u8 s8 ⟨v, H8, I8, r8, hlt, n8⟩ => ?_
      obtain ⟨m', hm, w8⟩ := hNn _ _ n8
      obtain ⟨l1, l2, l3, l4, l5⟩ := later I8
      have hlen := va.length
      refine wpAny_list_append_plain (hsz := by simp only [List.size_toArray]; omega) ⟨nD, l5⟩ fun h9 pl9 sb9 => ?_
      refine ⟨m', hm, i + 1, acc ++ [v], its ++ [u8], H8, some xv, l1.turned (t' := s8.toks) (fun b ob hb e => (sb9.2 b hb).trans e) l4 hD.2.1 hD.2.2.2.1 hD.2.2.2.2.1 hD.2.2.2.2.2, ?_, l3, l4, by simpa using pl9, va.append (.cons r8 .nil), ?_, w8⟩
      · exact T.keep _ _ _ l2 fun b hb ob e => (sb9.2 b (fun z => hDf (z ▸ hb))).trans e
      · rw [List.length_append, List.length_singleton]
        omega

/-! the block -/
section
variable {X : Cx} {elt iter : Expr} {x : Str} {px pos : Pos} {ifs : List Expr} {scope : Scope} {caps : List (Nat × Str)} {wi : TI} {tc : TT} {te : TE}
theorem Inv.stkNo {pins : List (Addr × Obj)} {σ : St} {H : Hp} {s : Shared} {b : Addr} (I : Inv X pins σ H s) (h1 : b ≠ X.env.locals) (h2 : b ∉ X.fs) : b ∉ frs X.stack := fun z => (List.mem_cons.mp (I.stkSub b z)).elim h1 h2
theorem comp_block {pins : List (Addr × Obj)} {σ : St} {H : Hp} {s : Shared} {E : Value → Shared → Prop} {it : Addr} {fp : List Addr} {tn : Nat → Heap → Prop} {J : It} {Z : List V → Hp → Prop} {RR : Value → Addr → Result → Shared → Prop}
    (hc : X.calm = true) (S : CompSc X.env.scope X.N scope x caps) (I : Inv X pins σ H s) (T : Turn X.prog X.w X.K (.Name x px) J fp it tn) (st : tn 0 s.heap) (hf : ∀ b ∈ fp, FpOk X pins H b)
    (hifs : ∀ C s H ex pn E, PIfs (cxComp X (x :: caps.map (·.2)) scope C s H ex pn E) ifs tc) (helt : ∀ C s H ex pn E, PE (cxComp X (x :: caps.map (·.2)) scope C s H ex pn E) elt te)
    (hW : tCompW J (capS caps σ) tc te H Z)
    (hRR : ∀ (s' : Shared) (H' : Hp) (acc : List V) (its : List Value) (D C : Addr) (m : Str → Option Value), Inv X pins σ H' s' → s'.heap.PlainList D its.toArray → Vals acc its → acc.length ≤ sizeLine → FpOk X pins H' D → FpOk X pins H' C → D ≠ C → s'.heap.Ns C m → Z acc H' → RR (.ref D) C (.ok .next) s') :
    wpAny (model X.prog X.w) X.A (newList []) (fun acc s₃ => wpAny (model X.prog X.w) X.A (newFunctionEnv scope X.env.globals (clOf X.env scope) [] X.env.qual none .none (some X.env)) (fun cenv s₄ =>
      codeAny (model X.prog X.w) X.A (.compStart (.ListComp elt [⟨.Name x px, iter, ifs, 0⟩] scope pos) 0 (.ref it) acc { cenv with scope := relabel scope X.env }) (RR acc cenv.locals) s₄) E s₃) E s := by
  refine wpAny_newObj_type (wpAny_newFunctionEnv S.ncell (by intro y hy; simp at hy) (fun h₁ hns₁ hsb₁ => ?_) S.kind)
  dsimp only at hns₁ hsb₁ ⊢
  have hI3 : Inv X pins σ H { s with heap := s.heap.push { cls := .type "list", dict := none, data := .seq ([] : List Value).toArray } } := I.kept (t' := s.toks) fun b u e => Heap.get?_push_of_some _ e
  have gD3 : (s.heap.push { cls := .type "list", dict := none, data := .seq ([] : List Value).toArray }).get? s.heap.objs.size = some { cls := .type "list", dict := none, data := .seq ([] : List Value).toArray } := Heap.get?_push_size _ rfl
  have hz3 : (s.heap.push { cls := .type "list", dict := none, data := .seq ([] : List Value).toArray }).objs.size = s.heap.objs.size + 1 := Heap.size_push _ _
  generalize hH3 : s.heap.push { cls := .type "list", dict := none, data := .seq ([] : List Value).toArray } = h3 at hns₁ hsb₁ hI3 gD3 hz3 ⊢
  have k3 : ∀ b u, s.heap.get? b = some u → h3.get? b = some u := fun b u e => hH3 ▸ Heap.get?_push_of_some _ e
  have k31 : ∀ b u, h3.get? b = some u → h₁.get? b = some u := fun b u e => (hsb₁.2 b (Nat.ne_of_lt (Heap.lt_size e))).trans (Heap.get?_push_of_some _ e)
  have k1 : ∀ b u, s.heap.get? b = some u → h₁.get? b = some u := fun b u e => k31 b u (k3 b u e)
  have hDC : s.heap.objs.size ≠ h3.objs.size := by rw [hz3]; exact Nat.ne_of_lt (Nat.lt_succ_self _)
  have fD : FpOk X pins H s.heap.objs.size := I.fpOk (Nat.le_refl _) (I.hok.fresh (Nat.le_refl _))
  have fC : FpOk X pins H h3.objs.size := I.fpOk (by rw [hz3]; exact Nat.le_succ _) (I.hok.fresh (by rw [hz3]; exact Nat.le_succ _))
  have lfp : ∀ b ∈ fp, b < s.heap.objs.size := fun b hb => let ⟨_, e, _⟩ := T.obj _ _ st b hb; Heap.lt_size e
  have hDf : s.heap.objs.size ∉ fp := fun z => Nat.lt_irrefl _ (lfp _ z)
  -- the closure's cells are cells around
  have hfree : ∀ y ∈ scope.names, y.2 = .free → ∃ c, X.env.cells.lookup y.1 = some c := fun y hy e => I.ok.has y.1 (S.free y hy e)
  obtain ⟨sub, has⟩ := clG_look scope.names [] hfree (fun y c e => by simp at e)
  have sub' : ∀ y c, (clOf X.env scope).lookup y = some c → X.env.cells.lookup y = some c := sub
  have has' : ∀ y, (y, NameKind.free) ∈ scope.names → ∃ c, (clOf X.env scope).lookup y = some c := fun y hy => Option.isSome_iff_exists.mp (has y (.inr hy))
  have inj : ∀ b ∈ s.heap.objs.size :: fp, FpOk X pins H b := fun b hb => (List.mem_cons.mp hb).elim (fun z => z ▸ fD) (hf b)
  have ltC : ∀ b ∈ s.heap.objs.size :: fp, b ≠ h3.objs.size := fun b hb => (List.mem_cons.mp hb).elim (fun z => z ▸ hDC) fun z => Nat.ne_of_lt (by rw [hz3]; exact Nat.lt_succ_of_lt (lfp b z))
  have I1 : Inv (cxComp X (x :: caps.map (·.2)) scope h3.objs.size { s with heap := h3 } H (s.heap.objs.size :: fp) (X.pn ++ pins)
      (notedBy (model X.prog X.w) X.A (compEnvC scope (clOf X.env scope) h3.objs.size X.env) fun e s' => RR (.ref s.heap.objs.size) h3.objs.size (.error e) s')) [] (none :: capS caps σ) H { s with heap := h₁, toks := s.toks + ([] : List (Str × Value)).length } := by
    refine ⟨⟨I.ok.mod, S.kind, I.ok.glob, I.ok.blt, Nat.le_refl _, fun y z c e1 e2 => I.ok.inj y z c (sub' _ _ e1) (sub' _ _ e2), fun y hy => has' y (free_of_relabel S.ncell hy), fun y c e => (nomatch e), I.ok.hd, I.ok.frames, .inl rfl, fun b hb => ⟨ltC b hb, fun y c e => (inj b hb).2.2.2.2.1 y c (sub' y c e)⟩,
        fun b ob e => ⟨k3 b ob (I.bs b ob e).1, (I.bs b ob e).2⟩, ?_, fun b ob e z => ?_, fun b hb => I.stkNo (inj b hb).2.1 (inj b hb).2.2.1, ?_, I.stkFree⟩,
      rfl, I.bare, Un.kept k31, ⟨_, hns₁, fun i y v e1 e2 e3 => ?_⟩, fun y c e => ?_, fC.1, fun y c e => I.freeC y c (sub' y c e), fun p hp => ?_, I.hok.kept k1, ?_⟩
    · exact Nat.le_trans I.ok.bsz (Nat.le_trans I.sz (by show s.heap.objs.size ≤ h3.objs.size; rw [hz3]; exact Nat.le_succ _))
    · rcases (inj b z).2.2.2.1 with w1 | w1
      · exact I.ok.noex b ob e w1
      · exact absurd (Nat.lt_of_lt_of_le (Heap.lt_size e) I.ok.bsz) (Nat.not_lt.mpr w1)
    · exact Heap.FunFrames.of_keeps (fun b ob e _ => ⟨ob, k3 b ob e, rfl⟩) I.stack
    · cases i with
      | zero => cases e2
      | succ i =>
        have e1' : (caps.map (·.2))[i]? = some y := e1
        have e2' : (capS caps σ)[i]? = some (some v) := e2
        unfold capS at e2'
        rw [List.getElem?_map] at e1' e2'
        cases ep : caps[i]? with
        | none => rw [ep] at e1'; cases e1'
        | some p =>
          rw [ep] at e1' e2'
          obtain rfl : p.2 = y := Option.some.inj e1'
          have e2'' : (σ[p.1]?).getD none = some v := Option.some.inj e2'
          have hσ : σ[p.1]? = some (some v) := by
            cases es : σ[p.1]? with
            | none => rw [es] at e2''; cases e2''
            | some w1 => rw [es] at e2''; exact congrArg some e2''
          obtain ⟨cN, cF⟩ := S.cap p (List.mem_of_getElem? ep)
          have mF : (p.2, NameKind.free) ∈ scope.names := PySem.mem_of_lookup cF
          have oF := S.free _ mF rfl
          obtain ⟨m, hn, hlook⟩ := I.loc
          obtain ⟨u, ru, lk⟩ := hlook p.1 p.2 v cN hσ (.inr oF)
          refine ⟨u, ru, .inr ⟨?_, ?_⟩⟩
          · rcases e3 with z | z
            · exact absurd z (lookup_relabel_free cF)
            · exact z
          · obtain ⟨c, ec⟩ := has' p.2 mF
            refine ⟨c, ec, ?_⟩
            rcases lk with ⟨z, _⟩ | ⟨_, c', ec', ob, ho, hd⟩
            · have z' : X.env.scope.names.lookup p.2 = some .local := z
              rw [z'] at oF
              rcases oF with q | q <;> cases q
            · have ee := (sub' _ _ ec).symm.trans ec'
              cases ee
              exact ⟨ob, k1 _ _ ho, hd⟩
    · obtain ⟨v, ob, ho, hd⟩ := I.cell y c (sub' y c e)
      exact ⟨v, ob, k1 _ _ ho, hd⟩
    · have hp' : p ∈ X.pn ++ pins := by
        rcases List.mem_append.mp hp with z | z
        · exact z
        · exact absurd z (by simp)
      obtain ⟨e, n, ne, nf, d⟩ := I.pin p hp'
      refine ⟨k1 _ _ e, n, Nat.ne_of_lt ?_, I.stkNo ne nf, d⟩
      show p.1 < h3.objs.size
      rw [hz3]
      exact Nat.lt_succ_of_lt (Heap.lt_size e)
    · show (none :: capS caps σ).length = (x :: caps.map (·.2)).length
      simp [capS]
  have hf1 : ∀ b ∈ s.heap.objs.size :: fp, FpOk (cxComp X (x :: caps.map (·.2)) scope h3.objs.size { s with heap := h3 } H (s.heap.objs.size :: fp) (X.pn ++ pins)
      (notedBy (model X.prog X.w) X.A (compEnvC scope (clOf X.env scope) h3.objs.size X.env) fun e s' => RR (.ref s.heap.objs.size) h3.objs.size (.error e) s')) [] H b := fun b hb => by
    obtain ⟨f0, f1, f2, f3, f4, f5⟩ := inj b hb
    refine ⟨f0, ltC b hb, I.stkNo f1 f2, .inl hb, fun y c e => f4 y c (sub' y c e), fun p hp => f5 p ?_⟩
    rcases List.mem_append.mp hp with z | z
    · exact z
    · exact absurd z (by simp)
  have st1 : tn 0 h₁ := T.keep _ _ _ st fun b _ ob e => k1 b ob e
  have loop : codeAny (model X.prog X.w) X.A (.compLoop (.ListComp elt [⟨.Name x px, iter, ifs, 0⟩] scope pos) 0 (.ref it) (.ref s.heap.objs.size) (compEnvC scope (clOf X.env scope) h3.objs.size X.env)) (RR (.ref s.heap.objs.size) h3.objs.size) { s with heap := h₁, toks := s.toks + ([] : List (Str × Value)).length } := by
    refine comp_loop (X := cxComp X (x :: caps.map (·.2)) scope h3.objs.size { s with heap := h3 } H (s.heap.objs.size :: fp) (X.pn ++ pins) (notedBy (model X.prog X.w) X.A (compEnvC scope (clOf X.env scope) h3.objs.size X.env) fun e s' => RR (.ref s.heap.objs.size) h3.objs.size (.error e) s'))
      hc rfl S.nd (lookup_relabel_local S.hx) I1 T st1 (fun b hb => hf1 b (List.mem_cons_of_mem _ hb)) (hf1 _ List.mem_cons_self) hDf ⟨0, k31 _ _ gD3⟩ (hifs _ _ _ _ _ _) (helt _ _ _ _ _ _) hW rfl ?_
    intro s' H' acc its o' J1 plD va hlen nD z
    have u1 : Un (frs X.stack) (s.heap.objs.size :: fp) H H' h3 s'.heap := J1.base
    have J2 : Inv X pins σ H' s' := Inv.call' (s := { s with heap := h3 }) hI3 J1.os u1 J1.hok J1.bare fun b hb => by
      obtain ⟨_, f1, _, f3, f4, f5⟩ := inj b hb
      exact ⟨f3, f1, f4, f5⟩
    obtain ⟨m, hn, _⟩ := J1.loc
    exact hRR s' H' acc its _ _ m J2 plD va hlen ⟨nD, fD.2⟩ ⟨J1.free, fC.2⟩ hDC hn z
  exact codeAny_compStart_list loop (T.self _ 0 _ _ _ st1 loop)

theorem pe_comp (hc : X.calm = true) (S : CompSc X.env.scope X.N scope x caps) (hi : PI X (.Name x px) iter wi)
    (hifs : ∀ C s H ex pn E, PIfs (cxComp X (x :: caps.map (·.2)) scope C s H ex pn E) ifs tc) (helt : ∀ C s H ex pn E, PE (cxComp X (x :: caps.map (·.2)) scope C s H ex pn E) elt te)
    (hs : ∀ x, foldedSetIterable iter X.env x = pure x := by intro _; rfl) : PE X (.ListComp elt [⟨.Name x px, iter, ifs, 0⟩] scope pos) (tComp wi caps tc te) := by
  intro pins s σ H Q I h
  have hfree : ∀ y ∈ scope.names, y.2 = .free → ∃ c, X.env.cells.lookup y.1 = some c := fun y hy e => I.ok.has y.1 (S.free y hy e)
  rw [eval_ListComp]
  refine wpAny_comprehension_free (use := none) rfl hs (closure_eq hfree) S.kind S.nloc (thn (hi pins s σ H _ I h) fun v s1 h1 => thn h1 fun itv s2 h2 => ?_)
  obtain ⟨it, fp, tn, J, H2, e, I2, T, st2, f2, hW⟩ := h2
  subst e
  refine comp_block (RR := fun acc C => compPost (model X.prog X.w) X.A X.xe none (EP X pins σ Q) acc C) hc S I2 T st2 f2 hifs helt hW ?_
  intro s' H' acc its D C m J2 plD va hlen fD fC hDC hn z
  obtain ⟨nD, gD⟩ := plD
  refine ⟨m, hn, fun h'' sb => ?_⟩
  have J3 : Inv X pins σ H' { s' with heap := h'' } := J2.turned (t' := s'.toks) (fun b ob hb e => (sb.2 b hb).trans e) fC.1 fC.2.1 fC.2.2.2.1 fC.2.2.2.2.1 fC.2.2.2.2.2
  exact ⟨.ref D, upd H' D (.lst acc), J3.adopt fD ⟨hlen, its, nD, va, (sb.2 D hDC).trans gD⟩, rfl, z D fD.1⟩
/-- name = [..] where the store is the comprehension's own last step -/
theorem ps_setC {i : Nat} {y : Str} {py spos : Pos} (hc : X.calm = true) (hN : X.N.Nodup) (hi' : X.N[i]? = some y) (hy : Loc X.env.scope y) (S : CompSc X.env.scope X.N scope x caps) (hi : PI X (.Name x px) iter wi)
    (hifs : ∀ C s H ex pn E, PIfs (cxComp X (x :: caps.map (·.2)) scope C s H ex pn E) ifs tc) (helt : ∀ C s H ex pn E, PE (cxComp X (x :: caps.map (·.2)) scope C s H ex pn E) elt te)
    (hsw : swapsWith (.ListComp elt [⟨.Name x px, iter, ifs, 0⟩] scope pos) (some (.Name y py)) spos.line X.env = pure true := by rfl) (hs : ∀ x, foldedSetIterable iter X.env x = pure x := by intro _; rfl)
    (hfn : X.fn y = true ∨ X.env.scope.names.lookup y = some .local := by first | exact .inl rfl | exact .inr rfl | assumption) : PS X (.Assign [.Name y py] (.ListComp elt [⟨.Name x px, iter, ifs, 0⟩] scope pos) spos) (tAsg (tComp wi caps tc te) (gName i)) := by
  intro pins s σ H D0 I h
  have hfree : ∀ y ∈ scope.names, y.2 = .free → ∃ c, X.env.cells.lookup y.1 = some c := fun y hy e => I.ok.has y.1 (S.free y hy e)
  rw [exec_Assign_Name_used _ _ _ _ hsw]
  refine wpAny_bind (wpAny_standAt (wpAny_bind ?_))
  show wpAny _ _ (do let _ ← comprehension (.ListComp elt [⟨.Name x px, iter, ifs, 0⟩] scope pos) scope X.env _ (newList []) false (eval iter X.env) (some (assign (.Name y py) X.env))) _ _ s
  refine wpAny_bind (wpAny_mono (wpAny_comprehension_free (use := some (assign (.Name y py) X.env)) (Q := fun _ s' => SP X pins D0 .next s') rfl hs (closure_eq hfree) S.kind S.nloc
    (thn (hi pins s σ H _ I h) fun v s1 h1 => thn h1 fun itv s2 h2 => ?_)) (fun _ s' hq => wpAny_pure (wpAny_pure hq)) fun _ _ e => e)
  obtain ⟨it, fp, tn, J, H2, e, I2, T, st2, f2, hW⟩ := h2
  subst e
  refine comp_block (RR := fun acc C => compPost (model X.prog X.w) X.A X.xe (some (assign (.Name y py) X.env)) (fun _ s' => SP X pins D0 .next s') acc C) hc S I2 T st2 f2 hifs helt hW ?_
  intro s' H' acc its D C m J2 plD va hlen fD fC hDC hn z
  obtain ⟨nD, gD⟩ := plD
  have J3 : Inv X pins σ (upd H' D (.lst acc)) s' := J2.adopt fD ⟨hlen, its, nD, va, gD⟩
  show wpAny _ _ (assign (.Name y py) X.env (.ref D)) _ _ s'
  refine wpAny_assign_Name (store_ok2 J3 hN hi' hy (show RelV (.ref D) (.ref D) from rfl) (fun s4 J4 ⟨a, sa, ha⟩ => ?_) hfn)
  have hCa : C ≠ a := by
    rcases ha with q | q
    · rw [q]; exact fC.2.1
    · exact (fC.2.2.2.2.1 y a q).symm
  refine ⟨m, hn.sameBut sa hCa, fun h'' sb => ?_⟩
  exact ⟨_, _, J4.turned (t' := s4.toks) (fun b ob hb e => (sb.2 b hb).trans e) (by rw [upd_ne (Ne.symm hDC)]; exact fC.1) fC.2.1 fC.2.2.2.1 fC.2.2.2.2.1 fC.2.2.2.2.2, z D fD.1⟩
end
end L2

namespace L2
open PySem PySem.Spec PyProof.Rows

/-! ### the forms of a comprehension one uses -/
theorem comp_of {J : It} {cs : St} {tc : TT} {te : TE} {H1 : Hp} {Z : List V → Hp → Prop} (n : Nat) (Pv : Nat → List V → Hp → Prop) (h0 : Pv 0 [] H1) (hd : ∀ acc H, Pv n acc H → J.stop n H ∧ Z acc H)
    (hs : ∀ i acc H, i < n → Pv i acc H → J.go i H ∧ ∀ x H', J.yld i H x H' → tc (some x :: cs) H' fun b H2 => if b = true then te (some x :: cs) H2 fun v H3 => acc.length < sizeLine ∧ Pv (i + 1) (acc ++ [v]) H3 else Pv (i + 1) acc H2) :
    tCompW J cs tc te H1 Z := by
  refine ⟨fun i m acc H => m = n - i ∧ i ≤ n ∧ Pv i acc H, ⟨n, by simp, Nat.zero_le _, h0⟩, ?_⟩
  rintro i m acc H ⟨rfl, hi, p⟩
  by_cases hlt : i < n
  · obtain ⟨g, y⟩ := hs i acc H hlt p
    exact .inr ⟨g, Pv (i + 1), fun a H' q => ⟨n - (i + 1), by omega, rfl, hlt, q⟩, y⟩
  · have e : i = n := by omega
    subst e
    exact .inl (hd acc H p)
theorem comp_range {lo : Int} {n : Nat} {cs : St} {tc : TT} {te : TE} {H1 : Hp} {Z : List V → Hp → Prop} (Pv : Nat → List V → Hp → Prop) (h0 : Pv 0 [] H1)
    (hs : ∀ i acc H, i < n → Pv i acc H → tc (some (.int (lo + i)) :: cs) H fun b H2 => if b = true then te (some (.int (lo + i)) :: cs) H2 fun v H3 => acc.length < sizeLine ∧ Pv (i + 1) (acc ++ [v]) H3 else Pv (i + 1) acc H2)
    (hd : ∀ acc H, Pv n acc H → Z acc H) : tCompW (Itr lo n) cs tc te H1 Z :=
  comp_of n Pv h0 (fun acc H p => ⟨Nat.le_refl _, hd acc H p⟩) fun i acc H hi p => ⟨hi, fun x H' y => by
    obtain ⟨e, y⟩ := y
    subst e y
    exact hs i acc _ hi p⟩
theorem comp_list {K : PySem.W.Frag} {a : Addr} {xs : List V} {cs : St} {tc : TT} {te : TE} {H1 : Hp} {Z : List V → Hp → Prop} (Pv : Nat → List V → Hp → Prop) (h0 : Pv 0 [] H1) (hl : ∀ i acc H, Pv i acc H → SqL K H a xs)
    (hs : ∀ i x acc H, xs[i]? = some x → Pv i acc H → tc (some x :: cs) H fun b H2 => if b = true then te (some x :: cs) H2 fun v H3 => acc.length < sizeLine ∧ Pv (i + 1) (acc ++ [v]) H3 else Pv (i + 1) acc H2)
    (hd : ∀ acc H, Pv xs.length acc H → Z acc H) : tCompW (Itl K a) cs tc te H1 Z :=
  comp_of xs.length Pv h0 (fun acc H p => ⟨⟨xs, hl _ _ _ p, Nat.le_refl _⟩, hd acc H p⟩) fun i acc H hi p => ⟨⟨xs, xs[i], hl _ _ _ p, by simp [hi]⟩, fun x H' y => by
    obtain ⟨e, y⟩ := y
    subst e
    exact hs i x acc _ (y xs (hl _ _ _ p)) p⟩
theorem comp_tup {K : PySem.W.Frag} {a : Addr} {xs : List V} {cs : St} {tc : TT} {te : TE} {H1 : Hp} {Z : List V → Hp → Prop} (Pv : Nat → List V → Hp → Prop) (h0 : Pv 0 [] H1) (hl : ∀ i acc H, Pv i acc H → SqT K H a xs)
    (hs : ∀ i x acc H, xs[i]? = some x → Pv i acc H → tc (some x :: cs) H fun b H2 => if b = true then te (some x :: cs) H2 fun v H3 => acc.length < sizeLine ∧ Pv (i + 1) (acc ++ [v]) H3 else Pv (i + 1) acc H2)
    (hd : ∀ acc H, Pv xs.length acc H → Z acc H) : tCompW (Itt K a) cs tc te H1 Z :=
  comp_of xs.length Pv h0 (fun acc H p => ⟨⟨xs, hl _ _ _ p, Nat.le_refl _⟩, hd acc H p⟩) fun i acc H hi p => ⟨⟨xs, xs[i], hl _ _ _ p, by simp [hi]⟩, fun x H' y => by
    obtain ⟨e, y⟩ := y
    subst e
    exact hs i x acc _ (y xs (hl _ _ _ p)) p⟩

/-! ### a text walked sign by sign -/
def Its (z : Str) : It := ⟨fun i _ => i < z.cps.size, fun i H x H' => H' = H ∧ ∃ c, z.cps[i]? = some c ∧ x = .str ⟨#[c]⟩, fun i _ => z.cps.size ≤ i⟩
theorem turn_ascii {P : Program} {w : World} {K : PySem.W.Frag} {tg : Expr} (it : Addr) (z : Str) (t : Tok) : Turn P w K tg (Its z) [it] it (fun i h => h.IsStrIter it "str_ascii_iterator" z t i) where
  mem := by simp
  obj := fun i h st b hb => by
    have e : b = it := by simpa using hb
    subst e
    obtain ⟨o, e, c, d⟩ := st
    exact ⟨o, e, fun v z => by rw [d] at z; cases z⟩
  keep := fun i h h' st k => by
    obtain ⟨o, e, r⟩ := st
    exact ⟨o, k it (by simp) o e, r⟩
  item := by
    intro X hP hw hK hc i pins s σ H E I hf st hg
    subst hP hw hK
    obtain ⟨f0, f1, f2, f3, f4, f5⟩ := hf it (by simp)
    have hlt : i < z.cps.size := hg
    refine wpAny_pyNext_ascii_item st (c := z.cps[i]) (by simp [hlt]) fun h' st' sb => ?_
    have I1 : Inv X pins σ H { s with heap := h', toks := s.toks + 1 } := I.turned (fun b o hb e => (sb.2 b hb).trans e) f0 f1 f3 f4 f5
    obtain ⟨o, e, c, d⟩ := id st'
    exact ⟨_, rfl, go_of (s := { s with heap := h', toks := s.toks + 1 }) e c d (by decide) ⟨.str ⟨#[z.cps[i]]⟩, H, I1, ⟨_, rfl⟩, ⟨rfl, _, by simp [hlt], rfl⟩, st', fun b hb => (hf b hb).1⟩⟩
  done := by
    intro X hP hw hK hc i pins s σ H E I hf st hg
    subst hP hw hK
    obtain ⟨f0, f1, f2, f3, f4, f5⟩ := hf it (by simp)
    have hge : z.cps.size ≤ i := hg
    exact wpAny_pyNext_ascii_end (I.ok.hd hc) st (by simp [hge]) fun h' eb => ⟨rfl, I.turned (t' := s.toks) (fun b o hb e => eb b o hb e) f0 f1 f3 f4 f5⟩
  self := fun _ _ _ _ _ st h => wpAny_pyIter_striter_ascii st h
theorem turn_wide {P : Program} {w : World} {K : PySem.W.Frag} {tg : Expr} (it : Addr) (z : Str) (t : Tok) : Turn P w K tg (Its z) [it] it (fun i h => h.IsStrIter it "str_iterator" z t i) where
  mem := by simp
  obj := fun i h st b hb => by
    have e : b = it := by simpa using hb
    subst e
    obtain ⟨o, e, c, d⟩ := st
    exact ⟨o, e, fun v z => by rw [d] at z; cases z⟩
  keep := fun i h h' st k => by
    obtain ⟨o, e, r⟩ := st
    exact ⟨o, k it (by simp) o e, r⟩
  item := by
    intro X hP hw hK hc i pins s σ H E I hf st hg
    subst hP hw hK
    obtain ⟨f0, f1, f2, f3, f4, f5⟩ := hf it (by simp)
    have hlt : i < z.cps.size := hg
    refine wpAny_pyNext_wide_item st (c := z.cps[i]) (by simp [hlt]) fun h' st' sb => ?_
    have I1 : Inv X pins σ H { s with heap := h', toks := s.toks + 1 } := I.turned (fun b o hb e => (sb.2 b hb).trans e) f0 f1 f3 f4 f5
    obtain ⟨o, e, c, d⟩ := id st'
    exact ⟨_, rfl, go_of (s := { s with heap := h', toks := s.toks + 1 }) e c d (by decide) ⟨.str ⟨#[z.cps[i]]⟩, H, I1, ⟨_, rfl⟩, ⟨rfl, _, by simp [hlt], rfl⟩, st', fun b hb => (hf b hb).1⟩⟩
  done := by
    intro X hP hw hK hc i pins s σ H E I hf st hg
    subst hP hw hK
    obtain ⟨f0, f1, f2, f3, f4, f5⟩ := hf it (by simp)
    have hge : z.cps.size ≤ i := hg
    exact wpAny_pyNext_wide_end (I.ok.hd hc) st (by simp [hge]) fun h' eb => ⟨rfl, I.turned (t' := s.toks) (fun b o hb e => eb b o hb e) f0 f1 f3 f4 f5⟩
  self := fun _ _ _ _ _ st h => wpAny_pyIter_striter_wide st h
section
variable {X : Cx} {tg : Expr}
def iStr (tl : TE) : TI := fun σ H R => tl σ H fun x H1 => ∃ z, x = .str z ∧ R (Its z) H1
theorem pi_str {l : Expr} {tl : TE} (hl : PE X l tl) : PI X tg l (iStr tl) := by
  intro pins s σ H R I h
  refine thn (hl pins s σ H _ I h) fun v s1 ⟨x, H1, I1, r1, q1⟩ => ?_
  obtain ⟨z, e, q⟩ := q1
  subst e
  obtain ⟨t, rfl⟩ := r1
  have fp : ∀ b ∈ [s1.heap.objs.size], FpOk X pins H1 b := fun b hb => by
    have e : b = s1.heap.objs.size := by simpa using hb
    subst e
    exact I1.fpOk (Nat.le_refl _) (I1.hok.fresh (Nat.le_refl _))
  cases ha : z.cps.all (· < 128)
  · refine wpAny_pyIter_wide ha ?_
    exact ⟨s1.heap.objs.size, [s1.heap.objs.size], _, _, H1, rfl, I1.kept (t' := s1.toks) fun b o e => Heap.get?_push_of_some _ e, turn_wide _ z t, ⟨_, Heap.get?_push_size _ rfl, rfl, rfl⟩, fp, q⟩
  · refine wpAny_pyIter_ascii ha ?_
    exact ⟨s1.heap.objs.size, [s1.heap.objs.size], _, _, H1, rfl, I1.kept (t' := s1.toks) fun b o e => Heap.get?_push_of_some _ e, turn_ascii _ z t, ⟨_, Heap.get?_push_size _ rfl, rfl, rfl⟩, fp, q⟩
end
theorem for_str {z : Str} {g : TG} {tb : TS} {D : Ends} {σ : St} {H : Hp} (Pv : Nat → St → Hp → Prop) (h0 : Pv 0 σ H)
    (hs : ∀ i c σ H, z.cps[i]? = some c → Pv i σ H → g (.str ⟨#[c]⟩) σ H fun σ2 H2 => tb { D with nx := Pv (i + 1), ct := Pv (i + 1), bk := D.nx } σ2 H2) (hd : ∀ σ H, Pv z.cps.size σ H → D.nx σ H) :
    ∃ W : Nat → Nat → St → Hp → Prop, (∃ m, W 0 m σ H) ∧ ∀ i m σ H, W i m σ H →
      ((Its z).stop i H ∧ D.nx σ H) ∨ ((Its z).go i H ∧ ∃ N : St → Hp → Prop, (∀ σ' H', N σ' H' → ∃ m', m' < m ∧ W (i + 1) m' σ' H') ∧ ∀ x H', (Its z).yld i H x H' → g x σ H' fun σ2 H2 => tb { D with nx := N, ct := N, bk := D.nx } σ2 H2) := by
  refine ⟨fun i m σ H => m = z.cps.size - i ∧ i ≤ z.cps.size ∧ Pv i σ H, ⟨z.cps.size, by simp, Nat.zero_le _, h0⟩, ?_⟩
  rintro i m σ H ⟨rfl, hi, p⟩
  by_cases hlt : i < z.cps.size
  · refine .inr ⟨hlt, Pv (i + 1), fun σ' H' p' => ⟨z.cps.size - (i + 1), by omega, rfl, hlt, p'⟩, fun x H' y => ?_⟩
    obtain ⟨e, c, ec, ex⟩ := y
    subst e ex
    exact hs i c σ _ ec p
  · have e : i = z.cps.size := by omega
    subst e
    exact .inl ⟨Nat.le_refl _, hd σ H p⟩
theorem comp_str {z : Str} {cs : St} {tc : TT} {te : TE} {H1 : Hp} {Z : List V → Hp → Prop} (Pv : Nat → List V → Hp → Prop) (h0 : Pv 0 [] H1)
    (hs : ∀ i c acc H, z.cps[i]? = some c → Pv i acc H → tc (some (.str ⟨#[c]⟩) :: cs) H fun b H2 => if b = true then te (some (.str ⟨#[c]⟩) :: cs) H2 fun v H3 => acc.length < sizeLine ∧ Pv (i + 1) (acc ++ [v]) H3 else Pv (i + 1) acc H2)
    (hd : ∀ acc H, Pv z.cps.size acc H → Z acc H) : tCompW (Its z) cs tc te H1 Z :=
  comp_of z.cps.size Pv h0 (fun acc H p => ⟨Nat.le_refl _, hd acc H p⟩) fun i acc H hi p => ⟨hi, fun x H' y => by
    obtain ⟨e, c, ec, ex⟩ := y
    subst e ex
    exact hs i c acc _ ec p⟩

/-! ### texts: find, join, slices; truths: is, all -/
section
variable {X : Cx}
theorem mt_find : MtR X "str.find" (fun x xs H Q => ∃ a b, x = .str a ∧ xs = [.str b] ∧ Q (.int (Txt.find a b)) H) := by
  intro pins s σ H x xs v us Q I rx rs h
  obtain ⟨a, b, rfl, rfl, q⟩ := h
  obtain ⟨t, rfl⟩ := rx
  obtain ⟨u, rfl, t', rfl⟩ := vals1 rs
  exact SC.find ⟨.int _, H, I.tok _, ⟨_, rfl⟩, q⟩
theorem strsAre_of {ys : List Str} : ∀ {us : List Value}, Vals (ys.map V.str) us → StrsAre us ys := by
  induction ys with
  | nil => intro us r; rw [List.map_nil] at r; cases r; exact .nil
  | cons n ns ih =>
    intro us r
    rw [List.map_cons] at r
    cases r with
    | cons r1 r2 =>
      obtain ⟨t, e⟩ := r1
      subst e
      exact .cons n t (ih r2)
theorem mt_join : MtR X "str.join" (fun x xs H Q => ∃ (a : Str) (p : Addr) (ys : List Str), x = .str a ∧ xs = [.ref p] ∧ SqL X.K H p (ys.map V.str) ∧ (ys.map (·.length)).sum + ys.length * a.length ≤ 16777216 ∧ Q (.str (Txt.join a ys)) H) := by
  intro pins s σ H x xs v us Q I rx rs h
  obtain ⟨a, p, ys, rfl, rfl, hq, hz, q⟩ := h
  obtain ⟨t, rfl⟩ := rx
  obtain ⟨u, rfl, r2⟩ := vals1 rs
  cases r2
  obtain ⟨its, r', pl, _⟩ := I.list hq
  exact join_list pl.isList (by simpa using strsAre_of r') hz fun t' k => ⟨.str _, H, I.tok _, ⟨_, rfl⟩, q⟩
theorem sl_str : SlR X (fun x lo hi H Q => ∃ z, x = .str z ∧ z.length ≤ sizeLine ∧ Q (.str (Txt.slice z lo hi)) H) := by
  intro pins s σ H x v vl vu lo hi sl Q I rx hs pl pu h
  obtain ⟨z, rfl, hz, q⟩ := h
  obtain ⟨t, rfl⟩ := rx
  have fin : ∀ (l u : Option (Int × Tok)), s.heap.IsSlice sl l u none → l.map (·.1) = lo → u.map (·.1) = hi → wpAny (model X.prog X.w) X.A (getItem (.str z t) (.ref sl)) (EP X pins σ Q) X.xe s := fun l u h1 h2 h3 => by
    subst h2 h3
    exact wpAny_getItem_str_slice (l := l) (u := u) (st := none) h1 rfl (post_val_or_str ⟨Nat.le_trans (Txt.slice_le z _ _) hz, fun t' k => ⟨.str _, H, I.tok _, ⟨_, rfl⟩, q⟩⟩)
  refine ⟨"str", _, F.slot_str_getitem.lookup, typeIs_str _ _ _, ?_⟩
  cases pl with
  | none =>
    cases pu with
    | none => exact fin none none hs rfl rfl
    | int j uj => exact fin none (some (j, uj)) hs rfl rfl
  | int i ui =>
    cases pu with
    | none => exact fin (some (i, ui)) none hs rfl rfl
    | int j uj => exact fin (some (i, ui)) (some (j, uj)) hs rfl rfl
theorem op_isB : OpR X (compareOp .Is) (fun x y H Q => ∃ c d, x = .bl c ∧ y = .bl d ∧ Q (.bl (c == d)) H) := by
  intro pins s σ H x y v u Q I rx ry h
  obtain ⟨c, d, rfl, rfl, q⟩ := h
  cases rx
  cases ry
  exact is_bool ⟨.bl _, H, I, rfl, q⟩
theorem op_isnotB : OpR X (compareOp .IsNot) (fun x y H Q => ∃ c d, x = .bl c ∧ y = .bl d ∧ Q (.bl (c != d)) H) := by
  intro pins s σ H x y v u Q I rx ry h
  obtain ⟨c, d, rfl, rfl, q⟩ := h
  cases rx
  cases ry
  exact isnot_bool ⟨.bl _, H, I, rfl, q⟩
theorem range_all : ∀ (n : Nat) (f : Nat → Bool) (bs : List Bool), bs.length = n → (∀ i b, bs[i]? = some b → f i = b) → (List.range n).all f = bs.all id := by
  intro n f bs hl hf
  rw [Bool.eq_iff_iff, List.all_eq_true, List.all_eq_true]
  constructor
  · intro h b hb
    obtain ⟨i, e⟩ := List.mem_iff_getElem?.mp hb
    have hi : i < n := by
      have := (List.getElem?_eq_some_iff.mp e).1
      omega
    have := h i (List.mem_range.mpr hi)
    rw [hf i b e] at this
    exact this
  · intro h i hi
    have hi' : i < bs.length := by rw [hl]; exact List.mem_range.mp hi
    have e : bs[i]? = some bs[i] := List.getElem?_eq_getElem hi'
    rw [hf i _ e]
    exact h _ (List.getElem_mem hi')
/-- all(bs), bs a list of truths -/
theorem call_allB (hc : X.calm = true) : CallR X (.builtin "all") (fun xs H Q => ∃ (p : Addr) (bs : List Bool), xs = [.ref p] ∧ SqL X.K H p (bs.map V.bl) ∧ Q (.bl (bs.all id)) H) := by
  intro pins s σ H xs us Q I r h
  obtain ⟨p, bs, rfl, hq, q⟩ := h
  obtain ⟨u, rfl, rx⟩ := vals1 r
  cases rx
  obtain ⟨its, rv, pl, hz⟩ := I.list hq
  have hlen := rv.length
  rw [List.length_map] at hlen
  have hlt : p < s.heap.objs.size := by
    obtain ⟨o, ho, _⟩ := pl.isList
    exact Heap.lt_size ho
  refine call_all_walk (wpAny_pyIter_list pl.isList ?_)
  refine ⟨s.heap.objs.size, [s.heap.objs.size, p], [s.heap.objs.size], its.toArray.size, fun i v => its.toArray[i]? = some v, fun i h => h.IsListIter s.heap.objs.size p i ∧ h.IsList p its.toArray, fun i => (bs[i]?).getD true, rfl,
    Walks.list (A := X.A.in1) (I.ok.hd hc) _ _ (Nat.ne_of_lt hlt) _, ⟨⟨_, Heap.get?_push_size _ rfl, rfl, rfl⟩, pl.isList.at fun o e => Heap.get?_push_of_some _ e⟩, ?_, ?_⟩
  · intro i v s' Q' E' hv hQ'
    have hi : i < bs.length := by
      have := (Array.getElem?_eq_some_iff.mp hv).1
      simp only [List.size_toArray] at this
      omega
    have e : bs[i]? = some bs[i] := List.getElem?_eq_getElem hi
    obtain ⟨u, hu, ru⟩ := rv.get (i := i) (x := V.bl bs[i]) (by rw [List.getElem?_map, e]; rfl)
    have hv' : its[i]? = some v := by simpa using hv
    rw [hu] at hv'
    cases hv'
    cases ru
    have hQ2 : Q' ((bs[i]?).getD true) s' := hQ'
    rw [e] at hQ2
    exact wpAny_truthy_bool hQ2
  · intro h' tk k
    refine ⟨.bl (bs.all id), H, I.kept (t' := tk) (h' := h') fun b u e => k b u (fun z => ?_) (Heap.get?_push_of_some _ e), ?_, q⟩
    · have z' : b = s.heap.objs.size := by simpa using z
      exact absurd (Heap.lt_size e) (by rw [z']; exact Nat.lt_irrefl _)
    · show Value.bool _ = Value.bool _
      rw [range_all its.toArray.size _ bs (by simp only [List.size_toArray]; exact hlen) fun i b e => by rw [e]; rfl]
end
end L2
namespace L2
open PySem PySem.Spec PyProof.Rows
section
variable {X : Cx} {a b c : Expr} {ta tb : TE} {pos : Pos}
/-- a op1 b op2 k of ints, k a constant: one truth -/
def tChI (p p' : Int → Int → Bool) (k : Int) (ta tb : TE) : TE := fun σ H Q => ta σ H fun x H1 => tb σ H1 fun y H2 => ∃ i j, x = .int i ∧ y = .int j ∧ Q (.bl (p i j && p' j k)) H2
theorem pe_chainI {op op' : CmpOp} {p p' : Int → Int → Bool} {k : Int} (ho : OpR X (compareOp op) (rI0 fun i j => .bl (p i j))) (ho' : OpR X (compareOp op') (rI0 fun i j => .bl (p' i j))) (ha : PE X a ta) (hb : PE X b tb) (hc : PE X c (tC (.int k)))
    (hm : lastMarks [op, op'] [b, c] = false := by with_unfolding_all rfl) : PE X (.Compare a [op, op'] [b, c] pos) (tChI p p' k ta tb) := by
  intro pins s σ H Q I h
  refine Compare_chain (thn (ha pins s σ H _ I h) fun v s1 ⟨x, H1, I1, r1, q1⟩ => chain_link (thn (hb pins s1 σ H1 _ I1 q1) fun u s2 ⟨y, H2, I2, r2, q2⟩ => ?_)) hm
  obtain ⟨i, j, rfl, rfl, q⟩ := q2
  refine thn (ho pins s2 σ H2 _ _ v u (fun z H3 => z = .bl (p i j) ∧ H3 = H2) I2 r1 r2 ⟨i, j, rfl, rfl, rfl, rfl⟩) fun d s3 ⟨z, H3, I3, r3, e1, e2⟩ => ?_
  subst e1 e2
  cases r3
  refine wpAny_truthy_bool ?_
  cases e : p i j with
  | false =>
    rw [e, Bool.false_and] at q
    exact ite_ff ⟨.bl false, _, I3, rfl, q⟩
  | true =>
    rw [e, Bool.true_and] at q
    exact ite_tt (chain_last (thn (hc pins s3 σ _ (fun z H4 => z = .int k ∧ H4 = H3) I3 ⟨rfl, rfl⟩) fun w' s4 ⟨z', H4, I4, r4, e3, e4⟩ => by
      subst e3 e4
      exact ho' pins s4 σ _ _ _ u w' Q I4 r2 r4 ⟨j, k, rfl, rfl, q⟩))
end
theorem atI_some {α : Type} {xs : List α} {i : Int} (h0 : 0 ≤ i) (h1 : i < (xs.length : Int)) : ∃ v ∈ xs, atI xs i = some v := by
  have hk : i.toNat < xs.length := by omega
  have e : xs[i.toNat]? = some xs[i.toNat] := List.getElem?_eq_getElem hk
  refine ⟨xs[i.toNat], List.getElem_mem hk, ?_⟩
  have q := atI_nat e
  rw [Int.toNat_of_nonneg h0] at q
  exact q
theorem atI_int {ns : List Int} {i : Int} (h0 : 0 ≤ i) (h1 : i < (ns.length : Int)) : ∃ v : Int, atI (ns.map V.int) i = some (.int v) := by
  obtain ⟨v, hv, e⟩ := atI_some (xs := ns.map V.int) h0 (by rw [List.length_map]; exact h1)
  obtain ⟨n, _, rfl⟩ := List.mem_map.mp hv
  exact ⟨n, e⟩
theorem small_le {n : Nat} (h : n ≤ 1000) : n ≤ sizeLine := Nat.le_of_lt (small1000 h)
theorem mask31 (x : Int) : Builtin.bitAnd x 2147483647 = x % 2147483648 := PySem.W.kbt_mask x 31
theorem maskB (x : Int) : 0 ≤ Builtin.bitAnd x 2147483647 ∧ Builtin.bitAnd x 2147483647 < 2147483648 := by
  rw [mask31]
  omega
end L2
namespace L2
open PySem PySem.Spec PyProof.Rows
section
variable {X : Cx} {st : Stmt} {rest : List Stmt} {t u : TS}
/-- a word M between a statement and what follows: both ways through the statement meet there -/
def tCut (t u : TS) : TS := fun D σ H => ∃ M : St → Hp → Prop, t { D with nx := M } σ H ∧ ∀ σ' H', M σ' H' → u D σ' H'
theorem pss_cut (h1 : PS X st t) (h2 : PSs X rest u) : PSs X (st :: rest) (tCut t u) := by
  intro pins s σ H D I h
  obtain ⟨M, h, hM⟩ := h
  refine wpAny_execs_cons (thn (h1 pins s σ H { D with nx := M } I h) fun f s1 q => ?_)
  cases f with
  | next =>
    obtain ⟨σ', H', I', q⟩ := q
    exact h2 pins s1 σ' H' D I' (hM σ' H' q)
  | ret v => exact q
  | brk => exact q
  | cont => exact q
end
theorem same_new {H : Hp} {p : Addr} (h : H p = none) (o : HO) : Same H (upd H p o) := fun b u q => by rw [upd_ne (ne_of_none q h)]; exact q
end L2
namespace L2
open PySem PySem.Spec PyProof.Rows
/-- a word M behind an expression (a test): its ways meet there -/
def tCutE (t : TE) : TE := fun σ H Q => ∃ M : VK, t σ H M ∧ ∀ v H', M v H' → Q v H'
theorem pe_cut {X : Cx} {e : Expr} {t : TE} (h : PE X e t) : PE X e (tCutE t) := by
  intro pins s σ H Q I ⟨M, hM, hQ⟩
  exact thn (h pins s σ H M I hM) fun u s' ⟨v, H', I', r, m⟩ => ⟨v, H', I', r, hQ v H' m⟩
def tCutT (t : TT) : TT := fun σ H Q => ∃ M : Bool → Hp → Prop, t σ H M ∧ ∀ b H', M b H' → Q b H'
theorem pt_cut {X : Cx} {e : Expr} {t : TT} (h : PT X e t) : PT X e (tCutT t) := by
  intro pins s σ H Q I ⟨M, hM, hQ⟩
  exact thn (h pins s σ H M I hM) fun b s' ⟨H', I', m⟩ => ⟨H', I', hQ b H' m⟩
end L2

namespace L2
open PySem PySem.Spec PyProof.Rows
/-! isinstance with a type of Python's own -/
section
variable {X : Cx}
theorem call_isinst : CallR X (.builtin "isinstance") (fun xs H Q => ∃ (x : V) (T : String) (t : Value) (b : Bool), xs = [x, .ty T] ∧ TyOf X.K H x t ∧ PySem.W.kitOne X.K t (.type T) = some b ∧ Q (.bl b) H) := by
  intro pins s σ H xs us Q I r h
  obtain ⟨x, T, t, b, rfl, ty, e, q⟩ := h
  obtain ⟨u, w', rfl, r1, r2⟩ := vals2 r
  cases (show w' = Value.type T from r2)
  exact isinst_ok I r1 ty e fun tk => ⟨.bl b, H, I.tok tk, rfl, q⟩
theorem kit_ii (K : PySem.W.Frag) : PySem.W.kitOne K (.type "int") (.type "int") = some true := by rfl
theorem kit_ib (K : PySem.W.Frag) : PySem.W.kitOne K (.type "int") (.type "bool") = some false := by rfl
end
end L2

namespace L2
open PySem
theorem ifT {c : Bool} {A B : Prop} (h : c = true) (a : A) : if c = true then A else B := by rw [if_pos h]; exact a
theorem ifF {c : Bool} {A B : Prop} (h : c = false) (b : B) : if c = true then A else B := by rw [if_neg (by rw [h]; decide)]; exact b
end L2

namespace Gds
open PySem L2
/-! guards as a datum of our own, and how the heap bears them -/
inductive Gd where
  | yes
  | is (b n : Int)
  | under (b n : Int)
  | inn (r : Int)
  | neg (g : Gd)
  | both (g h : Gd)
  | either (g h : Gd)
def Gd.ht : Gd → Nat
  | .yes => 1
  | .is _ _ => 1
  | .under _ _ => 1
  | .inn _ => 1
  | .neg g => g.ht + 1
  | .both g h => 1 + max g.ht h.ht
  | .either g h => 1 + max g.ht h.ht
theorem Gd.ht_pos : ∀ g : Gd, 1 ≤ g.ht
  | .yes => Nat.le_refl _
  | .is _ _ => Nat.le_refl _
  | .under _ _ => Nat.le_refl _
  | .inn _ => Nat.le_refl _
  | .neg _ => Nat.succ_le_succ (Nat.zero_le _)
  | .both _ _ => Nat.le_add_right _ _
  | .either _ _ => Nat.le_add_right _ _
def at0 (bx : List Int) (b : Int) : Int := bx.getD b.toNat 0
def Gd.holds (op bx : List Int) : Gd → Bool
  | .yes => true
  | .is b n => decide (V.int (at0 bx b) = V.int n)
  | .under b n => decide (at0 bx b < n)
  | .inn r => inV (.int r) (op.map V.int)
  | .neg g => !(g.holds op bx)
  | .both g h => g.holds op bx && h.holds op bx
  | .either g h => g.holds op bx || h.holds op bx
def Gd.ok (nb : Nat) : Gd → Prop
  | .yes => True
  | .is b _ => 0 ≤ b ∧ b < (nb : Int)
  | .under b _ => 0 ≤ b ∧ b < (nb : Int)
  | .inn _ => True
  | .neg g => g.ok nb
  | .both g h => g.ok nb ∧ h.ok nb
  | .either g h => g.ok nb ∧ h.ok nb
/-- tuples stay -/
def KeepT (H H' : Hp) : Prop := ∀ b xs, H b = some (.tup xs) → H' b = some (.tup xs)
theorem KeepT.refl (H : Hp) : KeepT H H := fun _ _ h => h
theorem KeepT.trans {H H1 H2 : Hp} (a : KeepT H H1) (b : KeepT H1 H2) : KeepT H H2 := fun c xs h => b c xs (a c xs h)
theorem KeepT.of {H H' : Hp} (s : Same H H') : KeepT H H' := fun b xs h => s b _ h
theorem KeepT.lst {H : Hp} {p : Addr} {xs : List V} (h : H p = some (.lst xs)) (o : HO) : KeepT H (upd H p o) := fun b ys e => by
  rw [upd_ne (ne_of e h (by intro z; cases z))]
  exact e
theorem KeepT.new {H : Hp} {p : Addr} (h : H p = none) (o : HO) : KeepT H (upd H p o) := .of (same_new h o)
theorem same_upd {H H' : Hp} {p : Addr} (hp : H p = none) (s : Same H H') (o : HO) : Same H (upd H' p o) := fun b u e => by
  rw [upd_ne (ne_of_none e hp)]
  exact s b u e
inductive GdIn (H : Hp) : V → Gd → Prop where
  | yes {a : Addr} : H a = some (.tup [.str "yes"]) → GdIn H (.ref a) .yes
  | is {a : Addr} {b n : Int} : H a = some (.tup [.str "is", .int b, .int n]) → GdIn H (.ref a) (.is b n)
  | under {a : Addr} {b n : Int} : H a = some (.tup [.str "under", .int b, .int n]) → GdIn H (.ref a) (.under b n)
  | inn {a : Addr} {r : Int} : H a = some (.tup [.str "in", .int r]) → GdIn H (.ref a) (.inn r)
  | neg {a : Addr} {v : V} {g : Gd} : H a = some (.tup [.str "not", v]) → GdIn H v g → GdIn H (.ref a) (.neg g)
  | both {a : Addr} {v u : V} {g h : Gd} : H a = some (.tup [.str "both", v, u]) → GdIn H v g → GdIn H u h → GdIn H (.ref a) (.both g h)
  | either {a : Addr} {v u : V} {g h : Gd} : H a = some (.tup [.str "either", v, u]) → GdIn H v g → GdIn H u h → GdIn H (.ref a) (.either g h)
theorem GdIn.mono {H H' : Hp} {v : V} {g : Gd} (x : GdIn H v g) (k : KeepT H H') : GdIn H' v g := by
  induction x with
  | yes e => exact .yes (k _ _ e)
  | is e => exact .is (k _ _ e)
  | under e => exact .under (k _ _ e)
  | inn e => exact .inn (k _ _ e)
  | neg e _ i => exact .neg (k _ _ e) i
  | both e _ _ i j => exact .both (k _ _ e) i j
  | either e _ _ i j => exact .either (k _ _ e) i j
theorem strNe {x y : Str} {A B : Prop} (h : ¬ x = y) (b : B) : if decide (V.str x = V.str y) = true then A else B := by
  rw [if_neg]
  · exact b
  · intro z
    have z' := of_decide_eq_true z
    injection z' with z''
    exact h z''
theorem strEq {x : Str} {A B : Prop} (a : A) : if decide (V.str x = V.str x) = true then A else B := by
  rw [if_pos (decide_eq_true rfl)]
  exact a
theorem at0_at {bx : List Int} {b : Int} (h0 : 0 ≤ b) (h1 : b < (bx.length : Int)) : atI (bx.map V.int) b = some (.int (at0 bx b)) := by
  have hk : b.toNat < bx.length := by omega
  have e : (bx.map V.int)[b.toNat]? = some (.int (at0 bx b)) := by
    rw [List.getElem?_map, List.getElem?_eq_getElem hk]
    unfold at0
    rw [List.getD_eq_getElem?_getD, List.getElem?_eq_getElem hk]
    rfl
  have q := atI_nat e
  rw [Int.toNat_of_nonneg h0] at q
  exact q
theorem atI_last2 {α : Type} (xs : List α) (u v : α) : atI (xs ++ [u, v]) (-2) = some u := by
  unfold atI ixN
  have hl : (xs ++ [u, v]).length = xs.length + 2 := by simp
  rw [hl, if_neg (by decide), if_pos (by omega)]
  show (xs ++ [u, v])[((-2 : Int) + ((xs.length + 2 : Nat) : Int)).toNat]? = some u
  have e : ((-2 : Int) + ((xs.length + 2 : Nat) : Int)).toNat = xs.length := by omega
  rw [e, List.getElem?_append_right (Nat.le_refl _)]
  simp
theorem ints_flat (op : List Int) : (op.map V.int).all flatV = true := by
  rw [List.all_eq_true]
  intro x hx
  obtain ⟨n, _, rfl⟩ := List.mem_map.mp hx
  rfl
theorem inV_take (op : List Int) (r : Int) : inV (.int r) (op.map V.int) = op.any fun y => decide (V.int y = V.int r) := by
  unfold inV
  rw [List.any_map]
  congr 1
  funext y
  show (y == r) = _
  exact dec_int.symm
theorem snoc_of {α : Type} {xs : List α} (h : xs ≠ []) : ∃ init last, xs = init ++ [last] := ⟨xs.dropLast, xs.getLast h, (List.dropLast_concat_getLast h).symm⟩
theorem snoc2_of {α : Type} {xs : List α} (h : 1 < xs.length) : ∃ init u v, xs = init ++ [u, v] := by
  obtain ⟨i1, v, rfl⟩ := snoc_of (xs := xs) (by intro z; rw [z] at h; simp at h)
  rw [List.length_append, List.length_singleton] at h
  obtain ⟨i2, u, rfl⟩ := snoc_of (xs := i1) (by intro z; rw [z] at h; simp at h)
  exact ⟨i2, u, v, by simp⟩
end Gds

namespace L2
open PySem
/-! two tuples of the same flat items are not unlike -/
section
variable {X : Cx}
theorem eqV_self {x : V} (h : flatV x = true) : eqV x x = true := by
  cases x with
  | non => rfl
  | bl b => exact beq_self_eq_true b
  | int b => exact beq_self_eq_true b
  | str b => exact beq_self_eq_true b
  | _ => exact absurd (show false = true from h) Bool.false_ne_true
theorem eqAt_two {A : Around} {s : Shared} : ∀ {xs : List V} {us vs : List Value}, Vals xs us → Vals xs vs → xs.all flatV = true → ∀ (j : Nat) (h1 : j < us.length) (h2 : j < vs.length), SeqAt.EqAt A s us[j] vs[j] true
  | _, _, _, .nil, .nil, _, j, h1, _ => absurd h1 (Nat.not_lt_zero _)
  | x :: xs, u :: us, v :: vs, .cons r t, .cons r' t', f, j, h1, h2 => by
    rw [List.all_cons, Bool.and_eq_true] at f
    cases j with
    | zero =>
      have := eqAt_V (A := A) (s := s) r r' f.1 f.1
      rw [eqV_self f.1] at this
      exact this
    | succ j => exact eqAt_two t t' f.2 j (Nat.lt_of_succ_lt_succ h1) (Nat.lt_of_succ_lt_succ h2)
theorem op_neT (hu : X.A.units < cLine) : OpR X (compareOp .NotEq) (fun x y H Q => ∃ a b xs, x = .ref a ∧ y = .ref b ∧ SqT X.K H a xs ∧ SqT X.K H b xs ∧ xs.all flatV = true ∧ Q (.bl false) H) := by
  intro pins s σ H x y v u Q I rx ry h
  obtain ⟨a, b, xs, rfl, rfl, ha, hb, f, q⟩ := h
  cases rx
  cases ry
  obtain ⟨its, r1, p1, _⟩ := I.tuple ha
  obtain ⟨its2, r2, p2, _⟩ := I.tuple hb
  have l1 := r1.length
  have l2 := r2.length
  refine SeqAt.RcNeAt.tuples (e := fun _ => true) p1 p2 hu (fun j h1 h2 => ?_) X.prog X.w X.xe _ ?_
  · have := eqAt_two (A := X.A.in1) (s := s) r1 r2 f j (by simpa using h1) (by simpa using h2)
    simpa using this
  · have e : (!((List.range (min its.toArray.size its2.toArray.size)).all (fun _ => true) && its.toArray.size == its2.toArray.size)) = false := by
      rw [List.size_toArray, List.size_toArray, ← l1, ← l2]
      simp
    rw [e]
    exact ⟨.bl false, H, I, rfl, q⟩
end
end L2

namespace L2
open PySem
/-! items of a display whose kind is plain at sight: the rest is not looked at -/
section
variable {X : Cx} {es : List Expr} {te : TE} {t : TA}
theorem pa_k {k : Const} {j : Nat} {p : Pos} (ha : PE X (.Constant k j p) te) (hr : PA X es t) : PA X (.Constant k j p :: es) (tCons te t) := pa_cons ha hr rfl
theorem pa_u {o : UnaryOp} {e : Expr} {p : Pos} (ha : PE X (.UnaryOp o e p) te) (hr : PA X es t) : PA X (.UnaryOp o e p :: es) (tCons te t) := pa_cons ha hr rfl
theorem pa_b {o : Operator} {a b : Expr} {p : Pos} (ha : PE X (.BinOp a o b p) te) (hr : PA X es t) : PA X (.BinOp a o b p :: es) (tCons te t) := pa_cons ha hr rfl
end
end L2

namespace L2
open PySem
/-! a row of written constants, at once -/
def conE : Expr → Option V
  | .Constant (.int i) _ _ => some (.int i)
  | .Constant (.str z) _ _ => some (.str z)
  | .UnaryOp .USub (.Constant (.int i) _ _) _ => some (.int (-i))
  | _ => none
def conEs : List Expr → Option (List V)
  | [] => some []
  | e :: es => match conE e, conEs es with
    | some v, some vs => some (v :: vs)
    | _, _ => none
section
variable {X : Cx}
theorem con_ok {e : Expr} {v : V} (h : conE e = some v) : PE X e (fun _ H Q => Q v H) ∧ ∀ es, starEach (e :: es) X.env = (false, eval e X.env) :: starEach es X.env := by
  unfold conE at h
  split at h
  · cases h
    exact ⟨pe_int, fun _ => rfl⟩
  · cases h
    exact ⟨pe_str, fun _ => rfl⟩
  · cases h
    refine ⟨fun pins s σ H Q I h => ?_, fun _ => rfl⟩
    exact (pe_un un_neg pe_int) pins s σ H Q I ⟨_, rfl, h⟩
  · cases h
theorem pa_consts : ∀ {es : List Expr} {vs : List V}, conEs es = some vs → PA X es (fun _ H Q => Q vs H)
  | [], vs, h => by
    cases h
    exact pa_nil
  | e :: es, vs, h => by
    unfold conEs at h
    split at h
    · rename_i v vs' h1 h2
      cases h
      obtain ⟨a, b⟩ := con_ok (X := X) h1
      exact pa_cons a (pa_consts h2) (b es)
    · cases h
end
/-! closed-up forms of the layer's readings, whose insides the unifier does not open -/
structure RE (X : Cx) (e : Expr) (t : TE) : Prop where
  p : PE X e t
structure RS (X : Cx) (st : Stmt) (t : TS) : Prop where
  p : PS X st t
structure RSs (X : Cx) (st : List Stmt) (t : TS) : Prop where
  p : PSs X st t
structure RA (X : Cx) (es : List Expr) (t : TA) : Prop where
  p : PA X es t
section
variable {X : Cx} {e a b c : Expr} {es : List Expr} {te ta tb : TE} {tc : TT} {tr : TA} {pos : Pos} {st : Stmt} {ss rest : List Stmt} {t u : TS}
theorem r_one (h : RS X st t) : RSs X [st] t := ⟨pss_one h.p⟩
theorem r_cons (h : RS X st t) (h2 : RSs X rest u) : RSs X (st :: rest) (tSeq t u) := ⟨pss_cons h.p h2.p⟩
theorem r_cut (h : RS X st t) (h2 : RSs X rest u) : RSs X (st :: rest) (tCut t u) := ⟨pss_cut h.p h2.p⟩
theorem r_if (hc : PT X c tc) (ha : RSs X ss t) (hb : PSs X rest u) : RS X (.If c ss rest pos) (tIfS tc t u) := ⟨ps_if hc ha.p hb⟩
theorem r_ret (h : RE X e te) : RS X (.Return (some e) pos) (tRet te) := ⟨ps_ret h.p⟩
theorem r_st (h : PS X st t) : RS X st t := ⟨h⟩
theorem r_set {i : Nat} {x : Str} {pos' : Pos} (hN : X.N.Nodup) (hi : X.N[i]? = some x) (hx : Loc X.env.scope x) (he : RE X e te) (hs : swapsWith e (some (.Name x pos')) pos.line X.env = pure false := by rfl) (hf : X.fn x = true ∨ X.env.scope.names.lookup x = some .local := by first | exact .inl rfl | exact .inr rfl | assumption) : RS X (.Assign [.Name x pos'] e pos) (tAsg te (gName i)) := ⟨ps_set hN hi hx he.p hs hf⟩
theorem r_e (h : PE X e te) : RE X e te := ⟨h⟩
theorem r_ixL (ha : RE X a ta) (hb : PE X b tb) (hs : PlainIx b) : RE X (.Subscript a b pos) (tOp (rIxL X.K) ta tb) := ⟨pe_ix ix_list ha.p hb hs⟩
theorem r_lst (h : RA X es tr) : RE X (.List es pos) (tLst tr) := ⟨pe_lst h.p⟩
theorem ra_con {vs : List V} (h : conEs es = some vs) : RA X es (fun _ H Q => Q vs H) := ⟨pa_consts h⟩
theorem ra_c (ha : PE X e te) (hr : RA X es tr) (hs : ∀ es, starEach (e :: es) X.env = (false, eval e X.env) :: starEach es X.env := by intro _; rfl) : RA X (e :: es) (tCons te tr) := ⟨pa_cons ha hr.p (hs es)⟩
end
end L2

namespace L2
open PySem PySem.Spec PyProof.Rows
section
variable {X : Cx}
theorem range_any (n : Nat) (f : Nat → Bool) (bs : List Bool) (hl : bs.length = n) (hf : ∀ i b, bs[i]? = some b → f i = b) : (List.range n).any f = bs.any id := by
  rw [Bool.eq_iff_iff, List.any_eq_true, List.any_eq_true]
  constructor
  · rintro ⟨i, hi, h⟩
    have hi' : i < bs.length := by rw [hl]; exact List.mem_range.mp hi
    rw [hf i _ (List.getElem?_eq_getElem hi')] at h
    exact ⟨_, List.getElem_mem hi', h⟩
  · rintro ⟨b, hb, h⟩
    obtain ⟨i, e⟩ := List.mem_iff_getElem?.mp hb
    have hi := (List.getElem?_eq_some_iff.mp e).1
    exact ⟨i, List.mem_range.mpr (by omega), by rw [hf i b e]; exact h⟩
/-- any(bs), bs a list of truths -/
theorem call_anyB (hc : X.calm = true) : CallR X (.builtin "any") (fun xs H Q => ∃ (p : Addr) (bs : List Bool), xs = [.ref p] ∧ SqL X.K H p (bs.map V.bl) ∧ Q (.bl (bs.any id)) H) := by
  intro pins s σ H xs us Q I r h
  obtain ⟨p, bs, rfl, hq, q⟩ := h
  obtain ⟨u, rfl, rx⟩ := vals1 r
  cases rx
  obtain ⟨its, rv, pl, hz⟩ := I.list hq
  have hlen := rv.length
  rw [List.length_map] at hlen
  have hlt : p < s.heap.objs.size := by
    obtain ⟨o, ho, _⟩ := pl.isList
    exact Heap.lt_size ho
  refine call_any_walk (wpAny_pyIter_list pl.isList ?_)
  refine ⟨s.heap.objs.size, [s.heap.objs.size, p], [s.heap.objs.size], its.toArray.size, fun i v => its.toArray[i]? = some v, fun i h => h.IsListIter s.heap.objs.size p i ∧ h.IsList p its.toArray, fun i => (bs[i]?).getD true, rfl,
    Walks.list (A := X.A.in1) (I.ok.hd hc) _ _ (Nat.ne_of_lt hlt) _, ⟨⟨_, Heap.get?_push_size _ rfl, rfl, rfl⟩, pl.isList.at fun o e => Heap.get?_push_of_some _ e⟩, ?_, ?_⟩
  · intro i v s' Q' E' hv hQ'
    have hi : i < bs.length := by
      have := (Array.getElem?_eq_some_iff.mp hv).1
      simp only [List.size_toArray] at this
      omega
    have e : bs[i]? = some bs[i] := List.getElem?_eq_getElem hi
    obtain ⟨u, hu, ru⟩ := rv.get (i := i) (x := V.bl bs[i]) (by rw [List.getElem?_map, e]; rfl)
    have hv' : its[i]? = some v := by simpa using hv
    rw [hu] at hv'
    cases hv'
    cases ru
    have hQ2 : Q' ((bs[i]?).getD true) s' := hQ'
    rw [e] at hQ2
    exact wpAny_truthy_bool hQ2
  · intro h' tk k
    refine ⟨.bl (bs.any id), H, I.kept (t' := tk) (h' := h') fun b u e => k b u (fun z => ?_) (Heap.get?_push_of_some _ e), ?_, q⟩
    · have z' : b = s.heap.objs.size := by simpa using z
      exact absurd (Heap.lt_size e) (by rw [z']; exact Nat.lt_irrefl _)
    · show Value.bool _ = Value.bool _
      rw [range_any its.toArray.size _ bs (by simp only [List.size_toArray]; exact hlen) fun i b e => by rw [e]; rfl]
end
end L2

namespace L2
open PySem PySem.Spec PyProof.Rows
section
variable {X : Cx} {a b c : Expr} {ta tb tc : TE} {pos : Pos}
/-- a op1 b op2 c of ints, c a calm expression: one truth -/
def tChV (p p' : Int → Int → Bool) (ta tb tc : TE) : TE := fun σ H Q => ta σ H fun x H1 => tb σ H1 fun y H2 => ∃ i j k, x = .int i ∧ y = .int j ∧ tc σ H2 (fun z H3 => z = .int k ∧ H3 = H2) ∧ Q (.bl (p i j && p' j k)) H2
theorem pe_chV {op op' : CmpOp} {p p' : Int → Int → Bool} (ho : OpR X (compareOp op) (rI0 fun i j => .bl (p i j))) (ho' : OpR X (compareOp op') (rI0 fun i j => .bl (p' i j))) (ha : PE X a ta) (hb : PE X b tb) (hc : PE X c tc)
    (hm : lastMarks [op, op'] [b, c] = false := by with_unfolding_all rfl) : PE X (.Compare a [op, op'] [b, c] pos) (tChV p p' ta tb tc) := by
  intro pins s σ H Q I h
  refine Compare_chain (thn (ha pins s σ H _ I h) fun v s1 ⟨x, H1, I1, r1, q1⟩ => chain_link (thn (hb pins s1 σ H1 _ I1 q1) fun u s2 ⟨y, H2, I2, r2, q2⟩ => ?_)) hm
  obtain ⟨i, j, k, rfl, rfl, tq, q⟩ := q2
  refine thn (ho pins s2 σ H2 _ _ v u (fun z H3 => z = .bl (p i j) ∧ H3 = H2) I2 r1 r2 ⟨i, j, rfl, rfl, rfl, rfl⟩) fun d s3 ⟨z, H3, I3, r3, e1, e2⟩ => ?_
  subst e1 e2
  cases r3
  refine wpAny_truthy_bool ?_
  cases e : p i j with
  | false =>
    rw [e, Bool.false_and] at q
    exact ite_ff ⟨.bl false, _, I3, rfl, q⟩
  | true =>
    rw [e, Bool.true_and] at q
    exact ite_tt (chain_last (thn (hc pins s3 σ _ _ I3 tq) fun w' s4 ⟨z', H4, I4, r4, e3, e4⟩ => by
      subst e3 e4
      exact ho' pins s4 σ _ _ _ u w' Q I4 r2 r4 ⟨j, k, rfl, rfl, q⟩))
theorem pt_chV {op op' : CmpOp} {p p' : Int → Int → Bool} (ho : OpR X (compareOp op) (rI0 fun i j => .bl (p i j))) (ho' : OpR X (compareOp op') (rI0 fun i j => .bl (p' i j))) (ha : PE X a ta) (hb : PE X b tb) (hc : PE X c tc)
    (hm : lastMarks [op, op'] [b, c] = false := by with_unfolding_all rfl) : PT X (.Compare a [op, op'] [b, c] pos) (tTest (tChV p p' ta tb tc)) := by
  intro pins s σ H Q I h
  refine isTrue_chain (thn (ha pins s σ H _ I h) fun v s1 ⟨x, H1, I1, r1, q1⟩ => test_link (thn (hb pins s1 σ H1 _ I1 q1) fun u s2 ⟨y, H2, I2, r2, q2⟩ => ?_)) hm
  obtain ⟨i, j, k, rfl, rfl, tq, kk, ek, q⟩ := q2
  cases ek
  refine thn (ho pins s2 σ H2 _ _ v u (fun z H3 => z = .bl (p i j) ∧ H3 = H2) I2 r1 r2 ⟨i, j, rfl, rfl, rfl, rfl⟩) fun d s3 ⟨z, H3, I3, r3, e1, e2⟩ => ?_
  subst e1 e2
  cases r3
  refine wpAny_truthy_bool ?_
  cases e : p i j with
  | false =>
    rw [e, Bool.false_and] at q
    exact ite_ff ⟨_, I3, q⟩
  | true =>
    rw [e, Bool.true_and] at q
    refine ite_tt (test_last (thn (hc pins s3 σ _ _ I3 tq) fun w' s4 ⟨z', H4, I4, r4, e3, e4⟩ => ?_))
    subst e3 e4
    refine thn (ho' pins s4 σ _ _ _ u w' (fun z H5 => z = .bl (p' j k) ∧ H5 = H4) I4 r2 r4 ⟨j, k, rfl, rfl, rfl, rfl⟩) fun d' s5 ⟨z2, H5, I5, r5, e5, e6⟩ => ?_
    subst e5 e6
    cases r5
    exact wpAny_truthy_bool ⟨_, I5, q⟩
end
theorem itB {c : Bool} {A B : Prop} (h1 : c = true → A) (h2 : c = false → B) : if c = true then A else B := by
  cases c with
  | true =>
    rw [if_pos rfl]
    exact h1 rfl
  | false =>
    rw [if_neg Bool.false_ne_true]
    exact h2 rfl
theorem in_strs (z : Str) (zs : List Str) : inV (.str z) (zs.map V.str) = zs.contains z := by
  unfold inV
  rw [List.any_map, List.contains_eq_any_beq]
  congr 1
  funext y
  show (y == z) = (z == y)
  rw [Bool.eq_iff_iff]
  exact ⟨fun h => by rw [eq_of_beq h]; exact beq_self_eq_true z, fun h => by rw [eq_of_beq h]; exact beq_self_eq_true y⟩
theorem strs_flat (zs : List Str) : (zs.map V.str).all flatV = true := by
  rw [List.all_eq_true]
  intro x hx
  obtain ⟨n, _, rfl⟩ := List.mem_map.mp hx
  rfl
theorem Same.seqT {K : PySem.W.Frag} {H H' : Hp} {a : Addr} {xs : List V} (e : Same H H') (h : SqT K H a xs) : SqT K H' a xs := by
  rcases h with (h | ⟨o, h⟩) | h
  · exact .inl (.inl (e _ _ h))
  · exact .inl (.inr ⟨o, e _ _ h⟩)
  · exact .inr h
end L2

namespace L2
open PySem PyProof.Rows
/-! a def whose scope is given as a datum: a big body is walked but once -/
theorem okS {P : Program} {w : World} {K : PySem.W.Frag} {mg : Str → Option Value} {base : Heap} {x qual : Str} {st : Stmt} {f : Addr} {fd : FuncData} {N ps : List Str} {k : Nat} {sp : Sp} (sc : Scope) (hsc : defScope st = sc) (F : Fun K x qual st f fd) (S : FnScope N ps sc) (len : ∀ vs H Q E, sp vs H Q E → vs.length = ps.length)
    (hbody : ∀ (cdv : Value) (A : Around) (outer : List Env) (s : Shared) (H : Hp) (vs : List V) (Q : VK) (E : XK), Room k (A.deeper (envOfC qual sc s.heap.objs.size f cdv)) → sp vs H Q E →
      ∃ t, PSs (cxOf CX0 P w K mg base N qual sc f cdv A outer s H E).nox (defBody st) t ∧ t { nx := fun _ H' => Q .non H', rt := Q } (start N vs) H) : FnOk P w K mg base CX0 (k + 1) f fd ps sp := by
  subst hsc
  exact F.ok S len hbody
end L2

namespace HT
open PySem PySem.Spec PyProof.Rows
section
variable {prog : Program} {w : World} {A : Around} {E : Value → Shared → Prop} {s : Shared}
/-- the whole of a tuple, cut, is the tuple itself -/
theorem getItem_tuple_whole {t sl : Addr} {items : Array Value} {vl vu : Value} {lo hi : Option Int} {Q : Value → Shared → Prop} (ht : IsTup s.heap t items) (hs : s.heap.IsSliceOf sl vl vu .none) (pl : IsPart vl lo) (pu : IsPart vu hi)
    (hw : sIx items.size 0 lo = 0 ∧ sIx items.size items.size hi = items.size) (h : Q (.ref t) s) : wpAny (model prog w) A (getItem (.ref t) (.ref sl)) Q E s := by
  obtain ⟨os, hos, hcs, hds⟩ := id hs
  have hTs : s.TypeIs (.ref sl) "slice" := ⟨os, hos, hcs⟩
  unfold getItem
  try with_reducible refine wpAny_holding ?_
  first | refine wpAny_bind (wpAny_pure ?_) | skip
  refine wpAny_bind (wpAny_sequenceKey ht.typeIs (by decide) ?_)
  refine wpAny_bind (wpAny_callSpecial?_slot (name := Str.ofString "__getitem__") ht.typeIs PyProof.Rows.slot_tuple_getitem
    (wpAny_call_entry PyProof.Rows.slot_tuple_getitem ht.typeIs entry_tuple_getitem ?_ (args_tuple_getitem _ _)))
  show wpAny _ _ (Builtin.Tuple.tupleItemsOf (.ref t) >>= _) _ _ s
  refine wpAny_bind (tupleItemsOf_ ht ?_)
  refine wpAny_bind (wpAny_typeOf hTs ?_)
  rw [if_pos (by decide)]
  refine wpAny_bind (sliceApplied_gen hs pl pu ?_)
  have hyes : (((sIx items.size 0 lo : Nat) : Int) == 0 && (1 : Int) == 1 && (sIx items.size items.size hi - sIx items.size 0 lo) == items.size) = true := by
    rw [hw.1, hw.2]
    simp
  show wpAny _ _ (if (((sIx items.size 0 lo : Nat) : Int) == 0 && (1 : Int) == 1 && (sIx items.size items.size hi - sIx items.size 0 lo) == items.size) = true then _ else _) _ _ s
  rw [if_pos hyes]
  have hx : wpAny (model prog w) A.in1 (Builtin.Tuple.tupleIsExact (Value.ref t)) (fun b s' => b = true ∧ s' = s) (fun _ _ => False) s := by
    unfold Builtin.Tuple.tupleIsExact
    exact wpAny_bind (wpAny_typeOf ht.typeIs (wpAny_pure ⟨by decide, rfl⟩))
  refine wpAny_bind (wpAny_mono hx (fun b s' ⟨e1, e2⟩ => ?_) (fun _ _ z => z.elim))
  subst e1 e2
  rw [if_pos rfl]
  exact wpAny_bind (wpAny_rule (wpAny_pure ⟨_, rfl, wpAny_pure h⟩))
end
end HT
namespace L2
open PySem PySem.Spec PyProof.Rows
section
variable {X : Cx}
/-- t[lo:hi], be it the whole or not -/
def rSlA (K : PySem.W.Frag) : V → Option Int → Option Int → Hp → VK → Prop := fun x lo hi H Q => ∃ a xs, x = .ref a ∧ SqT K H a xs ∧
  ((HT.sIx xs.length 0 lo = 0 ∧ HT.sIx xs.length xs.length hi = xs.length) → Q (.ref a) H) ∧ (¬ (HT.sIx xs.length 0 lo = 0 ∧ HT.sIx xs.length xs.length hi = xs.length) → ∀ p, H p = none → Q (.ref p) (upd H p (.tup (cutV xs lo hi))))
theorem sl_tupA : SlR X (rSlA X.K) := by
  intro pins s σ H x v vl vu lo hi sl Q I rx hs pl pu h
  obtain ⟨a, xs, rfl, hx, h1, h2⟩ := h
  by_cases hw : HT.sIx xs.length 0 lo = 0 ∧ HT.sIx xs.length xs.length hi = xs.length
  · cases rx
    obtain ⟨its, r, ht, hz⟩ := I.tuple hx
    have hlen : its.toArray.size = xs.length := by rw [List.size_toArray]; exact r.length.symm
    refine ⟨"tuple", _, PyProof.Rows.slot_tuple_getitem.lookup, ht.typeIs, ?_⟩
    exact HT.getItem_tuple_whole ht hs pl pu (by rw [hlen]; exact hw) ⟨.ref a, _, I, rfl, h1 hw⟩
  · exact sl_tup pins s σ H _ v vl vu lo hi sl Q I rx hs pl pu ⟨a, xs, rfl, hx, hw, h2 hw⟩
end
end L2

namespace L2
open PySem
/-! values that are alike through and through -/
inductive Dq (K : PySem.W.Frag) (H : Hp) : Nat → V → V → Prop where
  | flat {n : Nat} {x : V} : flatV x = true → Dq K H n x x
  | same {n : Nat} {a : Addr} : Dq K H n (.ref a) (.ref a)
  | tup {n : Nat} {a b : Addr} {xs ys : List V} : SqT K H a xs → SqT K H b ys → xs.length = ys.length → (∀ (j : Nat) (x y : V), xs[j]? = some x → ys[j]? = some y → Dq K H n x y) → Dq K H (n + 1) (.ref a) (.ref b)
  | lst {n : Nat} {a b : Addr} {xs ys : List V} : SqL K H a xs → SqL K H b ys → xs.length = ys.length → (∀ (j : Nat) (x y : V), xs[j]? = some x → ys[j]? = some y → Dq K H n x y) → Dq K H (n + 1) (.ref a) (.ref b)
theorem Vals.at_of {xs : List V} {us : List Value} (r : Vals xs us) {j : Nat} (h : j < us.length) : ∃ x, xs[j]? = some x ∧ RelV x us[j] := by
  have hl := r.length
  have hx : xs[j]? = some xs[j] := List.getElem?_eq_getElem (by omega)
  obtain ⟨u, hu, ru⟩ := r.get hx
  rw [List.getElem?_eq_getElem h] at hu
  exact ⟨_, hx, Option.some.inj hu ▸ ru⟩
section
variable {X : Cx} {pins : List (Addr × Obj)} {σ : St} {H : Hp} {s : Shared}
theorem Dq.eqAt (I : Inv X pins σ H s) {n : Nat} {x y : V} (d : Dq X.K H n x y) : ∀ {A : Around} {u v : Value}, RelV x u → RelV y v → A.units + n < cLine → SeqAt.EqAt A s u v true := by
  induction d with
  | @flat n x f =>
    intro A u v ru rv _
    have := eqAt_V (A := A) (s := s) ru rv f f
    rw [eqV_self f] at this
    exact this
  | same =>
    intro A u v ru rv _
    cases ru
    cases rv
    exact SeqAt.EqAt.same _
  | @tup n a b xs ys ha hb hl _ ih =>
    intro A u v ru rv hu
    cases ru
    cases rv
    obtain ⟨its, r1, p1, _⟩ := I.tuple ha
    obtain ⟨its2, r2, p2, _⟩ := I.tuple hb
    have l1 := r1.length
    have l2 := r2.length
    by_cases e : a = b
    · subst e
      exact SeqAt.EqAt.same _
    refine SeqAt.EqAt.of_refs e ?_
    have := SeqAt.RcAt.tuples (A := A) (s := s) (e := fun _ => true) p1 p2 (by omega) (fun j h1 h2 => ?_)
    · have e2 : ((List.range (min its.toArray.size its2.toArray.size)).all (fun _ => true) && its.toArray.size == its2.toArray.size) = true := by
        rw [List.size_toArray, List.size_toArray, ← l1, ← l2, hl]
        simp
      rw [e2] at this
      exact this
    · have h1' : j < its.length := by simpa using h1
      have h2' : j < its2.length := by simpa using h2
      obtain ⟨x, hx, rx⟩ := r1.at_of h1'
      obtain ⟨y, hy, ry⟩ := r2.at_of h2'
      have := ih j x y hx hy (A := A.in1) rx ry (by show A.in1.units + n < cLine; simp; omega)
      simpa using this
  | @lst n a b xs ys ha hb hl _ ih =>
    intro A u v ru rv hu
    cases ru
    cases rv
    obtain ⟨its, r1, p1, _⟩ := I.list ha
    obtain ⟨its2, r2, p2, _⟩ := I.list hb
    have l1 := r1.length
    have l2 := r2.length
    by_cases e : a = b
    · subst e
      exact SeqAt.EqAt.same _
    refine SeqAt.EqAt.of_refs e ?_
    have := SeqAt.RcAt.lists (A := A) (s := s) (e := fun _ => true) p1.isList p2.isList (by rw [List.size_toArray, List.size_toArray, ← l1, ← l2, hl]) (by omega) (fun j h1 h2 => ?_)
    · have e2 : (List.range its.toArray.size).all (fun _ => true) = true := by simp
      rw [e2] at this
      exact this
    · have h1' : j < its.length := by simpa using h1
      have h2' : j < its2.length := by simpa using h2
      obtain ⟨x, hx, rx⟩ := r1.at_of h1'
      obtain ⟨y, hy, ry⟩ := r2.at_of h2'
      have := ih j x y hx hy (A := A.in1) rx ry (by show A.in1.units + n < cLine; simp; omega)
      simpa using this
end
section
variable {X : Cx}
theorem op_eqDL (hu : X.A.units + 64 < cLine) : OpR X (compareOp .Eq) (fun x y H Q => ∃ a b xs ys n, x = .ref a ∧ y = .ref b ∧ SqL X.K H a xs ∧ SqL X.K H b ys ∧ xs.length = ys.length ∧ (∀ (j : Nat) (x y : V), xs[j]? = some x → ys[j]? = some y → Dq X.K H n x y) ∧ n ≤ 60 ∧ Q (.bl true) H) := by
  intro pins s σ H x y v u Q I rx ry h
  obtain ⟨a, b, xs, ys, n, rfl, rfl, ha, hb, hl, dq, hn, q⟩ := h
  cases rx
  cases ry
  obtain ⟨its, r1, p1, _⟩ := I.list ha
  obtain ⟨its2, r2, p2, _⟩ := I.list hb
  have l1 := r1.length
  have l2 := r2.length
  refine SeqAt.RcAt.lists (e := fun _ => true) p1.isList p2.isList (by rw [List.size_toArray, List.size_toArray, ← l1, ← l2, hl]) (by omega) (fun j h1 h2 => ?_) X.prog X.w X.xe _ ?_
  · have h1' : j < its.length := by simpa using h1
    have h2' : j < its2.length := by simpa using h2
    obtain ⟨x, hx, rx⟩ := r1.at_of h1'
    obtain ⟨y, hy, ry⟩ := r2.at_of h2'
    have := (dq j x y hx hy).eqAt I (A := X.A.in1) rx ry (by show X.A.in1.units + n < cLine; simp; omega)
    simpa using this
  · have e : (List.range its.toArray.size).all (fun _ => true) = true := by
      simp
    rw [e]
    exact ⟨.bl true, H, I, rfl, q⟩
theorem op_neDL (hu : X.A.units + 64 < cLine) : OpR X (compareOp .NotEq) (fun x y H Q => ∃ a b xs ys n, x = .ref a ∧ y = .ref b ∧ SqL X.K H a xs ∧ SqL X.K H b ys ∧ xs.length = ys.length ∧ (∀ (j : Nat) (x y : V), xs[j]? = some x → ys[j]? = some y → Dq X.K H n x y) ∧ n ≤ 60 ∧ Q (.bl false) H) := by
  intro pins s σ H x y v u Q I rx ry h
  obtain ⟨a, b, xs, ys, n, rfl, rfl, ha, hb, hl, dq, hn, q⟩ := h
  cases rx
  cases ry
  obtain ⟨its, r1, p1, _⟩ := I.list ha
  obtain ⟨its2, r2, p2, _⟩ := I.list hb
  have l1 := r1.length
  have l2 := r2.length
  refine SeqAt.RcNeAt.lists (e := fun _ => true) p1.isList p2.isList (by rw [List.size_toArray, List.size_toArray, ← l1, ← l2, hl]) (by omega) (fun j h1 h2 => ?_) X.prog X.w X.xe _ ?_
  · have h1' : j < its.length := by simpa using h1
    have h2' : j < its2.length := by simpa using h2
    obtain ⟨x, hx, rx⟩ := r1.at_of h1'
    obtain ⟨y, hy, ry⟩ := r2.at_of h2'
    have := (dq j x y hx hy).eqAt I (A := X.A.in1) rx ry (by show X.A.in1.units + n < cLine; simp; omega)
    simpa using this
  · have e : (!(List.range its.toArray.size).all (fun _ => true)) = false := by
      simp
    rw [e]
    exact ⟨.bl false, H, I, rfl, q⟩
theorem op_eqDT (hu : X.A.units + 64 < cLine) : OpR X (compareOp .Eq) (fun x y H Q => ∃ a b xs ys n, x = .ref a ∧ y = .ref b ∧ SqT X.K H a xs ∧ SqT X.K H b ys ∧ xs.length = ys.length ∧ (∀ (j : Nat) (x y : V), xs[j]? = some x → ys[j]? = some y → Dq X.K H n x y) ∧ n ≤ 60 ∧ Q (.bl true) H) := by
  intro pins s σ H x y v u Q I rx ry h
  obtain ⟨a, b, xs, ys, n, rfl, rfl, ha, hb, hl, dq, hn, q⟩ := h
  cases rx
  cases ry
  obtain ⟨its, r1, p1, _⟩ := I.tuple ha
  obtain ⟨its2, r2, p2, _⟩ := I.tuple hb
  have l1 := r1.length
  have l2 := r2.length
  refine SeqAt.RcAt.tuples (e := fun _ => true) p1 p2 (by omega) (fun j h1 h2 => ?_) X.prog X.w X.xe _ ?_
  · have h1' : j < its.length := by simpa using h1
    have h2' : j < its2.length := by simpa using h2
    obtain ⟨x, hx, rx⟩ := r1.at_of h1'
    obtain ⟨y, hy, ry⟩ := r2.at_of h2'
    have := (dq j x y hx hy).eqAt I (A := X.A.in1) rx ry (by show X.A.in1.units + n < cLine; simp; omega)
    simpa using this
  · have e : ((List.range (min its.toArray.size its2.toArray.size)).all (fun _ => true) && its.toArray.size == its2.toArray.size) = true := by
      rw [List.size_toArray, List.size_toArray, ← l1, ← l2, hl]; simp
    rw [e]
    exact ⟨.bl true, H, I, rfl, q⟩
theorem op_neDT (hu : X.A.units + 64 < cLine) : OpR X (compareOp .NotEq) (fun x y H Q => ∃ a b xs ys n, x = .ref a ∧ y = .ref b ∧ SqT X.K H a xs ∧ SqT X.K H b ys ∧ xs.length = ys.length ∧ (∀ (j : Nat) (x y : V), xs[j]? = some x → ys[j]? = some y → Dq X.K H n x y) ∧ n ≤ 60 ∧ Q (.bl false) H) := by
  intro pins s σ H x y v u Q I rx ry h
  obtain ⟨a, b, xs, ys, n, rfl, rfl, ha, hb, hl, dq, hn, q⟩ := h
  cases rx
  cases ry
  obtain ⟨its, r1, p1, _⟩ := I.tuple ha
  obtain ⟨its2, r2, p2, _⟩ := I.tuple hb
  have l1 := r1.length
  have l2 := r2.length
  refine SeqAt.RcNeAt.tuples (e := fun _ => true) p1 p2 (by omega) (fun j h1 h2 => ?_) X.prog X.w X.xe _ ?_
  · have h1' : j < its.length := by simpa using h1
    have h2' : j < its2.length := by simpa using h2
    obtain ⟨x, hx, rx⟩ := r1.at_of h1'
    obtain ⟨y, hy, ry⟩ := r2.at_of h2'
    have := (dq j x y hx hy).eqAt I (A := X.A.in1) rx ry (by show X.A.in1.units + n < cLine; simp; omega)
    simpa using this
  · have e : (!((List.range (min its.toArray.size its2.toArray.size)).all (fun _ => true) && its.toArray.size == its2.toArray.size)) = false := by
      rw [List.size_toArray, List.size_toArray, ← l1, ← l2, hl]; simp
    rw [e]
    exact ⟨.bl false, H, I, rfl, q⟩
end
end L2

namespace L2
open PySem
section
variable {X : Cx}
/-! a tuple that begins with a text, held against a tuple of one text -/
theorem op_ne1 (hu : X.A.units + 64 < cLine) : OpR X (compareOp .NotEq) (fun x y H Q => ∃ (a b : Addr) (p z : Str) (xs : List V), x = .ref a ∧ y = .ref b ∧ SqT X.K H a (.str p :: xs) ∧ SqT X.K H b [.str z] ∧ Q (.bl (!(decide (p = z) && xs.isEmpty))) H) := by
  intro pins s σ H x y v u Q I rx ry h
  obtain ⟨a, b, p, z, xs, rfl, rfl, ha, hb, q⟩ := h
  cases rx
  cases ry
  obtain ⟨its, r1, p1, _⟩ := I.tuple ha
  obtain ⟨its2, r2, p2, _⟩ := I.tuple hb
  have l1 := r1.length
  have l2 := r2.length
  refine SeqAt.RcNeAt.tuples (e := fun _ => decide (p = z)) p1 p2 (by omega) (fun j h1 h2 => ?_) X.prog X.w X.xe _ ?_
  · have h1' : j < its.length := by simpa using h1
    have h2' : j < its2.length := by simpa using h2
    have hj : j = 0 := by
      rw [← l2] at h2'
      have : j < 1 := h2'
      omega
    subst hj
    obtain ⟨x, hx, rx⟩ := r1.at_of h1'
    obtain ⟨y, hy, ry⟩ := r2.at_of h2'
    cases hx
    cases hy
    have := eqAt_V (A := X.A.in1) (s := s) rx ry rfl rfl
    have e : eqV (.str p) (.str z) = decide (p = z) := by
      show (p == z) = _
      rw [Bool.eq_iff_iff]
      simp
    rw [e] at this
    simpa using this
  · have e : (!((List.range (min its.toArray.size its2.toArray.size)).all (fun _ => decide (p = z)) && its.toArray.size == its2.toArray.size)) = !(decide (p = z) && xs.isEmpty) := by
      rw [List.size_toArray, List.size_toArray, ← l1, ← l2]
      have e1 : min (V.str p :: xs).length [V.str z].length = 1 := by
        show min (xs.length + 1) 1 = 1
        omega
      rw [e1]
      congr 1
      cases xs with
      | nil => simp
      | cons x xs => simp
    rw [e]
    exact ⟨.bl (!(decide (p = z) && xs.isEmpty)), H, I, rfl, q⟩
end
end L2

namespace Wds
open PySem L2
/-! words -/
abbrev alpha : Str := "abcdefghijklmnopqrstuvwxyz"
def inA (c : Nat) : Bool := !(Builtin.Str.occurrences alpha ⟨#[c]⟩ 0 alpha.length 1).isEmpty
def isW (z : Str) : Bool := (decide ((1 : Int) ≤ (z.length : Int)) && decide ((z.length : Int) ≤ 12)) && (z.cps.toList.map inA).all id
def spWord : Sp := fun vs H Q _ => ∃ z : Str, vs = [.str z] ∧ z.length ≤ 1000 ∧ ∀ H' : Hp, Same H H' → Q (.bl (isW z)) H'
theorem isW_len {z : Str} (h : z.length = 0 ∨ 12 < z.length) : isW z = false := by
  unfold isW
  have : (decide ((1 : Int) ≤ (z.length : Int)) && decide ((z.length : Int) ≤ 12)) = false := by
    rcases h with h | h
    · rw [decide_eq_false (by omega : ¬ (1 : Int) ≤ (z.length : Int)), Bool.false_and]
    · rw [decide_eq_false (by omega : ¬ (z.length : Int) ≤ 12), Bool.and_false]
  rw [this, Bool.false_and]
theorem isW_bad {z : Str} {i c : Nat} (h : z.cps[i]? = some c) (b : inA c = false) : isW z = false := by
  unfold isW
  have : (z.cps.toList.map inA).all id = false := by
    rw [List.all_eq_false]
    refine ⟨false, ?_, by decide⟩
    rw [List.mem_map]
    exact ⟨c, List.mem_of_getElem? (by rw [Array.getElem?_toList]; exact h), b⟩
  rw [this, Bool.and_false]
theorem isW_good {z : Str} (h0 : z.length ≠ 0) (h1 : z.length ≤ 12) (h : ∀ (i c : Nat), z.cps[i]? = some c → inA c = true) : isW z = true := by
  unfold isW
  rw [decide_eq_true (by omega : (1 : Int) ≤ (z.length : Int)), decide_eq_true (by omega : (z.length : Int) ≤ 12), Bool.true_and, Bool.true_and, List.all_eq_true]
  intro b hb
  rw [List.mem_map] at hb
  obtain ⟨c, hc, e⟩ := hb
  obtain ⟨i, hi⟩ := List.getElem?_of_mem hc
  rw [Array.getElem?_toList] at hi
  rw [← e]
  exact h i c hi
end Wds

namespace Dds
open PySem L2 Gds
/-! deeds as a datum of our own -/
inductive Dd where
  | say (w : Str)
  | set (b n : Int)
  | add (b n : Int)
  | send (e : Int)
inductive DdIn (H : Hp) : V → Dd → Prop where
  | say {a : Addr} {w : Str} : H a = some (.tup [.str "say", .str w]) → DdIn H (.ref a) (.say w)
  | set {a : Addr} {b n : Int} : H a = some (.tup [.str "set", .int b, .int n]) → DdIn H (.ref a) (.set b n)
  | add {a : Addr} {b n : Int} : H a = some (.tup [.str "add", .int b, .int n]) → DdIn H (.ref a) (.add b n)
  | send {a : Addr} {e : Int} : H a = some (.tup [.str "send", .int e]) → DdIn H (.ref a) (.send e)
theorem DdIn.mono {H H' : Hp} {v : V} {d : Dd} (x : DdIn H v d) (k : KeepT H H') : DdIn H' v d := by
  cases x with
  | say e => exact .say (k _ _ e)
  | set e => exact .set (k _ _ e)
  | add e => exact .add (k _ _ e)
  | send e => exact .send (k _ _ e)
/-- what the boxes hold behind the deed -/
def Dd.upd (sz bx : List Int) : Dd → List Int
  | .set b n => bx.set b.toNat n
  | .add b n => bx.set b.toNat ((at0 bx b + n) % at0 sz b)
  | _ => bx
def Dd.box : Dd → Option Int
  | .set b _ => some b
  | .add b _ => some b
  | _ => none
def Dd.ok (nb : Nat) (d : Dd) : Prop := ∀ b, d.box = some b → 0 ≤ b ∧ b < (nb : Int)
theorem Dd.upd_len (sz bx : List Int) (d : Dd) : (d.upd sz bx).length = bx.length := by
  cases d <;> simp [Dd.upd]
theorem at0_nat (xs : List Int) (k : Nat) : at0 xs ((k : Nat) : Int) = xs.getD k 0 := by
  unfold at0
  rw [Int.toNat_natCast]
theorem at0_set {xs : List Int} {b n : Int} (h0 : 0 ≤ b) (h1 : b < (xs.length : Int)) : at0 (xs.set b.toNat n) b = n := by
  unfold at0
  have hk : b.toNat < xs.length := by omega
  rw [List.getD_eq_getElem?_getD, List.getElem?_set_self hk]
  rfl
theorem at0_set_ne {xs : List Int} {b k n : Int} (h : k ≠ b) (h0 : 0 ≤ b) (hk : 0 ≤ k) : at0 (xs.set b.toNat n) k = at0 xs k := by
  unfold at0
  rw [List.getD_eq_getElem?_getD, List.getD_eq_getElem?_getD, List.getElem?_set_ne (by omega)]
theorem Dd.upd_other {sz bx : List Int} {d : Dd} {k : Int} (ok : d.ok bx.length) (hk : 0 ≤ k) (h : d.box ≠ some k) : at0 (d.upd sz bx) k = at0 bx k := by
  cases d with
  | say w => rfl
  | send e => rfl
  | set b n => exact at0_set_ne (fun z => h (by rw [z]; rfl)) (ok b rfl).1 hk
  | add b n => exact at0_set_ne (fun z => h (by rw [z]; rfl)) (ok b rfl).1 hk
theorem at0_mem {xs : List Int} {b : Int} (h0 : 0 ≤ b) (h1 : b < (xs.length : Int)) : at0 xs b ∈ xs := by
  unfold at0
  have hk : b.toNat < xs.length := by omega
  rw [List.getD_eq_getElem?_getD, List.getElem?_eq_getElem hk]
  exact List.getElem_mem hk
def spChanged : Sp := fun vs H Q _ => ∃ (vd : V) (tb ts : Addr) (d : Dd) (bx sz : List Int), vs = [vd, .ref tb, .ref ts] ∧ DdIn H vd d ∧ H tb = some (.tup (bx.map V.int)) ∧ H ts = some (.tup (sz.map V.int)) ∧ d.ok bx.length ∧ bx.length = sz.length ∧ bx.length ≤ 6 ∧ (∀ z ∈ sz, 0 < z) ∧
  ∀ (t : Addr) (H' : Hp), Same H H' → H' t = some (.tup ((d.upd sz bx).map V.int)) → Q (.ref t) H'
end Dds

namespace Cht
open PySem L2 Gds Dds Wds
/-! charts as data of our own, and their faults by point 12 -/
inductive All2 {α : Type} (R : V → α → Prop) : List V → List α → Prop where
  | nil : All2 R [] []
  | cons {v : V} {x : α} {vs : List V} {xs : List α} : R v x → All2 R vs xs → All2 R (v :: vs) (x :: xs)
theorem All2.imp {α : Type} {R R' : V → α → Prop} {vs : List V} {xs : List α} (x : All2 R vs xs) (k : ∀ v a, R v a → R' v a) : All2 R' vs xs := by
  induction x with
  | nil => exact .nil
  | cons h _ ih => exact .cons (k _ _ h) ih
theorem All2.length {α : Type} {R : V → α → Prop} {vs : List V} {xs : List α} (x : All2 R vs xs) : vs.length = xs.length := by
  induction x with
  | nil => rfl
  | cons _ _ ih => rw [List.length_cons, List.length_cons, ih]
theorem All2.append {α : Type} {R : V → α → Prop} {vs us : List V} {xs ys : List α} (x : All2 R vs xs) (y : All2 R us ys) : All2 R (vs ++ us) (xs ++ ys) := by
  induction x with
  | nil => exact y
  | cons h _ ih => exact .cons h ih
theorem All2.snoc {α : Type} {R : V → α → Prop} {vs : List V} {xs : List α} {v : V} {a : α} (x : All2 R vs xs) (y : R v a) : All2 R (vs ++ [v]) (xs ++ [a]) := x.append (.cons y .nil)
theorem All2.get {α : Type} {R : V → α → Prop} {vs : List V} {xs : List α} (x : All2 R vs xs) : ∀ {k : Nat} {a : α}, xs[k]? = some a → ∃ v, vs[k]? = some v ∧ R v a := by
  induction x with
  | nil => intro k a h; simp at h
  | cons h _ ih =>
    intro k a e
    cases k with
    | zero =>
      simp at e
      subst e
      exact ⟨_, rfl, h⟩
    | succ k => exact ih (by simpa using e)
theorem All2.take {α : Type} {R : V → α → Prop} {vs : List V} {xs : List α} (x : All2 R vs xs) : ∀ k : Nat, All2 R (vs.take k) (xs.take k) := by
  induction x with
  | nil => intro k; rw [List.take_nil, List.take_nil]; exact .nil
  | cons h _ ih =>
    intro k
    cases k with
    | zero => exact .nil
    | succ k => exact .cons h (ih k)
/-- a fault: a text and a number -/
abbrev Ft := Str × Int
def FtIn (H : Hp) (v : V) (f : Ft) : Prop := ∃ a : Addr, v = .ref a ∧ H a = some (.tup [.str f.1, .int f.2])
abbrev FtsIn (H : Hp) : List V → List Ft → Prop := All2 (FtIn H)
theorem FtsIn.mono {H H' : Hp} {vs : List V} {fs : List Ft} (x : FtsIn H vs fs) (k : KeepT H H') : FtsIn H' vs fs := x.imp fun _ _ ⟨a, e, h⟩ => ⟨a, e, k _ _ h⟩
structure Bx where
  nm : Str
  size : Int
  start : Int
def BxIn (H : Hp) (v : V) (b : Bx) : Prop := ∃ a : Addr, v = .ref a ∧ H a = some (.tup [.str b.nm, .int b.size, .int b.start])
abbrev BxsIn (H : Hp) : List V → List Bx → Prop := All2 (BxIn H)
theorem BxsIn.mono {H H' : Hp} {vs : List V} {bs : List Bx} (x : BxsIn H vs bs) (k : KeepT H H') : BxsIn H' vs bs := x.imp fun _ _ ⟨a, e, h⟩ => ⟨a, e, k _ _ h⟩
structure Ro where
  nm : Str
  kind : Str
  depth : Int
  keeps : Str
  lamp : Str
  ins : List Dd
  outs : List Dd
def DtIn (H : Hp) (v : V) (ds : List Dd) : Prop := ∃ (a : Addr) (dv : List V), v = .ref a ∧ H a = some (.tup dv) ∧ All2 (DdIn H) dv ds
theorem DtIn.mono {H H' : Hp} {v : V} {ds : List Dd} (x : DtIn H v ds) (k : KeepT H H') : DtIn H' v ds := by
  obtain ⟨a, dv, e, h, y⟩ := x
  exact ⟨a, dv, e, k _ _ h, y.imp fun _ _ z => z.mono k⟩
def RoIn (H : Hp) (v : V) (r : Ro) : Prop := ∃ (a : Addr) (vi vo : V), v = .ref a ∧ H a = some (.tup [.str r.nm, .str r.kind, .int r.depth, .str r.keeps, .str r.lamp, vi, vo]) ∧ DtIn H vi r.ins ∧ DtIn H vo r.outs
abbrev RosIn (H : Hp) : List V → List Ro → Prop := All2 (RoIn H)
theorem RosIn.mono {H H' : Hp} {vs : List V} {rs : List Ro} (x : RosIn H vs rs) (k : KeepT H H') : RosIn H' vs rs := x.imp fun _ _ ⟨a, vi, vo, e, h, y, z⟩ => ⟨a, vi, vo, e, k _ _ h, y.mono k, z.mono k⟩
structure Dr where
  room : Int
  event : Int
  guard : Gd
  deeds : List Dd
  way : Str
  goal : Option Int
def gv : Option Int → V
  | none => .non
  | some i => .int i
def DrIn (H : Hp) (v : V) (d : Dr) : Prop := ∃ (a : Addr) (vg vd : V), v = .ref a ∧ H a = some (.tup [.int d.room, .int d.event, vg, vd, .str d.way, gv d.goal]) ∧ GdIn H vg d.guard ∧ DtIn H vd d.deeds
abbrev DrsIn (H : Hp) : List V → List Dr → Prop := All2 (DrIn H)
theorem DrsIn.mono {H H' : Hp} {vs : List V} {ds : List Dr} (x : DrsIn H vs ds) (k : KeepT H H') : DrsIn H' vs ds := x.imp fun _ _ ⟨a, vi, vo, e, h, y, z⟩ => ⟨a, vi, vo, e, k _ _ h, y.mono k, z.mono k⟩
structure Ch where
  order : Str
  letters : Int
  turns : Int
  bxs : List Bx
  evs : List Str
  rooms : List Ro
  doors : List Dr
/-- the chart's tuple -/
def ChIn (H : Hp) (t : Addr) (c : Ch) : Prop := ∃ (tb te tr td : Addr) (bv rv dv : List V), H t = some (.tup [.str c.order, .int c.letters, .int c.turns, .ref tb, .ref te, .ref tr, .ref td]) ∧ H tb = some (.tup bv) ∧ BxsIn H bv c.bxs ∧ H te = some (.tup (c.evs.map V.str)) ∧ H tr = some (.tup rv) ∧ RosIn H rv c.rooms ∧ H td = some (.tup dv) ∧ DrsIn H dv c.doors
theorem ChIn.mono {H H' : Hp} {t : Addr} {c : Ch} (x : ChIn H t c) (k : KeepT H H') : ChIn H' t c := by
  obtain ⟨tb, te, tr, td, bv, rv, dv, a1, a2, a3, a4, a5, a6, a7, a8⟩ := x
  exact ⟨tb, te, tr, td, bv, rv, dv, k _ _ a1, k _ _ a2, BxsIn.mono a3 k, k _ _ a4, k _ _ a5, RosIn.mono a6 k, k _ _ a7, DrsIn.mono a8 k⟩
/-! the faults -/
abbrev big : Int := 10 ^ 30
def within (lo hi n : Int) : Bool := decide (lo ≤ n) && decide (n ≤ hi)
def numOf (n : Nat) (i : Int) : Bool := decide (0 ≤ i) && decide (i < (n : Int))
def marks (nm : Str) (n : Nat) (bad : Nat → Bool) : List Ft := ((List.range n).filter bad).map fun k : Nat => (nm, (k : Int))
theorem marks_succ (nm : Str) (n : Nat) (bad : Nat → Bool) : marks nm (n + 1) bad = marks nm n bad ++ (if bad n then [(nm, (n : Int))] else []) := by
  unfold marks
  rw [List.range_succ, List.filter_append, List.map_append]
  by_cases h : bad n
  · simp [h]
  · simp [h]
theorem marks_len (nm : Str) (n : Nat) (bad : Nat → Bool) : (marks nm n bad).length ≤ n := by
  unfold marks
  rw [List.length_map]
  have := List.length_filter_le bad (List.range n)
  rw [List.length_range] at this
  exact this
def one (nm : Str) (bad : Bool) : List Ft := if bad then [(nm, 0)] else []
def badDeed (bs : List Bx) (ne : Nat) : Dd → Bool
  | .say w => !isW w
  | .send e => !numOf ne e
  | .set b n => !numOf bs.length b || !(decide (0 ≤ n) && decide (n < (bs.map (·.size)).getD b.toNat 0))
  | .add b n => !numOf bs.length b || !within (-big) big n
def badDeeds (bs : List Bx) (ne : Nat) (ds : List Dd) : Bool := decide (8 < ds.length) || ds.any (badDeed bs ne)
def badBx (bs : List Bx) (k : Nat) : Bool := match bs[k]? with
  | none => false
  | some b => !isW b.nm || ((bs.take k).map (·.nm)).contains b.nm || !within 1 big b.size || !(decide (0 ≤ b.start) && decide (b.start < b.size))
def badEv (es : List Str) (k : Nat) : Bool := match es[k]? with
  | none => false
  | some e => !isW e || (es.take k).contains e
def deeper (rs : List Ro) (k : Nat) (d : Int) : Bool := match rs[k + 1]? with
  | none => false
  | some r => decide (d < r.depth)
def badShape (rs : List Ro) (k : Nat) (r : Ro) : Bool :=
  !([("plain" : Str), "one", "all"].contains r.kind) || (deeper rs k r.depth == decide (r.kind = "plain")) ||
  (if k = 0 then decide (r.depth ≠ 0) else !within 1 (min 12 ((rs.map (·.depth)).getD (k - 1) 0 + 1)) r.depth)
def badKeeps (r : Ro) : Bool := !([("" : Str), "near", "deep"].contains r.keeps) || (decide (r.keeps = "near") && !decide (r.kind = "one")) || (decide (r.keeps = "deep") && decide (r.kind = "plain"))
def badRo (bs : List Bx) (ne : Nat) (rs : List Ro) (k : Nat) : Bool := match rs[k]? with
  | none => false
  | some r => !isW r.nm || ((rs.take k).map (·.nm)).contains r.nm || badShape rs k r || badKeeps r || (!decide (r.lamp = "") && !isW r.lamp) || badDeeds bs ne r.ins || badDeeds bs ne r.outs
def badGd (nb nr : Nat) : Gd → Bool
  | .yes => false
  | .is b n => !numOf nb b || !within (-big) big n
  | .under b n => !numOf nb b || !within (-big) big n
  | .inn r => !numOf nr r
  | .neg g => badGd nb nr g
  | .both g h => badGd nb nr g || badGd nb nr h
  | .either g h => badGd nb nr g || badGd nb nr h
def badWay (rs : List Ro) (way : Str) (goal : Option Int) : Bool :=
  if way = "stay" then goal.isSome else
  if way = "to" then (match goal with | none => true | some g => !numOf rs.length g) else
  if way = "back" then (match goal with | none => true | some g => !numOf rs.length g || decide ((rs.map (·.keeps)).getD g.toNat ("" : Str) = ("" : Str))) else true
def badDr (bs : List Bx) (ne : Nat) (rs : List Ro) (d : Dr) : Bool := !numOf rs.length d.room || !numOf ne d.event || decide (6 < d.guard.ht) || badGd bs.length rs.length d.guard || badDeeds bs ne d.deeds || badWay rs d.way d.goal
def badDrAt (bs : List Bx) (ne : Nat) (rs : List Ro) (ds : List Dr) (k : Nat) : Bool := match ds[k]? with
  | none => false
  | some d => badDr bs ne rs d
/-- the faults in the order of point 12 -/
def faultsOf (c : Ch) : List Ft :=
  one "order" (!([("inner" : Str), "outer"].contains c.order)) ++ one "letters" (!within 0 12 c.letters) ++ one "turns" (!within 1 20 c.turns) ++ one "boxes" (decide (6 < c.bxs.length)) ++ marks "box" c.bxs.length (badBx c.bxs) ++
  one "events" (decide (8 < c.evs.length)) ++ marks "event" c.evs.length (badEv c.evs) ++ one "rooms" (decide (c.rooms.length = 0) || decide (40 < c.rooms.length)) ++ marks "room" c.rooms.length (badRo c.bxs c.evs.length c.rooms) ++
  one "doors" (decide (60 < c.doors.length)) ++ marks "door" c.doors.length (badDrAt c.bxs c.evs.length c.rooms c.doors)
/-- how big the texts and lists are that the laws hand in -/
structure Small (c : Ch) : Prop where
  order : c.order.length ≤ 1000
  bxs : c.bxs.length ≤ 60
  bnm : ∀ b ∈ c.bxs, b.nm.length ≤ 1000
  evs : c.evs.length ≤ 60
  enm : ∀ e ∈ c.evs, e.length ≤ 1000
  rooms : c.rooms.length ≤ 60
  rnm : ∀ r ∈ c.rooms, r.nm.length ≤ 1000 ∧ r.kind.length ≤ 1000 ∧ r.keeps.length ≤ 1000 ∧ r.lamp.length ≤ 1000
  rdd : ∀ r ∈ c.rooms, r.ins.length ≤ 60 ∧ r.outs.length ≤ 60 ∧ ∀ d ∈ r.ins ++ r.outs, ∀ z, d = .say z → z.length ≤ 1000
  doors : c.doors.length ≤ 100
  ddd : ∀ d ∈ c.doors, d.deeds.length ≤ 60 ∧ d.guard.ht ≤ 20 ∧ d.way.length ≤ 1000 ∧ ∀ e ∈ d.deeds, ∀ z, e = .say z → z.length ≤ 1000
def spFaults : Sp := fun vs H Q _ => ∃ (t : Addr) (c : Ch), vs = [.ref t] ∧ ChIn H t c ∧ Small c ∧ ∀ (p : Addr) (fv : List V) (H' : Hp), Same H H' → H p = none → H' p = some (.lst fv) → FtsIn H' fv (faultsOf c) → Q (.ref p) H'
end Cht

namespace Cht
open PySem L2 Gds Dds Wds
/-- tuples by their first texts -/
def FsIn (H : Hp) (v : V) (z : Str) : Prop := ∃ (b : Addr) (tl : List V), v = .ref b ∧ H b = some (.tup (.str z :: tl))
theorem BxsIn.fst {H : Hp} {vs : List V} {bs : List Bx} (x : BxsIn H vs bs) : All2 (FsIn H) vs (bs.map (·.nm)) := by
  induction x with
  | nil => exact .nil
  | cons h _ ih =>
    obtain ⟨a, e, h⟩ := h
    exact .cons ⟨a, _, e, h⟩ ih
theorem RosIn.fst {H : Hp} {vs : List V} {rs : List Ro} (x : RosIn H vs rs) : All2 (FsIn H) vs (rs.map (·.nm)) := by
  induction x with
  | nil => exact .nil
  | cons h _ ih =>
    obtain ⟨a, vi, vo, e, h, _⟩ := h
    exact .cons ⟨a, _, e, h⟩ ih
/-- [x[0] for x in xs] -/
theorem comp_fst {K : PySem.W.Frag} {a : Addr} {xs : List V} {zs : List Str} {cs : St} {te : TE} {H1 : Hp} {Z : List V → Hp → Prop} (hx : SqT K H1 a xs) (hz : All2 (FsIn H1) xs zs) (hl : zs.length ≤ 1000)
    (hte : ∀ (b : Addr) (tl : List V) (z : Str), H1 b = some (.tup (.str z :: tl)) → ∀ Q : VK, Q (.str z) H1 → te (some (.ref b) :: cs) H1 Q) (q : Z (zs.map V.str) H1) : tCompW (Itt K a) cs tYes te H1 Z := by
  have hxl := hz.length
  refine comp_tup (K := K) (a := a) (xs := xs) (fun i acc H' => H' = H1 ∧ acc = (zs.take i).map V.str) ⟨rfl, rfl⟩ (fun i acc H' ⟨e, _⟩ => by subst e; exact hx) (fun i x acc H' hi ⟨e1, e2⟩ => ?_) (fun acc H' ⟨e1, e2⟩ => ?_)
  · subst e1 e2
    have hi' : i < zs.length := by
      have := (List.getElem?_eq_some_iff.mp hi).1
      omega
    have ez : zs[i]? = some zs[i] := List.getElem?_eq_getElem hi'
    obtain ⟨v, hv, b, tl, rfl, hb⟩ := hz.get ez
    rw [hv] at hi
    cases hi
    show te _ _ _
    refine hte b tl _ hb _ ⟨small1000 (by rw [List.length_map, List.length_take]; omega), rfl, ?_⟩
    rw [List.take_add_one, ez, List.map_append]
    rfl
  · subst e1 e2
    rw [hxl, List.take_length]
    exact q
theorem All2.at {α : Type} {R : V → α → Prop} {vs : List V} {xs : List α} (x : All2 R vs xs) {k : Nat} (h : k < xs.length) : ∃ v, atI vs ((k : Nat) : Int) = some v ∧ R v xs[k] := by
  obtain ⟨v, h1, h2⟩ := x.get (List.getElem?_eq_getElem h)
  exact ⟨v, atI_nat h1, h2⟩
theorem atI_head {α : Type} {x : α} {xs : List α} : atI (x :: xs) 0 = some x := atI_nat (j := 0) rfl
theorem big_eq : (10 : Int) ^ (30 : Int).toNat = big := rfl
/-- how big charts are that the laws hand in, and of what sort their deeds and doors are -/
structure SmallP (ok : List Dd → Prop) (okd : Dr → Prop) (c : Ch) : Prop where
  order : c.order.length ≤ 1000
  bxs : c.bxs.length ≤ 60
  bnm : ∀ b ∈ c.bxs, b.nm.length ≤ 1000
  evs : c.evs.length ≤ 60
  enm : ∀ e ∈ c.evs, e.length ≤ 1000
  rooms : c.rooms.length ≤ 60
  rms : ∀ r ∈ c.rooms, ok r.ins ∧ ok r.outs ∧ r.nm.length ≤ 1000 ∧ r.kind.length ≤ 1000 ∧ r.keeps.length ≤ 1000 ∧ r.lamp.length ≤ 1000
  doors : c.doors.length ≤ 100
  drs : ∀ d ∈ c.doors, okd d
def spFaultsP (ok : List Dd → Prop) (okd : Dr → Prop) : Sp := fun vs H Q _ => ∃ (t : Addr) (c : Ch), vs = [.ref t] ∧ ChIn H t c ∧ SmallP ok okd c ∧ ∀ (p : Addr) (fv : List V) (H' : Hp), Same H H' → H p = none → H' p = some (.lst fv) → FtsIn H' fv (faultsOf c) → Q (.ref p) H'
/-! the faults as the program asks for them -/
def nameF (z : Str) (zs : List Str) : Bool := !isW z || zs.contains z
def boxF (b : Bx) (ahead : List Bx) : Bool := nameF b.nm (ahead.map (·.nm)) || (!within 1 big b.size || !(decide (0 ≤ b.start) && decide (b.start < b.size)))
def depthF (d : Int) (ahead : List Ro) : Bool := if ahead.length = 0 then decide (d ≠ 0) else (!within 1 ((ahead.map (·.depth)).getD (ahead.length - 1) 0 + 1) d || decide (12 < d))
def keepsF (keeps kind : Str) : Bool := if keeps = "near" then !decide (kind = "one") else if keeps = "deep" then !([("one" : Str), "all"].contains kind) else !decide (keeps = "")
def kidsF (r : Ro) (behind : List Ro) : Bool := match behind[0]? with
  | none => false
  | some r2 => decide (r.depth < r2.depth)
def endF (r : Ro) (behind : List Ro) : Bool := if r.kind = "plain" then kidsF r behind else !kidsF r behind
def roomF (bs : List Bx) (ne : Nat) (r : Ro) (ahead : List Ro) : Bool :=
  (nameF r.nm (ahead.map (·.nm)) || !([("plain" : Str), "one", "all"].contains r.kind)) || ((depthF r.depth ahead || keepsF r.keeps r.kind) || ((!decide (r.lamp = "") && !isW r.lamp) || (badDeeds bs ne r.ins || badDeeds bs ne r.outs)))
theorem boxF_eq {bs : List Bx} {k : Nat} {b : Bx} (h : bs[k]? = some b) : boxF b (bs.take k) = badBx bs k := by
  unfold badBx boxF nameF
  rw [h]
  show _ = (!isW b.nm || ((bs.take k).map (·.nm)).contains b.nm || !within 1 big b.size || !(decide (0 ≤ b.start) && decide (b.start < b.size)))
  simp only [Bool.or_assoc]
theorem nameF_ev {es : List Str} {k : Nat} {e : Str} (h : es[k]? = some e) : nameF e (es.take k) = badEv es k := by
  unfold badEv nameF
  rw [h]
theorem kidsF_eq {rs : List Ro} {k : Nat} (r : Ro) : kidsF r (rs.drop (k + 1)) = deeper rs k r.depth := by
  unfold kidsF deeper
  rw [List.getElem?_drop, Nat.add_zero]
  all_goals (cases rs[k + 1]? <;> rfl)
theorem endF_eq {rs : List Ro} {k : Nat} (r : Ro) : endF r (rs.drop (k + 1)) = (deeper rs k r.depth == decide (r.kind = "plain")) := by
  unfold endF
  rw [kidsF_eq]
  by_cases h : r.kind = "plain"
  · rw [if_pos h, decide_eq_true h]
    cases deeper rs k r.depth <;> rfl
  · rw [if_neg h, decide_eq_false h]
    cases deeper rs k r.depth <;> rfl
theorem depthF_eq {rs : List Ro} {k : Nat} {r : Ro} (h : rs[k]? = some r) : depthF r.depth (rs.take k) = (if k = 0 then decide (r.depth ≠ 0) else !within 1 (min 12 ((rs.map (·.depth)).getD (k - 1) 0 + 1)) r.depth) := by
  have hk : k < rs.length := (List.getElem?_eq_some_iff.mp h).1
  have hl : (rs.take k).length = k := by rw [List.length_take]; omega
  unfold depthF
  rw [hl]
  by_cases h0 : k = 0
  · rw [if_pos h0, if_pos h0]
  · rw [if_neg h0, if_neg h0]
    have e : ((rs.take k).map (·.depth)).getD (k - 1) 0 = (rs.map (·.depth)).getD (k - 1) 0 := by
      rw [List.getD_eq_getElem?_getD, List.getD_eq_getElem?_getD, List.map_take, List.getElem?_take, if_pos (by omega)]
    rw [e]
    unfold within
    rw [Bool.eq_iff_iff]
    simp only [Bool.or_eq_true, Bool.not_eq_true', Bool.and_eq_false_iff, decide_eq_true_iff, decide_eq_false_iff_not]
    omega
theorem str3 {k : Str} (h : [("plain" : Str), "one", "all"].contains k = true) : k = "plain" ∨ k = "one" ∨ k = "all" := by
  simpa using h
theorem keepsF_eq (r : Ro) (h : [("plain" : Str), "one", "all"].contains r.kind = true) : keepsF r.keeps r.kind = badKeeps r := by
  unfold keepsF badKeeps
  by_cases h1 : r.keeps = "near"
  · rw [if_pos h1, h1]
    have e1 : [("" : Str), "near", "deep"].contains ("near" : Str) = true := by decide +kernel
    have e2 : decide (("near" : Str) = "deep") = false := by decide +kernel
    rw [e1, e2, decide_eq_true (rfl : ("near" : Str) = "near")]
    simp
  · rw [if_neg h1, decide_eq_false h1]
    by_cases h2 : r.keeps = "deep"
    · rw [if_pos h2, h2]
      have e1 : [("" : Str), "near", "deep"].contains ("deep" : Str) = true := by decide +kernel
      rw [e1, decide_eq_true (rfl : ("deep" : Str) = "deep")]
      rcases str3 h with e | e | e <;> rw [e] <;> decide +kernel
    · rw [if_neg h2, decide_eq_false h2]
      by_cases h3 : r.keeps = ""
      · rw [h3]
        have e1 : [("" : Str), "near", "deep"].contains ("" : Str) = true := by decide +kernel
        rw [e1, decide_eq_true (rfl : ("" : Str) = "")]
        simp
      · have : [("" : Str), "near", "deep"].contains r.keeps = false := by
          rw [Bool.eq_false_iff]
          intro z
          have z' : r.keeps = "" ∨ r.keeps = "near" ∨ r.keeps = "deep" := by simpa using z
          rcases z' with z | z | z
          · exact h3 z
          · exact h1 z
          · exact h2 z
        rw [this, decide_eq_false h3]
        rfl
theorem roomF_eq (bs : List Bx) (ne : Nat) {rs : List Ro} {k : Nat} {r : Ro} (h : rs[k]? = some r) : (roomF bs ne r (rs.take k) || endF r (rs.drop (k + 1))) = badRo bs ne rs k := by
  unfold badRo roomF nameF
  rw [h, endF_eq, depthF_eq h]
  show _ = (!isW r.nm || ((rs.take k).map (·.nm)).contains r.nm || badShape rs k r || badKeeps r || (!decide (r.lamp = "") && !isW r.lamp) || badDeeds bs ne r.ins || badDeeds bs ne r.outs)
  unfold badShape
  generalize (if k = 0 then decide (r.depth ≠ 0) else !within 1 (min 12 ((rs.map (·.depth)).getD (k - 1) 0 + 1)) r.depth) = d
  generalize (deeper rs k r.depth == decide (r.kind = "plain")) = e
  generalize (!isW r.nm) = b1
  generalize ((rs.take k).map (·.nm)).contains r.nm = b2
  generalize (!decide (r.lamp = "") && !isW r.lamp) = b5
  generalize badDeeds bs ne r.ins = b6
  generalize badDeeds bs ne r.outs = b7
  cases hk : [("plain" : Str), "one", "all"].contains r.kind with
  | false => cases b1 <;> cases b2 <;> simp
  | true =>
    rw [keepsF_eq r hk]
    generalize badKeeps r = b3
    cases b1 <;> cases b2 <;> cases b3 <;> cases b5 <;> cases b6 <;> cases b7 <;> cases d <;> cases e <;> rfl
/-- the law's own list of faults so far, apart from what was there -/
structure DueS (H : Hp) (fs : List Ft) (H' : Hp) (pd : Addr) : Prop where
  same : Same H H'
  new : H pd = none
  ex : ∃ fv, H' pd = some (.lst fv) ∧ FtsIn H' fv fs
theorem DueS.app {H H' : Hp} {fs : List Ft} {pd t : Addr} {fv : List V} {nm : Str} {n : Int} (s : Same H H') (nw : H pd = none) (h : H' pd = some (.lst fv)) (r : FtsIn H' fv fs) (ht : H' t = none) :
    DueS H (fs ++ [(nm, n)]) (upd (upd H' t (.tup [.str nm, .int n])) pd (.lst (fv ++ [.ref t]))) pd := by
  have s1 := same_new ht (.tup [.str nm, .int n])
  have npt : pd ≠ t := ne_of_none h ht
  refine ⟨fun b o e => ?_, nw, _, upd_same, ?_⟩
  · rw [upd_ne (ne_of_none e nw)]
    exact s1 _ _ (s _ _ e)
  · have k : KeepT (upd H' t (.tup [.str nm, .int n])) (upd (upd H' t (.tup [.str nm, .int n])) pd (.lst (fv ++ [.ref t]))) := KeepT.lst (s1 _ _ h) _
    exact (FtsIn.mono (FtsIn.mono r (KeepT.of s1)) k).snoc ⟨t, rfl, k _ _ upd_same⟩
theorem DueS.keep {H H' H2 : Hp} {fs : List Ft} {pd : Addr} (d : DueS H fs H' pd) (s : Same H' H2) : DueS H fs H2 pd := by
  obtain ⟨s1, n, fv, h, r⟩ := d
  exact ⟨s1.trans s, n, fv, s _ _ h, FtsIn.mono r (KeepT.of s)⟩
theorem one_t (nm : Str) : one nm true = [(nm, 0)] := rfl
theorem one_f (nm : Str) : one nm false = [] := rfl
theorem one_len (nm : Str) (b : Bool) : (one nm b).length ≤ 1 := by
  cases b with
  | false => exact Nat.zero_le _
  | true => exact Nat.le_refl _
def okDs (okd : Dd → Prop) (ds : List Dd) : Prop := ds.length ≤ 60 ∧ ∀ d ∈ ds, okd d
theorem cutTo (xs : List V) {k : Nat} (h : k ≤ xs.length) : cutV xs none (some (k : Int)) = xs.take k := by
  unfold cutV
  rw [HT.sIx_none, HT.sIx_nat, List.drop_zero, Nat.sub_zero, Nat.min_eq_left h]
theorem cutFrom (xs : List V) {k : Nat} (h : k + 1 ≤ xs.length) : cutV xs (some ((k : Int) + 1)) none = xs.drop (k + 1) := by
  have e : (k : Int) + 1 = ((k + 1 : Nat) : Int) := by omega
  unfold cutV
  rw [e, HT.sIx_none, HT.sIx_nat, Nat.min_eq_left h, List.take_of_length_le (by rw [List.length_drop]; exact Nat.le_refl _)]
theorem All2.drop {α : Type} {R : V → α → Prop} {vs : List V} {xs : List α} (x : All2 R vs xs) : ∀ k : Nat, All2 R (vs.drop k) (xs.drop k) := by
  induction x with
  | nil => intro k; rw [List.drop_nil, List.drop_nil]; exact .nil
  | cons h t ih =>
    intro k
    cases k with
    | zero => exact .cons h t
    | succ k => exact ih k
end Cht

namespace L2
open PySem PySem.Spec PyProof.Rows
/-! ### exceptions that fly -/
/-- an exception flies out of a call: its class, the abstract heap behind it; B holds what lies still while it flies -/
def CX1 (P : Program) (w : World) : CXT := fun outer H s E e s' =>
  ∃ (ea : Addr) (cls a0 : Value) (H' : Hp) (B : Heap), e = .ref ea ∧ s'.os = s.os ∧ AllBare s'.gens ∧ Heap.FlyingW B outer ea cls a0 s'.heap ∧
    HOk P w H' s'.heap ∧ Un (frs outer) [] H H' s.heap s'.heap ∧ (∀ b, (H' b).isSome = true → ∃ o, s'.heap.get? b = some o ∧ B.get? b = some o) ∧
    (∀ b o, s.heap.get? b = some o → b ∉ frs outer → ∃ o', s'.heap.get? b = some o' ∧ B.get? b = some o') ∧ E cls none H'
section
variable {P : Program} {w : World} {H H' : Hp} {h h0 h1 h2 B : Heap} {a : Addr} {o : HO} {fs : List Addr}
theorem ObjOk.there (x : ObjOk P w H h a o) : ∃ ob, h.get? a = some ob := by
  cases o with
  | lst xs => obtain ⟨_, _, _, _, e⟩ := x; exact ⟨_, e⟩
  | tup xs => obtain ⟨_, _, _, ob, e, _⟩ := x; exact ⟨ob, e⟩
  | dK kvs => obtain ⟨_, _, _, _, ob, _, _, e, _⟩ := x; exact ⟨ob, e⟩
  | dT kvs => obtain ⟨_, _, _, _, ob, _, _, e, _⟩ := x; exact ⟨ob, e⟩
  | set S n => obtain ⟨ob, _, _, _, e, _⟩ := x; exact ⟨ob, e⟩
  | ins C dx fs => obtain ⟨_, _, _, e, _⟩ := x; exact ⟨_, e⟩
  | own y => exact x
  | xd fs => obtain ⟨_, ⟨ob, _, _, e, _⟩, _⟩ := x; exact ⟨ob, e⟩
  | rng lo hi => obtain ⟨_, _, _, e⟩ := x; exact ⟨_, e⟩
  | frz ob u => obtain ⟨e, _⟩ := x; exact ⟨_, e⟩
  | tbl ps => exact ⟨_, x⟩
  | met f y => exact ⟨_, x⟩
  | ext φ => obtain ⟨_, e, _⟩ := x; exact e
/-- what is tracked lies still -/
theorem HOk.flown (hok : HOk P w H h) (hB : ∀ b, (H b).isSome = true → ∃ ob, h.get? b = some ob ∧ B.get? b = some ob) (st : B.StaysIn h2) : HOk P w H h2 := fun a o e =>
  (hok a o e).stay (fun b u hb q => by
    have hs : (H b).isSome = true := by
      rcases hb with z | z
      · rw [z, e]; rfl
      · rw [z]; rfl
    obtain ⟨ob, e1, e2⟩ := hB b hs
    rw [q] at e1
    cases e1
    exact st b _ e2) (fun _ q => q) fun _ _ q => q
theorem Un.flown (un : Un fs [] H H' h0 h1) (hC : ∀ b ob, h0.get? b = some ob → b ∉ fs → ∃ o', h1.get? b = some o' ∧ B.get? b = some o') (st : B.StaysIn h2) (sl : h1.UpToSlots h2)
    (fr : ∀ b ∈ fs, H b = none ∧ ∃ ob, h0.get? b = some ob ∧ ∀ vs, ob.data ≠ .fields vs) : Un fs [] H H' h0 h2 := by
  have slot : ∀ b ob, h0.get? b = some ob → H b = none → b ∈ fs → ∃ sl, h2.get? b = some { ob with slots := sl } := fun b ob q n hb => by
    obtain ⟨_, o1, e1, nf⟩ := fr b hb
    rw [q] at e1
    cases e1
    obtain ⟨s1, e2⟩ := un.slot b ob q n hb (by simp)
    obtain ⟨s2, e3⟩ := sl b _ e2 nf
    exact ⟨s2, e3⟩
  refine ⟨fun b ob q n hb hx => ?_, fun b ob q n hb _ => slot b ob q n hb, fun b ob q n hx => un.free b ob q n hx, fun b ob q hx => ?_, un.tups, un.frzs, un.tbls⟩
  · obtain ⟨o', e1, e2⟩ := hC b ob q hb
    rw [un.keep b ob q n hb hx] at e1
    cases e1
    exact st b _ e2
  · by_cases hb : b ∈ fs
    · obtain ⟨s2, e⟩ := slot b ob q (fr b hb).1 hb
      exact ⟨_, e⟩
    · obtain ⟨o', _, e2⟩ := hC b ob q hb
      exact ⟨o', st b _ e2⟩
end
section
variable {P : Program} {w : World} {K : PySem.W.Frag} {mg : Str → Option Value} {base : Heap} {N : List Str} {qual : Str} {scope : Scope} {f : Addr} {cd : Value} {A : Around} {outer : List Env} {s : Shared} {H : Hp} {E E' : XK}
theorem frs_cons {env : Env} {L : Addr} {l : List Env} (h : env.frame = some L) : frs (env :: l) = L :: frs l := by
  unfold frs
  rw [List.filterMap_cons, h]
theorem Inv.frames {X : Cx} {pins : List (Addr × Obj)} {σ : St} {H : Hp} {s : Shared} (I : Inv X pins σ H s) : ∀ b ∈ frs X.stack, H b = none ∧ ∃ ob, s.heap.get? b = some ob ∧ ∀ vs, ob.data ≠ .fields vs :=
  fun b hb => ⟨I.stkFree b hb, let ⟨_, ob, e, nf⟩ := I.stack.mem hb; ⟨ob, e, nf⟩⟩
theorem Inv.outers {X : Cx} {pins : List (Addr × Obj)} {σ : St} {H : Hp} {s : Shared} (I : Inv X pins σ H s) : ∀ b ∈ frs X.outer, X.H₀ b = none ∧ ∃ ob, X.s₀.heap.get? b = some ob ∧ ∀ vs, ob.data ≠ .fields vs :=
  fun b hb => ⟨I.ok.frf b hb, let ⟨_, ob, e, nf⟩ := I.ok.funs.mem hb; ⟨ob, e, nf⟩⟩
/-- an exception of a callee passes on through this def's frame -/
theorem pass1 (hE : ∀ c d H, E' c d H → E c d H) : Passes (CX1 P w) (cxOf (CX1 P w) P w K mg base N qual scope f cd A outer s H E) E' := by
  intro pins σ H1 s1 e s' I h
  obtain ⟨ea, cls, a0, H', B, rfl, ho, hg, fl, hok, un, hB, hC, hq⟩ := h
  have nL : ∀ b ob, s.heap.get? b = some ob → b ≠ s.heap.objs.size := fun b ob q => Nat.ne_of_lt (Heap.lt_size q)
  have J := I.call' ho un hok hg (fun _ z => nomatch z)
  have ub : Un (frs outer) [] H H' s.heap s'.heap := J.base
  have hC0 : ∀ b ob, s.heap.get? b = some ob → b ∉ frs outer → ∃ o', s'.heap.get? b = some o' ∧ B.get? b = some o' := fun b ob q hb => by
    obtain ⟨o1, e1⟩ := I.base.there b ob q (by show b ∉ ([] : List Addr); simp)
    refine hC b o1 e1 fun z => ?_
    rw [show frs (cxOf (CX1 P w) P w K mg base N qual scope f cd A outer s H E).stack = s.heap.objs.size :: frs outer from frs_cons rfl] at z
    exact (List.mem_cons.mp z).elim (nL b ob q) hb
  show wpAny _ _ (leaving _ (.ref ea)) _ _ s'
  refine wpAny_leaves_onW (L := s.heap.objs.size) I.ok.frames rfl fl fun h' fl' sl => ?_
  refine ⟨ea, cls, a0, H', B, rfl, ho.trans I.os, hg, fl', hok.flown hB fl'.1, ub.flown hC0 fl'.1 sl I.outers, fun b hb => ?_, fun b ob q hb => ?_, hE _ _ _ hq⟩
  · obtain ⟨ob, _, e2⟩ := hB b hb
    exact ⟨ob, fl'.1 b _ e2, e2⟩
  · obtain ⟨o', _, e2⟩ := hC0 b ob q hb
    exact ⟨o', fl'.1 b _ e2, e2⟩
/-- an exception is raised in the body -/
def Flings (X : Cx) (E : XK) : Prop := ∀ (pins : List (Addr × Obj)) (σ : St) (H : Hp) (s : Shared) (e C : Addr) (us : List Value) (h' : Heap), Inv X pins σ H s → Heap.MadeExcOf s.heap h' e (.ref C) us → E (.ref C) none H → X.xe (.ref e) { s with heap := h' }
theorem fling1 : Flings (cxOf (CX1 P w) P w K mg base N qual scope f cd A outer s H E) E := by
  intro pins σ H1 s1 e C us h' I hm hq
  have es : frs (cxOf (CX1 P w) P w K mg base N qual scope f cd A outer s H E).stack = s.heap.objs.size :: frs outer := frs_cons rfl
  have hin : ∀ env ∈ (cxOf (CX1 P w) P w K mg base N qual scope f cd A outer s H E).stack, ∀ b, env.frame = some b → b ∈ frs (cxOf (CX1 P w) P w K mg base N qual scope f cd A outer s H E).stack :=
    fun env he b hb => List.mem_filterMap.mpr ⟨env, he, hb⟩
  have inB : ∀ b ob, s1.heap.get? b = some ob → b ∉ frs (cxOf (CX1 P w) P w K mg base N qual scope f cd A outer s H E).stack → (PySem.W.hideAll s1.heap (frs (cxOf (CX1 P w) P w K mg base N qual scope f cd A outer s H E).stack)).get? b = some ob := fun b ob q hb => PySem.W.hideAll_get _ q hb
  have hB : ∀ b, (H1 b).isSome = true → ∃ ob, s1.heap.get? b = some ob ∧ (PySem.W.hideAll s1.heap (frs (cxOf (CX1 P w) P w K mg base N qual scope f cd A outer s H E).stack)).get? b = some ob := fun b hb => by
    obtain ⟨u, hu⟩ := Option.isSome_iff_exists.mp hb
    obtain ⟨ob, q⟩ := (I.hok b u hu).there
    exact ⟨ob, q, inB b ob q fun z => by rw [I.stkFree b z] at hu; cases hu⟩
  have hC0 : ∀ b ob, s.heap.get? b = some ob → b ∉ frs outer → ∃ o', s1.heap.get? b = some o' ∧ (PySem.W.hideAll s1.heap (frs (cxOf (CX1 P w) P w K mg base N qual scope f cd A outer s H E).stack)).get? b = some o' := fun b ob q hb => by
    obtain ⟨o1, e1⟩ := I.base.there b ob q (by show b ∉ ([] : List Addr); simp)
    refine ⟨o1, e1, inB b o1 e1 fun z => ?_⟩
    rw [es] at z
    exact (List.mem_cons.mp z).elim (Nat.ne_of_lt (Heap.lt_size q)) hb
  have ub : Un (frs outer) [] H H1 s.heap s1.heap := I.base
  show wpAny _ _ (leaving _ (.ref e)) _ _ _
  refine wpAny_leaves_madeW (s := { s1 with heap := h' }) (L := s.heap.objs.size) I.ok.frames rfl (fun b ob q => PySem.W.of_hideAll _ q) (PySem.W.funFrames_hide I.stack hin) hm fun h2 t fl _ _ sl => ?_
  have sl' : s1.heap.UpToSlots h2 := (Heap.UpToSlots.of_keeps hm.keeps).trans sl
  refine ⟨e, .ref C, .ref t, H1, _, rfl, I.os, I.bare, fl, I.hok.flown hB fl.1, ub.flown hC0 fl.1 sl' I.outers, fun b hb => ?_, fun b ob q hb => ?_, hq⟩
  · obtain ⟨ob, _, e2⟩ := hB b hb
    exact ⟨ob, fl.1 b _ e2, e2⟩
  · obtain ⟨o', _, e2⟩ := hC0 b ob q hb
    exact ⟨o', fl.1 b _ e2, e2⟩
end
/-! ### raise -/
abbrev VB : List Value := [.type "ValueError", .type "Exception", .type "BaseException", .type "object"]
/-- an own class under ValueError that has no __init__ of its own -/
def ExcC (K : PySem.W.Frag) (C : Addr) : Prop := PySem.W.excIn K C VB "ValueError.__new__" = true
theorem ExcC.obj {K : PySem.W.Frag} {C : Addr} {h : Heap} (q : ExcC K C) (X : K.In h) : ∃ bm N nm qn bs hdct sn sub ab col dd k0 k1 k2 k3 k5 mN,
    h.get? C = some (excClassObj nm qn C N bs bm hdct sn sub ab col dd k0 k1 k2 k3 k5 "ValueError.__new__") ∧ h.Ns N mN ∧ mN "__init__" = none ∧ OwnTail h VB bm := by
  unfold ExcC PySem.W.excIn at q
  split at q
  · rename_i ddc cdc slc lk
    split at q
    · rename_i C1 bm k0 k1 k2 k3 n k5 em es
      simp only [Bool.and_eq_true, beq_iff_eq, Bool.not_eq_true'] at q
      obtain ⟨⟨⟨⟨⟨q1, q2⟩, q3⟩, q4⟩, q5⟩, q6⟩ := q
      subst q1 q2
      obtain ⟨nm, bs, mro, ns, qn, hd, sn, sub, ab, col, del⟩ := cdc
      simp only at em q3 q5 q6
      subst em q3
      obtain ⟨l⟩ := slc
      simp only at es
      subst es
      exact ⟨bm, ns, nm, qn, bs, hd, sn, sub, ab, col, ddc, k0, k1, k2, k3, k5, _, X _ _ lk, .of_isNs (PySem.W.isNs_of_in X q5), PySem.W.nsMap_none_of_in X q5 q6, PySem.W.tail_of_in X q4⟩
    · cases q
  · cases q
/-- raise C(..) -/
def tRaise (C : Addr) (E : XK) (t : TA) : TS := fun _ σ H => t σ H fun vs H1 => vs.length ≤ sizeLine ∧ E (.ref C) none H1
theorem ps_raise {X : Cx} {C : Addr} {x : Str} {np cpos pos : Pos} {e0 : Expr} {rest : List Expr} {t : TA} {E : XK} (hx : Flings X E) (hc : X.calm = true) (hg : Gl X x) (hm : X.mg x = some (.ref C)) (hC : ExcC X.K C) (ha : PA X (e0 :: rest) t)
    (hdb : (x == ("__debug__" : Str)) = false := by decide) (he : starEach (e0 :: rest) X.env = (false, eval e0 X.env) :: starEach rest X.env := by rfl) (hpl : (backTo cpos (starEach rest X.env)).any (·.1) = false := by rfl) :
    PS X (.Raise (some (.Call (.Name x np) (e0 :: rest) [] cpos)) none pos) (tRaise C E t) := by
  intro pins s σ H D I h
  obtain ⟨bm, N, nm, qn, bs, hdct, sn, sub, ab, col, dd, k0, k1, k2, k3, k5, mN, oC, oN, oi, oT⟩ := hC.obj I.mod.kin
  have F := PySem.F.excBase_ValueError
  have hp : (backTo cpos (starEach (e0 :: rest) X.env)).any (·.1) = false := by
    rw [he]
    show (false || (backTo cpos (starEach rest X.env)).any (·.1)) = false
    rw [hpl]
    rfl
  refine wpAny_Raise_call_subT (C := C) (nm := nm) (q := qn) (N := N) (bs := bs) (bm := bm) (hdct := hdct) (sn := sn) (sub := sub) (ab := ab) (col := col) (dd := dd) (k0 := k0) (k1 := k1) (k2 := k2) (k3 := k3) (k5 := k5) F (mN := mN)
    (oT.hasType F.hasBase) (I.ok.hd hc) hp oi (ld_glob I hg hm ⟨rfl, ?_⟩ hdb)
  have g := ha cpos pins s σ H _ I h
  rw [he] at g ⊢
  refine Calls.evalArgs_plain (wpAny_mono g (fun us s2 z => ?_) fun _ _ y => y)
  obtain ⟨vs, H2, I2, r, q1, q2⟩ := z
  exact ⟨rfl, by rw [← r.length]; exact q1, I2.bk _ _ oC, oN.keeps I2.bk, oT.keeps I2.bk, fun h' e hm => hx pins σ H2 s2 e C us h' I2 hm q2⟩
end L2

namespace L2
open PySem PySem.Spec PyProof.Rows
/-! ### a call that may raise, watched: the wish for its exception hangs on the names' values -/
def XP (X : Cx) (pins : List (Addr × Obj)) (E : St → XK) (e : Value) (s' : Shared) : Prop := ∃ σ1 H1 s1, Inv X pins σ1 H1 s1 ∧ CX1 X.prog X.w X.stack H1 s1 (E σ1) e s'
abbrev TEX := St → Hp → VK → XK → Prop
abbrev TSX := Ends → (St → XK) → St → Hp → Prop
def PEX (X : Cx) (e : Expr) (t : TEX) : Prop := ∀ (pins : List (Addr × Obj)) (s : Shared) (σ : St) (H : Hp) (Q : VK) (E : St → XK), Inv X pins σ H s → t σ H Q (E σ) → wpAny (model X.prog X.w) X.A (eval e X.env) (EP X pins σ Q) (XP X pins E) s
def PSX (X : Cx) (st : List Stmt) (t : TSX) : Prop := ∀ (pins : List (Addr × Obj)) (s : Shared) (σ : St) (H : Hp) (D : Ends) (E : St → XK), Inv X pins σ H s → t D E σ H → wpAny (model X.prog X.w) X.A (execs st X.env) (SP X pins D) (XP X pins E) s
section
variable {X : Cx} {k : Nat} {f C : Addr} {fd : FuncData} {ps : List Str} {sp : Sp} {dvs : List V} {ds : List Value} {x m : Str} {p pos pos' : Pos} {e : Expr} {es : List Expr} {t : TA} {tx : TEX}
def tCallX (sp : Sp) (dvs : List V) (t : TA) : TEX := fun σ H Q E => t σ H fun vs H1 => sp (vs ++ dvs) H1 Q E
theorem run_fnX {pins : List (Addr × Obj)} {σ : St} {H : Hp} {s : Shared} {Q : VK} {E : St → XK} {us : List Value} {vs : List V} (F : FnOk X.prog X.w X.K X.mg X.base (CX1 X.prog X.w) k f fd ps sp) (hr : Room k X.A) (hb : Binds X.K fd ps ds) (hd : Vals dvs ds)
    (I : Inv X pins σ H s) (r : Vals vs us) (h : sp (vs ++ dvs) H Q (E σ)) : wpAny (model X.prog X.w) X.A (call (.ref f) us) (EP X pins σ Q) (XP X pins E) s := by
  have r2 : Vals (vs ++ dvs) (us ++ ds) := r.append hd
  have hl : (us ++ ds).length = ps.length := by
    rw [← r2.length]
    exact F.len _ _ _ _ h
  refine wpAny_call (codeAny_mono (F.run X.A X.stack s H ⟨us, []⟩ (us ++ ds) (vs ++ dvs) Q (E σ) hr I.env0 (hb s us I.kIn hl) r2 h) fun r s' z => ?_)
  cases r with
  | error e => exact ⟨σ, H, s, I, z⟩
  | ok fl =>
    cases fl with
    | ret u => exact I.after z
    | next => exact False.elim z
    | brk => exact False.elim z
    | cont => exact False.elim z
theorem pex_call (F : FnOk X.prog X.w X.K X.mg X.base (CX1 X.prog X.w) k f fd ps sp) (hr : Room k X.A) (hg : Gl X x) (hm : X.mg x = some (.ref f)) (hk : PySem.W.keepIn X.K (.ref f) = true) (hb : Binds X.K fd ps ds) (hd : Vals dvs ds)
    (ha : PA X.nox (e :: es) t) (hdb : (x == ("__debug__" : Str)) = false := by decide) (he : starEach (e :: es) X.env = (false, eval e X.env) :: starEach es X.env := by rfl) (hpl : (backTo pos (starEach es X.env)).any (·.1) = false := by rfl) :
    PEX X (.Call (.Name x p) (e :: es) [] pos) (tCallX sp dvs t) := by
  intro pins s σ H Q E I h
  refine wpAny_Call_Name_kw (ld_glob I hg hm ?_ hdb)
  refine PySem.W.callWith_K (h₀ := X.base) I.ok.mod.kin hk (wpAny_mono (ha pos pins s σ H _ (I.wish _) h) (fun us s1 z => ?_) fun _ _ z => z.elim) he hpl
  obtain ⟨vs, H1, I1, r, q⟩ := z
  exact ⟨I1.unwish.kIn, run_fnX F hr hb hd I1.unwish r q⟩
theorem psx_set {i : Nat} (hN : X.N.Nodup) (hi : X.N[i]? = some x) (hx : Loc X.env.scope x) (he : PEX X e tx) (hs : swapsWith e (some (.Name x pos')) pos.line X.env = pure false := by rfl) (hf : X.fn x = true ∨ X.env.scope.names.lookup x = some .local := by first | exact .inl rfl | exact .inr rfl | assumption) :
    PSX X [.Assign [.Name x pos'] e pos] (fun D E σ H => tx σ H (fun v H1 => D.nx (σ.set i (some v)) H1) (E σ)) := by
  intro pins s σ H D E I h
  refine wpAny_execs_cons (wpAny_Assign_Name (thn (he pins s σ H _ E I h) fun v s1 ⟨y, H1, I1, r1, q1⟩ => ?_) hs)
  exact store_ok I1 hN hi hx r1 (fun s2 I2 => wpAny_execs_nil ⟨_, H1, I2, q1⟩) hf
theorem psx_expr (he : PEX X e tx) (hs : swapsWith e none pos.line X.env = pure false := by rfl) : PSX X [.Expr e pos] (fun D E σ H => tx σ H (fun _ H1 => D.nx σ H1) (E σ)) := by
  intro pins s σ H D E I h
  exact wpAny_execs_cons (wpAny_Expr_any (thn (he pins s σ H _ E I h) fun v s1 ⟨y, H1, I1, r1, q1⟩ => wpAny_execs_nil ⟨σ, H1, I1, q1⟩) I.quiet hs)
theorem psx_ret (he : PEX X e tx) : PSX X [.Return (some e) pos] (fun D E σ H => tx σ H D.rt (E σ)) := by
  intro pins s σ H D E I h
  exact wpAny_execs_cons (wpAny_Return_some (thn (he pins s σ H _ E I h) fun v s1 ⟨y, H1, I1, r1, q1⟩ => ⟨y, σ, H1, I1, r1, q1⟩))
end
/-! ### try, except -/
/-- within the suite of a handler -/
abbrev Cx.inH (X : Cx) (e : Addr) : Cx := { X with A := X.A.mark (some (.ref e)), calm := false, xe := fun _ _ => False }
section
variable {X : Cx} {pins : List (Addr × Obj)} {σ : St} {H : Hp} {s : Shared} {ea : Addr}
theorem Inv.inH (I : Inv X pins σ H s) (ea : Addr) : Inv (X.inH ea) pins σ H s :=
  ⟨⟨I.ok.mod, I.ok.kind, I.ok.glob, I.ok.blt, I.ok.above, I.ok.inj, I.ok.has, I.ok.cab, (fun z => Bool.noConfusion z), I.ok.frames, I.ok.stk, I.ok.exf, I.ok.bs, I.ok.bsz, I.ok.noex, I.ok.exfs, I.ok.funs, I.ok.frf⟩, I.os, I.bare, I.base, I.loc, I.cell, I.free, I.freeC, I.pin, I.hok, I.len⟩
theorem Inv.unH (I : Inv (X.inH ea) pins σ H s) (ok : X.Ok) : Inv X pins σ H s := ⟨ok, I.os, I.bare, I.base, I.loc, I.cell, I.free, I.freeC, I.pin, I.hok, I.len⟩
theorem SP.unH {D : Ends} {f : Flow} {s' : Shared} (ok : X.Ok) (h : SP (X.inH ea) pins D f s') : SP X pins D f s' := by
  cases f with
  | next => obtain ⟨σ', H', I, q⟩ := h; exact ⟨σ', H', I.unH ok, q⟩
  | brk => obtain ⟨σ', H', I, q⟩ := h; exact ⟨σ', H', I.unH ok, q⟩
  | cont => obtain ⟨σ', H', I, q⟩ := h; exact ⟨σ', H', I.unH ok, q⟩
  | ret u => obtain ⟨v, σ', H', I, r, q⟩ := h; exact ⟨v, σ', H', I.unH ok, r, q⟩
variable {C : Addr} {x : Str} {np hpos pos : Pos} {body : List Stmt} {b0 : Stmt} {suite : List Stmt} {tb : TSX} {th : TS}
/-- try: .. except C: .. -/
def tTry (K : PySem.W.Frag) (C : Addr) (tb : TSX) (th : TS) : TS := fun D σ H => tb D (fun σ' cls _ H' => PySem.W.exmOne K cls (.ref C) = some true ∧ th D σ' H') σ H
theorem ps_try (hb : PSX X body tb) (hg : Gl X x) (hm : X.mg x = some (.ref C)) (hh : ∀ e : Addr, PSs (X.inH e) (b0 :: suite) th) (hst : X.stack = X.env :: X.outer := by rfl) (hfr : X.env.frame = some X.env.locals := by rfl) (hdb : (x == ("__debug__" : Str)) = false := by decide) :
    PS X (.Try body [.ExceptHandler (some (.Name x np)) none (b0 :: suite) hpos] [] [] pos) (tTry X.K C tb th) := by
  intro pins s σ H D I h
  refine wpAny_Try_except (wpAny_mono (hb pins s σ H D _ I h) (fun f s1 q => ?_) fun e s1 q => ?_)
  · cases f with
    | next => exact wpAny_execs_nil q
    | brk => exact q
    | cont => exact q
    | ret u => exact q
  obtain ⟨σ1, H1, s0, I1, ea, cls, a0, H', B, rfl, ho, hgn, fl, hok, un, hB, hC, hmt, hth⟩ := q
  have frs1 := I1.ok.frames
  rw [hst] at fl frs1
  refine wpAny_looks_onW frs1 hfr fl fun h4 held4 sl4 => wpAny_landsW held4 fun h5 fl5 sl5 => ?_
  have u5 := un.flown hC fl5.1 (sl4.trans sl5) I1.frames
  have J5 : Inv X pins σ1 H' { s1 with heap := h5 } := I1.call' ho u5 (hok.flown hB fl5.1) hgn (fun _ z => nomatch z)
  obtain ⟨ob, hob, hoc⟩ := fl5.there
  refine wpAny_handleBy_cons (codeAny_handlers_test (ld_glob (J5.inH ea) hg hm ?_ hdb)) (by intro z; cases z)
  have LT : PySem.W.Looks (model X.prog X.w) h5 (typeOf (.ref ea)) cls := by
    rw [← hoc]
    exact (PySem.W.Looks.ld hob).andThen .now
  refine (PySem.W.exm_one J5.kIn LT hmt).here (codeAny_handlers_suite ?_)
  refine lands_againW fl5 fun h6 fl6 sl6 => ?_
  have u6 := un.flown hC fl6.1 ((sl4.trans sl5).trans sl6) I1.frames
  have J6 : Inv X pins σ1 H' { s1 with heap := h6 } := I1.call' ho u6 (hok.flown hB fl6.1) hgn (fun _ z => nomatch z)
  exact wpAny_mono (hh ea pins _ σ1 H' D (J6.inH ea) hth) (fun f s7 q => q.unH I1.ok) fun _ _ z => z.elim
end
end L2

namespace L2
open PySem PySem.Spec PyProof.Rows PySem.W
/-! ### isinstance of an own exception -/
/-- what is asked of the class of an exception -/
structure ExcQ (K : Frag) (C : Addr) : Prop where
  ga : findIn K (.ref C) "__getattribute__" = some (some (.builtin "BaseException.__getattribute__"))
  no : findIn K (.ref C) "__getattr__" = some none
  cl : findIn K (.ref C) "__class__" = some (some (.builtin "object.__class__"))
  ob : mroIn K C (.type "object") = some true
  be : mroIn K C (.type "BaseException") = some true
  is : (clsIn K C).isSome = true
section
variable {prog : Program} {w : World} {A : Around} {E : Value → Shared → Prop} {h : Heap} {g : Array GenState} {d : Drawn} {t : Nat} {os : OsState} {a C : Addr} {o : Obj} {K : Frag}
theorem excq_get {tp : Value} {R : Result → Shared → Prop} (X : K.In h) (q : ExcQ K C) (hx : h.get? a = some o) (hc : o.cls = .ref C) (hq : R (.ok (.ret (.ref C))) ⟨h, g, d, t, os⟩) :
    codeAny (model prog w) A (.call (.builtin "getset_descriptor.__get__") ⟨[.builtin "object.__class__", .ref a, tp], []⟩) R ⟨h, g, d, t, os⟩ := by
  have hT5 : (⟨h, g, d, t, os⟩ : Shared).TypeIs (.builtin "object.__class__") "getset_descriptor" := F.typeOf_object_class
  have L1 : Looks (model prog w) h (isSubtype (.ref C) (.type (".".intercalate ("object.__class__".cutAt '.').dropLast))) true := by
    rw [F.owner_object_class]
    exact looks_mroIn X q.ob
  refine codeAny_call_builtin F.slot_gs_get.plain F.entry_gs_get (F.slot_gs_get.check _ _ _ _ _ _ _ _ hT5 (F.args_gs_get _ _ _) ?_)
  repeat (any_goals (first | assumption | (with_reducible refine wpAny_loadPart_at hx ?_; rw [hc]) | with_reducible refine L1.at ?_ | wp_step))
  refine ⟨Code.quiet_builtin _ (by decide +kernel), codeAny_builtin F.entry_object_class ?_⟩
  repeat (any_goals (first | assumption | (with_reducible refine wpAny_loadPart_at hx ?_; rw [hc]) | wp_step))
theorem excq_check {M : Model} {nameV : Value} {Q : Unit → Shared → Prop} (X : K.In h) (q : ExcQ K C) (hx : h.get? a = some o) (hc : o.cls = .ref C) (hq : Q () ⟨h, g, d, t, os⟩) :
    wpAny M A (checkBuiltinCall "BaseException.__getattribute__" ⟨[.ref a, nameV], []⟩) Q E ⟨h, g, d, t, os⟩ := by
  have h1 : builtinKind "BaseException.__getattribute__" = some .slot := by decide +kernel
  have h2 : splitId "BaseException.__getattribute__" = some ("BaseException", "__getattribute__") := by decide +kernel
  have h3 := F.args_bexc_ga (.ref a) nameV
  have LS := looks_mroIn (M := M) X q.be
  simp only [checkBuiltinCall, h1, h2]
  refine wpAny_bind ?_
  unfold isInstance
  repeat (first | (with_reducible refine wpAny_loadPart_at hx ?_; rw [hc]) | with_reducible refine LS.at ?_ | wp_step)
  exact hq
theorem excq_entry {tk : Tok} {Q : Fin → Shared → Prop} (X : K.In h) (q : ExcQ K C) (hx : h.get? a = some o) (hc : o.cls = .ref C) (hq : Q (.done (.ret (.ref C))) ⟨h, g, d, t, os⟩) :
    wpAny (model prog w) A (Builtin.«object.__getattribute__» ⟨[.ref a, .str "__class__" tk], []⟩) Q E ⟨h, g, d, t, os⟩ := by
  have hT5 : (⟨h, g, d, t, os⟩ : Shared).TypeIs (.builtin "object.__class__") "getset_descriptor" := F.typeOf_object_class
  have L1 := looks_findIn (M := model prog w) X q.cl
  have f5 := F.typeOf_object_class
  have f6 := F.slot_gs_get.lookup
  have f7 := F.slot_gs_set.lookup
  repeat (any_goals (first | assumption | (with_reducible refine wpAny_loadPart_at hx ?_; rw [hc]) | with_reducible refine L1.at ?_ | wp_step))
  refine excq_get X q hx hc ?_
  repeat (any_goals (first | assumption | wp_step))
theorem excq_by {tk : Tok} {Q : Value → Shared → Prop} (X : K.In h) (q : ExcQ K C) (hx : h.get? a = some o) (hc : o.cls = .ref C) (hq : Q (.ref C) ⟨h, g, d, t, os⟩) :
    wpAny (model prog w) A (getAttrBy (.ref a) (.str "__class__" tk) false) Q E ⟨h, g, d, t, os⟩ := by
  have f3 := F.excAttr_ValueError.ga.bind (.ref a)
  have x2 : (Value.builtin "BaseException.__getattribute__" == Value.builtin "object.__getattribute__") = false := by decide +kernel
  have x1 : (onTheHeap (Value.ref C) && Value.builtin "BaseException.__getattribute__" == Value.builtin "object.__getattribute__") = false := by rw [x2]; rfl
  have L1 := looks_findIn (M := model prog w) X q.ga
  have L2 := looks_findIn (M := model prog w) X q.no
  repeat (any_goals (first | assumption | (with_reducible refine wpAny_loadPart_at hx ?_; rw [hc]) | with_reducible refine L1.at ?_ | with_reducible refine L2.at ?_ | wp_step))
  refine codeAny_call_builtin F.excAttr_ValueError.ga.plain F.entry_bexc_ga (excq_check X q hx hc (excq_entry X q hx hc ?_))
  repeat (any_goals (first | assumption | wp_step))
theorem excq_attr {Q : Option Value → Shared → Prop} (X : K.In h) (q : ExcQ K C) (hx : h.get? a = some o) (hc : o.cls = .ref C) (hq : Q (some (.ref C)) ⟨h, g, d, t + 1, os⟩) :
    wpAny (model prog w) A (getAttr? (.ref a) "__class__") Q E ⟨h, g, d, t, os⟩ := by
  unfold getAttr? getAttrBy?
  repeat (any_goals (first | assumption | with_reducible apply excq_by X q hx hc | wp_step))
/-- an object of the class at C -/
def ExcAt (a C : Addr) (h : Heap) : Prop := ∃ ob, h.get? a = some ob ∧ ob.cls = .ref C
theorem kitx_exc (q : ExcQ K C) : KitX K (.ref a) (.ref C) (ExcAt a C) where
  ty := fun M h _ ⟨ob, hx, hc⟩ => by
    rw [← hc]
    exact (Looks.ld hx).andThen .now
  it := fun _ _ X _ => by
    have z0 := q.is
    unfold clsIn at z0
    split at z0
    · rename_i ho
      intro A' Q' E' s' k z
      unfold isType loadHead
      exact wpAny_bind (wpAny_loadPart (k _ _ (X _ _ ho)) (wpAny_pure z))
    · cases z0
  ne := fun h tp dd its n sl X htp => by
    refine Bool.eq_false_iff.mpr fun z => ?_
    have e : C = tp := Value.ref.inj (beq_iff_eq.mp z)
    subst e
    have z0 := q.is
    unfold clsIn at z0
    split at z0
    · rename_i ho
      have y := (X _ _ ho).symm.trans htp
      cases y
    · cases z0
  ca := fun {_ _ _ _ _ s} X ⟨ob, hx, hc⟩ k => by
    obtain ⟨h, g, d, t, os⟩ := s
    exact excq_attr X q hx hc k
end
/-- an exception as a thing that is tracked -/
def excO (a C : Addr) : HO := .ext (ExcAt a C)
section
variable {X : Cx}
theorem exc_at {pins : List (Addr × Obj)} {σ : St} {H : Hp} {s : Shared} {a C : Addr} (I : Inv X pins σ H s) (e : H a = some (excO a C)) : ExcAt a C s.heap := (I.hok a _ e).1
theorem vals_refs : ∀ {cs : List Addr} {its : List Value}, Vals (cs.map V.ref) its → its = cs.map Value.ref
  | [], _, .nil => rfl
  | c :: cs, v :: vs, .cons r1 r2 => by
    cases (show v = Value.ref c from r1)
    rw [List.map_cons, ← vals_refs r2]
/-- isinstance(e, T) of an exception, T a type of Python's own -/
def rIsx (K : Frag) : List V → Hp → VK → Prop := fun xs H Q => ∃ (a C : Addr) (T : String) (b : Bool), xs = [.ref a, .ty T] ∧ H a = some (excO a C) ∧ ExcQ K C ∧ kitOne K (.ref C) (.type T) = some b ∧ Q (.bl b) H
theorem call_isx : CallR X (.builtin "isinstance") (rIsx X.K) := by
  intro pins s σ H xs us Q I r h
  obtain ⟨a, C, T, b, rfl, ha, q, e, z⟩ := h
  obtain ⟨u, w', rfl, r1, r2⟩ := vals2 r
  cases (show w' = Value.type T from r2)
  cases (show u = Value.ref a from r1)
  exact kia_one (kitx_exc q) I.kIn (exc_at I ha) e (fun y => nomatch y) fun tk => ⟨.bl b, H, I.tok tk, rfl, z⟩
/-- isinstance(e, (C1, C2, ..)) of an exception, own classes -/
def rIsxT (K : Frag) : List V → Hp → VK → Prop := fun xs H Q => ∃ (a C tp : Addr) (cs : List Addr) (b : Bool), xs = [.ref a, .ref tp] ∧ H a = some (excO a C) ∧ ExcQ K C ∧ H tp = some (.tup (cs.map V.ref)) ∧
    kitAny K (.ref C) (cs.map Value.ref) = some b ∧ Q (.bl b) H
theorem call_isxT : CallR X (.builtin "isinstance") (rIsxT X.K) := by
  intro pins s σ H xs us Q I r h
  obtain ⟨a, C, tp, cs, b, rfl, ha, q, ht, e, z⟩ := h
  obtain ⟨u, w', rfl, r1, r2⟩ := vals2 r
  cases (show w' = Value.ref tp from r2)
  cases (show u = Value.ref a from r1)
  obtain ⟨_, its, rv, ob, h1, h2, n, h3⟩ := (show ObjOk X.prog X.w H s.heap tp (.tup (cs.map V.ref)) from I.hok tp _ ht)
  have ei : its = cs.map Value.ref := vals_refs rv
  subst ei
  obtain ⟨oc, od, dt, sl⟩ := ob
  cases (show oc = .type "tuple" from h2)
  cases (show dt = .seq _ n from h3)
  exact kia_tup (kitx_exc q) I.kIn (exc_at I ha) h1 e (fun y => nomatch y) fun tk => ⟨.bl b, H, I.tok tk, rfl, z⟩
end
end L2

namespace L2
open PySem PySem.Spec PyProof.Rows
section
variable {X : Cx} {pins : List (Addr × Obj)} {σ : St} {H : Hp} {s : Shared} {ea C : Addr} {x n : Str} {np hpos pos : Pos} {body orelse : List Stmt} {b0 : Stmt} {suite : List Stmt} {tb : TSX} {th te : TS}
/-- the frame's map is another one: nothing is known of the names -/
theorem Inv.lost {h' : Heap} {m' : Str → Option Value} {t' : Nat} (I : Inv X pins σ H s) (hn' : h'.Ns X.env.locals m') (hs : Heap.SameBut X.env.locals s.heap h') : Inv X pins (List.replicate X.N.length none) H { s with heap := h', toks := t' } := by
  have old : ∀ b ob, X.s₀.heap.get? b = some ob → b ≠ X.env.locals := fun b ob q => Nat.ne_of_lt (Nat.lt_of_lt_of_le (Heap.lt_size q) I.ok.above)
  refine ⟨I.ok, I.os, I.bare, ⟨fun b ob q z1 z2 z3 => ?_, fun b ob q z1 z2 z3 => ?_, I.base.free, fun b ob q z => ?_, I.base.tups, I.base.frzs, I.base.tbls⟩, ⟨m', hn', fun i y v e1 e2 _ => ?_⟩, fun y c q => ?_, I.free, I.freeC, fun p hp => ?_, fun b ob q => ?_, by simp⟩
  · exact (hs.2 b (old b ob q)).trans (I.base.keep b ob q z1 z2 z3)
  · obtain ⟨sl, e⟩ := I.base.slot b ob q z1 z2 z3
    exact ⟨sl, (hs.2 b (old b ob q)).trans e⟩
  · obtain ⟨o', e⟩ := I.base.there b ob q z
    exact ⟨o', (hs.2 b (old b ob q)).trans e⟩
  · rw [List.getElem?_replicate] at e2
    split at e2 <;> cases e2
  · obtain ⟨v, z⟩ := I.cell y c q
    exact ⟨v, z.sameBut hs (I.cne y c q)⟩
  · obtain ⟨e, z1, z2, z3, z4⟩ := I.pin p hp
    exact ⟨(hs.2 p.1 z2).trans e, z1, z2, z3, z4⟩
  · refine (I.hok b ob q).stay (fun c u hc e => (hs.2 c fun z => ?_).trans e) (fun _ z => z) fun _ _ z => z
    rcases hc with y | y
    · rw [← y, z, I.free] at q
      cases q
    · rw [z, I.free] at y
      cases y
/-- try: .. except C: .. else: .. -/
def tTryE (K : PySem.W.Frag) (C : Addr) (tb : TSX) (th te : TS) : TS := fun D σ H => tb { D with nx := te D } (fun σ' cls _ H' => PySem.W.exmOne K cls (.ref C) = some true ∧ th D σ' H') σ H
theorem ps_tryE (hb : PSX X body tb) (hg : Gl X x) (hm : X.mg x = some (.ref C)) (hh : ∀ e : Addr, PSs (X.inH e) (b0 :: suite) th) (hel : PSs X orelse te) (hst : X.stack = X.env :: X.outer := by rfl) (hfr : X.env.frame = some X.env.locals := by rfl) (hdb : (x == ("__debug__" : Str)) = false := by decide) :
    PS X (.Try body [.ExceptHandler (some (.Name x np)) none (b0 :: suite) hpos] orelse [] pos) (tTryE X.K C tb th te) := by
  intro pins s σ H D I h
  refine wpAny_Try_except (wpAny_mono (hb pins s σ H _ _ I h) (fun f s1 q => ?_) fun e s1 q => ?_)
  · cases f with
    | next =>
      obtain ⟨σ', H', I', q⟩ := q
      exact hel pins s1 σ' H' D I' q
    | brk => exact q
    | cont => exact q
    | ret u => exact q
  obtain ⟨σ1, H1, s0, I1, ea, cls, a0, H', B, rfl, ho, hgn, fl, hok, un, hB, hC, hmt, hth⟩ := q
  have frs1 := I1.ok.frames
  rw [hst] at fl frs1
  refine wpAny_looks_onW frs1 hfr fl fun h4 held4 sl4 => wpAny_landsW held4 fun h5 fl5 sl5 => ?_
  have u5 := un.flown hC fl5.1 (sl4.trans sl5) I1.frames
  have J5 : Inv X pins σ1 H' { s1 with heap := h5 } := I1.call' ho u5 (hok.flown hB fl5.1) hgn (fun _ z => nomatch z)
  obtain ⟨ob, hob, hoc⟩ := fl5.there
  refine wpAny_handleBy_cons (codeAny_handlers_test (ld_glob (J5.inH ea) hg hm ?_ hdb)) (by intro z; cases z)
  have LT : PySem.W.Looks (model X.prog X.w) h5 (typeOf (.ref ea)) cls := by
    rw [← hoc]
    exact (PySem.W.Looks.ld hob).andThen .now
  refine (PySem.W.exm_one J5.kIn LT hmt).here (codeAny_handlers_suite ?_)
  refine lands_againW fl5 fun h6 fl6 sl6 => ?_
  have u6 := un.flown hC fl6.1 ((sl4.trans sl5).trans sl6) I1.frames
  have J6 : Inv X pins σ1 H' { s1 with heap := h6 } := I1.call' ho u6 (hok.flown hB fl6.1) hgn (fun _ z => nomatch z)
  exact wpAny_mono (hh ea pins _ σ1 H' D (J6.inH ea) hth) (fun f s7 q => q.unH I1.ok) fun _ _ z => z.elim
/-- try: .. except C as n: .. with a suite that returns -/
def tTryAs (K : PySem.W.Frag) (C : Addr) (i : Nat) (tb : TSX) (th : TS) : TS := fun D σ H => tb D (fun σ' cls _ H' => ∃ C1 : Addr, cls = .ref C1 ∧ PySem.W.exmOne K cls (.ref C) = some true ∧
  ∀ ea, H' ea = none → th { nx := fun _ _ => False, rt := D.rt } (σ'.set i (some (.ref ea))) (upd H' ea (excO ea C1))) σ H
theorem ps_tryAs {i : Nat} (hb : PSX X body tb) (hg : Gl X x) (hm : X.mg x = some (.ref C)) (hN : X.N.Nodup) (hi : X.N[i]? = some n) (hl : X.env.scope.names.lookup n = some .local) (hh : ∀ e : Addr, PSs (X.inH e) (b0 :: suite) th)
    (hst : X.stack = X.env :: X.outer := by rfl) (hfr : X.env.frame = some X.env.locals := by rfl) (hdb : (x == ("__debug__" : Str)) = false := by decide) :
    PS X (.Try body [.ExceptHandler (some (.Name x np)) (some n) (b0 :: suite) hpos] [] [] pos) (tTryAs X.K C i tb th) := by
  intro pins s σ H D I h
  refine wpAny_Try_except (wpAny_mono (hb pins s σ H D _ I h) (fun f s1 q => ?_) fun e s1 q => ?_)
  · cases f with
    | next => exact wpAny_execs_nil q
    | brk => exact q
    | cont => exact q
    | ret u => exact q
  obtain ⟨σ1, H1, s0, I1, ea, cls, a0, H', B, rfl, ho, hgn, fl, hok, un, hB, hC, C1, rfl, hmt, hth⟩ := q
  have frs1 := I1.ok.frames
  rw [hst] at fl frs1
  refine wpAny_looks_onW frs1 hfr fl fun h4 held4 sl4 => wpAny_landsW held4 fun h5 fl5 sl5 => ?_
  have u5 := un.flown hC fl5.1 (sl4.trans sl5) I1.frames
  have J5 : Inv X pins σ1 H' { s1 with heap := h5 } := I1.call' ho u5 (hok.flown hB fl5.1) hgn (fun _ z => nomatch z)
  obtain ⟨ob, hob, hoc⟩ := fl5.there
  refine wpAny_handleBy_cons (codeAny_handlers_test (ld_glob (J5.inH ea) hg hm ?_ hdb)) (by intro z; cases z)
  have LT : PySem.W.Looks (model X.prog X.w) h5 (typeOf (.ref ea)) (.ref C1) := by
    rw [← hoc]
    exact (PySem.W.Looks.ld hob).andThen .now
  refine (PySem.W.exm_one J5.kIn LT hmt).here (codeAny_handlers_suite_as ?_)
  refine lands_againW fl5 fun h6 fl6 sl6 => ?_
  have u6 := un.flown hC fl6.1 ((sl4.trans sl5).trans sl6) I1.frames
  obtain ⟨oe, ws, e6, c6, d6, _⟩ := fl6.first
  have hH : H' ea = none := by
    cases q : H' ea with
    | none => rfl
    | some z =>
      obtain ⟨o1, _, e2⟩ := hB ea (by rw [q]; rfl)
      rw [fl.2.1] at e2
      cases e2
  have nea : ∀ b o1, s0.heap.get? b = some o1 → b ≠ ea := fun b o1 q z => by
    subst z
    by_cases hb : b ∈ frs X.stack
    · obtain ⟨z1, o2, q2, nf⟩ := I1.frames b hb
      rw [q] at q2
      cases q2
      obtain ⟨sl, q3⟩ := u6.slot b o1 q z1 hb (by simp)
      rw [e6] at q3
      cases q3
      exact nf ws d6
    · obtain ⟨o', _, q2⟩ := hC b o1 q hb
      rw [fl.2.1] at q2
      cases q2
  have u7 : Un (frs X.stack) [] H1 (upd H' ea (excO ea C1)) s0.heap h6 := by
    refine ⟨u6.keep, u6.slot, fun b o1 q z1 z2 => ?_, u6.there, fun b xs q => ?_, fun b o1 u q => ?_, fun b ps q => ?_⟩
    · rw [upd_ne (nea b o1 q)]
      exact u6.free b o1 q z1 z2
    · have q' := u6.tups b xs q
      rw [upd_ne (ne_of_none q' hH)]
      exact q'
    · have q' := u6.frzs b o1 u q
      rw [upd_ne (ne_of_none q' hH)]
      exact q'
    · obtain ⟨more, q'⟩ := u6.tbls b ps q
      exact ⟨more, by rw [upd_ne (ne_of_none q' hH)]; exact q'⟩
  have hk6 := hok.flown hB fl6.1
  have hk7 : HOk X.prog X.w (upd H' ea (excO ea C1)) h6 := fun b o1 q => by
    by_cases hb : b = ea
    · subst hb
      rw [upd_same] at q
      cases q
      exact ⟨⟨oe, e6, c6⟩, ⟨oe, e6⟩, fun _ _ ⟨o2, z1, z2⟩ k => ⟨o2, k o2 z1, z2⟩⟩
    · rw [upd_ne hb] at q
      refine (hk6 b o1 q).stay (fun _ _ _ z => z) (fun c z => ?_) fun c xs z => ?_
      · rw [upd_ne (ne_of_none z hH)]
        exact z
      · rw [upd_ne (ne_of_none z hH)]
        exact z
  have J6 : Inv X pins σ1 (upd H' ea (excO ea C1)) { s1 with heap := h6 } := I1.call' ho u7 hk7 hgn (fun _ z => nomatch z)
  refine store_ok (v := .ref ea) J6 hN hi (.inl hl) rfl (fun s8 I8 => ?_) (.inr hl)
  refine wpAny_mono (hh ea pins _ _ _ _ (I8.inH ea) (hth ea hH)) (fun f s9 q => ?_) fun _ _ z => z.elim
  have hp : (X.env.scope.kind == .class || (X.env.scope.kind == .module && X.env.locals != X.env.globals)) = false := by
    rw [I.ok.kind]
    rfl
  cases f with
  | next => obtain ⟨_, _, _, z⟩ := q; exact z.elim
  | brk => obtain ⟨_, _, _, z⟩ := q; exact z.elim
  | cont => obtain ⟨_, _, _, z⟩ := q; exact z.elim
  | ret u =>
    obtain ⟨v, σ9, H9, I9, r9, q9⟩ := q
    have K9 := I9.unH I1.ok
    obtain ⟨m9, n9, _⟩ := id K9.loc
    exact wpAny_nameGoes hl n9 hp fun h' m' hn' hs => ⟨v, _, H9, K9.lost hn' hs, r9, q9⟩
end
end L2

namespace L2
open PySem PySem.Spec PyProof.Rows
/-! ### texts: startswith, index; str of an int; a def that may raise -/
section
variable {X : Cx}
theorem PS.nox {st : Stmt} {t : TS} (h : PS X.nox st t) : PS X st t := fun pins s σ H D I hw =>
  wpAny_mono (h pins s σ H D (I.wish _) hw) (fun _ _ q => q.unwish) fun _ _ z => False.elim z
theorem mt_startswith : MtR X "str.startswith" (fun x xs H Q => ∃ a b, x = .str a ∧ xs = [.str b] ∧ Q (.bl (Txt.startswith a b)) H) := by
  intro pins s σ H x xs v us Q I rx rs h
  obtain ⟨a, b, rfl, rfl, q⟩ := h
  obtain ⟨t, rfl⟩ := rx
  obtain ⟨u, rfl, t', rfl⟩ := vals1 rs
  exact SC.startswith ⟨.bl _, H, I, rfl, q⟩
theorem mt_sindex : MtR X "str.index" (fun x xs H Q => ∃ a b i rest, x = .str a ∧ xs = [.str b] ∧ Builtin.Str.occurrences a b 0 a.length 1 = i :: rest ∧ Q (.int ((i : Nat) : Int)) H) := by
  intro pins s σ H x xs v us Q I rx rs h
  obtain ⟨a, b, i, rest, rfl, rfl, ho, q⟩ := h
  obtain ⟨t, rfl⟩ := rx
  obtain ⟨u, rfl, t', rfl⟩ := vals1 rs
  exact SC.index ho ⟨.int _, H, I.tok _, ⟨_, rfl⟩, q⟩
theorem call_strI : CallR X (.type "str") (fun xs H Q => ∃ i : Int, xs = [.int i] ∧ i.natAbs.log2 < 1920 ∧ Q (.str (Str.ofString (toString i))) H) := by
  intro pins s σ H xs us Q I r h
  obtain ⟨i, rfl, hi, q⟩ := h
  obtain ⟨u, rfl, t, rfl⟩ := vals1 r
  exact P.str_of_int hi ⟨.str _, H, I.tok _, ⟨_, rfl⟩, q⟩
end
section
variable {P : Program} {w : World} {K : PySem.W.Frag} {mg : Str → Option Value} {base : Heap}
/-- a def whose body may raise -/
theorem Fun.okX {x qual : Str} {st : Stmt} {f : Addr} {fd : FuncData} {N ps : List Str} {k : Nat} {sp : Sp} (F : Fun K x qual st f fd) (S : FnScope N ps (defScope st)) (len : ∀ vs H Q E, sp vs H Q E → vs.length = ps.length)
    (hbody : ∀ (cdv : Value) (A : Around) (outer : List Env) (s : Shared) (H : Hp) (vs : List V) (Q : VK) (E : XK), Room k (A.deeper (envOfC qual (defScope st) s.heap.objs.size f cdv)) → sp vs H Q E →
      ∃ t, PSs (cxOf (CX1 P w) P w K mg base N qual (defScope st) f cdv A outer s H E) (defBody st) t ∧ t { nx := fun _ H' => Q .non H', rt := Q } (start N vs) H) : FnOk P w K mg base (CX1 P w) (k + 1) f fd ps sp := by
  obtain ⟨oc, od, kV, doc, pm, an, cdv, ct, osl, rfl, lk, hcd⟩ := F.ex
  exact fn_of lk hcd S len fun A outer s H vs Q E hr hsp => hbody cdv A outer s H vs Q E hr hsp
end
end L2

namespace Txm
open PySem L2
/-! texts as rows of signs -/
theorem ext {a b : Str} (e : a.cps.toList = b.cps.toList) : a = b := by
  obtain ⟨⟨a⟩⟩ := a
  obtain ⟨⟨b⟩⟩ := b
  simp only at e
  rw [e]
theorem picked (l : List Nat) (a : Nat) : ∀ n, a + n ≤ l.length → ((List.range n).map fun i => a + i).filterMap (fun i => l[i]?) = (l.drop a).take n
  | 0, _ => by simp
  | n + 1, h => by
    rw [List.range_succ, List.map_append, List.filterMap_append, picked l a n (by omega), List.take_add_one]
    congr 1
    rw [List.getElem?_drop]
    have hi : a + n < l.length := by omega
    simp [List.getElem?_eq_getElem hi]
theorem range_one (a b : Nat) : sliceRange (a : Int) (b : Int) 1 = (List.range (b - a)).map fun i => a + i := by
  unfold sliceRange
  simp only [show (1 : Int) > 0 by decide, if_true]
  have e : (if (a : Int) < (b : Int) then ((b : Int) - a + 1 - 1) / 1 else 0).toNat = b - a := by
    split
    · rw [Int.ediv_one]
      omega
    · omega
  rw [e]
  refine List.map_congr_left fun i _ => ?_
  omega
theorem ix_of (lo hi : Option Int) (n a b : Nat) (ha : (match lo with | none => (0 : Int) | some i => max 0 (min (if i < 0 then i + (n : Int) else i) (n : Int)) : Int) = (a : Int)) (hb : (match hi with | none => (n : Int) | some i => max 0 (min (if i < 0 then i + (n : Int) else i) (n : Int)) : Int) = (b : Int)) :
    Builtin.Str.strSliceIndices lo hi 1 n = (List.range (b - a)).map fun i => a + i := by
  rw [← range_one, ← ha, ← hb]
  unfold Builtin.Str.strSliceIndices
  cases lo <;> cases hi <;> rfl
theorem slice_of (z : Str) (lo hi : Option Int) (a b : Nat) (hab : a ≤ b) (hbn : b ≤ z.cps.size) (e : Builtin.Str.strSliceIndices lo hi 1 z.length = (List.range (b - a)).map fun i => a + i) : (Txt.slice z lo hi).cps.toList = (z.cps.toList.drop a).take (b - a) := by
  have hl : z.length = z.cps.toList.length := by simp [Str.length]
  have hp := picked z.cps.toList a (b - a) (by simp; omega)
  unfold Txt.slice
  rw [e]
  split
  · rename_i q
    simp only [BEq.rfl, Bool.true_and, beq_iff_eq, List.length_map, List.length_range] at q
    have h2 : z.length = z.cps.size := rfl
    have e0 : a = 0 := by omega
    subst e0
    rw [List.drop_zero, List.take_of_length_le (by simp; omega)]
  · rw [← hp]
    simp
theorem slice_take (z : Str) {k : Int} (h : 0 ≤ k) : (Txt.slice z none (some k)).cps.toList = z.cps.toList.take k.toNat := by
  have hl : z.length = z.cps.size := rfl
  rw [slice_of z none (some k) 0 (min k.toNat z.cps.size) (Nat.zero_le _) (Nat.min_le_right _ _) (ix_of _ _ _ _ _ rfl (by simp only [if_neg (show ¬ k < 0 by omega)]; omega))]
  rw [List.drop_zero, Nat.sub_zero]
  by_cases q : k.toNat ≤ z.cps.size
  · rw [Nat.min_eq_left q]
  · rw [Nat.min_eq_right (by omega), List.take_of_length_le (by simp), List.take_of_length_le (by simp; omega)]
theorem slice_drop (z : Str) {k : Int} (h : 0 ≤ k) : (Txt.slice z (some k) none).cps.toList = z.cps.toList.drop k.toNat := by
  have hl : z.length = z.cps.size := rfl
  rw [slice_of z (some k) none (min k.toNat z.cps.size) z.cps.size (Nat.min_le_right _ _) (Nat.le_refl _) (ix_of _ _ _ _ _ (by simp only [if_neg (show ¬ k < 0 by omega)]; omega) rfl)]
  by_cases q : k.toNat ≤ z.cps.size
  · rw [Nat.min_eq_left q, List.take_of_length_le (by simp)]
  · rw [Nat.min_eq_right (by omega), List.drop_of_length_le (by simp), List.drop_of_length_le (by simp; omega)]
    simp
/-- a text's first sign -/
theorem starts_one (z : Str) (c : Nat) : Txt.startswith z ⟨#[c]⟩ = decide (z.cps.toList.head? = some c) := by
  obtain ⟨⟨l⟩⟩ := z
  unfold Txt.startswith Builtin.Str.subAt
  cases l with
  | nil => rfl
  | cons d l =>
    have e : (#[c] : Array Nat).size = 1 := rfl
    simp only [Str.length, e]
    by_cases q : d = c
    · subst q
      simp
    · simp [q]
theorem take_one (z : Str) (c : Nat) : (Txt.slice z none (some 1) = ⟨#[c]⟩) ↔ z.cps.toList.head? = some c := by
  have h := slice_take z (k := 1) (by decide)
  constructor
  · intro e
    rw [e] at h
    obtain ⟨⟨l⟩⟩ := z
    cases l with
    | nil => simp at h
    | cons d l =>
      simp at h
      simp [h]
  · intro e
    apply ext
    rw [h]
    obtain ⟨⟨l⟩⟩ := z
    cases l with
    | nil => simp at e
    | cons d l =>
      simp at e
      subst e
      rfl
end Txm

namespace Dig
open PySem L2
/-! numbers as rows of figures -/
def D (n : Nat) : List Nat := if h : n = 0 then [] else D (n / 10) ++ [48 + n % 10]
theorem D_zero : D 0 = [] := by unfold D; simp
theorem D_pos {n : Nat} (h : n ≠ 0) : D n = D (n / 10) ++ [48 + n % 10] := by
  rw [D]
  simp [h]
theorem D_len : ∀ (k n : Nat), n < 10 ^ k → (D n).length ≤ k
  | 0, n, h => by
    have e : n = 0 := by simp at h; exact h
    rw [e, D_zero]
    exact Nat.le_refl _
  | k + 1, n, h => by
    by_cases e : n = 0
    · rw [e, D_zero]
      exact Nat.zero_le _
    · rw [D_pos e, List.length_append]
      have := D_len k (n / 10) (by rw [Nat.pow_succ] at h; omega)
      simp only [List.length_cons, List.length_nil]
      omega
theorem digitChar_toNat : ∀ d, d < 10 → (Nat.digitChar d).toNat = 48 + d := by decide
theorem core_eq : ∀ (f n : Nat) (acc : List Char), n < f → n ≠ 0 → (Nat.toDigitsCore 10 f n acc).map Char.toNat = D n ++ acc.map Char.toNat
  | 0, n, acc, h, _ => absurd h (Nat.not_lt_zero _)
  | f + 1, n, acc, h, h0 => by
    rw [Nat.toDigitsCore]
    have hd := digitChar_toNat (n % 10) (Nat.mod_lt _ (by decide))
    by_cases e : n / 10 = 0
    · simp only [e, if_true]
      rw [D_pos h0, e, D_zero, List.map_cons, hd]
      rfl
    · simp only [e, if_false]
      rw [core_eq f (n / 10) _ (by omega) e, List.map_cons, hd, D_pos h0, List.append_assoc]
      rfl
theorem toDigits_eq (m : Nat) : (Nat.toDigits 10 m).map Char.toNat = if m = 0 then [48] else D m := by
  by_cases e : m = 0
  · subst e
    rfl
  · rw [if_neg e]
    unfold Nat.toDigits
    rw [core_eq _ _ _ (Nat.lt_succ_self m) e]
    exact List.append_nil _
/-- what is written of a number -/
def figs (n : Int) : List Nat := (if n < 0 then [45] else []) ++ (if n = 0 then [48] else D n.natAbs)
theorem str_figs (n : Int) : Str.ofString (toString n) = ⟨(figs n).toArray⟩ := by
  have ext : ∀ a b : Str, a.cps.toList = b.cps.toList → a = b := fun a b e => by
    obtain ⟨⟨a⟩⟩ := a
    obtain ⟨⟨b⟩⟩ := b
    simp only at e
    rw [e]
  apply ext
  rw [Str.ofString_eq_toList]
  simp only
  unfold figs
  cases n with
  | ofNat m =>
    rw [if_neg (show ¬ Int.ofNat m < 0 from Int.not_lt.mpr (Int.natCast_nonneg m))]
    show List.map Char.toNat (String.toList (Nat.repr m)) = _
    rw [show Nat.repr m = String.ofList (Nat.toDigits 10 m) from rfl, String.toList_ofList, toDigits_eq]
    by_cases e : m = 0
    · subst e
      rfl
    · rw [if_neg e, if_neg (show ¬ Int.ofNat m = 0 by intro z; exact e (by simpa using z))]
      rfl
  | negSucc m =>
    rw [if_pos (Int.negSucc_lt_zero m), if_neg (by intro z; cases z)]
    show List.map Char.toNat (String.toList ("-" ++ Nat.repr (m + 1))) = _
    rw [String.toList_append, show Nat.repr (m + 1) = String.ofList (Nat.toDigits 10 (m + 1)) from rfl, String.toList_ofList, String.toList_ofList, List.map_append, toDigits_eq, if_neg (by omega)]
    rfl
end Dig

namespace PySem.MeetsSeq
open PySem PySem.Spec PyProof.Rows
theorem tuple_index (l : Addr) (items : Array Value) (n : Nat) (dd : Option Addr) (sl : Array (Option Value)) (x : Value) (e : Value → Bool) (he : ∀ y, y ∈ items → EqGives y x (e y)) (j : Nat) (hj : j < items.size) 
    (hit : e items[j] = true) (hno : ∀ m (hm : m < items.size), m < j → e items[m] = false) :
    Meets (Builtin.«tuple.index» ⟨[.ref l, x], []⟩)
      (fun _ R s => s.heap.get? l = some { cls := .type "tuple", dict := dd, data := .seq items n, slots := sl } ∧ R (.ok (.ret (.int j s.toks))) { s with toks := s.toks + 1 }) :=
  .of_wp fun prog w A R s h => by
    obtain ⟨hp, g, d, tk, os⟩ := s; obtain ⟨hl, h⟩ := h
    wp_walk using wpAny_loadPart' hl
    show wpAny (model prog w) A.in1 (forIn [:min items.size items.size] ((none : Option Fin), ()) (fun (i : Nat) __s =>
            match items[i]? with
            | some y => do
              let __do_lift ← eqBool y x
              if __do_lift = true then do
                  let __do_lift ← retInt ↑i
                  pure (ForInStep.done (some __do_lift, ()))
                else pure (ForInStep.yield (none, ()))
            | x => pure (ForInStep.yield (none, ())))) _ _ _
    rw [Std.Legacy.Range.forIn_eq_forIn_range']
    simp only [Std.Legacy.Range.size, Nat.sub_zero, Nat.add_sub_cancel, Nat.div_one, Nat.min_self]
    refine wpAny_forIn_list _ (fun rest b s' => ∃ i, rest = List.range' i (items.size - i) ∧ i ≤ j ∧ s' = ⟨hp, g, d, tk, os⟩) _ ?_ ?_ _ _ ⟨0, by simp, Nat.zero_le _, rfl⟩
    · rintro y rest b s' ⟨i, hr, hi, rfl⟩
      have hlt : i < items.size := by omega
      obtain ⟨rfl, hrest⟩ : y = i ∧ rest = List.range' (i + 1) (items.size - (i + 1)) := by
        have e : items.size - i = (items.size - (i + 1)) + 1 := by omega
        rw [e, List.range'_succ] at hr
        injection hr with h1 h2
        exact ⟨h1, h2⟩
      rw [Array.getElem?_eq_getElem hlt]
      refine wpAny_bind (he _ (Array.getElem_mem hlt) prog w _ _ _ _ ?_)
      by_cases hyj : y = j
      · subst hyj
        rw [hit]
        wp_walk
        exact ⟨_, rfl, h⟩
      · rw [hno y hlt (by omega)]
        wp_walk
        exact ⟨y + 1, hrest, by omega, rfl⟩
    · rintro b s' ⟨i, hr, hi, rfl⟩
      have e : items.size - i = (items.size - (i + 1)) + 1 := by omega
      rw [e, List.range'_succ] at hr
      cases hr
end PySem.MeetsSeq
namespace L2
open PySem PySem.Spec PyProof.Rows
/-! ### texts: split at a text, upper; where a text stands in a list -/
theorem vals_strs : ∀ l : List (Str × Tok), Vals ((l.map (·.1)).map V.str) (strValues l)
  | [] => .nil
  | p :: l => .cons ⟨p.2, rfl⟩ (vals_strs l)
section
variable {X : Cx}
theorem mt_split : MtM X "str.split" (fun x xs H Q => ∃ a b : Str, x = .str a ∧ xs = [.str b] ∧ (b.length == 0) = false ∧ a.length ≤ sizeLine ∧ (Txt.split a b).length ≤ sizeLine ∧ ∀ p, H p = none → Q (.ref p) (upd H p (.lst ((Txt.split a b).map V.str)))) := by
  intro pins s σ H x xs v us Q I rx rs h
  obtain ⟨a, b, rfl, rfl, hb, ha, hn, q⟩ := h
  obtain ⟨t, rfl⟩ := rx
  obtain ⟨u, rfl, t', rfl⟩ := vals1 rs
  have q' := q _ I.fresh
  have one : (Txt.split a b) = [a] → EP X pins σ Q (.ref s.heap.objs.size) { s with heap := s.heap.push { cls := .type "list", data := .seq [Value.str a t].toArray } } := fun e => by
    rw [e] at q' hn
    exact ⟨.ref _, _, I.lnew (t' := s.toks) (ys := [.str a]) (.cons ⟨t, rfl⟩ .nil) hn, rfl, q'⟩
  cases h1 : (decide (a.length < b.length) || decide (Builtin.Str.strKind a < Builtin.Str.strKind b))
  · cases hf : (Builtin.Str.occurrences a b 0 a.length (a.length + 1)).isEmpty
    · have e : Txt.split a b = Builtin.Str.partsBetween a (Builtin.Str.occurrences a b 0 a.length (a.length + 1)) b.length := (if_neg (ne_true_of_eq_false h1)).trans (if_neg (ne_true_of_eq_false hf))
      rw [e] at q' hn
      refine call_meets F.slot_str_split (typeIs_str _ _ _) F.entry_str_split (F.args_str_split_2 _ _) (meets_str_split_sep a b t t' h1 hb hf ha hn) ?_
      show wants (EP X pins σ Q) X.xe _ _
      rw [strsFrom_eq]
      have r := vals_strs (numbered s.toks (Builtin.Str.partsBetween a (Builtin.Str.occurrences a b 0 a.length (a.length + 1)) b.length))
      rw [numbered_texts] at r
      exact ⟨.ref _, _, I.lnew (t' := _) r (by rw [List.length_map]; exact hn), rfl, q'⟩
    · exact call_meets F.slot_str_split (typeIs_str _ _ _) F.entry_str_split (F.args_str_split_2 _ _) (meets_str_split_not_found a b t t' h1 hb hf) (one ((if_neg (ne_true_of_eq_false h1)).trans (if_pos hf)))
  · exact call_meets F.slot_str_split (typeIs_str _ _ _) F.entry_str_split (F.args_str_split_2 _ _) (meets_str_split_cannot_occur a b t t' h1) (one (if_pos h1))
theorem mt_upper : MtR X "str.upper" (fun x xs H Q => ∃ a : Str, x = .str a ∧ xs = [] ∧ Builtin.Str.tooLong (Txt.upper a).length = false ∧ Q (.str (Txt.upper a)) H) := by
  intro pins s σ H x xs v us Q I rx rs h
  obtain ⟨a, rfl, rfl, hl, q⟩ := h
  obtain ⟨t, rfl⟩ := rx
  have hus := rs.zero
  subst hus
  exact SC.upper hl ⟨.str _, H, I.tok _, ⟨_, rfl⟩, q⟩
/-- xs.index(z), xs a list of texts in which z stands first at j -/
def rIdxS : V → List V → Hp → VK → Prop := fun x vs H Q => ∃ (l : Addr) (os : List Str) (k : Str) (j : Nat), x = .ref l ∧ vs = [.str k] ∧ H l = some (.lst (os.map V.str)) ∧ (∃ h : j < os.length, os[j] = k) ∧ (∀ (m : Nat) (hm : m < os.length), m < j → os[m] ≠ k) ∧ os.length ≤ 1000 ∧ Q (.int (j : Int)) H
def eqSt (k : Str) : Value → Bool
  | .str a _ => a.cps.toList == k.cps.toList
  | _ => false
theorem str_ext {a b : Str} (h : a.cps.toList = b.cps.toList) : a = b := by
  obtain ⟨a⟩ := a
  obtain ⟨b⟩ := b
  congr
  exact Array.toList_inj.mp h
theorem mt_indexS : MtM X "list.index" rIdxS := by
  intro pins s σ H x vs v us Q I rx rv h
  obtain ⟨l, os, k, j, rfl, rfl, hH, ⟨hj, e1⟩, e2, hz, q⟩ := h
  cases rx
  obtain ⟨u, rfl, ru⟩ := rv.one
  obtain ⟨t, rfl⟩ := ru
  obtain ⟨z, its, n, r, hl, e⟩ := I.lstM hH
  rw [List.length_map] at hl
  have item : ∀ (m : Nat) (hm : m < os.length), ∃ t', its[m]? = some (.str os[m] t') := fun m hm => by
    obtain ⟨w', hw, t', rfl⟩ := r.get (i := m) (x := .str os[m]) (by rw [List.getElem?_map, List.getElem?_eq_getElem hm]; rfl)
    exact ⟨t', hw⟩
  have at' : ∀ (m : Nat) (hm : m < its.toArray.size), ∃ (hm' : m < os.length) (t' : Tok), its.toArray[m] = .str (os[m]'hm') t' := fun m hm => by
    have hm' : m < os.length := by
      rw [List.size_toArray] at hm
      omega
    obtain ⟨t', ht⟩ := item m hm'
    refine ⟨hm', t', ?_⟩
    have := List.getElem?_eq_some_iff.mp ht
    obtain ⟨_, this⟩ := this
    simpa using this
  refine call_meets PySem.F.slot_list_index ⟨_, e, rfl⟩ PySem.F.entry_list_index (PySem.F.args_list_index_2 _ _) (MeetsSeq.list_index l its.toArray n _ (eqSt k) (fun y hy => ?_) j (by rw [List.size_toArray]; omega) (by omega) ?_ (fun m hm hmj => ?_)) ⟨e, ?_⟩
  · obtain ⟨m, hm, rfl⟩ := Array.mem_iff_getElem.mp hy
    obtain ⟨hm', t', et⟩ := at' m hm
    rw [et]
    exact SeqRoads2.EqGives.str _ _ _ _
  · obtain ⟨hm', t', et⟩ := at' j (by rw [List.size_toArray]; omega)
    rw [et]
    show ((os[j]).cps.toList == k.cps.toList) = true
    rw [e1]
    exact beq_self_eq_true _
  · obtain ⟨hm', t', et⟩ := at' m hm
    rw [et]
    exact beq_eq_false_iff_ne.mpr fun h => e2 m hm' hmj (str_ext h)
  · exact ⟨.int (j : Int), H, I.tok _, ⟨_, rfl⟩, q⟩
/-- xs.index(z), xs a tuple of texts -/
def rIdxT (K : PySem.W.Frag) : V → List V → Hp → VK → Prop := fun x vs H Q => ∃ (l : Addr) (os : List Str) (k : Str) (j : Nat), x = .ref l ∧ vs = [.str k] ∧ SqT K H l (os.map V.str) ∧ (∃ h : j < os.length, os[j] = k) ∧ (∀ (m : Nat) (hm : m < os.length), m < j → os[m] ≠ k) ∧ os.length ≤ 1000 ∧ Q (.int (j : Int)) H
theorem mt_indexT : MtM X "tuple.index" (rIdxT X.K) := by
  intro pins s σ H x vs v us Q I rx rv h
  obtain ⟨l, os, k, j, rfl, rfl, hH, ⟨hj, e1⟩, e2, hz, q⟩ := h
  cases rx
  obtain ⟨u, rfl, ru⟩ := rv.one
  obtain ⟨t, rfl⟩ := ru
  obtain ⟨its, r, ⟨⟨c, dd, da, sl⟩, e, hc, n, hd⟩, _⟩ := I.tuple hH
  have hc' : c = .type "tuple" := hc
  have hd' : da = .seq its.toArray n := hd
  subst hc' hd'
  have hl := r.length
  rw [List.length_map] at hl
  have item : ∀ (m : Nat) (hm : m < os.length), ∃ t', its[m]? = some (.str os[m] t') := fun m hm => by
    obtain ⟨w', hw, t', rfl⟩ := r.get (i := m) (x := .str os[m]) (by rw [List.getElem?_map, List.getElem?_eq_getElem hm]; rfl)
    exact ⟨t', hw⟩
  have at' : ∀ (m : Nat) (hm : m < its.toArray.size), ∃ (hm' : m < os.length) (t' : Tok), its.toArray[m] = .str (os[m]'hm') t' := fun m hm => by
    have hm' : m < os.length := by
      rw [List.size_toArray] at hm
      omega
    obtain ⟨t', ht⟩ := item m hm'
    refine ⟨hm', t', ?_⟩
    have := List.getElem?_eq_some_iff.mp ht
    obtain ⟨_, this⟩ := this
    simpa using this
  refine call_meets PySem.F.slot_tuple_index ⟨_, e, rfl⟩ PySem.F.entry_tuple_index (PySem.F.args_tuple_index_2 _ _) (MeetsSeq.tuple_index l its.toArray n dd sl _ (eqSt k) (fun y hy => ?_) j (by rw [List.size_toArray]; omega) ?_ (fun m hm hmj => ?_)) ⟨e, ?_⟩
  · obtain ⟨m, hm, rfl⟩ := Array.mem_iff_getElem.mp hy
    obtain ⟨hm', t', et⟩ := at' m hm
    rw [et]
    exact SeqRoads2.EqGives.str _ _ _ _
  · obtain ⟨hm', t', et⟩ := at' j (by rw [List.size_toArray]; omega)
    rw [et]
    show ((os[j]).cps.toList == k.cps.toList) = true
    rw [e1]
    exact beq_self_eq_true _
  · obtain ⟨hm', t', et⟩ := at' m hm
    rw [et]
    exact beq_eq_false_iff_ne.mpr fun h => e2 m hm' hmj (str_ext h)
  · exact ⟨.int (j : Int), H, I.tok _, ⟨_, rfl⟩, q⟩
/-- a tuple whose object is known -/
def FrT (H : Hp) (a : Addr) (xs : List V) : Prop := ∃ o : Obj, H a = some (.frz o (.tup xs)) ∧ o.cls = .type "tuple" ∧ o.dict = none
theorem FrT.sq {K : PySem.W.Frag} {H : Hp} {a : Addr} {xs : List V} (h : FrT H a xs) : SqT K H a xs := by
  obtain ⟨o, e, _⟩ := h
  exact .inl (.inr ⟨o, e⟩)
theorem FrT.mono {H H' : Hp} {a : Addr} {xs : List V} (h : FrT H a xs) (s : Same H H') : FrT H' a xs := by
  obtain ⟨o, e, z⟩ := h
  exact ⟨o, s _ _ e, z⟩
theorem call_tuple_frz : CallR X (.type "tuple") (fun xs H Q => ∃ p ys, xs = [.ref p] ∧ SqL X.K H p ys ∧ ∀ (l : Addr) (o : Obj), H l = none → o.cls = .type "tuple" → o.dict = none → Q (.ref l) (upd H l (.frz o (.tup ys)))) := by
  intro pins s σ H xs us Q I r h
  obtain ⟨p, ys, rfl, hq, q⟩ := h
  obtain ⟨u, rfl, rx⟩ := vals1 r
  cases rx
  obtain ⟨its, r', pl, hz⟩ := I.list hq
  have hlen := r'.length
  refine call_tuple_list pl.isList (fun h' kp => ?_) (by simp only [List.size_toArray] <;> omega)
  have I1 : Inv X pins σ H { s with heap := h' } := I.kept (t' := s.toks) kp
  have I2 : Inv X pins σ (upd H h'.objs.size (.frz { cls := .type "tuple", data := .seq its.toArray } (.tup ys))) { s with heap := h'.push { cls := .type "tuple", data := .seq its.toArray } } :=
    I1.laid (t' := s.toks) (fun b o e => Heap.get?_push_of_some _ e) (Nat.le_refl _) (show ObjOk X.prog X.w _ _ _ (.frz { cls := .type "tuple", data := .seq its.toArray } (.tup ys)) from ⟨Heap.get?_push_size _ rfl, hz, its, r', IsTup.new _ _⟩)
  exact ⟨.ref h'.objs.size, _, I2, rfl, q _ _ (I1.hok.fresh (Nat.le_refl _)) rfl rfl⟩
def tBMF (r : V → List V → Hp → VK → Prop) (to : TE) (t : TA) : TE := fun σ H Q => to σ H fun x H1 => (∃ a xs, x = .ref a ∧ FrT H1 a xs) ∧ t σ H1 fun xs H2 => r x xs H2 Q
theorem pe_bmF {o e : Expr} {es : List Expr} {to : TE} {t : TA} {name : Str} {apos cpos : Pos} {id : String} {r : V → List V → Hp → VK → Prop} (slot : Slot "tuple" name id) (hty : typeOf (.builtin id) = pure (.type "method_descriptor")) (hm : MtR X id r) (ho : PE X o to) (ha : PA X (e :: es) t)
    (hbase : attributeBase o name X.env (eval o X.env) = eval o X.env := by rfl)
    (hfew : ((backTo cpos (starEach (e :: es) X.env)).all (fun x => !x.1) && (backToKw cpos (keywordEach [] X.env)).all (fun x => x.1.isSome)
      && decide ((e :: es).length + ([] : List Keyword).length + (if ([] : List Keyword).isEmpty then 0 else 1) < 30)) = true := by rfl)
    (hline : (apos.endLine == cpos.line) = true := by rfl) (hs : starEach (e :: es) X.env = (false, eval e X.env) :: starEach es X.env := by rfl) (hplain : (backTo cpos (starEach es X.env)).any (·.1) = false := by rfl) :
    PE X (.Call (.Attribute o name apos) (e :: es) [] cpos) (tBMF r to t) := by
  intro pins s σ H Q I h
  refine wpAny_Call_method_late hbase hfew hline rfl (thn (ho pins s σ H _ I h) fun v s1 ⟨x, H1, I1, r1, ⟨a, xs, ex, oa, ea, hc, hd⟩, q1⟩ => ?_)
  subst ex
  cases r1
  obtain ⟨eo, _⟩ := (show ObjOk X.prog X.w H1 s1.heap a (.frz oa (.tup xs)) from I1.hok a _ ea)
  refine ⟨"tuple", id, PySem.F.plainAttrs_tuple, slot, hty, ⟨oa, eo, hc⟩, (fun b e2 => ?_), ?_⟩
  · cases e2
    exact ⟨oa, eo, hd⟩
  have hA := ha cpos pins s1 σ H1 _ I1 q1
  rw [hs] at hA ⊢
  refine Calls.callWith_builtin (by show (false || (backTo cpos (starEach es X.env)).any (·.1)) = false; rw [hplain] <;> rfl) (Calls.evalArgs_plain ?_)
  exact thn hA fun us s2 ⟨vs, H2, I2, r2, q2⟩ => hm pins s2 σ H2 (.ref a) vs (.ref a) us Q I2 rfl r2 q2
/-- one of two readings -/
def tAlt (t1 t2 : TE) : TE := fun σ H Q => t1 σ H Q ∨ t2 σ H Q
theorem pe_alt {e : Expr} {t1 t2 : TE} (h1 : PE X e t1) (h2 : PE X e t2) : PE X e (tAlt t1 t2) := by
  intro pins s σ H Q I h
  rcases h with h | h
  · exact h1 pins s σ H Q I h
  · exact h2 pins s σ H Q I h
end
end L2

namespace Spl
open PySem L2 Txm
/-! splitting and joining texts at a sign -/
def splitL (c : Nat) : List Nat → List (List Nat)
  | [] => [[]]
  | x :: xs => if x = c then [] :: splitL c xs else match splitL c xs with
    | [] => [[x]]
    | w :: ws => (x :: w) :: ws
def joinL (c : Nat) : List (List Nat) → List Nat
  | [] => []
  | w :: ws => w ++ ws.flatMap fun v => c :: v
/-- more in front of the first piece -/
def pre (l : List Nat) : List (List Nat) → List (List Nat)
  | [] => [l]
  | w :: ws => (l ++ w) :: ws
theorem splitL_ne (c : Nat) (l : List Nat) : splitL c l ≠ [] := by
  cases l with
  | nil => simp [splitL]
  | cons x xs =>
    unfold splitL
    split
    · simp
    · split <;> simp
theorem splitL_cons {c x : Nat} (h : x ≠ c) (l : List Nat) : splitL c (x :: l) = pre [x] (splitL c l) := by
  rw [splitL, if_neg h]
  cases splitL c l <;> rfl
theorem pre_pre (a b : List Nat) {l : List (List Nat)} (h : l ≠ []) : pre a (pre b l) = pre (a ++ b) l := by
  cases l with
  | nil => exact absurd rfl h
  | cons w ws => simp [pre]
theorem pre_nil {l : List (List Nat)} (h : l ≠ []) : pre [] l = l := by
  cases l with
  | nil => exact absurd rfl h
  | cons w ws => rfl
theorem splitL_app {c : Nat} {w : List Nat} (h : c ∉ w) (l : List Nat) : splitL c (w ++ l) = pre w (splitL c l) := by
  induction w with
  | nil => rw [List.nil_append, pre_nil (splitL_ne c l)]
  | cons x w ih =>
    have hx : x ≠ c := fun e => h (by rw [e]; exact List.mem_cons_self)
    rw [List.cons_append, splitL_cons hx, ih (fun m => h (List.mem_cons_of_mem _ m)), pre_pre _ _ (splitL_ne c l)]
    rfl
theorem splitL_own {c : Nat} {w : List Nat} (h : c ∉ w) : splitL c w = [w] := by
  have := splitL_app h []
  rw [List.append_nil] at this
  rw [this]
  show [w ++ []] = [w]
  rw [List.append_nil]
theorem splitL_at (c : Nat) (l : List Nat) : splitL c (c :: l) = [] :: splitL c l := by rw [splitL, if_pos rfl]
theorem splitL_word {c : Nat} {w : List Nat} (h : c ∉ w) (l : List Nat) : splitL c (w ++ c :: l) = w :: splitL c l := by
  rw [splitL_app h, splitL_at]
  show (w ++ []) :: _ = _
  rw [List.append_nil]
theorem joinL_cons2 (c : Nat) (w v : List Nat) (ws : List (List Nat)) : joinL c (w :: v :: ws) = w ++ c :: joinL c (v :: ws) := by
  show w ++ ((c :: v) ++ ws.flatMap _) = w ++ c :: (v ++ _)
  rfl
theorem split_join {c : Nat} : ∀ {ws : List (List Nat)}, ws ≠ [] → (∀ w ∈ ws, c ∉ w) → splitL c (joinL c ws) = ws
  | [], h, _ => absurd rfl h
  | [w], _, h => by
    show splitL c (w ++ []) = [w]
    rw [List.append_nil]
    exact splitL_own (h w List.mem_cons_self)
  | w :: v :: ws, _, h => by
    rw [joinL_cons2, splitL_word (h w List.mem_cons_self), split_join (by simp) (fun x hx => h x (List.mem_cons_of_mem _ hx))]
/-! the model's own -/
theorem sp_list : (" " : Str).cps.toList = [32] := by decide +kernel
theorem glue_fold (g : Array Nat) : ∀ (ws : List Str) (a : Array Nat), (ws.foldl (fun acc p => acc ++ g ++ p.cps) a).toList = a.toList ++ ws.flatMap fun p => g.toList ++ p.cps.toList
  | [], a => by simp
  | w :: ws, a => by
    rw [List.foldl_cons, glue_fold g ws]
    simp [List.append_assoc]
theorem join_list {sep : Str} {c : Nat} (hs : sep.cps.toList = [c]) (ws : List Str) : (Txt.join sep ws).cps.toList = joinL c (ws.map fun z => z.cps.toList) := by
  show ((ws.drop 1).foldl (fun acc p => acc ++ sep.cps ++ p.cps) (ws.headD Str.empty).cps).toList = _
  rw [glue_fold, hs]
  cases ws with
  | nil => rfl
  | cons w ws =>
    show w.cps.toList ++ ws.flatMap (fun p => [c] ++ p.cps.toList) = w.cps.toList ++ (ws.map fun z => z.cps.toList).flatMap fun v => c :: v
    congr 1
    induction ws with
    | nil => rfl
    | cons x ws ih => rw [List.flatMap_cons, List.map_cons, List.flatMap_cons, ih]; rfl
def cutsF (l : List Nat) (c : Nat) (p n : Nat) : List Nat := (List.range' p n).filter fun i => l[i]? == some c
theorem subAt_one (x sep : Str) (c : Nat) (hs : sep.cps = #[c]) (i : Nat) (hi : i < x.cps.size) : Builtin.Str.subAt x sep i = (x.cps.toList[i]? == some c) := by
  unfold Builtin.Str.subAt
  have e : x.cps.extract i (i + sep.length) = #[x.cps[i]] := by
    have : sep.length = 1 := by show sep.cps.size = 1; rw [hs]; rfl
    rw [this]
    apply Array.ext'
    rw [Array.toList_extract]
    simp [List.extract, List.take_one, List.head?_drop, hi]
  rw [e, hs]
  have e2 : x.cps.toList[i]? = some x.cps[i] := by simp [hi]
  rw [e2]
  rw [Bool.eq_iff_iff]
  simp
theorem range_fold {β : Type} (f : Nat → β → β) (g : Nat → β → Id (ForInStep β)) (h : ∀ i b, g i b = pure (.yield (f i b))) : ∀ (l : List Nat) (b : β), (forIn (m := Id) l b g) = pure (l.foldl (fun b i => f i b) b)
  | [], b => rfl
  | x :: l, b => by
    rw [List.forIn_cons, h]
    show forIn l (f x b) g = _
    rw [range_fold f g h l]
    rfl
def stepO (x sep : Str) (i : Nat) (b : Array Nat × Nat) : Array Nat × Nat := if (decide (b.1.size < x.length + 1) && decide (b.2 ≤ i) && decide (i + sep.length ≤ x.length) && Builtin.Str.subAt x sep i) = true then (b.1.push i, i + sep.length) else b
theorem occ_run (x sep : Str) (c : Nat) (hs : sep.cps = #[c]) : ∀ k, k ≤ x.length → ∃ fr, fr ≤ k ∧ (List.range' 0 k).foldl (fun b i => stepO x sep i b) ((#[] : Array Nat), 0) = ((cutsF x.cps.toList c 0 k).toArray, fr)
  | 0, _ => ⟨0, Nat.le_refl _, rfl⟩
  | k + 1, h => by
    have hl : sep.length = 1 := by show sep.cps.size = 1; rw [hs]; rfl
    have hn : x.length = x.cps.size := rfl
    obtain ⟨fr, h1, h2⟩ := occ_run x sep c hs k (by omega)
    have hc : (cutsF x.cps.toList c 0 k).length ≤ k := by
      unfold cutsF
      have := List.length_filter_le (fun i => x.cps.toList[i]? == some c) (List.range' 0 k)
      rw [List.length_range'] at this
      exact this
    have hsnoc : cutsF x.cps.toList c 0 (k + 1) = cutsF x.cps.toList c 0 k ++ (if (x.cps.toList[k]? == some c) = true then [k] else []) := by
      unfold cutsF
      rw [List.range'_1_concat, List.filter_append, Nat.zero_add]
      congr 1
      simp only [List.filter_cons, List.filter_nil]
    rw [List.range'_1_concat, List.foldl_append, h2, hsnoc]
    have est : stepO x sep k ((cutsF x.cps.toList c 0 k).toArray, fr) = if (x.cps.toList[k]? == some c) = true then ((cutsF x.cps.toList c 0 k).toArray.push k, k + 1) else ((cutsF x.cps.toList c 0 k).toArray, fr) := by
      unfold stepO
      rw [subAt_one x sep c hs k (by omega), hl, List.size_toArray, decide_eq_true (show (cutsF x.cps.toList c 0 k).length < x.length + 1 by omega), decide_eq_true (show fr ≤ k from h1), decide_eq_true (show k + 1 ≤ x.length by omega)]
      rfl
    simp only [List.foldl_cons, List.foldl_nil, Nat.zero_add]
    rw [est]
    by_cases hk : (x.cps.toList[k]? == some c) = true
    · rw [if_pos hk, if_pos hk]
      exact ⟨k + 1, Nat.le_refl _, by simp⟩
    · rw [if_neg hk, if_neg hk]
      exact ⟨fr, by omega, by simp⟩
theorem occ_eq (x sep : Str) (c : Nat) (hs : sep.cps = #[c]) : Builtin.Str.occurrences x sep 0 x.length (x.length + 1) = cutsF x.cps.toList c 0 x.length := by
  have hl : sep.length = 1 := by show sep.cps.size = 1; rw [hs]; rfl
  show (forIn (m := Id) [:x.length + 1] ((#[] : Array Nat), (0 : Nat)) (fun (i : Nat) b => if (decide (b.1.size < x.length + 1) && decide (b.2 ≤ i) && decide (i + sep.length ≤ x.length) && Builtin.Str.subAt x sep i) = true then pure (.yield (b.1.push i, i + sep.length)) else pure (.yield (b.1, b.2)))).1.toList = _
  rw [Std.Legacy.Range.forIn_eq_forIn_range']
  simp only [Std.Legacy.Range.size, Nat.sub_zero, Nat.add_sub_cancel, Nat.div_one]
  rw [range_fold (stepO x sep) _ (fun i b => by unfold stepO; split <;> rfl)]
  show ((List.range' 0 (x.length + 1)).foldl (fun b i => stepO x sep i b) (#[], 0)).1.toList = _
  obtain ⟨fr, _, h2⟩ := occ_run x sep c hs x.length (Nat.le_refl _)
  rw [List.range'_1_concat, List.foldl_append, h2]
  simp only [List.foldl_cons, List.foldl_nil, Nat.zero_add]
  have est : stepO x sep x.length ((cutsF x.cps.toList c 0 x.length).toArray, fr) = ((cutsF x.cps.toList c 0 x.length).toArray, fr) := by
    unfold stepO
    rw [hl, decide_eq_false (show ¬ x.length + 1 ≤ x.length by omega), Bool.and_false, Bool.false_and]
    rfl
  rw [est]
def mk (l : List Nat) : Str := ⟨l.toArray⟩
theorem sub_mk (x : Str) (i j : Nat) : Builtin.Str.strSub x i j = mk ((x.cps.toList.drop i).take (j - i)) := by
  apply Txm.ext
  show (x.cps.extract i j).toList = ((x.cps.toList.drop i).take (j - i)).toArray.toList
  rw [Array.toList_extract]
theorem parts_run (x : Str) (c : Nat) : ∀ (k p q : Nat), p + k = x.length → q ≤ p → ((q :: (cutsF x.cps.toList c p k).map (· + 1)).zip (cutsF x.cps.toList c p k ++ [x.length])).map (fun (i, j) => Builtin.Str.strSub x i j) = (pre ((x.cps.toList.drop q).take (p - q)) (splitL c (x.cps.toList.drop p))).map mk
  | 0, p, q, h, hq => by
    have hn : x.length = x.cps.toList.length := by simp [Str.length]
    have e0 : cutsF x.cps.toList c p 0 = [] := rfl
    rw [e0, List.drop_of_length_le (by omega : x.cps.toList.length ≤ p)]
    show [Builtin.Str.strSub x q x.length] = [mk (_ ++ [])]
    rw [sub_mk, List.append_nil, ← h, Nat.add_zero]
  | k + 1, p, q, h, hq => by
    have hn : x.length = x.cps.toList.length := by simp [Str.length]
    have hp : p < x.cps.toList.length := by omega
    have ed : x.cps.toList.drop p = x.cps.toList[p] :: x.cps.toList.drop (p + 1) := List.drop_eq_getElem_cons hp
    have ec : cutsF x.cps.toList c p (k + 1) = if x.cps.toList[p] = c then p :: cutsF x.cps.toList c (p + 1) k else cutsF x.cps.toList c (p + 1) k := by
      unfold cutsF
      rw [List.range'_succ, List.filter_cons, List.getElem?_eq_getElem hp]
      simp
    rw [ec, ed]
    by_cases hc : x.cps.toList[p] = c
    · rw [if_pos hc, hc, splitL_at]
      have ih := parts_run x c k (p + 1) (p + 1) (by omega) (Nat.le_refl _)
      rw [Nat.sub_self, List.take_zero, pre_nil (splitL_ne _ _)] at ih
      show Builtin.Str.strSub x q p :: _ = mk (_ ++ []) :: (splitL c (x.cps.toList.drop (p + 1))).map mk
      rw [List.append_nil, sub_mk, ← ih]
      rfl
    · rw [if_neg hc, splitL_cons hc, pre_pre _ _ (splitL_ne _ _), parts_run x c k (p + 1) q (by omega) (by omega)]
      congr 2
      rw [show p + 1 - q = (p - q) + 1 by omega, List.take_add_one, List.getElem?_drop, show q + (p - q) = p by omega, List.getElem?_eq_getElem hp]
      rfl
theorem split_eq {x sep : Str} {c : Nat} (hs : sep.cps = #[c]) (hc : c < 256) : Txt.split x sep = (splitL c x.cps.toList).map mk := by
  have hl : sep.length = 1 := by show sep.cps.size = 1; rw [hs]; rfl
  have hn : x.length = x.cps.toList.length := by simp [Str.length]
  have hk : Builtin.Str.strKind sep = 1 := by
    unfold Builtin.Str.strKind
    rw [hs, if_pos (by simp [hc])]
  have hk2 : ¬ Builtin.Str.strKind x < 1 := by
    unfold Builtin.Str.strKind
    split
    · decide
    · split <;> decide
  have hw := parts_run x c x.length 0 0 (by omega) (Nat.le_refl _)
  rw [Nat.sub_self, List.take_zero, List.drop_zero, pre_nil (splitL_ne _ _)] at hw
  have hx : mk x.cps.toList = x := by
    apply Txm.ext
    simp [mk]
  unfold Txt.split
  rw [occ_eq x sep c hs, hl, hk, decide_eq_false hk2, Bool.or_false]
  split
  · rename_i h
    have h0 : x.length = 0 := by
      have := of_decide_eq_true h
      omega
    have e : x.cps.toList = [] := List.length_eq_zero_iff.mp (by omega)
    rw [e] at hx ⊢
    rw [← hx]
    rfl
  · split
    · rename_i h
      have e : cutsF x.cps.toList c 0 x.length = [] := List.isEmpty_iff.mp h
      rw [e] at hw
      rw [← hw]
      show [x] = [Builtin.Str.strSub x 0 x.length]
      rw [sub_mk, List.drop_zero, Nat.sub_zero, List.take_of_length_le (by omega), hx]
    · exact hw
theorem sp_arr : (" " : Str).cps = #[32] := by decide +kernel
def noC (c : Nat) (z : Str) : Prop := c ∉ z.cps.toList
/-- a text of words -/
theorem split_words {z : Str} {ws : List Str} (h : z.cps.toList = joinL 32 (ws.map fun y => y.cps.toList)) (h0 : ws ≠ []) (hw : ∀ y ∈ ws, noC 32 y) : Txt.split z " " = ws := by
  rw [split_eq sp_arr (by decide), h, split_join (by simpa using h0) (fun w hw' => by
    obtain ⟨y, hy, rfl⟩ := List.mem_map.mp hw'
    exact hw y hy), List.map_map]
  have : ∀ y : Str, (mk ∘ fun y : Str => y.cps.toList) y = y := fun y => by
    apply Txm.ext
    simp [mk]
  rw [List.map_congr_left (g := id) (fun y _ => this y), List.map_id]
theorem split_joined {ws : List Str} (h0 : ws ≠ []) (hw : ∀ y ∈ ws, noC 32 y) : Txt.split (Txt.join " " ws) " " = ws := split_words (join_list sp_list ws) h0 hw
end Spl

namespace L2
open PySem
section
variable {X : Cx}
/-! a text told n times -/
theorem op_mul_str : OpR X (binaryOp .Mult) (fun x y H Q => ∃ (i : Str) (n : Int), x = .str i ∧ y = .int n ∧ MulOk i n ∧ Q (.str (Txt.mul i n)) H) := by
  intro pins s σ H x y v u Q I rx ry h
  obtain ⟨i, n, rfl, rfl, hz, q⟩ := h
  obtain ⟨t, rfl⟩ := rx
  obtain ⟨t', rfl⟩ := ry
  exact SB.mul hz fun t' tk => ⟨.str (Txt.mul i n), H, I.tok _, ⟨_, rfl⟩, q⟩
theorem mul_ok {i : Str} {n : Int} (h0 : i.length ≤ 1000) (h1 : -1000 ≤ n) (h2 : n ≤ 1000) : MulOk i n := by
  refine ⟨?_, fun h3 _ => ?_, fun h3 _ => ?_⟩
  · rw [decide_eq_false (by omega), decide_eq_false (by omega)]
    rfl
  · have : n * 1000 ≤ 2 ^ 63 - 1 := by omega
    have h4 : (1000 : Int) ≤ (2 ^ 63 - 1) / n := (Int.le_ediv_iff_mul_le (by omega)).mpr (by omega)
    omega
  · have : i.length * n.toNat ≤ 1000 * 1000 := Nat.mul_le_mul h0 (by omega)
    have e : (1000000 : Nat) ≤ sizeLine := by decide
    unfold Builtin.Str.tooLong
    simp
    omega
theorem fold_rep (x : Array Nat) : ∀ (k : Nat) (a : Array Nat), ((List.replicate k x).foldl (· ++ ·) a).toList = a.toList ++ (List.replicate k x.toList).flatten
  | 0, a => by simp
  | k + 1, a => by
    rw [List.replicate_succ, List.foldl_cons, fold_rep x k, List.replicate_succ, List.flatten_cons, Array.toList_append, List.append_assoc]
theorem mul_list (x : Str) (n : Int) : (Txt.mul x n).cps.toList = (List.replicate n.toNat x.cps.toList).flatten := by
  unfold Txt.mul
  split
  · rename_i h
    rw [show n.toNat = 0 by omega]
    rfl
  · split
    · rename_i h1 h2
      rcases Bool.or_eq_true_iff.mp h2 with h | h
      · have : n = 1 := by simpa using h
        subst this
        simp
      · have : x.cps.toList = [] := by
          have : x.cps.size = 0 := by simpa [Str.length] using h
          simpa using this
        rw [this]
        simp
    · rw [show (⟨(List.replicate n.toNat x.cps).foldl (· ++ ·) #[]⟩ : Str).cps.toList = ((List.replicate n.toNat x.cps).foldl (· ++ ·) #[]).toList from rfl, fold_rep]
      simp
end
end L2

namespace Mix
open PySem L2
def top (i : Nat) : Stmt := PySem.Challenge.pw_nesthall_k43_charts_written.main.body.getD i (.Pass ⟨0, 0, 0, 0⟩)
abbrev s_written : Stmt := top 1
abbrev s_guards_within : Stmt := top 3
abbrev s_guard_text : Stmt := top 5
abbrev s_deed_text : Stmt := top 6
abbrev s_head_rows : Stmt := top 7
abbrev s_deed_rows : Stmt := top 8
abbrev s_room_rows : Stmt := top 9
abbrev s_door_rows : Stmt := top 10
abbrev s_shown : Stmt := top 11
abbrev sCell : Stmt := top 13
abbrev sMixed : Stmt := top 14
abbrev s_L_word : Stmt := top 15
abbrev s_L_name : Stmt := top 16
abbrev s_L_names : Stmt := top 17
abbrev s_L_deed : Stmt := top 18
abbrev s_L_deeds : Stmt := top 19
abbrev s_L_guard : Stmt := top 20
abbrev s_L_boxes : Stmt := top 21
abbrev sRooms : Stmt := top 22
abbrev s_L_doors : Stmt := top 23
abbrev s_L_chart : Stmt := top 24
abbrev s_L_deed_row : Stmt := top 25
abbrev s_L_guard_row : Stmt := top 26
abbrev s_L_rows : Stmt := top 27
abbrev sLawF : Stmt := top 28
abbrev sNear : Str := "_law_near"
end Mix

namespace Mix
open PySem L2
/-! the cell of a script and the mixed draw: the same two defs stand in every law -/
def spCell (K : PySem.W.Frag) : Sp := fun vs H Q _ => ∃ (a : Addr) (ns : List Int) (k : Int), vs = [.ref a, .int k] ∧ SqL K H a (ns.map V.int) ∧ ns.length ≤ 63 ∧ ∀ v : Int, Q (.int v) H
def spMixed (K : PySem.W.Frag) : Sp := fun vs H Q _ => ∃ (a : Addr) (ns : List Int) (k salt : Int), vs = [.ref a, .int k, .int salt] ∧ SqL K H a (ns.map V.int) ∧ ns.length ≤ 63 ∧ (0 ≤ k ∧ k ≤ 1000000) ∧ (0 ≤ salt ∧ salt ≤ 1000) ∧
  ∀ r : Int, 0 ≤ r → r < 2147483648 → Q (.int r) H
section
variable {P : Program} {w : World} {K : PySem.W.Frag} {mg : Str → Option Value} {base : Heap}
theorem scC : FnScope ["_law_script", "_law_k"] ["_law_script", "_law_k"] (defScope sCell) := ⟨rfl, rfl, rfl, by decide +kernel, rfl, by decide +kernel, by decide +kernel⟩
theorem ok_cell {f : Addr} {fd : FuncData} (F : Fun K "_law_cell_at" "_law_cell_at" sCell f fd) (ml : mg "len" = none) : FnOk P w K mg base CX0 1 f fd ["_law_script", "_law_k"] (spCell K) := by
  refine F.ok scC (fun vs H Q E h => ?_) (fun cdv A outer s H vs Q E hr h => ?_)
  · obtain ⟨a, ns, k, rfl, _⟩ := h
    rfl
  obtain ⟨a, ns, k, rfl, hS, h63, q⟩ := h
  refine ⟨_, pss_cons (ps_if (pt_cmpR op_eq (pe_callB call_len_seq rfl ml PySem.boot_len (pa_cons (pv 0) pa_nil)) pe_int (nomark _)) (pss_one (ps_ret pe_int)) pss_nil)
    (pss_one (ps_ret (pe_ix ix_list (pv 0) (pe_op op_mod (pv 1) (pe_callB call_len_seq rfl ml PySem.boot_len (pa_cons (pv 0) pa_nil))) (fun _ _ => rfl)))), ?_⟩
  have hl : (ns.map V.int).length = ns.length := List.length_map _
  refine ⟨_, rfl, a, _, rfl, .inl hS, rfl, _, rfl, ?_⟩
  refine ite2 (fun c => ?_) (fun c => ?_)
  · exact q 0
  · have c' : ¬ V.int (((ns.map V.int).length : Nat) : Int) = V.int 0 := of_decide_eq_false (Bool.eq_false_iff.mpr c)
    have hp : (0 : Int) < (((ns.map V.int).length : Nat) : Int) := by
      rw [hl] at c' ⊢
      have : ns.length ≠ 0 := fun z => c' (by rw [z]; rfl)
      omega
    obtain ⟨v, hv⟩ := atI_int (ns := ns) (i := k % (((ns.map V.int).length : Nat) : Int)) (Int.emod_nonneg _ (by omega)) (by have := Int.emod_lt_of_pos k hp; rw [hl] at this ⊢; exact this)
    exact ⟨_, rfl, _, rfl, _, rfl, a, _, rfl, .inl hS, _, _, rfl, rfl, hp, a, _, _, _, rfl, rfl, hS, hv, q v⟩
theorem scM : FnScope ["_law_script", "_law_k", "_law_salt", "_law_cell", "_law_lap", sNear] ["_law_script", "_law_k", "_law_salt"] (defScope sMixed) := ⟨rfl, rfl, rfl, by decide +kernel, rfl, by decide +kernel, by decide +kernel⟩
theorem mulIn {i j : Int} (h0 : 0 ≤ i) (h1 : i < 18446744073709551616) : CMul i j := .inl ⟨by omega, by omega⟩
theorem ok_mixed {f g : Addr} {fd gd : FuncData} (F : Fun K "_law_mixed" "_law_mixed" sMixed f fd) (G : FnOk P w K mg base CX0 1 g gd ["_law_script", "_law_k"] (spCell K)) (bG : Binds K gd ["_law_script", "_law_k"] []) (kG : PySem.W.keepIn K (.ref g) = true) (mG : mg "_law_cell_at" = some (.ref g))
    (ml : mg "len" = none) (mm : mg "max" = none) : FnOk P w K mg base CX0 2 f fd ["_law_script", "_law_k", "_law_salt"] (spMixed K) := by
  refine F.ok scM (fun vs H Q E h => ?_) (fun cdv A outer s H vs Q E hr h => ?_)
  · obtain ⟨a, ns, k, salt, rfl, _⟩ := h
    rfl
  obtain ⟨a, ns, k, salt, rfl, hS, h63, hk, hs, q⟩ := h
  refine ⟨_, pss_cons (ps_set (i := 3) scM.nd rfl (Or.inl rfl) (pe_call G hr rfl mG kG bG .nil pass0 (pa_cons (pv 0) (pa_cons (pv 1) pa_nil))))
    (pss_cons (ps_set (i := 4) scM.nd rfl (Or.inl rfl) (pe_op op_fdiv (pv 1) (pe_callB (call_max2 rfl) rfl mm PyProof.Rows.boot_max (pa_cons pe_int (pa_cons (pe_callB call_len_seq rfl ml PySem.boot_len (pa_cons (pv 0) pa_nil)) pa_nil)))))
    (pss_cons (ps_set (i := 5) scM.nd rfl (Or.inl rfl) (pe_op op_add (pe_op op_add (pe_op op_add (pe_op op_and (pv 3) pe_int) (pe_op op_mul (pe_op op_mul pe_int (pv 1)) (pv 1))) (pe_op op_mul (pe_op op_mul pe_int (pv 2)) (pv 2))) pe_int))
    (pss_cons (ps_set (i := 5) scM.nd rfl (Or.inl rfl) (pe_op op_mod (pe_op op_mul (pv 5) pe_int) pe_int))
    (pss_cons (ps_set (i := 5) scM.nd rfl (Or.inl rfl) (pe_op op_mod (pe_op op_mul (pv 5) (pv 5)) pe_int))
    (pss_one (ps_ret (pe_op op_and (pe_op op_add (pe_op op_shr (pv 3) (pe_op op_mul pe_int (pe_op op_add (pv 2) (pe_op op_mul pe_int (pv 4))))) (pv 5)) pe_int))))))), ?_⟩
  have hl : (ns.map V.int).length = ns.length := List.length_map _
  refine ⟨_, rfl, _, rfl, a, ns, k, rfl, hS, h63, fun v => ?_⟩
  -- lap
  refine ⟨_, rfl, _, rfl, a, _, rfl, .inl hS, _, _, rfl, _, _, rfl, rfl, ?_⟩
  have hM : 0 < (if (((ns.map V.int).length : Nat) : Int) > 1 then (((ns.map V.int).length : Nat) : Int) else 1) ∧ (if (((ns.map V.int).length : Nat) : Int) > 1 then (((ns.map V.int).length : Nat) : Int) else 1) < 1073741824 := by
    rw [hl]
    split <;> omega
  refine ⟨hM, ?_⟩
  have hlap : 0 ≤ k / (if (((ns.map V.int).length : Nat) : Int) > 1 then (((ns.map V.int).length : Nat) : Int) else 1) := Int.ediv_nonneg hk.1 (Int.le_of_lt hM.1)
  -- near
  refine ⟨_, rfl, _, _, rfl, rfl, _, rfl, _, _, rfl, rfl, mulIn (by decide) (by decide), _, rfl, _, _, rfl, rfl, mulIn (by omega) (by omega), _, _, rfl, rfl, _, rfl, _, _, rfl, rfl, mulIn (by decide) (by decide), _, rfl, _, _, rfl, rfl, mulIn (by omega) (by omega), _, _, rfl, rfl, _, _, rfl, rfl, ?_⟩
  refine ⟨_, rfl, _, _, rfl, rfl, .inr ⟨by decide, by decide⟩, _, _, rfl, rfl, (by show (0 : Int) < 2147483647; decide), ?_⟩
  have b1 := Int.emod_nonneg ((Builtin.bitAnd v 2147483647 + 1009 * k * k + 7919 * salt * salt + 12) * 48271) (show (2147483647 : Int) ≠ 0 by decide)
  have b2 := Int.emod_lt_of_pos ((Builtin.bitAnd v 2147483647 + 1009 * k * k + 7919 * salt * salt + 12) * 48271) (show (0 : Int) < 2147483647 by decide)
  refine ⟨_, rfl, _, rfl, _, _, rfl, rfl, mulIn b1 (Int.lt_trans b2 (by decide)), _, _, rfl, rfl, (by show (0 : Int) < 2147483629; decide), ?_⟩
  refine ⟨_, rfl, _, rfl, _, rfl, _, _, rfl, rfl, mulIn (by decide) (by decide), _, _, rfl, rfl, _, _, rfl, rfl, mulIn (by decide) (by decide), _, _, rfl, rfl, ?_, _, rfl, _, _, rfl, rfl, _, _, rfl, rfl, ?_⟩
  · have nn : ∀ lap : Int, 0 ≤ lap → 0 ≤ 31 * (salt + 128 * lap) := fun lap h => by omega
    exact nn _ hlap
  · exact q _ (maskB _).1 (maskB _).2
end
end Mix

namespace Prg
open PySem L2 Mix Gds Dds Wds Cht
/-! the program's small functions: guards_within -/
def kids : Gd → List Gd
  | .neg g => [g]
  | .both g h => [g, h]
  | .either g h => [g, h]
  | _ => []
def spWithin : Sp := fun vs H Q _ => ∃ (vg : V) (g : Gd), vs = [vg] ∧ GdIn H vg g ∧ ∀ (p : Addr) (us : List V) (H' : Hp), Same H H' → H' p = some (.lst us) → All2 (GdIn H') us (kids g) → Q (.ref p) H'
section
variable {P : Program} {w : World} {K : PySem.W.Frag} {mg : Str → Option Value} {base : Heap}
theorem sc_within : FnScope ["guard"] ["guard"] (defScope s_guards_within) := ⟨rfl, rfl, rfl, by decide +kernel, rfl, by decide +kernel, by decide +kernel⟩
theorem ok_within {f : Addr} {fd : FuncData} (F : Fun K "guards_within" "guards_within" s_guards_within f fd) : FnOk P w K mg base CX0 1 f fd ["guard"] spWithin := by
  refine F.ok sc_within (fun vs H Q E h => ?_) (fun cdv A outer s H vs Q E hr h => ?_)
  · obtain ⟨vg, g, rfl, _⟩ := h
    rfl
  obtain ⟨vg, g, rfl, hg, q⟩ := h
  refine ⟨_, (pss_cons (ps_if (pt_cmpR op_eq (pe_ix ix_tup (pv 0) pe_int (fun _ _ => rfl)) pe_str (nomark _))
      (pss_one (ps_ret (pe_lst (pa_cons (pe_ix ix_tup (pv 0) pe_int (fun _ _ => rfl)) pa_nil))))
      pss_nil)
    (pss_cons (ps_if (pt_cmpR op_in_seq (pe_ix ix_tup (pv 0) pe_int (fun _ _ => rfl)) (pe_tup (pa_cons pe_str (pa_cons pe_str pa_nil))) rfl)
      (pss_one (ps_ret (pe_lst (pa_cons (pe_ix ix_tup (pv 0) pe_int (fun _ _ => rfl)) (pa_cons (pe_ix ix_tup (pv 0) pe_int (fun _ _ => rfl)) pa_nil)))))
      pss_nil)
    (pss_one (ps_ret (pe_lst pa_nil))))), ?_⟩
  have no : ∀ (p p2 : Addr) (o : HO), H p = none → (upd H p o) p2 = none → kids g = [] → Q (.ref p2) (upd (upd H p o) p2 (.lst [])) := fun p p2 o hp hp2 e => by
    have i0 : All2 (GdIn (upd (upd H p o) p2 (.lst []))) [] (kids g) := by
      rw [e]
      exact .nil
    exact q p2 [] _ ((same_new hp _).trans (same_new hp2 _)) upd_same i0
  cases hg with
  | @yes a e =>
    refine ⟨_, rfl, a, _, _, _, rfl, rfl, SqT.of e, rfl, rfl, _, rfl, strNe (by decide +kernel) ?_⟩
    exact ⟨_, rfl, a, _, _, _, rfl, rfl, SqT.of e, rfl, small_le (by show 2 ≤ 1000; decide), fun p hp => ⟨p, _, rfl, .inr (SqT.of upd_same), rfl, rfl, _, rfl, ifF (by decide +kernel) ⟨Nat.zero_le _, fun p2 hp2 => no p p2 _ hp hp2 rfl⟩⟩⟩
  | @is a c m e =>
    refine ⟨_, rfl, a, _, _, _, rfl, rfl, SqT.of e, rfl, rfl, _, rfl, strNe (by decide +kernel) ?_⟩
    exact ⟨_, rfl, a, _, _, _, rfl, rfl, SqT.of e, rfl, small_le (by show 2 ≤ 1000; decide), fun p hp => ⟨p, _, rfl, .inr (SqT.of upd_same), rfl, rfl, _, rfl, ifF (by decide +kernel) ⟨Nat.zero_le _, fun p2 hp2 => no p p2 _ hp hp2 rfl⟩⟩⟩
  | @under a c m e =>
    refine ⟨_, rfl, a, _, _, _, rfl, rfl, SqT.of e, rfl, rfl, _, rfl, strNe (by decide +kernel) ?_⟩
    exact ⟨_, rfl, a, _, _, _, rfl, rfl, SqT.of e, rfl, small_le (by show 2 ≤ 1000; decide), fun p hp => ⟨p, _, rfl, .inr (SqT.of upd_same), rfl, rfl, _, rfl, ifF (by decide +kernel) ⟨Nat.zero_le _, fun p2 hp2 => no p p2 _ hp hp2 rfl⟩⟩⟩
  | @inn a r e =>
    refine ⟨_, rfl, a, _, _, _, rfl, rfl, SqT.of e, rfl, rfl, _, rfl, strNe (by decide +kernel) ?_⟩
    exact ⟨_, rfl, a, _, _, _, rfl, rfl, SqT.of e, rfl, small_le (by show 2 ≤ 1000; decide), fun p hp => ⟨p, _, rfl, .inr (SqT.of upd_same), rfl, rfl, _, rfl, ifF (by decide +kernel) ⟨Nat.zero_le _, fun p2 hp2 => no p p2 _ hp hp2 rfl⟩⟩⟩
  | @neg a v g e hg =>
    refine ⟨_, rfl, a, _, _, _, rfl, rfl, SqT.of e, rfl, rfl, _, rfl, strEq ?_⟩
    exact ⟨_, rfl, a, _, _, _, rfl, rfl, SqT.of e, rfl, small_le (by show 1 ≤ 1000; decide), fun p hp => q p [v] _ (same_new hp _) upd_same (.cons (hg.mono (KeepT.new hp _)) .nil)⟩
  | @both a v u g h e hg hh =>
    refine ⟨_, rfl, a, _, _, _, rfl, rfl, SqT.of e, rfl, rfl, _, rfl, strNe (by decide +kernel) ?_⟩
    refine ⟨_, rfl, a, _, _, _, rfl, rfl, SqT.of e, rfl, small_le (by show 2 ≤ 1000; decide), fun p hp => ⟨p, _, rfl, .inr (SqT.of upd_same), rfl, rfl, _, rfl, ifT (by decide +kernel) ?_⟩⟩
    have e' := (same_new hp (.tup [.str "both", .str "either"])) _ _ e
    refine ⟨_, rfl, a, _, _, _, rfl, rfl, SqT.of e', rfl, _, rfl, a, _, _, _, rfl, rfl, SqT.of e', rfl, small_le (by show 2 ≤ 1000; decide), fun p2 hp2 => ?_⟩
    have k2 := (KeepT.new hp (.tup [.str "both", .str "either"])).trans (KeepT.new hp2 (.lst [v, u]))
    exact q p2 [v, u] _ ((same_new hp _).trans (same_new hp2 _)) upd_same (.cons (hg.mono k2) (.cons (hh.mono k2) .nil))
  | @either a v u g h e hg hh =>
    refine ⟨_, rfl, a, _, _, _, rfl, rfl, SqT.of e, rfl, rfl, _, rfl, strNe (by decide +kernel) ?_⟩
    refine ⟨_, rfl, a, _, _, _, rfl, rfl, SqT.of e, rfl, small_le (by show 2 ≤ 1000; decide), fun p hp => ⟨p, _, rfl, .inr (SqT.of upd_same), rfl, rfl, _, rfl, ifT (by decide +kernel) ?_⟩⟩
    have e' := (same_new hp (.tup [.str "both", .str "either"])) _ _ e
    refine ⟨_, rfl, a, _, _, _, rfl, rfl, SqT.of e', rfl, _, rfl, a, _, _, _, rfl, rfl, SqT.of e', rfl, small_le (by show 2 ≤ 1000; decide), fun p2 hp2 => ?_⟩
    have k2 := (KeepT.new hp (.tup [.str "both", .str "either"])).trans (KeepT.new hp2 (.lst [v, u]))
    exact q p2 [v, u] _ ((same_new hp _).trans (same_new hp2 _)) upd_same (.cons (hg.mono k2) (.cons (hh.mono k2) .nil))
end
end Prg
namespace Num
open PySem L2 Mix Gds Dds Wds Cht Dig
def spWritten : Sp := fun vs H Q _ => ∃ n : Int, vs = [.int n] ∧ n.natAbs.log2 < 1920 ∧ Q (.str ⟨(figs n).toArray⟩) H
section
variable {P : Program} {w : World} {K : PySem.W.Frag} {mg : Str → Option Value} {base : Heap}
theorem sc_written : FnScope ["number"] ["number"] (defScope s_written) := ⟨rfl, rfl, rfl, by decide +kernel, rfl, by decide +kernel, by decide +kernel⟩
theorem ok_written {f : Addr} {fd : FuncData} (F : Fun K "written" "written" s_written f fd) (m_str : mg "str" = none) : FnOk P w K mg base CX0 1 f fd ["number"] spWritten := by
  refine F.ok sc_written (fun vs H Q E h => ?_) (fun cdv A outer s H vs Q E hr h => ?_)
  · obtain ⟨n, rfl, _⟩ := h
    rfl
  obtain ⟨n, rfl, hn, q⟩ := h
  refine ⟨_, (pss_one (ps_ret (pe_callTy call_strI rfl m_str PyProof.Rows.boot_str (pa_cons (pv 0) pa_nil)))), ?_⟩
  refine ⟨_, rfl, _, rfl, hn, ?_⟩
  rw [str_figs]
  exact q
end
end Num

namespace D42
open PySem L2 Mix Gds Dds Wds Cht Spl Txm Dig
theorem at0 {k : Str} {r : List Str} : atI ((k :: r).map V.str) 0 = some (.str k) := atI_nat (j := 0) rfl
theorem at1 {k a : Str} {r : List Str} : atI ((k :: a :: r).map V.str) 1 = some (.str a) := atI_nat (j := 1) rfl
theorem at2 {k a b : Str} {r : List Str} : atI ((k :: a :: b :: r).map V.str) 2 = some (.str b) := atI_nat (j := 2) rfl
def fig (n : Int) : Str := ⟨(Dig.figs n).toArray⟩
theorem fig_le {m : Int} (hm : m.natAbs < 10 ^ 300) : (fig m).length ≤ 302 := by
  show (Dig.figs m).toArray.size ≤ 302
  rw [List.size_toArray]
  unfold Dig.figs
  have := Dig.D_len 300 m.natAbs hm
  rw [List.length_append]
  have z1 : (if m < 0 then [45] else ([] : List Nat)).length ≤ 1 := by split <;> decide
  have z2 : (if m = 0 then [48] else Dig.D m.natAbs).length ≤ 300 := by
    split
    · decide
    · exact this
  omega
theorem log_lt {m : Nat} (h : m < 10 ^ 300) : m.log2 < 1920 := by
  by_cases e : m = 0
  · subst e
    decide
  · rw [Nat.log2_lt e]
    exact Nat.lt_trans h (by decide)
theorem app_list (a b : Str) : (a ++ b).cps.toList = a.cps.toList ++ b.cps.toList := by
  show (a.cps ++ b.cps).toList = _
  rw [Array.toList_append]
theorem inA_let : ∀ c, c < 123 → 97 ≤ c → inA c = true := by decide +kernel
theorem isW_of {z : Str} (h1 : 1 ≤ z.length) (h2 : z.length ≤ 12) (h : ∀ c ∈ z.cps.toList, inA c = true) : isW z = true := by
  unfold isW
  rw [decide_eq_true (by omega : (1 : Int) ≤ (z.length : Int)), decide_eq_true (by omega : (z.length : Int) ≤ 12), Bool.and_self, Bool.true_and, List.all_map, List.all_eq_true]
  exact fun c hc => h c hc
theorem isW_len' {z : Str} (h : isW z = true) : 1 ≤ z.length ∧ z.length ≤ 12 := by
  unfold isW at h
  have := (Bool.and_eq_true_iff.mp (Bool.and_eq_true_iff.mp h).1)
  have h1 := of_decide_eq_true this.1
  have h2 := of_decide_eq_true this.2
  omega
theorem isW_all {z : Str} (h : isW z = true) : ∀ c ∈ z.cps.toList, inA c = true := by
  unfold isW at h
  have := (Bool.and_eq_true_iff.mp h).2
  rw [List.all_map, List.all_eq_true] at this
  exact fun c hc => this c hc
theorem isW_sp {z : Str} (h : isW z = true) : noC 32 z := fun hc => by
  have := isW_all h 32 hc
  exact absurd this (by decide +kernel)
theorem isW_ne {z : Str} (h : isW z = true) : z ≠ "" := fun e => by
  have := isW_len' h
  rw [e] at this
  exact absurd this.1 (by decide +kernel)
theorem D_all : ∀ (n : Nat), ∀ c ∈ D n, ∃ d, d < 10 ∧ c = 48 + d := by
  intro n
  induction n using Nat.strongRecOn with
  | ind n ih =>
    intro c hc
    by_cases e : n = 0
    · rw [e, D_zero] at hc
      cases hc
    · rw [D_pos e] at hc
      rcases List.mem_append.mp hc with h | h
      · exact ih (n / 10) (by omega) c h
      · rw [List.mem_singleton.mp h]
        exact ⟨n % 10, by omega, rfl⟩
theorem fig_list (n : Int) : (fig n).cps.toList = figs n := by
  unfold fig
  simp
theorem fig_le' {m : Int} (hm : m.natAbs ≤ 10 ^ 30 + 1) : (fig m).length ≤ 33 := by
  show (Dig.figs m).toArray.size ≤ 33
  rw [List.size_toArray]
  unfold Dig.figs
  have := Dig.D_len 31 m.natAbs (Nat.lt_of_le_of_lt hm (by decide))
  rw [List.length_append]
  have z1 : (if m < 0 then [45] else ([] : List Nat)).length ≤ 1 := by split <;> decide
  have z2 : (if m = 0 then [48] else Dig.D m.natAbs).length ≤ 31 := by
    split
    · decide
    · exact this
  omega
theorem cutD (xs : List V) {k : Nat} (h : k ≤ xs.length) : cutV xs (some (k : Int)) none = xs.drop k := by
  unfold cutV
  rw [HT.sIx_none, HT.sIx_nat, Nat.min_eq_left h, List.take_of_length_le (by rw [List.length_drop]; exact Nat.le_refl _)]
theorem atI_strs' {zs : List Str} {i : Int} (h0 : 0 ≤ i) (h1 : i < (zs.length : Int)) : ∃ z ∈ zs, atI (zs.map V.str) i = some (.str z) := by
  obtain ⟨v, hv, e⟩ := atI_some (xs := zs.map V.str) (i := i) h0 (by rw [List.length_map]; exact h1)
  obtain ⟨z, hz, rfl⟩ := List.mem_map.mp hv
  exact ⟨z, hz, e⟩
theorem app_assoc (a b c : Str) : (a ++ b) ++ c = a ++ (b ++ c) := by
  apply Txm.ext
  rw [app_list, app_list, app_list, app_list, List.append_assoc]
theorem sp_empty : noC 32 ("" : Str) := by unfold noC; decide +kernel
end D42

namespace G41
open PySem L2 Mix Gds Dds Wds Cht Num Spl Txm Dig D42
def kG : Gd → Str
  | .yes => "yes"
  | .is _ _ => "is"
  | .under _ _ => "under"
  | .inn _ => "in"
  | .neg _ => "not"
  | .both _ _ => "both"
  | .either _ _ => "either"
def wordsG (nb nr : List Str) : Gd → List Str
  | .yes => ["yes"]
  | .is b n => ["is", nb.getD b.toNat "", fig n]
  | .under b n => ["under", nb.getD b.toNat "", fig n]
  | .inn r => ["in", nr.getD r.toNat ""]
  | .neg g => "not" :: wordsG nb nr g
  | .both g h => "both" :: (wordsG nb nr g ++ wordsG nb nr h)
  | .either g h => "either" :: (wordsG nb nr g ++ wordsG nb nr h)
def Fit (nb nr : Nat) : Gd → Prop
  | .yes => True
  | .is b n => (0 ≤ b ∧ b < (nb : Int)) ∧ -big ≤ n ∧ n ≤ big
  | .under b n => (0 ≤ b ∧ b < (nb : Int)) ∧ -big ≤ n ∧ n ≤ big
  | .inn r => 0 ≤ r ∧ r < (nr : Int)
  | .neg g => Fit nb nr g
  | .both g h => Fit nb nr g ∧ Fit nb nr h
  | .either g h => Fit nb nr g ∧ Fit nb nr h
theorem at_nm {zs : List Str} {i : Int} (h0 : 0 ≤ i) (h1 : i < (zs.length : Int)) : ∃ hi : i.toNat < zs.length, zs.getD i.toNat ("" : Str) = zs[i.toNat] := by
  have hi : i.toNat < zs.length := by omega
  exact ⟨hi, by rw [List.getD_eq_getElem?_getD, List.getElem?_eq_getElem hi]; rfl⟩
theorem FsIn.mono {H H' : Hp} {v : V} {z : Str} (h : FsIn H v z) (k : KeepT H H') : FsIn H' v z := by
  obtain ⟨b, tl, e, h⟩ := h
  exact ⟨b, tl, e, k _ _ h⟩
def Nms (K : PySem.W.Frag) (H : Hp) (a : Addr) (zs : List Str) : Prop := ∃ xs, SqT K H a xs ∧ All2 (FsIn H) xs zs
theorem Nms.mono {K : PySem.W.Frag} {H H' : Hp} {a : Addr} {zs : List Str} (h : Nms K H a zs) (s : Same H H') : Nms K H' a zs := by
  obtain ⟨xs, h1, h2⟩ := h
  exact ⟨xs, s.seqT h1, h2.imp fun v z e => FsIn.mono e (KeepT.of s)⟩
theorem Nms.at {K : PySem.W.Frag} {H : Hp} {a : Addr} {zs : List Str} (h : Nms K H a zs) {i : Int} (h0 : 0 ≤ i) (h1 : i < (zs.length : Int)) : ∃ xs b tl, SqT K H a xs ∧ atI xs i = some (.ref b) ∧ H b = some (.tup (.str (zs.getD i.toNat ("" : Str)) :: tl)) := by
  obtain ⟨xs, h2, h3⟩ := h
  obtain ⟨hi, e⟩ := at_nm h0 h1
  obtain ⟨v, hv, b, tl, rfl, hb⟩ := h3.at hi
  refine ⟨xs, b, tl, h2, ?_, by rw [e]; exact hb⟩
  rw [show ((i.toNat : Nat) : Int) = i by omega] at hv
  exact hv
def wt : Gd → Nat
  | .neg g => wt g + 4
  | .both g h => wt g + wt h + 8
  | .either g h => wt g + wt h + 8
  | _ => 56
def T (nb nr : List Str) (g : Gd) : Str := Txt.join " " (wordsG nb nr g)
theorem words_cons (nb nr : List Str) (g : Gd) : ∃ r, wordsG nb nr g = kG g :: r := by
  cases g <;> exact ⟨_, rfl⟩
theorem T_list (nb nr : List Str) (g : Gd) : (T nb nr g).cps.toList = joinL 32 ((wordsG nb nr g).map fun z => z.cps.toList) := join_list sp_list _
theorem join1 (c : Nat) (a x : List Nat) (xs : List (List Nat)) : joinL c [a, joinL c (x :: xs)] = joinL c (a :: x :: xs) := by simp [joinL]
theorem join2 (c : Nat) (a x y : List Nat) (xs ys : List (List Nat)) : joinL c [a, joinL c (x :: xs), joinL c (y :: ys)] = joinL c (a :: (x :: xs ++ y :: ys)) := by simp [joinL]
theorem T_neg (nb nr : List Str) (g : Gd) : Txt.join " " ["not", T nb nr g] = T nb nr (.neg g) := by
  refine ext ?_
  rw [T_list, join_list sp_list]
  obtain ⟨r, e⟩ := words_cons nb nr g
  show joinL 32 [("not" : Str).cps.toList, (T nb nr g).cps.toList] = joinL 32 ((("not" : Str) :: wordsG nb nr g).map _)
  rw [T_list, e]
  exact join1 32 _ _ _
theorem T_two (nb nr : List Str) (g h : Gd) (k : Str) : Txt.join " " [k, T nb nr g, T nb nr h] = Txt.join " " (k :: (wordsG nb nr g ++ wordsG nb nr h)) := by
  refine ext ?_
  rw [join_list sp_list, join_list sp_list]
  obtain ⟨r, e⟩ := words_cons nb nr g
  obtain ⟨r2, e2⟩ := words_cons nb nr h
  show joinL 32 [k.cps.toList, (T nb nr g).cps.toList, (T nb nr h).cps.toList] = joinL 32 ((k :: (wordsG nb nr g ++ wordsG nb nr h)).map _)
  rw [T_list, T_list, e, e2]
  have := join2 32 k.cps.toList (kG g).cps.toList (kG h).cps.toList (r.map fun z => z.cps.toList) (r2.map fun z => z.cps.toList)
  rw [List.map_cons, List.map_cons, this]
  simp
theorem lenL (z : Str) : z.length = z.cps.toList.length := by simp [Str.length]
theorem join_len1 (a : Str) : (Txt.join " " [a]).length = a.length := by
  rw [lenL, join_list sp_list, lenL]
  simp [joinL]
theorem join_len2 (a b : Str) : (Txt.join " " [a, b]).length = a.length + b.length + 1 := by
  rw [lenL, join_list sp_list, lenL, lenL]
  simp [joinL]
  omega
theorem join_len3 (a b c : Str) : (Txt.join " " [a, b, c]).length = a.length + b.length + c.length + 2 := by
  rw [lenL, join_list sp_list, lenL, lenL, lenL]
  simp [joinL]
  omega
theorem k_len : ("yes" : Str).length = 3 ∧ ("is" : Str).length = 2 ∧ ("under" : Str).length = 5 ∧ ("in" : Str).length = 2 ∧ ("not" : Str).length = 3 ∧ ("both" : Str).length = 4 ∧ ("either" : Str).length = 6 := by decide +kernel
theorem getD_len {zs : List Str} (h : ∀ z ∈ zs, z.length ≤ 12) (i : Nat) : (zs.getD i ("" : Str)).length ≤ 12 := by
  rw [List.getD_eq_getElem?_getD]
  cases e : zs[i]? with
  | none => decide +kernel
  | some z => exact h z (List.mem_of_getElem? e)
theorem big_fig {n : Int} (h0 : -big ≤ n) (h1 : n ≤ big) : (fig n).length ≤ 33 ∧ n.natAbs < 10 ^ 300 := by
  have e : big = 10 ^ 30 := by decide
  rw [e] at h0 h1
  refine ⟨fig_le' (by omega), ?_⟩
  exact Nat.lt_of_le_of_lt (show n.natAbs ≤ 10 ^ 30 by omega) (by decide)
theorem T_len {nb nr : List Str} (hb : ∀ z ∈ nb, z.length ≤ 12) (hr : ∀ z ∈ nr, z.length ≤ 12) : ∀ g : Gd, Fit nb.length nr.length g → (T nb nr g).length ≤ wt g
  | .yes, _ => by
    show (Txt.join " " [("yes" : Str)]).length ≤ 56
    rw [join_len1, k_len.1]
    decide
  | .is b n, f => by
    show (Txt.join " " [("is" : Str), nb.getD b.toNat ("" : Str), fig n]).length ≤ 56
    have h1 := getD_len hb b.toNat
    have h2 := (big_fig f.2.1 f.2.2).1
    rw [join_len3, k_len.2.1]
    omega
  | .under b n, f => by
    show (Txt.join " " [("under" : Str), nb.getD b.toNat ("" : Str), fig n]).length ≤ 56
    have h1 := getD_len hb b.toNat
    have h2 := (big_fig f.2.1 f.2.2).1
    rw [join_len3, k_len.2.2.1]
    omega
  | .inn r, f => by
    show (Txt.join " " [("in" : Str), nr.getD r.toNat ("" : Str)]).length ≤ 56
    have h1 := getD_len hr r.toNat
    rw [join_len2, k_len.2.2.2.1]
    omega
  | .neg g, f => by
    have := T_len hb hr g f
    rw [← T_neg, join_len2, k_len.2.2.2.2.1]
    show 3 + _ + 1 ≤ wt g + 4
    omega
  | .both g h, f => by
    have h1 := T_len hb hr g f.1
    have h2 := T_len hb hr h f.2
    show (Txt.join " " (("both" : Str) :: (wordsG nb nr g ++ wordsG nb nr h))).length ≤ wt g + wt h + 8
    rw [← T_two, join_len3, k_len.2.2.2.2.2.1]
    omega
  | .either g h, f => by
    have h1 := T_len hb hr g f.1
    have h2 := T_len hb hr h f.2
    show (Txt.join " " (("either" : Str) :: (wordsG nb nr g ++ wordsG nb nr h))).length ≤ wt g + wt h + 8
    rw [← T_two, join_len3, k_len.2.2.2.2.2.2]
    omega
theorem n_le (nb nr : List Str) : ∀ g : Gd, (wordsG nb nr g).length ≤ wt g
  | .yes => by show 1 ≤ 56; decide
  | .is _ _ => by show 3 ≤ 56; decide
  | .under _ _ => by show 3 ≤ 56; decide
  | .inn _ => by show 2 ≤ 56; decide
  | .neg g => by
    have := n_le nb nr g
    show (wordsG nb nr g).length + 1 ≤ wt g + 4
    omega
  | .both g h => by
    have h1 := n_le nb nr g
    have h2 := n_le nb nr h
    show (wordsG nb nr g ++ wordsG nb nr h).length + 1 ≤ wt g + wt h + 8
    rw [List.length_append]
    omega
  | .either g h => by
    have h1 := n_le nb nr g
    have h2 := n_le nb nr h
    show (wordsG nb nr g ++ wordsG nb nr h).length + 1 ≤ wt g + wt h + 8
    rw [List.length_append]
    omega
def spGText (K : PySem.W.Frag) (n : Nat) : Sp := fun vs H Q _ => ∃ (v : V) (tb tr : Addr) (g : Gd) (nb nr : List Str), vs = [v, .ref tb, .ref tr] ∧ GdIn H v g ∧ g.ht ≤ n ∧ wt g ≤ 1000 ∧ Fit nb.length nr.length g ∧ Nms K H tb nb ∧ Nms K H tr nr ∧ (∀ z ∈ nb, z.length ≤ 12) ∧ (∀ z ∈ nr, z.length ≤ 12) ∧ ∀ H', Same H H' → Q (.str (T nb nr g)) H'
def sumL (l : List Str) : Nat := (l.map (·.length)).sum
theorem flat_sum : ∀ l : List Str, ((l.map fun z => z.cps.toList).flatMap fun v => 32 :: v).length = sumL l + l.length
  | [] => rfl
  | x :: l => by
    have := flat_sum l
    have e := lenL x
    rw [List.map_cons, List.flatMap_cons, List.length_append, this, List.length_cons, List.length_cons]
    show _ = x.length + sumL l + (l.length + 1)
    omega
theorem join_sum (l : List Str) (h : l ≠ []) : (Txt.join " " l).length + 1 = sumL l + l.length := by
  cases l with
  | nil => exact absurd rfl h
  | cons x l =>
    have := flat_sum l
    have e := lenL x
    rw [lenL, join_list sp_list]
    show (x.cps.toList ++ (l.map fun z => z.cps.toList).flatMap fun v => 32 :: v).length + 1 = _
    rw [List.length_append, this, List.length_cons]
    show _ = x.length + sumL l + (l.length + 1)
    omega
theorem join_up (l : List Str) : (Txt.join " " l).length ≤ sumL l + l.length := by
  cases l with
  | nil => decide +kernel
  | cons x l =>
    have := join_sum (x :: l) (by simp)
    omega
theorem sum_app (a b : List Str) : sumL (a ++ b) = sumL a + sumL b := by
  unfold sumL
  rw [List.map_append, List.sum_append]
theorem mem_sum {l : List Str} {y : Str} (h : y ∈ l) : y.length ≤ sumL l := by
  induction l with
  | nil => cases h
  | cons x l ih =>
    show _ ≤ x.length + sumL l
    rcases List.mem_cons.mp h with e | e
    · rw [e]
      omega
    · have := ih e
      omega
theorem mem_joinL {s c : Nat} {ws : List (List Nat)} (h : c ∈ joinL s ws) : c = s ∨ ∃ w ∈ ws, c ∈ w := by
  cases ws with
  | nil => cases h
  | cons w ws =>
    rcases List.mem_append.mp (show c ∈ w ++ ws.flatMap fun v => s :: v from h) with h | h
    · exact .inr ⟨w, List.mem_cons_self, h⟩
    · obtain ⟨v, hv, h⟩ := List.mem_flatMap.mp h
      rcases List.mem_cons.mp h with h | h
      · exact .inl h
      · exact .inr ⟨v, List.mem_cons_of_mem _ hv, h⟩
def Asc (z : Str) : Prop := ∀ c ∈ z.cps.toList, c < 128
theorem asc_kG : ∀ g : Gd, Asc (kG g)
  | .yes => by show ∀ c ∈ ("yes" : Str).cps.toList, c < 128; decide +kernel
  | .is _ _ => by show ∀ c ∈ ("is" : Str).cps.toList, c < 128; decide +kernel
  | .under _ _ => by show ∀ c ∈ ("under" : Str).cps.toList, c < 128; decide +kernel
  | .inn _ => by show ∀ c ∈ ("in" : Str).cps.toList, c < 128; decide +kernel
  | .neg _ => by show ∀ c ∈ ("not" : Str).cps.toList, c < 128; decide +kernel
  | .both _ _ => by show ∀ c ∈ ("both" : Str).cps.toList, c < 128; decide +kernel
  | .either _ _ => by show ∀ c ∈ ("either" : Str).cps.toList, c < 128; decide +kernel
theorem asc_fig (n : Int) : Asc (fig n) := fun c hc => by
  rw [fig_list] at hc
  unfold figs at hc
  rcases List.mem_append.mp hc with h | h
  · split at h
    · rw [List.mem_singleton.mp h]
      decide
    · cases h
  · split at h
    · rw [List.mem_singleton.mp h]
      decide
    · obtain ⟨d, hd, rfl⟩ := D_all _ c h
      omega
theorem getD_mem {zs : List Str} {i : Int} (h0 : 0 ≤ i) (h1 : i < (zs.length : Int)) : zs.getD i.toNat ("" : Str) ∈ zs := by
  obtain ⟨hi, e⟩ := at_nm h0 h1
  rw [e]
  exact List.getElem_mem hi
section
variable {P : Program} {w : World} {K : PySem.W.Frag} {mg : Str → Option Value} {base : Heap}
theorem sc_guard_text : FnScope ["guard", "boxes", "rooms", "kind", "words"] ["guard", "boxes", "rooms"] (defScope s_guard_text) := ⟨rfl, rfl, rfl, by decide +kernel, rfl, by decide +kernel, by decide +kernel⟩
theorem fit_kid {b r : Nat} {g k : Gd} (h : k ∈ Prg.kids g) (f : Fit b r g) : Fit b r k ∧ k.ht + 1 ≤ g.ht ∧ wt k ≤ wt g := by
  cases g with
  | neg g =>
    rw [List.mem_singleton.mp (show k ∈ [g] from h)]
    exact ⟨f, Nat.le_refl _, by show wt g ≤ wt g + 4; omega⟩
  | both g j =>
    rcases List.mem_cons.mp (show k ∈ [g, j] from h) with e | e
    · rw [e]
      exact ⟨f.1, by show g.ht + 1 ≤ 1 + max g.ht j.ht; omega, by show wt g ≤ wt g + wt j + 8; omega⟩
    · rw [List.mem_singleton.mp e]
      exact ⟨f.2, by show j.ht + 1 ≤ 1 + max g.ht j.ht; omega, by show wt j ≤ wt g + wt j + 8; omega⟩
  | either g j =>
    rcases List.mem_cons.mp (show k ∈ [g, j] from h) with e | e
    · rw [e]
      exact ⟨f.1, by show g.ht + 1 ≤ 1 + max g.ht j.ht; omega, by show wt g ≤ wt g + wt j + 8; omega⟩
    · rw [List.mem_singleton.mp e]
      exact ⟨f.2, by show j.ht + 1 ≤ 1 + max g.ht j.ht; omega, by show wt j ≤ wt g + wt j + 8; omega⟩
  | _ => cases h
theorem join_kids (nb nr : List Str) (g : Gd) (h1 : ¬ (kG g = "is" ∨ kG g = "under")) (h2 : kG g ≠ "in") : Txt.join " " (kG g :: (Prg.kids g).map (T nb nr)) = T nb nr g := by
  cases g with
  | yes => rfl
  | is b n => exact absurd (.inl rfl) h1
  | under b n => exact absurd (.inr rfl) h1
  | inn r => exact absurd rfl h2
  | neg g => exact T_neg nb nr g
  | both g h => exact T_two nb nr g h _
  | either g h => exact T_two nb nr g h _
theorem kG_le : ∀ g : Gd, (kG g).length ≤ 12
  | .yes => by show ("yes" : Str).length ≤ 12; decide +kernel
  | .is _ _ => by show ("is" : Str).length ≤ 12; decide +kernel
  | .under _ _ => by show ("under" : Str).length ≤ 12; decide +kernel
  | .inn _ => by show ("in" : Str).length ≤ 12; decide +kernel
  | .neg _ => by show ("not" : Str).length ≤ 12; decide +kernel
  | .both _ _ => by show ("both" : Str).length ≤ 12; decide +kernel
  | .either _ _ => by show ("either" : Str).length ≤ 12; decide +kernel
theorem kids_le (g : Gd) : (Prg.kids g).length ≤ 2 := by cases g <;> simp [Prg.kids]
theorem ok_gtext {n : Nat} {f gi gw : Addr} {fd di dw : FuncData} (F : Fun K "guard_text" "guard_text" s_guard_text f fd)
    (G_guard_text : FnOk P w K mg base CX0 (n + 1) f fd ["guard", "boxes", "rooms"] (spGText K n)) (b_guard_text : Binds K fd ["guard", "boxes", "rooms"] []) (k_guard_text : PySem.W.keepIn K (.ref f) = true) (m_guard_text : mg "guard_text" = some (.ref f))
    (G_guards_within : FnOk P w K mg base CX0 (n + 1) gi di ["guard"] Prg.spWithin) (b_guards_within : Binds K di ["guard"] []) (k_guards_within : PySem.W.keepIn K (.ref gi) = true) (m_guards_within : mg "guards_within" = some (.ref gi))
    (G_written : FnOk P w K mg base CX0 (n + 1) gw dw ["number"] spWritten) (b_written : Binds K dw ["number"] []) (k_written : PySem.W.keepIn K (.ref gw) = true) (m_written : mg "written" = some (.ref gw)) :
    FnOk P w K mg base CX0 (n + 2) f fd ["guard", "boxes", "rooms"] (spGText K (n + 1)) := by
  refine F.ok sc_guard_text (fun vs H Q E h => ?_) (fun cdv A outer s H vs Q E hr h => ?_)
  · obtain ⟨v, tb, tr, g, nb, nr, rfl, _⟩ := h
    rfl
  obtain ⟨v, tb, tr, g, nb, nr, rfl, hg, hht, hwt, fit, hb, hr2, lb, lr, q⟩ := h
  refine ⟨_, (pss_cut (ps_set (i := 3) sc_guard_text.nd rfl (Or.inl rfl) (pe_ix ix_tup (pv 0) pe_int (fun _ _ => rfl)))
    (pss_cut (ps_if (pt_cmpR op_in_seq (pv 3) (pe_tup (pa_cons pe_str (pa_cons pe_str pa_nil))) rfl)
      (pss_one (ps_set (i := 4) sc_guard_text.nd rfl (Or.inl rfl) (pe_lst (pa_cons (pe_ix ix_tup (pe_ix ix_tup (pv 1) (pe_ix ix_tup (pv 0) pe_int (fun _ _ => rfl)) (fun _ _ => rfl)) pe_int (fun _ _ => rfl)) (pa_cons (pe_call G_written hr rfl m_written k_written b_written .nil pass0 (pa_cons (pe_ix ix_tup (pv 0) pe_int (fun _ _ => rfl)) pa_nil)) pa_nil)))))
      (pss_one (ps_if (pt_cmpR op_eq (pv 3) pe_str (nomark _))
        (pss_one (ps_set (i := 4) sc_guard_text.nd rfl (Or.inl rfl) (pe_lst (pa_cons (pe_ix ix_tup (pe_ix ix_tup (pv 2) (pe_ix ix_tup (pv 0) pe_int (fun _ _ => rfl)) (fun _ _ => rfl)) pe_int (fun _ _ => rfl)) pa_nil))))
        (pss_one (ps_setC (i := 4) (caps := [(1, "boxes"), (2, "rooms")]) rfl sc_guard_text.nd rfl (Or.inl rfl) (show CompSc (defScope s_guard_text) ["guard", "boxes", "rooms", "kind", "words"] _ _ _ from ⟨rfl, rfl, by decide +kernel, by decide +kernel, by decide +kernel, by decide +kernel, by decide +kernel⟩) (pi_list (pe_call G_guards_within hr rfl m_guards_within k_guards_within b_guards_within .nil pass0 (pa_cons (pv 0) pa_nil))) (fun _ _ _ _ _ _ => pifs_nil) (fun _ _ _ _ _ _ => (pe_call G_guard_text hr rfl m_guard_text k_guard_text b_guard_text .nil pass0 (pa_cons (pv 0) (pa_cons (pv 1) (pa_cons (pv 2) pa_nil))))))))))
    (pss_one (ps_ret (pe_bm PySem.F.plainAttrs_str PySem.F.slot_str_join PySem.F.type_str_join mt_join pe_str (pa_cons (pe_op op_cat (pe_lst (pa_cons (pv 3) pa_nil)) (pv 4)) pa_nil)))))), ?_⟩
  refine ⟨fun σ' H' => H' = H ∧ σ' = [some v, some (.ref tb), some (.ref tr), some (.str (kG g)), none], ?_, ?_⟩
  · cases hg with
    | @yes a e => exact ⟨_, rfl, a, _, _, _, rfl, rfl, SqT.of e, rfl, rfl, rfl⟩
    | @is a b m e => exact ⟨_, rfl, a, _, _, _, rfl, rfl, SqT.of e, rfl, rfl, rfl⟩
    | @under a b m e => exact ⟨_, rfl, a, _, _, _, rfl, rfl, SqT.of e, rfl, rfl, rfl⟩
    | @inn a x e => exact ⟨_, rfl, a, _, _, _, rfl, rfl, SqT.of e, rfl, rfl, rfl⟩
    | @neg a u k e => exact ⟨_, rfl, a, _, _, _, rfl, rfl, SqT.of e, rfl, rfl, rfl⟩
    | @both a u1 u2 k1 k2 e => exact ⟨_, rfl, a, _, _, _, rfl, rfl, SqT.of e, rfl, rfl, rfl⟩
    | @either a u1 u2 k1 k2 e => exact ⟨_, rfl, a, _, _, _, rfl, rfl, SqT.of e, rfl, rfl, rfl⟩
  rintro σ1 H1 ⟨rfl, rfl⟩
  refine ⟨fun σ' H' => ∃ (pl : Addr) (ws : List Str), Same H1 H' ∧ H' pl = some (.lst (ws.map V.str)) ∧ Txt.join " " (kG g :: ws) = T nb nr g ∧ (∀ y ∈ ws, y.length ≤ 1000) ∧ ws.length ≤ 2 ∧ σ' = [some v, some (.ref tb), some (.ref tr), some (.str (kG g)), some (.ref pl)], ?_, ?_⟩
  · have bx : ∀ (a : Addr) (b m : Int) (H2 : Hp), Same H1 H2 → H1 a = some (.tup [.str (kG g), .int b, .int m]) → (0 ≤ b ∧ b < (nb.length : Int)) ∧ -big ≤ m ∧ m ≤ big → v = .ref a → Txt.join " " [kG g, nb.getD b.toNat ("" : Str), fig m] = T nb nr g → ∃ xs b2 tl, SqT K H2 tb xs ∧ atI xs b = some (.ref b2) ∧ H2 b2 = some (.tup (.str (nb.getD b.toNat ("" : Str)) :: tl)) := fun a b m H2 s2 _ f _ _ => (hb.mono s2).at f.1.1 f.1.2
    refine ⟨_, rfl, small_le (by show 2 ≤ 1000; decide), fun p hp => ⟨p, _, rfl, .inr (SqT.of upd_same), rfl, strs_flat [("is" : Str), "under"], _, rfl, ?_⟩⟩
    have s2 := same_new hp (.tup [.str "is", .str "under"])
    generalize upd H1 p (.tup [.str "is", .str "under"]) = H2 at s2 ⊢
    have ec2 : inV (.str (kG g)) [.str "is", .str "under"] = [("is" : Str), "under"].contains (kG g) := in_strs (kG g) ["is", "under"]
    refine itB (fun c2 => ?_) (fun c2 => ?_)
    · have hk : kG g = "is" ∨ kG g = "under" := by
        have := ec2.symm.trans c2
        simpa using this
      obtain ⟨a, b, m, rfl, he, hf, ej⟩ : ∃ (a : Addr) (b m : Int), v = .ref a ∧ H1 a = some (.tup [.str (kG g), .int b, .int m]) ∧ ((0 ≤ b ∧ b < (nb.length : Int)) ∧ -big ≤ m ∧ m ≤ big) ∧ Txt.join " " [kG g, nb.getD b.toNat ("" : Str), fig m] = T nb nr g := by
        cases hg with
        | @is a b m e => exact ⟨a, b, m, rfl, e, fit, rfl⟩
        | @under a b m e => exact ⟨a, b, m, rfl, e, fit, rfl⟩
        | yes _ => exact absurd hk (by decide +kernel)
        | inn _ => exact absurd hk (by show ¬ (("in" : Str) = "is" ∨ ("in" : Str) = "under"); decide +kernel)
        | neg _ _ => exact absurd hk (by show ¬ (("not" : Str) = "is" ∨ ("not" : Str) = "under"); decide +kernel)
        | both _ _ _ => exact absurd hk (by show ¬ (("both" : Str) = "is" ∨ ("both" : Str) = "under"); decide +kernel)
        | either _ _ _ => exact absurd hk (by show ¬ (("either" : Str) = "is" ∨ ("either" : Str) = "under"); decide +kernel)
      have e := s2 _ _ he
      obtain ⟨xs, t1, tl, hx, hat, ht1⟩ := (hb.mono s2).at hf.1.1 hf.1.2
      have hm := big_fig hf.2.1 hf.2.2
      refine ⟨_, rfl, _, rfl, a, _, _, _, rfl, rfl, SqT.of e, rfl, tb, _, _, _, rfl, rfl, hx, hat, t1, _, _, _, rfl, rfl, SqT.of ht1, atI_head, _, rfl, a, _, _, _, rfl, rfl, SqT.of e, rfl, m, rfl, log_lt hm.2, small_le (by show 2 ≤ 1000; decide), fun p hp => ⟨p, [nb.getD b.toNat ("" : Str), fig m], s2.trans (same_new hp _), upd_same, ej, fun y hy => ?_, Nat.le_of_ble_eq_true rfl, rfl⟩⟩
      rcases List.mem_cons.mp hy with h | h
      · rw [h]
        exact Nat.le_trans (getD_len lb _) (by decide)
      · rw [List.mem_singleton.mp h]
        exact Nat.le_trans hm.1 (by decide)
    · have hk : ¬ (kG g = "is" ∨ kG g = "under") := by
        have := ec2.symm.trans c2
        simpa using this
      refine ⟨_, rfl, rfl, _, rfl, ?_⟩
      by_cases ei : kG g = "in"
      · obtain ⟨a, x, rfl, he, hf, ej⟩ : ∃ (a : Addr) (x : Int), v = .ref a ∧ H1 a = some (.tup [.str "in", .int x]) ∧ (0 ≤ x ∧ x < (nr.length : Int)) ∧ Txt.join " " ["in", nr.getD x.toNat ("" : Str)] = T nb nr g := by
          cases hg with
          | @inn a x e => exact ⟨a, x, rfl, e, fit, rfl⟩
          | yes _ => exact absurd ei (by decide +kernel)
          | is _ => exact absurd ei (by show ¬ ("is" : Str) = "in"; decide +kernel)
          | under _ => exact absurd ei (by show ¬ ("under" : Str) = "in"; decide +kernel)
          | neg _ _ => exact absurd ei (by show ¬ ("not" : Str) = "in"; decide +kernel)
          | both _ _ _ => exact absurd ei (by show ¬ ("both" : Str) = "in"; decide +kernel)
          | either _ _ _ => exact absurd ei (by show ¬ ("either" : Str) = "in"; decide +kernel)
        have e := s2 _ _ he
        obtain ⟨xs, t1, tl, hx, hat, ht1⟩ := (hr2.mono s2).at hf.1 hf.2
        rw [ei]
        refine strEq ?_
        refine ⟨_, rfl, _, rfl, a, _, _, _, rfl, rfl, SqT.of e, rfl, tr, _, _, _, rfl, rfl, hx, hat, t1, _, _, _, rfl, rfl, SqT.of ht1, atI_head, small_le (by show 1 ≤ 1000; decide), fun p hp => ⟨p, [nr.getD x.toNat ("" : Str)], s2.trans (same_new hp _), upd_same, ej, fun y hy => ?_, Nat.le_of_ble_eq_true rfl, rfl⟩⟩
        rw [List.mem_singleton.mp hy]
        exact Nat.le_trans (getD_len lr _) (by decide)
      · refine strNe ei ?_
        refine ⟨_, rfl, v, g, rfl, hg.mono (KeepT.of s2), fun pk us H3 s3 h3 hI => ⟨pk, rfl, ⟨_, SqL.of h3⟩, ?_⟩⟩
        have s3' := s2.trans s3
        refine comp_list (K := K) (a := pk) (xs := us) (fun i acc H' => Same H3 H' ∧ acc = (((Prg.kids g).take i).map (T nb nr)).map V.str) ⟨Same.refl _, rfl⟩ (fun i acc H' ⟨s4, _⟩ => SqL.of (s4 _ _ h3)) (fun i x acc H' hx ⟨s4, e4⟩ => ?_) (fun acc H' ⟨s4, e4⟩ p5 hp5 => ?_)
        · have li : i < us.length := (List.getElem?_eq_some_iff.mp hx).1
          have lu := hI.length
          have lk := kids_le g
          have hk' := List.getElem?_eq_getElem (show i < (Prg.kids g).length by omega)
          obtain ⟨x', hx', hgk⟩ := hI.get hk'
          obtain rfl : x = x' := Option.some.inj (hx.symm.trans hx')
          obtain ⟨f1, f2, f3⟩ := fit_kid (List.mem_of_getElem? hk') fit
          refine ⟨_, rfl, _, rfl, _, rfl, x, tb, tr, _, nb, nr, rfl, hgk.mono (KeepT.of s4), by omega, by omega, f1, (hb.mono s3').mono s4, (hr2.mono s3').mono s4, lb, lr, fun H5 s5 => ⟨?_, s4.trans s5, ?_⟩⟩
          · rw [e4, List.length_map, List.length_map, List.length_take]
            exact small1000 (by omega)
          · rw [e4, List.take_add_one, hk', List.map_append, List.map_append]
            rfl
        · have lu := hI.length
          rw [List.take_of_length_le (by omega)] at e4
          subst e4
          refine ⟨p5, (Prg.kids g).map (T nb nr), (s3'.trans s4).trans (same_new hp5 _), upd_same, join_kids nb nr g hk ei, fun y hy => ?_, by rw [List.length_map]; exact kids_le g, rfl⟩
          obtain ⟨k, hk2, rfl⟩ := List.mem_map.mp hy
          obtain ⟨f1, f2, f3⟩ := fit_kid hk2 fit
          exact Nat.le_trans (T_len lb lr k f1) (by omega)
  rintro σ2 H2 ⟨pl, ws, s2, hpl, ew, hws, l2, rfl⟩
  refine ⟨rfl, _, rfl, small_le (by show 1 ≤ 1000; decide), fun p hp => ⟨_, rfl, p, pl, [.str (kG g)], ws.map V.str, rfl, rfl, upd_same, same_new hp _ _ _ hpl, small_le (by rw [List.length_map]; show 1 + ws.length ≤ 1000; omega), fun p2 hp2 => ?_⟩⟩
  refine ⟨" ", p2, kG g :: ws, rfl, rfl, SqL.of upd_same, ?_, ?_⟩
  · have hh : ∀ l : List Str, (∀ y ∈ l, y.length ≤ 1000) → (l.map (·.length)).sum ≤ 1000 * l.length := by
      intro l
      induction l with
      | nil => intro _; exact Nat.le_refl _
      | cons x l ih =>
        intro hl
        have h1 := hl x List.mem_cons_self
        have h2 := ih fun y hy => hl y (List.mem_cons_of_mem _ hy)
        rw [List.map_cons, List.sum_cons, List.length_cons, Nat.mul_add]
        omega
    have h1 := hh ws hws
    have h2 := kG_le g
    have l1 : (" " : Str).length = 1 := by decide +kernel
    rw [l1, List.map_cons, List.sum_cons, List.length_cons]
    omega
  · rw [ew]
    exact q _ ((s2.trans (same_new hp _)).trans (same_new hp2 _))
theorem none_gtext {f : Addr} {fd : FuncData} : FnOk P w K mg base CX0 1 f fd ["guard", "boxes", "rooms"] (spGText K 0) := by
  have no : ∀ vs H Q E, ¬ spGText K 0 vs H Q E := fun vs H Q E h => by
    obtain ⟨v, tb, tr, g, nb, nr, _, _, h2, _⟩ := h
    have := g.ht_pos
    omega
  exact ⟨fun vs H Q E h => absurd h (no vs H Q E), fun A outer s H args us vs Q E _ _ _ _ h => absurd h (no vs H Q E)⟩
theorem all_gtext {f gi gw : Addr} {fd di dw : FuncData} (F : Fun K "guard_text" "guard_text" s_guard_text f fd) (b_guard_text : Binds K fd ["guard", "boxes", "rooms"] []) (m_guard_text : mg "guard_text" = some (.ref f))
    (G_guards_within : FnOk P w K mg base CX0 1 gi di ["guard"] Prg.spWithin) (b_guards_within : Binds K di ["guard"] []) (k_guards_within : PySem.W.keepIn K (.ref gi) = true) (m_guards_within : mg "guards_within" = some (.ref gi))
    (G_written : FnOk P w K mg base CX0 1 gw dw ["number"] spWritten) (b_written : Binds K dw ["number"] []) (k_written : PySem.W.keepIn K (.ref gw) = true) (m_written : mg "written" = some (.ref gw)) :
    ∀ n : Nat, FnOk P w K mg base CX0 (n + 1) f fd ["guard", "boxes", "rooms"] (spGText K n)
  | 0 => none_gtext
  | n + 1 => ok_gtext F (all_gtext F b_guard_text m_guard_text G_guards_within b_guards_within k_guards_within m_guards_within G_written b_written k_written m_written n) b_guard_text F.kp m_guard_text (G_guards_within.mono (by omega)) b_guards_within k_guards_within m_guards_within (G_written.mono (by omega)) b_written k_written m_written
end
end G41

namespace D42
open PySem L2 Mix Gds Dds Wds Cht Num Spl Txm Dig
def wordsD (bs : List Bx) (es : List Str) : Dd → List Str
  | .say w => ["say", w]
  | .send e => ["send", es.getD e.toNat ""]
  | .set b n => ["set", (bs.map (·.nm)).getD b.toNat "", fig n]
  | .add b n => ["add", (bs.map (·.nm)).getD b.toNat "", fig n]
def kindOf : Dd → Str
  | .say _ => "say"
  | .send _ => "send"
  | .set _ _ => "set"
  | .add _ _ => "add"
theorem kind_le : ∀ d : Dd, (kindOf d).length ≤ 1000
  | .say _ => (by decide +kernel : ("say" : Str).length ≤ 1000)
  | .send _ => (by decide +kernel : ("send" : Str).length ≤ 1000)
  | .set _ _ => (by decide +kernel : ("set" : Str).length ≤ 1000)
  | .add _ _ => (by decide +kernel : ("add" : Str).length ≤ 1000)
theorem n1 : ¬ ("send" : Str) = "say" := by decide +kernel
theorem n2 : ¬ ("set" : Str) = "say" := by decide +kernel
theorem n3 : ¬ ("set" : Str) = "send" := by decide +kernel
theorem n4 : ¬ ("add" : Str) = "say" := by decide +kernel
theorem n5 : ¬ ("add" : Str) = "send" := by decide +kernel
def DdFit (bs : List Bx) (es : List Str) : Dd → Prop
  | .say w => w.length ≤ 1000
  | .send e => 0 ≤ e ∧ e < (es.length : Int)
  | .set b n => 0 ≤ b ∧ b < (bs.length : Int) ∧ n.natAbs < 10 ^ 300
  | .add b n => 0 ≤ b ∧ b < (bs.length : Int) ∧ n.natAbs < 10 ^ 300
def spDeedT (K : PySem.W.Frag) : Sp := fun vs H Q _ => ∃ (v : V) (tb te : Addr) (d : Dd) (bv : List V) (bs : List Bx) (es : List Str), vs = [v, .ref tb, .ref te] ∧ DdIn H v d ∧ DdFit bs es d ∧ H tb = some (.tup bv) ∧ BxsIn H bv bs ∧ (∀ b ∈ bs, b.nm.length ≤ 1000) ∧ SqT K H te (es.map V.str) ∧ (∀ e ∈ es, e.length ≤ 1000) ∧ ∀ H', Same H H' → Q (.str (Txt.join " " (wordsD bs es d))) H'
section
variable {P : Program} {w : World} {K : PySem.W.Frag} {mg : Str → Option Value} {base : Heap}
theorem sc_deed_text : FnScope ["deed", "boxes", "events", "kind", "words"] ["deed", "boxes", "events"] (defScope s_deed_text) := ⟨rfl, rfl, rfl, by decide +kernel, rfl, by decide +kernel, by decide +kernel⟩
theorem ok_deed_text {n : Nat} {f gw : Addr} {fd dw : FuncData} (F : Fun K "deed_text" "deed_text" s_deed_text f fd) (G_written : FnOk P w K mg base CX0 n gw dw ["number"] spWritten) (b_written : Binds K dw ["number"] []) (k_written : PySem.W.keepIn K (.ref gw) = true) (m_written : mg "written" = some (.ref gw)) : FnOk P w K mg base CX0 (n + 1) f fd ["deed", "boxes", "events"] (spDeedT K) := by
  refine F.ok sc_deed_text (fun vs H Q E h => ?_) (fun cdv A outer s H vs Q E hr h => ?_)
  · obtain ⟨v, tb, te, d, bv, bs, es, rfl, _⟩ := h
    rfl
  obtain ⟨v, tb, te, d, bv, bs, es, rfl, hd, fit, htb, hbs, bnm, hte, enm, q⟩ := h
  refine ⟨_, (pss_cut (ps_set (i := 3) sc_deed_text.nd rfl (Or.inl rfl) (pe_ix ix_tup (pv 0) pe_int (fun _ _ => rfl)))
    (pss_cut (ps_if (pt_cmpR op_eq (pv 3) pe_str (nomark _))
      (pss_one (ps_set (i := 4) sc_deed_text.nd rfl (Or.inl rfl) (pe_lst (pa_cons (pe_ix ix_tup (pv 0) pe_int (fun _ _ => rfl)) pa_nil))))
      (pss_one (ps_if (pt_cmpR op_eq (pv 3) pe_str (nomark _))
        (pss_one (ps_set (i := 4) sc_deed_text.nd rfl (Or.inl rfl) (pe_lst (pa_cons (pe_ix ix_tup (pv 2) (pe_ix ix_tup (pv 0) pe_int (fun _ _ => rfl)) (fun _ _ => rfl)) pa_nil))))
        (pss_one (ps_set (i := 4) sc_deed_text.nd rfl (Or.inl rfl) (pe_lst (pa_cons (pe_ix ix_tup (pe_ix ix_tup (pv 1) (pe_ix ix_tup (pv 0) pe_int (fun _ _ => rfl)) (fun _ _ => rfl)) pe_int (fun _ _ => rfl)) (pa_cons (pe_call G_written hr rfl m_written k_written b_written .nil pass0 (pa_cons (pe_ix ix_tup (pv 0) pe_int (fun _ _ => rfl)) pa_nil)) pa_nil))))))))
    (pss_one (ps_ret (pe_bm PySem.F.plainAttrs_str PySem.F.slot_str_join PySem.F.type_str_join mt_join pe_str (pa_cons (pe_op op_cat (pe_lst (pa_cons (pv 3) pa_nil)) (pv 4)) pa_nil)))))), ?_⟩
  refine ⟨fun σ' H' => H' = H ∧ σ' = [some v, some (.ref tb), some (.ref te), some (.str (kindOf d)), none], ?_, ?_⟩
  · cases hd with
    | @say a w e => exact ⟨_, rfl, a, _, _, _, rfl, rfl, SqT.of e, rfl, rfl, rfl⟩
    | @set a b m e => exact ⟨_, rfl, a, _, _, _, rfl, rfl, SqT.of e, rfl, rfl, rfl⟩
    | @add a b m e => exact ⟨_, rfl, a, _, _, _, rfl, rfl, SqT.of e, rfl, rfl, rfl⟩
    | @send a x e => exact ⟨_, rfl, a, _, _, _, rfl, rfl, SqT.of e, rfl, rfl, rfl⟩
  rintro σ1 H1 ⟨rfl, rfl⟩
  have kl : (kindOf d).length ≤ 1000 := kind_le d
  refine ⟨fun σ' H' => ∃ (pl : Addr) (ws : List Str), Same H1 H' ∧ H' pl = some (.lst (ws.map V.str)) ∧ wordsD bs es d = kindOf d :: ws ∧ (∀ y ∈ ws, y.length ≤ 1000) ∧ ws.length ≤ 2 ∧ σ' = [some v, some (.ref tb), some (.ref te), some (.str (kindOf d)), some (.ref pl)], ?_, ?_⟩
  · cases hd with
    | @say a w e =>
      refine ⟨_, rfl, rfl, _, rfl, strEq ?_⟩
      refine ⟨_, rfl, a, _, _, _, rfl, rfl, SqT.of e, rfl, small_le (by show 1 ≤ 1000; decide), fun p hp => ⟨p, [w], same_new hp _, upd_same, rfl, fun y hy => ?_, Nat.le_of_ble_eq_true rfl, rfl⟩⟩
      rw [List.mem_singleton.mp hy]
      exact fit
    | @send a x e =>
      refine ⟨_, rfl, rfl, _, rfl, strNe n1 ?_⟩
      refine ⟨_, rfl, rfl, _, rfl, strEq ?_⟩
      obtain ⟨x0, x1⟩ := (show 0 ≤ x ∧ x < (es.length : Int) from fit)
      have hx : x.toNat < es.length := by omega
      have eg : es.getD x.toNat ("" : Str) = es[x.toNat] := by rw [List.getD_eq_getElem?_getD, List.getElem?_eq_getElem hx]; rfl
      have hat : atI (es.map V.str) x = some (.str es[x.toNat]) := by
        have := atI_nat (xs := es.map V.str) (j := x.toNat) (v := .str es[x.toNat]) (by rw [List.getElem?_map, List.getElem?_eq_getElem hx]; rfl)
        rw [show ((x.toNat : Nat) : Int) = x by omega] at this
        exact this
      refine ⟨_, rfl, _, rfl, a, _, _, _, rfl, rfl, SqT.of e, rfl, te, _, _, _, rfl, rfl, hte, hat, small_le (by show 1 ≤ 1000; decide), fun p hp => ⟨p, [es[x.toNat]], same_new hp _, upd_same, ?_, fun y hy => ?_, Nat.le_of_ble_eq_true rfl, rfl⟩⟩
      · show [("send" : Str), es.getD x.toNat ("" : Str)] = _
        rw [eg]
        rfl
      · rw [List.mem_singleton.mp hy]
        exact enm _ (List.getElem_mem hx)
    | @set a b m e =>
      refine ⟨_, rfl, rfl, _, rfl, strNe n2 ?_⟩
      refine ⟨_, rfl, rfl, _, rfl, strNe n3 ?_⟩
      obtain ⟨x0, x1, x2⟩ := (show 0 ≤ b ∧ b < (bs.length : Int) ∧ m.natAbs < 10 ^ 300 from fit)
      have hx : b.toNat < bs.length := by omega
      obtain ⟨u, hu, t1, rfl, ht1⟩ := hbs.at hx
      have eg : (bs.map (·.nm)).getD b.toNat ("" : Str) = bs[b.toNat].nm := by rw [List.getD_eq_getElem?_getD, List.getElem?_map, List.getElem?_eq_getElem hx]; rfl
      have hat : atI bv b = some (.ref t1) := by
        rw [show ((b.toNat : Nat) : Int) = b by omega] at hu
        exact hu
      refine ⟨_, rfl, _, rfl, a, _, _, _, rfl, rfl, SqT.of e, rfl, tb, _, _, _, rfl, rfl, SqT.of htb, hat, t1, _, _, _, rfl, rfl, SqT.of ht1, rfl, _, rfl, a, _, _, _, rfl, rfl, SqT.of e, rfl, m, rfl, log_lt x2, small_le (by show 2 ≤ 1000; decide), fun p hp => ⟨p, [bs[b.toNat].nm, fig m], same_new hp _, upd_same, ?_, fun y hy => ?_, Nat.le_of_ble_eq_true rfl, rfl⟩⟩
      · show [("set" : Str), (bs.map (·.nm)).getD b.toNat ("" : Str), fig m] = _
        rw [eg]
        rfl
      · rcases List.mem_cons.mp hy with h | h
        · rw [h]
          exact bnm _ (List.getElem_mem hx)
        · rw [List.mem_singleton.mp h]
          exact Nat.le_trans (fig_le x2) (by decide)
    | @add a b m e =>
      refine ⟨_, rfl, rfl, _, rfl, strNe n4 ?_⟩
      refine ⟨_, rfl, rfl, _, rfl, strNe n5 ?_⟩
      obtain ⟨x0, x1, x2⟩ := (show 0 ≤ b ∧ b < (bs.length : Int) ∧ m.natAbs < 10 ^ 300 from fit)
      have hx : b.toNat < bs.length := by omega
      obtain ⟨u, hu, t1, rfl, ht1⟩ := hbs.at hx
      have eg : (bs.map (·.nm)).getD b.toNat ("" : Str) = bs[b.toNat].nm := by rw [List.getD_eq_getElem?_getD, List.getElem?_map, List.getElem?_eq_getElem hx]; rfl
      have hat : atI bv b = some (.ref t1) := by
        rw [show ((b.toNat : Nat) : Int) = b by omega] at hu
        exact hu
      refine ⟨_, rfl, _, rfl, a, _, _, _, rfl, rfl, SqT.of e, rfl, tb, _, _, _, rfl, rfl, SqT.of htb, hat, t1, _, _, _, rfl, rfl, SqT.of ht1, rfl, _, rfl, a, _, _, _, rfl, rfl, SqT.of e, rfl, m, rfl, log_lt x2, small_le (by show 2 ≤ 1000; decide), fun p hp => ⟨p, [bs[b.toNat].nm, fig m], same_new hp _, upd_same, ?_, fun y hy => ?_, Nat.le_of_ble_eq_true rfl, rfl⟩⟩
      · show [("add" : Str), (bs.map (·.nm)).getD b.toNat ("" : Str), fig m] = _
        rw [eg]
        rfl
      · rcases List.mem_cons.mp hy with h | h
        · rw [h]
          exact bnm _ (List.getElem_mem hx)
        · rw [List.mem_singleton.mp h]
          exact Nat.le_trans (fig_le x2) (by decide)
  rintro σ2 H2 ⟨pl, ws, s2, hpl, ew, hws, l2, rfl⟩
  refine ⟨rfl, _, rfl, small_le (by show 1 ≤ 1000; decide), fun p hp => ⟨_, rfl, p, pl, [.str (kindOf d)], ws.map V.str, rfl, rfl, upd_same, same_new hp _ _ _ hpl, small_le (by rw [List.length_map]; show 1 + ws.length ≤ 1000; omega), fun p2 hp2 => ?_⟩⟩
  refine ⟨" ", p2, kindOf d :: ws, rfl, rfl, SqL.of upd_same, ?_, ?_⟩
  · have : ((kindOf d :: ws).map (·.length)).sum ≤ 1000 * (ws.length + 1) := by
      have hh : ∀ l : List Str, (∀ y ∈ l, y.length ≤ 1000) → (l.map (·.length)).sum ≤ 1000 * l.length := by
        intro l
        induction l with
        | nil => intro _; exact Nat.le_refl _
        | cons x l ih =>
          intro hl
          have h1 := hl x List.mem_cons_self
          have h2 := ih fun y hy => hl y (List.mem_cons_of_mem _ hy)
          rw [List.map_cons, List.sum_cons, List.length_cons, Nat.mul_add]
          omega
      exact hh (kindOf d :: ws) fun y hy => by
        rcases List.mem_cons.mp hy with e | e
        · rw [e]
          exact kl
        · exact hws y e
    have l1 : (" " : Str).length = 1 := by decide +kernel
    rw [l1, List.length_cons]
    omega
  · rw [← ew]
    exact q _ ((s2.trans (same_new hp _)).trans (same_new hp2 _))
end
end D42

namespace C43
open PySem L2 Mix Gds Dds Wds Cht Num Spl Txm Dig D42 G41
/-! a chart's rows -/
def boxRow (b : Bx) : Str := Txt.join " " ["box", b.nm, fig b.size, fig b.start]
def headR (c : Ch) : List Str := [("order " : Str) ++ c.order, ("letters " : Str) ++ fig c.letters, ("turns " : Str) ++ fig c.turns] ++ c.bxs.map boxRow ++ c.evs.map fun z => ("event " : Str) ++ z
def dR (c : Ch) (mark : Str) (d : Dd) : Str := (mark ++ (" " : Str)) ++ Txt.join " " (wordsD c.bxs c.evs d)
def kW (r : Ro) : List Str := if r.keeps ≠ "" then ["keeps", r.keeps] else []
def lW (r : Ro) : List Str := if r.lamp ≠ "" then ["lamp", r.lamp] else []
def rowR (r : Ro) : Str := Txt.mul ("  " : Str) r.depth ++ Txt.join " " ([r.kind, r.nm] ++ kW r ++ lW r)
def roomR (c : Ch) (r : Ro) : List Str := [rowR r] ++ r.ins.map (dR c "in") ++ r.outs.map (dR c "out")
def nmR (c : Ch) (i : Int) : Str := (c.rooms.map (·.nm)).getD i.toNat ""
def gW (c : Ch) : Option Int → List Str
  | none => []
  | some i => [nmR c i]
def isYes : Gd → Bool
  | .yes => true
  | _ => false
def wW (c : Ch) (g : Gd) : List Str := if isYes g = true then [] else [("when " : Str) ++ T (c.bxs.map (·.nm)) (c.rooms.map (·.nm)) g]
def doorRow (c : Ch) (d : Dr) : Str := Txt.join " " ([("door" : Str), nmR c d.room, c.evs.getD d.event.toNat ("" : Str), d.way] ++ gW c d.goal)
def doorR (c : Ch) (d : Dr) : List Str := [doorRow c d] ++ wW c d.guard ++ d.deeds.map (dR c "do")
def rowsC (c : Ch) : List Str := headR c ++ c.rooms.flatMap (roomR c) ++ c.doors.flatMap (doorR c)
/-! what a drawn chart keeps to -/
def Wd (z : Str) : Prop := z.length ≤ 12 ∧ noC 10 z
structure DdOk (c : Ch) (d : Dd) : Prop where
  fit : DdFit c.bxs c.evs d
  ws : ∀ y ∈ wordsD c.bxs c.evs d, y.length ≤ 52 ∧ noC 10 y
structure RmOk (c : Ch) (r : Ro) : Prop where
  nm : Wd r.nm
  kind : Wd r.kind
  keeps : Wd r.keeps
  lamp : Wd r.lamp
  d0 : 0 ≤ r.depth
  d1 : r.depth ≤ 40
  li : r.ins.length ≤ 8
  lo : r.outs.length ≤ 8
  ins : ∀ d ∈ r.ins, DdOk c d
  outs : ∀ d ∈ r.outs, DdOk c d
structure DrOk (c : Ch) (d : Dr) : Prop where
  r0 : 0 ≤ d.room
  r1 : d.room < (c.rooms.length : Int)
  e0 : 0 ≤ d.event
  e1 : d.event < (c.evs.length : Int)
  fit : Fit c.bxs.length c.rooms.length d.guard
  ht : d.guard.ht ≤ 6
  wt : wt d.guard ≤ 600
  ld : d.deeds.length ≤ 8
  deeds : ∀ x ∈ d.deeds, DdOk c x
  way : Wd d.way
  goal : ∀ i, d.goal = some i → 0 ≤ i ∧ i < (c.rooms.length : Int)
structure ChOk (c : Ch) : Prop where
  order : Wd c.order
  le : c.letters.natAbs ≤ 10 ^ 30
  tu : c.turns.natAbs ≤ 10 ^ 30
  lb : c.bxs.length ≤ 10
  bx : ∀ b ∈ c.bxs, Wd b.nm ∧ b.size.natAbs ≤ 10 ^ 30 ∧ b.start.natAbs ≤ 10 ^ 30
  lev : c.evs.length ≤ 10
  ev : ∀ z ∈ c.evs, Wd z
  lr : c.rooms.length ≤ 40
  rm : ∀ r ∈ c.rooms, RmOk c r
  ld : c.doors.length ≤ 60
  dr : ∀ d ∈ c.doors, DrOk c d
theorem mid_le {n : Nat} (h : n ≤ 1000000) : n ≤ sizeLine := Nat.le_trans h (by decide)
theorem fs_bx {H : Hp} {bv : List V} {bs : List Bx} (hb : BxsIn H bv bs) : All2 (FsIn H) bv (bs.map (·.nm)) := by
  induction hb with
  | nil => exact .nil
  | cons x _ ih =>
    obtain ⟨a, e, ha⟩ := x
    exact .cons ⟨a, _, e, ha⟩ ih
theorem nms_bx {K : PySem.W.Frag} {H : Hp} {tb : Addr} {bv : List V} {bs : List Bx} (h : H tb = some (.tup bv)) (hb : BxsIn H bv bs) : Nms K H tb (bs.map (·.nm)) := ⟨bv, SqT.of h, fs_bx hb⟩
theorem fs_rm {H : Hp} {rv : List V} {rs : List Ro} (hb : RosIn H rv rs) : All2 (FsIn H) rv (rs.map (·.nm)) := by
  induction hb with
  | nil => exact .nil
  | cons x _ ih =>
    obtain ⟨a, vi, vo, e, ha, _⟩ := x
    exact .cons ⟨a, _, e, ha⟩ ih
theorem nms_rm {K : PySem.W.Frag} {H : Hp} {tb : Addr} {bv : List V} {bs : List Ro} (h : H tb = some (.tup bv)) (hb : RosIn H bv bs) : Nms K H tb (bs.map (·.nm)) := ⟨bv, SqT.of h, fs_rm hb⟩
def spHead : Sp := fun vs H Q _ => ∃ (t : Addr) (c : Ch), vs = [.ref t] ∧ ChIn H t c ∧ ChOk c ∧ ∀ (p : Addr) (H' : Hp), Same H H' → H p = none → H' p = some (.lst ((headR c).map V.str)) → Q (.ref p) H'
def spDRows : Sp := fun vs H Q _ => ∃ (t : Addr) (c : Ch) (mark : Str) (v : V) (ds : List Dd), vs = [.ref t, .str mark, v] ∧ ChIn H t c ∧ ChOk c ∧ mark.length ≤ 12 ∧ DtIn H v ds ∧ ds.length ≤ 8 ∧ (∀ d ∈ ds, DdOk c d) ∧ ∀ (p : Addr) (H' : Hp), Same H H' → H p = none → H' p = some (.lst ((ds.map (dR c mark)).map V.str)) → Q (.ref p) H'
def spRRows : Sp := fun vs H Q _ => ∃ (t : Addr) (c : Ch) (v : V) (r : Ro), vs = [.ref t, v] ∧ ChIn H t c ∧ ChOk c ∧ RoIn H v r ∧ RmOk c r ∧ ∀ (p : Addr) (H' : Hp), Same H H' → H p = none → H' p = some (.lst ((roomR c r).map V.str)) → Q (.ref p) H'
def spDoorR : Sp := fun vs H Q _ => ∃ (t : Addr) (c : Ch) (v : V) (d : Dr), vs = [.ref t, v] ∧ ChIn H t c ∧ ChOk c ∧ DrIn H v d ∧ DrOk c d ∧ ∀ (p : Addr) (H' : Hp), Same H H' → H p = none → H' p = some (.lst ((doorR c d).map V.str)) → Q (.ref p) H'
def spShown : Sp := fun vs H Q _ => ∃ (t : Addr) (c : Ch), vs = [.ref t] ∧ ChIn H t c ∧ ChOk c ∧ ∀ H', Same H H' → Q (.str (Txt.join "\n" (rowsC c))) H'
/-! lengths -/
theorem bound_sum {l : List Str} {k : Nat} (h : ∀ y ∈ l, y.length ≤ k) : sumL l ≤ k * l.length := by
  induction l with
  | nil => exact Nat.le_refl _
  | cons x l ih =>
    have h1 := h x List.mem_cons_self
    have h2 := ih fun y hy => h y (List.mem_cons_of_mem _ hy)
    show x.length + sumL l ≤ k * (l.length + 1)
    rw [Nat.mul_add]
    omega
theorem bound_join {l : List Str} {k : Nat} (h : ∀ y ∈ l, y.length ≤ k) : (Txt.join " " l).length ≤ (k + 1) * l.length := by
  have h1 := join_up l
  have h2 := bound_sum h
  rw [Nat.add_mul]
  omega
theorem lit_len : ("order " : Str).length = 6 ∧ ("letters " : Str).length = 8 ∧ ("turns " : Str).length = 6 ∧ ("event " : Str).length = 6 ∧ (" " : Str).length = 1 ∧ ("when " : Str).length = 5 ∧ ("box" : Str).length = 3 ∧ ("door" : Str).length = 4 := by decide +kernel
theorem fig30 {n : Int} (h : n.natAbs ≤ 10 ^ 30) : (fig n).length ≤ 33 ∧ n.natAbs.log2 < 1920 := ⟨fig_le' (by omega), log_lt (Nat.lt_of_le_of_lt h (by decide))⟩
theorem box_len {b : Bx} (h : Wd b.nm ∧ b.size.natAbs ≤ 10 ^ 30 ∧ b.start.natAbs ≤ 10 ^ 30) : (boxRow b).length ≤ 200 := by
  have h1 := (fig30 h.2.1).1
  have h2 := (fig30 h.2.2).1
  have h3 := h.1.1
  have := bound_join (l := ["box", b.nm, fig b.size, fig b.start]) (k := 33) (fun y hy => by
    simp only [List.mem_cons, List.not_mem_nil, or_false] at hy
    rcases hy with e | e | e | e <;> rw [e]
    · decide +kernel
    · omega
    · exact h1
    · exact h2)
  exact Nat.le_trans this (by show 34 * 4 ≤ 200; decide)
theorem words_n (c : Ch) (d : Dd) : (wordsD c.bxs c.evs d).length ≤ 3 := by cases d <;> simp [wordsD]
theorem dR_len {c : Ch} {d : Dd} {mark : Str} (h : DdOk c d) (hm : mark.length ≤ 12) : (dR c mark d).length ≤ 200 := by
  have h1 := bound_join (k := 52) (fun y hy => (h.ws y hy).1)
  have h2 := words_n c d
  unfold dR
  rw [Str.length_append, Str.length_append, lit_len.2.2.2.2.1]
  have : 53 * (wordsD c.bxs c.evs d).length ≤ 53 * 3 := Nat.mul_le_mul_left _ h2
  omega
theorem kW_len {r : Ro} {c : Ch} (h : RmOk c r) : (kW r).length ≤ 2 ∧ (∀ y ∈ kW r, y.length ≤ 12 ∧ noC 10 y) := by
  unfold kW
  split
  · refine ⟨Nat.le_refl _, fun y hy => ?_⟩
    rcases List.mem_cons.mp hy with e | e
    · rw [e]
      unfold noC
      decide +kernel
    · rw [List.mem_singleton.mp e]
      exact h.keeps
  · exact ⟨Nat.zero_le _, fun y hy => by cases hy⟩
theorem lW_len {r : Ro} {c : Ch} (h : RmOk c r) : (lW r).length ≤ 2 ∧ (∀ y ∈ lW r, y.length ≤ 12 ∧ noC 10 y) := by
  unfold lW
  split
  · refine ⟨Nat.le_refl _, fun y hy => ?_⟩
    rcases List.mem_cons.mp hy with e | e
    · rw [e]
      unfold noC
      decide +kernel
    · rw [List.mem_singleton.mp e]
      exact h.lamp
  · exact ⟨Nat.zero_le _, fun y hy => by cases hy⟩
theorem rowW {r : Ro} {c : Ch} (h : RmOk c r) : ([r.kind, r.nm] ++ kW r ++ lW r).length ≤ 6 ∧ ∀ y ∈ [r.kind, r.nm] ++ kW r ++ lW r, y.length ≤ 12 ∧ noC 10 y := by
  have h1 := kW_len h
  have h2 := lW_len h
  refine ⟨by rw [List.length_append, List.length_append]; show 2 + _ + _ ≤ 6; omega, fun y hy => ?_⟩
  rcases List.mem_append.mp hy with hy | hy
  · rcases List.mem_append.mp hy with hy | hy
    · rcases List.mem_cons.mp hy with e | e
      · rw [e]
        exact h.kind
      · rw [List.mem_singleton.mp e]
        exact h.nm
    · exact h1.2 y hy
  · exact h2.2 y hy
theorem mul_len {n : Int} (h0 : 0 ≤ n) (h1 : n ≤ 40) : (Txt.mul ("  " : Str) n).length ≤ 80 := by
  rw [lenL, mul_list, List.length_flatten, List.map_replicate, List.sum_replicate_nat]
  have : (("  " : Str).cps.toList).length = 2 := by decide +kernel
  rw [this]
  omega
theorem rowR_len {r : Ro} {c : Ch} (h : RmOk c r) : (rowR r).length ≤ 200 := by
  have h1 := rowW h
  have h2 := bound_join (k := 12) (fun y hy => (h1.2 y hy).1)
  have h3 := mul_len h.d0 h.d1
  unfold rowR
  rw [Str.length_append]
  have : 13 * ([r.kind, r.nm] ++ kW r ++ lW r).length ≤ 13 * 6 := Nat.mul_le_mul_left _ h1.1
  omega
theorem nmR_wd {c : Ch} (k : ChOk c) {i : Int} (h0 : 0 ≤ i) (h1 : i < (c.rooms.length : Int)) : Wd (nmR c i) := by
  have hm : nmR c i ∈ c.rooms.map (·.nm) := getD_mem h0 (by rw [List.length_map]; exact h1)
  obtain ⟨r, hr, e⟩ := List.mem_map.mp hm
  rw [← e]
  exact (k.rm r hr).nm
theorem ev_wd {c : Ch} (k : ChOk c) {i : Int} (h0 : 0 ≤ i) (h1 : i < (c.evs.length : Int)) : Wd (c.evs.getD i.toNat ("" : Str)) := k.ev _ (getD_mem h0 h1)
theorem doorW {c : Ch} (k : ChOk c) {d : Dr} (h : DrOk c d) : ([("door" : Str), nmR c d.room, c.evs.getD d.event.toNat ("" : Str), d.way] ++ gW c d.goal).length ≤ 5 ∧ ∀ y ∈ [("door" : Str), nmR c d.room, c.evs.getD d.event.toNat ("" : Str), d.way] ++ gW c d.goal, y.length ≤ 12 ∧ noC 10 y := by
  refine ⟨?_, fun y hy => ?_⟩
  · rw [List.length_append]
    cases d.goal with
    | none => show 4 + 0 ≤ 5; decide
    | some i => show 4 + 1 ≤ 5; decide
  · rcases List.mem_append.mp hy with hy | hy
    · simp only [List.mem_cons, List.not_mem_nil, or_false] at hy
      rcases hy with e | e | e | e <;> rw [e]
      · unfold noC
        decide +kernel
      · exact nmR_wd k h.r0 h.r1
      · exact ev_wd k h.e0 h.e1
      · exact h.way
    · cases hg : d.goal with
      | none =>
        rw [hg] at hy
        cases hy
      | some i =>
        rw [hg] at hy
        rw [List.mem_singleton.mp hy]
        exact nmR_wd k (h.goal i hg).1 (h.goal i hg).2
theorem doorRow_len {c : Ch} (k : ChOk c) {d : Dr} (h : DrOk c d) : (doorRow c d).length ≤ 200 := by
  have h1 := doorW k h
  have h2 := bound_join (k := 12) (fun y hy => (h1.2 y hy).1)
  have : 13 * ([("door" : Str), nmR c d.room, c.evs.getD d.event.toNat ("" : Str), d.way] ++ gW c d.goal).length ≤ 13 * 5 := Nat.mul_le_mul_left _ h1.1
  exact Nat.le_trans h2 (by omega)
end C43

namespace C43
open PySem L2 Mix Gds Dds Wds Cht Num Spl Txm Dig D42 G41
def rJoin (K : PySem.W.Frag) : V → List V → Hp → VK → Prop := fun x xs H Q => ∃ (a : Str) (p : Addr) (ys : List Str), x = .str a ∧ xs = [.ref p] ∧ SqL K H p (ys.map V.str) ∧ (ys.map (·.length)).sum + ys.length * a.length ≤ 16777216 ∧ Q (.str (Txt.join a ys)) H
theorem sum16 {l : List Str} {k : Nat} (h : ∀ y ∈ l, y.length ≤ k) (hl : (k + 1) * l.length ≤ 16777216) : (l.map (·.length)).sum + l.length * (" " : Str).length ≤ 16777216 := by
  have := bound_sum h
  rw [lit_len.2.2.2.2.1]
  show sumL l + _ ≤ _
  rw [Nat.add_mul] at hl
  omega
theorem RosIn_len {H : Hp} {vs : List V} {rs : List Ro} (x : RosIn H vs rs) : vs.length = rs.length := All2.length x
theorem DrsIn_len {H : Hp} {vs : List V} {rs : List Dr} (x : DrsIn H vs rs) : vs.length = rs.length := All2.length x
theorem gd_yes {H : Hp} {v : V} {g : Gd} (h : GdIn H v g) : ∃ (a : Addr) (us : List V), v = .ref a ∧ H a = some (.tup (.str (kG g) :: us)) ∧ (decide (kG g = "yes") && us.isEmpty) = isYes g := by
  cases h with
  | @yes a e => exact ⟨a, [], rfl, e, by decide +kernel⟩
  | @is a b m e => exact ⟨a, _, rfl, e, Bool.and_false _⟩
  | @under a b m e => exact ⟨a, _, rfl, e, Bool.and_false _⟩
  | @inn a r e => exact ⟨a, _, rfl, e, Bool.and_false _⟩
  | @neg a u k e hk => exact ⟨a, _, rfl, e, Bool.and_false _⟩
  | @both a u1 u2 k1 k2 e h1 h2 => exact ⟨a, _, rfl, e, Bool.and_false _⟩
  | @either a u1 u2 k1 k2 e h1 h2 => exact ⟨a, _, rfl, e, Bool.and_false _⟩
theorem atI_getD {zs : List Str} {i : Int} (h0 : 0 ≤ i) (h1 : i < (zs.length : Int)) : atI (zs.map V.str) i = some (.str (zs.getD i.toNat ("" : Str))) := by
  obtain ⟨hi, e⟩ := at_nm h0 h1
  have := atI_nat (xs := zs.map V.str) (j := i.toNat) (v := .str zs[i.toNat]) (by rw [List.getElem?_map, List.getElem?_eq_getElem hi]; rfl)
  rw [show ((i.toNat : Nat) : Int) = i by omega] at this
  rw [e]
  exact this
theorem room_n {c : Ch} {r : Ro} (h : RmOk c r) : (roomR c r).length ≤ 17 := by
  have h1 := h.li
  have h2 := h.lo
  unfold roomR
  rw [List.length_append, List.length_append, List.length_map, List.length_map]
  show 1 + _ + _ ≤ 17
  omega
theorem wW_n (c : Ch) (g : Gd) : (wW c g).length ≤ 1 := by
  unfold wW
  split
  · exact Nat.zero_le _
  · exact Nat.le_refl _
theorem door_n {c : Ch} {d : Dr} (h : DrOk c d) : (doorR c d).length ≤ 10 := by
  have h1 := h.ld
  have h2 := wW_n c d.guard
  unfold doorR
  rw [List.length_append, List.length_append, List.length_map]
  show 1 + _ + _ ≤ 10
  omega
theorem head_n {c : Ch} (k : ChOk c) : (headR c).length ≤ 23 := by
  have h1 := k.lb
  have h2 := k.lev
  unfold headR
  rw [List.length_append, List.length_append, List.length_map, List.length_map]
  show 3 + _ + _ ≤ 23
  omega
theorem flat_n {α : Type} {f : α → List Str} {L : List α} {n : Nat} (h : ∀ x ∈ L, (f x).length ≤ n) : (L.flatMap f).length ≤ n * L.length := by
  induction L with
  | nil => exact Nat.le_refl _
  | cons x L ih =>
    have h1 := h x List.mem_cons_self
    have h2 := ih fun y hy => h y (List.mem_cons_of_mem _ hy)
    rw [List.flatMap_cons, List.length_append, List.length_cons, Nat.mul_add]
    omega
theorem rows_room {c : Ch} (k : ChOk c) (i : Nat) : (headR c ++ (c.rooms.take i).flatMap (roomR c)).length ≤ 703 := by
  have h1 := head_n k
  have h2 := flat_n (f := roomR c) (L := c.rooms.take i) (n := 17) fun r hr => room_n (k.rm r (List.mem_of_mem_take hr))
  have h3 : (c.rooms.take i).length ≤ 40 := by
    rw [List.length_take]
    have := k.lr
    omega
  rw [List.length_append]
  omega
theorem rows_door {c : Ch} (k : ChOk c) (i : Nat) : ((headR c ++ c.rooms.flatMap (roomR c)) ++ (c.doors.take i).flatMap (doorR c)).length ≤ 1303 := by
  have h1 := rows_room k c.rooms.length
  rw [List.take_length] at h1
  have h2 := flat_n (f := doorR c) (L := c.doors.take i) (n := 10) fun r hr => door_n (k.dr r (List.mem_of_mem_take hr))
  have h3 : (c.doors.take i).length ≤ 60 := by
    rw [List.length_take]
    have := k.ld
    omega
  rw [List.length_append]
  omega
theorem rows_len {c : Ch} (k : ChOk c) : (rowsC c).length ≤ 1303 := by
  have := rows_door k c.doors.length
  rw [List.take_length] at this
  exact this
def Rw (y : Str) : Prop := y.length ≤ 700 ∧ noC 10 y
theorem noC_app {a b : Str} (h1 : noC 10 a) (h2 : noC 10 b) : noC 10 (a ++ b) := by
  unfold noC
  rw [app_list]
  intro h
  rcases List.mem_append.mp h with h | h
  · exact h1 h
  · exact h2 h
theorem noC_join {l : List Str} (h : ∀ y ∈ l, noC 10 y) : noC 10 (Txt.join " " l) := by
  unfold noC
  rw [join_list sp_list]
  intro hc
  rcases mem_joinL hc with e | ⟨w, hw, e⟩
  · exact absurd e (by decide)
  · obtain ⟨y, hy, rfl⟩ := List.mem_map.mp hw
    exact h y hy e
theorem noC_fig (n : Int) : noC 10 (fig n) := fun hc => by
  rw [fig_list] at hc
  unfold figs at hc
  rcases List.mem_append.mp hc with h | h
  · split at h
    · exact absurd (List.mem_singleton.mp h) (by decide)
    · cases h
  · split at h
    · exact absurd (List.mem_singleton.mp h) (by decide)
    · obtain ⟨d, hd, e⟩ := D_all _ _ h
      omega
theorem lit_nl : noC 10 ("order " : Str) ∧ noC 10 ("letters " : Str) ∧ noC 10 ("turns " : Str) ∧ noC 10 ("event " : Str) ∧ noC 10 (" " : Str) ∧ noC 10 ("when " : Str) ∧ noC 10 ("box" : Str) ∧ noC 10 ("  " : Str) ∧ noC 10 ("in" : Str) ∧ noC 10 ("out" : Str) ∧ noC 10 ("do" : Str) := by unfold noC; decide +kernel
theorem dR_rw {c : Ch} {d : Dd} {mark : Str} (h : DdOk c d) (hm : mark.length ≤ 12) (hn : noC 10 mark) : Rw (dR c mark d) := by
  have := dR_len h hm
  exact ⟨by omega, noC_app (noC_app hn lit_nl.2.2.2.2.1) (noC_join fun y hy => (h.ws y hy).2)⟩
theorem noC_kG : ∀ g : Gd, noC 10 (kG g)
  | .yes => by show _ ∉ ("yes" : Str).cps.toList; decide +kernel
  | .is _ _ => by show _ ∉ ("is" : Str).cps.toList; decide +kernel
  | .under _ _ => by show _ ∉ ("under" : Str).cps.toList; decide +kernel
  | .inn _ => by show _ ∉ ("in" : Str).cps.toList; decide +kernel
  | .neg _ => by show _ ∉ ("not" : Str).cps.toList; decide +kernel
  | .both _ _ => by show _ ∉ ("both" : Str).cps.toList; decide +kernel
  | .either _ _ => by show _ ∉ ("either" : Str).cps.toList; decide +kernel
theorem noC_words {nb nr : List Str} (B : ∀ z ∈ nb, noC 10 z) (R : ∀ z ∈ nr, noC 10 z) : ∀ g : Gd, Fit nb.length nr.length g → ∀ y ∈ wordsG nb nr g, noC 10 y
  | .yes, _, y, hy => by
    rw [List.mem_singleton.mp (show y ∈ [("yes" : Str)] from hy)]
    exact noC_kG .yes
  | .is b n, f, y, hy => by
    rcases List.mem_cons.mp (show y ∈ [("is" : Str), nb.getD b.toNat ("" : Str), fig n] from hy) with h | h
    · rw [h]
      exact noC_kG (.is b n)
    rcases List.mem_cons.mp h with h | h
    · rw [h]
      exact B _ (getD_mem f.1.1 f.1.2)
    · rw [List.mem_singleton.mp h]
      exact noC_fig n
  | .under b n, f, y, hy => by
    rcases List.mem_cons.mp (show y ∈ [("under" : Str), nb.getD b.toNat ("" : Str), fig n] from hy) with h | h
    · rw [h]
      exact noC_kG (.under b n)
    rcases List.mem_cons.mp h with h | h
    · rw [h]
      exact B _ (getD_mem f.1.1 f.1.2)
    · rw [List.mem_singleton.mp h]
      exact noC_fig n
  | .inn r, f, y, hy => by
    rcases List.mem_cons.mp (show y ∈ [("in" : Str), nr.getD r.toNat ("" : Str)] from hy) with h | h
    · rw [h]
      exact noC_kG (.inn r)
    · rw [List.mem_singleton.mp h]
      exact R _ (getD_mem f.1 f.2)
  | .neg g, f, y, hy => by
    rcases List.mem_cons.mp (show y ∈ ("not" : Str) :: wordsG nb nr g from hy) with h | h
    · rw [h]
      exact noC_kG (.neg g)
    · exact noC_words B R g f y h
  | .both g k, f, y, hy => by
    rcases List.mem_cons.mp (show y ∈ ("both" : Str) :: (wordsG nb nr g ++ wordsG nb nr k) from hy) with h | h
    · rw [h]
      exact noC_kG (.both g k)
    rcases List.mem_append.mp h with h | h
    · exact noC_words B R g f.1 y h
    · exact noC_words B R k f.2 y h
  | .either g k, f, y, hy => by
    rcases List.mem_cons.mp (show y ∈ ("either" : Str) :: (wordsG nb nr g ++ wordsG nb nr k) from hy) with h | h
    · rw [h]
      exact noC_kG (.either g k)
    rcases List.mem_append.mp h with h | h
    · exact noC_words B R g f.1 y h
    · exact noC_words B R k f.2 y h
theorem rows_ok {c : Ch} (k : ChOk c) : ∀ y ∈ rowsC c, Rw y := by
  intro y hy
  have L := lit_len
  have N := lit_nl
  rcases List.mem_append.mp hy with hy | hy
  · rcases List.mem_append.mp hy with hy | hy
    · rcases List.mem_append.mp hy with hy | hy
      · rcases List.mem_append.mp hy with hy | hy
        · simp only [List.mem_cons, List.not_mem_nil, or_false] at hy
          have f1 := (fig30 k.le).1
          have f2 := (fig30 k.tu).1
          have lo := k.order
          rcases hy with e | e | e <;> rw [e]
          · exact ⟨by rw [Str.length_append, L.1]; have := lo.1; omega, noC_app N.1 lo.2⟩
          · exact ⟨by rw [Str.length_append, L.2.1]; omega, noC_app N.2.1 (noC_fig _)⟩
          · exact ⟨by rw [Str.length_append, L.2.2.1]; omega, noC_app N.2.2.1 (noC_fig _)⟩
        · obtain ⟨b, hb, rfl⟩ := List.mem_map.mp hy
          have h := k.bx b hb
          have := box_len h
          refine ⟨by omega, noC_join fun z hz => ?_⟩
          simp only [List.mem_cons, List.not_mem_nil, or_false] at hz
          rcases hz with e | e | e | e <;> rw [e]
          · exact N.2.2.2.2.2.2.1
          · exact h.1.2
          · exact noC_fig _
          · exact noC_fig _
      · obtain ⟨z, hz, rfl⟩ := List.mem_map.mp hy
        have h := k.ev z hz
        exact ⟨by rw [Str.length_append, L.2.2.2.1]; have := h.1; omega, noC_app N.2.2.2.1 h.2⟩
    · obtain ⟨r, hr, hy⟩ := List.mem_flatMap.mp hy
      have ok := k.rm r hr
      rcases List.mem_append.mp hy with hy | hy
      · rcases List.mem_append.mp hy with hy | hy
        · rw [List.mem_singleton.mp hy]
          have := rowR_len ok
          refine ⟨by omega, noC_app ?_ (noC_join fun z hz => ((rowW ok).2 z hz).2)⟩
          unfold noC
          rw [mul_list]
          intro h
          obtain ⟨w, hw, h⟩ := List.mem_flatten.mp h
          rw [(List.mem_replicate.mp hw).2] at h
          exact N.2.2.2.2.2.2.2.1 h
        · obtain ⟨d, hd, rfl⟩ := List.mem_map.mp hy
          exact dR_rw (ok.ins d hd) (by decide +kernel) N.2.2.2.2.2.2.2.2.1
      · obtain ⟨d, hd, rfl⟩ := List.mem_map.mp hy
        exact dR_rw (ok.outs d hd) (by decide +kernel) N.2.2.2.2.2.2.2.2.2.1
  · obtain ⟨r, hr, hy⟩ := List.mem_flatMap.mp hy
    have ok := k.dr r hr
    rcases List.mem_append.mp hy with hy | hy
    · rcases List.mem_append.mp hy with hy | hy
      · rw [List.mem_singleton.mp hy]
        have := doorRow_len k ok
        exact ⟨by omega, noC_join fun z hz => ((doorW k ok).2 z hz).2⟩
      · unfold wW at hy
        split at hy
        · cases hy
        · rw [List.mem_singleton.mp hy]
          have fit : Fit (c.bxs.map (·.nm)).length (c.rooms.map (·.nm)).length r.guard := by
            rw [List.length_map, List.length_map]
            exact ok.fit
          have nb : ∀ z ∈ c.bxs.map (·.nm), Wd z := fun z hz => by
            obtain ⟨b, hb, rfl⟩ := List.mem_map.mp hz
            exact (k.bx b hb).1
          have nr : ∀ z ∈ c.rooms.map (·.nm), Wd z := fun z hz => by
            obtain ⟨b, hb, rfl⟩ := List.mem_map.mp hz
            exact (k.rm b hb).nm
          have lT := T_len (fun z hz => (nb z hz).1) (fun z hz => (nr z hz).1) r.guard fit
          have w6 := ok.wt
          exact ⟨by rw [Str.length_append, L.2.2.2.2.2.1]; omega, noC_app N.2.2.2.2.2.1 (noC_join (noC_words (fun z hz => (nb z hz).2) (fun z hz => (nr z hz).2) r.guard fit))⟩
    · obtain ⟨d, hd, rfl⟩ := List.mem_map.mp hy
      exact dR_rw (ok.deeds d hd) (by decide +kernel) N.2.2.2.2.2.2.2.2.2.2
theorem rows_each {c : Ch} (k : ChOk c) (y : Str) (hy : y ∈ rowsC c) : y.length ≤ 700 := (rows_ok k y hy).1
section
variable {P : Program} {w : World} {K : PySem.W.Frag} {mg : Str → Option Value} {base : Heap}
theorem sc_head_rows : FnScope ["chart", "rows"] ["chart"] (defScope s_head_rows) := ⟨rfl, rfl, rfl, by decide +kernel, rfl, by decide +kernel, by decide +kernel⟩
theorem ok_head {n : Nat} {f gw : Addr} {fd dw : FuncData} (F : Fun K "head_rows" "head_rows" s_head_rows f fd) (G_written : FnOk P w K mg base CX0 n gw dw ["number"] spWritten) (b_written : Binds K dw ["number"] []) (k_written : PySem.W.keepIn K (.ref gw) = true) (m_written : mg "written" = some (.ref gw)) : FnOk P w K mg base CX0 (n + 1) f fd ["chart"] spHead := by
  refine F.ok sc_head_rows (fun vs H Q E h => ?_) (fun cdv A outer s H vs Q E hr h => ?_)
  · obtain ⟨t, c, rfl, _⟩ := h
    rfl
  obtain ⟨t, c, rfl, hC, k, q⟩ := h
  refine ⟨_, (pss_cons (ps_set (i := 1) sc_head_rows.nd rfl (Or.inl rfl) (pe_lst (pa_cons (pe_op op_add_str pe_str (pe_ix ix_tup (pv 0) pe_int (fun _ _ => rfl))) (pa_cons (pe_op op_add_str pe_str (pe_call G_written hr rfl m_written k_written b_written .nil pass0 (pa_cons (pe_ix ix_tup (pv 0) pe_int (fun _ _ => rfl)) pa_nil))) (pa_cons (pe_op op_add_str pe_str (pe_call G_written hr rfl m_written k_written b_written .nil pass0 (pa_cons (pe_ix ix_tup (pv 0) pe_int (fun _ _ => rfl)) pa_nil))) pa_nil)))))
    (pss_cons (ps_expr (pe_bm PySem.F.plainAttrs_list PySem.F.slot_list_extend PySem.F.type_list_extend mt_extend (pv 1) (pa_cons (pe_comp (caps := []) rfl (show CompSc (defScope s_head_rows) ["chart", "rows"] _ _ _ from ⟨rfl, rfl, by decide +kernel, by decide +kernel, by decide +kernel, by decide +kernel, by decide +kernel⟩) (pi_tup (pe_ix ix_tup (pv 0) pe_int (fun _ _ => rfl))) (fun _ _ _ _ _ _ => pifs_nil) (fun _ _ _ _ _ _ => (show PE _ _ (tBM K "str" (rJoin K) _ _) from pe_bm (r := rJoin K) PySem.F.plainAttrs_str PySem.F.slot_str_join PySem.F.type_str_join mt_join pe_str (pa_cons (pe_lst (pa_cons pe_str (pa_cons (pe_ix (r := rIxT K) ix_tup (pv 0) pe_int (fun _ _ => rfl)) (pa_cons (pe_call G_written hr rfl m_written k_written b_written .nil pass0 (pa_cons (pe_ix (r := rIxT K) ix_tup (pv 0) pe_int (fun _ _ => rfl)) pa_nil)) (pa_cons (pe_call G_written hr rfl m_written k_written b_written .nil pass0 (pa_cons (pe_ix (r := rIxT K) ix_tup (pv 0) pe_int (fun _ _ => rfl)) pa_nil)) pa_nil))))) pa_nil)))) pa_nil)))
    (pss_cons (ps_expr (pe_bm PySem.F.plainAttrs_list PySem.F.slot_list_extend PySem.F.type_list_extend mt_extend (pv 1) (pa_cons (pe_comp (caps := []) rfl (show CompSc (defScope s_head_rows) ["chart", "rows"] _ _ _ from ⟨rfl, rfl, by decide +kernel, by decide +kernel, by decide +kernel, by decide +kernel, by decide +kernel⟩) (pi_tup (pe_ix ix_tup (pv 0) pe_int (fun _ _ => rfl))) (fun _ _ _ _ _ _ => pifs_nil) (fun _ _ _ _ _ _ => (pe_op op_add_str pe_str (pv 0)))) pa_nil)))
    (pss_one (ps_ret (pv 1)))))), ?_⟩
  obtain ⟨tb, te, tr, td, bv, rv, dv, a1, a2, a3, a4, a5, a6, a7, a8⟩ := id hC
  have fl := fig30 k.le
  have ft := fig30 k.tu
  have lo := k.order.1
  have L := lit_len
  refine ⟨_, rfl, t, _, _, _, rfl, rfl, SqT.of a1, rfl, _, _, rfl, rfl, small_le (by rw [L.1]; omega), _, rfl, t, _, _, _, rfl, rfl, SqT.of a1, rfl, _, rfl, fl.2, _, _, rfl, rfl, small_le (by show Str.length ("letters " : Str) + (fig c.letters).length ≤ 1000; rw [L.2.1]; omega), _, rfl, t, _, _, _, rfl, rfl, SqT.of a1, rfl, _, rfl, ft.2, _, _, rfl, rfl, small_le (by show Str.length ("turns " : Str) + (fig c.turns).length ≤ 1000; rw [L.2.2.1]; omega), small_le (by show 3 ≤ 1000; decide), fun p hp => ?_⟩
  have s1 := same_new hp (.lst ([("order " : Str) ++ c.order, ("letters " : Str) ++ fig c.letters, ("turns " : Str) ++ fig c.turns].map V.str))
  have h1 : (upd H p (.lst ([("order " : Str) ++ c.order, ("letters " : Str) ++ fig c.letters, ("turns " : Str) ++ fig c.turns].map V.str))) p = some (.lst ([("order " : Str) ++ c.order, ("letters " : Str) ++ fig c.letters, ("turns " : Str) ++ fig c.turns].map V.str)) := upd_same
  show tSeq _ _ _ _ (upd H p (.lst ([("order " : Str) ++ c.order, ("letters " : Str) ++ fig c.letters, ("turns " : Str) ++ fig c.turns].map V.str)))
  generalize upd H p (.lst ([("order " : Str) ++ c.order, ("letters " : Str) ++ fig c.letters, ("turns " : Str) ++ fig c.turns].map V.str)) = H1 at s1 h1 ⊢
  have lb := a3.length
  refine ⟨_, rfl, .inl ⟨rfl, _, SqL.of h1⟩, _, rfl, t, _, _, _, rfl, rfl, SqT.of (s1 _ _ a1), rfl, tb, rfl, ⟨_, SqT.of (s1 _ _ a2)⟩, ?_⟩
  refine comp_tup (K := K) (a := tb) (xs := bv) (fun i acc H' => Same H1 H' ∧ acc = ((c.bxs.take i).map boxRow).map V.str) ⟨Same.refl _, rfl⟩ (fun i acc H' ⟨s2, _⟩ => SqT.of (s2 _ _ (s1 _ _ a2))) (fun i x acc H' hx ⟨s2, e2⟩ => ?_) (fun acc H' ⟨s2, e2⟩ p2 hp2 => ?_)
  · have li : i < bv.length := (List.getElem?_eq_some_iff.mp hx).1
    have hk := List.getElem?_eq_getElem (show i < c.bxs.length by omega)
    obtain ⟨x', hx', b1, rfl, hb1⟩ := All2.get a3 hk
    obtain rfl : x = .ref b1 := Option.some.inj (hx.symm.trans hx')
    have hb := k.bx _ (List.getElem_mem (show i < c.bxs.length by omega))
    have f1 := fig30 hb.2.1
    have f2 := fig30 hb.2.2
    have hb2 := s2 _ _ (s1 _ _ hb1)
    have lbx := k.lb
    refine ⟨rfl, _, rfl, b1, _, _, _, rfl, rfl, SqT.of hb2, rfl, _, rfl, b1, _, _, _, rfl, rfl, SqT.of hb2, rfl, _, rfl, f1.2, _, rfl, b1, _, _, _, rfl, rfl, SqT.of hb2, rfl, _, rfl, f2.2, small_le (by show 4 ≤ 1000; decide), fun p3 hp3 => ⟨" ", p3, ["box", c.bxs[i].nm, fig c.bxs[i].size, fig c.bxs[i].start], rfl, rfl, SqL.of upd_same, ?_, ?_, s2.trans (same_new hp3 _), ?_⟩⟩
    · refine sum16 (k := 33) (fun y hy => ?_) (by show 34 * 4 ≤ 16777216; decide)
      simp only [List.mem_cons, List.not_mem_nil, or_false] at hy
      have := hb.1.1
      rcases hy with e | e | e | e <;> rw [e]
      · decide +kernel
      · omega
      · exact f1.1
      · exact f2.1
    · rw [e2, List.length_map, List.length_map, List.length_take]
      exact small1000 (by omega)
    · rw [e2, List.take_add_one, hk, List.map_append, List.map_append]
      rfl
  rw [List.take_of_length_le (by omega)] at e2
  subst e2
  have s3 := s1.trans s2
  refine ⟨p, p2, _, _, rfl, rfl, same_new hp2 _ _ _ (s2 _ _ h1), upd_same, mid_le (by rw [List.length_map, List.length_map, List.length_map]; have := k.lb; show 3 + _ ≤ _; omega), ?_⟩
  have s4 : Same H (upd (upd H' p2 (.lst ((c.bxs.map boxRow).map V.str))) p (.lst ([("order " : Str) ++ c.order, ("letters " : Str) ++ fig c.letters, ("turns " : Str) ++ fig c.turns].map V.str ++ (c.bxs.map boxRow).map V.str))) := same_upd hp (s3.trans (same_new hp2 _)) _
  have h4 : (upd (upd H' p2 (.lst ((c.bxs.map boxRow).map V.str))) p (.lst ([("order " : Str) ++ c.order, ("letters " : Str) ++ fig c.letters, ("turns " : Str) ++ fig c.turns].map V.str ++ (c.bxs.map boxRow).map V.str))) p = some (.lst (([("order " : Str) ++ c.order, ("letters " : Str) ++ fig c.letters, ("turns " : Str) ++ fig c.turns] ++ c.bxs.map boxRow).map V.str)) := by rw [upd_same, List.map_append]
  generalize upd (upd H' p2 (.lst ((c.bxs.map boxRow).map V.str))) p (.lst ([("order " : Str) ++ c.order, ("letters " : Str) ++ fig c.letters, ("turns " : Str) ++ fig c.turns].map V.str ++ (c.bxs.map boxRow).map V.str)) = H4 at s4 h4 ⊢
  refine ⟨_, rfl, .inl ⟨rfl, _, SqL.of h4⟩, _, rfl, t, _, _, _, rfl, rfl, SqT.of (s4 _ _ a1), rfl, te, rfl, ⟨_, SqT.of (s4 _ _ a4)⟩, ?_⟩
  refine comp_tup (K := K) (a := te) (xs := c.evs.map V.str) (fun i acc H' => Same H4 H' ∧ acc = ((c.evs.take i).map fun z => ("event " : Str) ++ z).map V.str) ⟨Same.refl _, rfl⟩ (fun i acc H' ⟨s5, _⟩ => SqT.of (s5 _ _ (s4 _ _ a4))) (fun i x acc H' hx ⟨s5, e5⟩ => ?_) (fun acc H' ⟨s5, e5⟩ p5 hp5 => ?_)
  · have li : i < (c.evs.map V.str).length := (List.getElem?_eq_some_iff.mp hx).1
    have li' : i < c.evs.length := by
      rw [List.length_map] at li
      exact li
    have hk := List.getElem?_eq_getElem li'
    obtain rfl : x = .str c.evs[i] := by
      rw [List.getElem?_map, hk] at hx
      exact (Option.some.inj hx).symm
    have he := (k.ev _ (List.getElem_mem li')).1
    have lev := k.lev
    refine ⟨_, rfl, _, _, rfl, rfl, small_le (by rw [L.2.2.2.1]; omega), ?_, s5, ?_⟩
    · rw [e5, List.length_map, List.length_map, List.length_take]
      exact small1000 (by omega)
    · rw [e5, List.take_add_one, hk, List.map_append, List.map_append]
      rfl
  rw [List.take_of_length_le (by rw [List.length_map]; exact Nat.le_refl _)] at e5
  subst e5
  refine ⟨p, p5, _, _, rfl, rfl, same_new hp5 _ _ _ (s5 _ _ h4), upd_same, mid_le (by rw [List.length_map, List.length_map, List.length_map, List.length_append, List.length_map]; have := k.lb; have := k.lev; show 3 + _ + _ ≤ _; omega), _, rfl, q p _ (same_upd hp ((s4.trans s5).trans (same_new hp5 _)) _) hp ?_⟩
  rw [upd_same, ← List.map_append]
  rfl
theorem sc_deed_rows : FnScope ["chart", "mark", "deeds"] ["chart", "mark", "deeds"] (defScope s_deed_rows) := ⟨rfl, rfl, rfl, by decide +kernel, rfl, by decide +kernel, by decide +kernel⟩
theorem ok_drows {n : Nat} {f gw : Addr} {fd dw : FuncData} (F : Fun K "deed_rows" "deed_rows" s_deed_rows f fd) (G_deed_text : FnOk P w K mg base CX0 n gw dw ["deed", "boxes", "events"] (spDeedT K)) (b_deed_text : Binds K dw ["deed", "boxes", "events"] []) (k_deed_text : PySem.W.keepIn K (.ref gw) = true) (m_deed_text : mg "deed_text" = some (.ref gw)) : FnOk P w K mg base CX0 (n + 1) f fd ["chart", "mark", "deeds"] spDRows := by
  refine F.ok sc_deed_rows (fun vs H Q E h => ?_) (fun cdv A outer s H vs Q E hr h => ?_)
  · obtain ⟨t, c, mark, v, ds, rfl, _⟩ := h
    rfl
  obtain ⟨t, c, mark, v, ds, rfl, hC, k, lm, ⟨td0, dv0, rfl, hd, hA⟩, l8, hds, q⟩ := h
  refine ⟨_, (pss_one (ps_ret (pe_comp (caps := [(1, "mark"), (0, "chart")]) rfl (show CompSc (defScope s_deed_rows) ["chart", "mark", "deeds"] _ _ _ from ⟨rfl, rfl, by decide +kernel, by decide +kernel, by decide +kernel, by decide +kernel, by decide +kernel⟩) (pi_tup (pv 2)) (fun _ _ _ _ _ _ => pifs_nil) (fun _ _ _ _ _ _ => (pe_op op_add_str (pe_op op_add_str (pv 1) pe_str) (pe_call G_deed_text hr rfl m_deed_text k_deed_text b_deed_text .nil pass0 (pa_cons (pv 0) (pa_cons (pe_ix (r := rIxT K) ix_tup (pv 2) pe_int (fun _ _ => rfl)) (pa_cons (pe_ix (r := rIxT K) ix_tup (pv 2) pe_int (fun _ _ => rfl)) pa_nil))))))))), ?_⟩
  obtain ⟨tb, te, tr, td, bv, rv, dv, a1, a2, a3, a4, a5, a6, a7, a8⟩ := id hC
  have L := lit_len
  have ld := hA.length
  have bnm : ∀ b ∈ c.bxs, b.nm.length ≤ 1000 := fun b hb => Nat.le_trans (k.bx b hb).1.1 (by decide)
  have enm : ∀ e ∈ c.evs, e.length ≤ 1000 := fun e he => Nat.le_trans (k.ev e he).1 (by decide)
  refine ⟨_, rfl, td0, rfl, ⟨_, SqT.of hd⟩, ?_⟩
  refine comp_tup (K := K) (a := td0) (xs := dv0) (fun i acc H' => Same H H' ∧ acc = ((ds.take i).map (dR c mark)).map V.str) ⟨Same.refl _, rfl⟩ (fun i acc H' ⟨s2, _⟩ => SqT.of (s2 _ _ hd)) (fun i x acc H' hx ⟨s2, e2⟩ => ?_) (fun acc H' ⟨s2, e2⟩ p2 hp2 => ?_)
  · have li : i < dv0.length := (List.getElem?_eq_some_iff.mp hx).1
    have hk := List.getElem?_eq_getElem (show i < ds.length by omega)
    obtain ⟨x', hx', hd'⟩ := hA.get hk
    obtain rfl : x = x' := Option.some.inj (hx.symm.trans hx')
    have ok := hds _ (List.getElem_mem (show i < ds.length by omega))
    have h1 := bound_join (k := 52) (fun y hy => (ok.ws y hy).1)
    have h2 := words_n c ds[i]
    have h3 : 53 * (wordsD c.bxs c.evs ds[i]).length ≤ 53 * 3 := Nat.mul_le_mul_left _ h2
    refine ⟨_, rfl, _, _, rfl, rfl, small_le (by rw [L.2.2.2.2.1]; omega), _, rfl, _, rfl, t, _, _, _, rfl, rfl, SqT.of (s2 _ _ a1), rfl, _, rfl, t, _, _, _, rfl, rfl, SqT.of (s2 _ _ a1), rfl, x, tb, te, ds[i], bv, c.bxs, c.evs, rfl, hd'.mono (KeepT.of s2), ok.fit, s2 _ _ a2, BxsIn.mono a3 (KeepT.of s2), bnm, SqT.of (s2 _ _ a4), enm, fun H3 s3 => ⟨_, _, rfl, rfl, small_le (by rw [Str.length_append, L.2.2.2.2.1]; omega), ?_, s2.trans s3, ?_⟩⟩
    · rw [e2, List.length_map, List.length_map, List.length_take]
      exact small1000 (by omega)
    · rw [e2, List.take_add_one, hk, List.map_append, List.map_append]
      rfl
  rw [List.take_of_length_le (by omega)] at e2
  subst e2
  exact q p2 _ (s2.trans (same_new hp2 _)) (s2.free hp2) upd_same
theorem sc_room_rows : FnScope ["chart", "room", "words", "row"] ["chart", "room"] (defScope s_room_rows) := ⟨rfl, rfl, rfl, by decide +kernel, rfl, by decide +kernel, by decide +kernel⟩
theorem ok_rrows {n : Nat} {f gw : Addr} {fd dw : FuncData} (F : Fun K "room_rows" "room_rows" s_room_rows f fd) (G_deed_rows : FnOk P w K mg base CX0 n gw dw ["chart", "mark", "deeds"] spDRows) (b_deed_rows : Binds K dw ["chart", "mark", "deeds"] []) (k_deed_rows : PySem.W.keepIn K (.ref gw) = true) (m_deed_rows : mg "deed_rows" = some (.ref gw)) : FnOk P w K mg base CX0 (n + 1) f fd ["chart", "room"] spRRows := by
  refine F.ok sc_room_rows (fun vs H Q E h => ?_) (fun cdv A outer s H vs Q E hr h => ?_)
  · obtain ⟨t, c, v, r, rfl, _⟩ := h
    rfl
  obtain ⟨t, c, v, r, rfl, hC, k, ⟨a, vi, vo, rfl, ha, hi, ho⟩, ok, q⟩ := h
  refine ⟨_, (pss_cons (ps_set (i := 2) sc_room_rows.nd rfl (Or.inl rfl) (pe_lst (pa_cons (pe_ix ix_tup (pv 1) pe_int (fun _ _ => rfl)) (pa_cons (pe_ix ix_tup (pv 1) pe_int (fun _ _ => rfl)) pa_nil))))
    (pss_cut (ps_if (pt_cmpR op_ne (pe_ix ix_tup (pv 1) pe_int (fun _ _ => rfl)) pe_str (nomark _))
      (pss_one (ps_expr (pe_bm PySem.F.plainAttrs_list PySem.F.slot_list_extend PySem.F.type_list_extend mt_extend (pv 2) (pa_cons (pe_lst (pa_cons pe_str (pa_cons (pe_ix ix_tup (pv 1) pe_int (fun _ _ => rfl)) pa_nil))) pa_nil))))
      pss_nil)
    (pss_cut (ps_if (pt_cmpR op_ne (pe_ix ix_tup (pv 1) pe_int (fun _ _ => rfl)) pe_str (nomark _))
      (pss_one (ps_expr (pe_bm PySem.F.plainAttrs_list PySem.F.slot_list_extend PySem.F.type_list_extend mt_extend (pv 2) (pa_cons (pe_lst (pa_cons pe_str (pa_cons (pe_ix ix_tup (pv 1) pe_int (fun _ _ => rfl)) pa_nil))) pa_nil))))
      pss_nil)
    (pss_cons (ps_set (i := 3) sc_room_rows.nd rfl (Or.inl rfl) (pe_op op_add_str (pe_op op_mul_str pe_str (pe_ix ix_tup (pv 1) pe_int (fun _ _ => rfl))) (pe_bm PySem.F.plainAttrs_str PySem.F.slot_str_join PySem.F.type_str_join mt_join pe_str (pa_cons (pv 2) pa_nil))))
    (pss_one (ps_ret (pe_op op_cat (pe_op op_cat (pe_lst (pa_cons (pv 3) pa_nil)) (pe_call G_deed_rows hr rfl m_deed_rows k_deed_rows b_deed_rows .nil pass0 (pa_cons (pv 0) (pa_cons pe_str (pa_cons (pe_ix ix_tup (pv 1) pe_int (fun _ _ => rfl)) pa_nil))))) (pe_call G_deed_rows hr rfl m_deed_rows k_deed_rows b_deed_rows .nil pass0 (pa_cons (pv 0) (pa_cons pe_str (pa_cons (pe_ix ix_tup (pv 1) pe_int (fun _ _ => rfl)) pa_nil))))))))))), ?_⟩
  have L := lit_len
  have hkW := kW_len ok
  have hlW := lW_len ok
  refine ⟨_, rfl, a, _, _, _, rfl, rfl, SqT.of ha, rfl, _, rfl, a, _, _, _, rfl, rfl, SqT.of ha, rfl, small_le (by show 2 ≤ 1000; decide), fun p hp => ?_⟩
  have s1 := same_new hp (.lst ([r.kind, r.nm].map V.str))
  have h1 : (upd H p (.lst ([r.kind, r.nm].map V.str))) p = some (.lst ([r.kind, r.nm].map V.str)) := upd_same
  refine ⟨fun σ' H' => Same H H' ∧ H' p = some (.lst (([r.kind, r.nm] ++ kW r).map V.str)) ∧ σ' = [some (.ref t), some (.ref a), some (.ref p), none], ?_, ?_⟩
  · refine ⟨_, rfl, a, _, _, _, rfl, rfl, SqT.of (s1 _ _ ha), rfl, rfl, _, rfl, ?_⟩
    refine itB (fun e => ?_) (fun e => ?_)
    · have e' : r.keeps ≠ "" := fun z => by
        rw [z] at e
        simp at e
      have ek : kW r = [("keeps" : Str), r.keeps] := if_pos e'
      refine ⟨_, rfl, .inl ⟨rfl, _, SqL.of h1⟩, _, rfl, a, _, _, _, rfl, rfl, SqT.of (s1 _ _ ha), rfl, small_le (by show 2 ≤ 1000; decide), fun p2 hp2 => ⟨p, p2, _, _, rfl, rfl, same_new hp2 _ _ _ h1, upd_same, small_le (by show 2 + 2 ≤ 1000; decide), same_upd hp (s1.trans (same_new hp2 _)) _, ?_, rfl⟩⟩
      rw [upd_same, ek]
      rfl
    · have e' : ¬ r.keeps ≠ "" := fun z => by
        simp at e
        exact z e
      have ek : kW r = [] := if_neg e'
      refine ⟨s1, ?_, rfl⟩
      rw [ek]
      exact h1
  rintro σ1 H1 ⟨s1', h1', rfl⟩
  refine ⟨fun σ' H' => Same H H' ∧ H' p = some (.lst (([r.kind, r.nm] ++ kW r ++ lW r).map V.str)) ∧ σ' = [some (.ref t), some (.ref a), some (.ref p), none], ?_, ?_⟩
  · refine ⟨_, rfl, a, _, _, _, rfl, rfl, SqT.of (s1' _ _ ha), rfl, rfl, _, rfl, ?_⟩
    refine itB (fun e => ?_) (fun e => ?_)
    · have e' : r.lamp ≠ "" := fun z => by
        rw [z] at e
        simp at e
      have ek : lW r = [("lamp" : Str), r.lamp] := if_pos e'
      refine ⟨_, rfl, .inl ⟨rfl, _, SqL.of h1'⟩, _, rfl, a, _, _, _, rfl, rfl, SqT.of (s1' _ _ ha), rfl, small_le (by show 2 ≤ 1000; decide), fun p2 hp2 => ⟨p, p2, _, _, rfl, rfl, same_new hp2 _ _ _ h1', upd_same, small_le (by rw [List.length_map, List.length_append]; show 2 + _ + 2 ≤ 1000; omega), same_upd hp (s1'.trans (same_new hp2 _)) _, ?_, rfl⟩⟩
      rw [upd_same, ek]
      simp only [List.map_append]
      rfl
    · have e' : ¬ r.lamp ≠ "" := fun z => by
        simp at e
        exact z e
      have ek : lW r = [] := if_neg e'
      refine ⟨s1', ?_, rfl⟩
      rw [ek, List.append_nil]
      exact h1'
  rintro σ2 H2 ⟨s2, h2, rfl⟩
  have W := rowW ok
  have hm := mul_len ok.d0 ok.d1
  have d0 := ok.d0
  have d1 := ok.d1
  have hj := bound_join (k := 12) (fun y hy => (W.2 y hy).1)
  have hj2 : 13 * ([r.kind, r.nm] ++ kW r ++ lW r).length ≤ 13 * 6 := Nat.mul_le_mul_left _ W.1
  refine ⟨_, rfl, a, _, _, _, rfl, rfl, SqT.of (s2 _ _ ha), rfl, _, _, rfl, rfl, mul_ok (by decide +kernel) (by omega) (by omega), rfl, _, rfl, " ", p, _, rfl, rfl, SqL.of h2, sum16 (k := 12) (fun y hy => (W.2 y hy).1) (by omega), _, _, rfl, rfl, small_le (by omega), ?_⟩
  refine ⟨_, rfl, small_le (by show 1 ≤ 1000; decide), fun p3 hp3 => ?_⟩
  have s3 := s2.trans (same_new hp3 (.lst [.str (rowR r)]))
  have l8 := ok.li
  have l9 := ok.lo
  refine ⟨_, rfl, _, rfl, a, _, _, _, rfl, rfl, SqT.of (s3 _ _ ha), rfl, t, c, "in", vi, r.ins, rfl, hC.mono (KeepT.of s3), k, by decide +kernel, hi.mono (KeepT.of s3), ok.li, ok.ins, fun p4 H4 s4 hn4 h4 => ⟨p3, p4, [.str (rowR r)], _, rfl, rfl, s4 _ _ upd_same, h4, small_le (by rw [List.length_map, List.length_map]; show 1 + _ ≤ 1000; omega), fun p5 hp5 => ?_⟩⟩
  have s5 := (s3.trans s4).trans (same_new hp5 (.lst ([.str (rowR r)] ++ (r.ins.map (dR c "in")).map V.str)))
  refine ⟨_, rfl, _, rfl, a, _, _, _, rfl, rfl, SqT.of (s5 _ _ ha), rfl, t, c, "out", vo, r.outs, rfl, hC.mono (KeepT.of s5), k, by decide +kernel, ho.mono (KeepT.of s5), ok.lo, ok.outs, fun p6 H6 s6 hn6 h6 => ⟨p5, p6, [.str (rowR r)] ++ (r.ins.map (dR c "in")).map V.str, _, rfl, rfl, s6 _ _ upd_same, h6, small_le (by rw [List.length_append, List.length_map, List.length_map, List.length_map, List.length_map]; show 1 + _ + _ ≤ 1000; omega), fun p7 hp7 => ?_⟩⟩
  refine q p7 _ ((s5.trans s6).trans (same_new hp7 _)) ((s5.trans s6).free hp7) ?_
  rw [upd_same]
  unfold roomR
  rw [List.map_append, List.map_append]
  rfl
theorem sc_door_rows : FnScope ["chart", "door", "rooms", "words", "rows"] ["chart", "door"] (defScope s_door_rows) := ⟨rfl, rfl, rfl, by decide +kernel, rfl, by decide +kernel, by decide +kernel⟩
theorem ok_doors {n : Nat} {f gw gt : Addr} {fd dw dt : FuncData} (F : Fun K "door_rows" "door_rows" s_door_rows f fd) (G_deed_rows : FnOk P w K mg base CX0 n gw dw ["chart", "mark", "deeds"] spDRows) (b_deed_rows : Binds K dw ["chart", "mark", "deeds"] []) (k_deed_rows : PySem.W.keepIn K (.ref gw) = true) (m_deed_rows : mg "deed_rows" = some (.ref gw))
    (G_guard_text : FnOk P w K mg base CX0 n gt dt ["guard", "boxes", "rooms"] (spGText K 6)) (b_guard_text : Binds K dt ["guard", "boxes", "rooms"] []) (k_guard_text : PySem.W.keepIn K (.ref gt) = true) (m_guard_text : mg "guard_text" = some (.ref gt)) : FnOk P w K mg base CX0 (n + 1) f fd ["chart", "door"] spDoorR := by
  refine F.ok sc_door_rows (fun vs H Q E h => ?_) (fun cdv A outer s H vs Q E hr h => ?_)
  · obtain ⟨t, c, v, d, rfl, _⟩ := h
    rfl
  obtain ⟨t, c, v, d, rfl, hC, k, ⟨a, vg, vd, rfl, ha, hg, hd⟩, ok, q⟩ := h
  refine ⟨_, (pss_cons (ps_set (i := 2) sc_door_rows.nd rfl (Or.inl rfl) (pe_ix ix_tup (pv 0) pe_int (fun _ _ => rfl)))
    (pss_cons (ps_set (i := 3) sc_door_rows.nd rfl (Or.inl rfl) (pe_lst (pa_cons pe_str (pa_cons (pe_ix ix_tup (pe_ix ix_tup (pv 2) (pe_ix ix_tup (pv 1) pe_int (fun _ _ => rfl)) (fun _ _ => rfl)) pe_int (fun _ _ => rfl)) (pa_cons (pe_ix ix_tup (pe_ix ix_tup (pv 0) pe_int (fun _ _ => rfl)) (pe_ix ix_tup (pv 1) pe_int (fun _ _ => rfl)) (fun _ _ => rfl)) (pa_cons (pe_ix ix_tup (pv 1) pe_int (fun _ _ => rfl)) pa_nil))))))
    (pss_cut (ps_if (pt_cmpR op_notN (pe_ix ix_tup (pv 1) pe_int (fun _ _ => rfl)) pe_non (nomark _))
      (pss_one (ps_expr (pe_bm PySem.F.plainAttrs_list PySem.F.slot_list_append PySem.F.type_list_append mt_append (pv 3) (pa_cons (pe_ix ix_tup (pe_ix ix_tup (pv 2) (pe_ix ix_tup (pv 1) pe_int (fun _ _ => rfl)) (fun _ _ => rfl)) pe_int (fun _ _ => rfl)) pa_nil))))
      pss_nil)
    (pss_cons (ps_set (i := 4) sc_door_rows.nd rfl (Or.inl rfl) (pe_lst (pa_cons (pe_bm PySem.F.plainAttrs_str PySem.F.slot_str_join PySem.F.type_str_join mt_join pe_str (pa_cons (pv 3) pa_nil)) pa_nil)))
    (pss_cut (ps_if (pt_cmpR (op_ne1 hr.units) (pe_ix ix_tup (pv 1) pe_int (fun _ _ => rfl)) (pe_tup (pa_cons pe_str pa_nil)) (nomark _))
      (pss_one (ps_expr (pe_bm PySem.F.plainAttrs_list PySem.F.slot_list_append PySem.F.type_list_append mt_append (pv 4) (pa_cons (pe_op op_add_str pe_str (pe_call G_guard_text hr rfl m_guard_text k_guard_text b_guard_text .nil pass0 (pa_cons (pe_ix ix_tup (pv 1) pe_int (fun _ _ => rfl)) (pa_cons (pe_ix ix_tup (pv 0) pe_int (fun _ _ => rfl)) (pa_cons (pv 2) pa_nil))))) pa_nil))))
      pss_nil)
    (pss_one (ps_ret (pe_op op_cat (pv 4) (pe_call G_deed_rows hr rfl m_deed_rows k_deed_rows b_deed_rows .nil pass0 (pa_cons (pv 0) (pa_cons pe_str (pa_cons (pe_ix ix_tup (pv 1) pe_int (fun _ _ => rfl)) pa_nil)))))))))))), ?_⟩
  obtain ⟨tb, te, tr, td, bv, rv, dv, a1, a2, a3, a4, a5, a6, a7, a8⟩ := id hC
  have L := lit_len
  have lrm : (c.rooms.map (·.nm)).length = c.rooms.length := List.length_map _
  have lbm : (c.bxs.map (·.nm)).length = c.bxs.length := List.length_map _
  refine ⟨_, rfl, t, _, _, _, rfl, rfl, SqT.of a1, rfl, ?_⟩
  obtain ⟨xs, b1, tl, hx, hat, hb1⟩ := (nms_rm (K := K) a5 a6).at ok.r0 (by rw [lrm]; exact ok.r1)
  refine ⟨_, rfl, _, rfl, a, _, _, _, rfl, rfl, SqT.of ha, rfl, tr, _, _, _, rfl, rfl, hx, hat, b1, _, _, _, rfl, rfl, SqT.of hb1, atI_head, _, rfl, t, _, _, _, rfl, rfl, SqT.of a1, rfl, _, rfl, a, _, _, _, rfl, rfl, SqT.of ha, rfl, te, _, _, _, rfl, rfl, SqT.of a4, atI_getD ok.e0 ok.e1, _, rfl, a, _, _, _, rfl, rfl, SqT.of ha, rfl, small_le (by show 4 ≤ 1000; decide), fun p hp => ?_⟩
  have s1 := same_new hp (.lst ([("door" : Str), nmR c d.room, c.evs.getD d.event.toNat ("" : Str), d.way].map V.str))
  have h1 : (upd H p (.lst ([("door" : Str), nmR c d.room, c.evs.getD d.event.toNat ("" : Str), d.way].map V.str))) p = some (.lst ([("door" : Str), nmR c d.room, c.evs.getD d.event.toNat ("" : Str), d.way].map V.str)) := upd_same
  refine ⟨fun σ' H' => Same H H' ∧ H' p = some (.lst (([("door" : Str), nmR c d.room, c.evs.getD d.event.toNat ("" : Str), d.way] ++ gW c d.goal).map V.str)) ∧ σ' = [some (.ref t), some (.ref a), some (.ref tr), some (.ref p), none], ?_, ?_⟩
  · refine ⟨_, rfl, a, _, _, _, rfl, rfl, SqT.of (s1 _ _ ha), rfl, rfl, _, rfl, ?_⟩
    have hgo := ok.goal
    cases hgl : d.goal with
    | none =>
      refine iteF ⟨s1, ?_, rfl⟩
      exact h1
    | some i =>
      obtain ⟨i0, i1⟩ := hgo i hgl
      obtain ⟨xs2, b2, tl2, hx2, hat2, hb2⟩ := ((nms_rm (K := K) a5 a6).mono s1).at i0 (by rw [lrm]; exact i1)
      have ha1 := s1 _ _ ha
      rw [hgl] at ha1
      refine iteT ⟨_, rfl, .inl ⟨rfl, _, SqL.of h1⟩, _, rfl, _, rfl, a, _, _, _, rfl, rfl, SqT.of ha1, rfl, tr, _, _, _, rfl, rfl, hx2, hat2, b2, _, _, _, rfl, rfl, SqT.of hb2, atI_head, p, _, _, rfl, rfl, h1, small1000 (by show 4 ≤ 1000; decide), same_upd hp s1 _, ?_, rfl⟩
      rw [upd_same]
      rfl
  rintro σ1 H1 ⟨s2, h2, rfl⟩
  have W := doorW k ok
  have hj2 : 13 * ([("door" : Str), nmR c d.room, c.evs.getD d.event.toNat ("" : Str), d.way] ++ gW c d.goal).length ≤ 13 * 5 := Nat.mul_le_mul_left _ W.1
  refine ⟨rfl, _, rfl, " ", p, _, rfl, rfl, SqL.of h2, sum16 (k := 12) (fun y hy => (W.2 y hy).1) (by omega), small_le (by show 1 ≤ 1000; decide), fun p2 hp2 => ?_⟩
  have s3 := s2.trans (same_new hp2 (.lst [.str (doorRow c d)]))
  have h3 : (upd H1 p2 (.lst [.str (doorRow c d)])) p2 = some (.lst ([doorRow c d].map V.str)) := upd_same
  refine ⟨fun σ' H' => Same H H' ∧ H p2 = none ∧ H' p2 = some (.lst (([doorRow c d] ++ wW c d.guard).map V.str)) ∧ σ' = [some (.ref t), some (.ref a), some (.ref tr), some (.ref p), some (.ref p2)], ?_, ?_⟩
  · obtain ⟨ag, us, rfl, hag, ey⟩ := gd_yes hg
    refine ⟨_, rfl, a, _, _, _, rfl, rfl, SqT.of (s3 _ _ ha), rfl, small_le (by show 1 ≤ 1000; decide), fun p3 hp3 => ?_⟩
    have s4 := s3.trans (same_new hp3 (.tup [.str "yes"]))
    have h4 := same_new hp3 (.tup [.str "yes"]) _ _ h3
    refine ⟨ag, p3, kG d.guard, "yes", us, rfl, rfl, SqT.of (s4 _ _ hag), SqT.of upd_same, _, rfl, ?_⟩
    rw [ey]
    cases hy : isYes d.guard with
    | true =>
      refine iteF ⟨s4, s2.free hp2, ?_, rfl⟩
      have ew : wW c d.guard = [] := if_pos hy
      rw [ew, List.append_nil]
      exact h4
    | false =>
      have ew : wW c d.guard = [("when " : Str) ++ T (c.bxs.map (·.nm)) (c.rooms.map (·.nm)) d.guard] := if_neg (by rw [hy]; decide)
      have fit : Fit (c.bxs.map (·.nm)).length (c.rooms.map (·.nm)).length d.guard := by
        rw [lbm, lrm]
        exact ok.fit
      have nbl : ∀ z ∈ c.bxs.map (·.nm), z.length ≤ 12 := fun z hz => by
        obtain ⟨b, hb, rfl⟩ := List.mem_map.mp hz
        exact (k.bx b hb).1.1
      have nrl : ∀ z ∈ c.rooms.map (·.nm), z.length ≤ 12 := fun z hz => by
        obtain ⟨b, hb, rfl⟩ := List.mem_map.mp hz
        exact (k.rm b hb).nm.1
      have lT := T_len nbl nrl d.guard fit
      have w6 := ok.wt
      refine iteT ⟨_, rfl, .inl ⟨rfl, _, SqL.of h4⟩, _, rfl, a, _, _, _, rfl, rfl, SqT.of (s4 _ _ ha), rfl, _, rfl, t, _, _, _, rfl, rfl, SqT.of (s4 _ _ a1), rfl, _, rfl, .ref ag, tb, tr, d.guard, c.bxs.map (·.nm), c.rooms.map (·.nm), rfl, hg.mono (KeepT.of s4), ok.ht, by omega, fit, (nms_bx a2 a3).mono s4, (nms_rm a5 a6).mono s4, nbl, nrl, fun H5 s5 => ⟨_, _, rfl, rfl, small_le (by rw [L.2.2.2.2.2.1]; omega), p2, _, _, rfl, rfl, s5 _ _ h4, small1000 (by show 1 ≤ 1000; decide), same_upd (s2.free hp2) (s4.trans s5) _, s2.free hp2, ?_, rfl⟩⟩
      rw [upd_same, ew]
      rfl
  rintro σ2 H2 ⟨s6, hn2, h6, rfl⟩
  have l8 := ok.ld
  have lw : (wW c d.guard).length ≤ 1 := by
    unfold wW
    split
    · exact Nat.zero_le _
    · exact Nat.le_refl _
  refine ⟨_, rfl, _, rfl, _, rfl, a, _, _, _, rfl, rfl, SqT.of (s6 _ _ ha), rfl, t, c, "do", vd, d.deeds, rfl, hC.mono (KeepT.of s6), k, by decide +kernel, hd.mono (KeepT.of s6), ok.ld, ok.deeds, fun p7 H7 s7 hn7 h7 => ⟨p2, p7, _, _, rfl, rfl, s7 _ _ h6, h7, small_le (by rw [List.length_map, List.length_map, List.length_map, List.length_append]; show 1 + _ + _ ≤ 1000; omega), fun p8 hp8 => ?_⟩⟩
  refine q p8 _ ((s6.trans s7).trans (same_new hp8 _)) ((s6.trans s7).free hp8) ?_
  rw [upd_same, ← List.map_append]
  rfl
theorem sc_shown : FnScope ["chart", "rows", "room", "door"] ["chart"] (defScope s_shown) := ⟨rfl, rfl, rfl, by decide +kernel, rfl, by decide +kernel, by decide +kernel⟩
theorem ok_shown {n : Nat} {f gh gr gd : Addr} {fd dh dr dd : FuncData} (F : Fun K "shown" "shown" s_shown f fd) (G_head_rows : FnOk P w K mg base CX0 n gh dh ["chart"] spHead) (b_head_rows : Binds K dh ["chart"] []) (k_head_rows : PySem.W.keepIn K (.ref gh) = true) (m_head_rows : mg "head_rows" = some (.ref gh))
    (G_room_rows : FnOk P w K mg base CX0 n gr dr ["chart", "room"] spRRows) (b_room_rows : Binds K dr ["chart", "room"] []) (k_room_rows : PySem.W.keepIn K (.ref gr) = true) (m_room_rows : mg "room_rows" = some (.ref gr))
    (G_door_rows : FnOk P w K mg base CX0 n gd dd ["chart", "door"] spDoorR) (b_door_rows : Binds K dd ["chart", "door"] []) (k_door_rows : PySem.W.keepIn K (.ref gd) = true) (m_door_rows : mg "door_rows" = some (.ref gd)) : FnOk P w K mg base CX0 (n + 1) f fd ["chart"] spShown := by
  refine F.ok sc_shown (fun vs H Q E h => ?_) (fun cdv A outer s H vs Q E hr h => ?_)
  · obtain ⟨t, c, rfl, _⟩ := h
    rfl
  obtain ⟨t, c, rfl, hC, k, q⟩ := h
  refine ⟨_, (pss_cons (ps_set (i := 1) sc_shown.nd rfl (Or.inl rfl) (pe_call G_head_rows hr rfl m_head_rows k_head_rows b_head_rows .nil pass0 (pa_cons (pv 0) pa_nil)))
    (pss_cut (ps_for PassesOwn.never rfl (pi_tup (pe_ix ix_tup (pv 0) pe_int (fun _ _ => rfl))) (pg_name (i := 2) sc_shown.nd rfl (Or.inl rfl))
      (pss_one (ps_expr (pe_bm PySem.F.plainAttrs_list PySem.F.slot_list_extend PySem.F.type_list_extend mt_extend (pv 1) (pa_cons (pe_call G_room_rows hr rfl m_room_rows k_room_rows b_room_rows .nil pass0 (pa_cons (pv 0) (pa_cons (pv 2) pa_nil))) pa_nil)))))
    (pss_cut (ps_for PassesOwn.never rfl (pi_tup (pe_ix ix_tup (pv 0) pe_int (fun _ _ => rfl))) (pg_name (i := 3) sc_shown.nd rfl (Or.inl rfl))
      (pss_one (ps_expr (pe_bm PySem.F.plainAttrs_list PySem.F.slot_list_extend PySem.F.type_list_extend mt_extend (pv 1) (pa_cons (pe_call G_door_rows hr rfl m_door_rows k_door_rows b_door_rows .nil pass0 (pa_cons (pv 0) (pa_cons (pv 3) pa_nil))) pa_nil)))))
    (pss_one (ps_ret (pe_bm PySem.F.plainAttrs_str PySem.F.slot_str_join PySem.F.type_str_join mt_join pe_str (pa_cons (pv 1) pa_nil))))))), ?_⟩
  obtain ⟨tb, te, tr, td, bv, rv, dv, a1, a2, a3, a4, a5, a6, a7, a8⟩ := id hC
  have lr := RosIn_len a6
  have ld := DrsIn_len a8
  have R := rows_len k
  refine ⟨_, rfl, t, c, rfl, hC, k, fun p H1 s1 hp h1 => ?_⟩
  refine ⟨fun σ' H' => Same H H' ∧ H' p = some (.lst ((headR c ++ c.rooms.flatMap (roomR c)).map V.str)) ∧ ∃ o : Option V, σ' = [some (.ref t), some (.ref p), o, none], ?_, ?_⟩
  · refine ⟨_, rfl, t, _, _, _, rfl, rfl, SqT.of (s1 _ _ a1), rfl, tr, rfl, ⟨_, SqT.of (s1 _ _ a5)⟩, ?_⟩
    refine for_tup (K := K) (a := tr) (xs := rv) (fun i σ' H' => Same H H' ∧ H' p = some (.lst ((headR c ++ (c.rooms.take i).flatMap (roomR c)).map V.str)) ∧ ∃ o : Option V, σ' = [some (.ref t), some (.ref p), o, none]) ⟨s1, by rw [List.take_zero, List.flatMap_nil, List.append_nil]; exact h1, none, rfl⟩ (fun i σ' H' _ h => SqT.of (h.1 _ _ a5)) ?_ ?_
    · rintro i x σ' H2 hx ⟨s2, h2, o, rfl⟩
      have li : i < rv.length := (List.getElem?_eq_some_iff.mp hx).1
      have hk := List.getElem?_eq_getElem (show i < c.rooms.length by omega)
      obtain ⟨x', hx', hr'⟩ := All2.get a6 hk
      obtain rfl : x = x' := Option.some.inj (hx.symm.trans hx')
      have ok := k.rm _ (List.getElem_mem (show i < c.rooms.length by omega))
      have hr2 : RoIn H2 x c.rooms[i] := by
        obtain ⟨a, vi, vo, e, h, y, z⟩ := hr'
        exact ⟨a, vi, vo, e, s2 _ _ h, y.mono (KeepT.of s2), z.mono (KeepT.of s2)⟩
      have R2 := rows_room k (i + 1)
      have et : c.rooms.take (i + 1) = c.rooms.take i ++ [c.rooms[i]] := by rw [List.take_add_one, hk]; rfl
      have e1 : [c.rooms[i]].flatMap (roomR c) = roomR c c.rooms[i] := by simp
      rw [et, List.flatMap_append, e1, List.length_append, List.length_append] at R2
      refine ⟨_, rfl, .inl ⟨rfl, _, SqL.of h2⟩, _, rfl, _, rfl, t, c, x, c.rooms[i], rfl, hC.mono (KeepT.of s2), k, hr2, ok, fun p3 H3 s3 hn3 h3 => ⟨p, p3, _, _, rfl, rfl, s3 _ _ h2, h3, mid_le (by rw [List.length_map, List.length_map, List.length_append]; omega), same_upd hp (s2.trans s3) _, ?_, _, rfl⟩⟩
      rw [upd_same, et, List.flatMap_append, e1, ← List.map_append, List.append_assoc]
    · rintro σ' H2 ⟨s2, h2, o, rfl⟩
      rw [List.take_of_length_le (by omega)] at h2
      exact ⟨s2, h2, o, rfl⟩
  rintro σ1 H1' ⟨s2, h2, o, rfl⟩
  refine ⟨fun σ' H' => Same H H' ∧ H' p = some (.lst ((rowsC c).map V.str)) ∧ ∃ o2 : Option V, σ' = [some (.ref t), some (.ref p), o, o2], ?_, ?_⟩
  · refine ⟨_, rfl, t, _, _, _, rfl, rfl, SqT.of (s2 _ _ a1), rfl, td, rfl, ⟨_, SqT.of (s2 _ _ a7)⟩, ?_⟩
    refine for_tup (K := K) (a := td) (xs := dv) (fun i σ' H' => Same H H' ∧ H' p = some (.lst (((headR c ++ c.rooms.flatMap (roomR c)) ++ (c.doors.take i).flatMap (doorR c)).map V.str)) ∧ ∃ o2 : Option V, σ' = [some (.ref t), some (.ref p), o, o2]) ⟨s2, by rw [List.take_zero, List.flatMap_nil, List.append_nil]; exact h2, none, rfl⟩ (fun i σ' H' _ h => SqT.of (h.1 _ _ a7)) ?_ ?_
    · rintro i x σ' H2 hx ⟨s3, h3, o2, rfl⟩
      have li : i < dv.length := (List.getElem?_eq_some_iff.mp hx).1
      have hk := List.getElem?_eq_getElem (show i < c.doors.length by omega)
      obtain ⟨x', hx', hr'⟩ := All2.get a8 hk
      obtain rfl : x = x' := Option.some.inj (hx.symm.trans hx')
      have ok := k.dr _ (List.getElem_mem (show i < c.doors.length by omega))
      have hr2 : DrIn H2 x c.doors[i] := by
        obtain ⟨a, vi, vo, e, h, y, z⟩ := hr'
        exact ⟨a, vi, vo, e, s3 _ _ h, y.mono (KeepT.of s3), z.mono (KeepT.of s3)⟩
      have R2 := rows_door k (i + 1)
      have et : c.doors.take (i + 1) = c.doors.take i ++ [c.doors[i]] := by rw [List.take_add_one, hk]; rfl
      have e1 : [c.doors[i]].flatMap (doorR c) = doorR c c.doors[i] := by simp
      rw [et, List.flatMap_append, e1, List.length_append, List.length_append, List.length_append] at R2
      refine ⟨_, rfl, .inl ⟨rfl, _, SqL.of h3⟩, _, rfl, _, rfl, t, c, x, c.doors[i], rfl, hC.mono (KeepT.of s3), k, hr2, ok, fun p4 H4 s4 hn4 h4 => ⟨p, p4, _, _, rfl, rfl, s4 _ _ h3, h4, mid_le (by rw [List.length_map, List.length_map, List.length_append, List.length_append]; omega), same_upd hp (s3.trans s4) _, ?_, _, rfl⟩⟩
      rw [upd_same, et, List.flatMap_append, e1, ← List.map_append, List.append_assoc]
    · rintro σ' H2 ⟨s3, h3, o2, rfl⟩
      rw [List.take_of_length_le (by omega)] at h3
      exact ⟨s3, h3, o2, rfl⟩
  rintro σ2 H2 ⟨s3, h3, o2, rfl⟩
  have l1 : ("\n" : Str).length = 1 := by decide +kernel
  have bs := bound_sum (l := rowsC c) (k := 700) (fun y hy => rows_each k y hy)
  refine ⟨rfl, _, rfl, "\n", p, rowsC c, rfl, rfl, SqL.of h3, ?_, q H2 s3⟩
  rw [l1]
  show sumL _ + _ ≤ _
  omega
end
end C43

namespace G41
open PySem L2 Mix Gds Dds Wds Cht Num Spl Txm Dig D42
def stems : List Str := ["", "hall", "quiet", "aaaaaaaaaa"]
def stemS (n : Int) : Str := stems.getD (n % 4).toNat ("" : Str)
def atS (n : Int) : Int := n / 4 % (((stemS n).length : Int) + 1)
def ownS (k : Int) : Str := (⟨#[97 + (k % 26).toNat]⟩ : Str) ++ (⟨#[120 + (k / 26 % 2).toNat]⟩ : Str)
def nameM (n k : Int) : Str := (Txt.slice (stemS n) none (some (atS n)) ++ ownS k) ++ Txt.slice (stemS n) (some (atS n)) none
theorem stem_at (n : Int) : atI (stems.map V.str) (n % 4) = some (.str (stemS n)) := by
  unfold stemS
  rcases (show n % 4 = 0 ∨ n % 4 = 1 ∨ n % 4 = 2 ∨ n % 4 = 3 by omega) with e | e | e | e <;> rw [e] <;> rfl
theorem stem_len (n : Int) : (stemS n).length = 0 ∨ (stemS n).length = 4 ∨ (stemS n).length = 5 ∨ (stemS n).length = 10 := by
  unfold stemS
  rcases (show n % 4 = 0 ∨ n % 4 = 1 ∨ n % 4 = 2 ∨ n % 4 = 3 by omega) with e | e | e | e <;> rw [e] <;> decide +kernel
theorem stem_let (n : Int) : ∀ c ∈ (stemS n).cps.toList, 97 ≤ c ∧ c < 122 := by
  unfold stemS
  rcases (show n % 4 = 0 ∨ n % 4 = 1 ∨ n % 4 = 2 ∨ n % 4 = 3 by omega) with e | e | e | e <;> rw [e] <;> decide +kernel
theorem at_pos (n : Int) : 0 ≤ atS n ∧ atS n ≤ ((stemS n).length : Int) := by
  unfold atS
  have h1 := Int.emod_nonneg (n / 4) (show ((stemS n).length : Int) + 1 ≠ 0 by omega)
  have h2 := Int.emod_lt_of_pos (n / 4) (show 0 < ((stemS n).length : Int) + 1 by omega)
  omega
theorem name_list (n k : Int) : (nameM n k).cps.toList = ((stemS n).cps.toList.take (atS n).toNat ++ [97 + (k % 26).toNat]) ++ (120 + (k / 26 % 2).toNat) :: (stemS n).cps.toList.drop (atS n).toNat := by
  unfold nameM ownS
  rw [app_list, app_list, app_list, slice_take _ (at_pos n).1, slice_drop _ (at_pos n).1]
  simp
theorem name_len (n k : Int) : (nameM n k).length = (stemS n).length + 2 := by
  have h := at_pos n
  rw [lenL, name_list, lenL]
  simp only [List.length_append, List.length_take, List.length_cons, List.length_drop, List.length_nil]
  have e := lenL (stemS n)
  omega
theorem name_mem {n k : Int} {c : Nat} (h : c ∈ (nameM n k).cps.toList) : 97 ≤ c ∧ c < 123 := by
  have hk : (k % 26).toNat < 26 := by omega
  have hk2 : (k / 26 % 2).toNat < 2 := by omega
  rw [name_list] at h
  rcases List.mem_append.mp h with h | h
  · rcases List.mem_append.mp h with h | h
    · have := stem_let n c (List.mem_of_mem_take h)
      omega
    · rw [List.mem_singleton.mp h]
      omega
  · rcases List.mem_cons.mp h with h | h
    · rw [h]
      omega
    · have := stem_let n c (List.mem_of_mem_drop h)
      omega
theorem a_list (z : Str) : (z ++ ("a" : Str)).cps.toList = z.cps.toList ++ [97] := by
  rw [app_list]
  congr 1
theorem let_at (k : Int) : atI ("abcdefghijklmnopqrstuvwxyz" : Str).cps.toList (k % 26) = some (97 + (k % 26).toNat) := by
  have h : ∀ d, d < 26 → (("abcdefghijklmnopqrstuvwxyz" : Str).cps.toList[d]? == some (97 + d)) = true := by decide +kernel
  have hk : (k % 26).toNat < 26 := by omega
  have := atI_nat (beq_iff_eq.mp (h _ hk))
  rw [show (((k % 26).toNat : Nat) : Int) = k % 26 by omega] at this
  exact this
theorem xy_at (k : Int) : atI ("xy" : Str).cps.toList (k % 2) = some (120 + (k % 2).toNat) := by
  rcases (show k % 2 = 0 ∨ k % 2 = 1 by omega) with e | e <;> rw [e] <;> rfl
def spName : Sp := fun vs H Q _ => ∃ (k n : Int), vs = [.int k, .int n] ∧ ∀ H', Same H H' → Q (.str (nameM n k)) H'
section
variable {P : Program} {w : World} {K : PySem.W.Frag} {mg : Str → Option Value} {base : Heap}
theorem sc_law_name : FnScope ["_law_k", "_law_number", "_law_stem", "_law_at", "_law_own"] ["_law_k", "_law_number"] (defScope s_L_name) := ⟨rfl, rfl, rfl, by decide +kernel, rfl, by decide +kernel, by decide +kernel⟩
theorem ok_lname {f : Addr} {fd : FuncData} (F : Fun K "_law_name" "_law_name" s_L_name f fd) (m_len : mg "len" = none) : FnOk P w K mg base CX0 1 f fd ["_law_k", "_law_number"] spName := by
  refine F.ok sc_law_name (fun vs H Q E h => ?_) (fun cdv A outer s H vs Q E hr h => ?_)
  · obtain ⟨k, n, rfl, _⟩ := h
    rfl
  obtain ⟨k, n, rfl, q⟩ := h
  refine ⟨_, (pss_cons (ps_set (i := 2) sc_law_name.nd rfl (Or.inl rfl) (pe_ix ix_list (pe_lst (pa_cons pe_str (pa_cons pe_str (pa_cons pe_str (pa_cons pe_str pa_nil))))) (pe_op op_mod (pv 1) pe_int) (fun _ _ => rfl)))
    (pss_cons (ps_set (i := 3) sc_law_name.nd rfl (Or.inl rfl) (pe_op op_mod (pe_op op_fdiv (pv 1) pe_int) (pe_op op_add (pe_callB call_len_str rfl m_len PySem.boot_len (pa_cons (pv 2) pa_nil)) pe_int)))
    (pss_cons (ps_set (i := 4) sc_law_name.nd rfl (Or.inl rfl) (pe_op op_add_str (pe_ix ix_str pe_str (pe_op op_mod (pv 0) pe_int) (fun _ _ => rfl)) (pe_ix ix_str pe_str (pe_op op_mod (pe_op op_fdiv (pv 0) pe_int) pe_int) (fun _ _ => rfl))))
    (pss_one (ps_ret (pe_op op_add_str (pe_op op_add_str (pe_slice sl_str (pv 2) po_none (po_some (pv 3))) (pv 4)) (pe_slice sl_str (pv 2) (po_some (pv 3)) po_none))))))), ?_⟩
  have hl := stem_len n
  have hp := at_pos n
  refine ⟨small_le (by show 4 ≤ 1000; decide), fun p hp1 => ⟨_, rfl, _, _, rfl, rfl, (by show (0 : Int) < 4; decide), p, _, _, _, rfl, rfl, SqL.of upd_same, stem_at n, ?_⟩⟩
  refine ⟨_, rfl, _, _, rfl, rfl, ⟨by decide, by decide⟩, _, rfl, _, rfl, small_le (by omega), _, _, rfl, rfl, _, _, rfl, rfl, (by show (0 : Int) < ((stemS n).length : Int) + 1; omega), ?_⟩
  refine ⟨_, rfl, _, _, rfl, rfl, (by show (0 : Int) < 26; decide), _, _, _, rfl, rfl, small_le (by decide +kernel), let_at k, _, rfl, _, _, rfl, rfl, ⟨by decide, by decide⟩, _, _, rfl, rfl, (by show (0 : Int) < 2; decide), _, _, _, rfl, rfl, small_le (by decide +kernel), xy_at (k / 26), _, _, rfl, rfl, small_le (by show 1 + 1 ≤ 1000; decide), ?_⟩
  have l1 := Txt.slice_le (stemS n) none (some (atS n))
  have l2 := Txt.slice_le (stemS n) (some (atS n)) none
  have l3 : (ownS k).length = 2 := rfl
  refine ⟨_, rfl, _, rfl, _, rfl, _, rfl, small_le (by omega), _, rfl, _, _, rfl, rfl, small_le (by show Str.length (Txt.slice (stemS n) none (some (atS n))) + 2 ≤ 1000; omega), _, rfl, _, rfl, _, rfl, _, rfl, small_le (by omega), _, _, rfl, rfl, small_le ?_, q _ (same_new hp1 _)⟩
  show Str.length (Txt.slice (stemS n) none (some (atS n)) ++ ownS k) + Str.length (Txt.slice (stemS n) (some (atS n)) none) ≤ 1000
  rw [Str.length_append, l3]
  omega
end
end G41

namespace C43
open PySem L2 Mix Gds Dds Wds Cht Num Spl Txm Dig D42 G41
def LW (z : Str) : Prop := z.length ≤ 12 ∧ ∀ c ∈ z.cps.toList, 97 ≤ c ∧ c < 123
theorem LW.wd {z : Str} (h : LW z) : Wd z := ⟨h.1, fun hc => by have := h.2 10 hc; omega⟩
def L1 : List Str := [("keeps" : Str), "lamp", "near", "deep", "plain", "one", "all", "in", "out", "door", "to", "back", "stay"]
def L2 : List Str := [("when" : Str), "do", "yes", "not", "both", "either", "is", "under", "say", "set", "add", "send"]
def L3 : List Str := [("box" : Str), "event", "order", "letters", "turns"]
def kws : List Str := L1 ++ L2 ++ L3
theorem kw_at (i : Int) : atI (kws.map V.str) (i % 30) = some (.str (kws.getD (i % 30).toNat ("" : Str))) := atI_getD (by omega) (by show _ < (30 : Int); omega)
theorem kw_lw : ∀ i, i < 30 → (kws.getD i ("" : Str)).length ≤ 12 ∧ ∀ c ∈ (kws.getD i ("" : Str)).cps.toList, 97 ≤ c ∧ c < 123 := by decide +kernel
def nameAt (x : Int) (k : Nat) : Str :=
  if x % 2 = 0 ∧ (k : Int) % 3 = x / 2 % 3 then kws.getD ((x / 6 + k / 3) % 30).toNat ("" : Str)
  else if x % 4 = 1 ∧ k % 2 = 1 ∧ (nameM (x / 6) ((k : Int) - 1)).length < 12 then nameM (x / 6) ((k : Int) - 1) ++ ("a" : Str)
  else nameM (x / 6) k
theorem at_lw (x : Int) (k : Nat) : LW (nameAt x k) := by
  unfold nameAt
  split
  · exact kw_lw _ (by omega)
  · split
    · rename_i h
      refine ⟨?_, fun c hc => ?_⟩
      · rw [lenL, a_list, List.length_append, ← lenL]
        show _ + 1 ≤ 12
        omega
      · rw [a_list] at hc
        rcases List.mem_append.mp hc with hc | hc
        · exact name_mem hc
        · rw [List.mem_singleton.mp hc]
          decide
    · have := stem_len (x / 6)
      exact ⟨by rw [name_len]; omega, fun c hc => name_mem hc⟩
structure BE (bs : List Bx) (es : List Str) : Prop where
  b : ∀ x ∈ bs, Wd x.nm ∧ 1 ≤ x.size ∧ x.size ≤ 10 ^ 30
  lb : bs.length ≤ 10
  e : ∀ z ∈ es, Wd z
  le : es.length ≤ 10
structure DdO (bs : List Bx) (es : List Str) (d : Dd) : Prop where
  fit : DdFit bs es d
  ws : ∀ y ∈ wordsD bs es d, y.length ≤ 52 ∧ noC 10 y
def spWordL : Sp := fun vs H Q _ => ∃ n : Int, vs = [.int n] ∧ (0 ≤ n ∧ n < 2147483648) ∧ ∀ z : Str, LW z → Q (.str z) H
def spLNames (K : PySem.W.Frag) : Sp := fun vs H Q _ => ∃ (a : Addr) (ns : List Int) (m : Nat) (salt : Int), vs = [.ref a, .int (m : Int), .int salt] ∧ SqL K H a (ns.map V.int) ∧ ns.length ≤ 63 ∧ m ≤ 42 ∧ (0 ≤ salt ∧ salt ≤ 100) ∧ ∀ (p : Addr) (x : Int) (H' : Hp), Same H H' → H' p = some (.tup (((List.range m).map (nameAt x)).map V.str)) → Q (.ref p) H'
def spDeedL (K : PySem.W.Frag) : Sp := fun vs H Q _ => ∃ (a tb : Addr) (ns : List Int) (k salt : Int) (bv : List V) (bs : List Bx) (es : List Str), vs = [.ref a, .int k, .int salt, .ref tb, .int (es.length : Int)] ∧ SqL K H a (ns.map V.int) ∧ ns.length ≤ 63 ∧ (0 ≤ k ∧ k ≤ 1000000) ∧ (0 ≤ salt ∧ salt ≤ 1000) ∧ H tb = some (.tup bv) ∧ BxsIn H bv bs ∧ BE bs es ∧
  ∀ (v : V) (d : Dd) (H' : Hp), Same H H' → DdIn H' v d → DdO bs es d → Q v H'
def spDeedsL (K : PySem.W.Frag) : Sp := fun vs H Q _ => ∃ (a tb : Addr) (ns : List Int) (k salt : Int) (bv : List V) (bs : List Bx) (es : List Str), vs = [.ref a, .int k, .int salt, .ref tb, .int (es.length : Int)] ∧ SqL K H a (ns.map V.int) ∧ ns.length ≤ 63 ∧ (0 ≤ k ∧ k ≤ 1000000) ∧ (0 ≤ salt ∧ salt ≤ 900) ∧ H tb = some (.tup bv) ∧ BxsIn H bv bs ∧ BE bs es ∧
  ∀ (v : V) (ds : List Dd) (H' : Hp), Same H H' → DtIn H' v ds → ds.length ≤ 8 → (∀ d ∈ ds, DdO bs es d) → Q v H'
def spGuardL (K : PySem.W.Frag) (n : Nat) : Sp := fun vs H Q _ => ∃ (a : Addr) (ns : List Int) (k : Int) (s j nb nr : Nat), vs = [.ref a, .int k, .int (s : Int), .int ((j : Int) + 1), .int (nb : Int), .int (nr : Int)] ∧ SqL K H a (ns.map V.int) ∧ ns.length ≤ 63 ∧ (0 ≤ k ∧ k ≤ 1000000) ∧ j < n ∧ j ≤ 9 ∧ s + 2 ≤ 2 ^ (9 - j) ∧ 1 ≤ nr ∧
  ∀ (v : V) (g : Gd) (H' : Hp), Same H H' → GdIn H' v g → Fit nb nr g → g.ht ≤ j + 1 → wt g + 8 ≤ 64 * 2 ^ j → Q v H'
def spBoxesL (K : PySem.W.Frag) : Sp := fun vs H Q _ => ∃ (a : Addr) (ns : List Int) (m : Nat), vs = [.ref a, .int (m : Int)] ∧ SqL K H a (ns.map V.int) ∧ ns.length ≤ 63 ∧ m ≤ 10 ∧ ∀ (t : Addr) (bv : List V) (bs : List Bx) (x : Int) (H' : Hp), Same H H' → H' t = some (.tup bv) → BxsIn H' bv bs → bs.map (·.nm) = (List.range m).map (nameAt x) → (∀ b ∈ bs, 1 ≤ b.size ∧ b.size ≤ 10 ^ 30 ∧ 0 ≤ b.start ∧ b.start < b.size) → Q (.ref t) H'
theorem DdO.say {bs : List Bx} {es : List Str} {z : Str} (h : LW z) : DdO bs es (.say z) := by
  refine ⟨?_, fun y hy => ?_⟩
  · show z.length ≤ 1000
    have := h.1
    omega
  · rcases List.mem_cons.mp (show y ∈ [("say" : Str), z] from hy) with e | e
    · rw [e]
      unfold noC
      decide +kernel
    · rw [List.mem_singleton.mp e]
      have := h.wd
      exact ⟨Nat.le_trans this.1 (by decide), this.2⟩
theorem DdO.send {bs : List Bx} {es : List Str} (B : BE bs es) {i : Int} (h0 : 0 ≤ i) (h1 : i < (es.length : Int)) : DdO bs es (.send i) := by
  refine ⟨⟨h0, h1⟩, fun y hy => ?_⟩
  rcases List.mem_cons.mp (show y ∈ [("send" : Str), es.getD i.toNat ("" : Str)] from hy) with e | e
  · rw [e]
    unfold noC
    decide +kernel
  · rw [List.mem_singleton.mp e]
    have := B.e _ (getD_mem h0 h1)
    exact ⟨Nat.le_trans this.1 (by decide), this.2⟩
theorem nm_wd {bs : List Bx} {es : List Str} (B : BE bs es) {i : Int} (h0 : 0 ≤ i) (h1 : i < (bs.length : Int)) : Wd ((bs.map (·.nm)).getD i.toNat ("" : Str)) := by
  have hm := getD_mem (zs := bs.map (·.nm)) h0 (by rw [List.length_map]; exact h1)
  obtain ⟨b, hb, e⟩ := List.mem_map.mp hm
  rw [← e]
  exact (B.b b hb).1
theorem DdO.set {bs : List Bx} {es : List Str} (B : BE bs es) {i n : Int} (h0 : 0 ≤ i) (h1 : i < (bs.length : Int)) (hn : n.natAbs ≤ 10 ^ 30) : DdO bs es (.set i n) := by
  refine ⟨⟨h0, h1, Nat.lt_of_le_of_lt hn (by decide)⟩, fun y hy => ?_⟩
  rcases List.mem_cons.mp (show y ∈ [("set" : Str), (bs.map (·.nm)).getD i.toNat ("" : Str), fig n] from hy) with e | e
  · rw [e]
    unfold noC
    decide +kernel
  rcases List.mem_cons.mp e with e | e
  · rw [e]
    have := nm_wd B h0 h1
    exact ⟨Nat.le_trans this.1 (by decide), this.2⟩
  · rw [List.mem_singleton.mp e]
    exact ⟨Nat.le_trans (fig30 hn).1 (by decide), noC_fig n⟩
theorem DdO.add {bs : List Bx} {es : List Str} (B : BE bs es) {i n : Int} (h0 : 0 ≤ i) (h1 : i < (bs.length : Int)) (hn : n.natAbs ≤ 10 ^ 30) : DdO bs es (.add i n) := by
  refine ⟨⟨h0, h1, Nat.lt_of_le_of_lt hn (by decide)⟩, fun y hy => ?_⟩
  rcases List.mem_cons.mp (show y ∈ [("add" : Str), (bs.map (·.nm)).getD i.toNat ("" : Str), fig n] from hy) with e | e
  · rw [e]
    unfold noC
    decide +kernel
  rcases List.mem_cons.mp e with e | e
  · rw [e]
    have := nm_wd B h0 h1
    exact ⟨Nat.le_trans this.1 (by decide), this.2⟩
  · rw [List.mem_singleton.mp e]
    exact ⟨Nat.le_trans (fig30 hn).1 (by decide), noC_fig n⟩
section
variable {P : Program} {w : World} {K : PySem.W.Frag} {mg : Str → Option Value} {base : Heap}
theorem sc_law_word : FnScope ["_law_number", "_law_word_here", "_law_step", "_law_j", "_law_at"] ["_law_number"] (defScope s_L_word) := ⟨rfl, rfl, rfl, by decide +kernel, rfl, by decide +kernel, by decide +kernel⟩
theorem ok_lword {f : Addr} {fd : FuncData} (F : Fun K "_law_word" "_law_word" s_L_word f fd) (m_range : mg "range" = none) : FnOk P w K mg base CX0 1 f fd ["_law_number"] spWordL := by
  refine F.ok sc_law_word (fun vs H Q E h => ?_) (fun cdv A outer s H vs Q E hr h => ?_)
  · obtain ⟨n, rfl, _⟩ := h
    rfl
  obtain ⟨n, rfl, ⟨n0, n1⟩, q⟩ := h
  refine ⟨_, (pss_cons (ps_set (i := 1) sc_law_word.nd rfl (Or.inl rfl) pe_str)
    (pss_cons (ps_set (i := 2) sc_law_word.nd rfl (Or.inl rfl) (pe_op op_add (pe_op op_mod (pe_op op_fdiv (pv 0) pe_int) pe_int) pe_int))
    (pss_cut (ps_for PassesOwn.never rfl (pi_range1 rfl m_range (pa_cons (pe_op op_add pe_int (pe_op op_mod (pv 0) pe_int)) pa_nil)) (pg_name (i := 3) sc_law_word.nd rfl (Or.inl rfl))
      (pss_cons (ps_set (i := 4) sc_law_word.nd rfl (Or.inl rfl) (pe_op op_mod (pe_op op_add (pe_op op_fdiv (pv 0) pe_int) (pe_op op_mul (pv 3) (pv 2))) pe_int))
      (pss_one (ps_set (i := 1) sc_law_word.nd rfl (Or.inl rfl) (pe_op op_add_str (pv 1) (pe_ix ix_str pe_str (pv 4) (fun _ _ => rfl)))))))
    (pss_one (ps_ret (pv 1)))))), ?_⟩
  refine ⟨_, rfl, _, _, rfl, rfl, ⟨by decide, by decide⟩, _, _, rfl, rfl, (by show (0 : Int) < 25; decide), _, _, rfl, rfl, ?_⟩
  refine ⟨fun σ' H' => H' = H ∧ ∃ (z : Str) (o3 o4 : Option V), LW z ∧ σ' = [some (.int n), some (.str z), some (.int (n / 300 % 25 + 1)), o3, o4], ?_, ?_⟩
  · refine ⟨_, rfl, _, _, rfl, rfl, (by show (0 : Int) < 12; decide), _, _, rfl, rfl, 1 + n % 12, rfl, by omega, by omega, ?_⟩
    refine for_range (fun i σ' H' => H' = H ∧ ∃ (z : Str) (o3 o4 : Option V), z.length = i ∧ (∀ c ∈ z.cps.toList, 97 ≤ c ∧ c < 123) ∧ σ' = [some (.int n), some (.str z), some (.int (n / 300 % 25 + 1)), o3, o4]) ⟨rfl, "", none, none, by decide +kernel, by decide +kernel, rfl⟩ ?_ ?_
    · rintro i σ' H2 hi ⟨rfl, z, o3, o4, lz, hz, rfl⟩
      have hi' : i < 13 := by omega
      refine ⟨_, rfl, _, _, rfl, rfl, ⟨by decide, by decide⟩, _, rfl, _, rfl, _, _, rfl, rfl, mulIn (by omega) (by omega), _, _, rfl, rfl, _, _, rfl, rfl, (by show (0 : Int) < 26; decide), ?_⟩
      have l1 : (⟨#[97 + ((n / 12 + (0 + (i : Int)) * (n / 300 % 25 + 1)) % 26).toNat]⟩ : Str).length = 1 := rfl
      refine ⟨_, rfl, _, rfl, _, _, _, rfl, rfl, small_le (by decide +kernel), let_at _, _, _, rfl, rfl, small_le (by show z.length + 1 ≤ 1000; omega), rfl, _, _, _, ?_, ?_, rfl⟩
      · rw [Str.length_append, l1, lz]
      · intro c hc
        rw [app_list] at hc
        rcases List.mem_append.mp hc with h | h
        · exact hz c h
        · have : c = 97 + ((n / 12 + (0 + (i : Int)) * (n / 300 % 25 + 1)) % 26).toNat := List.mem_singleton.mp h
          omega
    · rintro σ' H2 ⟨rfl, z, o3, o4, lz, hz, rfl⟩
      refine ⟨rfl, z, o3, o4, ⟨?_, hz⟩, rfl⟩
      have : z.length = (1 + n % 12).toNat := lz
      omega
  rintro σ' H2 ⟨rfl, z, o3, o4, hz, rfl⟩
  exact ⟨_, rfl, q z hz⟩
theorem sc_law_names : FnScope ["_law_script", "_law_many", "_law_salt", "_law_words", "_law_number", "_law_names_here", "_law_k"] ["_law_script", "_law_many", "_law_salt"] (defScope s_L_names) := ⟨rfl, rfl, rfl, by decide +kernel, rfl, by decide +kernel, by decide +kernel⟩
theorem ok_lnames {n : Nat} {f gm gn : Addr} {fd dm dn : FuncData} (F : Fun K "_law_names" "_law_names" s_L_names f fd)
    (G_law_mixed : FnOk P w K mg base CX0 n gm dm ["_law_script", "_law_k", "_law_salt"] (spMixed K)) (b_law_mixed : Binds K dm ["_law_script", "_law_k", "_law_salt"] []) (k_law_mixed : PySem.W.keepIn K (.ref gm) = true) (m_law_mixed : mg "_law_mixed" = some (.ref gm))
    (G_law_name : FnOk P w K mg base CX0 n gn dn ["_law_k", "_law_number"] spName) (b_law_name : Binds K dn ["_law_k", "_law_number"] []) (k_law_name : PySem.W.keepIn K (.ref gn) = true) (m_law_name : mg "_law_name" = some (.ref gn)) (m_range : mg "range" = none) (m_len : mg "len" = none) (m_tuple : mg "tuple" = none) :
    FnOk P w K mg base CX0 (n + 1) f fd ["_law_script", "_law_many", "_law_salt"] (spLNames K) := by
  refine F.ok sc_law_names (fun vs H Q E h => ?_) (fun cdv A outer s H vs Q E hr h => ?_)
  · obtain ⟨a, ns, m, salt, rfl, _⟩ := h
    rfl
  obtain ⟨a, ns, m, salt, rfl, hS, h63, hm, hsalt, q⟩ := h
  refine ⟨_, (@pss_cons _ _ _ _ _ (@ps_set _ _ 3 _ _ _ _ sc_law_names.nd rfl (Or.inl rfl) (@pe_lst _ _ _ _ (@pa_consts _ _ (L1.map V.str) rfl)) rfl (Or.inl rfl))
    (pss_cons (ps_set (i := 3) sc_law_names.nd rfl (Or.inl rfl) (pe_op op_cat (pv 3) (@pe_lst _ _ _ _ (@pa_consts _ _ (L2.map V.str) rfl))))
    (pss_cons (ps_set (i := 3) sc_law_names.nd rfl (Or.inl rfl) (pe_op op_cat (pv 3) (@pe_lst _ _ _ _ (@pa_consts _ _ (L3.map V.str) rfl))))
    (pss_cons (ps_set (i := 4) sc_law_names.nd rfl (Or.inl rfl) (pe_call G_law_mixed hr rfl m_law_mixed k_law_mixed b_law_mixed .nil pass0 (pa_cons (pv 0) (pa_cons pe_int (pa_cons (pv 2) pa_nil)))))
    (pss_cons (ps_set (i := 5) sc_law_names.nd rfl (Or.inl rfl) (pe_lst pa_nil))
    (pss_cut (ps_for PassesOwn.never rfl (pi_range1 rfl m_range (pa_cons (pv 1) pa_nil)) (pg_name (i := 6) sc_law_names.nd rfl (Or.inl rfl))
      (pss_one (ps_if (pt_cut (PW.pt (pw_and (pt_cmpR op_eq (pe_op op_mod (pv 4) pe_int) pe_int (nomark _)) (pw_and1 (pt_cmpR op_eq (pe_op op_mod (pv 6) pe_int) (pe_op op_mod (pe_op op_fdiv (pv 4) pe_int) pe_int) (nomark _))))))
        (pss_one (ps_expr (pe_bm PySem.F.plainAttrs_list PySem.F.slot_list_append PySem.F.type_list_append mt_append (pv 5) (pa_cons (pe_ix ix_list (pv 3) (pe_op op_mod (pe_op op_add (pe_op op_fdiv (pv 4) pe_int) (pe_op op_fdiv (pv 6) pe_int)) pe_int) (fun _ _ => rfl)) pa_nil))))
        (pss_one (ps_if (pt_cut (PW.pt (pw_and (pt_cmpR op_eq (pe_op op_mod (pv 4) pe_int) pe_int (nomark _)) (pw_and (pt_cmpR op_eq (pe_op op_mod (pv 6) pe_int) pe_int (nomark _)) (pw_and1 (pt_cmpR op_lt (pe_callB call_len_str rfl m_len PySem.boot_len (pa_cons (pe_ix ix_list (pv 5) (pe_op op_sub (pv 6) pe_int) (fun _ _ => rfl)) pa_nil)) pe_int (nomark _)))))))
          (pss_one (ps_expr (pe_bm PySem.F.plainAttrs_list PySem.F.slot_list_append PySem.F.type_list_append mt_append (pv 5) (pa_cons (pe_op op_add_str (pe_ix ix_list (pv 5) (pe_op op_sub (pv 6) pe_int) (fun _ _ => rfl)) pe_str) pa_nil))))
          (pss_one (ps_expr (pe_bm PySem.F.plainAttrs_list PySem.F.slot_list_append PySem.F.type_list_append mt_append (pv 5) (pa_cons (pe_call G_law_name hr rfl m_law_name k_law_name b_law_name .nil pass0 (pa_cons (pv 6) (pa_cons (pe_op op_fdiv (pv 4) pe_int) pa_nil))) pa_nil)))))))))
    (pss_one (ps_ret (pe_callTy call_tuple_of rfl m_tuple PyProof.Rows.boot_tuple (pa_cons (pv 5) pa_nil)))))))))), ?_⟩
  refine ⟨small_le (by show 13 ≤ 1000; decide), fun p1 hp1 => ⟨_, rfl, small_le (by show 12 ≤ 1000; decide), fun p2 hp2 => ⟨p1, p2, _, _, rfl, rfl, same_new hp2 _ _ _ upd_same, upd_same, small_le (by show 13 + 12 ≤ 1000; decide), fun p3 hp3 => ⟨_, rfl, small_le (by show 5 ≤ 1000; decide), fun p4 hp4 => ⟨p3, p4, _, _, rfl, rfl, same_new hp4 _ _ _ upd_same, upd_same, small_le (by show 25 + 5 ≤ 1000; decide), fun pk hpk => ?_⟩⟩⟩⟩⟩
  have s0 := (((same_new hp1 (.lst (L1.map V.str))).trans (same_new hp2 (.lst (L2.map V.str)))).trans (same_new hp3 (.lst (L1.map V.str ++ L2.map V.str)))).trans ((same_new hp4 (.lst (L3.map V.str))).trans (same_new hpk (.lst ((L1.map V.str ++ L2.map V.str) ++ L3.map V.str))))
  have hk0 : (upd (upd (upd (upd (upd H p1 (.lst (L1.map V.str))) p2 (.lst (L2.map V.str))) p3 (.lst (L1.map V.str ++ L2.map V.str))) p4 (.lst (L3.map V.str))) pk (.lst ((L1.map V.str ++ L2.map V.str) ++ L3.map V.str))) pk = some (.lst (kws.map V.str)) := by
    rw [upd_same]
    unfold kws
    rw [List.map_append, List.map_append]
  generalize upd (upd (upd (upd (upd H p1 (.lst (L1.map V.str))) p2 (.lst (L2.map V.str))) p3 (.lst (L1.map V.str ++ L2.map V.str))) p4 (.lst (L3.map V.str))) pk (.lst ((L1.map V.str ++ L2.map V.str) ++ L3.map V.str)) = H0 at s0 hk0 ⊢
  refine ⟨_, rfl, _, rfl, a, ns, 0, salt, rfl, s0.seq hS, h63, ⟨by decide, by decide⟩, ⟨by omega, by omega⟩, fun x x0 x1 => ?_⟩
  refine ⟨Nat.zero_le _, fun pl hpl => ?_⟩
  refine ⟨fun σ' H' => Same H0 H' ∧ H' pl = some (.lst (((List.range m).map (nameAt x)).map V.str)) ∧ ∃ o5 : Option V, σ' = [some (.ref a), some (.int (m : Int)), some (.int salt), some (.ref pk), some (.int x), some (.ref pl), o5], ?_, ?_⟩
  · refine ⟨_, rfl, (m : Int), rfl, by omega, by omega, ?_⟩
    refine for_range (fun i σ' H' => Same H0 H' ∧ H' pl = some (.lst (((List.range i).map (nameAt x)).map V.str)) ∧ ∃ o5 : Option V, σ' = [some (.ref a), some (.int (m : Int)), some (.int salt), some (.ref pk), some (.int x), some (.ref pl), o5]) ⟨same_new hpl _, upd_same, none, rfl⟩ ?_ ?_
    · rintro i σ' H2 hi ⟨s2, h2, o5, rfl⟩
      have hi' : i < 42 := by omega
      have hsnoc : ((List.range (i + 1)).map (nameAt x)).map V.str = ((List.range i).map (nameAt x)).map V.str ++ [V.str (nameAt x i)] := by
        rw [List.range_succ, List.map_append, List.map_append]
        rfl
      have keep : ∀ (H3 : Hp) (o : HO), Same H2 H3 → Same H0 (upd H3 pl o) := fun H3 o s3 b u e => by
        rw [upd_ne (ne_of_none e hpl)]
        exact (s2.trans s3) _ _ e
      refine ⟨fun c H' => H' = H2 ∧ c = decide (x % 2 = 0 ∧ (i : Int) % 3 = x / 2 % 3), ?_, ?_⟩
      · refine ⟨_, rfl, _, _, rfl, rfl, (by show (0 : Int) < 2; decide), rfl, _, rfl, ?_⟩
        refine itB (fun c => ?_) (fun c => ?_)
        · have e0 : x % 2 = 0 := by
            have := of_decide_eq_true c
            injection this
          refine ⟨_, rfl, _, _, rfl, rfl, (by show (0 : Int) < 3; decide), _, rfl, _, _, rfl, rfl, ⟨by decide, by decide⟩, _, _, rfl, rfl, (by show (0 : Int) < 3; decide), rfl, _, rfl, rfl, decide_eq_decide.mpr ⟨fun h => ⟨e0, ?_⟩, fun h => ?_⟩⟩
          · have h' : V.int ((0 + (i : Int)) % 3) = V.int (x / 2 % 3) := h
            injection h' with h'
            omega
          · show V.int ((0 + (i : Int)) % 3) = V.int (x / 2 % 3)
            have := h.2
            congr 1
            omega
        · have e0 : ¬ x % 2 = 0 := fun e => of_decide_eq_false c (by show V.int (x % 2) = V.int 0; rw [e])
          exact ⟨rfl, (decide_eq_false (fun h => e0 h.1)).symm⟩
      rintro c H3 ⟨rfl, rfl⟩
      refine itB (fun c => ?_) (fun c => ?_)
      · have c' := of_decide_eq_true c
        have en : nameAt x i = kws.getD ((x / 6 + (i : Int) / 3) % 30).toNat ("" : Str) := if_pos c'
        refine ⟨_, rfl, .inl ⟨rfl, _, SqL.of h2⟩, _, rfl, _, rfl, _, _, rfl, rfl, ⟨by decide, by decide⟩, _, rfl, _, _, rfl, rfl, ⟨by decide, by decide⟩, _, _, rfl, rfl, _, _, rfl, rfl, (by show (0 : Int) < 30; decide), pk, _, _, _, rfl, rfl, SqL.of (s2 _ _ hk0), kw_at _, pl, _, _, rfl, rfl, h2, small1000 (by simp; omega), keep _ _ (Same.refl _), ?_, _, rfl⟩
        rw [upd_same, hsnoc, en, Int.zero_add]
      · have c' := of_decide_eq_false c
        have hat : x % 4 = 1 → i % 2 = 1 → atI (((List.range i).map (nameAt x)).map V.str) (0 + (i : Int) - 1) = some (.str (nameM (x / 6) ((i : Int) - 1))) := fun hx hi2 => by
          have := atI_nat (xs := ((List.range i).map (nameAt x)).map V.str) (j := i - 1) (v := .str (nameAt x (i - 1))) (by
            rw [List.getElem?_map, List.getElem?_map, List.getElem?_range (by omega)]
            rfl)
          rw [show 0 + (i : Int) - 1 = ((i - 1 : Nat) : Int) by omega, this]
          congr 2
          unfold nameAt
          rw [if_neg (fun h => by omega), if_neg (fun h => by omega)]
          congr 1
          omega
        refine ⟨fun c H' => H' = H3 ∧ c = decide (x % 4 = 1 ∧ i % 2 = 1 ∧ (nameM (x / 6) ((i : Int) - 1)).length < 12), ?_, ?_⟩
        · refine ⟨_, rfl, _, _, rfl, rfl, (by show (0 : Int) < 4; decide), rfl, _, rfl, ?_⟩
          refine itB (fun c => ?_) (fun c => ?_)
          · have e0 : x % 4 = 1 := by
              have := of_decide_eq_true c
              injection this
            refine ⟨_, rfl, _, _, rfl, rfl, (by show (0 : Int) < 2; decide), rfl, _, rfl, ?_⟩
            refine itB (fun c => ?_) (fun c => ?_)
            · have e1 : (0 + (i : Int)) % 2 = 1 := by
                have := of_decide_eq_true c
                injection this
              have e2 : i % 2 = 1 := by omega
              have hl := name_len (x / 6) ((i : Int) - 1)
              have hs := stem_len (x / 6)
              refine ⟨_, rfl, _, rfl, _, _, rfl, rfl, pl, _, _, _, rfl, rfl, SqL.of h2, hat e0 e2, _, rfl, small_le (by omega), _, _, rfl, rfl, _, rfl, rfl, decide_eq_decide.mpr ⟨fun h => ⟨e0, e2, by omega⟩, fun h => by have := h.2.2; omega⟩⟩
            · have e1 : ¬ (0 + (i : Int)) % 2 = 1 := fun e => of_decide_eq_false c (by show V.int ((0 + (i : Int)) % 2) = V.int 1; rw [e])
              exact ⟨rfl, (decide_eq_false (fun h => e1 (by omega))).symm⟩
          · have e0 : ¬ x % 4 = 1 := fun e => of_decide_eq_false c (by show V.int (x % 4) = V.int 1; rw [e])
            exact ⟨rfl, (decide_eq_false (fun h => e0 h.1)).symm⟩
        rintro c H4 ⟨rfl, rfl⟩
        refine itB (fun d => ?_) (fun d => ?_)
        · have d' := of_decide_eq_true d
          have en : nameAt x i = nameM (x / 6) ((i : Int) - 1) ++ ("a" : Str) := by
            unfold nameAt
            rw [if_neg c', if_pos d']
          have l1 : ("a" : Str).length = 1 := by decide +kernel
          refine ⟨_, rfl, .inl ⟨rfl, _, SqL.of h2⟩, _, rfl, _, rfl, _, _, rfl, rfl, pl, _, _, _, rfl, rfl, SqL.of h2, hat d'.1 d'.2.1, _, _, rfl, rfl, small_le (by rw [l1]; have := d'.2.2; omega), pl, _, _, rfl, rfl, h2, small1000 (by simp; omega), keep _ _ (Same.refl _), ?_, _, rfl⟩
          rw [upd_same, hsnoc, en]
        · have d' := of_decide_eq_false d
          have en : nameAt x i = nameM (x / 6) i := by
            unfold nameAt
            rw [if_neg c', if_neg d']
          refine ⟨_, rfl, .inl ⟨rfl, _, SqL.of h2⟩, _, rfl, _, rfl, _, _, rfl, rfl, ⟨by decide, by decide⟩, _, _, rfl, fun H5 s5 => ⟨pl, _, _, rfl, rfl, s5 _ _ h2, small1000 (by simp; omega), keep _ _ s5, ?_, _, rfl⟩⟩
          rw [upd_same, hsnoc, en, Int.zero_add]
    · rintro σ' H2 ⟨s2, h2, rest⟩
      exact ⟨s2, h2, rest⟩
  rintro σ' H' ⟨s2, h2, o5, rfl⟩
  exact ⟨_, rfl, pl, _, rfl, .inl ⟨SqL.of h2, fun l hl => q l x _ ((s0.trans s2).trans (same_new hl _)) upd_same⟩⟩
theorem sc_law_deed : FnScope ["_law_script", "_law_k", "_law_salt", "_law_boxes_here", "_law_events", "_law_number", "_law_some", "_law_way", "_law_b", "_law_size", "_law_wide"] ["_law_script", "_law_k", "_law_salt", "_law_boxes_here", "_law_events"] (defScope s_L_deed) := ⟨rfl, rfl, rfl, by decide +kernel, rfl, by decide +kernel, by decide +kernel⟩
theorem ok_ldeed {n : Nat} {f gc gm gw : Addr} {fd dc dm dw : FuncData} (F : Fun K "_law_deed" "_law_deed" s_L_deed f fd)
    (G_law_cell_at : FnOk P w K mg base CX0 n gc dc ["_law_script", "_law_k"] (spCell K)) (b_law_cell_at : Binds K dc ["_law_script", "_law_k"] []) (k_law_cell_at : PySem.W.keepIn K (.ref gc) = true) (m_law_cell_at : mg "_law_cell_at" = some (.ref gc))
    (G_law_mixed : FnOk P w K mg base CX0 n gm dm ["_law_script", "_law_k", "_law_salt"] (spMixed K)) (b_law_mixed : Binds K dm ["_law_script", "_law_k", "_law_salt"] []) (k_law_mixed : PySem.W.keepIn K (.ref gm) = true) (m_law_mixed : mg "_law_mixed" = some (.ref gm))
    (G_law_word : FnOk P w K mg base CX0 n gw dw ["_law_number"] spWordL) (b_law_word : Binds K dw ["_law_number"] []) (k_law_word : PySem.W.keepIn K (.ref gw) = true) (m_law_word : mg "_law_word" = some (.ref gw)) (m_len : mg "len" = none) :
    FnOk P w K mg base CX0 (n + 1) f fd ["_law_script", "_law_k", "_law_salt", "_law_boxes_here", "_law_events"] (spDeedL K) := by
  refine F.ok sc_law_deed (fun vs H Q E h => ?_) (fun cdv A outer s H vs Q E hr h => ?_)
  · obtain ⟨a, tb, ns, k, salt, bv, bs, es, rfl, _⟩ := h
    rfl
  obtain ⟨a, tb, ns, k, salt, bv, bs, es, rfl, hS, h63, hk, hsalt, htb, hbs, B, q⟩ := h
  refine ⟨_, (pss_cons (ps_set (i := 5) sc_law_deed.nd rfl (Or.inl rfl) (pe_call G_law_mixed hr rfl m_law_mixed k_law_mixed b_law_mixed .nil pass0 (pa_cons (pv 0) (pa_cons (pv 1) (pa_cons (pv 2) pa_nil)))))
    (pss_cons (ps_set (i := 6) sc_law_deed.nd rfl (Or.inl rfl) (pe_op op_add (pe_call G_law_cell_at hr rfl m_law_cell_at k_law_cell_at b_law_cell_at .nil pass0 (pa_cons (pv 0) (pa_cons (pv 1) pa_nil))) (pv 5)))
    (pss_cons (ps_set (i := 7) sc_law_deed.nd rfl (Or.inl rfl) (pe_op op_mod (pv 5) pe_int))
    (pss_cons (ps_if (pt_cut (PW.pt (pw_and (pt_cmpR op_eq (pv 7) pe_int (nomark _)) (pw_and1 (pt_cmpR op_gt (pv 4) pe_int (nomark _))))))
      (pss_one (ps_ret (pe_tup (pa_cons pe_str (pa_cons (pe_op op_mod (pe_op op_fdiv (pv 5) pe_int) (pv 4)) pa_nil)))))
      pss_nil)
    (pss_cons (ps_if (pt_cut (PW.pt (pw_and (pt_cmpR op_gt (pv 7) pe_int (nomark _)) (pw_and1 (pt_cmpR op_gt (pe_callB call_len_seq rfl m_len PySem.boot_len (pa_cons (pv 3) pa_nil)) pe_int (nomark _))))))
      (pss_cons (ps_set (i := 8) sc_law_deed.nd rfl (Or.inl rfl) (pe_op op_mod (pe_op op_fdiv (pv 5) pe_int) (pe_callB call_len_seq rfl m_len PySem.boot_len (pa_cons (pv 3) pa_nil))))
      (pss_cons (ps_set (i := 9) sc_law_deed.nd rfl (Or.inl rfl) (pe_ix ix_tup (pe_ix ix_tup (pv 3) (pv 8) (fun _ _ => rfl)) pe_int (fun _ _ => rfl)))
      (pss_cons (ps_if (pt_cmpR op_eq (pv 7) pe_int (nomark _))
        (pss_one (ps_ret (pe_tup (pa_cons pe_str (pa_cons (pv 8) (pa_cons (pe_ix ix_list (pe_lst (pa_cons pe_int (pa_cons (pe_op op_sub (pv 9) pe_int) (pa_cons (pe_op op_mod (pv 6) (pv 9)) pa_nil)))) (pe_op op_mod (pe_op op_fdiv (pv 5) pe_int) pe_int) (fun _ _ => rfl)) pa_nil))))))
        pss_nil)
      (pss_cons (ps_set (i := 10) sc_law_deed.nd rfl (Or.inl rfl) (pe_op op_sub (pe_op op_mod (pv 6) (pe_op op_add (pe_op op_mul pe_int (pe_op op_pow pe_int pe_int)) pe_int)) (pe_op op_pow pe_int pe_int)))
      (pss_one (ps_ret (pe_tup (pa_cons pe_str (pa_cons (pv 8) (pa_cons (pe_ix ix_list (pe_lst (pa_cons (pe_op op_sub (pe_op op_mod (pe_op op_fdiv (pv 5) pe_int) pe_int) pe_int) (pa_cons (pe_op op_pow pe_int pe_int) (pa_cons (pe_un un_neg (pe_op op_pow pe_int pe_int)) (pa_cons (pv 10) pa_nil))))) (pe_op op_mod (pe_op op_fdiv (pv 5) pe_int) pe_int) (fun _ _ => rfl)) pa_nil))))))))))
      pss_nil)
    (pss_one (ps_ret (pe_tup (pa_cons pe_str (pa_cons (pe_call G_law_word hr rfl m_law_word k_law_word b_law_word .nil pass0 (pa_cons (pe_op op_fdiv (pv 5) pe_int) pa_nil)) pa_nil)))))))))), ?_⟩
  have lbv := hbs.length
  refine ⟨_, rfl, _, rfl, _, rfl, a, ns, k, salt, rfl, hS, h63, hk, hsalt, fun y y0 y1 => ?_⟩
  refine ⟨_, rfl, _, rfl, a, ns, k, rfl, hS, h63, fun ce => ⟨_, rfl, _, _, rfl, rfl, ?_⟩⟩
  refine ⟨_, rfl, _, _, rfl, rfl, (by show (0 : Int) < 5; decide), ?_⟩
  refine ⟨fun c H' => H' = H ∧ (c = true → 1 ≤ es.length), ?_, ?_⟩
  · refine ⟨_, rfl, rfl, _, rfl, ?_⟩
    refine itB (fun c => ?_) (fun c => ⟨rfl, fun h => by cases h⟩)
    refine ⟨_, rfl, _, _, rfl, rfl, _, rfl, rfl, fun h => ?_⟩
    have h' : (0 : Int) < (es.length : Int) := of_decide_eq_true h
    omega
  rintro c H1 ⟨rfl, hc⟩
  refine itB (fun c => ?_) (fun c => ?_)
  · have e1 := hc c
    have h1 := Int.emod_nonneg (y / 5) (show (es.length : Int) ≠ 0 by omega)
    have h2 := Int.emod_lt_of_pos (y / 5) (show 0 < (es.length : Int) by omega)
    exact ⟨_, rfl, _, _, rfl, rfl, ⟨by decide, by decide⟩, _, rfl, _, _, rfl, rfl, (by show (0 : Int) < (es.length : Int); omega), small_le (by show 2 ≤ 1000; decide), fun t ht => q (.ref t) (.send (y / 5 % (es.length : Int))) _ (same_new ht _) (.send upd_same) (DdO.send B h1 h2)⟩
  refine ⟨fun c H' => H' = H1 ∧ (c = true → 1 ≤ bs.length), ?_, ?_⟩
  · refine ⟨_, rfl, _, _, rfl, rfl, _, rfl, ?_⟩
    refine itB (fun c => ?_) (fun c => ⟨rfl, fun h => by cases h⟩)
    refine ⟨_, rfl, tb, _, rfl, .inr (SqT.of htb), _, _, rfl, rfl, _, rfl, rfl, fun h => ?_⟩
    have h' : (0 : Int) < (bv.length : Int) := of_decide_eq_true h
    omega
  rintro c H2 ⟨rfl, hc⟩
  refine itB (fun c => ?_) (fun c => ?_)
  · have b1 := hc c
    have h1 := Int.emod_nonneg (y / 5) (show (bv.length : Int) ≠ 0 by omega)
    have h2 := Int.emod_lt_of_pos (y / 5) (show 0 < (bv.length : Int) by omega)
    have hi : (y / 5 % (bv.length : Int)).toNat < bs.length := by omega
    obtain ⟨u, hu, t1, rfl, ht1⟩ := hbs.at hi
    rw [show (((y / 5 % (bv.length : Int)).toNat : Nat) : Int) = y / 5 % (bv.length : Int) by omega] at hu
    obtain ⟨_, z1, z2⟩ := B.b _ (List.getElem_mem hi)
    refine ⟨_, rfl, _, _, rfl, rfl, ⟨by decide, by decide⟩, _, rfl, tb, _, rfl, .inr (SqT.of htb), _, _, rfl, rfl, (by show (0 : Int) < (bv.length : Int); omega), ?_⟩
    refine ⟨_, rfl, _, rfl, tb, _, _, _, rfl, rfl, SqT.of htb, hu, t1, _, _, _, rfl, rfl, SqT.of ht1, rfl, ?_⟩
    have hb2 : y / 5 % (bv.length : Int) < (bs.length : Int) := by omega
    generalize bs[(y / 5 % (bv.length : Int)).toNat].size = sz at z1 z2 ⊢
    refine ⟨_, rfl, rfl, _, rfl, itB (fun c => ?_) (fun c => ?_)⟩
    · have w1 := Int.emod_nonneg (ce + y) (show sz ≠ 0 by omega)
      have w2 := Int.emod_lt_of_pos (ce + y) (show 0 < sz by omega)
      obtain ⟨v, hv, hat⟩ : ∃ v : Int, (0 ≤ v ∧ v < sz) ∧ atI [V.int 0, V.int (sz - 1), V.int ((ce + y) % sz)] (y / 30 % 3) = some (.int v) := by
        rcases (show y / 30 % 3 = 0 ∨ y / 30 % 3 = 1 ∨ y / 30 % 3 = 2 by omega) with e | e | e <;> rw [e]
        · exact ⟨0, ⟨by omega, by omega⟩, rfl⟩
        · exact ⟨sz - 1, ⟨by omega, by omega⟩, rfl⟩
        · exact ⟨_, ⟨w1, w2⟩, rfl⟩
      exact ⟨_, rfl, _, rfl, _, _, rfl, rfl, _, rfl, _, rfl, _, _, rfl, rfl, (by show (0 : Int) < sz; omega), small_le (by show 3 ≤ 1000; decide), fun p hp => ⟨_, rfl, _, _, rfl, rfl, ⟨by decide, by decide⟩, _, _, rfl, rfl, (by show (0 : Int) < 3; decide), p, _, _, _, rfl, rfl, SqL.of upd_same, hat, small_le (by show 3 ≤ 1000; decide), fun t ht => q (.ref t) (.set (y / 5 % (bv.length : Int)) v) _ ((same_new hp _).trans (same_new ht _)) (.set upd_same) (DdO.set B h1 hb2 (by omega))⟩⟩
    · have hw0 := Int.emod_nonneg (ce + y) (show (2 * 10 ^ (30 : Int).toNat + 1 : Int) ≠ 0 by decide)
      have hw1 := Int.emod_lt_of_pos (ce + y) (show (0 : Int) < 2 * 10 ^ (30 : Int).toNat + 1 by decide)
      have e30 : (10 ^ (30 : Int).toNat : Int) = 10 ^ 30 := rfl
      obtain ⟨v, hv, hat⟩ : ∃ v : Int, (-10 ^ 30 ≤ v ∧ v ≤ 10 ^ 30) ∧ atI [V.int (y / 30 % 25 - 12), V.int (10 ^ (30 : Int).toNat), V.int (-10 ^ (30 : Int).toNat), V.int ((ce + y) % (2 * 10 ^ (30 : Int).toNat + 1) - 10 ^ (30 : Int).toNat)] (y / 900 % 4) = some (.int v) := by
        rcases (show y / 900 % 4 = 0 ∨ y / 900 % 4 = 1 ∨ y / 900 % 4 = 2 ∨ y / 900 % 4 = 3 by omega) with e | e | e | e <;> rw [e]
        · exact ⟨_, ⟨by omega, by omega⟩, rfl⟩
        · exact ⟨10 ^ (30 : Int).toNat, ⟨by decide, by decide⟩, rfl⟩
        · exact ⟨-10 ^ (30 : Int).toNat, ⟨by decide, by decide⟩, rfl⟩
        · exact ⟨_, ⟨by omega, by omega⟩, rfl⟩
      refine ⟨_, rfl, _, _, rfl, rfl, ⟨by decide, by decide, by decide⟩, _, _, rfl, rfl, mulIn (by decide) (by decide), _, _, rfl, rfl, _, _, rfl, rfl, (by show (0 : Int) < 2 * 10 ^ (30 : Int).toNat + 1; decide), _, _, rfl, rfl, ⟨by decide, by decide, by decide⟩, _, _, rfl, rfl, ?_⟩
      exact ⟨_, rfl, _, rfl, _, _, rfl, rfl, ⟨by decide, by decide⟩, _, _, rfl, rfl, (by show (0 : Int) < 25; decide), _, _, rfl, rfl, _, _, rfl, rfl, ⟨by decide, by decide, by decide⟩, _, _, rfl, rfl, ⟨by decide, by decide, by decide⟩, _, rfl, _, rfl, small_le (by show 4 ≤ 1000; decide), fun p hp => ⟨_, rfl, _, _, rfl, rfl, ⟨by decide, by decide⟩, _, _, rfl, rfl, (by show (0 : Int) < 4; decide), p, _, _, _, rfl, rfl, SqL.of upd_same, hat, small_le (by show 3 ≤ 1000; decide), fun t ht => q (.ref t) (.add (y / 5 % (bv.length : Int)) v) _ ((same_new hp _).trans (same_new ht _)) (.add upd_same) (DdO.add B h1 hb2 (by omega))⟩⟩
  refine ⟨_, rfl, _, _, rfl, rfl, ⟨by decide, by decide⟩, _, rfl, ⟨by show 0 ≤ y / 5; omega, by show y / 5 < 2147483648; omega⟩, fun z hz => ⟨small_le (by show 2 ≤ 1000; decide), fun t ht => q (.ref t) (.say z) _ (same_new ht _) (.say upd_same) (DdO.say hz)⟩⟩
theorem sc_law_deeds : FnScope ["_law_script", "_law_k", "_law_salt", "_law_boxes_here", "_law_events", "_law_many"] ["_law_script", "_law_k", "_law_salt", "_law_boxes_here", "_law_events"] (defScope s_L_deeds) := ⟨rfl, rfl, rfl, by decide +kernel, rfl, by decide +kernel, by decide +kernel⟩
theorem ok_ldeeds {n : Nat} {f gm gd : Addr} {fd dm dd : FuncData} (F : Fun K "_law_deeds" "_law_deeds" s_L_deeds f fd)
    (G_law_mixed : FnOk P w K mg base CX0 n gm dm ["_law_script", "_law_k", "_law_salt"] (spMixed K)) (b_law_mixed : Binds K dm ["_law_script", "_law_k", "_law_salt"] []) (k_law_mixed : PySem.W.keepIn K (.ref gm) = true) (m_law_mixed : mg "_law_mixed" = some (.ref gm))
    (G_law_deed : FnOk P w K mg base CX0 n gd dd ["_law_script", "_law_k", "_law_salt", "_law_boxes_here", "_law_events"] (spDeedL K)) (b_law_deed : Binds K dd ["_law_script", "_law_k", "_law_salt", "_law_boxes_here", "_law_events"] []) (k_law_deed : PySem.W.keepIn K (.ref gd) = true) (m_law_deed : mg "_law_deed" = some (.ref gd)) (m_range : mg "range" = none) (m_tuple : mg "tuple" = none) :
    FnOk P w K mg base CX0 (n + 1) f fd ["_law_script", "_law_k", "_law_salt", "_law_boxes_here", "_law_events"] (spDeedsL K) := by
  refine F.ok sc_law_deeds (fun vs H Q E h => ?_) (fun cdv A outer s H vs Q E hr h => ?_)
  · obtain ⟨a, tb, ns, k, salt, bv, bs, es, rfl, _⟩ := h
    rfl
  obtain ⟨a, tb, ns, k, salt, bv, bs, es, rfl, hS, h63, hk, hsalt, htb, hbs, B, q⟩ := h
  refine ⟨_, (@pss_cons _ _ _ _ _ (@ps_set _ _ 5 _ _ _ _ sc_law_deeds.nd rfl (Or.inl rfl) (@pe_ix _ _ _ _ _ _ _ ix_list (@pe_lst _ _ _ _ (@pa_consts _ _ ([(0 : Int), 0, 0, 1, 1, 2, 3, 8].map V.int) rfl)) (pe_op op_mod (pe_call G_law_mixed hr rfl m_law_mixed k_law_mixed b_law_mixed .nil pass0 (pa_cons (pv 0) (pa_cons (pv 1) (pa_cons (pv 2) pa_nil)))) pe_int) (fun _ _ => rfl)) rfl (Or.inl rfl))
    (pss_one (ps_ret (pe_callTy call_tuple_of rfl m_tuple PyProof.Rows.boot_tuple (pa_cons (pe_comp (caps := [(0, "_law_script"), (1, "_law_k"), (3, "_law_boxes_here"), (4, "_law_events"), (2, "_law_salt")]) rfl (show CompSc (defScope s_L_deeds) ["_law_script", "_law_k", "_law_salt", "_law_boxes_here", "_law_events", "_law_many"] _ _ _ from ⟨rfl, rfl, by decide +kernel, by decide +kernel, by decide +kernel, by decide +kernel, by decide +kernel⟩) (pi_range1 rfl m_range (pa_cons (pv 5) pa_nil)) (fun _ _ _ _ _ _ => pifs_nil) (fun _ _ _ _ _ _ => (pe_call G_law_deed hr rfl m_law_deed k_law_deed b_law_deed .nil pass0 (pa_cons (pv 1) (pa_cons (pv 2) (pa_cons (pe_op op_add (pe_op op_add (pv 5) pe_int) (pv 0)) (pa_cons (pv 3) (pa_cons (pv 4) pa_nil)))))))) pa_nil))))), ?_⟩
  refine ⟨small_le (by show 8 ≤ 1000; decide), fun p0 hp0 => ?_⟩
  have s0 := same_new hp0 (.lst ([(0 : Int), 0, 0, 1, 1, 2, 3, 8].map V.int))
  refine ⟨_, rfl, _, rfl, _, rfl, a, ns, k, salt, rfl, s0.seq hS, h63, hk, ⟨by omega, by omega⟩, fun y y0 y1 => ?_⟩
  obtain ⟨m, hm, hat⟩ : ∃ m : Nat, m ≤ 8 ∧ atI ([(0 : Int), 0, 0, 1, 1, 2, 3, 8].map V.int) (y % 8) = some (.int (m : Int)) := by
    rcases (show y % 8 = 0 ∨ y % 8 = 1 ∨ y % 8 = 2 ∨ y % 8 = 3 ∨ y % 8 = 4 ∨ y % 8 = 5 ∨ y % 8 = 6 ∨ y % 8 = 7 by omega) with e | e | e | e | e | e | e | e <;> rw [e]
    · exact ⟨0, by decide, rfl⟩
    · exact ⟨0, by decide, rfl⟩
    · exact ⟨0, by decide, rfl⟩
    · exact ⟨1, by decide, rfl⟩
    · exact ⟨1, by decide, rfl⟩
    · exact ⟨2, by decide, rfl⟩
    · exact ⟨3, by decide, rfl⟩
    · exact ⟨8, by decide, rfl⟩
  refine ⟨_, _, rfl, rfl, (by show (0 : Int) < 8; decide), p0, _, _, _, rfl, rfl, SqL.of upd_same, hat, ?_⟩
  generalize upd H p0 (.lst ([(0 : Int), 0, 0, 1, 1, 2, 3, 8].map V.int)) = H0 at s0 ⊢
  refine ⟨_, rfl, (m : Int), rfl, by omega, by omega, ?_⟩
  refine comp_range (fun i acc H' => Same H H' ∧ ∃ ds : List Dd, ds.length = i ∧ All2 (DdIn H') acc ds ∧ ∀ d ∈ ds, DdO bs es d) ⟨s0, [], rfl, .nil, fun d hd => by cases hd⟩ (fun i acc H' hi ⟨s1, ds, l1, hA, hds⟩ => ?_) (fun acc H' ⟨s1, ds, l1, hA, hds⟩ p hp => ?_)
  · have hi' : i < m := hi
    refine ⟨_, rfl, _, rfl, _, rfl, _, _, rfl, rfl, _, rfl, _, _, rfl, rfl, _, rfl, _, rfl, a, tb, ns, k, salt + 1 + (0 + (i : Int)), bv, bs, es, rfl, s1.seq hS, h63, hk, ⟨by omega, by omega⟩, s1 _ _ htb, BxsIn.mono hbs (KeepT.of s1), B, fun v d H3 s3 hv hd => ⟨?_, s1.trans s3, ds ++ [d], by rw [List.length_append, l1]; rfl, (hA.imp fun _ _ z => z.mono (KeepT.of s3)).snoc hv, fun x hx => ?_⟩⟩
    · rw [hA.length]
      exact small1000 (by omega)
    · rcases List.mem_append.mp hx with h | h
      · exact hds x h
      · rw [List.mem_singleton.mp h]
        exact hd
  · have l1' : ds.length = m := l1
    exact ⟨p, _, rfl, .inl ⟨SqL.of upd_same, fun t ht => q (.ref t) ds _ ((s1.trans (same_new hp _)).trans (same_new ht _)) ⟨t, acc, rfl, upd_same, hA.imp fun _ _ z => z.mono ((KeepT.new hp _).trans (KeepT.new ht _))⟩ (by omega) hds⟩⟩
end
end C43

namespace C43
open PySem L2 Mix Gds Dds Wds Cht Num Spl Txm Dig D42 G41
structure RmO (bs : List Bx) (es : List Str) (r : Ro) : Prop where
  nm : Wd r.nm
  kind : Wd r.kind
  keeps : Wd r.keeps
  lamp : Wd r.lamp
  d0 : 0 ≤ r.depth
  d1 : r.depth ≤ 40
  li : r.ins.length ≤ 8
  lo : r.outs.length ≤ 8
  ins : ∀ d ∈ r.ins, DdO bs es d
  outs : ∀ d ∈ r.outs, DdO bs es d
def spRoomsL (K : PySem.W.Frag) : Sp := fun vs H Q _ => ∃ (a tb : Addr) (ns : List Int) (m : Nat) (bv : List V) (bs : List Bx) (es : List Str), vs = [.ref a, .int (m : Int), .ref tb, .int (es.length : Int)] ∧ SqL K H a (ns.map V.int) ∧ ns.length ≤ 63 ∧ 1 ≤ m ∧ m ≤ 40 ∧ H tb = some (.tup bv) ∧ BxsIn H bv bs ∧ BE bs es ∧
  ∀ (t : Addr) (rv : List V) (rs : List Ro) (x : Int) (H' : Hp), Same H H' → H' t = some (.tup rv) → RosIn H' rv rs → rs.length = m → (∀ r ∈ rs, RmO bs es r) → Q (.ref t) H'
theorem same_upd_b {H H' : Hp} {p : Addr} (hp : H p = none) (s : Same H H') (o : HO) : Same H (upd H' p o) := same_upd hp s o
theorem set_map (l : List Int) (j : Nat) (v : Int) : (l.map V.int).set j (.int v) = (l.set j v).map V.int := by rw [List.map_set]
theorem ixN_of {n j : Nat} (h : j < n) : ixN n ((j : Nat) : Int) = some j := by
  unfold ixN
  rw [if_pos (by omega), if_pos (by omega)]
  simp
section
variable {P : Program} {w : World} {K : PySem.W.Frag} {mg : Str → Option Value} {base : Heap}
theorem sc_law_guard : FnScope ["_law_script", "_law_k", "_law_salt", "_law_high", "_law_boxes_here", "_law_rooms_here", "_law_number", "_law_way", "_law_one", "_law_some", "_law_edge"] ["_law_script", "_law_k", "_law_salt", "_law_high", "_law_boxes_here", "_law_rooms_here"] (defScope s_L_guard) := ⟨rfl, rfl, rfl, by decide +kernel, rfl, by decide +kernel, by decide +kernel⟩
theorem ok_lguard {m n : Nat} {f gc gm : Addr} {fd dc dm : FuncData} (F : Fun K "_law_guard" "_law_guard" s_L_guard f fd)
    (G_law_guard : FnOk P w K mg base CX0 n f fd ["_law_script", "_law_k", "_law_salt", "_law_high", "_law_boxes_here", "_law_rooms_here"] (spGuardL K m)) (b_law_guard : Binds K fd ["_law_script", "_law_k", "_law_salt", "_law_high", "_law_boxes_here", "_law_rooms_here"] []) (k_law_guard : PySem.W.keepIn K (.ref f) = true) (m_law_guard : mg "_law_guard" = some (.ref f))
    (G_law_cell_at : FnOk P w K mg base CX0 n gc dc ["_law_script", "_law_k"] (spCell K)) (b_law_cell_at : Binds K dc ["_law_script", "_law_k"] []) (k_law_cell_at : PySem.W.keepIn K (.ref gc) = true) (m_law_cell_at : mg "_law_cell_at" = some (.ref gc))
    (G_law_mixed : FnOk P w K mg base CX0 n gm dm ["_law_script", "_law_k", "_law_salt"] (spMixed K)) (b_law_mixed : Binds K dm ["_law_script", "_law_k", "_law_salt"] []) (k_law_mixed : PySem.W.keepIn K (.ref gm) = true) (m_law_mixed : mg "_law_mixed" = some (.ref gm)) :
    FnOk P w K mg base CX0 (n + 1) f fd ["_law_script", "_law_k", "_law_salt", "_law_high", "_law_boxes_here", "_law_rooms_here"] (spGuardL K (m + 1)) := by
  refine F.ok sc_law_guard (fun vs H Q E h => ?_) (fun cdv A outer s H vs Q E hr h => ?_)
  · obtain ⟨a, ns, k, s, j, nb, nr, rfl, _⟩ := h
    rfl
  obtain ⟨a, ns, k, s, j, nb, nr, rfl, hS, h63, hk, hj, hj9, hs, hr1, q⟩ := h
  refine ⟨_, (pss_cons (ps_set (i := 6) sc_law_guard.nd rfl (Or.inl rfl) (pe_call G_law_mixed hr rfl m_law_mixed k_law_mixed b_law_mixed .nil pass0 (pa_cons (pv 0) (pa_cons (pv 1) (pa_cons (pv 2) pa_nil)))))
    (pss_cons (ps_set (i := 7) sc_law_guard.nd rfl (Or.inl rfl) (pe_op op_mod (pv 6) pe_int))
    (pss_cons (ps_if (pt_cut (PW.pt (pw_and (pt_cmpR op_gt (pv 3) pe_int (nomark _)) (pw_and1 (pt_cmpR op_lt (pv 7) pe_int (nomark _))))))
      (pss_cons (ps_set (i := 8) sc_law_guard.nd rfl (Or.inl rfl) (pe_call G_law_guard hr rfl m_law_guard k_law_guard b_law_guard .nil pass0 (pa_cons (pv 0) (pa_cons (pv 1) (pa_cons (pe_op op_add (pe_op op_mul pe_int (pv 2)) pe_int) (pa_cons (pe_op op_sub (pv 3) pe_int) (pa_cons (pv 4) (pa_cons (pv 5) pa_nil))))))))
      (pss_cons (ps_if (pt_cmpR op_eq (pv 7) pe_int (nomark _))
        (pss_one (ps_ret (pe_tup (pa_cons pe_str (pa_cons (pv 8) pa_nil)))))
        pss_nil)
      (pss_one (ps_ret (pe_tup (pa_cons (pe_ix ix_list (pe_lst (pa_cons pe_str (pa_cons pe_str pa_nil))) (pe_op op_mod (pv 7) pe_int) (fun _ _ => rfl)) (pa_cons (pv 8) (pa_cons (pe_call G_law_guard hr rfl m_law_guard k_law_guard b_law_guard .nil pass0 (pa_cons (pv 0) (pa_cons (pv 1) (pa_cons (pe_op op_add (pe_op op_mul pe_int (pv 2)) pe_int) (pa_cons (pe_op op_sub (pv 3) pe_int) (pa_cons (pv 4) (pa_cons (pv 5) pa_nil))))))) pa_nil))))))))
      pss_nil)
    (pss_cons (ps_if (pt_cmpR op_eq (pv 7) pe_int (nomark _))
      (pss_one (ps_ret (pe_tup (pa_cons pe_str (pa_cons (pe_op op_mod (pe_op op_fdiv (pv 6) pe_int) (pv 5)) pa_nil)))))
      pss_nil)
    (pss_cons (ps_if (pt_cut (PW.pt (pw_or (pt_cmpR op_eq (pv 7) pe_int (nomark _)) (pw_or1 (pt_cmpR op_eq (pv 4) pe_int (nomark _))))))
      (pss_one (ps_ret (pe_tup (pa_cons pe_str pa_nil))))
      pss_nil)
    (pss_cons (ps_set (i := 9) sc_law_guard.nd rfl (Or.inl rfl) (pe_op op_sub (pe_op op_mod (pe_op op_add (pe_call G_law_cell_at hr rfl m_law_cell_at k_law_cell_at b_law_cell_at .nil pass0 (pa_cons (pv 0) (pa_cons (pv 1) pa_nil))) (pv 6)) (pe_op op_add (pe_op op_mul pe_int (pe_op op_pow pe_int pe_int)) pe_int)) (pe_op op_pow pe_int pe_int)))
    (pss_cons (ps_set (i := 10) sc_law_guard.nd rfl (Or.inl rfl) (pe_ix ix_list (pe_lst (pa_cons (pe_op op_sub (pe_op op_mod (pe_op op_fdiv (pv 6) pe_int) pe_int) pe_int) (pa_cons (pe_op op_pow pe_int pe_int) (pa_cons (pe_un un_neg (pe_op op_pow pe_int pe_int)) (pa_cons (pv 9) pa_nil))))) (pe_op op_mod (pe_op op_fdiv (pv 6) pe_int) pe_int) (fun _ _ => rfl)))
    (pss_one (ps_ret (pe_tup (pa_cons (pe_ix ix_list (pe_lst (pa_cons pe_str (pa_cons pe_str pa_nil))) (pe_op op_mod (pv 7) pe_int) (fun _ _ => rfl)) (pa_cons (pe_op op_mod (pe_op op_fdiv (pv 6) pe_int) (pv 4)) (pa_cons (pv 10) pa_nil))))))))))))), ?_⟩
  have hk1 : s + 2 ≤ 2 ^ 9 := Nat.le_trans hs (Nat.pow_le_pow_right (by decide) (by omega))
  have p9 : (2 : Nat) ^ 9 = 512 := by decide
  have w1 : 1 ≤ 2 ^ j := Nat.one_le_two_pow
  refine ⟨_, rfl, _, rfl, _, rfl, a, ns, k, (s : Int), rfl, hS, h63, hk, ⟨by omega, by omega⟩, fun y y0 y1 => ?_⟩
  refine ⟨_, rfl, _, _, rfl, rfl, (by show (0 : Int) < 8; decide), ?_⟩
  refine ⟨fun c H' => H' = H ∧ (c = true → 1 ≤ j), ?_, ?_⟩
  · refine ⟨_, rfl, _, _, rfl, rfl, _, rfl, ?_⟩
    refine itB (fun c => ?_) (fun c => ⟨rfl, fun h => by cases h⟩)
    have c' : (1 : Int) < (j : Int) + 1 := of_decide_eq_true c
    exact ⟨_, rfl, _, _, rfl, rfl, _, rfl, rfl, fun h => by omega⟩
  rintro c H1 ⟨rfl, hc⟩
  refine itB (fun c => ?_) (fun c => ?_)
  · have j1 := hc c
    obtain ⟨i, rfl⟩ : ∃ i, j = i + 1 := ⟨j - 1, by omega⟩
    have ep : 2 ^ (9 - i) = 2 * 2 ^ (9 - (i + 1)) := by
      rw [show 9 - i = (9 - (i + 1)) + 1 by omega, Nat.pow_succ]
      omega
    have ew : 2 ^ (i + 1) = 2 * 2 ^ i := by
      rw [Nat.pow_succ]
      omega
    have w2 : 1 ≤ 2 ^ i := Nat.one_le_two_pow
    have ek1 : 2 * (s : Int) + 1 = ((2 * s + 1 : Nat) : Int) := by omega
    have ek2 : 2 * (s : Int) + 2 = ((2 * s + 2 : Nat) : Int) := by omega
    have ei : ((i + 1 : Nat) : Int) + 1 - 1 = (i : Int) + 1 := by omega
    refine ⟨_, rfl, _, rfl, _, rfl, _, _, rfl, rfl, mulIn (by decide) (by decide), _, _, rfl, rfl, _, rfl, _, _, rfl, rfl, _, rfl, _, rfl, a, ns, k, 2 * s + 1, i, nb, nr, (by show [V.ref a, V.int k, V.int (2 * (s : Int) + 1), V.int (((i + 1 : Nat) : Int) + 1 - 1), V.int (nb : Int), V.int (nr : Int)] = _; rw [ek1, ei]), hS, h63, hk, by omega, by omega, by omega, hr1, fun v g H2 s2 gd f1 h1 t1 => ?_⟩
    refine ⟨_, rfl, rfl, _, rfl, ?_⟩
    refine ite2 (fun _ => ?_) (fun _ => ?_)
    · refine ⟨_, rfl, small_le (by show 2 ≤ 1000; decide), fun t ht => ?_⟩
      exact q (.ref t) (.neg g) _ (s2.trans (same_new ht _)) (.neg upd_same (gd.mono (KeepT.new ht _))) f1 (by show g.ht + 1 ≤ _; omega) (by show wt g + 4 + 8 ≤ _; omega)
    · refine ⟨small_le (by show 2 ≤ 1000; decide), fun p hp => ?_⟩
      have s3 := s2.trans (same_new hp (.lst [.str "both", .str "either"]))
      obtain ⟨kd, hkd, hat⟩ : ∃ kd : Str, (kd = "both" ∨ kd = "either") ∧ atI [V.str "both", V.str "either"] (y % 8 % 2) = some (.str kd) := by
        rcases (show y % 8 % 2 = 0 ∨ y % 8 % 2 = 1 by omega) with e | e <;> rw [e]
        · exact ⟨"both", .inl rfl, rfl⟩
        · exact ⟨"either", .inr rfl, rfl⟩
      refine ⟨_, rfl, _, _, rfl, rfl, (by show (0 : Int) < 2; decide), p, _, _, _, rfl, rfl, SqL.of upd_same, hat, _, rfl, _, rfl, _, rfl, _, rfl, _, _, rfl, rfl, mulIn (by decide) (by decide), _, _, rfl, rfl, _, rfl, _, _, rfl, rfl, _, rfl, _, rfl, a, ns, k, 2 * s + 2, i, nb, nr, (by show [V.ref a, V.int k, V.int (2 * (s : Int) + 2), V.int (((i + 1 : Nat) : Int) + 1 - 1), V.int (nb : Int), V.int (nr : Int)] = _; rw [ek2, ei]), s3.seq hS, h63, hk, by omega, by omega, by omega, hr1, fun v2 g2 H4 s4 gd2 f2 h2 t2 => ⟨small_le (by show 3 ≤ 1000; decide), fun t ht => ?_⟩⟩
      have s5 := s4.trans (same_new ht (.tup [.str kd, v, v2]))
      have gA := gd.mono (KeepT.of ((same_new hp (.lst [.str "both", .str "either"])).trans s5))
      have gB := gd2.mono (KeepT.new ht (.tup [.str kd, v, v2]))
      rcases hkd with e | e
      · subst e
        exact q (.ref t) (.both g g2) _ (s3.trans s5) (.both upd_same gA gB) ⟨f1, f2⟩ (by show 1 + max g.ht g2.ht ≤ _; omega) (by show wt g + wt g2 + 8 + 8 ≤ _; omega)
      · subst e
        exact q (.ref t) (.either g g2) _ (s3.trans s5) (.either upd_same gA gB) ⟨f1, f2⟩ (by show 1 + max g.ht g2.ht ≤ _; omega) (by show wt g + wt g2 + 8 + 8 ≤ _; omega)
  refine ⟨_, rfl, rfl, _, rfl, ?_⟩
  refine ite2 (fun _ => ?_) (fun _ => ?_)
  · have h1 := Int.emod_nonneg (y / 8) (show (nr : Int) ≠ 0 by omega)
    have h2 := Int.emod_lt_of_pos (y / 8) (show 0 < (nr : Int) by omega)
    exact ⟨_, rfl, _, _, rfl, rfl, ⟨by decide, by decide⟩, _, rfl, _, _, rfl, rfl, (by show (0 : Int) < (nr : Int); omega), small_le (by show 2 ≤ 1000; decide), fun t ht => q (.ref t) (.inn (y / 8 % (nr : Int))) _ (same_new ht _) (.inn upd_same) ⟨h1, h2⟩ (by show 1 ≤ _; omega) (by show 56 + 8 ≤ _; omega)⟩
  refine ⟨fun c H' => H' = H1 ∧ (c = false → 1 ≤ nb), ?_, ?_⟩
  · refine ⟨_, rfl, rfl, _, rfl, ?_⟩
    refine itB (fun c => ⟨rfl, fun h => by cases h⟩) (fun c => ?_)
    refine ⟨_, rfl, rfl, _, rfl, rfl, fun h => ?_⟩
    have h' : ¬ V.int (nb : Int) = V.int 0 := of_decide_eq_false h
    by_cases e : nb = 0
    · subst e
      exact absurd rfl h'
    · omega
  rintro c H2 ⟨rfl, hc2⟩
  refine itB (fun c => ?_) (fun c => ?_)
  · exact ⟨small_le (by show 1 ≤ 1000; decide), fun t ht => q (.ref t) .yes _ (same_new ht _) (.yes upd_same) trivial (by show 1 ≤ _; omega) (by show 56 + 8 ≤ _; omega)⟩
  have b1 := hc2 c
  refine ⟨_, rfl, _, rfl, a, ns, k, rfl, hS, h63, fun ce => ?_⟩
  have hw0 := Int.emod_nonneg (ce + y) (show (2 * 10 ^ (30 : Int).toNat + 1 : Int) ≠ 0 by decide)
  have hw1 := Int.emod_lt_of_pos (ce + y) (show (0 : Int) < 2 * 10 ^ (30 : Int).toNat + 1 by decide)
  have e30 : (10 ^ (30 : Int).toNat : Int) = 10 ^ 30 := rfl
  have eb : big = 10 ^ 30 := by decide
  obtain ⟨v, hv, hat⟩ : ∃ v : Int, (-10 ^ 30 ≤ v ∧ v ≤ 10 ^ 30) ∧ atI [V.int (y / 8 % 25 - 12), V.int (10 ^ (30 : Int).toNat), V.int (-10 ^ (30 : Int).toNat), V.int ((ce + y) % (2 * 10 ^ (30 : Int).toNat + 1) - 10 ^ (30 : Int).toNat)] (y / 200 % 4) = some (.int v) := by
    rcases (show y / 200 % 4 = 0 ∨ y / 200 % 4 = 1 ∨ y / 200 % 4 = 2 ∨ y / 200 % 4 = 3 by omega) with e | e | e | e <;> rw [e]
    · exact ⟨_, ⟨by omega, by omega⟩, rfl⟩
    · exact ⟨10 ^ (30 : Int).toNat, ⟨by decide, by decide⟩, rfl⟩
    · exact ⟨-10 ^ (30 : Int).toNat, ⟨by decide, by decide⟩, rfl⟩
    · exact ⟨_, ⟨by omega, by omega⟩, rfl⟩
  refine ⟨_, rfl, _, _, rfl, rfl, _, _, rfl, rfl, ⟨by decide, by decide, by decide⟩, _, _, rfl, rfl, mulIn (by decide) (by decide), _, _, rfl, rfl, _, _, rfl, rfl, (by show (0 : Int) < 2 * 10 ^ (30 : Int).toNat + 1; decide), _, _, rfl, rfl, ⟨by decide, by decide, by decide⟩, _, _, rfl, rfl, ?_⟩
  refine ⟨_, rfl, _, _, rfl, rfl, ⟨by decide, by decide⟩, _, _, rfl, rfl, (by show (0 : Int) < 25; decide), _, _, rfl, rfl, _, _, rfl, rfl, ⟨by decide, by decide, by decide⟩, _, _, rfl, rfl, ⟨by decide, by decide, by decide⟩, _, rfl, _, rfl, small_le (by show 4 ≤ 1000; decide), fun p hp => ⟨_, rfl, _, _, rfl, rfl, ⟨by decide, by decide⟩, _, _, rfl, rfl, (by show (0 : Int) < 4; decide), p, _, _, _, rfl, rfl, SqL.of upd_same, hat, ?_⟩⟩
  have s3 := same_new hp (.lst [V.int (y / 8 % 25 - 12), V.int (10 ^ (30 : Int).toNat), V.int (-10 ^ (30 : Int).toNat), V.int ((ce + y) % (2 * 10 ^ (30 : Int).toNat + 1) - 10 ^ (30 : Int).toNat)])
  obtain ⟨kd, hkd, hat2⟩ : ∃ kd : Str, (kd = "is" ∨ kd = "under") ∧ atI [V.str "is", V.str "under"] (y % 8 % 2) = some (.str kd) := by
    rcases (show y % 8 % 2 = 0 ∨ y % 8 % 2 = 1 by omega) with e | e <;> rw [e]
    · exact ⟨"is", .inl rfl, rfl⟩
    · exact ⟨"under", .inr rfl, rfl⟩
  have h1 := Int.emod_nonneg (y / 8) (show (nb : Int) ≠ 0 by omega)
  have h2 := Int.emod_lt_of_pos (y / 8) (show 0 < (nb : Int) by omega)
  refine ⟨small_le (by show 2 ≤ 1000; decide), fun p2 hp2 => ⟨_, rfl, _, _, rfl, rfl, (by show (0 : Int) < 2; decide), p2, _, _, _, rfl, rfl, SqL.of upd_same, hat2, _, rfl, _, _, rfl, rfl, ⟨by decide, by decide⟩, _, rfl, _, _, rfl, rfl, (by show (0 : Int) < (nb : Int); omega), _, rfl, small_le (by show 3 ≤ 1000; decide), fun t ht => ?_⟩⟩
  have s5 := (s3.trans (same_new hp2 (.lst [.str "is", .str "under"]))).trans (same_new ht (.tup [.str kd, .int (y / 8 % (nb : Int)), .int v]))
  rcases hkd with e | e
  · subst e
    exact q (.ref t) (.is (y / 8 % (nb : Int)) v) _ s5 (.is upd_same) ⟨⟨h1, h2⟩, by rw [eb]; exact hv.1, by rw [eb]; exact hv.2⟩ (by show 1 ≤ _; omega) (by show 56 + 8 ≤ _; omega)
  · subst e
    exact q (.ref t) (.under (y / 8 % (nb : Int)) v) _ s5 (.under upd_same) ⟨⟨h1, h2⟩, by rw [eb]; exact hv.1, by rw [eb]; exact hv.2⟩ (by show 1 ≤ _; omega) (by show 56 + 8 ≤ _; omega)
theorem none_lguard {n : Nat} {f : Addr} {fd : FuncData} : FnOk P w K mg base CX0 n f fd ["_law_script", "_law_k", "_law_salt", "_law_high", "_law_boxes_here", "_law_rooms_here"] (spGuardL K 0) := by
  have no : ∀ vs H Q E, ¬ spGuardL K 0 vs H Q E := fun vs H Q E h => by
    obtain ⟨a, ns, k, s, j, nb, nr, _, _, _, _, hj, _⟩ := h
    omega
  exact ⟨fun vs H Q E h => absurd h (no vs H Q E), fun A outer s H args us vs Q E _ _ _ _ h => absurd h (no vs H Q E)⟩
theorem all_lguard {f gc gm : Addr} {fd dc dm : FuncData} (F : Fun K "_law_guard" "_law_guard" s_L_guard f fd) (b_law_guard : Binds K fd ["_law_script", "_law_k", "_law_salt", "_law_high", "_law_boxes_here", "_law_rooms_here"] []) (m_law_guard : mg "_law_guard" = some (.ref f))
    (G_law_cell_at : FnOk P w K mg base CX0 2 gc dc ["_law_script", "_law_k"] (spCell K)) (b_law_cell_at : Binds K dc ["_law_script", "_law_k"] []) (k_law_cell_at : PySem.W.keepIn K (.ref gc) = true) (m_law_cell_at : mg "_law_cell_at" = some (.ref gc))
    (G_law_mixed : FnOk P w K mg base CX0 2 gm dm ["_law_script", "_law_k", "_law_salt"] (spMixed K)) (b_law_mixed : Binds K dm ["_law_script", "_law_k", "_law_salt"] []) (k_law_mixed : PySem.W.keepIn K (.ref gm) = true) (m_law_mixed : mg "_law_mixed" = some (.ref gm)) :
    ∀ m : Nat, FnOk P w K mg base CX0 (m + 2) f fd ["_law_script", "_law_k", "_law_salt", "_law_high", "_law_boxes_here", "_law_rooms_here"] (spGuardL K m)
  | 0 => none_lguard
  | m + 1 => ok_lguard F (all_lguard F b_law_guard m_law_guard G_law_cell_at b_law_cell_at k_law_cell_at m_law_cell_at G_law_mixed b_law_mixed k_law_mixed m_law_mixed m) b_law_guard F.kp m_law_guard (G_law_cell_at.mono (by omega)) b_law_cell_at k_law_cell_at m_law_cell_at (G_law_mixed.mono (by omega)) b_law_mixed k_law_mixed m_law_mixed
theorem sc_law_boxes : FnScope ["_law_script", "_law_many", "_law_names_here", "_law_boxes_here", "_law_k", "_law_number", "_law_size"] ["_law_script", "_law_many"] (defScope s_L_boxes) := ⟨rfl, rfl, rfl, by decide +kernel, rfl, by decide +kernel, by decide +kernel⟩
theorem ok_lboxes {n : Nat} {f gc gm gn : Addr} {fd dc dm dn : FuncData} (F : Fun K "_law_boxes" "_law_boxes" s_L_boxes f fd)
    (G_law_cell_at : FnOk P w K mg base CX0 n gc dc ["_law_script", "_law_k"] (spCell K)) (b_law_cell_at : Binds K dc ["_law_script", "_law_k"] []) (k_law_cell_at : PySem.W.keepIn K (.ref gc) = true) (m_law_cell_at : mg "_law_cell_at" = some (.ref gc))
    (G_law_mixed : FnOk P w K mg base CX0 n gm dm ["_law_script", "_law_k", "_law_salt"] (spMixed K)) (b_law_mixed : Binds K dm ["_law_script", "_law_k", "_law_salt"] []) (k_law_mixed : PySem.W.keepIn K (.ref gm) = true) (m_law_mixed : mg "_law_mixed" = some (.ref gm))
    (G_law_names : FnOk P w K mg base CX0 n gn dn ["_law_script", "_law_many", "_law_salt"] (spLNames K)) (b_law_names : Binds K dn ["_law_script", "_law_many", "_law_salt"] []) (k_law_names : PySem.W.keepIn K (.ref gn) = true) (m_law_names : mg "_law_names" = some (.ref gn)) (m_range : mg "range" = none) (m_tuple : mg "tuple" = none) :
    FnOk P w K mg base CX0 (n + 1) f fd ["_law_script", "_law_many"] (spBoxesL K) := by
  refine F.ok sc_law_boxes (fun vs H Q E h => ?_) (fun cdv A outer s H vs Q E hr h => ?_)
  · obtain ⟨a, ns, m, rfl, _⟩ := h
    rfl
  obtain ⟨a, ns, m, rfl, hS, h63, hm, q⟩ := h
  refine ⟨_, (pss_cons (ps_set (i := 2) sc_law_boxes.nd rfl (Or.inl rfl) (pe_call G_law_names hr rfl m_law_names k_law_names b_law_names .nil pass0 (pa_cons (pv 0) (pa_cons (pv 1) (pa_cons pe_int pa_nil)))))
    (pss_cons (ps_set (i := 3) sc_law_boxes.nd rfl (Or.inl rfl) (pe_lst pa_nil))
    (pss_cut (ps_for PassesOwn.never rfl (pi_range1 rfl m_range (pa_cons (pv 1) pa_nil)) (pg_name (i := 4) sc_law_boxes.nd rfl (Or.inl rfl))
      (pss_cons (ps_set (i := 5) sc_law_boxes.nd rfl (Or.inl rfl) (pe_call G_law_mixed hr rfl m_law_mixed k_law_mixed b_law_mixed .nil pass0 (pa_cons (pv 0) (pa_cons (pv 4) (pa_cons pe_int pa_nil)))))
      (pss_cons (ps_set (i := 6) sc_law_boxes.nd rfl (Or.inl rfl) (pe_ix ix_list (pe_lst (pa_cons pe_int (pa_cons pe_int (pa_cons (pe_op op_pow pe_int pe_int) (pa_cons (pe_op op_add pe_int (pe_op op_mod (pe_op op_add (pe_call G_law_cell_at hr rfl m_law_cell_at k_law_cell_at b_law_cell_at .nil pass0 (pa_cons (pv 0) (pa_cons (pv 4) pa_nil))) (pe_op op_mul pe_int (pv 4))) (pe_op op_pow pe_int pe_int))) pa_nil))))) (pe_op op_mod (pv 5) pe_int) (fun _ _ => rfl)))
      (pss_one (ps_expr (pe_bm PySem.F.plainAttrs_list PySem.F.slot_list_append PySem.F.type_list_append mt_append (pv 3) (pa_cons (pe_tup (pa_cons (pe_ix ix_tup (pv 2) (pv 4) (fun _ _ => rfl)) (pa_cons (pv 6) (pa_cons (pe_ix ix_list (pe_lst (pa_cons pe_int (pa_cons (pe_op op_sub (pv 6) pe_int) (pa_cons (pe_op op_mod (pe_op op_add (pe_call G_law_cell_at hr rfl m_law_cell_at k_law_cell_at b_law_cell_at .nil pass0 (pa_cons (pv 0) (pa_cons (pv 4) pa_nil))) (pv 5)) (pv 6)) pa_nil)))) (pe_op op_mod (pe_op op_fdiv (pv 5) pe_int) pe_int) (fun _ _ => rfl)) pa_nil)))) pa_nil)))))))
    (pss_one (ps_ret (pe_callTy call_tuple_of rfl m_tuple PyProof.Rows.boot_tuple (pa_cons (pv 3) pa_nil))))))), ?_⟩
  refine ⟨_, rfl, _, rfl, a, ns, m, 41, rfl, hS, h63, by omega, ⟨by decide, by decide⟩, fun tn x H1 s1 htn => ?_⟩
  refine ⟨Nat.zero_le _, fun pl hpl => ?_⟩
  refine ⟨fun σ' H' => Same H1 H' ∧ ∃ (bv : List V) (bs : List Bx) (o4 o5 o6 : Option V), H' pl = some (.lst bv) ∧ BxsIn H' bv bs ∧ bs.map (·.nm) = (List.range m).map (nameAt x) ∧ (∀ b ∈ bs, 1 ≤ b.size ∧ b.size ≤ 10 ^ 30 ∧ 0 ≤ b.start ∧ b.start < b.size) ∧ σ' = [some (.ref a), some (.int (m : Int)), some (.ref tn), some (.ref pl), o4, o5, o6], ?_, ?_⟩
  · refine ⟨_, rfl, (m : Int), rfl, by omega, by omega, ?_⟩
    refine for_range (fun i σ' H' => Same H1 H' ∧ ∃ (bv : List V) (bs : List Bx) (o4 o5 o6 : Option V), H' pl = some (.lst bv) ∧ BxsIn H' bv bs ∧ bs.map (·.nm) = (List.range i).map (nameAt x) ∧ (∀ b ∈ bs, 1 ≤ b.size ∧ b.size ≤ 10 ^ 30 ∧ 0 ≤ b.start ∧ b.start < b.size) ∧ σ' = [some (.ref a), some (.int (m : Int)), some (.ref tn), some (.ref pl), o4, o5, o6]) ⟨same_new hpl _, [], [], none, none, none, upd_same, .nil, rfl, (fun b hb => by cases hb), rfl⟩ ?_ ?_
    · rintro i σ' H2 hi ⟨s2, bv, bs, o4, o5, o6, hp2, hbs, hnm, hsz, rfl⟩
      have hi' : i < m := hi
      have sS := (s1.trans s2).seq hS
      have lbs : bs.length = i := by
        have := congrArg List.length hnm
        rw [List.length_map, List.length_map, List.length_range] at this
        exact this
      have lbv := hbs.length
      refine ⟨_, rfl, _, rfl, a, ns, 0 + (i : Int), 42, rfl, sS, h63, ⟨by omega, by omega⟩, ⟨by decide, by decide⟩, fun y y0 y1 => ?_⟩
      have e30 : (10 ^ (30 : Int).toNat : Int) = 10 ^ 30 := rfl
      refine ⟨_, _, rfl, rfl, ⟨by decide, by decide, by decide⟩, _, rfl, _, rfl, a, ns, 0 + (i : Int), rfl, sS, h63, fun ce => ⟨_, rfl, _, _, rfl, rfl, mulIn (by decide) (by decide), _, _, rfl, rfl, _, _, rfl, rfl, ⟨by decide, by decide, by decide⟩, _, _, rfl, rfl, (by show (0 : Int) < 10 ^ (30 : Int).toNat; decide), _, _, rfl, rfl, small_le (by show 4 ≤ 1000; decide), fun p3 hp3 => ?_⟩⟩
      have w0 := Int.emod_nonneg (ce + 17 * (0 + (i : Int))) (show (10 ^ (30 : Int).toNat : Int) ≠ 0 by decide)
      have w1 := Int.emod_lt_of_pos (ce + 17 * (0 + (i : Int))) (show (0 : Int) < 10 ^ (30 : Int).toNat by decide)
      obtain ⟨sz, hz, hat⟩ : ∃ sz : Int, (1 ≤ sz ∧ sz ≤ 10 ^ 30) ∧ atI [V.int 1, V.int 2, V.int (10 ^ (30 : Int).toNat), V.int (1 + (ce + 17 * (0 + (i : Int))) % 10 ^ (30 : Int).toNat)] (y % 4) = some (.int sz) := by
        rcases (show y % 4 = 0 ∨ y % 4 = 1 ∨ y % 4 = 2 ∨ y % 4 = 3 by omega) with e | e | e | e <;> rw [e]
        · exact ⟨1, ⟨by decide, by decide⟩, rfl⟩
        · exact ⟨2, ⟨by decide, by decide⟩, rfl⟩
        · exact ⟨10 ^ (30 : Int).toNat, ⟨by decide, by decide⟩, rfl⟩
        · exact ⟨_, ⟨by omega, by omega⟩, rfl⟩
      refine ⟨_, rfl, _, _, rfl, rfl, (by show (0 : Int) < 4; decide), p3, _, _, _, rfl, rfl, SqL.of upd_same, hat, ?_⟩
      have s3 := same_new hp3 (.lst [V.int 1, V.int 2, V.int (10 ^ (30 : Int).toNat), V.int (1 + (ce + 17 * (0 + (i : Int))) % 10 ^ (30 : Int).toNat)])
      have s23 := s2.trans s3
      have hp23 := s3 _ _ hp2
      have hatn : atI (((List.range m).map (nameAt x)).map V.str) (0 + (i : Int)) = some (.str (nameAt x i)) := by
        rw [Int.zero_add]
        exact atI_nat (by rw [List.getElem?_map, List.getElem?_map, List.getElem?_range hi']; rfl)
      refine ⟨_, rfl, .inl ⟨rfl, _, SqL.of hp23⟩, _, rfl, _, rfl, tn, _, _, _, rfl, rfl, SqT.of (s23 _ _ htn), hatn, _, rfl, _, rfl, _, _, rfl, rfl, _, rfl, _, rfl, a, ns, 0 + (i : Int), rfl, (s1.trans s23).seq hS, h63, fun ce2 => ⟨_, rfl, _, _, rfl, rfl, _, rfl, _, _, rfl, rfl, (by show (0 : Int) < sz; omega), small_le (by show 3 ≤ 1000; decide), fun p4 hp4 => ?_⟩⟩
      have v0 := Int.emod_nonneg (ce2 + y) (show sz ≠ 0 by omega)
      have v1 := Int.emod_lt_of_pos (ce2 + y) (show 0 < sz by omega)
      obtain ⟨v, hv, hat2⟩ : ∃ v : Int, (0 ≤ v ∧ v < sz) ∧ atI [V.int 0, V.int (sz - 1), V.int ((ce2 + y) % sz)] (y / 4 % 3) = some (.int v) := by
        rcases (show y / 4 % 3 = 0 ∨ y / 4 % 3 = 1 ∨ y / 4 % 3 = 2 by omega) with e | e | e <;> rw [e]
        · exact ⟨0, ⟨by omega, by omega⟩, rfl⟩
        · exact ⟨sz - 1, ⟨by omega, by omega⟩, rfl⟩
        · exact ⟨_, ⟨v0, v1⟩, rfl⟩
      have s4 := same_new hp4 (.lst [V.int 0, V.int (sz - 1), V.int ((ce2 + y) % sz)])
      refine ⟨_, rfl, _, _, rfl, rfl, ⟨by decide, by decide⟩, _, _, rfl, rfl, (by show (0 : Int) < 3; decide), p4, _, _, _, rfl, rfl, SqL.of upd_same, hat2, small_le (by show 3 ≤ 1000; decide), fun t ht => ?_⟩
      have s5 := s4.trans (same_new ht (.tup [.str (nameAt x i), .int sz, .int v]))
      have hp5 := s5 _ _ hp23
      refine ⟨pl, _, _, rfl, rfl, hp5, small1000 (by omega), same_upd hpl (s23.trans s5) _, bv ++ [.ref t], bs ++ [⟨nameAt x i, sz, v⟩], _, _, _, upd_same, ?_, ?_, ?_, rfl⟩
      · exact (hbs.imp fun _ _ ⟨b, e, h⟩ => ⟨b, e, ((KeepT.of (s3.trans s5)).trans (KeepT.lst hp5 _)) _ _ h⟩).snoc ⟨t, rfl, KeepT.lst hp5 _ _ _ upd_same⟩
      · rw [List.map_append, hnm, List.range_succ, List.map_append]
        rfl
      · intro b hb
        rcases List.mem_append.mp hb with h | h
        · exact hsz b h
        · rw [List.mem_singleton.mp h]
          exact ⟨hz.1, hz.2, hv.1, hv.2⟩
    · rintro σ' H2 h
      exact h
  rintro σ' H2 ⟨s2, bv, bs, o4, o5, o6, hp2, hbs, hnm, hsz, rfl⟩
  exact ⟨_, rfl, pl, _, rfl, .inl ⟨SqL.of hp2, fun t ht => q t bv bs x _ ((s1.trans s2).trans (same_new ht _)) upd_same (BxsIn.mono hbs (KeepT.new ht _)) hnm hsz⟩⟩
end
end C43

namespace C43
open PySem L2 Mix Gds Dds Wds Cht Num Spl Txm Dig D42 G41
theorem wdL : ∀ z ∈ [("plain" : Str), "one", "all", "", "near", "deep", "to", "back", "stay", "inner", "outer"], z.length ≤ 12 ∧ 10 ∉ z.cps.toList := by decide +kernel
theorem wdl {z : Str} (h : z ∈ [("plain" : Str), "one", "all", "", "near", "deep", "to", "back", "stay", "inner", "outer"]) : Wd z := wdL z h
section
variable {P : Program} {w : World} {K : PySem.W.Frag} {mg : Str → Option Value} {base : Heap}
theorem sc_law_rooms : FnScope ["_law_script", "_law_many", "_law_boxes_here", "_law_events", "_law_names_here", "_law_depths", "_law_k", "_law_number", "_law_rooms_here", "_law_kind", "_law_keeps", "_law_lamp", "_law_ins", "_law_outs"] ["_law_script", "_law_many", "_law_boxes_here", "_law_events"] (defScope sRooms) := ⟨rfl, rfl, rfl, by decide +kernel, rfl, by decide +kernel, by decide +kernel⟩
theorem ok_lrooms {n : Nat} {f gm gn gw gd : Addr} {fd dm dn dw dd : FuncData} (F : Fun K "_law_rooms" "_law_rooms" sRooms f fd)
    (G_law_mixed : FnOk P w K mg base CX0 n gm dm ["_law_script", "_law_k", "_law_salt"] (spMixed K)) (b_law_mixed : Binds K dm ["_law_script", "_law_k", "_law_salt"] []) (k_law_mixed : PySem.W.keepIn K (.ref gm) = true) (m_law_mixed : mg "_law_mixed" = some (.ref gm))
    (G_law_names : FnOk P w K mg base CX0 n gn dn ["_law_script", "_law_many", "_law_salt"] (spLNames K)) (b_law_names : Binds K dn ["_law_script", "_law_many", "_law_salt"] []) (k_law_names : PySem.W.keepIn K (.ref gn) = true) (m_law_names : mg "_law_names" = some (.ref gn))
    (G_law_word : FnOk P w K mg base CX0 n gw dw ["_law_number"] spWordL) (b_law_word : Binds K dw ["_law_number"] []) (k_law_word : PySem.W.keepIn K (.ref gw) = true) (m_law_word : mg "_law_word" = some (.ref gw))
    (G_law_deeds : FnOk P w K mg base CX0 n gd dd ["_law_script", "_law_k", "_law_salt", "_law_boxes_here", "_law_events"] (spDeedsL K)) (b_law_deeds : Binds K dd ["_law_script", "_law_k", "_law_salt", "_law_boxes_here", "_law_events"] []) (k_law_deeds : PySem.W.keepIn K (.ref gd) = true) (m_law_deeds : mg "_law_deeds" = some (.ref gd)) (m_range : mg "range" = none) (m_tuple : mg "tuple" = none) (m_min : mg "min" = none) :
    FnOk P w K mg base CX0 (n + 1) f fd ["_law_script", "_law_many", "_law_boxes_here", "_law_events"] (spRoomsL K) := by
  refine F.ok sc_law_rooms (fun vs H Q E h => ?_) (fun cdv A outer s H vs Q E hr h => ?_)
  · obtain ⟨a, tb, ns, m, bv, bs, es, rfl, _⟩ := h
    rfl
  obtain ⟨a, tb, ns, m, bv, bs, es, rfl, hS, h63, hm1, hm, htb, hbs, B, q⟩ := h
  refine ⟨_, (pss_cons (ps_set (i := 4) sc_law_rooms.nd rfl (Or.inl rfl) (pe_call G_law_names hr rfl m_law_names k_law_names b_law_names .nil pass0 (pa_cons (pv 0) (pa_cons (pv 1) (pa_cons pe_int pa_nil)))))
    (pss_cons (ps_set (i := 5) sc_law_rooms.nd rfl (Or.inl rfl) (pe_lst (pa_cons pe_int pa_nil)))
    (pss_cut (ps_for PassesOwn.never rfl (pi_range2 rfl m_range (pa_cons pe_int (pa_cons (pv 1) pa_nil))) (pg_name (i := 6) sc_law_rooms.nd rfl (Or.inl rfl))
      (pss_cons (ps_set (i := 7) sc_law_rooms.nd rfl (Or.inl rfl) (pe_call G_law_mixed hr rfl m_law_mixed k_law_mixed b_law_mixed .nil pass0 (pa_cons (pv 0) (pa_cons (pe_op op_add pe_int (pv 6)) (pa_cons pe_int pa_nil)))))
      (pss_cons (ps_expr (pe_bm PySem.F.plainAttrs_list PySem.F.slot_list_append PySem.F.type_list_append mt_append (pv 5) (pa_cons (pe_op op_add pe_int (pe_op op_mod (pv 7) (pe_op op_add (pe_callB (call_min2 rfl) rfl m_min PyProof.Rows.boot_min (pa_cons (pe_ix ix_list (pv 5) (pe_op op_sub (pv 6) pe_int) (fun _ _ => rfl)) (pa_cons pe_int pa_nil))) pe_int))) pa_nil)))
      (pss_one (ps_if (pt_cmpR op_eq (pe_op op_mod (pe_op op_fdiv (pv 7) pe_int) pe_int) pe_int (nomark _))
        (pss_one (ps_asg (pe_op op_add pe_int (pe_callB (call_min2 rfl) rfl m_min PyProof.Rows.boot_min (pa_cons (pe_ix ix_list (pv 5) (pe_op op_sub (pv 6) pe_int) (fun _ _ => rfl)) (pa_cons pe_int pa_nil)))) (pg_sub (pv 5) (pv 6) set_list)))
        pss_nil)))))
    (pss_cons (ps_set (i := 8) sc_law_rooms.nd rfl (Or.inl rfl) (pe_lst pa_nil))
    (pss_cut (ps_for PassesOwn.never rfl (pi_range1 rfl m_range (pa_cons (pv 1) pa_nil)) (pg_name (i := 6) sc_law_rooms.nd rfl (Or.inl rfl))
      (pss_cons (ps_set (i := 7) sc_law_rooms.nd rfl (Or.inl rfl) (pe_call G_law_mixed hr rfl m_law_mixed k_law_mixed b_law_mixed .nil pass0 (pa_cons (pv 0) (pa_cons (pe_op op_add pe_int (pv 6)) (pa_cons pe_int pa_nil)))))
      (pss_cons (ps_set (i := 9) sc_law_rooms.nd rfl (Or.inl rfl) pe_str)
      (pss_cons (ps_set (i := 10) sc_law_rooms.nd rfl (Or.inl rfl) pe_str)
      (pss_cut (ps_if (pt_cut (PW.pt (pw_and (pt_cmpR op_lt (pe_op op_add (pv 6) pe_int) (pv 1) (nomark _)) (pw_and1 (pt_cmpR op_gt (pe_ix ix_list (pv 5) (pe_op op_add (pv 6) pe_int) (fun _ _ => rfl)) (pe_ix ix_list (pv 5) (pv 6) (fun _ _ => rfl)) (nomark _))))))
        (pss_cons (ps_set (i := 9) sc_law_rooms.nd rfl (Or.inl rfl) (pe_ix ix_list (pe_lst (pa_cons pe_str (pa_cons pe_str (pa_cons pe_str pa_nil)))) (pe_op op_mod (pv 7) pe_int) (fun _ _ => rfl)))
        (pss_one (ps_set (i := 10) sc_law_rooms.nd rfl (Or.inl rfl) (pe_ix ix_list (pe_lst (pa_cons pe_str (pa_cons pe_str (pa_cons pe_str pa_nil)))) (pe_op op_mod (pe_op op_fdiv (pv 7) pe_int) pe_int) (fun _ _ => rfl)))))
        pss_nil)
      (pss_cut (ps_if (pt_cut (PW.pt (pw_and (pt_cmpR op_eq (pv 9) pe_str (nomark _)) (pw_and1 (pt_cmpR op_eq (pv 10) pe_str (nomark _))))))
        (pss_one (ps_set (i := 10) sc_law_rooms.nd rfl (Or.inl rfl) pe_str))
        pss_nil)
      (pss_cons (ps_set (i := 11) sc_law_rooms.nd rfl (Or.inl rfl) pe_str)
      (pss_cut (ps_if (pt_cmpR op_eq (pe_op op_mod (pe_op op_fdiv (pv 7) pe_int) pe_int) pe_int (nomark _))
        (pss_one (ps_set (i := 11) sc_law_rooms.nd rfl (Or.inl rfl) (pe_call G_law_word hr rfl m_law_word k_law_word b_law_word .nil pass0 (pa_cons (pe_op op_fdiv (pv 7) pe_int) pa_nil))))
        pss_nil)
      (pss_cons (ps_set (i := 12) sc_law_rooms.nd rfl (Or.inl rfl) (pe_call G_law_deeds hr rfl m_law_deeds k_law_deeds b_law_deeds .nil pass0 (pa_cons (pv 0) (pa_cons (pe_op op_add pe_int (pv 6)) (pa_cons pe_int (pa_cons (pv 2) (pa_cons (pv 3) pa_nil)))))))
      (pss_cons (ps_set (i := 13) sc_law_rooms.nd rfl (Or.inl rfl) (pe_call G_law_deeds hr rfl m_law_deeds k_law_deeds b_law_deeds .nil pass0 (pa_cons (pv 0) (pa_cons (pe_op op_add pe_int (pv 6)) (pa_cons pe_int (pa_cons (pv 2) (pa_cons (pv 3) pa_nil)))))))
      (pss_one (ps_expr (pe_bm PySem.F.plainAttrs_list PySem.F.slot_list_append PySem.F.type_list_append mt_append (pv 8) (pa_cons (pe_tup (pa_cons (pe_ix ix_tup (pv 4) (pv 6) (fun _ _ => rfl)) (pa_cons (pv 9) (pa_cons (pe_ix ix_list (pv 5) (pv 6) (fun _ _ => rfl)) (pa_cons (pv 10) (pa_cons (pv 11) (pa_cons (pv 12) (pa_cons (pv 13) pa_nil)))))))) pa_nil))))))))))))))
    (pss_one (ps_ret (pe_callTy call_tuple_of rfl m_tuple PyProof.Rows.boot_tuple (pa_cons (pv 8) pa_nil))))))))), ?_⟩
  refine ⟨_, rfl, _, rfl, a, ns, m, 43, rfl, hS, h63, by omega, ⟨by decide, by decide⟩, fun tn x H1 s1 htn => ?_⟩
  refine ⟨small_le (by show 1 ≤ 1000; decide), fun pd hpd => ?_⟩
  refine ⟨fun σ' H' => Same H1 H' ∧ ∃ (ds : List Int) (o6 o7 : Option V), H' pd = some (.lst (ds.map V.int)) ∧ ds.length = m ∧ (∀ d ∈ ds, 0 ≤ d ∧ d ≤ 12) ∧ σ' = [some (.ref a), some (.int (m : Int)), some (.ref tb), some (.int (es.length : Int)), some (.ref tn), some (.ref pd), o6, o7, none, none, none, none, none, none], ?_, ?_⟩
  · refine ⟨_, rfl, 1, (m : Int), rfl, ⟨by decide, by decide, by omega, by omega⟩, ?_⟩
    refine for_range (fun i σ' H' => Same H1 H' ∧ ∃ (ds : List Int) (o6 o7 : Option V), H' pd = some (.lst (ds.map V.int)) ∧ ds.length = i + 1 ∧ (∀ d ∈ ds, 0 ≤ d ∧ d ≤ 12) ∧ σ' = [some (.ref a), some (.int (m : Int)), some (.ref tb), some (.int (es.length : Int)), some (.ref tn), some (.ref pd), o6, o7, none, none, none, none, none, none]) ⟨same_new hpd _, [0], none, none, upd_same, rfl, (fun d hd => by rw [List.mem_singleton.mp hd]; decide), rfl⟩ ?_ ?_
    · rintro i σ' H2 hi ⟨s2, ds, o6, o7, h2, l2, hds, rfl⟩
      have hi' : i < m := by omega
      have sS := (s1.trans s2).seq hS
      have li : i < ds.length := by omega
      obtain ⟨d0, d1⟩ := hds _ (List.getElem_mem li)
      have hat : atI (ds.map V.int) (1 + (i : Int) - 1) = some (.int ds[i]) := by
        rw [show 1 + (i : Int) - 1 = ((i : Nat) : Int) by omega]
        exact atI_nat (by rw [List.getElem?_map, List.getElem?_eq_getElem li]; rfl)
      refine ⟨_, rfl, _, rfl, _, _, rfl, rfl, a, ns, 2 + (1 + (i : Int)), 44, rfl, sS, h63, ⟨by omega, by omega⟩, ⟨by decide, by decide⟩, fun y y0 y1 => ?_⟩
      generalize hdd : ds[i] = dd at d0 d1 hat
      obtain ⟨mn, emn, mn0, mn1⟩ : ∃ mn : Int, mn = (if (11 : Int) < dd then 11 else dd) ∧ 0 ≤ mn ∧ mn ≤ 11 := by
        refine ⟨_, rfl, ?_, ?_⟩ <;> split <;> omega
      have v0 := Int.emod_nonneg y (show mn + 1 ≠ 0 by omega)
      have v1 := Int.emod_lt_of_pos y (show 0 < mn + 1 by omega)
      refine ⟨_, rfl, .inl ⟨rfl, _, SqL.of h2⟩, _, rfl, _, rfl, _, rfl, _, _, rfl, rfl, pd, _, _, _, rfl, rfl, SqL.of h2, hat, _, _, rfl, _, _, rfl, rfl, _, _, rfl, rfl, (by show (0 : Int) < (if (11 : Int) < dd then 11 else dd) + 1; rw [← emn]; omega), _, _, rfl, rfl, pd, _, _, rfl, rfl, h2, small1000 (by rw [List.length_map]; omega), ?_⟩
      have s3 : Same H1 (upd H2 pd (.lst (ds.map V.int ++ [.int (1 + y % (mn + 1))]))) := same_upd hpd s2 _
      have h3 : (upd H2 pd (.lst (ds.map V.int ++ [.int (1 + y % (mn + 1))]))) pd = some (.lst ((ds ++ [1 + y % (mn + 1)]).map V.int)) := by rw [upd_same, List.map_append]; rfl
      have hb3 : ∀ d ∈ ds ++ [1 + y % (mn + 1)], 0 ≤ d ∧ d ≤ 12 := fun d hd => by
        rcases List.mem_append.mp hd with h | h
        · exact hds d h
        · rw [List.mem_singleton.mp h]
          omega
      rw [← emn]
      generalize upd H2 pd (.lst (ds.map V.int ++ [.int (1 + y % (mn + 1))])) = H3 at s3 h3 ⊢
      have l3 : (ds ++ [1 + y % (mn + 1)]).length = i + 2 := by rw [List.length_append, l2]; rfl
      have hat3 : atI ((ds ++ [1 + y % (mn + 1)]).map V.int) (1 + (i : Int) - 1) = some (.int dd) := by
        rw [show 1 + (i : Int) - 1 = ((i : Nat) : Int) by omega]
        refine atI_nat ?_
        rw [List.getElem?_map, List.getElem?_append_left li, List.getElem?_eq_getElem li, hdd]
        rfl
      refine ⟨_, rfl, _, _, rfl, rfl, ⟨by decide, by decide⟩, _, _, rfl, rfl, (by show (0 : Int) < 4; decide), rfl, _, rfl, ?_⟩
      refine itB (fun c => ?_) (fun c => ?_)
      · refine ⟨_, rfl, _, rfl, _, _, rfl, rfl, pd, _, _, _, rfl, rfl, SqL.of h3, hat3, _, _, rfl, _, _, rfl, rfl, _, rfl, _, rfl, pd, _, 1 + (i : Int), i + 1, rfl, rfl, h3, ?_, ?_⟩
        · rw [List.length_map, l3, show 1 + (i : Int) = ((i + 1 : Nat) : Int) by omega]
          exact ixN_of (by omega)
        · rw [← emn, set_map]
          refine ⟨same_upd hpd s3 _, (ds ++ [1 + y % (mn + 1)]).set (i + 1) (1 + mn), _, _, upd_same, by rw [List.length_set, l3], fun d hd => ?_, rfl⟩
          rcases List.mem_or_eq_of_mem_set hd with h | h
          · exact hb3 d h
          · rw [h]
            omega
      · exact ⟨s3, _, _, _, h3, l3, hb3, rfl⟩
    · rintro σ' H2 ⟨s2, ds, o6, o7, h2, l2, hds, rfl⟩
      refine ⟨s2, ds, o6, o7, h2, ?_, hds, rfl⟩
      have : ds.length = ((m : Int) - 1).toNat + 1 := l2
      omega
  rintro σ1 H2 ⟨s2, ds, o6, o7, h2, l2, hds, rfl⟩
  have s02 := s1.trans s2
  have htn2 := s2 _ _ htn
  refine ⟨Nat.zero_le _, fun pr hpr => ?_⟩
  refine ⟨fun σ' H' => Same H2 H' ∧ ∃ (rv : List V) (rs : List Ro) (o6 o7 o9 o10 o11 o12 o13 : Option V), H' pr = some (.lst rv) ∧ RosIn H' rv rs ∧ rs.length = m ∧ (∀ r ∈ rs, RmO bs es r) ∧ σ' = [some (.ref a), some (.int (m : Int)), some (.ref tb), some (.int (es.length : Int)), some (.ref tn), some (.ref pd), o6, o7, some (.ref pr), o9, o10, o11, o12, o13], ?_, ?_⟩
  · refine ⟨_, rfl, (m : Int), rfl, by omega, by omega, ?_⟩
    refine for_range (fun i σ' H' => Same H2 H' ∧ ∃ (rv : List V) (rs : List Ro) (o6 o7 o9 o10 o11 o12 o13 : Option V), H' pr = some (.lst rv) ∧ RosIn H' rv rs ∧ rs.length = i ∧ (∀ r ∈ rs, RmO bs es r) ∧ σ' = [some (.ref a), some (.int (m : Int)), some (.ref tb), some (.int (es.length : Int)), some (.ref tn), some (.ref pd), o6, o7, some (.ref pr), o9, o10, o11, o12, o13]) ⟨same_new hpr _, [], [], o6, o7, none, none, none, none, none, upd_same, .nil, rfl, (fun r hr => by cases hr), rfl⟩ ?_ ?_
    · rintro i σ' H3 hi ⟨s3, rv, rs, o6, o7, o9, o10, o11, o12, o13, h3, hrs, lrs, hok, rfl⟩
      have hi' : i < m := hi
      have lrv := hrs.length
      have hd3 := s3 _ _ h2
      have sS := (s02.trans s3).seq hS
      have li : i < ds.length := by omega
      obtain ⟨dd0, dd1⟩ := hds _ (List.getElem_mem li)
      have hati : atI (ds.map V.int) (0 + (i : Int)) = some (.int ds[i]) := by
        rw [Int.zero_add]
        exact atI_nat (by rw [List.getElem?_map, List.getElem?_eq_getElem li]; rfl)
      refine ⟨_, rfl, _, rfl, _, _, rfl, rfl, a, ns, 2 + (0 + (i : Int)), 45, rfl, sS, h63, ⟨by omega, by omega⟩, ⟨by decide, by decide⟩, fun y y0 y1 => ?_⟩
      show tCut _ _ _ _ _
      refine ⟨fun σ' H' => Same H3 H' ∧ ∃ kd kp : Str, Wd kd ∧ Wd kp ∧ σ' = [some (.ref a), some (.int (m : Int)), some (.ref tb), some (.int (es.length : Int)), some (.ref tn), some (.ref pd), some (.int (0 + (i : Int))), some (.int y), some (.ref pr), some (.str kd), some (.str kp), o11, o12, o13], ?_, ?_⟩
      · refine ⟨fun c H' => H' = H3, ?_, ?_⟩
        · refine ⟨_, rfl, _, _, rfl, rfl, _, rfl, _, _, rfl, rfl, _, rfl, ?_⟩
          refine itB (fun c => ?_) (fun c => rfl)
          have c' : 0 + (i : Int) + 1 < (m : Int) := of_decide_eq_true c
          have li2 : i + 1 < ds.length := by omega
          have hat2 : atI (ds.map V.int) (0 + (i : Int) + 1) = some (.int ds[i + 1]) := by
            rw [show 0 + (i : Int) + 1 = ((i + 1 : Nat) : Int) by omega]
            exact atI_nat (by rw [List.getElem?_map, List.getElem?_eq_getElem li2]; rfl)
          exact ⟨_, rfl, _, rfl, _, _, rfl, rfl, pd, _, _, _, rfl, rfl, SqL.of hd3, hat2, _, rfl, _, rfl, pd, _, _, _, rfl, rfl, SqL.of hd3, hati, _, _, rfl, rfl, _, rfl, rfl⟩
        rintro c H4 rfl
        refine itB (fun c => ?_) (fun c => ?_)
        · obtain ⟨kd, hkd, hat1⟩ := atI_strs' (zs := [("one" : Str), "one", "all"]) (i := y % 3) (by omega) (by show _ < (3 : Int); omega)
          obtain ⟨kp, hkp, hat2⟩ := atI_strs' (zs := [("" : Str), "near", "deep"]) (i := y / 3 % 3) (by omega) (by show _ < (3 : Int); omega)
          refine ⟨small_le (by show 3 ≤ 1000; decide), fun p1 hp1 => ⟨_, rfl, _, _, rfl, rfl, (by show (0 : Int) < 3; decide), p1, _, _, _, rfl, rfl, SqL.of upd_same, hat1, ?_⟩⟩
          refine ⟨small_le (by show 3 ≤ 1000; decide), fun p2 hp2 => ⟨_, rfl, _, _, rfl, rfl, ⟨by decide, by decide⟩, _, _, rfl, rfl, (by show (0 : Int) < 3; decide), p2, _, _, _, rfl, rfl, SqL.of upd_same, hat2, (same_new hp1 _).trans (same_new hp2 _), kd, kp, ?_, ?_, rfl⟩⟩
          · simp only [List.mem_cons, List.not_mem_nil, or_false] at hkd
            rcases hkd with e | e | e <;> rw [e] <;> exact wdl (by simp)
          · simp only [List.mem_cons, List.not_mem_nil, or_false] at hkp
            rcases hkp with e | e | e <;> rw [e] <;> exact wdl (by simp)
        · exact ⟨Same.refl _, "plain", "", wdl (by simp), wdl (by simp), rfl⟩
      rintro σ4 H4 ⟨s4, kd, kp, hkd, hkp, rfl⟩
      refine ⟨fun σ' H' => H' = H4 ∧ ∃ kp : Str, Wd kp ∧ σ' = [some (.ref a), some (.int (m : Int)), some (.ref tb), some (.int (es.length : Int)), some (.ref tn), some (.ref pd), some (.int (0 + (i : Int))), some (.int y), some (.ref pr), some (.str kd), some (.str kp), o11, o12, o13], ?_, ?_⟩
      · refine ⟨fun c H' => H' = H4, ?_, ?_⟩
        · refine ⟨_, rfl, rfl, _, rfl, ?_⟩
          exact itB (fun c => ⟨_, rfl, rfl, _, rfl, rfl⟩) (fun c => rfl)
        rintro c H5 rfl
        exact itB (fun c => ⟨rfl, "", wdl (by simp), rfl⟩) (fun c => ⟨rfl, kp, hkp, rfl⟩)
      clear hkp kp
      rintro σ5 H5 ⟨rfl, kp, hkp, rfl⟩
      show tCut _ _ _ _ _
      refine ⟨fun σ' H' => H' = H5 ∧ ∃ lp : Str, Wd lp ∧ σ' = [some (.ref a), some (.int (m : Int)), some (.ref tb), some (.int (es.length : Int)), some (.ref tn), some (.ref pd), some (.int (0 + (i : Int))), some (.int y), some (.ref pr), some (.str kd), some (.str kp), some (.str lp), o12, o13], ?_, ?_⟩
      · refine ⟨_, rfl, _, _, rfl, rfl, ⟨by decide, by decide⟩, _, _, rfl, rfl, (by show (0 : Int) < 2; decide), rfl, _, rfl, ?_⟩
        refine itB (fun c => ?_) (fun c => ⟨rfl, "", wdl (by simp), rfl⟩)
        exact ⟨_, rfl, _, _, rfl, rfl, ⟨by decide, by decide⟩, _, rfl, ⟨by show 0 ≤ y / 18; omega, by show y / 18 < 2147483648; omega⟩, fun z hz => ⟨rfl, z, hz.wd, rfl⟩⟩
      rintro σ6 H6 ⟨rfl, lp, hlp, rfl⟩
      have s34 := s3.trans s4
      have s06 := s02.trans s34
      refine ⟨_, rfl, _, rfl, _, _, rfl, rfl, _, rfl, _, rfl, a, tb, ns, 2 + (0 + (i : Int)), 50, bv, bs, es, rfl, s06.seq hS, h63, ⟨by omega, by omega⟩, ⟨by decide, by decide⟩, s06 _ _ htb, BxsIn.mono hbs (KeepT.of s06), B, fun vi di H7 s7 hi7 li7 oi7 => ?_⟩
      have s07 := s06.trans s7
      refine ⟨_, rfl, _, rfl, _, _, rfl, rfl, _, rfl, _, rfl, a, tb, ns, 2 + (0 + (i : Int)), 60, bv, bs, es, rfl, s07.seq hS, h63, ⟨by omega, by omega⟩, ⟨by decide, by decide⟩, s07 _ _ htb, BxsIn.mono hbs (KeepT.of s07), B, fun vo do' H8 s8 ho8 lo8 oo8 => ?_⟩
      have s38 := (s4.trans s7).trans s8
      have h8 := s38 _ _ h3
      have hatn : atI (((List.range m).map (nameAt x)).map V.str) (0 + (i : Int)) = some (.str (nameAt x i)) := by
        rw [Int.zero_add]
        exact atI_nat (by rw [List.getElem?_map, List.getElem?_map, List.getElem?_range hi']; rfl)
      refine ⟨_, rfl, .inl ⟨rfl, _, SqL.of h8⟩, _, rfl, _, rfl, tn, _, _, _, rfl, rfl, SqT.of ((s3.trans s38) _ _ htn2), hatn, _, rfl, _, rfl, _, rfl, pd, _, _, _, rfl, rfl, SqL.of (s38 _ _ hd3), hati, _, rfl, _, rfl, _, rfl, _, rfl, small_le (by show 7 ≤ 1000; decide), fun t ht => ?_⟩
      have s9 := same_new ht (.tup [.str (nameAt x i), .str kd, .int ds[i], .str kp, .str lp, vi, vo])
      have h9 := s9 _ _ h8
      have kt := (KeepT.of (s38.trans s9)).trans (KeepT.lst h9 (.lst (rv ++ [.ref t])))
      refine ⟨pr, _, _, rfl, rfl, h9, small1000 (by omega), same_upd hpr ((s3.trans s38).trans s9) _, rv ++ [.ref t], rs ++ [⟨nameAt x i, kd, ds[i], kp, lp, di, do'⟩], _, _, _, _, _, _, _, upd_same, ?_, by rw [List.length_append, lrs]; rfl, ?_, rfl⟩
      · have k2 := (KeepT.of s9).trans (KeepT.lst h9 (.lst (rv ++ [.ref t])))
        exact (RosIn.mono hrs kt).snoc ⟨t, vi, vo, rfl, KeepT.lst h9 _ _ _ upd_same, hi7.mono ((KeepT.of s8).trans k2), ho8.mono k2⟩
      · intro r hr
        rcases List.mem_append.mp hr with h | h
        · exact hok r h
        · rw [List.mem_singleton.mp h]
          exact ⟨(at_lw x i).wd, hkd, hkp, hlp, dd0, by show ds[i] ≤ 40; omega, li7, lo8, oi7, oo8⟩
    · rintro σ' H3 h
      exact h
  rintro σ2 H3 ⟨s3, rv, rs, o6, o7, o9, o10, o11, o12, o13, h3, hrs, lrs, hok, rfl⟩
  exact ⟨_, rfl, pr, _, rfl, .inl ⟨SqL.of h3, fun t ht => q t rv rs x _ ((s02.trans s3).trans (same_new ht _)) upd_same (RosIn.mono hrs (KeepT.new ht _)) lrs hok⟩⟩
end
end C43

namespace C43
open PySem L2 Mix Gds Dds Wds Cht Num Spl Txm Dig D42 G41
structure DrO (bs : List Bx) (es : List Str) (rs : List Ro) (d : Dr) : Prop where
  r0 : 0 ≤ d.room
  r1 : d.room < (rs.length : Int)
  e0 : 0 ≤ d.event
  e1 : d.event < (es.length : Int)
  fit : Fit bs.length rs.length d.guard
  ht : d.guard.ht ≤ 6
  wt : wt d.guard ≤ 600
  ld : d.deeds.length ≤ 8
  deeds : ∀ x ∈ d.deeds, DdO bs es x
  way : Wd d.way
  goal : ∀ i, d.goal = some i → 0 ≤ i ∧ i < (rs.length : Int)
def spDoorsL (K : PySem.W.Frag) : Sp := fun vs H Q _ => ∃ (a tr tb : Addr) (ns : List Int) (m : Nat) (rv bv : List V) (rs : List Ro) (bs : List Bx) (es : List Str), vs = [.ref a, .int (m : Int), .ref tr, .ref tb, .int (es.length : Int)] ∧ SqL K H a (ns.map V.int) ∧ ns.length ≤ 63 ∧ m ≤ 60 ∧ (1 ≤ m → 1 ≤ es.length) ∧ H tr = some (.tup rv) ∧ RosIn H rv rs ∧ 1 ≤ rs.length ∧ rs.length ≤ 40 ∧ H tb = some (.tup bv) ∧ BxsIn H bv bs ∧ BE bs es ∧
  ∀ (t : Addr) (dv : List V) (ds : List Dr) (H' : Hp), Same H H' → H' t = some (.tup dv) → DrsIn H' dv ds → ds.length = m → (∀ d ∈ ds, DrO bs es rs d) → Q (.ref t) H'
def spChartL (K : PySem.W.Frag) : Sp := fun vs H Q _ => ∃ (a : Addr) (ns : List Int), vs = [.ref a] ∧ SqL K H a (ns.map V.int) ∧ ns.length ≤ 63 ∧ ∀ (t : Addr) (c : Ch) (H' : Hp), Same H H' → ChIn H' t c → ChOk c → Q (.ref t) H'
def negs : Nat → Gd → Gd
  | 0, g => g
  | k + 1, g => .neg (negs k g)
theorem negs_ht (g : Gd) : ∀ k, (negs k g).ht = g.ht + k
  | 0 => rfl
  | k + 1 => by
    show (negs k g).ht + 1 = _
    rw [negs_ht g k]
    omega
theorem negs_fit {b r : Nat} {g : Gd} (f : Fit b r g) : ∀ k, Fit b r (negs k g)
  | 0 => f
  | k + 1 => negs_fit f k
theorem negs_wt (g : Gd) : ∀ k, wt (negs k g) = wt g + 4 * k
  | 0 => rfl
  | k + 1 => by
    show wt (negs k g) + 4 = _
    rw [negs_wt g k]
    omega
section
variable {P : Program} {w : World} {K : PySem.W.Frag} {mg : Str → Option Value} {base : Heap}
theorem sc_law_doors : FnScope ["_law_script", "_law_many", "_law_rooms_here", "_law_boxes_here", "_law_events", "_law_doors_here", "_law_keepers", "_law_k", "_law_number", "_law_way", "_law_goal", "_law_guard_here", "_law_j", "_law_room", "_law_event"] ["_law_script", "_law_many", "_law_rooms_here", "_law_boxes_here", "_law_events"] (defScope s_L_doors) := ⟨rfl, rfl, rfl, by decide +kernel, rfl, by decide +kernel, by decide +kernel⟩
theorem ok_ldoors {n : Nat} {f gm gg gd : Addr} {fd dm dg dd : FuncData} (F : Fun K "_law_doors" "_law_doors" s_L_doors f fd)
    (G_law_mixed : FnOk P w K mg base CX0 n gm dm ["_law_script", "_law_k", "_law_salt"] (spMixed K)) (b_law_mixed : Binds K dm ["_law_script", "_law_k", "_law_salt"] []) (k_law_mixed : PySem.W.keepIn K (.ref gm) = true) (m_law_mixed : mg "_law_mixed" = some (.ref gm))
    (G_law_guard : FnOk P w K mg base CX0 n gg dg ["_law_script", "_law_k", "_law_salt", "_law_high", "_law_boxes_here", "_law_rooms_here"] (spGuardL K 4)) (b_law_guard : Binds K dg ["_law_script", "_law_k", "_law_salt", "_law_high", "_law_boxes_here", "_law_rooms_here"] []) (k_law_guard : PySem.W.keepIn K (.ref gg) = true) (m_law_guard : mg "_law_guard" = some (.ref gg))
    (G_law_deeds : FnOk P w K mg base CX0 n gd dd ["_law_script", "_law_k", "_law_salt", "_law_boxes_here", "_law_events"] (spDeedsL K)) (b_law_deeds : Binds K dd ["_law_script", "_law_k", "_law_salt", "_law_boxes_here", "_law_events"] []) (k_law_deeds : PySem.W.keepIn K (.ref gd) = true) (m_law_deeds : mg "_law_deeds" = some (.ref gd)) (m_range : mg "range" = none) (m_tuple : mg "tuple" = none) (m_len : mg "len" = none) :
    FnOk P w K mg base CX0 (n + 1) f fd ["_law_script", "_law_many", "_law_rooms_here", "_law_boxes_here", "_law_events"] (spDoorsL K) := by
  refine F.ok sc_law_doors (fun vs H Q E h => ?_) (fun cdv A outer s H vs Q E hr h => ?_)
  · obtain ⟨a, tr, tb, ns, m, rv, bv, rs, bs, es, rfl, _⟩ := h
    rfl
  obtain ⟨a, tr, tb, ns, m, rv, bv, rs, bs, es, rfl, hS, h63, hm, hme, htr, hrs, lr1, lr40, htb, hbs, B, q⟩ := h
  refine ⟨_, (pss_cons (ps_set (i := 5) sc_law_doors.nd rfl (Or.inl rfl) (pe_lst pa_nil))
    (pss_cons (ps_setC (i := 6) (caps := [(2, "_law_rooms_here")]) rfl sc_law_doors.nd rfl (Or.inl rfl) (show CompSc (defScope s_L_doors) ["_law_script", "_law_many", "_law_rooms_here", "_law_boxes_here", "_law_events", "_law_doors_here", "_law_keepers", "_law_k", "_law_number", "_law_way", "_law_goal", "_law_guard_here", "_law_j", "_law_room", "_law_event"] _ _ _ from ⟨rfl, rfl, by decide +kernel, by decide +kernel, by decide +kernel, by decide +kernel, by decide +kernel⟩) (pi_range1 rfl m_range (pa_cons (pe_callB call_len_seq rfl m_len PySem.boot_len (pa_cons (pv 2) pa_nil)) pa_nil)) (fun _ _ _ _ _ _ => pifs_one (pt_cmpR op_ne (pe_ix (r := rIxT K) ix_tup (pe_ix (r := rIxT K) ix_tup (pv 1) (pv 0) (fun _ _ => rfl)) pe_int (fun _ _ => rfl)) pe_str (nomark _))) (fun _ _ _ _ _ _ => (pv 0)))
    (pss_cut (ps_for PassesOwn.never rfl (pi_range1 rfl m_range (pa_cons (pv 1) pa_nil)) (pg_name (i := 7) sc_law_doors.nd rfl (Or.inl rfl))
      (pss_cons (ps_set (i := 8) sc_law_doors.nd rfl (Or.inl rfl) (pe_call G_law_mixed hr rfl m_law_mixed k_law_mixed b_law_mixed .nil pass0 (pa_cons (pv 0) (pa_cons (pe_op op_add pe_int (pv 7)) (pa_cons pe_int pa_nil)))))
      (pss_cons (ps_set (i := 9) sc_law_doors.nd rfl (Or.inl rfl) (pe_ix ix_list (pe_lst (pa_cons pe_str (pa_cons pe_str (pa_cons pe_str pa_nil)))) (pe_op op_mod (pv 8) pe_int) (fun _ _ => rfl)))
      (pss_cons (ps_set (i := 10) sc_law_doors.nd rfl (Or.inl rfl) (pe_op op_mod (pe_op op_fdiv (pv 8) pe_int) (pe_callB call_len_seq rfl m_len PySem.boot_len (pa_cons (pv 2) pa_nil))))
      (pss_cut (ps_if (pt_cut (PW.pt (pw_and (pt_cmpR op_eq (pv 9) pe_str (nomark _)) (pw_and1 (pt_cmpR op_eq (pe_callB call_len_seq rfl m_len PySem.boot_len (pa_cons (pv 6) pa_nil)) pe_int (nomark _))))))
        (pss_one (ps_set (i := 9) sc_law_doors.nd rfl (Or.inl rfl) pe_str))
        pss_nil)
      (pss_cut (ps_if (pt_cmpR op_eq (pv 9) pe_str (nomark _))
        (pss_one (ps_set (i := 10) sc_law_doors.nd rfl (Or.inl rfl) (pe_ix ix_list (pv 6) (pe_op op_mod (pv 10) (pe_callB call_len_seq rfl m_len PySem.boot_len (pa_cons (pv 6) pa_nil))) (fun _ _ => rfl))))
        pss_nil)
      (pss_cut (ps_if (pt_cmpR op_eq (pv 9) pe_str (nomark _))
        (pss_one (ps_set (i := 10) sc_law_doors.nd rfl (Or.inl rfl) pe_non))
        pss_nil)
      (pss_cons (ps_set (i := 11) sc_law_doors.nd rfl (Or.inl rfl) (pe_call G_law_guard hr rfl m_law_guard k_law_guard b_law_guard .nil pass0 (pa_cons (pv 0) (pa_cons (pe_op op_add pe_int (pv 7)) (pa_cons pe_int (pa_cons (pe_op op_add pe_int (pe_op op_mod (pe_op op_fdiv (pv 8) pe_int) pe_int)) (pa_cons (pe_callB call_len_seq rfl m_len PySem.boot_len (pa_cons (pv 3) pa_nil)) (pa_cons (pe_callB call_len_seq rfl m_len PySem.boot_len (pa_cons (pv 2) pa_nil)) pa_nil))))))))
      (pss_cut (ps_for PassesOwn.never rfl (pi_range1 rfl m_range (pa_cons (pe_op op_mod (pe_op op_fdiv (pv 8) pe_int) pe_int) pa_nil)) (pg_name (i := 12) sc_law_doors.nd rfl (Or.inl rfl))
        (pss_one (ps_set (i := 11) sc_law_doors.nd rfl (Or.inl rfl) (pe_tup (pa_cons pe_str (pa_cons (pv 11) pa_nil))))))
      (pss_cons (ps_set (i := 13) sc_law_doors.nd rfl (Or.inl rfl) (pe_op op_mod (pe_call G_law_mixed hr rfl m_law_mixed k_law_mixed b_law_mixed .nil pass0 (pa_cons (pv 0) (pa_cons (pe_op op_add pe_int (pv 7)) (pa_cons pe_int pa_nil)))) (pe_callB call_len_seq rfl m_len PySem.boot_len (pa_cons (pv 2) pa_nil))))
      (pss_cons (ps_set (i := 14) sc_law_doors.nd rfl (Or.inl rfl) (pe_op op_mod (pe_call G_law_mixed hr rfl m_law_mixed k_law_mixed b_law_mixed .nil pass0 (pa_cons (pv 0) (pa_cons (pe_op op_add pe_int (pv 7)) (pa_cons pe_int pa_nil)))) (pv 4)))
      (pss_one (ps_expr (pe_bm PySem.F.plainAttrs_list PySem.F.slot_list_append PySem.F.type_list_append mt_append (pv 5) (pa_cons (pe_tup (pa_cons (pv 13) (pa_cons (pv 14) (pa_cons (pv 11) (pa_cons (pe_call G_law_deeds hr rfl m_law_deeds k_law_deeds b_law_deeds .nil pass0 (pa_cons (pv 0) (pa_cons (pe_op op_add pe_int (pv 7)) (pa_cons pe_int (pa_cons (pv 3) (pa_cons (pv 4) pa_nil)))))) (pa_cons (pv 9) (pa_cons (pv 10) pa_nil))))))) pa_nil)))))))))))))))
    (pss_one (ps_ret (pe_callTy call_tuple_of rfl m_tuple PyProof.Rows.boot_tuple (pa_cons (pv 5) pa_nil))))))), ?_⟩
  have lrv := RosIn_len hrs
  have lbv := All2.length hbs
  refine ⟨Nat.zero_le _, fun pl hpl => ?_⟩
  have s0 := same_new hpl (.lst [])
  have hl0 : (upd H pl (.lst [])) pl = some (.lst []) := upd_same
  refine ⟨_, rfl, tr, _, rfl, .inr (SqT.of (s0 _ _ htr)), (rv.length : Int), rfl, by omega, by omega, ?_⟩
  refine comp_range (fun i acc H' => H' = upd H pl (.lst []) ∧ ∃ ks : List Int, acc = ks.map V.int ∧ ks.length ≤ i ∧ ∀ z ∈ ks, 0 ≤ z ∧ z < (rs.length : Int)) ⟨rfl, [], rfl, Nat.zero_le _, (fun z hz => by cases hz)⟩ (fun i acc H' hi ⟨eH, ks, ea, lk, hk⟩ => ?_) (fun acc H' ⟨eH, ks, ea, lk, hk⟩ pk hpk => ?_)
  · subst eH ea
    have hi' : i < rv.length := hi
    have hk' := List.getElem?_eq_getElem (show i < rs.length by omega)
    obtain ⟨x, hx, b1, vi, vo, rfl, hb1, _⟩ := All2.get hrs hk'
    have hat : atI rv (0 + (i : Int)) = some (.ref b1) := by
      rw [Int.zero_add]
      exact atI_nat hx
    refine ⟨_, rfl, _, rfl, tr, _, _, _, rfl, rfl, SqT.of (s0 _ _ htr), hat, b1, _, _, _, rfl, rfl, SqT.of (s0 _ _ hb1), rfl, rfl, _, rfl, ?_⟩
    refine itB (fun c => ?_) (fun c => ?_)
    · refine ⟨_, rfl, small1000 (by rw [List.length_map]; omega), rfl, ks ++ [0 + (i : Int)], by rw [List.map_append]; rfl, by rw [List.length_append]; show _ + 1 ≤ _; omega, fun z hz => ?_⟩
      rcases List.mem_append.mp hz with h | h
      · exact hk z h
      · rw [List.mem_singleton.mp h]
        omega
    · exact ⟨rfl, ks, rfl, by omega, hk⟩
  subst eH ea
  have s1 := same_new hpk (.lst (ks.map V.int))
  have hk1 : (upd (upd H pl (.lst [])) pk (.lst (ks.map V.int))) pk = some (.lst (ks.map V.int)) := upd_same
  have hl1 := s1 _ _ hl0
  have np : pk ≠ pl := fun e => by
    rw [e, hl0] at hpk
    cases hpk
  have s01 := s0.trans s1
  generalize upd (upd H pl (.lst [])) pk (.lst (ks.map V.int)) = H1 at s1 hk1 hl1 s01 ⊢
  refine ⟨fun σ' H' => Same H H' ∧ ∃ (dv : List V) (ds : List Dr) (o7 o8 o9 o10 o11 o12 o13 o14 : Option V), H' pl = some (.lst dv) ∧ DrsIn H' dv ds ∧ ds.length = m ∧ (∀ d ∈ ds, DrO bs es rs d) ∧ σ' = [some (.ref a), some (.int (m : Int)), some (.ref tr), some (.ref tb), some (.int (es.length : Int)), some (.ref pl), some (.ref pk), o7, o8, o9, o10, o11, o12, o13, o14], ?_, ?_⟩
  · refine ⟨_, rfl, (m : Int), rfl, by omega, by omega, ?_⟩
    refine for_range (fun i σ' H' => Same H H' ∧ H' pk = some (.lst (ks.map V.int)) ∧ ∃ (dv : List V) (ds : List Dr) (o7 o8 o9 o10 o11 o12 o13 o14 : Option V), H' pl = some (.lst dv) ∧ DrsIn H' dv ds ∧ ds.length = i ∧ (∀ d ∈ ds, DrO bs es rs d) ∧ σ' = [some (.ref a), some (.int (m : Int)), some (.ref tr), some (.ref tb), some (.int (es.length : Int)), some (.ref pl), some (.ref pk), o7, o8, o9, o10, o11, o12, o13, o14]) ⟨s01, hk1, [], [], none, none, none, none, none, none, none, none, hl1, .nil, rfl, (fun d hd => by cases hd), rfl⟩ ?_ ?_
    · rintro i σ' H2 hi ⟨s2, hk2, dv, ds, o7, o8, o9, o10, o11, o12, o13, o14, hl2, hds, lds, hok, rfl⟩
      have hi' : i < m := hi
      have e1 := hme (by omega)
      have ldv := DrsIn_len hds
      refine ⟨_, rfl, _, rfl, _, _, rfl, rfl, a, ns, 20 + (0 + (i : Int)), 70, rfl, s2.seq hS, h63, ⟨by omega, by omega⟩, ⟨by decide, by decide⟩, fun y y0 y1 => ?_⟩
      obtain ⟨wy, hwy, hat⟩ := atI_strs' (zs := [("to" : Str), "back", "stay"]) (i := y % 3) (by omega) (by show _ < (3 : Int); omega)
      have hwy : Wd wy := by
        simp only [List.mem_cons, List.not_mem_nil, or_false] at hwy
        rcases hwy with e | e | e <;> rw [e] <;> exact wdl (by simp)
      refine ⟨small_le (by show 3 ≤ 1000; decide), fun p3 hp3 => ⟨_, rfl, _, _, rfl, rfl, (by show (0 : Int) < 3; decide), p3, _, _, _, rfl, rfl, SqL.of upd_same, hat, ?_⟩⟩
      have s3 := same_new hp3 (.lst ([("to" : Str), "back", "stay"].map V.str))
      have s23 := s2.trans s3
      have hk3 := s3 _ _ hk2
      have hl3 := s3 _ _ hl2
      have g0 := Int.emod_nonneg (y / 3) (show (rv.length : Int) ≠ 0 by omega)
      have g1 := Int.emod_lt_of_pos (y / 3) (show 0 < (rv.length : Int) by omega)
      refine ⟨_, rfl, _, _, rfl, rfl, ⟨by decide, by decide⟩, _, rfl, tr, _, rfl, .inr (SqT.of (s23 _ _ htr)), _, _, rfl, rfl, (by show (0 : Int) < (rv.length : Int); omega), ?_⟩
      have kk : ∀ {H' : Hp} {o : HO}, upd H2 p3 o = H' → True := fun _ => trivial
      refine ⟨fun σ' H' => H' = upd H2 p3 (.lst ([("to" : Str), "back", "stay"].map V.str)) ∧ ∃ wy : Str, Wd wy ∧ (wy = "back" → ks ≠ []) ∧ σ' = [some (.ref a), some (.int (m : Int)), some (.ref tr), some (.ref tb), some (.int (es.length : Int)), some (.ref pl), some (.ref pk), some (.int (0 + (i : Int))), some (.int y), some (.str wy), some (.int (y / 3 % (rv.length : Int))), o11, o12, o13, o14], ?_, ?_⟩
      · refine ⟨fun c H' => H' = upd H2 p3 (.lst ([("to" : Str), "back", "stay"].map V.str)) ∧ (c = false → wy = "back" → ks ≠ []), ?_, ?_⟩
        · refine ⟨_, rfl, rfl, _, rfl, ?_⟩
          refine itB (fun c => ?_) (fun c => ⟨rfl, fun _ e => ?_⟩)
          · refine ⟨_, rfl, pk, _, rfl, .inl (SqL.of hk3), rfl, _, rfl, rfl, fun h _ e => ?_⟩
            subst e
            exact of_decide_eq_false h rfl
          · exact absurd (by rw [e] : V.str wy = V.str "back") (of_decide_eq_false c)
        rintro c H4 ⟨rfl, hc⟩
        refine itB (fun c => ⟨rfl, "to", wdl (by simp), fun e => ?_, rfl⟩) (fun c => ⟨rfl, wy, hwy, hc c, rfl⟩)
        exact absurd e (by decide +kernel)
      rintro σ4 H4 ⟨eH4, wy, hwy, hback, rfl⟩
      rw [← eH4] at s3 s23 hk3 hl3
      refine ⟨fun σ' H' => H' = H4 ∧ ∃ gl : Int, (0 ≤ gl ∧ gl < (rs.length : Int)) ∧ σ' = [some (.ref a), some (.int (m : Int)), some (.ref tr), some (.ref tb), some (.int (es.length : Int)), some (.ref pl), some (.ref pk), some (.int (0 + (i : Int))), some (.int y), some (.str wy), some (.int gl), o11, o12, o13, o14], ?_, ?_⟩
      · refine ⟨_, rfl, rfl, _, rfl, ?_⟩
        refine itB (fun c => ?_) (fun c => ⟨rfl, _, ⟨g0, by omega⟩, rfl⟩)
        have ew : wy = "back" := by
          have := of_decide_eq_true c
          injection this
        have hne := hback ew
        have lk1 : 0 < (ks.map V.int).length := by
          rw [List.length_map]
          exact List.length_pos_iff.mpr hne
        have j0 := Int.emod_nonneg (y / 3 % (rv.length : Int)) (show ((ks.map V.int).length : Int) ≠ 0 by omega)
        have j1 := Int.emod_lt_of_pos (y / 3 % (rv.length : Int)) (show 0 < ((ks.map V.int).length : Int) by omega)
        obtain ⟨v, hv, hatk⟩ := atI_some (xs := ks.map V.int) (i := y / 3 % (rv.length : Int) % ((ks.map V.int).length : Int)) j0 j1
        obtain ⟨gl, hgl, rfl⟩ := List.mem_map.mp hv
        exact ⟨_, rfl, _, rfl, _, rfl, pk, _, rfl, .inl (SqL.of hk3), _, _, rfl, rfl, (by show (0 : Int) < ((ks.map V.int).length : Int); omega), pk, _, _, _, rfl, rfl, SqL.of hk3, hatk, rfl, gl, hk gl hgl, rfl⟩
      rintro σ5 H5 ⟨rfl, gl, hgl, rfl⟩
      refine ⟨fun σ' H' => H' = H5 ∧ ∃ go : Option Int, (∀ z, go = some z → 0 ≤ z ∧ z < (rs.length : Int)) ∧ σ' = [some (.ref a), some (.int (m : Int)), some (.ref tr), some (.ref tb), some (.int (es.length : Int)), some (.ref pl), some (.ref pk), some (.int (0 + (i : Int))), some (.int y), some (.str wy), some (gv go), o11, o12, o13, o14], ?_, ?_⟩
      · refine ⟨_, rfl, rfl, _, rfl, ?_⟩
        refine itB (fun c => ⟨rfl, none, (fun z hz => by cases hz), rfl⟩) (fun c => ⟨rfl, some gl, (fun z hz => ?_), rfl⟩)
        cases hz
        exact hgl
      rintro σ6 H6 ⟨rfl, go, hgo, rfl⟩
      obtain ⟨j, ej, j4⟩ : ∃ j : Nat, 1 + y / 200 % 4 = (j : Int) + 1 ∧ j < 4 := ⟨(y / 200 % 4).toNat, by omega, by omega⟩
      have pj : 3 + 2 ≤ 2 ^ (9 - j) := Nat.le_trans (show 3 + 2 ≤ 2 ^ 6 by decide) (Nat.pow_le_pow_right (by decide) (by omega))
      refine ⟨_, rfl, _, rfl, _, _, rfl, rfl, _, rfl, _, _, rfl, rfl, ⟨by decide, by decide⟩, _, _, rfl, rfl, (by show (0 : Int) < 4; decide), _, _, rfl, rfl, _, rfl, tb, _, rfl, .inr (SqT.of (s23 _ _ htb)), _, rfl, tr, _, rfl, .inr (SqT.of (s23 _ _ htr)), a, ns, 20 + (0 + (i : Int)), 3, j, bs.length, rs.length, (by show [V.ref a, V.int (20 + (0 + (i : Int))), V.int 3, V.int (1 + y / 200 % 4), V.int (bv.length : Int), V.int (rv.length : Int)] = _; rw [ej, lbv, lrv]; rfl), s23.seq hS, h63, ⟨by omega, by omega⟩, j4, by omega, pj, lr1, fun vg g H7 s7 gd ft ht wt1 => ?_⟩
      have w8 : 2 ^ j ≤ 2 ^ 3 := Nat.pow_le_pow_right (by decide) (by omega)
      have e8 : (2 : Nat) ^ 3 = 8 := by decide
      refine ⟨fun σ' H' => Same H7 H' ∧ ∃ (vg : V) (g : Gd) (o12 : Option V), GdIn H' vg g ∧ Fit bs.length rs.length g ∧ g.ht ≤ 6 ∧ wt g ≤ 600 ∧ σ' = [some (.ref a), some (.int (m : Int)), some (.ref tr), some (.ref tb), some (.int (es.length : Int)), some (.ref pl), some (.ref pk), some (.int (0 + (i : Int))), some (.int y), some (.str wy), some (gv go), some vg, o12, o13, o14], ?_, ?_⟩
      · refine ⟨_, rfl, _, _, rfl, rfl, ⟨by decide, by decide⟩, _, _, rfl, rfl, (by show (0 : Int) < 3; decide), y / 800 % 3, rfl, by omega, by omega, ?_⟩
        refine for_range (fun z σ' H' => Same H7 H' ∧ ∃ (vg : V) (o12 : Option V), GdIn H' vg (negs z g) ∧ σ' = [some (.ref a), some (.int (m : Int)), some (.ref tr), some (.ref tb), some (.int (es.length : Int)), some (.ref pl), some (.ref pk), some (.int (0 + (i : Int))), some (.int y), some (.str wy), some (gv go), some vg, o12, o13, o14]) ⟨Same.refl _, vg, o12, gd, rfl⟩ ?_ ?_
        · rintro z σ' H8 hz ⟨s8, v8, o12, g8, rfl⟩
          exact ⟨_, rfl, small_le (by show 2 ≤ 1000; decide), fun t ht => ⟨s8.trans (same_new ht _), .ref t, _, .neg upd_same (g8.mono (KeepT.new ht _)), rfl⟩⟩
        · rintro σ' H8 ⟨s8, v8, o12, g8, rfl⟩
          refine ⟨s8, v8, negs (y / 800 % 3).toNat g, o12, g8, negs_fit ft _, ?_, ?_, rfl⟩
          · rw [negs_ht]
            omega
          · rw [negs_wt]
            omega
      clear gd ft ht wt1 g vg
      rintro σ8 H8 ⟨s8, vg, g, o12, gd, ft, ht, wt1, rfl⟩
      have s38 := s7.trans s8
      have s08 := s23.trans s38
      have r0 := fun z : Int => Int.emod_nonneg z (show (rv.length : Int) ≠ 0 by omega)
      have r1 := fun z : Int => Int.emod_lt_of_pos z (show 0 < (rv.length : Int) by omega)
      have v0 := fun z : Int => Int.emod_nonneg z (show (es.length : Int) ≠ 0 by omega)
      have v1 := fun z : Int => Int.emod_lt_of_pos z (show 0 < (es.length : Int) by omega)
      refine ⟨_, rfl, _, rfl, _, _, rfl, rfl, a, ns, 20 + (0 + (i : Int)), 71, rfl, s08.seq hS, h63, ⟨by omega, by omega⟩, ⟨by decide, by decide⟩, fun u _ _ => ⟨_, rfl, tr, _, rfl, .inr (SqT.of (s08 _ _ htr)), _, _, rfl, rfl, (by show (0 : Int) < (rv.length : Int); omega), ?_⟩⟩
      refine ⟨_, rfl, _, rfl, _, _, rfl, rfl, a, ns, 20 + (0 + (i : Int)), 72, rfl, s08.seq hS, h63, ⟨by omega, by omega⟩, ⟨by decide, by decide⟩, fun u2 _ _ => ⟨_, rfl, _, _, rfl, rfl, (by show (0 : Int) < (es.length : Int); omega), ?_⟩⟩
      have hl8 := s38 _ _ hl3
      have hk8 := s38 _ _ hk3
      refine ⟨_, rfl, .inl ⟨rfl, _, SqL.of hl8⟩, _, rfl, _, rfl, _, rfl, _, rfl, _, rfl, _, _, rfl, rfl, _, rfl, _, rfl, a, tb, ns, 20 + (0 + (i : Int)), 80, bv, bs, es, rfl, s08.seq hS, h63, ⟨by omega, by omega⟩, ⟨by decide, by decide⟩, s08 _ _ htb, BxsIn.mono hbs (KeepT.of s08), B, fun vd dd H9 s9 hd9 ld9 od9 => ⟨_, rfl, _, rfl, small_le (by show 6 ≤ 1000; decide), fun t ht2 => ?_⟩⟩
      have s10 := same_new ht2 (.tup [.int (u % (rv.length : Int)), .int (u2 % (es.length : Int)), vg, vd, .str wy, gv go])
      have hl10 := s10 _ _ (s9 _ _ hl8)
      have k2 := (KeepT.of s10).trans (KeepT.lst hl10 (.lst (dv ++ [.ref t])))
      have k1 := (KeepT.of ((s3.trans s38).trans s9)).trans k2
      refine ⟨pl, _, _, rfl, rfl, hl10, small1000 (by omega), same_upd hpl ((s08.trans s9).trans s10) _, ?_, dv ++ [.ref t], ds ++ [⟨u % (rv.length : Int), u2 % (es.length : Int), g, dd, wy, go⟩], _, _, _, _, _, _, _, _, upd_same, ?_, by rw [List.length_append, lds]; rfl, ?_, rfl⟩
      · rw [upd_ne np]
        exact s10 _ _ (s9 _ _ hk8)
      · exact (DrsIn.mono hds k1).snoc ⟨t, vg, vd, rfl, KeepT.lst hl10 _ _ _ upd_same, gd.mono ((KeepT.of s9).trans k2), hd9.mono k2⟩
      · intro d hd
        rcases List.mem_append.mp hd with h | h
        · exact hok d h
        · rw [List.mem_singleton.mp h]
          exact ⟨r0 u, by show u % (rv.length : Int) < _; have := r1 u; omega, v0 u2, v1 u2, ft, ht, wt1, ld9, od9, hwy, hgo⟩
    · rintro σ' H2 ⟨s2, hk2, dv, ds, o7, o8, o9, o10, o11, o12, o13, o14, hl2, hds, lds, hok, rfl⟩
      exact ⟨s2, dv, ds, o7, o8, o9, o10, o11, o12, o13, o14, hl2, hds, lds, hok, rfl⟩
  rintro σ1 H2 ⟨s2, dv, ds, o7, o8, o9, o10, o11, o12, o13, o14, hl2, hds, lds, hok, rfl⟩
  exact ⟨_, rfl, pl, _, rfl, .inl ⟨SqL.of hl2, fun t ht => q t dv ds _ (s2.trans (same_new ht _)) upd_same (DrsIn.mono hds (KeepT.new ht _)) lds hok⟩⟩
end
end C43

namespace C43
open PySem L2 Mix Gds Dds Wds Cht Num Spl Txm Dig D42 G41
theorem snoc_list (c : Nat) (x : List Nat) (xs : List (List Nat)) (y : List Nat) : joinL c (x :: xs) ++ c :: y = joinL c (x :: xs ++ [y]) := by simp [joinL]
theorem jl {l : List Str} (h : l ≠ []) (t : Str) : Txt.join " " (l ++ [t]) = (Txt.join " " l ++ (" " : Str)) ++ t := by
  cases l with
  | nil => exact absurd rfl h
  | cons x l =>
    refine ext ?_
    rw [app_list, app_list, join_list sp_list, join_list sp_list, sp_list, List.map_append, List.map_cons]
    have := snoc_list 32 x.cps.toList (l.map fun z => z.cps.toList) t.cps.toList
    simp only [List.map_cons, List.map_nil]
    rw [← this]
    simp
theorem j1 (a : Str) : Txt.join " " [a] = a := by
  refine ext ?_
  rw [join_list sp_list]
  simp [joinL]
theorem j2 (a b : Str) : Txt.join " " [a, b] = (a ++ (" " : Str)) ++ b := by
  rw [show [a, b] = [a] ++ [b] from rfl, jl (by simp), j1]
theorem j3 (a b d : Str) : Txt.join " " [a, b, d] = (((a ++ (" " : Str)) ++ b) ++ (" " : Str)) ++ d := by
  rw [show [a, b, d] = [a, b] ++ [d] from rfl, jl (by simp), j2]
theorem j4 (a b d e : Str) : Txt.join " " [a, b, d, e] = (((((a ++ (" " : Str)) ++ b) ++ (" " : Str)) ++ d) ++ (" " : Str)) ++ e := by
  rw [show [a, b, d, e] = [a, b, d] ++ [e] from rfl, jl (by simp), j3]
theorem lits : ("say " : Str) = ("say" : Str) ++ (" " : Str) ∧ ("send " : Str) = ("send" : Str) ++ (" " : Str) ∧ ("in " : Str) = ("in" : Str) ++ (" " : Str) ∧ ("out " : Str) = ("out" : Str) ++ (" " : Str) ∧ ("do " : Str) = ("do" : Str) ++ (" " : Str) ∧ ("box " : Str) = ("box" : Str) ++ (" " : Str) ∧ ("door " : Str) = ("door" : Str) ++ (" " : Str) ∧ (" keeps " : Str) = (" " : Str) ++ (("keeps" : Str) ++ (" " : Str)) ∧ (" lamp " : Str) = (" " : Str) ++ (("lamp" : Str) ++ (" " : Str)) := by decide +kernel
def spDRow (K : PySem.W.Frag) : Sp := fun vs H Q _ => ∃ (v : V) (tb te : Addr) (d : Dd) (bv : List V) (bs : List Bx) (es : List Str), vs = [v, .ref tb, .ref te] ∧ DdIn H v d ∧ DdO bs es d ∧ H tb = some (.tup bv) ∧ BxsIn H bv bs ∧ H te = some (.tup (es.map V.str)) ∧ Q (.str (Txt.join " " (wordsD bs es d))) H
def spGRow (K : PySem.W.Frag) (n : Nat) : Sp := fun vs H Q _ => ∃ (v : V) (tb tr : Addr) (g : Gd) (nb nr : List Str), vs = [v, .ref tb, .ref tr] ∧ GdIn H v g ∧ g.ht ≤ n ∧ wt g ≤ 1000 ∧ Fit nb.length nr.length g ∧ Nms K H tb nb ∧ Nms K H tr nr ∧ (∀ z ∈ nb, z.length ≤ 12) ∧ (∀ z ∈ nr, z.length ≤ 12) ∧ ∀ H', Same H H' → Q (.str (T nb nr g)) H'
theorem gd_head {H : Hp} {v : V} {g : Gd} (h : GdIn H v g) : ∃ (a : Addr) (us : List V), v = .ref a ∧ H a = some (.tup (.str (kG g) :: us)) ∧ (kG g = "in" → ∃ r, g = .inn r ∧ us = [.int r]) ∧ ((kG g = "is" ∨ kG g = "under") → ∃ b m, us = [.int b, .int m] ∧ (g = .is b m ∨ g = .under b m)) ∧ (kG g ≠ "in" → ¬ (kG g = "is" ∨ kG g = "under") → All2 (GdIn H) us (Prg.kids g)) := by
  cases h with
  | @yes a e => exact ⟨a, [], rfl, e, fun h => absurd h (by show ¬ ("yes" : Str) = "in"; decide +kernel), fun h => absurd h (by show ¬ (("yes" : Str) = "is" ∨ ("yes" : Str) = "under"); decide +kernel), fun _ _ => .nil⟩
  | @is a b m e => exact ⟨a, _, rfl, e, fun h => absurd h (by show ¬ ("is" : Str) = "in"; decide +kernel), fun _ => ⟨b, m, rfl, .inl rfl⟩, fun _ h => absurd (.inl rfl) h⟩
  | @under a b m e => exact ⟨a, _, rfl, e, fun h => absurd h (by show ¬ ("under" : Str) = "in"; decide +kernel), fun _ => ⟨b, m, rfl, .inr rfl⟩, fun _ h => absurd (.inr rfl) h⟩
  | @inn a r e => exact ⟨a, _, rfl, e, fun _ => ⟨r, rfl, rfl⟩, fun h => absurd h (by show ¬ (("in" : Str) = "is" ∨ ("in" : Str) = "under"); decide +kernel), fun h _ => absurd rfl h⟩
  | @neg a u k e hk => exact ⟨a, _, rfl, e, fun h => absurd h (by show ¬ ("not" : Str) = "in"; decide +kernel), fun h => absurd h (by show ¬ (("not" : Str) = "is" ∨ ("not" : Str) = "under"); decide +kernel), fun _ _ => .cons hk .nil⟩
  | @both a u1 u2 k1 k2 e h1 h2 => exact ⟨a, _, rfl, e, fun h => absurd h (by show ¬ ("both" : Str) = "in"; decide +kernel), fun h => absurd h (by show ¬ (("both" : Str) = "is" ∨ ("both" : Str) = "under"); decide +kernel), fun _ _ => .cons h1 (.cons h2 .nil)⟩
  | @either a u1 u2 k1 k2 e h1 h2 => exact ⟨a, _, rfl, e, fun h => absurd h (by show ¬ ("either" : Str) = "in"; decide +kernel), fun h => absurd h (by show ¬ (("either" : Str) = "is" ∨ ("either" : Str) = "under"); decide +kernel), fun _ _ => .cons h1 (.cons h2 .nil)⟩
theorem tS (n : Int) : Str.ofString (toString n) = fig n := str_figs n
section
variable {P : Program} {w : World} {K : PySem.W.Frag} {mg : Str → Option Value} {base : Heap}
theorem sc_law_chart : FnScope ["_law_script", "_law_big", "_law_many", "_law_events", "_law_boxes_here", "_law_rooms_here", "_law_count", "_law_doors_here", "_law_order"] ["_law_script"] (defScope s_L_chart) := ⟨rfl, rfl, rfl, by decide +kernel, rfl, by decide +kernel, by decide +kernel⟩
theorem ok_lchart {n : Nat} {f gm gn gb gr gd : Addr} {fd dm dn db dr dd : FuncData} (F : Fun K "_law_chart" "_law_chart" s_L_chart f fd)
    (G_law_mixed : FnOk P w K mg base CX0 n gm dm ["_law_script", "_law_k", "_law_salt"] (spMixed K)) (b_law_mixed : Binds K dm ["_law_script", "_law_k", "_law_salt"] []) (k_law_mixed : PySem.W.keepIn K (.ref gm) = true) (m_law_mixed : mg "_law_mixed" = some (.ref gm))
    (G_law_names : FnOk P w K mg base CX0 n gn dn ["_law_script", "_law_many", "_law_salt"] (spLNames K)) (b_law_names : Binds K dn ["_law_script", "_law_many", "_law_salt"] []) (k_law_names : PySem.W.keepIn K (.ref gn) = true) (m_law_names : mg "_law_names" = some (.ref gn))
    (G_law_boxes : FnOk P w K mg base CX0 n gb db ["_law_script", "_law_many"] (spBoxesL K)) (b_law_boxes : Binds K db ["_law_script", "_law_many"] []) (k_law_boxes : PySem.W.keepIn K (.ref gb) = true) (m_law_boxes : mg "_law_boxes" = some (.ref gb))
    (G_law_rooms : FnOk P w K mg base CX0 n gr dr ["_law_script", "_law_many", "_law_boxes_here", "_law_events"] (spRoomsL K)) (b_law_rooms : Binds K dr ["_law_script", "_law_many", "_law_boxes_here", "_law_events"] []) (k_law_rooms : PySem.W.keepIn K (.ref gr) = true) (m_law_rooms : mg "_law_rooms" = some (.ref gr))
    (G_law_doors : FnOk P w K mg base CX0 n gd dd ["_law_script", "_law_many", "_law_rooms_here", "_law_boxes_here", "_law_events"] (spDoorsL K)) (b_law_doors : Binds K dd ["_law_script", "_law_many", "_law_rooms_here", "_law_boxes_here", "_law_events"] []) (k_law_doors : PySem.W.keepIn K (.ref gd) = true) (m_law_doors : mg "_law_doors" = some (.ref gd)) (m_len : mg "len" = none) (m_min : mg "min" = none) :
    FnOk P w K mg base CX0 (n + 1) f fd ["_law_script"] (spChartL K) := by
  refine F.ok sc_law_chart (fun vs H Q E h => ?_) (fun cdv A outer s H vs Q E hr h => ?_)
  · obtain ⟨a, ns, rfl, _⟩ := h
    rfl
  obtain ⟨a, ns, rfl, hS, h63, q⟩ := h
  refine ⟨_, (pss_cons (ps_set (i := 1) sc_law_chart.nd rfl (Or.inl rfl) (pe_op op_mod (pe_call G_law_mixed hr rfl m_law_mixed k_law_mixed b_law_mixed .nil pass0 (pa_cons (pv 0) (pa_cons pe_int (pa_cons pe_int pa_nil)))) pe_int))
    (pss_cons (ps_set (i := 2) sc_law_chart.nd rfl (Or.inl rfl) (pe_op op_add pe_int (pe_op op_mod (pe_call G_law_mixed hr rfl m_law_mixed k_law_mixed b_law_mixed .nil pass0 (pa_cons (pv 0) (pa_cons pe_int (pa_cons pe_int pa_nil)))) pe_int)))
    (pss_cut (ps_if (pt_cmpR op_eq (pv 1) pe_int (nomark _))
      (pss_one (ps_set (i := 2) sc_law_chart.nd rfl (Or.inl rfl) (pe_op op_sub pe_int (pe_op op_mul (pe_op op_mod (pe_call G_law_mixed hr rfl m_law_mixed k_law_mixed b_law_mixed .nil pass0 (pa_cons (pv 0) (pa_cons pe_int (pa_cons pe_int pa_nil)))) pe_int) (pe_op op_mod (pe_call G_law_mixed hr rfl m_law_mixed k_law_mixed b_law_mixed .nil pass0 (pa_cons (pv 0) (pa_cons pe_int (pa_cons pe_int pa_nil)))) pe_int)))))
      pss_nil)
    (pss_cons (ps_set (i := 3) sc_law_chart.nd rfl (Or.inl rfl) (pe_call G_law_names hr rfl m_law_names k_law_names b_law_names .nil pass0 (pa_cons (pv 0) (pa_cons (pe_op op_mod (pe_call G_law_mixed hr rfl m_law_mixed k_law_mixed b_law_mixed .nil pass0 (pa_cons (pv 0) (pa_cons pe_int (pa_cons pe_int pa_nil)))) pe_int) (pa_cons pe_int pa_nil)))))
    (pss_cons (ps_set (i := 4) sc_law_chart.nd rfl (Or.inl rfl) (pe_call G_law_boxes hr rfl m_law_boxes k_law_boxes b_law_boxes .nil pass0 (pa_cons (pv 0) (pa_cons (pe_op op_mod (pe_call G_law_mixed hr rfl m_law_mixed k_law_mixed b_law_mixed .nil pass0 (pa_cons (pv 0) (pa_cons pe_int (pa_cons pe_int pa_nil)))) pe_int) pa_nil))))
    (pss_cons (ps_set (i := 5) sc_law_chart.nd rfl (Or.inl rfl) (pe_call G_law_rooms hr rfl m_law_rooms k_law_rooms b_law_rooms .nil pass0 (pa_cons (pv 0) (pa_cons (pv 2) (pa_cons (pv 4) (pa_cons (pe_callB call_len_seq rfl m_len PySem.boot_len (pa_cons (pv 3) pa_nil)) pa_nil))))))
    (pss_cons (ps_set (i := 6) sc_law_chart.nd rfl (Or.inl rfl) (pe_op op_mod (pe_call G_law_mixed hr rfl m_law_mixed k_law_mixed b_law_mixed .nil pass0 (pa_cons (pv 0) (pa_cons pe_int (pa_cons pe_int pa_nil)))) pe_int))
    (pss_cut (ps_if (pt_cmpR op_eq (pv 1) pe_int (nomark _))
      (pss_one (ps_set (i := 6) sc_law_chart.nd rfl (Or.inl rfl) (pe_op op_sub pe_int (pe_op op_mul (pe_op op_mod (pe_call G_law_mixed hr rfl m_law_mixed k_law_mixed b_law_mixed .nil pass0 (pa_cons (pv 0) (pa_cons pe_int (pa_cons pe_int pa_nil)))) pe_int) (pe_op op_mod (pe_call G_law_mixed hr rfl m_law_mixed k_law_mixed b_law_mixed .nil pass0 (pa_cons (pv 0) (pa_cons pe_int (pa_cons pe_int pa_nil)))) pe_int)))))
      pss_nil)
    (pss_cons (ps_set (i := 7) sc_law_chart.nd rfl (Or.inl rfl) (pe_call G_law_doors hr rfl m_law_doors k_law_doors b_law_doors .nil pass0 (pa_cons (pv 0) (pa_cons (pe_op op_mul (pv 6) (pe_callB (call_min2 rfl) rfl m_min PyProof.Rows.boot_min (pa_cons (pe_callB call_len_seq rfl m_len PySem.boot_len (pa_cons (pv 3) pa_nil)) (pa_cons pe_int pa_nil)))) (pa_cons (pv 5) (pa_cons (pv 4) (pa_cons (pe_callB call_len_seq rfl m_len PySem.boot_len (pa_cons (pv 3) pa_nil)) pa_nil)))))))
    (pss_cons (ps_set (i := 8) sc_law_chart.nd rfl (Or.inl rfl) (pe_ix ix_list (pe_lst (pa_cons pe_str (pa_cons pe_str pa_nil))) (pe_op op_mod (pe_call G_law_mixed hr rfl m_law_mixed k_law_mixed b_law_mixed .nil pass0 (pa_cons (pv 0) (pa_cons pe_int (pa_cons pe_int pa_nil)))) pe_int) (fun _ _ => rfl)))
    (pss_one (ps_ret (pe_tup (pa_cons (pv 8) (pa_cons (pe_op op_mod (pe_call G_law_mixed hr rfl m_law_mixed k_law_mixed b_law_mixed .nil pass0 (pa_cons (pv 0) (pa_cons pe_int (pa_cons pe_int pa_nil)))) pe_int) (pa_cons (pe_op op_add pe_int (pe_op op_mod (pe_call G_law_mixed hr rfl m_law_mixed k_law_mixed b_law_mixed .nil pass0 (pa_cons (pv 0) (pa_cons pe_int (pa_cons pe_int pa_nil)))) pe_int)) (pa_cons (pv 4) (pa_cons (pv 3) (pa_cons (pv 5) (pa_cons (pv 7) pa_nil)))))))))))))))))))), ?_⟩
  have z2 : (0 : Int) ≤ 0 ∧ (0 : Int) ≤ 1000000 := ⟨by decide, by decide⟩
  have z1 : (0 : Int) ≤ 1 ∧ (1 : Int) ≤ 1000000 := ⟨by decide, by decide⟩
  refine ⟨_, rfl, a, ns, 0, 1, rfl, hS, h63, z2, ⟨by decide, by decide⟩, fun b b0 b1 => ⟨_, _, rfl, rfl, (by show (0 : Int) < 8; decide), ?_⟩⟩
  refine ⟨_, rfl, a, ns, 0, 2, rfl, hS, h63, z2, ⟨by decide, by decide⟩, fun x x0 x1 => ⟨_, _, rfl, rfl, (by show (0 : Int) < 9; decide), _, _, rfl, rfl, ?_⟩⟩
  refine ⟨fun σ' H' => H' = H ∧ ∃ m : Nat, 1 ≤ m ∧ m ≤ 40 ∧ σ' = [some (.ref a), some (.int (b % 8)), some (.int (m : Int)), none, none, none, none, none, none], ?_, ?_⟩
  · refine ⟨_, rfl, rfl, _, rfl, ?_⟩
    refine itB (fun c => ?_) (fun c => ?_)
    · refine ⟨_, rfl, a, ns, 0, 3, rfl, hS, h63, z2, ⟨by decide, by decide⟩, fun u u0 u1 => ⟨_, _, rfl, rfl, (by show (0 : Int) < 2; decide), _, rfl, a, ns, 0, 4, rfl, hS, h63, z2, ⟨by decide, by decide⟩, fun v v0 v1 => ⟨_, _, rfl, rfl, (by show (0 : Int) < 30; decide), _, _, rfl, rfl, mulIn (by show 0 ≤ u % 2; omega) (by show u % 2 < 2 ^ 64; omega), _, _, rfl, rfl, rfl, (40 - u % 2 * (v % 30)).toNat, ?_, ?_, ?_⟩⟩⟩
      · rcases (show u % 2 = 0 ∨ u % 2 = 1 by omega) with e | e <;> rw [e] <;> omega
      · rcases (show u % 2 = 0 ∨ u % 2 = 1 by omega) with e | e <;> rw [e] <;> omega
      · have : (((40 - u % 2 * (v % 30)).toNat : Nat) : Int) = 40 - u % 2 * (v % 30) := by
          rcases (show u % 2 = 0 ∨ u % 2 = 1 by omega) with e | e <;> rw [e] <;> omega
        rw [this]
        rfl
    · refine ⟨rfl, (1 + x % 9).toNat, by omega, by omega, ?_⟩
      rw [show (((1 + x % 9).toNat : Nat) : Int) = 1 + x % 9 by omega]
      rfl
  rintro σ1 H1 ⟨rfl, m, m1, m40, rfl⟩
  refine ⟨_, rfl, _, rfl, a, ns, 1, 1, rfl, hS, h63, z1, ⟨by decide, by decide⟩, fun y y0 y1 => ?_⟩
  obtain ⟨ne, ene, ne9⟩ : ∃ ne : Nat, y % 9 = (ne : Int) ∧ ne ≤ 8 := ⟨(y % 9).toNat, by omega, by omega⟩
  refine ⟨_, _, rfl, rfl, (by show (0 : Int) < 9; decide), a, ns, ne, 46, (by show [V.ref a, V.int (y % 9), V.int 46] = _; rw [ene]), hS, h63, by omega, ⟨by decide, by decide⟩, fun te xe H2 s2 hte => ?_⟩
  have lev : ((List.range ne).map (nameAt xe)).length = ne := by rw [List.length_map, List.length_range]
  have hev : ∀ z ∈ (List.range ne).map (nameAt xe), Wd z := fun z hz => by
    obtain ⟨k, _, rfl⟩ := List.mem_map.mp hz
    exact (at_lw xe k).wd
  generalize (List.range ne).map (nameAt xe) = es at hte lev hev
  refine ⟨_, rfl, _, rfl, a, ns, 1, 2, rfl, s2.seq hS, h63, z1, ⟨by decide, by decide⟩, fun u u0 u1 => ?_⟩
  obtain ⟨nb, enb, nb6⟩ : ∃ nb : Nat, u % 7 = (nb : Int) ∧ nb ≤ 6 := ⟨(u % 7).toNat, by omega, by omega⟩
  refine ⟨_, _, rfl, rfl, (by show (0 : Int) < 7; decide), a, ns, nb, (by show [V.ref a, V.int (u % 7)] = _; rw [enb]), s2.seq hS, h63, by omega, fun tb bv bs xb H3 s3 htb hbs hnm hsz => ?_⟩
  have lbs : bs.length = nb := by
    have := congrArg List.length hnm
    rw [List.length_map, List.length_map, List.length_range] at this
    exact this
  have hbn : ∀ x ∈ bs, Wd x.nm := fun x hx => by
    have : x.nm ∈ bs.map (·.nm) := List.mem_map.mpr ⟨x, hx, rfl⟩
    rw [hnm] at this
    obtain ⟨k, _, e⟩ := List.mem_map.mp this
    rw [← e]
    exact (at_lw xb k).wd
  have B : BE bs es := ⟨fun x hx => ⟨hbn x hx, (hsz x hx).1, (hsz x hx).2.1⟩, by omega, hev, by omega⟩
  have s03 := s2.trans s3
  have lem : (es.map V.str).length = es.length := List.length_map _
  refine ⟨_, rfl, _, rfl, _, rfl, _, rfl, te, _, rfl, .inr (SqT.of (s3 _ _ hte)), a, tb, ns, m, bv, bs, es, (by show [V.ref a, V.int (m : Int), V.ref tb, V.int ((es.map V.str).length : Int)] = _; rw [lem]), s03.seq hS, h63, m1, m40, htb, hbs, B, fun tr rv rs xr H4 s4 htr hrs lrs hrm => ?_⟩
  have s04 := s03.trans s4
  refine ⟨_, rfl, a, ns, 1, 3, rfl, s04.seq hS, h63, z1, ⟨by decide, by decide⟩, fun ct c0 c1 => ⟨_, _, rfl, rfl, (by show (0 : Int) < 7; decide), ?_⟩⟩
  refine ⟨fun σ' H' => H' = H4 ∧ ∃ k : Nat, k ≤ 60 ∧ σ' = [some (.ref a), some (.int (b % 8)), some (.int (m : Int)), some (.ref te), some (.ref tb), some (.ref tr), some (.int (k : Int)), none, none], ?_, ?_⟩
  · refine ⟨_, rfl, rfl, _, rfl, ?_⟩
    refine itB (fun c => ?_) (fun c => ?_)
    · refine ⟨_, rfl, a, ns, 1, 4, rfl, s04.seq hS, h63, z1, ⟨by decide, by decide⟩, fun u u0 u1 => ⟨_, _, rfl, rfl, (by show (0 : Int) < 2; decide), _, rfl, a, ns, 1, 5, rfl, s04.seq hS, h63, z1, ⟨by decide, by decide⟩, fun v v0 v1 => ⟨_, _, rfl, rfl, (by show (0 : Int) < 50; decide), _, _, rfl, rfl, mulIn (by show 0 ≤ u % 2; omega) (by show u % 2 < 2 ^ 64; omega), _, _, rfl, rfl, rfl, (60 - u % 2 * (v % 50)).toNat, ?_, ?_⟩⟩⟩
      · rcases (show u % 2 = 0 ∨ u % 2 = 1 by omega) with e | e <;> rw [e] <;> omega
      · have : (((60 - u % 2 * (v % 50)).toNat : Nat) : Int) = 60 - u % 2 * (v % 50) := by
          rcases (show u % 2 = 0 ∨ u % 2 = 1 by omega) with e | e <;> rw [e] <;> omega
        rw [this]
        rfl
    · refine ⟨rfl, (ct % 7).toNat, by omega, ?_⟩
      rw [show (((ct % 7).toNat : Nat) : Int) = ct % 7 by omega]
      rfl
  rintro σ2 H5 ⟨rfl, k, k60, rfl⟩
  obtain ⟨md, emd, md60, mde⟩ : ∃ md : Nat, (k : Int) * (if (1 : Int) < (es.length : Int) then 1 else (es.length : Int)) = (md : Int) ∧ md ≤ 60 ∧ (1 ≤ md → 1 ≤ es.length) := by
    by_cases h1 : (1 : Int) < (es.length : Int)
    · rw [if_pos h1]
      exact ⟨k, by omega, k60, fun _ => by omega⟩
    · rw [if_neg h1]
      rcases (show es.length = 0 ∨ es.length = 1 by omega) with e | e
      · rw [e]
        exact ⟨0, by simp, by decide, fun h => by omega⟩
      · rw [e]
        exact ⟨k, by simp, k60, fun _ => Nat.le_refl _⟩
  have hte5 := (s3.trans s4) _ _ hte
  refine ⟨_, rfl, _, rfl, _, rfl, te, _, rfl, .inr (SqT.of hte5), _, _, rfl, _, _, rfl, rfl, mulIn (by omega) (by omega), _, rfl, _, rfl, _, rfl, te, _, rfl, .inr (SqT.of hte5), a, tr, tb, ns, md, rv, bv, rs, bs, es, (by show [V.ref a, V.int ((k : Int) * (if (1 : Int) < ((es.map V.str).length : Int) then 1 else ((es.map V.str).length : Int))), V.ref tr, V.ref tb, V.int ((es.map V.str).length : Int)] = _; rw [lem, emd]), s04.seq hS, h63, md60, mde, htr, hrs, by omega, by omega, s4 _ _ htb, BxsIn.mono hbs (KeepT.of s4), B, fun td dv ds H6 s6 htd hds lds hdr => ?_⟩
  have s06 := s04.trans s6
  refine ⟨small_le (by show 2 ≤ 1000; decide), fun p hp => ⟨_, rfl, a, ns, 1, 6, rfl, (s06.trans (same_new hp _)).seq hS, h63, z1, ⟨by decide, by decide⟩, fun u4 _ _ => ?_⟩⟩
  obtain ⟨od, hod, hat⟩ := atI_strs' (zs := [("inner" : Str), "outer"]) (i := u4 % 2) (by omega) (by show _ < (2 : Int); omega)
  refine ⟨_, _, rfl, rfl, (by show (0 : Int) < 2; decide), p, _, _, _, rfl, rfl, SqL.of upd_same, hat, ?_⟩
  have s7 := same_new hp (.lst ([("inner" : Str), "outer"].map V.str))
  refine ⟨_, rfl, _, rfl, a, ns, 0, 7, rfl, (s06.trans s7).seq hS, h63, z2, ⟨by decide, by decide⟩, fun u5 _ _ => ⟨_, _, rfl, rfl, (by show (0 : Int) < 13; decide), _, rfl, a, ns, 0, 8, rfl, (s06.trans s7).seq hS, h63, z2, ⟨by decide, by decide⟩, fun u6 _ _ => ⟨_, _, rfl, rfl, (by show (0 : Int) < 20; decide), _, _, rfl, rfl, _, rfl, _, rfl, _, rfl, _, rfl, small_le (by show 7 ≤ 1000; decide), fun t ht => ?_⟩⟩⟩
  have s8 := s7.trans (same_new ht (.tup [.str od, .int (u5 % 13), .int (1 + u6 % 20), .ref tb, .ref te, .ref tr, .ref td]))
  have s68 := s6.trans s8
  refine q t ⟨od, u5 % 13, 1 + u6 % 20, bs, es, rs, ds⟩ _ (s04.trans s68) ⟨tb, te, tr, td, bv, rv, dv, upd_same, (s4.trans s68) _ _ htb, BxsIn.mono hbs (KeepT.of (s4.trans s68)), s68 _ _ hte5, s68 _ _ htr, RosIn.mono hrs (KeepT.of s68), s8 _ _ htd, DrsIn.mono hds (KeepT.of s8)⟩ ?_
  have hw : Wd od := by
    simp only [List.mem_cons, List.not_mem_nil, or_false] at hod
    rcases hod with e | e <;> rw [e] <;> exact wdl (by simp)
  have dd : ∀ d : Dd, DdO bs es d → DdOk ⟨od, u5 % 13, 1 + u6 % 20, bs, es, rs, ds⟩ d := fun d h => ⟨h.fit, h.ws⟩
  refine ⟨hw, by show (u5 % 13).natAbs ≤ _; omega, by show (1 + u6 % 20).natAbs ≤ _; omega, by show bs.length ≤ 10; omega, fun x hx => ⟨hbn x hx, ?_, ?_⟩, by show es.length ≤ 10; omega, hev, by show rs.length ≤ 40; omega, fun r hr => ?_, by show ds.length ≤ 60; omega, fun d hd => ?_⟩
  · have := hsz x hx
    omega
  · have := hsz x hx
    omega
  · have h := hrm r hr
    exact ⟨h.nm, h.kind, h.keeps, h.lamp, h.d0, h.d1, h.li, h.lo, fun d hd => dd d (h.ins d hd), fun d hd => dd d (h.outs d hd)⟩
  · have h := hdr d hd
    exact ⟨h.r0, h.r1, h.e0, h.e1, h.fit, h.ht, h.wt, h.ld, fun x hx => dd x (h.deeds x hx), h.way, h.goal⟩
theorem sc_law_deed_row : FnScope ["_law_deed_here", "_law_boxes_here", "_law_events"] ["_law_deed_here", "_law_boxes_here", "_law_events"] (defScope s_L_deed_row) := ⟨rfl, rfl, rfl, by decide +kernel, rfl, by decide +kernel, by decide +kernel⟩
theorem ok_ldrow {f : Addr} {fd : FuncData} (F : Fun K "_law_deed_row" "_law_deed_row" s_L_deed_row f fd) (m_str : mg "str" = none) : FnOk P w K mg base CX0 1 f fd ["_law_deed_here", "_law_boxes_here", "_law_events"] (spDRow K) := by
  refine F.ok sc_law_deed_row (fun vs H Q E h => ?_) (fun cdv A outer s H vs Q E hr h => ?_)
  · obtain ⟨v, tb, te, d, bv, bs, es, rfl, _⟩ := h
    rfl
  obtain ⟨v, tb, te, d, bv, bs, es, rfl, hd, ok, htb, hbs, hte, q⟩ := h
  refine ⟨_, (pss_cons (ps_if (pt_cmpR op_eq (pe_ix ix_tup (pv 0) pe_int (fun _ _ => rfl)) pe_str (nomark _))
      (pss_one (ps_ret (pe_op op_add_str pe_str (pe_ix ix_tup (pv 0) pe_int (fun _ _ => rfl)))))
      pss_nil)
    (pss_cons (ps_if (pt_cmpR op_eq (pe_ix ix_tup (pv 0) pe_int (fun _ _ => rfl)) pe_str (nomark _))
      (pss_one (ps_ret (pe_op op_add_str pe_str (pe_ix ix_tup (pv 2) (pe_ix ix_tup (pv 0) pe_int (fun _ _ => rfl)) (fun _ _ => rfl)))))
      pss_nil)
    (pss_one (ps_ret (pe_op op_add_str (pe_op op_add_str (pe_op op_add_str (pe_op op_add_str (pe_ix ix_tup (pv 0) pe_int (fun _ _ => rfl)) pe_str) (pe_ix ix_tup (pe_ix ix_tup (pv 1) (pe_ix ix_tup (pv 0) pe_int (fun _ _ => rfl)) (fun _ _ => rfl)) pe_int (fun _ _ => rfl))) pe_str) (pe_callTy call_strI rfl m_str PyProof.Rows.boot_str (pa_cons (pe_ix ix_tup (pv 0) pe_int (fun _ _ => rfl)) pa_nil))))))), ?_⟩
  have l_ : (" " : Str).length = 1 := by decide +kernel
  have hw := ok.ws
  cases hd with
  | @say a w e =>
    have hw1 : w.length ≤ 52 := (hw w (by show w ∈ [("say" : Str), w]; simp)).1
    have ew : Txt.join " " (wordsD bs es (.say w)) = ("say " : Str) ++ w := by
      show Txt.join " " [("say" : Str), w] = _
      rw [j2, lits.1]
    rw [ew] at q
    have l4 : ("say " : Str).length = 4 := by decide +kernel
    refine ⟨_, rfl, a, _, _, _, rfl, rfl, SqT.of e, rfl, rfl, _, rfl, strEq ?_⟩
    exact ⟨_, rfl, a, _, _, _, rfl, rfl, SqT.of e, rfl, _, _, rfl, rfl, small_le (by rw [l4]; omega), q⟩
  | @send a x e =>
    have hf : 0 ≤ x ∧ x < (es.length : Int) := ok.fit
    have hw1 : (es.getD x.toNat ("" : Str)).length ≤ 52 := (hw _ (by show _ ∈ [("send" : Str), es.getD x.toNat ("" : Str)]; simp)).1
    have ew : Txt.join " " (wordsD bs es (.send x)) = ("send " : Str) ++ es.getD x.toNat ("" : Str) := by
      show Txt.join " " [("send" : Str), es.getD x.toNat ("" : Str)] = _
      rw [j2, lits.2.1]
    rw [ew] at q
    have l5 : ("send " : Str).length = 5 := by decide +kernel
    refine ⟨_, rfl, a, _, _, _, rfl, rfl, SqT.of e, rfl, rfl, _, rfl, strNe n1 ?_⟩
    refine ⟨_, rfl, a, _, _, _, rfl, rfl, SqT.of e, rfl, rfl, _, rfl, strEq ?_⟩
    exact ⟨_, rfl, _, rfl, a, _, _, _, rfl, rfl, SqT.of e, rfl, te, _, _, _, rfl, rfl, SqT.of hte, atI_getD hf.1 hf.2, _, _, rfl, rfl, small_le (by rw [l5]; omega), q⟩
  | @set a b m e =>
    have hf : 0 ≤ b ∧ b < (bs.length : Int) ∧ m.natAbs < 10 ^ 300 := ok.fit
    have hw1 : ((bs.map (·.nm)).getD b.toNat ("" : Str)).length ≤ 52 := (hw _ (by show _ ∈ [("set" : Str), (bs.map (·.nm)).getD b.toNat ("" : Str), fig m]; simp)).1
    have hw2 : (fig m).length ≤ 52 := (hw _ (by show _ ∈ [("set" : Str), (bs.map (·.nm)).getD b.toNat ("" : Str), fig m]; simp)).1
    have ew : Txt.join " " (wordsD bs es (.set b m)) = (((("set" : Str) ++ (" " : Str)) ++ (bs.map (·.nm)).getD b.toNat ("" : Str)) ++ (" " : Str)) ++ fig m := by
      show Txt.join " " [("set" : Str), (bs.map (·.nm)).getD b.toNat ("" : Str), fig m] = _
      rw [j3]
    rw [ew, ← tS] at q
    have l3 : ("set" : Str).length = 3 := by decide +kernel
    obtain ⟨xs, t1, tl, hx, hat, ht1⟩ := (nms_bx (K := K) htb hbs).at hf.1 (by rw [List.length_map]; exact hf.2.1)
    refine ⟨_, rfl, a, _, _, _, rfl, rfl, SqT.of e, rfl, rfl, _, rfl, strNe n2 ?_⟩
    refine ⟨_, rfl, a, _, _, _, rfl, rfl, SqT.of e, rfl, rfl, _, rfl, strNe n3 ?_⟩
    exact ⟨_, rfl, a, _, _, _, rfl, rfl, SqT.of e, rfl, _, _, rfl, rfl, small_le (by rw [l3, l_]; decide), _, rfl, _, rfl, a, _, _, _, rfl, rfl, SqT.of e, rfl, tb, _, _, _, rfl, rfl, hx, hat, t1, _, _, _, rfl, rfl, SqT.of ht1, atI_head, _, _, rfl, rfl, small_le (by rw [Str.length_append, l3, l_]; omega), _, _, rfl, rfl, small_le (by rw [Str.length_append, Str.length_append, l3, l_]; omega), _, rfl, a, _, _, _, rfl, rfl, SqT.of e, rfl, _, rfl, log_lt hf.2.2, _, _, rfl, rfl, small_le (by rw [tS, Str.length_append, Str.length_append, Str.length_append, l3, l_]; omega), q⟩
  | @add a b m e =>
    have hf : 0 ≤ b ∧ b < (bs.length : Int) ∧ m.natAbs < 10 ^ 300 := ok.fit
    have hw1 : ((bs.map (·.nm)).getD b.toNat ("" : Str)).length ≤ 52 := (hw _ (by show _ ∈ [("add" : Str), (bs.map (·.nm)).getD b.toNat ("" : Str), fig m]; simp)).1
    have hw2 : (fig m).length ≤ 52 := (hw _ (by show _ ∈ [("add" : Str), (bs.map (·.nm)).getD b.toNat ("" : Str), fig m]; simp)).1
    have ew : Txt.join " " (wordsD bs es (.add b m)) = (((("add" : Str) ++ (" " : Str)) ++ (bs.map (·.nm)).getD b.toNat ("" : Str)) ++ (" " : Str)) ++ fig m := by
      show Txt.join " " [("add" : Str), (bs.map (·.nm)).getD b.toNat ("" : Str), fig m] = _
      rw [j3]
    rw [ew, ← tS] at q
    have l3 : ("add" : Str).length = 3 := by decide +kernel
    obtain ⟨xs, t1, tl, hx, hat, ht1⟩ := (nms_bx (K := K) htb hbs).at hf.1 (by rw [List.length_map]; exact hf.2.1)
    refine ⟨_, rfl, a, _, _, _, rfl, rfl, SqT.of e, rfl, rfl, _, rfl, strNe n4 ?_⟩
    refine ⟨_, rfl, a, _, _, _, rfl, rfl, SqT.of e, rfl, rfl, _, rfl, strNe n5 ?_⟩
    exact ⟨_, rfl, a, _, _, _, rfl, rfl, SqT.of e, rfl, _, _, rfl, rfl, small_le (by rw [l3, l_]; decide), _, rfl, _, rfl, a, _, _, _, rfl, rfl, SqT.of e, rfl, tb, _, _, _, rfl, rfl, hx, hat, t1, _, _, _, rfl, rfl, SqT.of ht1, atI_head, _, _, rfl, rfl, small_le (by rw [Str.length_append, l3, l_]; omega), _, _, rfl, rfl, small_le (by rw [Str.length_append, Str.length_append, l3, l_]; omega), _, rfl, a, _, _, _, rfl, rfl, SqT.of e, rfl, _, rfl, log_lt hf.2.2, _, _, rfl, rfl, small_le (by rw [tS, Str.length_append, Str.length_append, Str.length_append, l3, l_]; omega), q⟩
theorem sc_law_guard_row : FnScope ["_law_guard_here", "_law_boxes_here", "_law_rooms_here", "_law_row", "_law_inner"] ["_law_guard_here", "_law_boxes_here", "_law_rooms_here"] (defScope s_L_guard_row) := ⟨rfl, rfl, rfl, by decide +kernel, rfl, by decide +kernel, by decide +kernel⟩
theorem ok_lgrow {n : Nat} {f : Addr} {fd : FuncData} (F : Fun K "_law_guard_row" "_law_guard_row" s_L_guard_row f fd) (G_law_guard_row : FnOk P w K mg base CX0 n f fd ["_law_guard_here", "_law_boxes_here", "_law_rooms_here"] (spGRow K n)) (b_law_guard_row : Binds K fd ["_law_guard_here", "_law_boxes_here", "_law_rooms_here"] []) (k_law_guard_row : PySem.W.keepIn K (.ref f) = true) (m_law_guard_row : mg "_law_guard_row" = some (.ref f)) (m_str : mg "str" = none) : FnOk P w K mg base CX0 (n + 1) f fd ["_law_guard_here", "_law_boxes_here", "_law_rooms_here"] (spGRow K (n + 1)) := by
  refine F.ok sc_law_guard_row (fun vs H Q E h => ?_) (fun cdv A outer s H vs Q E hr h => ?_)
  · obtain ⟨v, tb, tr, g, nb, nr, rfl, _⟩ := h
    rfl
  obtain ⟨v, tb, tr, g, nb, nr, rfl, hg, hn, hwt, fit, hb, hr2, lb, lr, q⟩ := h
  obtain ⟨a, us, rfl, ha, c2, c3, c4⟩ := gd_head hg
  refine ⟨_, (pss_cons (ps_if (pt_cmpR op_eq (pe_ix ix_tup (pv 0) pe_int (fun _ _ => rfl)) pe_str (nomark _))
      (pss_one (ps_ret (pe_op op_add_str pe_str (pe_ix ix_tup (pe_ix ix_tup (pv 2) (pe_ix ix_tup (pv 0) pe_int (fun _ _ => rfl)) (fun _ _ => rfl)) pe_int (fun _ _ => rfl)))))
      pss_nil)
    (pss_cons (ps_if (pt_cut (PW.pt (pw_or (pt_cmpR op_eq (pe_ix ix_tup (pv 0) pe_int (fun _ _ => rfl)) pe_str (nomark _)) (pw_or1 (pt_cmpR op_eq (pe_ix ix_tup (pv 0) pe_int (fun _ _ => rfl)) pe_str (nomark _))))))
      (pss_one (ps_ret (pe_op op_add_str (pe_op op_add_str (pe_op op_add_str (pe_op op_add_str (pe_ix ix_tup (pv 0) pe_int (fun _ _ => rfl)) pe_str) (pe_ix ix_tup (pe_ix ix_tup (pv 1) (pe_ix ix_tup (pv 0) pe_int (fun _ _ => rfl)) (fun _ _ => rfl)) pe_int (fun _ _ => rfl))) pe_str) (pe_callTy call_strI rfl m_str PyProof.Rows.boot_str (pa_cons (pe_ix ix_tup (pv 0) pe_int (fun _ _ => rfl)) pa_nil)))))
      pss_nil)
    (pss_cons (ps_set (i := 3) sc_law_guard_row.nd rfl (Or.inl rfl) (pe_ix ix_tup (pv 0) pe_int (fun _ _ => rfl)))
    (pss_cut (ps_for PassesOwn.never rfl (pi_tup (pe_slice sl_tup (pv 0) (po_some pe_int) po_none)) (pg_name (i := 4) sc_law_guard_row.nd rfl (Or.inl rfl))
      (pss_one (ps_set (i := 3) sc_law_guard_row.nd rfl (Or.inl rfl) (pe_op op_add_str (pe_op op_add_str (pv 3) pe_str) (pe_call G_law_guard_row hr rfl m_law_guard_row k_law_guard_row b_law_guard_row .nil pass0 (pa_cons (pv 4) (pa_cons (pv 1) (pa_cons (pv 2) pa_nil))))))))
    (pss_one (ps_ret (pv 3))))))), ?_⟩
  have l_ : (" " : Str).length = 1 := by decide +kernel
  have lk := kG_le g
  refine ⟨_, rfl, a, _, _, _, rfl, rfl, SqT.of ha, atI_head, rfl, _, rfl, ?_⟩
  by_cases e2 : kG g = "in"
  · obtain ⟨r, rfl, rfl⟩ := c2 e2
    obtain ⟨xs, t1, tl, hx, hat, ht1⟩ := hr2.at fit.1 fit.2
    have l3 : ("in " : Str).length = 3 := by decide +kernel
    have lz := getD_len lr r.toNat
    have ew : T nb nr (.inn r) = ("in " : Str) ++ nr.getD r.toNat ("" : Str) := by
      show Txt.join " " [("in" : Str), nr.getD r.toNat ("" : Str)] = _
      rw [j2, lits.2.2.1]
    have q' := q H (Same.refl _)
    rw [ew] at q'
    refine strEq ⟨_, rfl, _, rfl, a, _, _, _, rfl, rfl, SqT.of ha, rfl, tr, _, _, _, rfl, rfl, hx, hat, t1, _, _, _, rfl, rfl, SqT.of ht1, atI_head, _, _, rfl, rfl, small_le (by rw [l3]; omega), q'⟩
  refine strNe e2 ?_
  refine ⟨fun c H' => H' = H ∧ c = decide (kG g = "is" ∨ kG g = "under"), ?_, ?_⟩
  · refine ⟨_, rfl, a, _, _, _, rfl, rfl, SqT.of ha, atI_head, rfl, _, rfl, ?_⟩
    by_cases e3 : kG g = "is"
    · rw [e3]
      exact strEq ⟨rfl, (decide_eq_true (.inl rfl)).symm⟩
    · refine strNe e3 ⟨_, rfl, a, _, _, _, rfl, rfl, SqT.of ha, atI_head, rfl, _, rfl, rfl, decide_eq_decide.mpr ⟨fun h => .inr (by injection h), fun h => by rw [h.resolve_left e3]⟩⟩
  rintro c H1 ⟨rfl, rfl⟩
  refine itB (fun c => ?_) (fun c => ?_)
  · have c' := of_decide_eq_true c
    obtain ⟨b, m, rfl, eg⟩ := c3 c'
    have fit' : (0 ≤ b ∧ b < (nb.length : Int)) ∧ -big ≤ m ∧ m ≤ big := by
      rcases eg with e | e
      · subst e
        exact fit
      · subst e
        exact fit
    have ew : T nb nr g = ((((kG g) ++ (" " : Str)) ++ nb.getD b.toNat ("" : Str)) ++ (" " : Str)) ++ fig m := by
      rw [← j3]
      rcases eg with e | e
      · subst e
        rfl
      · subst e
        rfl
    have q' := q H1 (Same.refl _)
    rw [ew, ← tS] at q'
    obtain ⟨xs, t1, tl, hx, hat, ht1⟩ := hb.at fit'.1.1 fit'.1.2
    have lz := getD_len lb b.toNat
    have lf := big_fig fit'.2.1 fit'.2.2
    exact ⟨_, rfl, a, _, _, _, rfl, rfl, SqT.of ha, rfl, _, _, rfl, rfl, small_le (by rw [l_]; omega), _, rfl, _, rfl, a, _, _, _, rfl, rfl, SqT.of ha, rfl, tb, _, _, _, rfl, rfl, hx, hat, t1, _, _, _, rfl, rfl, SqT.of ht1, atI_head, _, _, rfl, rfl, small_le (by rw [Str.length_append, l_]; omega), _, _, rfl, rfl, small_le (by rw [Str.length_append, Str.length_append, l_]; omega), _, rfl, a, _, _, _, rfl, rfl, SqT.of ha, rfl, _, rfl, log_lt lf.2, _, _, rfl, rfl, small_le (by rw [tS, Str.length_append, Str.length_append, Str.length_append, l_]; omega), q'⟩
  have c' := of_decide_eq_false c
  have hI := c4 e2 c'
  have k2 := kids_le g
  have lu := hI.length
  refine ⟨_, rfl, a, _, _, _, rfl, rfl, SqT.of ha, atI_head, ?_⟩
  refine ⟨fun σ' H' => Same H1 H' ∧ ∃ o : Option V, σ' = [some (.ref a), some (.ref tb), some (.ref tr), some (.str (T nb nr g)), o], ?_, ?_⟩
  · refine ⟨_, rfl, _, rfl, a, _, rfl, SqT.of ha, ?_, fun p1 hp1 => ?_⟩
    · rw [show (1 : Int) = ((1 : Nat) : Int) from rfl, HT.sIx_nat]
      show ¬ (min 1 (us.length + 1) = 0 ∧ _)
      omega
    have s1 := same_new hp1 (.tup (cutV (.str (kG g) :: us) (some 1) none))
    have h1 : upd H1 p1 (.tup (cutV (.str (kG g) :: us) (some 1) none)) p1 = some (.tup us) := by
      rw [upd_same]
      have := cutD (.str (kG g) :: us) (k := 1) (by show 1 ≤ us.length + 1; omega)
      exact congrArg (fun z => some (HO.tup z)) this
    generalize upd H1 p1 (.tup (cutV (.str (kG g) :: us) (some 1) none)) = H3 at s1 h1 ⊢
    refine ⟨p1, rfl, ⟨_, SqT.of h1⟩, ?_⟩
    refine for_tup (K := K) (a := p1) (xs := us) (fun i σ' H' => Same H3 H' ∧ ∃ o : Option V, σ' = [some (.ref a), some (.ref tb), some (.ref tr), some (.str (Txt.join " " (kG g :: ((Prg.kids g).take i).map (T nb nr)))), o]) ⟨Same.refl _, none, by rw [List.take_zero, List.map_nil, j1]; rfl⟩ (fun i σ' H' _ h => SqT.of (h.1 _ _ h1)) ?_ ?_
    · rintro i x σ' H4 hx ⟨s4, o, rfl⟩
      have li : i < us.length := (List.getElem?_eq_some_iff.mp hx).1
      have hk' := List.getElem?_eq_getElem (show i < (Prg.kids g).length by omega)
      obtain ⟨x', hx', hgk⟩ := hI.get hk'
      obtain rfl : x = x' := Option.some.inj (hx.symm.trans hx')
      obtain ⟨f1, f2, f3⟩ := fit_kid (List.mem_of_getElem? hk') fit
      have s14 := s1.trans s4
      have et : (Prg.kids g).take (i + 1) = (Prg.kids g).take i ++ [(Prg.kids g)[i]] := by rw [List.take_add_one, hk']; rfl
      have lj : (Txt.join " " (kG g :: ((Prg.kids g).take i).map (T nb nr))).length ≤ 1001 * 3 := by
        have := bound_join (k := 1000) (l := kG g :: ((Prg.kids g).take i).map (T nb nr)) (fun y hy => by
          rcases List.mem_cons.mp hy with e | e
          · rw [e]
            omega
          · obtain ⟨z, hz, rfl⟩ := List.mem_map.mp e
            obtain ⟨g1, g2, g3⟩ := fit_kid (List.mem_of_mem_take hz) fit
            exact Nat.le_trans (T_len lb lr z g1) (by omega))
        have l3 : (kG g :: ((Prg.kids g).take i).map (T nb nr)).length ≤ 3 := by
          rw [List.length_cons, List.length_map, List.length_take]
          omega
        exact Nat.le_trans this (Nat.mul_le_mul_left _ l3)
      have lt := T_len lb lr _ f1
      refine ⟨_, rfl, _, _, rfl, rfl, mid_le (by rw [l_]; omega), _, rfl, _, rfl, _, rfl, x, tb, tr, _, nb, nr, rfl, hgk.mono (KeepT.of s14), by omega, by omega, f1, hb.mono s14, hr2.mono s14, lb, lr, fun H5 s5 => ⟨_, _, rfl, rfl, mid_le (by rw [Str.length_append, l_]; omega), s4.trans s5, some x, ?_⟩⟩
      rw [et, List.map_append, ← List.cons_append]
      show _ = [some (V.ref a), some (V.ref tb), some (V.ref tr), some (V.str (Txt.join " " ((kG g :: ((Prg.kids g).take i).map (T nb nr)) ++ [T nb nr (Prg.kids g)[i]]))), some x]
      rw [jl (by simp)]
      rfl
    · rintro σ' H4 ⟨s4, o, rfl⟩
      refine ⟨s1.trans s4, o, ?_⟩
      rw [List.take_of_length_le (by omega), join_kids nb nr g c' e2]
  rintro σ' H3 ⟨s3, o, rfl⟩
  exact ⟨_, rfl, q H3 s3⟩
theorem none_lgrow {f : Addr} {fd : FuncData} : FnOk P w K mg base CX0 0 f fd ["_law_guard_here", "_law_boxes_here", "_law_rooms_here"] (spGRow K 0) := by
  have no : ∀ vs H Q E, ¬ spGRow K 0 vs H Q E := fun vs H Q E h => by
    obtain ⟨v, tb, tr, g, nb, nr, _, _, h2, _⟩ := h
    have := g.ht_pos
    omega
  exact ⟨fun vs H Q E h => absurd h (no vs H Q E), fun A outer s H args us vs Q E _ _ _ _ h => absurd h (no vs H Q E)⟩
theorem all_lgrow {f : Addr} {fd : FuncData} (F : Fun K "_law_guard_row" "_law_guard_row" s_L_guard_row f fd) (b_law_guard_row : Binds K fd ["_law_guard_here", "_law_boxes_here", "_law_rooms_here"] []) (m_law_guard_row : mg "_law_guard_row" = some (.ref f)) (m_str : mg "str" = none) : ∀ n : Nat, FnOk P w K mg base CX0 n f fd ["_law_guard_here", "_law_boxes_here", "_law_rooms_here"] (spGRow K n)
  | 0 => none_lgrow
  | n + 1 => ok_lgrow F (all_lgrow F b_law_guard_row m_law_guard_row m_str n) b_law_guard_row F.kp m_law_guard_row m_str
end
end C43

namespace C43
open PySem L2 Mix Gds Dds Wds Cht Num Spl Txm Dig D42 G41
theorem jl2 {l : List Str} (h : l ≠ []) (a b : Str) : Txt.join " " (l ++ [a, b]) = (((Txt.join " " l ++ (" " : Str)) ++ a) ++ (" " : Str)) ++ b := by
  rw [show l ++ [a, b] = (l ++ [a]) ++ [b] by simp, jl (by simp), jl h]
theorem yes_iff : ∀ g : Gd, isYes g = decide (kG g = "yes")
  | .yes => by decide +kernel
  | .is _ _ => by show false = decide (("is" : Str) = "yes"); decide +kernel
  | .under _ _ => by show false = decide (("under" : Str) = "yes"); decide +kernel
  | .inn _ => by show false = decide (("in" : Str) = "yes"); decide +kernel
  | .neg _ => by show false = decide (("not" : Str) = "yes"); decide +kernel
  | .both _ _ => by show false = decide (("both" : Str) = "yes"); decide +kernel
  | .either _ _ => by show false = decide (("either" : Str) = "yes"); decide +kernel
theorem nl_arr : ("\n" : Str).cps = #[10] := by decide +kernel
theorem nl_list : ("\n" : Str).cps.toList = [10] := by decide +kernel
theorem split_nl {ws : List Str} (h0 : ws ≠ []) (hw : ∀ y ∈ ws, noC 10 y) : Txt.split (Txt.join "\n" ws) "\n" = ws := by
  rw [split_eq nl_arr (by decide), join_list nl_list, split_join (by simpa using h0) (fun w hw' => by
    obtain ⟨y, hy, rfl⟩ := List.mem_map.mp hw'
    exact hw y hy), List.map_map]
  have : (mk ∘ fun z : Str => z.cps.toList) = id := by
    funext z
    apply Txm.ext
    simp [mk]
  rw [this, List.map_id]
theorem nl_len (ws : List Str) (h : ws ≠ []) : (Txt.join "\n" ws).length ≤ sumL ws + ws.length := by
  rw [lenL, join_list nl_list]
  cases ws with
  | nil => exact absurd rfl h
  | cons x l =>
    have e : ((l.map fun z => z.cps.toList).flatMap fun v => 10 :: v).length = ((l.map fun z => z.cps.toList).flatMap fun v => 32 :: v).length := by
      simp [List.length_flatMap]
    have := flat_sum l
    have e2 := lenL x
    show (x.cps.toList ++ (l.map fun z => z.cps.toList).flatMap fun v => 10 :: v).length ≤ _
    rw [List.length_append, e, this, List.length_cons]
    show _ ≤ x.length + sumL l + (l.length + 1)
    omega
def spRowsL : Sp := fun vs H Q _ => ∃ (t : Addr) (c : Ch), vs = [.ref t] ∧ ChIn H t c ∧ ChOk c ∧ ∀ (p : Addr) (H' : Hp), Same H H' → H' p = some (.lst ((rowsC c).map V.str)) → Q (.ref p) H'
def spLaw (K : PySem.W.Frag) : Sp := fun vs H Q _ => ∃ (a : Addr) (ns : List Int), vs = [.ref a] ∧ SqL K H a (ns.map V.int) ∧ ns.length ≤ 63 ∧ ∀ H', Q (.bl true) H'
def head3 (c : Ch) : List Str := [("order " : Str) ++ c.order, ("letters " : Str) ++ fig c.letters, ("turns " : Str) ++ fig c.turns]
section
variable {P : Program} {w : World} {K : PySem.W.Frag} {mg : Str → Option Value} {base : Heap}
theorem sc_law_rows : FnScope ["_law_chart_here", "_law_boxes_here", "_law_events", "_law_rooms_here", "_law_rows_here", "_law_box", "_law_event", "_law_room", "_law_row", "_law_door"] ["_law_chart_here"] (defScope s_L_rows) := ⟨rfl, rfl, rfl, by decide +kernel, rfl, by decide +kernel, by decide +kernel⟩
theorem ok_lrows {n : Nat} {f gd gg : Addr} {fd dd dg : FuncData} (F : Fun K "_law_rows" "_law_rows" s_L_rows f fd)
    (G_law_deed_row : FnOk P w K mg base CX0 n gd dd ["_law_deed_here", "_law_boxes_here", "_law_events"] (spDRow K)) (b_law_deed_row : Binds K dd ["_law_deed_here", "_law_boxes_here", "_law_events"] []) (k_law_deed_row : PySem.W.keepIn K (.ref gd) = true) (m_law_deed_row : mg "_law_deed_row" = some (.ref gd))
    (G_law_guard_row : FnOk P w K mg base CX0 n gg dg ["_law_guard_here", "_law_boxes_here", "_law_rooms_here"] (spGRow K 6)) (b_law_guard_row : Binds K dg ["_law_guard_here", "_law_boxes_here", "_law_rooms_here"] []) (k_law_guard_row : PySem.W.keepIn K (.ref gg) = true) (m_law_guard_row : mg "_law_guard_row" = some (.ref gg)) (m_str : mg "str" = none) :
    FnOk P w K mg base CX0 (n + 1) f fd ["_law_chart_here"] spRowsL := by
  refine F.ok sc_law_rows (fun vs H Q E h => ?_) (fun cdv A outer s H vs Q E hr h => ?_)
  · obtain ⟨t, c, rfl, _⟩ := h
    rfl
  obtain ⟨t, c, rfl, hC, k, q⟩ := h
  refine ⟨_, (pss_cons (ps_set (i := 1) sc_law_rows.nd rfl (Or.inr rfl) (pe_ix ix_tup (pv 0) pe_int (fun _ _ => rfl)))
    (pss_cons (ps_set (i := 2) sc_law_rows.nd rfl (Or.inr rfl) (pe_ix ix_tup (pv 0) pe_int (fun _ _ => rfl)))
    (pss_cons (ps_set (i := 3) sc_law_rows.nd rfl (Or.inl rfl) (pe_ix ix_tup (pv 0) pe_int (fun _ _ => rfl)))
    (pss_cons (ps_set (i := 4) sc_law_rows.nd rfl (Or.inl rfl) (pe_lst (pa_cons (pe_op op_add_str pe_str (pe_ix ix_tup (pv 0) pe_int (fun _ _ => rfl))) (pa_cons (pe_op op_add_str pe_str (pe_callTy call_strI rfl m_str PyProof.Rows.boot_str (pa_cons (pe_ix ix_tup (pv 0) pe_int (fun _ _ => rfl)) pa_nil))) (pa_cons (pe_op op_add_str pe_str (pe_callTy call_strI rfl m_str PyProof.Rows.boot_str (pa_cons (pe_ix ix_tup (pv 0) pe_int (fun _ _ => rfl)) pa_nil))) pa_nil)))))
    (pss_cut (ps_for PassesOwn.never rfl (pi_tup (pv 1)) (pg_name (i := 5) sc_law_rows.nd rfl (Or.inl rfl))
      (pss_one (ps_expr (pe_bm PySem.F.plainAttrs_list PySem.F.slot_list_append PySem.F.type_list_append mt_append (pv 4) (pa_cons (pe_op op_add_str (pe_op op_add_str (pe_op op_add_str (pe_op op_add_str (pe_op op_add_str pe_str (pe_ix ix_tup (pv 5) pe_int (fun _ _ => rfl))) pe_str) (pe_callTy call_strI rfl m_str PyProof.Rows.boot_str (pa_cons (pe_ix ix_tup (pv 5) pe_int (fun _ _ => rfl)) pa_nil))) pe_str) (pe_callTy call_strI rfl m_str PyProof.Rows.boot_str (pa_cons (pe_ix ix_tup (pv 5) pe_int (fun _ _ => rfl)) pa_nil))) pa_nil)))))
    (pss_cut (ps_for PassesOwn.never rfl (pi_tup (pv 2)) (pg_name (i := 6) sc_law_rows.nd rfl (Or.inl rfl))
      (pss_one (ps_expr (pe_bm PySem.F.plainAttrs_list PySem.F.slot_list_append PySem.F.type_list_append mt_append (pv 4) (pa_cons (pe_op op_add_str pe_str (pv 6)) pa_nil)))))
    (pss_cut (ps_for PassesOwn.never rfl (pi_tup (pv 3)) (pg_name (i := 7) sc_law_rows.nd rfl (Or.inl rfl))
      (pss_cons (ps_set (i := 8) sc_law_rows.nd rfl (Or.inl rfl) (pe_op op_add_str (pe_op op_add_str (pe_op op_add_str (pe_op op_mul_str pe_str (pe_ix ix_tup (pv 7) pe_int (fun _ _ => rfl))) (pe_ix ix_tup (pv 7) pe_int (fun _ _ => rfl))) pe_str) (pe_ix ix_tup (pv 7) pe_int (fun _ _ => rfl))))
      (pss_cut (ps_if (pt_cmpR op_ne (pe_ix ix_tup (pv 7) pe_int (fun _ _ => rfl)) pe_str (nomark _))
        (pss_one (ps_set (i := 8) sc_law_rows.nd rfl (Or.inl rfl) (pe_op op_add_str (pe_op op_add_str (pv 8) pe_str) (pe_ix ix_tup (pv 7) pe_int (fun _ _ => rfl)))))
        pss_nil)
      (pss_cut (ps_if (pt_cmpR op_ne (pe_ix ix_tup (pv 7) pe_int (fun _ _ => rfl)) pe_str (nomark _))
        (pss_one (ps_set (i := 8) sc_law_rows.nd rfl (Or.inl rfl) (pe_op op_add_str (pe_op op_add_str (pv 8) pe_str) (pe_ix ix_tup (pv 7) pe_int (fun _ _ => rfl)))))
        pss_nil)
      (pss_cons (ps_expr (pe_bm PySem.F.plainAttrs_list PySem.F.slot_list_append PySem.F.type_list_append mt_append (pv 4) (pa_cons (pv 8) pa_nil)))
      (pss_cons (ps_set (i := 4) sc_law_rows.nd rfl (Or.inl rfl) (pe_op op_cat (pv 4) (pe_comp (caps := [(1, "_law_boxes_here"), (2, "_law_events")]) rfl (show CompSc (defScope s_L_rows) ["_law_chart_here", "_law_boxes_here", "_law_events", "_law_rooms_here", "_law_rows_here", "_law_box", "_law_event", "_law_room", "_law_row", "_law_door"] _ _ _ from ⟨rfl, rfl, by decide +kernel, by decide +kernel, by decide +kernel, by decide +kernel, by decide +kernel⟩) (pi_tup (pe_ix ix_tup (pv 7) pe_int (fun _ _ => rfl))) (fun _ _ _ _ _ _ => pifs_nil) (fun _ _ _ _ _ _ => (pe_op op_add_str pe_str (pe_call G_law_deed_row hr rfl m_law_deed_row k_law_deed_row b_law_deed_row .nil pass0 (pa_cons (pv 0) (pa_cons (pv 1) (pa_cons (pv 2) pa_nil)))))))))
      (pss_one (ps_set (i := 4) sc_law_rows.nd rfl (Or.inl rfl) (pe_op op_cat (pv 4) (pe_comp (caps := [(1, "_law_boxes_here"), (2, "_law_events")]) rfl (show CompSc (defScope s_L_rows) ["_law_chart_here", "_law_boxes_here", "_law_events", "_law_rooms_here", "_law_rows_here", "_law_box", "_law_event", "_law_room", "_law_row", "_law_door"] _ _ _ from ⟨rfl, rfl, by decide +kernel, by decide +kernel, by decide +kernel, by decide +kernel, by decide +kernel⟩) (pi_tup (pe_ix ix_tup (pv 7) pe_int (fun _ _ => rfl))) (fun _ _ _ _ _ _ => pifs_nil) (fun _ _ _ _ _ _ => (pe_op op_add_str pe_str (pe_call G_law_deed_row hr rfl m_law_deed_row k_law_deed_row b_law_deed_row .nil pass0 (pa_cons (pv 0) (pa_cons (pv 1) (pa_cons (pv 2) pa_nil))))))))))))))))
    (pss_cut (ps_for PassesOwn.never rfl (pi_tup (pe_ix ix_tup (pv 0) pe_int (fun _ _ => rfl))) (pg_name (i := 9) sc_law_rows.nd rfl (Or.inl rfl))
      (pss_cons (ps_set (i := 8) sc_law_rows.nd rfl (Or.inl rfl) (pe_op op_add_str (pe_op op_add_str (pe_op op_add_str (pe_op op_add_str (pe_op op_add_str pe_str (pe_ix ix_tup (pe_ix ix_tup (pv 3) (pe_ix ix_tup (pv 9) pe_int (fun _ _ => rfl)) (fun _ _ => rfl)) pe_int (fun _ _ => rfl))) pe_str) (pe_ix ix_tup (pv 2) (pe_ix ix_tup (pv 9) pe_int (fun _ _ => rfl)) (fun _ _ => rfl))) pe_str) (pe_ix ix_tup (pv 9) pe_int (fun _ _ => rfl))))
      (pss_cut (ps_if (pt_cmpR op_notN (pe_ix ix_tup (pv 9) pe_int (fun _ _ => rfl)) pe_non (nomark _))
        (pss_one (ps_set (i := 8) sc_law_rows.nd rfl (Or.inl rfl) (pe_op op_add_str (pe_op op_add_str (pv 8) pe_str) (pe_ix ix_tup (pe_ix ix_tup (pv 3) (pe_ix ix_tup (pv 9) pe_int (fun _ _ => rfl)) (fun _ _ => rfl)) pe_int (fun _ _ => rfl)))))
        pss_nil)
      (pss_cons (ps_expr (pe_bm PySem.F.plainAttrs_list PySem.F.slot_list_append PySem.F.type_list_append mt_append (pv 4) (pa_cons (pv 8) pa_nil)))
      (pss_cut (ps_if (pt_cmpR op_ne (pe_ix ix_tup (pe_ix ix_tup (pv 9) pe_int (fun _ _ => rfl)) pe_int (fun _ _ => rfl)) pe_str (nomark _))
        (pss_one (ps_expr (pe_bm PySem.F.plainAttrs_list PySem.F.slot_list_append PySem.F.type_list_append mt_append (pv 4) (pa_cons (pe_op op_add_str pe_str (pe_call G_law_guard_row hr rfl m_law_guard_row k_law_guard_row b_law_guard_row .nil pass0 (pa_cons (pe_ix ix_tup (pv 9) pe_int (fun _ _ => rfl)) (pa_cons (pv 1) (pa_cons (pv 3) pa_nil))))) pa_nil))))
        pss_nil)
      (pss_one (ps_set (i := 4) sc_law_rows.nd rfl (Or.inl rfl) (pe_op op_cat (pv 4) (pe_comp (caps := [(1, "_law_boxes_here"), (2, "_law_events")]) rfl (show CompSc (defScope s_L_rows) ["_law_chart_here", "_law_boxes_here", "_law_events", "_law_rooms_here", "_law_rows_here", "_law_box", "_law_event", "_law_room", "_law_row", "_law_door"] _ _ _ from ⟨rfl, rfl, by decide +kernel, by decide +kernel, by decide +kernel, by decide +kernel, by decide +kernel⟩) (pi_tup (pe_ix ix_tup (pv 9) pe_int (fun _ _ => rfl))) (fun _ _ _ _ _ _ => pifs_nil) (fun _ _ _ _ _ _ => (pe_op op_add_str pe_str (pe_call G_law_deed_row hr rfl m_law_deed_row k_law_deed_row b_law_deed_row .nil pass0 (pa_cons (pv 0) (pa_cons (pv 1) (pa_cons (pv 2) pa_nil)))))))))))))))
    (pss_one (ps_ret (pv 4))))))))))), ?_⟩
  obtain ⟨tb, te, tr, td, bv, rv, dv, a1, a2, a3, a4, a5, a6, a7, a8⟩ := id hC
  have lr := RosIn_len a6
  have ld := DrsIn_len a8
  have lbv := All2.length a3
  have fl := fig30 k.le
  have ft := fig30 k.tu
  have lo := k.order.1
  have L := lit_len
  have l_ := L.2.2.2.2.1
  refine ⟨_, rfl, t, _, _, _, rfl, rfl, SqT.of a1, rfl, ?_⟩
  refine ⟨_, rfl, t, _, _, _, rfl, rfl, SqT.of a1, rfl, ?_⟩
  refine ⟨_, rfl, t, _, _, _, rfl, rfl, SqT.of a1, rfl, ?_⟩
  refine ⟨_, rfl, t, _, _, _, rfl, rfl, SqT.of a1, rfl, _, _, rfl, rfl, small_le (by rw [L.1]; omega), _, rfl, t, _, _, _, rfl, rfl, SqT.of a1, rfl, _, rfl, fl.2, _, _, rfl, rfl, small_le (by rw [tS, L.2.1]; omega), _, rfl, t, _, _, _, rfl, rfl, SqT.of a1, rfl, _, rfl, ft.2, _, _, rfl, rfl, small_le (by rw [tS, L.2.2.1]; omega), small_le (by show 3 ≤ 1000; decide), fun p hp => ?_⟩
  rw [tS, tS]
  have s1 := same_new hp (.lst ((head3 c).map V.str))
  have h1 : (upd H p (.lst ((head3 c).map V.str))) p = some (.lst ((head3 c).map V.str)) := upd_same
  refine ⟨fun σ' H' => Same H H' ∧ H' p = some (.lst ((head3 c ++ c.bxs.map boxRow).map V.str)) ∧ ∃ o5 : Option V, σ' = [some (.ref t), some (.ref tb), some (.ref te), some (.ref tr), some (.ref p), o5, none, none, none, none], ?_, ?_⟩
  · refine ⟨_, rfl, tb, rfl, ⟨_, SqT.of (s1 _ _ a2)⟩, ?_⟩
    refine for_tup (K := K) (a := tb) (xs := bv) (fun i σ' H' => Same H H' ∧ H' p = some (.lst ((head3 c ++ (c.bxs.take i).map boxRow).map V.str)) ∧ ∃ o5 : Option V, σ' = [some (.ref t), some (.ref tb), some (.ref te), some (.ref tr), some (.ref p), o5, none, none, none, none]) ⟨s1, by rw [List.take_zero, List.map_nil, List.append_nil]; exact h1, none, rfl⟩ (fun i σ' H' _ h => SqT.of (h.1 _ _ a2)) ?_ ?_
    · rintro i x σ' H2 hx ⟨s2, h2, o5, rfl⟩
      have li : i < bv.length := (List.getElem?_eq_some_iff.mp hx).1
      have hk := List.getElem?_eq_getElem (show i < c.bxs.length by omega)
      obtain ⟨x', hx', b1, rfl, hb1⟩ := All2.get a3 hk
      obtain rfl : x = .ref b1 := Option.some.inj (hx.symm.trans hx')
      have hb := k.bx _ (List.getElem_mem (show i < c.bxs.length by omega))
      have f1 := fig30 hb.2.1
      have f2 := fig30 hb.2.2
      have ln := hb.1.1
      have hb2 := s2 _ _ hb1
      have lb := k.lb
      have l4 : ("box " : Str).length = 4 := by decide +kernel
      have em : (((("box " : Str) ++ c.bxs[i].nm) ++ (" " : Str)) ++ fig c.bxs[i].size) ++ (" " : Str) ++ fig c.bxs[i].start = boxRow c.bxs[i] := by
        unfold boxRow
        rw [j4, lits.2.2.2.2.2.1]
      refine ⟨_, rfl, .inl ⟨rfl, _, SqL.of h2⟩, _, rfl, b1, _, _, _, rfl, rfl, SqT.of hb2, rfl, _, _, rfl, rfl, small_le (by rw [l4]; omega), _, _, rfl, rfl, small_le (by rw [Str.length_append, l4, l_]; omega), _, rfl, b1, _, _, _, rfl, rfl, SqT.of hb2, rfl, _, rfl, f1.2, _, _, rfl, rfl, small_le (by rw [tS, Str.length_append, Str.length_append, l4, l_]; omega), _, _, rfl, rfl, small_le (by rw [tS, Str.length_append, Str.length_append, Str.length_append, l4, l_]; omega), _, rfl, b1, _, _, _, rfl, rfl, SqT.of hb2, rfl, _, rfl, f2.2, _, _, rfl, rfl, small_le (by rw [tS, tS, Str.length_append, Str.length_append, Str.length_append, Str.length_append, l4, l_]; omega), p, _, _, rfl, rfl, h2, small1000 (by rw [List.length_map, List.length_append, List.length_map, List.length_take]; show 3 + _ ≤ _; omega), same_upd hp s2 _, ?_, _, rfl⟩
      rw [upd_same, tS, tS, em, List.take_add_one, hk, List.map_append, List.map_append, List.map_append, List.map_append, List.append_assoc]
      rfl
    · rintro σ' H2 ⟨s2, h2, o5, rfl⟩
      rw [List.take_of_length_le (by omega)] at h2
      exact ⟨s2, h2, o5, rfl⟩
  rintro σ1 H1 ⟨s2, h2, o5, rfl⟩
  refine ⟨fun σ' H' => Same H H' ∧ H' p = some (.lst ((headR c).map V.str)) ∧ ∃ o6 : Option V, σ' = [some (.ref t), some (.ref tb), some (.ref te), some (.ref tr), some (.ref p), o5, o6, none, none, none], ?_, ?_⟩
  · refine ⟨_, rfl, te, rfl, ⟨_, SqT.of (s2 _ _ a4)⟩, ?_⟩
    refine for_tup (K := K) (a := te) (xs := c.evs.map V.str) (fun i σ' H' => Same H H' ∧ H' p = some (.lst (((head3 c ++ c.bxs.map boxRow) ++ (c.evs.take i).map fun z => ("event " : Str) ++ z).map V.str)) ∧ ∃ o6 : Option V, σ' = [some (.ref t), some (.ref tb), some (.ref te), some (.ref tr), some (.ref p), o5, o6, none, none, none]) ⟨s2, by rw [List.take_zero, List.map_nil, List.append_nil]; exact h2, none, rfl⟩ (fun i σ' H' _ h => SqT.of (h.1 _ _ a4)) ?_ ?_
    · rintro i x σ' H2 hx ⟨s3, h3, o6, rfl⟩
      have li : i < (c.evs.map V.str).length := (List.getElem?_eq_some_iff.mp hx).1
      have li' : i < c.evs.length := by
        rw [List.length_map] at li
        exact li
      have hk := List.getElem?_eq_getElem li'
      obtain rfl : x = .str c.evs[i] := by
        rw [List.getElem?_map, hk] at hx
        exact (Option.some.inj hx).symm
      have he := (k.ev _ (List.getElem_mem li')).1
      have lev := k.lev
      have lb := k.lb
      refine ⟨_, rfl, .inl ⟨rfl, _, SqL.of h3⟩, _, rfl, _, _, rfl, rfl, small_le (by rw [L.2.2.2.1]; omega), p, _, _, rfl, rfl, h3, small1000 (by rw [List.length_map, List.length_append, List.length_append, List.length_map, List.length_map, List.length_take]; show 3 + _ + _ ≤ _; omega), same_upd hp s3 _, ?_, _, rfl⟩
      rw [upd_same, List.take_add_one, hk, List.map_append (l₁ := c.evs.take i), List.map_append (l₁ := head3 c ++ c.bxs.map boxRow), List.map_append (l₁ := head3 c ++ c.bxs.map boxRow), List.append_assoc, List.map_append (l₁ := (c.evs.take i).map _)]
      rfl
    · rintro σ' H2 ⟨s3, h3, o6, rfl⟩
      rw [List.take_of_length_le (by rw [List.length_map]; exact Nat.le_refl _)] at h3
      exact ⟨s3, h3, o6, rfl⟩
  rintro σ2 H2 ⟨s3, h3, o6, rfl⟩
  refine ⟨fun σ' H' => Same H H' ∧ ∃ (pl : Addr) (o7 o8 : Option V), H pl = none ∧ H' pl = some (.lst ((headR c ++ c.rooms.flatMap (roomR c)).map V.str)) ∧ σ' = [some (.ref t), some (.ref tb), some (.ref te), some (.ref tr), some (.ref pl), o5, o6, o7, o8, none], ?_, ?_⟩
  · refine ⟨_, rfl, tr, rfl, ⟨_, SqT.of (s3 _ _ a5)⟩, ?_⟩
    refine for_tup (K := K) (a := tr) (xs := rv) (fun i σ' H' => Same H H' ∧ ∃ (pl : Addr) (o7 o8 : Option V), H pl = none ∧ H' pl = some (.lst ((headR c ++ (c.rooms.take i).flatMap (roomR c)).map V.str)) ∧ σ' = [some (.ref t), some (.ref tb), some (.ref te), some (.ref tr), some (.ref pl), o5, o6, o7, o8, none]) ⟨s3, p, none, none, hp, by rw [List.take_zero, List.flatMap_nil, List.append_nil]; exact h3, rfl⟩ (fun i σ' H' _ h => SqT.of (h.1 _ _ a5)) ?_ ?_
    · rintro i x σ' H4 hx ⟨s4, pl, o7, o8, hpl, h4, rfl⟩
      have li : i < rv.length := (List.getElem?_eq_some_iff.mp hx).1
      have hk := List.getElem?_eq_getElem (show i < c.rooms.length by omega)
      obtain ⟨x', hx', a0, vi, vo, rfl, ha, ⟨ai, iv, rfl, hai, hAi⟩, ⟨ao, ov, rfl, hao, hAo⟩⟩ := All2.get a6 hk
      obtain rfl : x = .ref a0 := Option.some.inj (hx.symm.trans hx')
      have ok := k.rm _ (List.getElem_mem (show i < c.rooms.length by omega))
      have R2 := rows_room k (i + 1)
      have et : c.rooms.take (i + 1) = c.rooms.take i ++ [c.rooms[i]] := by rw [List.take_add_one, hk]; rfl
      have e1 : [c.rooms[i]].flatMap (roomR c) = roomR c c.rooms[i] := by simp
      have R1 := rows_room k i
      generalize c.rooms[i] = r at ha hAi hAo ok et e1
      have W := rowW ok
      have hm := mul_len ok.d0 ok.d1
      have d0 := ok.d0
      have d1 := ok.d1
      have lk := ok.kind.1
      have ln := ok.nm.1
      have lke := ok.keeps.1
      have lla := ok.lamp.1
      have hkW := kW_len ok
      have ha4 := s4 _ _ ha
      have J0 : (Txt.join " " [r.kind, r.nm]).length ≤ 26 := Nat.le_trans (bound_join (k := 12) (fun y hy => by
        rcases List.mem_cons.mp hy with e | e
        · rw [e]
          exact lk
        · rw [List.mem_singleton.mp e]
          exact ln)) (by show 13 * 2 ≤ 26; decide)
      have J1 : (Txt.join " " ([r.kind, r.nm] ++ kW r)).length ≤ 52 := Nat.le_trans (bound_join (k := 12) (fun y hy => (W.2 y (List.mem_append_left _ hy)).1)) (by rw [List.length_append]; have := hkW.1; show 13 * (2 + _) ≤ 52; omega)
      have X1 : ((Txt.mul ("  " : Str) r.depth ++ r.kind) ++ (" " : Str)) ++ r.nm = Txt.mul ("  " : Str) r.depth ++ Txt.join " " [r.kind, r.nm] := by
        rw [j2]
        simp only [app_assoc]
      refine ⟨_, rfl, a0, _, _, _, rfl, rfl, SqT.of ha4, rfl, _, _, rfl, rfl, mul_ok (by decide +kernel) (by omega) (by omega), _, rfl, a0, _, _, _, rfl, rfl, SqT.of ha4, rfl, _, _, rfl, rfl, small_le (by omega), _, _, rfl, rfl, small_le (by rw [Str.length_append, l_]; omega), _, rfl, a0, _, _, _, rfl, rfl, SqT.of ha4, rfl, _, _, rfl, rfl, small_le (by rw [Str.length_append, Str.length_append, l_]; omega), ?_⟩
      rw [X1]
      refine ⟨fun σ' H' => H' = H4 ∧ σ' = [some (.ref t), some (.ref tb), some (.ref te), some (.ref tr), some (.ref pl), o5, o6, some (.ref a0), some (.str (Txt.mul ("  " : Str) r.depth ++ Txt.join " " ([r.kind, r.nm] ++ kW r))), none], ?_, ?_⟩
      · refine ⟨_, rfl, a0, _, _, _, rfl, rfl, SqT.of ha4, rfl, rfl, _, rfl, ?_⟩
        refine itB (fun e => ?_) (fun e => ?_)
        · have e' : r.keeps ≠ "" := fun z => by
            rw [z] at e
            simp at e
          have ek : kW r = [("keeps" : Str), r.keeps] := if_pos e'
          have l7 : (" keeps " : Str).length = 7 := by decide +kernel
          refine ⟨_, rfl, _, _, rfl, rfl, small_le (by rw [Str.length_append, l7]; omega), _, rfl, a0, _, _, _, rfl, rfl, SqT.of ha4, rfl, _, _, rfl, rfl, small_le (by rw [Str.length_append, Str.length_append, l7]; omega), rfl, ?_⟩
          rw [ek, jl2 (by simp)]
          have : ((Txt.mul ("  " : Str) r.depth ++ Txt.join " " [r.kind, r.nm]) ++ (" keeps " : Str)) ++ r.keeps = Txt.mul ("  " : Str) r.depth ++ ((((Txt.join " " [r.kind, r.nm] ++ (" " : Str)) ++ ("keeps" : Str)) ++ (" " : Str)) ++ r.keeps) := by
            rw [lits.2.2.2.2.2.2.2.1]
            simp only [app_assoc]
          rw [← this]
          rfl
        · have e' : ¬ r.keeps ≠ "" := fun z => by
            simp at e
            exact z e
          have ek : kW r = [] := if_neg e'
          refine ⟨rfl, ?_⟩
          rw [ek, List.append_nil]
          rfl
      rintro σ5 H5 ⟨rfl, rfl⟩
      refine ⟨fun σ' H' => H' = H5 ∧ σ' = [some (.ref t), some (.ref tb), some (.ref te), some (.ref tr), some (.ref pl), o5, o6, some (.ref a0), some (.str (rowR r)), none], ?_, ?_⟩
      · refine ⟨_, rfl, a0, _, _, _, rfl, rfl, SqT.of ha4, rfl, rfl, _, rfl, ?_⟩
        refine itB (fun e => ?_) (fun e => ?_)
        · have e' : r.lamp ≠ "" := fun z => by
            rw [z] at e
            simp at e
          have ek : lW r = [("lamp" : Str), r.lamp] := if_pos e'
          have l6 : (" lamp " : Str).length = 6 := by decide +kernel
          refine ⟨_, rfl, _, _, rfl, rfl, small_le (by rw [Str.length_append, l6]; omega), _, rfl, a0, _, _, _, rfl, rfl, SqT.of ha4, rfl, _, _, rfl, rfl, small_le (by rw [Str.length_append, Str.length_append, l6]; omega), rfl, ?_⟩
          unfold rowR
          rw [ek, jl2 (by simp)]
          have : ((Txt.mul ("  " : Str) r.depth ++ Txt.join " " ([r.kind, r.nm] ++ kW r)) ++ (" lamp " : Str)) ++ r.lamp = Txt.mul ("  " : Str) r.depth ++ ((((Txt.join " " ([r.kind, r.nm] ++ kW r) ++ (" " : Str)) ++ ("lamp" : Str)) ++ (" " : Str)) ++ r.lamp) := by
            rw [lits.2.2.2.2.2.2.2.2]
            simp only [app_assoc]
          rw [← this]
          rfl
        · have e' : ¬ r.lamp ≠ "" := fun z => by
            simp at e
            exact z e
          have ek : lW r = [] := if_neg e'
          refine ⟨rfl, ?_⟩
          unfold rowR
          rw [ek, List.append_nil]
      rintro σ6 H6 ⟨rfl, rfl⟩
      have l8 := ok.li
      have l9 := ok.lo
      rw [List.length_append] at R1
      refine ⟨_, rfl, .inl ⟨rfl, _, SqL.of h4⟩, _, rfl, pl, _, _, rfl, rfl, h4, Nat.lt_of_lt_of_le (show _ < 1000000 by rw [List.length_map, List.length_append]; omega) (by decide), ?_⟩
      have s7 : Same H (upd H6 pl (.lst ((headR c ++ (c.rooms.take i).flatMap (roomR c)).map V.str ++ [.str (rowR r)]))) := same_upd hpl s4 _
      have h7 : (upd H6 pl (.lst ((headR c ++ (c.rooms.take i).flatMap (roomR c)).map V.str ++ [.str (rowR r)]))) pl = some (.lst (((headR c ++ (c.rooms.take i).flatMap (roomR c)) ++ [rowR r]).map V.str)) := by
        rw [upd_same, List.map_append (l₂ := [rowR r])]
        rfl
      generalize upd H6 pl (.lst ((headR c ++ (c.rooms.take i).flatMap (roomR c)).map V.str ++ [.str (rowR r)])) = H7 at s7 h7 ⊢
      refine ⟨_, rfl, _, rfl, a0, _, _, _, rfl, rfl, SqT.of (s7 _ _ ha), rfl, ai, rfl, ⟨_, SqT.of (s7 _ _ hai)⟩, ?_⟩
      refine comp_tup (K := K) (a := ai) (xs := iv) (fun z acc H' => H' = H7 ∧ acc = ((r.ins.take z).map (dR c "in")).map V.str) ⟨rfl, rfl⟩ (fun z acc H' h => by rw [h.1]; exact SqT.of (s7 _ _ hai)) (fun z x acc H' hx h => ?_) (fun acc H' h pc hpc => ?_)
      · obtain ⟨eH, e2⟩ := h
        rw [eH]
        have li : z < iv.length := (List.getElem?_eq_some_iff.mp hx).1
        have ll := hAi.length
        have hk := List.getElem?_eq_getElem (show z < r.ins.length by omega)
        obtain ⟨x', hx', hd'⟩ := hAi.get hk
        obtain rfl : x = x' := Option.some.inj (hx.symm.trans hx')
        have ok2 := ok.ins _ (List.getElem_mem (show z < r.ins.length by omega))
        have h1 := bound_join (k := 52) (fun y hy => (ok2.ws y hy).1)
        have h2 := words_n c r.ins[z]
        have h3 : 53 * (wordsD c.bxs c.evs r.ins[z]).length ≤ 53 * 3 := Nat.mul_le_mul_left _ h2
        have em : ("in " : Str) ++ Txt.join " " (wordsD c.bxs c.evs r.ins[z]) = dR c "in" r.ins[z] := by
          unfold dR
          rw [lits.2.2.1]
        have lm : ("in " : Str).length ≤ 4 := by decide +kernel
        refine ⟨_, rfl, _, rfl, _, rfl, x, tb, te, r.ins[z], bv, c.bxs, c.evs, rfl, hd'.mono (KeepT.of s7), ⟨ok2.fit, ok2.ws⟩, s7 _ _ a2, BxsIn.mono a3 (KeepT.of s7), s7 _ _ a4, _, _, rfl, rfl, small_le (by omega), ?_, rfl, ?_⟩
        · rw [e2, List.length_map, List.length_map, List.length_take]
          exact small1000 (by omega)
        · rw [e2, List.take_add_one, hk, List.map_append, List.map_append]
          show _ ++ [V.str (("in " : Str) ++ Txt.join " " (wordsD c.bxs c.evs r.ins[z]))] = _
          rw [em]
          rfl
      obtain ⟨eH, e2⟩ := h
      have ll := hAi.length
      rw [List.take_of_length_le (by omega)] at e2
      have eH2 := eH.symm
      subst eH2 e2
      refine ⟨pl, pc, _, _, rfl, rfl, same_new hpc _ _ _ h7, upd_same, mid_le (by rw [List.length_map, List.length_map, List.length_map, List.length_append, List.length_append]; show _ + 1 + _ ≤ _; omega), fun p8 hp8 => ?_⟩
      have s9 := (s7.trans (same_new hpc (.lst ((r.ins.map (dR c "in")).map V.str)))).trans (same_new hp8 (.lst (((headR c ++ (c.rooms.take i).flatMap (roomR c)) ++ [rowR r]).map V.str ++ (r.ins.map (dR c "in")).map V.str)))
      have h9 : (upd (upd H7 pc (.lst ((r.ins.map (dR c "in")).map V.str))) p8 (.lst (((headR c ++ (c.rooms.take i).flatMap (roomR c)) ++ [rowR r]).map V.str ++ (r.ins.map (dR c "in")).map V.str))) p8 = some (.lst ((((headR c ++ (c.rooms.take i).flatMap (roomR c)) ++ [rowR r]) ++ r.ins.map (dR c "in")).map V.str)) := by
        rw [upd_same, List.map_append (l₂ := r.ins.map (dR c "in"))]
      have hn8 : H p8 = none := (s7.trans (same_new hpc (.lst ((r.ins.map (dR c "in")).map V.str)))).free hp8
      generalize upd (upd H7 pc (.lst ((r.ins.map (dR c "in")).map V.str))) p8 (.lst (((headR c ++ (c.rooms.take i).flatMap (roomR c)) ++ [rowR r]).map V.str ++ (r.ins.map (dR c "in")).map V.str)) = H9 at s9 h9 ⊢
      refine ⟨_, rfl, _, rfl, a0, _, _, _, rfl, rfl, SqT.of (s9 _ _ ha), rfl, ao, rfl, ⟨_, SqT.of (s9 _ _ hao)⟩, ?_⟩
      refine comp_tup (K := K) (a := ao) (xs := ov) (fun z acc H' => H' = H9 ∧ acc = ((r.outs.take z).map (dR c "out")).map V.str) ⟨rfl, rfl⟩ (fun z acc H' h => by rw [h.1]; exact SqT.of (s9 _ _ hao)) (fun z x acc H' hx h => ?_) (fun acc H' h pc hpc => ?_)
      · obtain ⟨eH, e2⟩ := h
        rw [eH]
        have li : z < ov.length := (List.getElem?_eq_some_iff.mp hx).1
        have ll := hAo.length
        have hk := List.getElem?_eq_getElem (show z < r.outs.length by omega)
        obtain ⟨x', hx', hd'⟩ := hAo.get hk
        obtain rfl : x = x' := Option.some.inj (hx.symm.trans hx')
        have ok2 := ok.outs _ (List.getElem_mem (show z < r.outs.length by omega))
        have h1 := bound_join (k := 52) (fun y hy => (ok2.ws y hy).1)
        have h2 := words_n c r.outs[z]
        have h3 : 53 * (wordsD c.bxs c.evs r.outs[z]).length ≤ 53 * 3 := Nat.mul_le_mul_left _ h2
        have em : ("out " : Str) ++ Txt.join " " (wordsD c.bxs c.evs r.outs[z]) = dR c "out" r.outs[z] := by
          unfold dR
          rw [lits.2.2.2.1]
        have lm : ("out " : Str).length ≤ 4 := by decide +kernel
        refine ⟨_, rfl, _, rfl, _, rfl, x, tb, te, r.outs[z], bv, c.bxs, c.evs, rfl, hd'.mono (KeepT.of s9), ⟨ok2.fit, ok2.ws⟩, s9 _ _ a2, BxsIn.mono a3 (KeepT.of s9), s9 _ _ a4, _, _, rfl, rfl, small_le (by omega), ?_, rfl, ?_⟩
        · rw [e2, List.length_map, List.length_map, List.length_take]
          exact small1000 (by omega)
        · rw [e2, List.take_add_one, hk, List.map_append, List.map_append]
          show _ ++ [V.str (("out " : Str) ++ Txt.join " " (wordsD c.bxs c.evs r.outs[z]))] = _
          rw [em]
          rfl
      obtain ⟨eH, e2⟩ := h
      have ll := hAo.length
      rw [List.take_of_length_le (by omega)] at e2
      have eH2 := eH.symm
      subst eH2 e2
      refine ⟨p8, pc, _, _, rfl, rfl, same_new hpc _ _ _ h9, upd_same, mid_le (by rw [List.length_map, List.length_map, List.length_map, List.length_append, List.length_append, List.length_append, List.length_map]; show _ + 1 + _ + _ ≤ _; omega), fun p10 hp10 => ⟨(s9.trans (same_new hpc _)).trans (same_new hp10 _), p10, _, _, (s9.trans (same_new hpc _)).free hp10, ?_, rfl⟩⟩
      rw [upd_same, et, List.flatMap_append, e1, ← List.map_append]
      unfold roomR
      simp only [List.append_assoc]
    · rintro σ' H4 ⟨s4, pl, o7, o8, hpl, h4, rfl⟩
      rw [List.take_of_length_le (by omega)] at h4
      exact ⟨s4, pl, o7, o8, hpl, h4, rfl⟩
  rintro σ3 H3 ⟨s4, pl0, o7, o8, hpl0, h4, rfl⟩
  refine ⟨fun σ' H' => Same H H' ∧ ∃ (pl : Addr) (o8 o9 : Option V), H' pl = some (.lst ((rowsC c).map V.str)) ∧ σ' = [some (.ref t), some (.ref tb), some (.ref te), some (.ref tr), some (.ref pl), o5, o6, o7, o8, o9], ?_, ?_⟩
  · refine ⟨_, rfl, t, _, _, _, rfl, rfl, SqT.of (s4 _ _ a1), rfl, td, rfl, ⟨_, SqT.of (s4 _ _ a7)⟩, ?_⟩
    refine for_tup (K := K) (a := td) (xs := dv) (fun i σ' H' => Same H H' ∧ ∃ (pl : Addr) (o8 o9 : Option V), H pl = none ∧ H' pl = some (.lst (((headR c ++ c.rooms.flatMap (roomR c)) ++ (c.doors.take i).flatMap (doorR c)).map V.str)) ∧ σ' = [some (.ref t), some (.ref tb), some (.ref te), some (.ref tr), some (.ref pl), o5, o6, o7, o8, o9]) ⟨s4, pl0, o8, none, hpl0, by rw [List.take_zero, List.flatMap_nil, List.append_nil]; exact h4, rfl⟩ (fun i σ' H' _ h => SqT.of (h.1 _ _ a7)) ?_ ?_
    · rintro i x σ' H4 hx ⟨s5, pl, o8, o9, hpl, h5, rfl⟩
      have li : i < dv.length := (List.getElem?_eq_some_iff.mp hx).1
      have hk := List.getElem?_eq_getElem (show i < c.doors.length by omega)
      obtain ⟨x', hx', a0, vg, vd, rfl, ha, hg, ⟨ai, iv, rfl, hai, hAi⟩⟩ := All2.get a8 hk
      obtain rfl : x = .ref a0 := Option.some.inj (hx.symm.trans hx')
      have ok := k.dr _ (List.getElem_mem (show i < c.doors.length by omega))
      have et : c.doors.take (i + 1) = c.doors.take i ++ [c.doors[i]] := by rw [List.take_add_one, hk]; rfl
      have e1 : [c.doors[i]].flatMap (doorR c) = doorR c c.doors[i] := by simp
      have R1 := rows_door k i
      generalize c.doors[i] = d at ha hg hAi ok et e1
      have lrm : (c.rooms.map (·.nm)).length = c.rooms.length := List.length_map _
      have lbm : (c.bxs.map (·.nm)).length = c.bxs.length := List.length_map _
      have ha5 := s5 _ _ ha
      obtain ⟨xs, b1, tl, hx1, hat, hb1⟩ := ((nms_rm (K := K) a5 a6).mono s5).at ok.r0 (by rw [lrm]; exact ok.r1)
      have w1 := (nmR_wd k ok.r0 ok.r1).1
      have w2 := (ev_wd k ok.e0 ok.e1).1
      have w3 := ok.way.1
      have l5 : ("door " : Str).length = 5 := by decide +kernel
      have X1 : ((((("door " : Str) ++ nmR c d.room) ++ (" " : Str)) ++ c.evs.getD d.event.toNat ("" : Str)) ++ (" " : Str)) ++ d.way = Txt.join " " [("door" : Str), nmR c d.room, c.evs.getD d.event.toNat ("" : Str), d.way] := by
        rw [j4, lits.2.2.2.2.2.2.1]
      have eN : (c.rooms.map (·.nm)).getD d.room.toNat ("" : Str) = nmR c d.room := rfl
      rw [eN] at hb1
      have J0 : (Txt.join " " [("door" : Str), nmR c d.room, c.evs.getD d.event.toNat ("" : Str), d.way]).length ≤ 52 := Nat.le_trans (bound_join (k := 12) (fun y hy => ((doorW k ok).2 y (List.mem_append_left _ hy)).1)) (by show 13 * 4 ≤ 52; decide)
      refine ⟨_, rfl, _, rfl, a0, _, _, _, rfl, rfl, SqT.of ha5, rfl, tr, _, _, _, rfl, rfl, hx1, hat, b1, _, _, _, rfl, rfl, SqT.of hb1, atI_head, _, _, rfl, rfl, small_le (by rw [l5]; omega), _, _, rfl, rfl, small_le (by rw [Str.length_append, l5, l_]; omega), _, rfl, _, rfl, a0, _, _, _, rfl, rfl, SqT.of ha5, rfl, te, _, _, _, rfl, rfl, SqT.of (s5 _ _ a4), atI_getD ok.e0 ok.e1, _, _, rfl, rfl, small_le (by rw [Str.length_append, Str.length_append, l5, l_]; omega), _, _, rfl, rfl, small_le (by rw [Str.length_append, Str.length_append, Str.length_append, l5, l_]; omega), _, rfl, a0, _, _, _, rfl, rfl, SqT.of ha5, rfl, _, _, rfl, rfl, small_le (by rw [Str.length_append, Str.length_append, Str.length_append, Str.length_append, l5, l_]; omega), ?_⟩
      rw [X1]
      refine ⟨fun σ' H' => H' = H4 ∧ σ' = [some (.ref t), some (.ref tb), some (.ref te), some (.ref tr), some (.ref pl), o5, o6, o7, some (.str (doorRow c d)), some (.ref a0)], ?_, ?_⟩
      · refine ⟨_, rfl, a0, _, _, _, rfl, rfl, SqT.of ha5, rfl, rfl, _, rfl, ?_⟩
        have hgo := ok.goal
        cases hgl : d.goal with
        | none =>
          refine iteF ⟨rfl, ?_⟩
          unfold doorRow
          rw [hgl]
          rfl
        | some z =>
          obtain ⟨i0, i1⟩ := hgo z hgl
          obtain ⟨xs2, b2, tl2, hx2, hat2, hb2⟩ := ((nms_rm (K := K) a5 a6).mono s5).at i0 (by rw [lrm]; exact i1)
          have eN2 : (c.rooms.map (·.nm)).getD z.toNat ("" : Str) = nmR c z := rfl
          rw [eN2] at hb2
          have w4 := (nmR_wd k i0 i1).1
          have ha6 := ha5
          rw [hgl] at ha6
          refine iteT ⟨_, rfl, _, _, rfl, rfl, small_le (by rw [l_]; omega), _, rfl, _, rfl, a0, _, _, _, rfl, rfl, SqT.of ha6, rfl, tr, _, _, _, rfl, rfl, hx2, hat2, b2, _, _, _, rfl, rfl, SqT.of hb2, atI_head, _, _, rfl, rfl, small_le (by rw [Str.length_append, l_]; omega), rfl, ?_⟩
          unfold doorRow
          rw [hgl]
          show _ = [some (V.ref t), some (V.ref tb), some (V.ref te), some (V.ref tr), some (V.ref pl), o5, o6, o7, some (V.str (Txt.join " " ([("door" : Str), nmR c d.room, c.evs.getD d.event.toNat ("" : Str), d.way] ++ [nmR c z]))), some (V.ref a0)]
          rw [jl (by simp)]
          rfl
      rintro σ6 H6 ⟨rfl, rfl⟩
      have l8 := ok.ld
      have lw := wW_n c d.guard
      refine ⟨_, rfl, .inl ⟨rfl, _, SqL.of h5⟩, _, rfl, pl, _, _, rfl, rfl, h5, Nat.lt_of_lt_of_le (show _ < 1000000 by rw [List.length_map]; omega) (by decide), ?_⟩
      have s7 : Same H (upd H6 pl (.lst (((headR c ++ c.rooms.flatMap (roomR c)) ++ (c.doors.take i).flatMap (doorR c)).map V.str ++ [.str (doorRow c d)]))) := same_upd hpl s5 _
      have h7 : (upd H6 pl (.lst (((headR c ++ c.rooms.flatMap (roomR c)) ++ (c.doors.take i).flatMap (doorR c)).map V.str ++ [.str (doorRow c d)]))) pl = some (.lst ((((headR c ++ c.rooms.flatMap (roomR c)) ++ (c.doors.take i).flatMap (doorR c)) ++ [doorRow c d]).map V.str)) := by
        rw [upd_same, List.map_append (l₂ := [doorRow c d])]
        rfl
      generalize upd H6 pl (.lst (((headR c ++ c.rooms.flatMap (roomR c)) ++ (c.doors.take i).flatMap (doorR c)).map V.str ++ [.str (doorRow c d)])) = H7 at s7 h7 ⊢
      generalize eRR : (headR c ++ c.rooms.flatMap (roomR c)) ++ (c.doors.take i).flatMap (doorR c) = RR at h7 R1
      refine ⟨fun σ' H' => Same H H' ∧ H' pl = some (.lst ((RR ++ [doorRow c d] ++ wW c d.guard).map V.str)) ∧ σ' = [some (.ref t), some (.ref tb), some (.ref te), some (.ref tr), some (.ref pl), o5, o6, o7, some (.str (doorRow c d)), some (.ref a0)], ?_, ?_⟩
      · obtain ⟨ag, us, rfl, hag, ey⟩ := gd_yes hg
        refine ⟨_, rfl, a0, _, _, _, rfl, rfl, SqT.of (s7 _ _ ha), rfl, ag, _, _, _, rfl, rfl, SqT.of (s7 _ _ hag), atI_head, rfl, _, rfl, ?_⟩
        have yi := yes_iff d.guard
        refine itB (fun e => ?_) (fun e => ?_)
        · have hy : isYes d.guard = false := by
            rw [yi]
            refine decide_eq_false fun z => ?_
            rw [z] at e
            simp at e
          have ew : wW c d.guard = [("when " : Str) ++ T (c.bxs.map (·.nm)) (c.rooms.map (·.nm)) d.guard] := if_neg (by rw [hy]; decide)
          have fit : Fit (c.bxs.map (·.nm)).length (c.rooms.map (·.nm)).length d.guard := by
            rw [lbm, lrm]
            exact ok.fit
          have nbl : ∀ z ∈ c.bxs.map (·.nm), z.length ≤ 12 := fun z hz => by
            obtain ⟨b, hb, rfl⟩ := List.mem_map.mp hz
            exact (k.bx b hb).1.1
          have nrl : ∀ z ∈ c.rooms.map (·.nm), z.length ≤ 12 := fun z hz => by
            obtain ⟨b, hb, rfl⟩ := List.mem_map.mp hz
            exact (k.rm b hb).nm.1
          have lT := T_len nbl nrl d.guard fit
          have w6 := ok.wt
          refine ⟨_, rfl, .inl ⟨rfl, _, SqL.of h7⟩, _, rfl, a0, _, _, _, rfl, rfl, SqT.of (s7 _ _ ha), rfl, _, rfl, _, rfl, .ref ag, tb, tr, d.guard, c.bxs.map (·.nm), c.rooms.map (·.nm), rfl, hg.mono (KeepT.of s7), ok.ht, by omega, fit, (nms_bx a2 a3).mono s7, (nms_rm a5 a6).mono s7, nbl, nrl, fun H8 s8 => ⟨_, _, rfl, rfl, small_le (by rw [L.2.2.2.2.2.1]; omega), pl, _, _, rfl, rfl, s8 _ _ h7, Nat.lt_of_lt_of_le (show _ < 1000000 by rw [List.length_map, List.length_append]; show _ + 1 < _; omega) (by decide), same_upd hpl (s7.trans s8) _, ?_, rfl⟩⟩
          rw [upd_same, ew, List.map_append (l₂ := [("when " : Str) ++ T (c.bxs.map (·.nm)) (c.rooms.map (·.nm)) d.guard])]
          rfl
        · have hy : isYes d.guard = true := by
            rw [yi]
            refine decide_eq_true ?_
            simp at e
            exact e
          have ew : wW c d.guard = [] := if_pos hy
          refine ⟨s7, ?_, rfl⟩
          rw [ew, List.append_nil]
          exact h7
      rintro σ8 H8 ⟨s8, h8, rfl⟩
      refine ⟨_, rfl, _, rfl, a0, _, _, _, rfl, rfl, SqT.of (s8 _ _ ha), rfl, ai, rfl, ⟨_, SqT.of (s8 _ _ hai)⟩, ?_⟩
      refine comp_tup (K := K) (a := ai) (xs := iv) (fun z acc H' => H' = H8 ∧ acc = ((d.deeds.take z).map (dR c "do")).map V.str) ⟨rfl, rfl⟩ (fun z acc H' h => by rw [h.1]; exact SqT.of (s8 _ _ hai)) (fun z x acc H' hx h => ?_) (fun acc H' h pc hpc => ?_)
      · obtain ⟨eH, e2⟩ := h
        rw [eH]
        have li : z < iv.length := (List.getElem?_eq_some_iff.mp hx).1
        have ll := hAi.length
        have hk := List.getElem?_eq_getElem (show z < d.deeds.length by omega)
        obtain ⟨x', hx', hd'⟩ := hAi.get hk
        obtain rfl : x = x' := Option.some.inj (hx.symm.trans hx')
        have ok2 := ok.deeds _ (List.getElem_mem (show z < d.deeds.length by omega))
        have h1 := bound_join (k := 52) (fun y hy => (ok2.ws y hy).1)
        have h2 := words_n c d.deeds[z]
        have h3 : 53 * (wordsD c.bxs c.evs d.deeds[z]).length ≤ 53 * 3 := Nat.mul_le_mul_left _ h2
        have em : ("do " : Str) ++ Txt.join " " (wordsD c.bxs c.evs d.deeds[z]) = dR c "do" d.deeds[z] := by
          unfold dR
          rw [lits.2.2.2.2.1]
        have lm : ("do " : Str).length ≤ 4 := by decide +kernel
        refine ⟨_, rfl, _, rfl, _, rfl, x, tb, te, d.deeds[z], bv, c.bxs, c.evs, rfl, hd'.mono (KeepT.of s8), ⟨ok2.fit, ok2.ws⟩, s8 _ _ a2, BxsIn.mono a3 (KeepT.of s8), s8 _ _ a4, _, _, rfl, rfl, small_le (by omega), ?_, rfl, ?_⟩
        · rw [e2, List.length_map, List.length_map, List.length_take]
          exact small1000 (by omega)
        · rw [e2, List.take_add_one, hk, List.map_append, List.map_append]
          show _ ++ [V.str (("do " : Str) ++ Txt.join " " (wordsD c.bxs c.evs d.deeds[z]))] = _
          rw [em]
          rfl
      obtain ⟨eH, e2⟩ := h
      have ll := hAi.length
      rw [List.take_of_length_le (by omega)] at e2
      have eH2 := eH.symm
      subst eH2 e2
      refine ⟨pl, pc, _, _, rfl, rfl, same_new hpc _ _ _ h8, upd_same, mid_le (by rw [List.length_map, List.length_map, List.length_map, List.length_append, List.length_append]; show _ + 1 + _ + _ ≤ _; omega), fun p10 hp10 => ⟨(s8.trans (same_new hpc _)).trans (same_new hp10 _), p10, _, _, (s8.trans (same_new hpc _)).free hp10, ?_, rfl⟩⟩
      rw [upd_same, et, List.flatMap_append, e1, ← List.append_assoc, eRR, ← List.map_append]
      unfold doorR
      simp only [List.append_assoc]
    · rintro σ' H4 ⟨s5, pl, o8, o9, hpl, h5, rfl⟩
      rw [List.take_of_length_le (by omega)] at h5
      exact ⟨s5, pl, o8, o9, h5, rfl⟩
  rintro σ4 H4 ⟨s5, pl, o8, o9, h5, rfl⟩
  exact ⟨_, rfl, q pl H4 s5 h5⟩
theorem sc_law : FnScope ["_law_script", "_law_chart_here", "_law_due", "_law_found", "_law_rows_here", "_law_k"] ["_law_script"] (defScope sLawF) := ⟨rfl, rfl, rfl, by decide +kernel, rfl, by decide +kernel, by decide +kernel⟩
theorem ok_law {n : Nat} {f gc gr gs : Addr} {fd dc dr ds : FuncData} (F : Fun K "law" "law" sLawF f fd)
    (G_law_chart : FnOk P w K mg base CX0 n gc dc ["_law_script"] (spChartL K)) (b_law_chart : Binds K dc ["_law_script"] []) (k_law_chart : PySem.W.keepIn K (.ref gc) = true) (m_law_chart : mg "_law_chart" = some (.ref gc))
    (G_law_rows : FnOk P w K mg base CX0 n gr dr ["_law_chart_here"] spRowsL) (b_law_rows : Binds K dr ["_law_chart_here"] []) (k_law_rows : PySem.W.keepIn K (.ref gr) = true) (m_law_rows : mg "_law_rows" = some (.ref gr))
    (G_shown : FnOk P w K mg base CX0 n gs ds ["chart"] spShown) (b_shown : Binds K ds ["chart"] []) (k_shown : PySem.W.keepIn K (.ref gs) = true) (m_shown : mg "shown" = some (.ref gs))
    (m_isinstance : mg "isinstance" = none) (m_str : mg "str" = none) (m_len : mg "len" = none) (m_range : mg "range" = none) : FnOk P w K mg base CX0 (n + 1) f fd ["_law_script"] (spLaw K) := by
  refine F.ok sc_law (fun vs H Q E h => ?_) (fun cdv A outer s H vs Q E hr h => ?_)
  · obtain ⟨a, ns, rfl, _⟩ := h
    rfl
  obtain ⟨a, ns, rfl, hS, h63, q⟩ := h
  refine ⟨_, (pss_cons (ps_set (i := 1) sc_law.nd rfl (Or.inl rfl) (pe_call G_law_chart hr rfl m_law_chart k_law_chart b_law_chart .nil pass0 (pa_cons (pv 0) pa_nil)))
    (pss_cons (ps_set (i := 2) sc_law.nd rfl (Or.inl rfl) (pe_call G_law_rows hr rfl m_law_rows k_law_rows b_law_rows .nil pass0 (pa_cons (pv 1) pa_nil)))
    (pss_cons (ps_set (i := 3) sc_law.nd rfl (Or.inl rfl) (pe_call G_shown hr rfl m_shown k_shown b_shown .nil pass0 (pa_cons (pv 1) pa_nil)))
    (pss_cons (ps_if (pt_not (pt_val (pe_callB call_isinst rfl m_isinstance PyProof.Rows.boot_isinstance (pa_cons (pv 3) (pa_cons (pe_bltn (v := .ty "str") rfl m_str PyProof.Rows.boot_str rfl) pa_nil)))))
      (pss_one (ps_ret pe_bl))
      pss_nil)
    (pss_cons (ps_set (i := 4) sc_law.nd rfl (Or.inl rfl) (pe_bm PySem.F.plainAttrs_str PySem.F.slot_str_split PySem.F.type_str_split mt_split (pv 3) (pa_cons pe_str pa_nil)))
    (pss_cons (ps_if (pt_cmpR op_ne (pe_callB call_len_seq rfl m_len PySem.boot_len (pa_cons (pv 4) pa_nil)) (pe_callB call_len_seq rfl m_len PySem.boot_len (pa_cons (pv 2) pa_nil)) (nomark _))
      (pss_one (ps_ret pe_bl))
      pss_nil)
    (pss_cut (ps_for PassesOwn.never rfl (pi_range1 rfl m_range (pa_cons (pe_callB call_len_seq rfl m_len PySem.boot_len (pa_cons (pv 2) pa_nil)) pa_nil)) (pg_name (i := 5) sc_law.nd rfl (Or.inl rfl))
      (pss_one (ps_if (pt_cmpR op_ne (pe_ix ix_list (pv 4) (pv 5) (fun _ _ => rfl)) (pe_ix ix_list (pv 2) (pv 5) (fun _ _ => rfl)) (nomark _))
        (pss_one (ps_ret pe_bl))
        pss_nil)))
    (pss_one (ps_ret pe_bl))))))))), ?_⟩
  have eqF : ∀ v : V, (!decide (v = v)) = false := fun v => by simp
  refine ⟨_, rfl, a, ns, rfl, hS, h63, fun t c H1 s1 hC k => ?_⟩
  refine ⟨_, rfl, t, c, rfl, hC, k, fun pd H2 s2 hpd => ?_⟩
  refine ⟨_, rfl, t, c, rfl, hC.mono (KeepT.of s2), k, fun H3 s3 => ?_⟩
  refine ⟨_, rfl, _, "str", _, true, rfl, .str _, by rfl, _, rfl, ifF rfl ?_⟩
  have R := rows_len k
  have hne : rowsC c ≠ [] := by
    unfold rowsC headR
    simp
  have es := split_nl hne (fun y hy => (rows_ok k y hy).2)
  have ln := nl_len (rowsC c) hne
  have bs := bound_sum (l := rowsC c) (k := 700) (fun y hy => rows_each k y hy)
  have hpd3 := s3 _ _ hpd
  have lm : ((rowsC c).map V.str).length = (rowsC c).length := List.length_map _
  refine ⟨_, rfl, rfl, _, "\n", rfl, rfl, by decide +kernel, mid_le (by omega), by rw [es]; exact mid_le (by omega), fun pr hpr => ?_⟩
  rw [es]
  have hr4 : (upd H3 pr (.lst ((rowsC c).map V.str))) pr = some (.lst ((rowsC c).map V.str)) := upd_same
  have hd4 := same_new hpr (.lst ((rowsC c).map V.str)) _ _ hpd3
  generalize upd H3 pr (.lst ((rowsC c).map V.str)) = H4 at hr4 hd4 ⊢
  refine ⟨_, rfl, pr, _, rfl, .inl (SqL.of hr4), _, rfl, pd, _, rfl, .inl (SqL.of hd4), rfl, _, rfl, ifF (eqF _) ?_⟩
  refine ⟨fun σ' H' => H' = H4, ?_, ?_⟩
  · refine ⟨_, rfl, pd, _, rfl, .inl (SqL.of hd4), (((rowsC c).map V.str).length : Int), rfl, by omega, by omega, ?_⟩
    refine for_range (fun i σ' H' => H' = H4 ∧ ∃ o : Option V, σ' = [some (.ref a), some (.ref t), some (.ref pd), some (.str (Txt.join "\n" (rowsC c))), some (.ref pr), o]) ⟨rfl, none, rfl⟩ ?_ ?_
    · rintro i σ' H5 hi ⟨rfl, o, rfl⟩
      have hi' : i < ((rowsC c).map V.str).length := hi
      have hat : atI ((rowsC c).map V.str) (0 + (i : Int)) = some ((rowsC c).map V.str)[i] := by
        rw [Int.zero_add]
        exact atI_nat (List.getElem?_eq_getElem hi')
      have hv : ∃ z : Str, ((rowsC c).map V.str)[i] = .str z := ⟨_, List.getElem_map _⟩
      obtain ⟨z, hz⟩ := hv
      rw [hz] at hat
      exact ⟨_, rfl, _, rfl, pr, _, _, _, rfl, rfl, SqL.of hr4, hat, _, rfl, _, rfl, pd, _, _, _, rfl, rfl, SqL.of hd4, hat, rfl, _, rfl, ifF (eqF _) ⟨rfl, _, rfl⟩⟩
    · rintro σ' H5 ⟨rfl, o, rfl⟩
      rfl
  rintro σ' H5 rfl
  exact q _
end
end C43

namespace C43
open PySem L2 Mix Gds Dds Wds Cht Num Spl Txm Dig D42 G41
/-! the top -/
def fnD (x q : Str) (st : Stmt) (pm cd : Value) : FuncData := PySem.W.fnOf x q (defArgs st) (defBody st) (defScope st) .none .none .none pm none cd .none
def fnB (d : FuncData) : Obj := ⟨.type "function", none, .func d, #[]⟩
def fd1 : FuncData := fnD "_law_cell_at" "_law_cell_at" sCell (.str "law_nesthall_k43_charts_written" 267) (.ref 77)
def fd2 : FuncData := fnD "_law_mixed" "_law_mixed" sMixed (.str "law_nesthall_k43_charts_written" 267) (.ref 84)
def fd3 : FuncData := fnD "written" "written" s_written (.str "nesthall.figures" 187) (.ref 20)
def fd4 : FuncData := fnD "guards_within" "guards_within" s_guards_within (.str "nesthall.guards" 196) (.ref 27)
def fd5 : FuncData := fnD "guard_text" "guard_text" s_guard_text (.str "nesthall.writing" 205) (.ref 32)
def fd6 : FuncData := fnD "deed_text" "deed_text" s_deed_text (.str "nesthall.writing" 205) (.ref 39)
def fd7 : FuncData := fnD "head_rows" "head_rows" s_head_rows (.str "nesthall.writing" 205) (.ref 44)
def fd8 : FuncData := fnD "deed_rows" "deed_rows" s_deed_rows (.str "nesthall.writing" 205) (.ref 49)
def fd9 : FuncData := fnD "room_rows" "room_rows" s_room_rows (.str "nesthall.writing" 205) (.ref 56)
def fd10 : FuncData := fnD "door_rows" "door_rows" s_door_rows (.str "nesthall.writing" 205) (.ref 63)
def fd11 : FuncData := fnD "shown" "shown" s_shown (.str "nesthall.writing" 205) (.ref 70)
def fd12 : FuncData := fnD "_law_word" "_law_word" s_L_word (.str "law_nesthall_k43_charts_written" 267) (.ref 91)
def fd13 : FuncData := fnD "_law_name" "_law_name" s_L_name (.str "law_nesthall_k43_charts_written" 267) (.ref 98)
def fd14 : FuncData := fnD "_law_names" "_law_names" s_L_names (.str "law_nesthall_k43_charts_written" 267) (.ref 105)
def fd15 : FuncData := fnD "_law_deed" "_law_deed" s_L_deed (.str "law_nesthall_k43_charts_written" 267) (.ref 112)
def fd16 : FuncData := fnD "_law_deeds" "_law_deeds" s_L_deeds (.str "law_nesthall_k43_charts_written" 267) (.ref 117)
def fd17 : FuncData := fnD "_law_guard" "_law_guard" s_L_guard (.str "law_nesthall_k43_charts_written" 267) (.ref 124)
def fd18 : FuncData := fnD "_law_boxes" "_law_boxes" s_L_boxes (.str "law_nesthall_k43_charts_written" 267) (.ref 131)
def fd19 : FuncData := fnD "_law_rooms" "_law_rooms" sRooms (.str "law_nesthall_k43_charts_written" 267) (.ref 138)
def fd20 : FuncData := fnD "_law_doors" "_law_doors" s_L_doors (.str "law_nesthall_k43_charts_written" 267) (.ref 143)
def fd21 : FuncData := fnD "_law_chart" "_law_chart" s_L_chart (.str "law_nesthall_k43_charts_written" 267) (.ref 150)
def fd22 : FuncData := fnD "_law_deed_row" "_law_deed_row" s_L_deed_row (.str "law_nesthall_k43_charts_written" 267) (.ref 157)
def fd23 : FuncData := fnD "_law_guard_row" "_law_guard_row" s_L_guard_row (.str "law_nesthall_k43_charts_written" 267) (.ref 164)
def fd24 : FuncData := fnD "_law_rows" "_law_rows" s_L_rows (.str "law_nesthall_k43_charts_written" 267) (.ref 169)
def fd25 : FuncData := fnD "law" "law" sLawF (.str "law_nesthall_k43_charts_written" 267) (.ref 176)
def KO (P : Params) : PySem.W.Frag := [
  (3, ⟨.type "dict", none, .dict #[⟨PyData.keyHash P "__name__", .str "__name__" 165, .str "law_nesthall_k43_charts_written" 267⟩, ⟨PyData.keyHash P "__doc__", .str "__doc__" 166, .none⟩, ⟨PyData.keyHash P "__package__", .str "__package__" 167, .none⟩, ⟨PyData.keyHash P "__loader__", .str "__loader__" 168, .builtin "__main__.__loader__#opaque"⟩, ⟨PyData.keyHash P "__spec__", .str "__spec__" 169, .none⟩, ⟨PyData.keyHash P "__annotations__", .str "__annotations__" 170, .ref 6⟩, ⟨PyData.keyHash P "__builtins__", .str "__builtins__" 171, .ref 4⟩, ⟨PyData.keyHash P "__file__", .str "__file__" 173, .str "/claim/cut.py" 172⟩, ⟨PyData.keyHash P "__cached__", .str "__cached__" 174, .none⟩, ⟨PyData.keyHash P "written", .str "written" 195, .ref 21⟩, ⟨PyData.keyHash P "guards_within", .str "guards_within" 204, .ref 28⟩, ⟨PyData.keyHash P "guard_text", .str "guard_text" 212, .ref 33⟩, ⟨PyData.keyHash P "deed_text", .str "deed_text" 223, .ref 40⟩, ⟨PyData.keyHash P "head_rows", .str "head_rows" 229, .ref 45⟩, ⟨PyData.keyHash P "deed_rows", .str "deed_rows" 235, .ref 50⟩, ⟨PyData.keyHash P "room_rows", .str "room_rows" 245, .ref 57⟩, ⟨PyData.keyHash P "door_rows", .str "door_rows" 256, .ref 64⟩, ⟨PyData.keyHash P "shown", .str "shown" 266, .ref 71⟩, ⟨PyData.keyHash P "_law_cell_at", .str "_law_cell_at" 276, .ref 78⟩, ⟨PyData.keyHash P "_law_mixed", .str "_law_mixed" 288, .ref 85⟩, ⟨PyData.keyHash P "_law_word", .str "_law_word" 299, .ref 92⟩, ⟨PyData.keyHash P "_law_name", .str "_law_name" 310, .ref 99⟩, ⟨PyData.keyHash P "_law_names", .str "_law_names" 323, .ref 106⟩, ⟨PyData.keyHash P "_law_deed", .str "_law_deed" 340, .ref 113⟩, ⟨PyData.keyHash P "_law_deeds", .str "_law_deeds" 346, .ref 118⟩, ⟨PyData.keyHash P "_law_guard", .str "_law_guard" 363, .ref 125⟩, ⟨PyData.keyHash P "_law_boxes", .str "_law_boxes" 376, .ref 132⟩, ⟨PyData.keyHash P "_law_rooms", .str "_law_rooms" 396, .ref 139⟩, ⟨PyData.keyHash P "_law_doors", .str "_law_doors" 402, .ref 144⟩, ⟨PyData.keyHash P "_law_chart", .str "_law_chart" 417, .ref 151⟩, ⟨PyData.keyHash P "_law_deed_row", .str "_law_deed_row" 426, .ref 158⟩, ⟨PyData.keyHash P "_law_guard_row", .str "_law_guard_row" 437, .ref 165⟩, ⟨PyData.keyHash P "_law_rows", .str "_law_rows" 443, .ref 170⟩, ⟨PyData.keyHash P "law", .str "law" 455, .ref 177⟩] 34, #[]⟩),
  (77, ⟨.type "code", none, .fields #[.str "_law_cell_at" 269, .str "_law_cell_at" 270, .str "/claim/cut.py" 271, .int (62) 0, .int (2) 0, .int (0) 0, .int (0) 0, .int (3) 0, .ref 72, .bool true, .int (181) 0, .ref 73, .none, .ref 74, .ref 75, .ref 76, .int (274) 0, .int (62) 0, .str "/claim/cut.py" 275], #[]⟩),
  (78, fnB fd1),
  (84, ⟨.type "code", none, .fields #[.str "_law_mixed" 277, .str "_law_mixed" 278, .str "/claim/cut.py" 279, .int (66) 0, .int (3) 0, .int (0) 0, .int (0) 0, .int (3) 0, .ref 79, .bool true, .int (181) 0, .ref 80, .none, .ref 81, .ref 82, .ref 83, .int (286) 0, .int (66) 0, .str "/claim/cut.py" 287], #[]⟩),
  (85, fnB fd2),
  (20, ⟨.type "code", none, .fields #[.str "written" 189, .str "written" 190, .str "/claim/cut.py" 191, .int (2) 0, .int (1) 0, .int (0) 0, .int (0) 0, .int (3) 0, .ref 15, .bool true, .int (181) 0, .ref 16, .none, .ref 17, .ref 18, .ref 19, .int (193) 0, .int (2) 0, .str "/claim/cut.py" 194], #[]⟩),
  (21, fnB fd3),
  (27, ⟨.type "code", none, .fields #[.str "guards_within" 198, .str "guards_within" 199, .str "/claim/cut.py" 200, .int (5) 0, .int (1) 0, .int (0) 0, .int (0) 0, .int (3) 0, .ref 22, .bool true, .int (181) 0, .ref 23, .none, .ref 24, .ref 25, .ref 26, .int (202) 0, .int (5) 0, .str "/claim/cut.py" 203], #[]⟩),
  (28, fnB fd4),
  (32, ⟨.type "code", none, .fields #[.str "guard_text" 207, .str "guard_text" 208, .str "/claim/cut.py" 209, .int (12) 0, .int (3) 0, .int (0) 0, .int (0) 0, .int (3) 0, .ref 29, .bool true, .int (181) 0, .ref 30, .none, .none, .none, .ref 31, .int (210) 0, .int (12) 0, .str "/claim/cut.py" 211], #[]⟩),
  (33, fnB fd5),
  (39, ⟨.type "code", none, .fields #[.str "deed_text" 213, .str "deed_text" 214, .str "/claim/cut.py" 215, .int (21) 0, .int (3) 0, .int (0) 0, .int (0) 0, .int (3) 0, .ref 34, .bool true, .int (181) 0, .ref 35, .none, .ref 36, .ref 37, .ref 38, .int (221) 0, .int (21) 0, .str "/claim/cut.py" 222], #[]⟩),
  (40, fnB fd6),
  (44, ⟨.type "code", none, .fields #[.str "head_rows" 224, .str "head_rows" 225, .str "/claim/cut.py" 226, .int (30) 0, .int (1) 0, .int (0) 0, .int (0) 0, .int (3) 0, .ref 41, .bool true, .int (181) 0, .ref 42, .none, .none, .none, .ref 43, .int (227) 0, .int (30) 0, .str "/claim/cut.py" 228], #[]⟩),
  (45, fnB fd7),
  (49, ⟨.type "code", none, .fields #[.str "deed_rows" 230, .str "deed_rows" 231, .str "/claim/cut.py" 232, .int (35) 0, .int (3) 0, .int (0) 0, .int (0) 0, .int (3) 0, .ref 46, .bool true, .int (181) 0, .ref 47, .none, .none, .none, .ref 48, .int (233) 0, .int (35) 0, .str "/claim/cut.py" 234], #[]⟩),
  (50, fnB fd8),
  (56, ⟨.type "code", none, .fields #[.str "room_rows" 236, .str "room_rows" 237, .str "/claim/cut.py" 238, .int (37) 0, .int (2) 0, .int (0) 0, .int (0) 0, .int (3) 0, .ref 51, .bool true, .int (181) 0, .ref 52, .none, .ref 53, .ref 54, .ref 55, .int (243) 0, .int (37) 0, .str "/claim/cut.py" 244], #[]⟩),
  (57, fnB fd9),
  (63, ⟨.type "code", none, .fields #[.str "door_rows" 246, .str "door_rows" 247, .str "/claim/cut.py" 248, .int (45) 0, .int (2) 0, .int (0) 0, .int (0) 0, .int (3) 0, .ref 58, .bool true, .int (181) 0, .ref 59, .none, .ref 60, .ref 61, .ref 62, .int (254) 0, .int (45) 0, .str "/claim/cut.py" 255], #[]⟩),
  (64, fnB fd10),
  (70, ⟨.type "code", none, .fields #[.str "shown" 257, .str "shown" 258, .str "/claim/cut.py" 259, .int (54) 0, .int (1) 0, .int (0) 0, .int (0) 0, .int (3) 0, .ref 65, .bool true, .int (181) 0, .ref 66, .none, .ref 67, .ref 68, .ref 69, .int (264) 0, .int (54) 0, .str "/claim/cut.py" 265], #[]⟩),
  (71, fnB fd11),
  (91, ⟨.type "code", none, .fields #[.str "_law_word" 289, .str "_law_word" 290, .str "/claim/cut.py" 291, .int (73) 0, .int (1) 0, .int (0) 0, .int (0) 0, .int (3) 0, .ref 86, .bool true, .int (181) 0, .ref 87, .none, .ref 88, .ref 89, .ref 90, .int (297) 0, .int (73) 0, .str "/claim/cut.py" 298], #[]⟩),
  (92, fnB fd12),
  (98, ⟨.type "code", none, .fields #[.str "_law_name" 300, .str "_law_name" 301, .str "/claim/cut.py" 302, .int (80) 0, .int (2) 0, .int (0) 0, .int (0) 0, .int (3) 0, .ref 93, .bool true, .int (181) 0, .ref 94, .none, .ref 95, .ref 96, .ref 97, .int (308) 0, .int (80) 0, .str "/claim/cut.py" 309], #[]⟩),
  (99, fnB fd13),
  (105, ⟨.type "code", none, .fields #[.str "_law_names" 311, .str "_law_names" 312, .str "/claim/cut.py" 313, .int (85) 0, .int (3) 0, .int (0) 0, .int (0) 0, .int (3) 0, .ref 100, .bool true, .int (181) 0, .ref 101, .none, .ref 102, .ref 103, .ref 104, .int (321) 0, .int (85) 0, .str "/claim/cut.py" 322], #[]⟩),
  (106, fnB fd14),
  (112, ⟨.type "code", none, .fields #[.str "_law_deed" 324, .str "_law_deed" 325, .str "/claim/cut.py" 326, .int (99) 0, .int (5) 0, .int (0) 0, .int (0) 0, .int (3) 0, .ref 107, .bool true, .int (181) 0, .ref 108, .none, .ref 109, .ref 110, .ref 111, .int (338) 0, .int (99) 0, .str "/claim/cut.py" 339], #[]⟩),
  (113, fnB fd15),
  (117, ⟨.type "code", none, .fields #[.str "_law_deeds" 341, .str "_law_deeds" 342, .str "/claim/cut.py" 343, .int (113) 0, .int (5) 0, .int (0) 0, .int (0) 0, .int (3) 0, .ref 114, .bool true, .int (181) 0, .ref 115, .none, .none, .none, .ref 116, .int (344) 0, .int (113) 0, .str "/claim/cut.py" 345], #[]⟩),
  (118, fnB fd16),
  (124, ⟨.type "code", none, .fields #[.str "_law_guard" 347, .str "_law_guard" 348, .str "/claim/cut.py" 349, .int (116) 0, .int (6) 0, .int (0) 0, .int (0) 0, .int (3) 0, .ref 119, .bool true, .int (181) 0, .ref 120, .none, .ref 121, .ref 122, .ref 123, .int (361) 0, .int (116) 0, .str "/claim/cut.py" 362], #[]⟩),
  (125, fnB fd17),
  (131, ⟨.type "code", none, .fields #[.str "_law_boxes" 364, .str "_law_boxes" 365, .str "/claim/cut.py" 366, .int (131) 0, .int (2) 0, .int (0) 0, .int (0) 0, .int (3) 0, .ref 126, .bool true, .int (181) 0, .ref 127, .none, .ref 128, .ref 129, .ref 130, .int (374) 0, .int (131) 0, .str "/claim/cut.py" 375], #[]⟩),
  (132, fnB fd18),
  (138, ⟨.type "code", none, .fields #[.str "_law_rooms" 377, .str "_law_rooms" 378, .str "/claim/cut.py" 379, .int (139) 0, .int (4) 0, .int (0) 0, .int (0) 0, .int (3) 0, .ref 133, .bool true, .int (181) 0, .ref 134, .none, .ref 135, .ref 136, .ref 137, .int (394) 0, .int (139) 0, .str "/claim/cut.py" 395], #[]⟩),
  (139, fnB fd19),
  (143, ⟨.type "code", none, .fields #[.str "_law_doors" 397, .str "_law_doors" 398, .str "/claim/cut.py" 399, .int (164) 0, .int (5) 0, .int (0) 0, .int (0) 0, .int (3) 0, .ref 140, .bool true, .int (181) 0, .ref 141, .none, .none, .none, .ref 142, .int (400) 0, .int (164) 0, .str "/claim/cut.py" 401], #[]⟩),
  (144, fnB fd20),
  (150, ⟨.type "code", none, .fields #[.str "_law_chart" 403, .str "_law_chart" 404, .str "/claim/cut.py" 405, .int (184) 0, .int (1) 0, .int (0) 0, .int (0) 0, .int (3) 0, .ref 145, .bool true, .int (181) 0, .ref 146, .none, .ref 147, .ref 148, .ref 149, .int (415) 0, .int (184) 0, .str "/claim/cut.py" 416], #[]⟩),
  (151, fnB fd21),
  (157, ⟨.type "code", none, .fields #[.str "_law_deed_row" 418, .str "_law_deed_row" 419, .str "/claim/cut.py" 420, .int (198) 0, .int (3) 0, .int (0) 0, .int (0) 0, .int (3) 0, .ref 152, .bool true, .int (181) 0, .ref 153, .none, .ref 154, .ref 155, .ref 156, .int (424) 0, .int (198) 0, .str "/claim/cut.py" 425], #[]⟩),
  (158, fnB fd22),
  (164, ⟨.type "code", none, .fields #[.str "_law_guard_row" 427, .str "_law_guard_row" 428, .str "/claim/cut.py" 429, .int (204) 0, .int (3) 0, .int (0) 0, .int (0) 0, .int (3) 0, .ref 159, .bool true, .int (181) 0, .ref 160, .none, .ref 161, .ref 162, .ref 163, .int (435) 0, .int (204) 0, .str "/claim/cut.py" 436], #[]⟩),
  (165, fnB fd23),
  (169, ⟨.type "code", none, .fields #[.str "_law_rows" 438, .str "_law_rows" 439, .str "/claim/cut.py" 440, .int (213) 0, .int (1) 0, .int (0) 0, .int (0) 0, .int (3) 0, .ref 166, .bool true, .int (181) 0, .ref 167, .none, .none, .none, .ref 168, .int (441) 0, .int (213) 0, .str "/claim/cut.py" 442], #[]⟩),
  (170, fnB fd24),
  (176, ⟨.type "code", none, .fields #[.str "law" 444, .str "law" 445, .str "/claim/cut.py" 446, .int (240) 0, .int (1) 0, .int (0) 0, .int (0) 0, .int (3) 0, .ref 171, .bool true, .int (181) 0, .ref 172, .none, .ref 173, .ref 174, .ref 175, .int (453) 0, .int (240) 0, .str "/claim/cut.py" 454], #[]⟩),
  (177, fnB fd25)]
def KA : List Addr := [3, 77, 78, 84, 85, 20, 21, 27, 28, 32, 33, 39, 40, 44, 45, 49, 50, 56, 57, 63, 64, 70, 71, 91, 92, 98, 99, 105, 106, 112, 113, 117, 118, 124, 125, 131, 132, 138, 139, 143, 144, 150, 151, 157, 158, 164, 165, 169, 170, 176, 177]
def PW : Program := PySem.Challenge.pw_nesthall_k43_charts_written
def QV : Program := PySem.W.view PW [28]
def LS : List Str := [Str.ofString "__name__", Str.ofString "written", Str.ofString "guards_within", Str.ofString "guard_text", Str.ofString "deed_text", Str.ofString "head_rows", Str.ofString "deed_rows", Str.ofString "room_rows", Str.ofString "door_rows", Str.ofString "shown", Str.ofString "_law_cell_at", Str.ofString "_law_mixed", Str.ofString "_law_word", Str.ofString "_law_name", Str.ofString "_law_names", Str.ofString "_law_deed", Str.ofString "_law_deeds", Str.ofString "_law_guard", Str.ofString "_law_boxes", Str.ofString "_law_rooms", Str.ofString "_law_doors", Str.ofString "_law_chart", Str.ofString "_law_deed_row", Str.ofString "_law_guard_row", Str.ofString "_law_rows"]
def HK : PySem.W.Hook := PySem.W.kHook KO KA fun _ => by kernel_rfl
def defPos : Stmt → Pos
  | .FunctionDef _ _ _ _ _ _ _ _ _ p => p
  | _ => ⟨0, 0, 0, 0⟩
def dLaw : DefRec := ⟨"law", defArgs sLawF, defBody sLawF, defScope sLawF, defPos sLawF⟩
set_option maxHeartbeats 0 in
theorem said : PySem.Challenge.rw_nesthall_k43_charts_written.wellSaid = true := by kernel_rfl
set_option maxHeartbeats 0 in
theorem left : PySem.W.LeftO PW QV LS (fun s => PySem.W.xlAt QV [] s && PySem.W.recOk [] s) HK.obs HK.val 2796 := fun w => by kernel_rfl
theorem hdef : PySem.W.defOf QV "law" = some (dLaw, []) := by kernel_rfl
theorem hok : (PySem.W.chainsOk QV && PySem.W.opensWell PW && (PySem.W.frees PySem.Challenge.rw_nesthall_k43_charts_written.row.toRowW && PySem.Challenge.rw_nesthall_k43_charts_written.row.within.isEmpty)) = true := by kernel_rfl
theorem hbare : PW.bare := ⟨rfl, rfl, rfl, rfl, rfl, by decide +kernel⟩
theorem hkw : PySem.W.kwWritten? dLaw.params.kwonlyargs dLaw.params.kw_defaults = some [] := by kernel_rfl
theorem hthe : PW.theDef "law" = some (dLaw.params, dLaw.body, dLaw.scope) := by kernel_rfl
theorem a1 (P : Params) : PySem.W.nsIn (KO P) mainGlobals "_law_cell_at" = some (some (.ref 78)) := by kernel_rfl
theorem u1 (P : Params) : Fun (KO P) "_law_cell_at" "_law_cell_at" sCell 78 fd1 := fun_mk (show (KO P).lookup 78 = some (fnB fd1) by kernel_rfl) (by kernel_rfl) (by kernel_rfl)
theorem a2 (P : Params) : PySem.W.nsIn (KO P) mainGlobals "_law_mixed" = some (some (.ref 85)) := by kernel_rfl
theorem u2 (P : Params) : Fun (KO P) "_law_mixed" "_law_mixed" sMixed 85 fd2 := fun_mk (show (KO P).lookup 85 = some (fnB fd2) by kernel_rfl) (by kernel_rfl) (by kernel_rfl)
theorem a3 (P : Params) : PySem.W.nsIn (KO P) mainGlobals "written" = some (some (.ref 21)) := by kernel_rfl
theorem u3 (P : Params) : Fun (KO P) "written" "written" s_written 21 fd3 := fun_mk (show (KO P).lookup 21 = some (fnB fd3) by kernel_rfl) (by kernel_rfl) (by kernel_rfl)
theorem a4 (P : Params) : PySem.W.nsIn (KO P) mainGlobals "guards_within" = some (some (.ref 28)) := by kernel_rfl
theorem u4 (P : Params) : Fun (KO P) "guards_within" "guards_within" s_guards_within 28 fd4 := fun_mk (show (KO P).lookup 28 = some (fnB fd4) by kernel_rfl) (by kernel_rfl) (by kernel_rfl)
theorem a5 (P : Params) : PySem.W.nsIn (KO P) mainGlobals "guard_text" = some (some (.ref 33)) := by kernel_rfl
theorem u5 (P : Params) : Fun (KO P) "guard_text" "guard_text" s_guard_text 33 fd5 := fun_mk (show (KO P).lookup 33 = some (fnB fd5) by kernel_rfl) (by kernel_rfl) (by kernel_rfl)
theorem a6 (P : Params) : PySem.W.nsIn (KO P) mainGlobals "deed_text" = some (some (.ref 40)) := by kernel_rfl
theorem u6 (P : Params) : Fun (KO P) "deed_text" "deed_text" s_deed_text 40 fd6 := fun_mk (show (KO P).lookup 40 = some (fnB fd6) by kernel_rfl) (by kernel_rfl) (by kernel_rfl)
theorem a7 (P : Params) : PySem.W.nsIn (KO P) mainGlobals "head_rows" = some (some (.ref 45)) := by kernel_rfl
theorem u7 (P : Params) : Fun (KO P) "head_rows" "head_rows" s_head_rows 45 fd7 := fun_mk (show (KO P).lookup 45 = some (fnB fd7) by kernel_rfl) (by kernel_rfl) (by kernel_rfl)
theorem a8 (P : Params) : PySem.W.nsIn (KO P) mainGlobals "deed_rows" = some (some (.ref 50)) := by kernel_rfl
theorem u8 (P : Params) : Fun (KO P) "deed_rows" "deed_rows" s_deed_rows 50 fd8 := fun_mk (show (KO P).lookup 50 = some (fnB fd8) by kernel_rfl) (by kernel_rfl) (by kernel_rfl)
theorem a9 (P : Params) : PySem.W.nsIn (KO P) mainGlobals "room_rows" = some (some (.ref 57)) := by kernel_rfl
theorem u9 (P : Params) : Fun (KO P) "room_rows" "room_rows" s_room_rows 57 fd9 := fun_mk (show (KO P).lookup 57 = some (fnB fd9) by kernel_rfl) (by kernel_rfl) (by kernel_rfl)
theorem a10 (P : Params) : PySem.W.nsIn (KO P) mainGlobals "door_rows" = some (some (.ref 64)) := by kernel_rfl
theorem u10 (P : Params) : Fun (KO P) "door_rows" "door_rows" s_door_rows 64 fd10 := fun_mk (show (KO P).lookup 64 = some (fnB fd10) by kernel_rfl) (by kernel_rfl) (by kernel_rfl)
theorem a11 (P : Params) : PySem.W.nsIn (KO P) mainGlobals "shown" = some (some (.ref 71)) := by kernel_rfl
theorem u11 (P : Params) : Fun (KO P) "shown" "shown" s_shown 71 fd11 := fun_mk (show (KO P).lookup 71 = some (fnB fd11) by kernel_rfl) (by kernel_rfl) (by kernel_rfl)
theorem a12 (P : Params) : PySem.W.nsIn (KO P) mainGlobals "_law_word" = some (some (.ref 92)) := by kernel_rfl
theorem u12 (P : Params) : Fun (KO P) "_law_word" "_law_word" s_L_word 92 fd12 := fun_mk (show (KO P).lookup 92 = some (fnB fd12) by kernel_rfl) (by kernel_rfl) (by kernel_rfl)
theorem a13 (P : Params) : PySem.W.nsIn (KO P) mainGlobals "_law_name" = some (some (.ref 99)) := by kernel_rfl
theorem u13 (P : Params) : Fun (KO P) "_law_name" "_law_name" s_L_name 99 fd13 := fun_mk (show (KO P).lookup 99 = some (fnB fd13) by kernel_rfl) (by kernel_rfl) (by kernel_rfl)
theorem a14 (P : Params) : PySem.W.nsIn (KO P) mainGlobals "_law_names" = some (some (.ref 106)) := by kernel_rfl
theorem u14 (P : Params) : Fun (KO P) "_law_names" "_law_names" s_L_names 106 fd14 := fun_mk (show (KO P).lookup 106 = some (fnB fd14) by kernel_rfl) (by kernel_rfl) (by kernel_rfl)
theorem a15 (P : Params) : PySem.W.nsIn (KO P) mainGlobals "_law_deed" = some (some (.ref 113)) := by kernel_rfl
theorem u15 (P : Params) : Fun (KO P) "_law_deed" "_law_deed" s_L_deed 113 fd15 := fun_mk (show (KO P).lookup 113 = some (fnB fd15) by kernel_rfl) (by kernel_rfl) (by kernel_rfl)
theorem a16 (P : Params) : PySem.W.nsIn (KO P) mainGlobals "_law_deeds" = some (some (.ref 118)) := by kernel_rfl
theorem u16 (P : Params) : Fun (KO P) "_law_deeds" "_law_deeds" s_L_deeds 118 fd16 := fun_mk (show (KO P).lookup 118 = some (fnB fd16) by kernel_rfl) (by kernel_rfl) (by kernel_rfl)
theorem a17 (P : Params) : PySem.W.nsIn (KO P) mainGlobals "_law_guard" = some (some (.ref 125)) := by kernel_rfl
theorem u17 (P : Params) : Fun (KO P) "_law_guard" "_law_guard" s_L_guard 125 fd17 := fun_mk (show (KO P).lookup 125 = some (fnB fd17) by kernel_rfl) (by kernel_rfl) (by kernel_rfl)
theorem a18 (P : Params) : PySem.W.nsIn (KO P) mainGlobals "_law_boxes" = some (some (.ref 132)) := by kernel_rfl
theorem u18 (P : Params) : Fun (KO P) "_law_boxes" "_law_boxes" s_L_boxes 132 fd18 := fun_mk (show (KO P).lookup 132 = some (fnB fd18) by kernel_rfl) (by kernel_rfl) (by kernel_rfl)
theorem a19 (P : Params) : PySem.W.nsIn (KO P) mainGlobals "_law_rooms" = some (some (.ref 139)) := by kernel_rfl
theorem u19 (P : Params) : Fun (KO P) "_law_rooms" "_law_rooms" sRooms 139 fd19 := fun_mk (show (KO P).lookup 139 = some (fnB fd19) by kernel_rfl) (by kernel_rfl) (by kernel_rfl)
theorem a20 (P : Params) : PySem.W.nsIn (KO P) mainGlobals "_law_doors" = some (some (.ref 144)) := by kernel_rfl
theorem u20 (P : Params) : Fun (KO P) "_law_doors" "_law_doors" s_L_doors 144 fd20 := fun_mk (show (KO P).lookup 144 = some (fnB fd20) by kernel_rfl) (by kernel_rfl) (by kernel_rfl)
theorem a21 (P : Params) : PySem.W.nsIn (KO P) mainGlobals "_law_chart" = some (some (.ref 151)) := by kernel_rfl
theorem u21 (P : Params) : Fun (KO P) "_law_chart" "_law_chart" s_L_chart 151 fd21 := fun_mk (show (KO P).lookup 151 = some (fnB fd21) by kernel_rfl) (by kernel_rfl) (by kernel_rfl)
theorem a22 (P : Params) : PySem.W.nsIn (KO P) mainGlobals "_law_deed_row" = some (some (.ref 158)) := by kernel_rfl
theorem u22 (P : Params) : Fun (KO P) "_law_deed_row" "_law_deed_row" s_L_deed_row 158 fd22 := fun_mk (show (KO P).lookup 158 = some (fnB fd22) by kernel_rfl) (by kernel_rfl) (by kernel_rfl)
theorem a23 (P : Params) : PySem.W.nsIn (KO P) mainGlobals "_law_guard_row" = some (some (.ref 165)) := by kernel_rfl
theorem u23 (P : Params) : Fun (KO P) "_law_guard_row" "_law_guard_row" s_L_guard_row 165 fd23 := fun_mk (show (KO P).lookup 165 = some (fnB fd23) by kernel_rfl) (by kernel_rfl) (by kernel_rfl)
theorem a24 (P : Params) : PySem.W.nsIn (KO P) mainGlobals "_law_rows" = some (some (.ref 170)) := by kernel_rfl
theorem u24 (P : Params) : Fun (KO P) "_law_rows" "_law_rows" s_L_rows 170 fd24 := fun_mk (show (KO P).lookup 170 = some (fnB fd24) by kernel_rfl) (by kernel_rfl) (by kernel_rfl)
theorem a25 (P : Params) : PySem.W.nsIn (KO P) mainGlobals "law" = some (some (.ref 177)) := by kernel_rfl
theorem u25 (P : Params) : Fun (KO P) "law" "law" sLawF 177 fd25 := fun_mk (show (KO P).lookup 177 = some (fnB fd25) by kernel_rfl) (by kernel_rfl) (by kernel_rfl)
theorem z1 (P : Params) : PySem.W.nsIn (KO P) mainGlobals "len" = some none := by kernel_rfl
theorem z2 (P : Params) : PySem.W.nsIn (KO P) mainGlobals "max" = some none := by kernel_rfl
theorem z3 (P : Params) : PySem.W.nsIn (KO P) mainGlobals "min" = some none := by kernel_rfl
theorem z4 (P : Params) : PySem.W.nsIn (KO P) mainGlobals "range" = some none := by kernel_rfl
theorem z5 (P : Params) : PySem.W.nsIn (KO P) mainGlobals "str" = some none := by kernel_rfl
theorem z6 (P : Params) : PySem.W.nsIn (KO P) mainGlobals "isinstance" = some none := by kernel_rfl
theorem z7 (P : Params) : PySem.W.nsIn (KO P) mainGlobals "tuple" = some none := by kernel_rfl
set_option maxHeartbeats 0 in
theorem law_ok {w : World} {mg : Str → Option Value} {h base : Heap} (X : (KO w.params).In h) (G : h.Ns mainGlobals mg) : FnOk PW w (KO w.params) mg base CX0 10 177 fd25 ["_law_script"] (spLaw (KO w.params)) := by
  have F1 := u1 w.params
  have b1 := F1.binds (ps := ["_law_script", "_law_k"]) fun _ _ _ _ _ _ us hl => match us, hl with | [_, _], _ => rfl
  have m1 := PySem.W.mg_of X G (a1 w.params)
  have k1 := F1.kp
  have F2 := u2 w.params
  have b2 := F2.binds (ps := ["_law_script", "_law_k", "_law_salt"]) fun _ _ _ _ _ _ us hl => match us, hl with | [_, _, _], _ => rfl
  have m2 := PySem.W.mg_of X G (a2 w.params)
  have k2 := F2.kp
  have F3 := u3 w.params
  have b3 := F3.binds (ps := ["number"]) fun _ _ _ _ _ _ us hl => match us, hl with | [_], _ => rfl
  have m3 := PySem.W.mg_of X G (a3 w.params)
  have k3 := F3.kp
  have F4 := u4 w.params
  have b4 := F4.binds (ps := ["guard"]) fun _ _ _ _ _ _ us hl => match us, hl with | [_], _ => rfl
  have m4 := PySem.W.mg_of X G (a4 w.params)
  have k4 := F4.kp
  have F5 := u5 w.params
  have b5 := F5.binds (ps := ["guard", "boxes", "rooms"]) fun _ _ _ _ _ _ us hl => match us, hl with | [_, _, _], _ => rfl
  have m5 := PySem.W.mg_of X G (a5 w.params)
  have k5 := F5.kp
  have F6 := u6 w.params
  have b6 := F6.binds (ps := ["deed", "boxes", "events"]) fun _ _ _ _ _ _ us hl => match us, hl with | [_, _, _], _ => rfl
  have m6 := PySem.W.mg_of X G (a6 w.params)
  have k6 := F6.kp
  have F7 := u7 w.params
  have b7 := F7.binds (ps := ["chart"]) fun _ _ _ _ _ _ us hl => match us, hl with | [_], _ => rfl
  have m7 := PySem.W.mg_of X G (a7 w.params)
  have k7 := F7.kp
  have F8 := u8 w.params
  have b8 := F8.binds (ps := ["chart", "mark", "deeds"]) fun _ _ _ _ _ _ us hl => match us, hl with | [_, _, _], _ => rfl
  have m8 := PySem.W.mg_of X G (a8 w.params)
  have k8 := F8.kp
  have F9 := u9 w.params
  have b9 := F9.binds (ps := ["chart", "room"]) fun _ _ _ _ _ _ us hl => match us, hl with | [_, _], _ => rfl
  have m9 := PySem.W.mg_of X G (a9 w.params)
  have k9 := F9.kp
  have F10 := u10 w.params
  have b10 := F10.binds (ps := ["chart", "door"]) fun _ _ _ _ _ _ us hl => match us, hl with | [_, _], _ => rfl
  have m10 := PySem.W.mg_of X G (a10 w.params)
  have k10 := F10.kp
  have F11 := u11 w.params
  have b11 := F11.binds (ps := ["chart"]) fun _ _ _ _ _ _ us hl => match us, hl with | [_], _ => rfl
  have m11 := PySem.W.mg_of X G (a11 w.params)
  have k11 := F11.kp
  have F12 := u12 w.params
  have b12 := F12.binds (ps := ["_law_number"]) fun _ _ _ _ _ _ us hl => match us, hl with | [_], _ => rfl
  have m12 := PySem.W.mg_of X G (a12 w.params)
  have k12 := F12.kp
  have F13 := u13 w.params
  have b13 := F13.binds (ps := ["_law_k", "_law_number"]) fun _ _ _ _ _ _ us hl => match us, hl with | [_, _], _ => rfl
  have m13 := PySem.W.mg_of X G (a13 w.params)
  have k13 := F13.kp
  have F14 := u14 w.params
  have b14 := F14.binds (ps := ["_law_script", "_law_many", "_law_salt"]) fun _ _ _ _ _ _ us hl => match us, hl with | [_, _, _], _ => rfl
  have m14 := PySem.W.mg_of X G (a14 w.params)
  have k14 := F14.kp
  have F15 := u15 w.params
  have b15 := F15.binds (ps := ["_law_script", "_law_k", "_law_salt", "_law_boxes_here", "_law_events"]) fun _ _ _ _ _ _ us hl => match us, hl with | [_, _, _, _, _], _ => rfl
  have m15 := PySem.W.mg_of X G (a15 w.params)
  have k15 := F15.kp
  have F16 := u16 w.params
  have b16 := F16.binds (ps := ["_law_script", "_law_k", "_law_salt", "_law_boxes_here", "_law_events"]) fun _ _ _ _ _ _ us hl => match us, hl with | [_, _, _, _, _], _ => rfl
  have m16 := PySem.W.mg_of X G (a16 w.params)
  have k16 := F16.kp
  have F17 := u17 w.params
  have b17 := F17.binds (ps := ["_law_script", "_law_k", "_law_salt", "_law_high", "_law_boxes_here", "_law_rooms_here"]) fun _ _ _ _ _ _ us hl => match us, hl with | [_, _, _, _, _, _], _ => rfl
  have m17 := PySem.W.mg_of X G (a17 w.params)
  have k17 := F17.kp
  have F18 := u18 w.params
  have b18 := F18.binds (ps := ["_law_script", "_law_many"]) fun _ _ _ _ _ _ us hl => match us, hl with | [_, _], _ => rfl
  have m18 := PySem.W.mg_of X G (a18 w.params)
  have k18 := F18.kp
  have F19 := u19 w.params
  have b19 := F19.binds (ps := ["_law_script", "_law_many", "_law_boxes_here", "_law_events"]) fun _ _ _ _ _ _ us hl => match us, hl with | [_, _, _, _], _ => rfl
  have m19 := PySem.W.mg_of X G (a19 w.params)
  have k19 := F19.kp
  have F20 := u20 w.params
  have b20 := F20.binds (ps := ["_law_script", "_law_many", "_law_rooms_here", "_law_boxes_here", "_law_events"]) fun _ _ _ _ _ _ us hl => match us, hl with | [_, _, _, _, _], _ => rfl
  have m20 := PySem.W.mg_of X G (a20 w.params)
  have k20 := F20.kp
  have F21 := u21 w.params
  have b21 := F21.binds (ps := ["_law_script"]) fun _ _ _ _ _ _ us hl => match us, hl with | [_], _ => rfl
  have m21 := PySem.W.mg_of X G (a21 w.params)
  have k21 := F21.kp
  have F22 := u22 w.params
  have b22 := F22.binds (ps := ["_law_deed_here", "_law_boxes_here", "_law_events"]) fun _ _ _ _ _ _ us hl => match us, hl with | [_, _, _], _ => rfl
  have m22 := PySem.W.mg_of X G (a22 w.params)
  have k22 := F22.kp
  have F23 := u23 w.params
  have b23 := F23.binds (ps := ["_law_guard_here", "_law_boxes_here", "_law_rooms_here"]) fun _ _ _ _ _ _ us hl => match us, hl with | [_, _, _], _ => rfl
  have m23 := PySem.W.mg_of X G (a23 w.params)
  have k23 := F23.kp
  have F24 := u24 w.params
  have b24 := F24.binds (ps := ["_law_chart_here"]) fun _ _ _ _ _ _ us hl => match us, hl with | [_], _ => rfl
  have m24 := PySem.W.mg_of X G (a24 w.params)
  have k24 := F24.kp
  have F25 := u25 w.params
  have n_len := PySem.W.mg_none_of X G (z1 w.params)
  have n_max := PySem.W.mg_none_of X G (z2 w.params)
  have n_min := PySem.W.mg_none_of X G (z3 w.params)
  have n_range := PySem.W.mg_none_of X G (z4 w.params)
  have n_str := PySem.W.mg_none_of X G (z5 w.params)
  have n_isinstance := PySem.W.mg_none_of X G (z6 w.params)
  have n_tuple := PySem.W.mg_none_of X G (z7 w.params)
  have G1 := ok_cell (P := PW) (w := w) (base := base) (mg := mg) F1 n_len
  have G2 := ok_mixed (P := PW) (w := w) (base := base) (mg := mg) F2 G1 b1 k1 m1 n_len n_max
  have G3 := Num.ok_written (P := PW) (w := w) (base := base) (mg := mg) F3 n_str
  have G4 := Prg.ok_within (P := PW) (w := w) (base := base) (mg := mg) F4
  have GA5 := G41.all_gtext (P := PW) (w := w) (base := base) (mg := mg) F5 b5 m5 G4 b4 k4 m4 G3 b3 k3 m3
  have G5 := GA5  6
  have G6 := D42.ok_deed_text (P := PW) (w := w) (base := base) (mg := mg) F6 G3 b3 k3 m3
  have G7 := ok_head (P := PW) (w := w) (base := base) (mg := mg) F7 G3 b3 k3 m3
  have G8 := ok_drows (P := PW) (w := w) (base := base) (mg := mg) F8 G6 b6 k6 m6
  have G9 := ok_rrows (P := PW) (w := w) (base := base) (mg := mg) F9 G8 b8 k8 m8
  have G10 := ok_doors (P := PW) (w := w) (base := base) (mg := mg) F10 (G8.mono (show 3 ≤ 7 by decide)) b8 k8 m8 G5 b5 k5 m5
  have G11 := ok_shown (P := PW) (w := w) (base := base) (mg := mg) F11 (G7.mono (show 2 ≤ 8 by decide)) b7 k7 m7 (G9.mono (show 4 ≤ 8 by decide)) b9 k9 m9 G10 b10 k10 m10
  have G12 := ok_lword (P := PW) (w := w) (base := base) (mg := mg) F12 n_range
  have G13 := G41.ok_lname (P := PW) (w := w) (base := base) (mg := mg) F13 n_len
  have G14 := ok_lnames (P := PW) (w := w) (base := base) (mg := mg) F14 G2 b2 k2 m2 (G13.mono (show 1 ≤ 2 by decide)) b13 k13 m13 n_range n_len n_tuple
  have G15 := ok_ldeed (P := PW) (w := w) (base := base) (mg := mg) F15 (G1.mono (show 1 ≤ 2 by decide)) b1 k1 m1 G2 b2 k2 m2 (G12.mono (show 1 ≤ 2 by decide)) b12 k12 m12 n_len
  have G16 := ok_ldeeds (P := PW) (w := w) (base := base) (mg := mg) F16 (G2.mono (show 2 ≤ 3 by decide)) b2 k2 m2 G15 b15 k15 m15 n_range n_tuple
  have GA17 := all_lguard (P := PW) (w := w) (base := base) (mg := mg) F17 b17 m17 (G1.mono (show 1 ≤ 2 by decide)) b1 k1 m1 G2 b2 k2 m2
  have G17 := GA17  4
  have G18 := ok_lboxes (P := PW) (w := w) (base := base) (mg := mg) F18 (G1.mono (show 1 ≤ 3 by decide)) b1 k1 m1 (G2.mono (show 2 ≤ 3 by decide)) b2 k2 m2 G14 b14 k14 m14 n_range n_tuple
  have G19 := ok_lrooms (P := PW) (w := w) (base := base) (mg := mg) F19 (G2.mono (show 2 ≤ 4 by decide)) b2 k2 m2 (G14.mono (show 3 ≤ 4 by decide)) b14 k14 m14 (G12.mono (show 1 ≤ 4 by decide)) b12 k12 m12 G16 b16 k16 m16 n_range n_tuple n_min
  have G20 := ok_ldoors (P := PW) (w := w) (base := base) (mg := mg) F20 (G2.mono (show 2 ≤ 6 by decide)) b2 k2 m2 G17 b17 k17 m17 (G16.mono (show 4 ≤ 6 by decide)) b16 k16 m16 n_range n_tuple n_len
  have G21 := ok_lchart (P := PW) (w := w) (base := base) (mg := mg) F21 (G2.mono (show 2 ≤ 7 by decide)) b2 k2 m2 (G14.mono (show 3 ≤ 7 by decide)) b14 k14 m14 (G18.mono (show 4 ≤ 7 by decide)) b18 k18 m18 (G19.mono (show 5 ≤ 7 by decide)) b19 k19 m19 G20 b20 k20 m20 n_len n_min
  have G22 := ok_ldrow (P := PW) (w := w) (base := base) (mg := mg) F22 n_str
  have GA23 := all_lgrow (P := PW) (w := w) (base := base) (mg := mg) F23 b23 m23 n_str
  have G23 := GA23  6
  have G24 := ok_lrows (P := PW) (w := w) (base := base) (mg := mg) F24 (G22.mono (show 1 ≤ 6 by decide)) b22 k22 m22 G23 b23 k23 m23 n_str
  exact ok_law (n := 9) F25 (G21.mono (show 8 ≤ 9 by decide)) b21 k21 m21 (G24.mono (show 7 ≤ 9 by decide)) b24 k24 m24 G11 b11 k11 m11 n_isinstance n_str n_len n_range
theorem walk : PySem.W.WalkO QV LS (PySem.W.XL QV []) HK.says PySem.Challenge.rw_nesthall_k43_charts_written.row.toRowW dLaw [] (fun f vs => PySem.call f vs) := by
  refine L2.walk_of (l := PySem.Challenge.rw_nesthall_k43_charts_written) (n := 63) (k := 10) (x := "_law_script") (K := KO) (CX := fun _ => CX0) (sp := fun w => spLaw (KO w.params)) rfl (by decide) rfl ⟨rfl, by decide, by decide⟩ (fun w h Y => Y) ?_ (fun _ _ a ns hl _ hS => ⟨a, ns, rfl, hS, hl, fun _ => rfl⟩) fun _ _ _ _ _ z => z
  intro w mg fa h KX G hmg
  have e := hmg.symm.trans (PySem.W.mg_of KX G (a25 w.params))
  cases e
  exact ⟨fd25, fun s v => .of_eq rfl, fun base _ _ => law_ok KX G⟩
end C43
open PySem PySem.W PyProof.Rows
set_option maxRecDepth 100000 in
set_option maxHeartbeats 0 in
theorem PySem.Challenge.cw_nesthall_k43_charts_written_holds : PySem.Challenge.rw_nesthall_k43_charts_written.Holds := by
  refine holds_law C43.said fun said => ?_
  refine PySem.W.holds_open (r := PySem.Challenge.rw_nesthall_k43_charts_written.row) C43.left C43.HK.of C43.HK.keeps
    (fun s e => xl_of s (Bool.and_eq_true_iff.mp e).1) XL.keeps C43.hdef C43.hthe C43.hkw
    (fun s e => recFacts_of (Bool.and_eq_true_iff.mp e).2) rfl said C43.hok C43.hbare ?hw C43.walk
  case hw => w_witness2
