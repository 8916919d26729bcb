import PyProof.Rows.All
import Wide.All
import OpenK.AllK
import Wide.FinOn
import Lean
import PyProof.EqAt
import PyProof.EqKinds
import PyProof.TupleCall
import PySem.Challenge.RW_nesthall_k38_small_rows_are_parted
set_option Elab.async false
set_option linter.all false
set_option maxRecDepth 100000
/-! THE HAND LAYER, for ints, bools, texts, own classes, LISTS and tuples (index, slices, in, append, pop ..), calls, loops. Paste it whole ahead of your own text; what your proof does not reach may be deleted. -/
namespace L2
open PySem PySem.Spec PyProof.Rows

/-- a key: an int or a str -/
abbrev Key := Sum Int Str
def keyIs : Key → Value → Bool
  | .inl k, v => Value.isInt k v
  | .inr x, v => Value.isStrOf x v
def keyH (w : World) : Key → Int
  | .inl k => hashInt k
  | .inr x => hashStr w x
theorem keyIs_shape : ∀ {k : Key} {v : Value}, keyIs k v = true → (∃ i t, k = Sum.inl i ∧ v = Value.int i t) ∨ (∃ x t, k = Sum.inr x ∧ v = Value.str x t)
  | .inl i, v, h => by
    obtain ⟨t, e⟩ := Value.isInt_shape (k := i) (v := v) h
    exact .inl ⟨i, t, rfl, e⟩
  | .inr x, v, h => by
    obtain ⟨t, e⟩ := Value.isStrOf_shape (x := x) (v := v) h
    exact .inr ⟨x, t, rfl, e⟩
theorem keyIs_int (i : Int) (t : Tok) : keyIs (.inl i) (.int i t) = true := by simp [keyIs, Value.isInt]
theorem keyIs_str (x : Str) (t : Tok) : keyIs (.inr x) (.str x t) = true := by simp [keyIs, Value.isStrOf]
theorem key_ll (a b : Int) : decide ((Sum.inl a : Key) = Sum.inl b) = (a == b) := by
  by_cases e : a = b
  · subst e; simp
  · have h : ¬ (Sum.inl a : Key) = Sum.inl b := fun q => e (Sum.inl.inj q)
    rw [decide_eq_false h]
    exact (beq_eq_false_iff_ne.mpr e).symm
theorem key_rr (a b : Str) : decide ((Sum.inr a : Key) = Sum.inr b) = decide (a = b) := by
  by_cases e : a = b
  · subst e; simp
  · have h : ¬ (Sum.inr a : Key) = Sum.inr b := fun q => e (Sum.inr.inj q)
    rw [decide_eq_false h, decide_eq_false e]
theorem key_lr (a : Int) (b : Str) : decide ((Sum.inl a : Key) = Sum.inr b) = false := decide_eq_false (fun q => nomatch q)
theorem key_rl (a : Str) (b : Int) : decide ((Sum.inr a : Key) = Sum.inl b) = false := decide_eq_false (fun q => nomatch q)

def mixKind (prog : Program) (w : World) : PySem.KeyKind prog w Key where
  is := keyIs
  hash := keyH w
  inj := fun v a b ha hb => by
    rcases keyIs_shape ha with ⟨i, t, rfl, rfl⟩ | ⟨x, t, rfl, rfl⟩
    · rcases keyIs_shape hb with ⟨j, u, rfl, e⟩ | ⟨y, u, rfl, e⟩
      · injection e with e1 _; rw [e1]
      · exact nomatch e
    · rcases keyIs_shape hb with ⟨j, u, rfl, e⟩ | ⟨y, u, rfl, e⟩
      · exact nomatch e
      · injection e with e1 _; rw [e1]
  byValue := fun k v h => by
    rcases keyIs_shape h with ⟨i, t, rfl, rfl⟩ | ⟨x, t, rfl, rfl⟩ <;> rfl
  pyHash := fun hv h => by
    rcases keyIs_shape hv with ⟨i, t, rfl, rfl⟩ | ⟨x, t, rfl, rfl⟩
    · exact wpAny_pyHash_int h
    · exact wpAny_pyHash_str h
  eqBool := fun hu hv h => by
    rcases keyIs_shape hu with ⟨i, t, rfl, rfl⟩ | ⟨x, t, rfl, rfl⟩
    · rcases keyIs_shape hv with ⟨j, u, rfl, rfl⟩ | ⟨y, u, rfl, rfl⟩
      · rw [key_ll] at h; exact wpAny_eqBool_int h
      · rw [key_lr] at h; exact SeqAt.EqAt.int_str i t y u _ _ _ _ h
    · rcases keyIs_shape hv with ⟨j, u, rfl, rfl⟩ | ⟨y, u, rfl, rfl⟩
      · rw [key_rl] at h; exact SeqAt.EqAt.str_int x t j u _ _ _ _ h
      · rw [key_rr] at h; exact wpAny_eqBool_str h
  «strs» := fun k x t v h => by
    rcases keyIs_shape h with ⟨i, u, rfl, e⟩ | ⟨y, u, rfl, e⟩
    · exact nomatch e
    · injection e with e1 _
      subst e1
      cases v <;> rfl

theorem mixKind_is (prog : Program) (w : World) (k : Key) (v : Value) : (mixKind prog w).is k v = keyIs k v := rfl
theorem mixKind_int (prog : Program) (w : World) (i : Int) (t : Tok) : (mixKind prog w).is (.inl i) (.int i t) = true := keyIs_int i t
theorem mixKind_str (prog : Program) (w : World) (x : Str) (t : Tok) : (mixKind prog w).is (.inr x) (.str x t) = true := keyIs_str x t
end L2

namespace L2
open PySem PySem.Spec PyProof.Rows

/-- a value, without the heap -/
inductive V where
  | non | bl (b : Bool) | int (i : Int) | str (x : Str) | byt (b : Array UInt8) | flt (b : UInt64) | ref (a : Addr) | ty (n : String)
  deriving DecidableEq

def RelV : V → Value → Prop
  | .non, u => u = Value.none
  | .bl b, u => u = Value.bool b
  | .int i, u => ∃ t, u = Value.int i t
  | .str x, u => ∃ t, u = Value.str x t
  | .byt b, u => ∃ t, u = Value.bytes b t
  | .flt b, u => ∃ t, u = Value.float b t
  | .ref a, u => u = Value.ref a
  | .ty n, u => u = Value.type n

abbrev Vals : List V → List Value → Prop := Paired RelV
theorem Vals.length {xs : List V} {us : List Value} (r : Vals xs us) : xs.length = us.length := Paired.length r
theorem Vals.get : ∀ {xs : List V} {us : List Value} {i : Nat} {x : V}, Vals xs us → xs[i]? = some x → ∃ u, us[i]? = some u ∧ RelV x u
  | _, _, _, _, .nil, e => by simp at e
  | _, _, 0, _, .cons r _, e => by simp at e; subst e; exact ⟨_, rfl, r⟩
  | _, _, i + 1, x, .cons _ t, e => by
    obtain ⟨u, h1, h2⟩ := Vals.get (i := i) (x := x) t (by simpa using e)
    exact ⟨u, by simpa using h1, h2⟩
theorem Vals.set {x : V} {u : Value} (r : RelV x u) : ∀ {xs : List V} {us : List Value} (i : Nat), Vals xs us → Vals (xs.set i x) (us.set i u)
  | _, _, _, .nil => .nil
  | _, _, 0, .cons _ t => .cons r t
  | _, _, i + 1, .cons q t => .cons q (Vals.set r i t)
theorem Vals.append : ∀ {xs ys : List V} {us ws : List Value}, Vals xs us → Vals ys ws → Vals (xs ++ ys) (us ++ ws)
  | _, _, _, _, .nil, s => s
  | _, _, _, _, .cons r t, s => .cons r (Vals.append t s)
theorem Vals.take : ∀ {xs : List V} {us : List Value} (n : Nat), Vals xs us → Vals (xs.take n) (us.take n)
  | _, _, 0, _ => .nil
  | _, _, _ + 1, .nil => .nil
  | _, _, n + 1, .cons r t => .cons r (Vals.take n t)
theorem Vals.drop : ∀ {xs : List V} {us : List Value} (n : Nat), Vals xs us → Vals (xs.drop n) (us.drop n)
  | _, _, 0, r => r
  | _, _, _ + 1, .nil => .nil
  | _, _, n + 1, .cons _ t => Vals.drop n t
theorem Vals.none_of : ∀ {xs : List V} {us : List Value} {i : Nat}, Vals xs us → xs[i]? = none → us[i]? = none := fun {xs us i} r e => by
  have h1 := r.length
  have h2 : xs.length ≤ i := List.getElem?_eq_none_iff.mp e
  exact List.getElem?_eq_none_iff.mpr (by omega)

def RelO : Option V → Option Value → Prop
  | some v, some u => RelV v u
  | none, none => True
  | _, _ => False
def KV {κ : Type} : List (κ × V) → List (κ × Value) → Prop := Paired fun (p : κ × V) (q : κ × Value) => p.1 = q.1 ∧ RelV p.2 q.2

/-- a key of a dict (00_mix): an int or a text -/
def kV : Key → V
  | .inl i => .int i
  | .inr x => .str x

/-- what stands at a tracked address -/
inductive HO where
  /-- a list -/
  | lst (xs : List V)
  /-- a tuple (never changes) -/
  | tup (xs : List V)
  /-- a dict whose keys are ints and texts; one whose keys are tuples of ints and texts (the empty one is both) -/
  | dK (kvs : List (Key × V)) | dT (kvs : List (List Key × V))
  /-- a set of ints: its members, its size -/
  | set (S : Int → Bool) (n : Nat)
  /-- an instance of the class at C, its dict at dx, its attributes -/
  | ins (C dx : Addr) (fs : List (Str × V))
  /-- the dict of the instance at x -/
  | own (x : Addr)
  /-- the dict of an exception -/
  | xd (fs : List (Str × V))
  /-- a bound method, f of x -/
  | met (f x : Addr)
  /-- a range object lo, lo + 1, .. below hi -/
  | rng (lo hi : Int)
  /-- a thing that is known to the object (the script; a dict while a loop walks it): read, never written while it is so -/
  | frz (o : Obj) (u : HO)
  /-- a code object's table -/
  | tbl (ps : Array Value)
  /-- any other thing, by what is true of its one object (a def of one's own: SetO a S n := HO.ext fun h => ..) -/
  | ext (φ : Heap → Prop)

abbrev Hp := Addr → Option HO
def upd (H : Hp) (a : Addr) (o : HO) : Hp := fun b => if b = a then some o else H b
theorem upd_same {H : Hp} {a : Addr} {o : HO} : upd H a o a = some o := by unfold upd; rw [if_pos rfl]
theorem upd_ne {H : Hp} {a b : Addr} {o : HO} (h : b ≠ a) : upd H a o b = H b := by unfold upd; rw [if_neg h]
theorem upd_upd {H : Hp} {a : Addr} {o u : HO} : upd (upd H a o) a u = upd H a u := by
  funext b; unfold upd; split <;> rfl
/-- two objects of different content stand apart -/
theorem ne_of {H : Hp} {a b : Addr} {o u : HO} (h : H a = some o) (h' : H b = some u) (d : o ≠ u) : a ≠ b := by
  intro e; subst e; rw [h] at h'; exact d (Option.some.inj h')
theorem ne_of_none {H : Hp} {a b : Addr} {o : HO} (h : H a = some o) (h' : H b = none) : a ≠ b := by
  intro e; subst e; rw [h] at h'; cases h'

section
variable (P : Program) (w : World)
def ObjOk (H : Hp) (h : Heap) (a : Addr) : HO → Prop
  | .lst xs => xs.length ≤ sizeLine ∧ ∃ (its : List Value) (n : Nat), Vals xs its ∧ h.get? a = some { cls := .type "list", data := .seq its.toArray n }
  | .tup xs => xs.length ≤ sizeLine ∧ ∃ its : List Value, Vals xs its ∧ IsTup h a its.toArray
  | .dK kvs => kvs.length ≤ sizeLine ∧ (a == sysModules) = false ∧ ∃ vs, KV kvs vs ∧ h.DictOf (mixKind P w) a vs
  | .dT kvs => kvs.length ≤ sizeLine ∧ (a == sysModules) = false ∧ ∃ xs : List (List Key × Addr × Value),
      Paired (fun (p : List Key × V) (q : List Key × Addr × Value) => p.1 = q.1 ∧ H q.2.1 = some (.tup (p.1.map kV)) ∧ RelV p.2 q.2.2) kvs xs ∧
      ∃ o es ep, h.get? a = some o ∧ o.ExactDict ∧ o.data = .dict es ep ∧ es.toList = xs.map (entryOfKey (tupleKind (mixKind P w))) ∧ (xs.map (·.1)).Nodup
  | .set S n => h.SetOf (intKind P w) a S n
  | .ins C dx fs => H dx = some (.own a) ∧ fs.length ≤ 1000 ∧ dx ≠ a ∧ h.get? a = some (PySem.W.instObj C dx) ∧
      ∃ mA, h.Ns1 dx mA ∧ (∀ f, RelO (fs.lookup f) (mA f)) ∧ PySem.Within mA (fs.map (·.1))
  | .own _ => ∃ o, h.get? a = some o
  | .xd fs => ∃ mA, h.Ns1 a mA ∧ ∀ f, RelO (fs.lookup f) (mA f)
  | .rng lo hi => ∃ t u v, h.get? a = some { cls := .type "range", data := .fields #[.int lo t, .int hi u, .int 1 v] }
  | .frz o u => h.get? a = some o ∧ ObjOk H h a u
  | .tbl ps => h.get? a = some { cls := .none, data := .fields ps }
  | .met f x => h.get? a = some (PySem.W.methodObj (.ref f) (.ref x))
  | .ext φ => φ h ∧ (∃ o, h.get? a = some o) ∧ ∀ h1 h2 : Heap, φ h1 → (∀ o, h1.get? a = some o → h2.get? a = some o) → φ h2
/-- the abstract heap is held -/
def HOk (H : Hp) (h : Heap) : Prop := ∀ a o, H a = some o → ObjOk P w H h a o
end

section
variable {P : Program} {w : World} {H H' : Hp} {h h' : Heap} {a : Addr} {o : HO}
theorem ObjOk.lt (x : ObjOk P w H h a o) : a < h.objs.size := by
  cases o with
  | lst xs => obtain ⟨_, _, _, _, e⟩ := x; exact Heap.lt_size e
  | tup xs => obtain ⟨_, _, _, p⟩ := x; exact p.lt
  | dK kvs => obtain ⟨_, _, _, _, o, _, _, e, _⟩ := x; exact Heap.lt_size e
  | dT kvs => obtain ⟨_, _, _, _, o, _, _, e, _⟩ := x; exact Heap.lt_size e
  | set S n => obtain ⟨o, _, _, _, e, _⟩ := x; exact Heap.lt_size e
  | ins C dx fs => obtain ⟨_, _, _, e, _⟩ := x; exact Heap.lt_size e
  | own y => obtain ⟨_, e⟩ := x; exact Heap.lt_size e
  | xd fs => obtain ⟨_, ⟨_, _, _, e, _⟩, _⟩ := x; exact Heap.lt_size e
  | rng lo hi => obtain ⟨_, _, _, e⟩ := x; exact Heap.lt_size e
  | frz ob u => obtain ⟨e, _⟩ := x; exact Heap.lt_size e
  | tbl ps => exact Heap.lt_size (show h.get? a = some _ from x)
  | met f y => exact Heap.lt_size (show h.get? a = some _ from x)
  | ext φ => obtain ⟨_, ⟨_, e⟩, _⟩ := x; exact Heap.lt_size e
theorem Paired.mapP {α β : Type} {F G : α → β → Prop} : ∀ {l₁ : List α} {l₂ : List β}, Paired F l₁ l₂ → (∀ a b, F a b → G a b) → Paired G l₁ l₂
  | _, _, .nil, _ => .nil
  | _, _, .cons r t, f => .cons (f _ _ r) (Paired.mapP t f)
theorem Paired.imp' {α β : Type} {F G : α → β → Prop} (f : ∀ a b, F a b → G a b) {l₁ : List α} {l₂ : List β} (r : Paired F l₁ l₂) : Paired G l₁ l₂ := Paired.mapP r f
/-- what an object's description leans on: its own object, its own dict, the tuples -/
theorem ObjOk.stay (x : ObjOk P w H h a o) (k : ∀ b u, (b = a ∨ H b = some (.own a)) → h.get? b = some u → h'.get? b = some u)
    (ho : ∀ b, H b = some (.own a) → H' b = some (.own a)) (ht : ∀ b xs, H b = some (.tup xs) → H' b = some (.tup xs)) : ObjOk P w H' h' a o := by
  induction o with
  | lst xs => obtain ⟨z, its, n, r, e⟩ := x; exact ⟨z, its, n, r, k _ _ (.inl rfl) e⟩
  | tup xs => obtain ⟨z, its, r, ob, e, c⟩ := x; exact ⟨z, its, r, ob, k _ _ (.inl rfl) e, c⟩
  | dK kvs => obtain ⟨z, y, vs, r, ob, es, ep, e, c⟩ := x; exact ⟨z, y, vs, r, ob, es, ep, k _ _ (.inl rfl) e, c⟩
  | dT kvs =>
    obtain ⟨z, y, xs, r, ob, es, ep, e, c⟩ := x
    exact ⟨z, y, xs, Paired.mapP r fun p q z => ⟨z.1, ht _ _ z.2.1, z.2.2⟩, ob, es, ep, k _ _ (.inl rfl) e, c⟩
  | set S n => obtain ⟨ob, es, ep, t, e, c⟩ := x; exact ⟨ob, es, ep, t, k _ _ (.inl rfl) e, c⟩
  | ins C dx fs =>
    obtain ⟨d, z, ne, e, mA, ⟨od, es, ep, e2, c⟩, r⟩ := x
    exact ⟨ho _ d, z, ne, k _ _ (.inl rfl) e, mA, ⟨od, es, ep, k _ _ (.inr d) e2, c⟩, r⟩
  | own y => obtain ⟨ob, e⟩ := x; exact ⟨ob, k _ _ (.inl rfl) e⟩
  | xd fs => obtain ⟨mA, ⟨od, es, ep, e, c⟩, r⟩ := x; exact ⟨mA, ⟨od, es, ep, k _ _ (.inl rfl) e, c⟩, r⟩
  | rng lo hi => obtain ⟨t, u, v, e⟩ := x; exact ⟨t, u, v, k _ _ (.inl rfl) e⟩
  | frz ob u ih => obtain ⟨e, q⟩ := x; exact ⟨k _ _ (.inl rfl) e, ih q⟩
  | tbl ps =>
    have e : h.get? a = some { cls := .none, data := .fields ps } := x
    show h'.get? a = some { cls := .none, data := .fields ps }
    exact k a _ (.inl rfl) e
  | met f y =>
    have e : h.get? a = some (PySem.W.methodObj (.ref f) (.ref y)) := x
    show h'.get? a = some (PySem.W.methodObj (.ref f) (.ref y))
    exact k a _ (.inl rfl) e
  | ext φ => obtain ⟨p, ⟨o, e⟩, st⟩ := x; exact ⟨st _ _ p fun o q => k _ _ (.inl rfl) q, ⟨o, k _ _ (.inl rfl) e⟩, st⟩
theorem HOk.lt (x : HOk P w H h) (e : H a = some o) : a < h.objs.size := (x a o e).lt
theorem HOk.fresh (x : HOk P w H h) (e : h.objs.size ≤ a) : H a = none := by
  cases q : H a with
  | none => rfl
  | some u => exact absurd (Nat.lt_of_lt_of_le (x.lt q) e) (Nat.lt_irrefl _)
/-- every object of the heap is kept -/
theorem HOk.kept (x : HOk P w H h) (k : ∀ b u, h.get? b = some u → h'.get? b = some u) : HOk P w H h' := fun a o e =>
  (x a o e).stay (fun b u _ q => k b u q) (fun _ q => q) fun _ _ q => q
/-- a new object is laid and tracked -/
theorem HOk.laid (x : HOk P w H h) (k : ∀ b u, h.get? b = some u → h'.get? b = some u) (hp : h.objs.size ≤ a) (new : ObjOk P w (upd H a o) h' a o) : HOk P w (upd H a o) h' := fun b u e => by
  have hn := x.fresh hp
  by_cases hb : b = a
  · subst hb; rw [upd_same] at e; cases e; exact new
  · rw [upd_ne hb] at e
    exact (x b u e).stay (fun c v _ q => k c v q) (fun c q => by rw [upd_ne (ne_of_none q hn)]; exact q) fun c xs q => by rw [upd_ne (ne_of_none q hn)]; exact q
end

/-- what may be read as u: it is u, or a known u -/
def Rd (H : Hp) (a : Addr) (u : HO) : Prop := H a = some u ∨ ∃ o, H a = some (.frz o u)
theorem Rd.of {H : Hp} {a : Addr} {u : HO} (h : H a = some u) : Rd H a u := .inl h
theorem Rd.ok {P : Program} {w : World} {H : Hp} {h : Heap} {a : Addr} {u : HO} (r : Rd H a u) (x : HOk P w H h) : ObjOk P w H h a u := by
  rcases r with r | ⟨o, r⟩
  · exact x a u r
  · obtain ⟨_, q⟩ := x a _ r
    exact q
/-- what may be written -/
def Mut : Option HO → Prop
  | some (.lst _) => True
  | some (.dK _) => True
  | some (.dT _) => True
  | some (.set _ _) => True
  | some (.ins _ _ _) => True
  | some (.ext _) => True
  | _ => False
section
variable {P : Program} {w : World} {H : Hp} {h h' : Heap} {x e : Addr} {o' : HO}
/-- the object at e is changed: x itself, or the dict of the instance x -/
theorem HOk.write (ok : HOk P w H h) (mu : Mut (H x)) (he : e = x ∨ H e = some (.own x)) (k : ∀ b u, b ≠ e → h.get? b = some u → h'.get? b = some u) (heo : ∃ u, h'.get? e = some u)
    (new : ObjOk P w (upd H x o') h' x o') : HOk P w (upd H x o') h' := fun b u q => by
  have nown : ∀ c y, H c = some (.own y) → c ≠ x := fun c y r z => by subst z; rw [r] at mu; exact mu
  have ntup : ∀ c xs, H c = some (.tup xs) → c ≠ x := fun c xs r z => by subst z; rw [r] at mu; exact mu
  by_cases hb : b = x
  · subst hb; rw [upd_same] at q; cases q; exact new
  · rw [upd_ne hb] at q
    by_cases hbe : b = e
    · have q' : H b = some (.own x) := by
        rcases he with z | z
        · exact absurd (hbe.trans z) hb
        · rw [hbe]; exact z
      rw [q] at q'; cases q'
      obtain ⟨v, hv⟩ := heo
      exact ⟨v, by rw [hbe]; exact hv⟩
    · refine (ok b u q).stay (fun c v hc r => k c v ?_ r) (fun c r => by rw [upd_ne (nown c b r)]; exact r) fun c xs r => by rw [upd_ne (ntup c xs r)]; exact r
      rcases hc with rfl | hc
      · exact hbe
      · rintro rfl
        rcases he with z | z
        · exact nown c b hc z
        · rw [hc] at z; cases z; exact hb rfl
end

/-! ### kept unless tracked; of the frames at fs (the callers') the slots may change (an exception that passes writes there); of the records at ex (iterators) nothing is said -/
structure Un (fs ex : List Addr) (H H' : Hp) (h h' : Heap) : Prop where
  keep : ∀ b o, h.get? b = some o → H b = none → b ∉ fs → b ∉ ex → h'.get? b = some o
  slot : ∀ b o, h.get? b = some o → H b = none → b ∈ fs → b ∉ ex → ∃ sl, h'.get? b = some { o with slots := sl }
  free : ∀ b o, h.get? b = some o → H b = none → b ∉ ex → H' b = none
  there : ∀ b o, h.get? b = some o → b ∉ ex → ∃ o', h'.get? b = some o'
  tups : ∀ b xs, H b = some (.tup xs) → H' b = some (.tup xs)
  frzs : ∀ b o u, H b = some (.frz o u) → H' b = some (.frz o u)
  tbls : ∀ b ps, H b = some (.tbl ps) → ∃ more, H' b = some (.tbl (ps ++ more))
section
variable {fs fs' ex ex' : List Addr} {H H1 H2 : Hp} {h h1 h2 h' : Heap} {a x e : Addr} {o : HO}
theorem Un.any (u : Un fs ex H H1 h h1) {b : Addr} {ob : Obj} (q : h.get? b = some ob) (n : H b = none) (hx : b ∉ ex) : ∃ sl, h1.get? b = some { ob with slots := sl } := by
  by_cases hb : b ∈ fs
  · exact u.slot b ob q n hb hx
  · exact ⟨ob.slots, u.keep b ob q n hb hx⟩
theorem Un.trans (a : Un fs ex H H1 h h1) (b : Un fs ex H1 H2 h1 h2) : Un fs ex H H2 h h2 where
  keep := fun c ob q n hc hx => b.keep c ob (a.keep c ob q n hc hx) (a.free c ob q n hx) hc hx
  slot := fun c ob q n hc hx => by
    obtain ⟨sl, e1⟩ := a.slot c ob q n hc hx
    obtain ⟨sl', e2⟩ := b.slot c _ e1 (a.free c ob q n hx) hc hx
    exact ⟨sl', e2⟩
  free := fun c ob q n hx => by
    obtain ⟨o', e1⟩ := a.there c ob q hx
    exact b.free c o' e1 (a.free c ob q n hx) hx
  there := fun c ob q hx => by
    obtain ⟨o', e1⟩ := a.there c ob q hx
    exact b.there c o' e1 hx
  tups := fun c xs q => b.tups c xs (a.tups c xs q)
  frzs := fun c ob xs q => b.frzs c ob xs (a.frzs c ob xs q)
  tbls := fun c ps q => by
    obtain ⟨m1, e1⟩ := a.tbls c ps q
    obtain ⟨m2, e2⟩ := b.tbls c _ e1
    exact ⟨m1 ++ m2, by rw [e2, Array.append_assoc]⟩
theorem Un.kept (k : ∀ b u, h.get? b = some u → h'.get? b = some u) : Un fs ex H H h h' :=
  ⟨fun b ob q _ _ _ => k b ob q, fun b ob q _ _ _ => ⟨ob.slots, k b ob q⟩, fun _ _ _ n _ => n, fun b ob q _ => ⟨ob, k b ob q⟩, fun _ _ q => q, fun _ _ _ q => q, fun _ ps q => ⟨#[], by rw [q]; simp⟩⟩
theorem Un.refl : Un fs ex H H h h := Un.kept fun _ _ q => q
theorem Un.laid (k : ∀ b u, h.get? b = some u → h'.get? b = some u) (hp : h.objs.size ≤ a) (hn : H a = none) : Un fs ex H (upd H a o) h h' where
  keep := fun b u q _ _ _ => k b u q
  slot := fun b u q _ _ _ => ⟨u.slots, k b u q⟩
  free := fun b u q n _ => by rw [upd_ne (Nat.ne_of_lt (Nat.lt_of_lt_of_le (Heap.lt_size q) hp))]; exact n
  there := fun b u q _ => ⟨u, k b u q⟩
  tups := fun b xs q => by rw [upd_ne (ne_of_none q hn)]; exact q
  frzs := fun b u xs q => by rw [upd_ne (ne_of_none q hn)]; exact q
  tbls := fun b ps q => ⟨#[], by rw [upd_ne (ne_of_none q hn), q]; simp⟩
theorem Un.write (mu : Mut (H x)) (he : e = x ∨ H e = some (.own x)) (k : ∀ b u, b ≠ e → h.get? b = some u → h'.get? b = some u) (heo : ∃ u, h'.get? e = some u) : Un fs ex H (upd H x o) h h' := by
  have hx : ∀ b, H b = none → b ≠ x := fun b n z => by subst z; rw [n] at mu; exact mu
  have hb : ∀ b, H b = none → b ≠ e := fun b n z => by
    subst z
    rcases he with r | r
    · exact hx b n r
    · rw [n] at r; cases r
  have hm : ∀ b u, H b = some u → ¬ Mut (some u) → b ≠ x := fun b u q nm z => by subst z; rw [q] at mu; exact nm mu
  refine ⟨fun b u q n _ _ => k b u (hb b n) q, fun b u q n _ _ => ⟨u.slots, k b u (hb b n) q⟩, fun b u q n _ => by rw [upd_ne (hx b n)]; exact n, fun b u q _ => ?_,
    fun b xs q => by rw [upd_ne (hm b _ q fun z => z)]; exact q, fun b u xs q => by rw [upd_ne (hm b _ q fun z => z)]; exact q, fun b ps q => ⟨#[], by rw [upd_ne (hm b _ q fun z => z), q]; simp⟩⟩
  by_cases hbe : b = e
  · subst hbe; exact heo
  · exact ⟨u, k b u hbe q⟩
theorem Un.mono (u : Un fs ex H H1 h h1) (hs : ∀ b ∈ fs, b ∈ fs') (hx : ∀ b ∈ ex, b ∈ ex') : Un fs' ex' H H1 h h1 :=
  ⟨fun b ob q n hb he => u.keep b ob q n (fun z => hb (hs b z)) fun z => he (hx b z), fun _ _ q n _ he => u.any q n fun z => he (hx _ z), fun b ob q n he => u.free b ob q n fun z => he (hx b z), fun b ob q he => u.there b ob q fun z => he (hx b z), u.tups, u.frzs, u.tbls⟩
end

/-! ### the heap without what is tracked -/
def trk (h : Heap) (H : Hp) : List Addr := (List.range h.objs.size).filter fun a => (H a).isSome
def hidT (h : Heap) (H : Hp) : Heap := PySem.W.hideAll h (trk h H)
theorem hidT_size (h : Heap) (H : Hp) : (hidT h H).objs.size = h.objs.size := PySem.W.hideAll_size _ _
theorem hidT_get {h : Heap} {H : Hp} {b : Addr} {o : Obj} (e : h.get? b = some o) (n : H b = none) : (hidT h H).get? b = some o :=
  PySem.W.hideAll_get _ e fun hm => by
    have q : (H b).isSome = true := (List.mem_filter.mp hm).2
    rw [n] at q; simp at q
theorem of_hidT {h : Heap} {H : Hp} {b : Addr} {o : Obj} (e : (hidT h H).get? b = some o) : h.get? b = some o ∧ H b = none := by
  have e' : h.get? b = some o := PySem.W.of_hideAll (trk h H) e
  refine ⟨e', ?_⟩
  cases q : H b with
  | none => rfl
  | some x =>
    have hm : b ∈ trk h H := List.mem_filter.mpr ⟨List.mem_range.mpr (Heap.lt_size e'), by simp [q]⟩
    have z : (hidT h H).get? b = none := PySem.W.hideAll_none (trk h H) hm
    rw [z] at e; cases e

/-! ### OpenK's ledger, filled with every new object but one -/
def allNews (g h : Heap) (L : Addr) : List (Addr × Obj) := (List.range h.objs.size).filterMap fun a => if a = L ∨ (g.get? a).isSome = true then none else (h.get? a).map fun o => (a, o)
theorem mem_allNews {g h : Heap} {L a : Addr} {o : Obj} (h1 : a ≠ L) (h2 : g.get? a = none) (h3 : h.get? a = some o) : (a, o) ∈ allNews g h L :=
  List.mem_filterMap.mpr ⟨a, List.mem_range.mpr (Heap.lt_size h3), by simp [h1, h2, h3]⟩
theorem of_mem_allNews {g h : Heap} {L : Addr} {p : Addr × Obj} (hp : p ∈ allNews g h L) : p.1 ≠ L ∧ g.get? p.1 = none ∧ h.get? p.1 = some p.2 := by
  obtain ⟨b, _, e⟩ := List.mem_filterMap.mp hp
  split at e
  · cases e
  · rename_i hn
    cases q : h.get? b with
    | none => rw [q] at e; simp at e
    | some u =>
      rw [q] at e
      simp only [Option.map_some, Option.some.injEq] at e
      subst e
      refine ⟨fun z => hn (.inl z), ?_, q⟩
      show g.get? b = none
      cases r : g.get? b with
      | none => rfl
      | some v => exact (hn (.inr (by simp [r]))).elim
def rest (g h : Heap) (L d : Addr) : List (Addr × Obj) := (allNews g h L).filter fun p => decide (p.1 ≠ d)
theorem rest_ne {g h : Heap} {L d : Addr} : ∀ p ∈ rest g h L d, p.1 ≠ d := fun p hp => of_decide_eq_true (List.mem_filter.mp hp).2
theorem mem_rest {g h : Heap} {L d a : Addr} {o : Obj} (h1 : a ≠ L) (h2 : g.get? a = none) (h3 : h.get? a = some o) (h4 : a ≠ d) : (a, o) ∈ rest g h L d :=
  List.mem_filter.mpr ⟨mem_allNews h1 h2 h3, decide_eq_true h4⟩
theorem news_all {g h : Heap} {L : Addr} : News g L h (allNews g h L) := fun p hp => let ⟨a, b, c⟩ := of_mem_allNews hp; ⟨c, a, b⟩
theorem news_at {g h : Heap} {L d : Addr} {o : Obj} (h1 : d ≠ L) (h2 : g.get? d = none) (h3 : h.get? d = some o) : News g L h ((d, o) :: rest g h L d) := fun p hp => by
  rcases List.mem_cons.mp hp with rfl | hp
  · exact ⟨h3, h1, h2⟩
  · exact news_all p (List.mem_filter.mp hp).1
/-- behind a rule that changed d alone: all else but the frame is kept -/
theorem kept_of_news {g h h' : Heap} {L d : Addr} {m : Str → Option Value} (k : ∀ b o, g.get? b = some o → h.get? b = some o) (F : Fr g L h' m) (N : News g L h' (rest g h L d)) :
    ∀ b o, b ≠ L → b ≠ d → h.get? b = some o → h'.get? b = some o := fun b o h1 h2 e => by
  cases q : g.get? b with
  | some u =>
    have := k b u q
    rw [e] at this; cases this
    exact F.keep b _ q
  | none => exact (N (b, o) (mem_rest h1 q e h2)).1
end L2

namespace L2
open PySem PySem.Spec PyProof.Rows

/-- the module's facts, over the base: the heap at the law's entry without what is tracked there -/
structure Mod (K : PySem.W.Frag) (mg : Str → Option Value) (base : Heap) : Prop where
  kin : K.In base
  glob : base.Ns mainGlobals mg
  blt : ∃ mb, base.Ns builtinsNs mb ∧ ∀ x : Str, x ≠ "__name__" → mb x = bootBuiltins x
  nolimit : base.NoLimit

/-- the context: a def's body (or a comprehension's block) running. base: fixed through the whole law; s₀, H₀: the entry; outer: the frames whose slots others may change (a def's callers); stack: all frames that run;
   ex: iterators that were made ahead of the entry and are walked here (a comprehension's); fn: the names whose cells were made at the entry (a def: all; a comprehension's block: its own); calm: not within an except suite; pn: pins that every state bears; xe: what is wanted of an exception that leaves the code -/
structure Cx where
  prog : Program
  w : World
  K : PySem.W.Frag
  mg : Str → Option Value
  base : Heap
  A : Around
  N : List Str
  s₀ : Shared
  H₀ : Hp
  env : Env
  outer : List Env
  stack : List Env
  ex : List Addr
  fn : Str → Bool
  calm : Bool
  pn : List (Addr × Obj)
  xe : Value → Shared → Prop
/-- the callers' frames -/
def frs (l : List Env) : List Addr := l.filterMap (·.frame)
abbrev Cx.fs (X : Cx) : List Addr := frs X.outer

def Vis (sc : Scope) (x : Str) : Prop := sc.names.lookup x = some .local ∨ sc.names.lookup x = some .cell ∨ sc.names.lookup x = some .free
def Loc (sc : Scope) (x : Str) : Prop := sc.names.lookup x = some .local ∨ sc.names.lookup x = some .cell
def Look (env : Env) (h : Heap) (m : Str → Option Value) (x : Str) (u : Value) : Prop :=
  (env.kindOf x = some .local ∧ m x = some u) ∨ ((env.kindOf x = some .cell ∨ env.kindOf x = some .free) ∧ ∃ c, env.cells.lookup x = some c ∧ h.IsCell c (some u))

structure Cx.Ok (X : Cx) : Prop where
  mod : Mod X.K X.mg X.base
  kind : X.env.scope.kind = .function
  glob : X.env.globals = mainGlobals
  blt : X.env.builtins = builtinsNs
  above : X.s₀.heap.objs.size ≤ X.env.locals
  inj : ∀ x y c, X.env.cells.lookup x = some c → X.env.cells.lookup y = some c → x = y
  has : ∀ x, (X.env.kindOf x = some .cell ∨ X.env.kindOf x = some .free) → ∃ c, X.env.cells.lookup x = some c
  cab : ∀ x c, X.fn x = true → X.env.cells.lookup x = some c → X.s₀.heap.objs.size ≤ c
  hd : X.calm = true → X.A.handled = none
  frames : X.A.frames = some X.stack
  stk : X.stack = X.outer ∨ (X.stack = X.env :: X.outer ∧ X.env.frame = some X.env.locals)
  exf : ∀ b ∈ X.ex, b ≠ X.env.locals ∧ ∀ x c, X.env.cells.lookup x = some c → c ≠ b
  bs : ∀ b o, X.base.get? b = some o → X.s₀.heap.get? b = some o ∧ X.H₀ b = none
  bsz : X.base.objs.size ≤ X.s₀.heap.objs.size
  noex : ∀ b o, X.base.get? b = some o → b ∉ X.ex
  exfs : ∀ b ∈ X.ex, b ∉ X.fs
  funs : X.s₀.heap.FunFrames X.base X.outer
  frf : ∀ b ∈ X.fs, X.H₀ b = none

structure Inv (X : Cx) (pins : List (Addr × Obj)) (σ : List (Option V)) (H : Hp) (s : Shared) : Prop where
  ok : X.Ok
  os : s.os = X.s₀.os
  bare : AllBare s.gens
  base : Un X.fs X.ex X.H₀ H X.s₀.heap s.heap
  loc : ∃ m, s.heap.Ns X.env.locals m ∧ ∀ (i : Nat) (x : Str) (v : V), X.N[i]? = some x → σ[i]? = some (some v) → Vis X.env.scope x → ∃ u, RelV v u ∧ Look X.env s.heap m x u
  cell : ∀ x c, X.env.cells.lookup x = some c → ∃ v, s.heap.IsCell c v
  free : H X.env.locals = none
  freeC : ∀ x c, X.env.cells.lookup x = some c → H c = none
  pin : ∀ p ∈ X.pn ++ pins, s.heap.get? p.1 = some p.2 ∧ H p.1 = none ∧ p.1 ≠ X.env.locals ∧ p.1 ∉ X.fs ∧ ∀ v, p.2.data ≠ .cell v
  hok : HOk X.prog X.w H s.heap
  len : σ.length = X.N.length

section
variable {X : Cx} {pins : List (Addr × Obj)} {σ : List (Option V)} {H H' : Hp} {s : Shared} {h' : Heap}

theorem Cx.Ok.nofr (ok : X.Ok) {b : Addr} {o : Obj} (e : X.base.get? b = some o) : b ∉ X.fs := fun hb => by
  have := (ok.funs.mem hb).1
  rw [e] at this; cases this
theorem Inv.bs (I : Inv X pins σ H s) : ∀ b o, X.base.get? b = some o → s.heap.get? b = some o ∧ H b = none := fun b o e =>
  ⟨I.base.keep b o (I.ok.bs b o e).1 (I.ok.bs b o e).2 (I.ok.nofr e) (I.ok.noex b o e), I.base.free b o (I.ok.bs b o e).1 (I.ok.bs b o e).2 (I.ok.noex b o e)⟩
theorem Inv.bk (I : Inv X pins σ H s) : ∀ b o, X.base.get? b = some o → s.heap.get? b = some o := fun b o e => (I.bs b o e).1
theorem Inv.mod (I : Inv X pins σ H s) : Mod X.K X.mg X.base := I.ok.mod
theorem Inv.kIn (I : Inv X pins σ H s) : X.K.In s.heap := I.ok.mod.kin.keeps I.bk
theorem Inv.nolimit (I : Inv X pins σ H s) : s.heap.NoLimit := I.ok.mod.nolimit.keeps I.bk
/-- the frame over the base: for OpenK's rules (K.In X.base is I.mod.kin) -/
theorem Inv.fr (I : Inv X pins σ H s) : ∃ m, Fr X.base X.env.locals s.heap m :=
  let ⟨m, hn, _⟩ := I.loc
  ⟨m, hn, I.bk, Nat.le_trans I.ok.bsz I.ok.above⟩
theorem Inv.lt (I : Inv X pins σ H s) : X.env.locals < s.heap.objs.size := let ⟨_, hn, _⟩ := I.loc; hn.lt
theorem Inv.sz (I : Inv X pins σ H s) : X.s₀.heap.objs.size ≤ s.heap.objs.size := Nat.le_trans I.ok.above (Nat.le_of_lt I.lt)
theorem Inv.nofs (I : Inv X pins σ H s) {a : Addr} (h : s.heap.objs.size ≤ a) : a ∉ X.fs := fun hb => by
  obtain ⟨_, o, ho, _⟩ := I.ok.funs.mem hb
  exact absurd (Nat.lt_of_lt_of_le (Heap.lt_size ho) (Nat.le_trans I.sz h)) (Nat.lt_irrefl _)
theorem Inv.cne (I : Inv X pins σ H s) : ∀ x c, X.env.cells.lookup x = some c → c ≠ X.env.locals := fun x c e z => by
  obtain ⟨v, o, ho, hd⟩ := I.cell x c e
  obtain ⟨m, ⟨o', es, ep, ho', hd', _⟩, _⟩ := I.loc
  rw [z, ho'] at ho; cases ho; rw [hd'] at hd; cases hd
theorem Inv.funs (I : Inv X pins σ H s) : s.heap.FunFrames X.base X.outer := by
  have all : ∀ (l : List Env), (∀ b ∈ frs l, b ∈ X.fs) → X.s₀.heap.FunFrames X.base l → s.heap.FunFrames X.base l := by
    intro l
    induction l with
    | nil => intro _ _; trivial
    | cons env r ih =>
      intro hs hl
      obtain ⟨hk, ⟨L, o, hf, hn, ho, hd⟩, hr⟩ := hl
      have hL : L ∈ X.fs := hs L (by unfold frs; rw [List.filterMap_cons, hf]; exact List.mem_cons_self)
      obtain ⟨sl, e⟩ := I.base.slot L o ho (I.ok.frf L hL) hL fun z => I.ok.exfs L z hL
      exact ⟨hk, ⟨L, _, hf, hn, e, hd⟩, ih (fun b hb => hs b (by unfold frs; rw [List.filterMap_cons, hf]; exact List.mem_cons_of_mem _ hb)) hr⟩
  exact all X.outer (fun _ hb => hb) I.ok.funs

/-- the frames that run, for a call -/
theorem Inv.stack (I : Inv X pins σ H s) : s.heap.FunFrames X.base X.stack := by
  rcases I.ok.stk with e | ⟨e, hf⟩
  · rw [e]; exact I.funs
  · rw [e]
    obtain ⟨m, hn, _⟩ := I.loc
    refine .cons (by rw [I.ok.kind]; decide) hf hn ?_ I.funs
    exact Heap.get?_none_of_le (Nat.le_trans I.ok.bsz I.ok.above)
theorem Inv.stkSub (I : Inv X pins σ H s) : ∀ b ∈ frs X.stack, b ∈ X.env.locals :: X.fs := fun b hb => by
  rcases I.ok.stk with e | ⟨e, hf⟩
  · rw [e] at hb; exact List.mem_cons_of_mem _ hb
  · rw [e] at hb
    unfold frs at hb
    rw [List.filterMap_cons, hf] at hb
    exact hb
theorem Inv.stkFree (I : Inv X pins σ H s) : ∀ b ∈ frs X.stack, H b = none := fun b hb => by
  rcases List.mem_cons.mp (I.stkSub b hb) with e | hb
  · rw [e]; exact I.free
  · obtain ⟨_, o, ho, _⟩ := I.ok.funs.mem hb
    exact I.base.free b o ho (I.ok.frf b hb) fun z => I.ok.exfs b z hb

/-- THE STEP: the untracked objects but the frame and the records at ch are kept (the callers' frames up to slots), the frame's map is kept, the new abstract heap is held -/
theorem Inv.step {g' : Array GenState} {t' : Nat} {d' : Drawn} {ch : List Addr} (I : Inv X pins σ H s)
    (hch : ∀ b ∈ ch, (b ∈ X.ex ∨ X.s₀.heap.objs.size ≤ b) ∧ b ≠ X.env.locals ∧ (∀ x c, X.env.cells.lookup x = some c → c ≠ b) ∧ ∀ p ∈ X.pn ++ pins, p.1 ≠ b)
    (keep : ∀ b o, b ≠ X.env.locals → b ∉ X.fs → b ∉ ch → s.heap.get? b = some o → H b = none → h'.get? b = some o)
    (slot : ∀ b o, b ≠ X.env.locals → b ∈ X.fs → b ∉ ch → s.heap.get? b = some o → H b = none → ∃ sl, h'.get? b = some { o with slots := sl }) (free : ∀ b o, b ∉ ch → s.heap.get? b = some o → H b = none → H' b = none)
    (there : ∀ b o, b ∉ ch → s.heap.get? b = some o → ∃ o', h'.get? b = some o')
    (tups : ∀ b xs, H b = some (.tup xs) → H' b = some (.tup xs)) (frzs : ∀ b o u, H b = some (.frz o u) → H' b = some (.frz o u)) (tbls : ∀ b ps, H b = some (.tbl ps) → ∃ more, H' b = some (.tbl (ps ++ more)))
    (ns : ∀ m, s.heap.Ns X.env.locals m → h'.Ns X.env.locals m) (hok : HOk X.prog X.w H' h') (hg : AllBare g') :
    Inv X pins σ H' { s with heap := h', gens := g', drawn := d', toks := t' } := by
  have neL : ∀ b o, X.s₀.heap.get? b = some o → b ≠ X.env.locals := fun b o e => Nat.ne_of_lt (Nat.lt_of_lt_of_le (Heap.lt_size e) I.ok.above)
  have neC : ∀ b o, X.s₀.heap.get? b = some o → b ∉ X.ex → b ∉ ch := fun b o e hx hb => by
    rcases (hch b hb).1 with z | z
    · exact hx z
    · exact absurd (Nat.lt_of_lt_of_le (Heap.lt_size e) z) (Nat.lt_irrefl _)
  have cellK : ∀ x c, X.env.cells.lookup x = some c → ∀ v, s.heap.IsCell c v → h'.IsCell c v := fun x c e v ⟨o, ho, hd⟩ => by
    have nch : c ∉ ch := fun z => (hch c z).2.2.1 x c e rfl
    by_cases hc : c ∈ X.fs
    · obtain ⟨sl, q⟩ := slot c o (I.cne x c e) hc nch ho (I.freeC x c e)
      exact ⟨_, q, hd⟩
    · exact ⟨o, keep c o (I.cne x c e) hc nch ho (I.freeC x c e), hd⟩
  refine ⟨I.ok, I.os, hg, ⟨fun b o e n hb hx => ?_, fun b o e n hb hx => ?_, fun b o e n hx => ?_, fun b o e hx => ?_, fun b xs e => tups b xs (I.base.tups b xs e), fun b o xs e => frzs b o xs (I.base.frzs b o xs e), fun b ps e => ?_⟩, ?_, fun x c e => ?_, ?_, fun x c e => ?_, fun p hp => ?_, hok, I.len⟩
  · exact keep b o (neL b o e) hb (neC b o e hx) (I.base.keep b o e n hb hx) (I.base.free b o e n hx)
  · obtain ⟨sl, e1⟩ := I.base.slot b o e n hb hx
    obtain ⟨sl', e2⟩ := slot b _ (neL b o e) hb (neC b o e hx) e1 (I.base.free b o e n hx)
    exact ⟨sl', e2⟩
  · obtain ⟨o', e1⟩ := I.base.there b o e hx
    exact free b o' (neC b o e hx) e1 (I.base.free b o e n hx)
  · obtain ⟨o', e1⟩ := I.base.there b o e hx
    exact there b o' (neC b o e hx) e1
  · obtain ⟨m1, e1⟩ := I.base.tbls b ps e
    obtain ⟨m2, e2⟩ := tbls b _ e1
    exact ⟨m1 ++ m2, by rw [e2, Array.append_assoc]⟩
  · obtain ⟨m, hn, hl⟩ := I.loc
    refine ⟨m, ns m hn, fun i x v e1 e2 e3 => ?_⟩
    obtain ⟨u, r, l⟩ := hl i x v e1 e2 e3
    refine ⟨u, r, ?_⟩
    rcases l with l | ⟨k, c, e, z⟩
    · exact .inl l
    · exact .inr ⟨k, c, e, cellK x c e _ z⟩
  · obtain ⟨v, z⟩ := I.cell x c e
    exact ⟨v, cellK x c e v z⟩
  · obtain ⟨m, ⟨o, _, _, ho, _⟩, _⟩ := I.loc
    exact free _ o (fun z => (hch _ z).2.1 rfl) ho I.free
  · obtain ⟨v, o, ho, hd⟩ := I.cell x c e
    exact free c o (fun z => (hch c z).2.2.1 x c e rfl) ho (I.freeC x c e)
  · obtain ⟨e, n, ne, nf, d⟩ := I.pin p hp
    have nch : p.1 ∉ ch := fun z => (hch p.1 z).2.2.2 p hp rfl
    exact ⟨keep p.1 p.2 ne nf nch e n, free p.1 p.2 nch e n, ne, nf, d⟩
/-- .. where the frame's own object is kept too -/
theorem Inv.un {t' : Nat} (I : Inv X pins σ H s) (u : Un X.fs [] H H' s.heap h') (hok : HOk X.prog X.w H' h') : Inv X pins σ H' { s with heap := h', toks := t' } := by
  obtain ⟨m, ⟨o, es, ep, ho, r⟩, _⟩ := id I.loc
  obtain ⟨sl, hL⟩ := u.any ho I.free (by simp)
  exact I.step (g' := s.gens) (d' := s.drawn) (ch := []) (fun _ z => nomatch z) (fun b o _ hb _ e n => u.keep b o e n hb (by simp)) (fun b o _ hb _ e n => u.slot b o e n hb (by simp)) (fun b o _ e n => u.free b o e n (by simp)) (fun b o _ e => u.there b o e (by simp)) u.tups u.frzs u.tbls (fun m' hm => by
    obtain ⟨o', es', ep', ho', r'⟩ := hm
    rw [ho] at ho'; cases ho'
    exact ⟨_, es', ep', hL, r'⟩) hok I.bare
/-- behind a call (or a comprehension's block): the slots of this frame may have changed too, the records at ch may have turned -/
theorem Inv.call {g' : Array GenState} {t' : Nat} {d' : Drawn} {ch : List Addr} (I : Inv X pins σ H s) (u : Un (frs X.stack) ch H H' s.heap h') (hok : HOk X.prog X.w H' h') (hg : AllBare g')
    (hch : ∀ b ∈ ch, (b ∈ X.ex ∨ X.s₀.heap.objs.size ≤ b) ∧ b ≠ X.env.locals ∧ (∀ x c, X.env.cells.lookup x = some c → c ≠ b) ∧ ∀ p ∈ X.pn ++ pins, p.1 ≠ b) :
    Inv X pins σ H' { s with heap := h', gens := g', drawn := d', toks := t' } := by
  obtain ⟨m, ⟨o, es, ep, ho, r⟩, _⟩ := id I.loc
  obtain ⟨sl, hL⟩ := u.any ho I.free fun z => (hch _ z).2.1 rfl
  exact I.step (ch := ch) hch (fun b o hL hb hc e n => u.keep b o e n (fun z => (List.mem_cons.mp (I.stkSub b z)).elim hL hb) hc) (fun b o _ _ hc e n => u.any e n hc) (fun b o hc e n => u.free b o e n hc) (fun b o hc e => u.there b o e hc) u.tups u.frzs u.tbls (fun m' hm => by
    obtain ⟨o', es', ep', ho', r'⟩ := hm
    rw [ho] at ho'; cases ho'
    exact ⟨_, es', ep', hL, r'⟩) hok hg
/-- an untracked record of ours (an iterator) has turned -/
theorem Inv.turned {t' : Nat} {it : Addr} (I : Inv X pins σ H s) (k : ∀ b o, b ≠ it → s.heap.get? b = some o → h'.get? b = some o) (hn : H it = none) (hL : it ≠ X.env.locals)
    (h1 : it ∈ X.ex ∨ X.s₀.heap.objs.size ≤ it) (h2 : ∀ x c, X.env.cells.lookup x = some c → c ≠ it) (h3 : ∀ p ∈ X.pn ++ pins, p.1 ≠ it) : Inv X pins σ H { s with heap := h', toks := t' } := by
  have nit : ∀ b u, H b = some u → b ≠ it := fun b u e z => by rw [z, hn] at e; cases e
  refine I.step (g' := s.gens) (d' := s.drawn) (ch := [it]) (fun b hb => ?_) (fun b o _ _ hc e _ => k b o (fun z => hc (by simp [z])) e) (fun b o _ _ hc e _ => ⟨o.slots, k b o (fun z => hc (by simp [z])) e⟩) (fun _ _ _ _ n => n)
    (fun b o hc e => ⟨o, k b o (fun z => hc (by simp [z])) e⟩) (fun _ _ e => e) (fun _ _ _ e => e) (fun b ps e => ⟨#[], by rw [e]; simp⟩) (fun m hm => ?_) (fun b u e => ?_) I.bare
  · have e : b = it := by simpa using hb
    subst e
    exact ⟨h1, hL, h2, h3⟩
  · obtain ⟨o, es, ep, ho, r⟩ := hm
    exact ⟨o, es, ep, k _ o (Ne.symm hL) ho, r⟩
  · refine (I.hok b u e).stay (fun c v hc q => k c v ?_ q) (fun _ q => q) fun _ _ q => q
    rcases hc with z | z
    · rw [z]; exact nit b u e
    · exact nit c _ z
theorem Inv.tok (I : Inv X pins σ H s) (t : Nat) : Inv X pins σ H { s with toks := t } := I.un (h' := s.heap) (t' := t) Un.refl I.hok
/-- all objects kept -/
theorem Inv.kept {t' : Nat} (I : Inv X pins σ H s) (k : ∀ b u, s.heap.get? b = some u → h'.get? b = some u) : Inv X pins σ H { s with heap := h', toks := t' } := I.un (Un.kept k) (I.hok.kept k)
/-- a new object laid and tracked -/
theorem Inv.laid {a : Addr} {o : HO} {t' : Nat} (I : Inv X pins σ H s) (k : ∀ b u, s.heap.get? b = some u → h'.get? b = some u) (hp : s.heap.objs.size ≤ a) (new : ObjOk X.prog X.w (upd H a o) h' a o) :
    Inv X pins σ (upd H a o) { s with heap := h', toks := t' } := I.un (Un.laid k hp (I.hok.fresh hp)) (I.hok.laid k hp new)
/-- an object written -/
theorem Inv.write {x e : Addr} {o : HO} {t' : Nat} (I : Inv X pins σ H s) (mu : Mut (H x)) (he : e = x ∨ H e = some (.own x)) (k : ∀ b u, b ≠ e → s.heap.get? b = some u → h'.get? b = some u) (heo : ∃ u, h'.get? e = some u)
    (new : ObjOk X.prog X.w (upd H x o) h' x o) : Inv X pins σ (upd H x o) { s with heap := h', toks := t' } := I.un (Un.write mu he k heo) (I.hok.write mu he k heo new)
/-- forgetting slots, pins -/
theorem Inv.weak {σ' : List (Option V)} (I : Inv X pins σ H s) (hl : σ'.length = σ.length) (w : ∀ (i : Nat) v, σ'[i]? = some (some v) → σ[i]? = some (some v)) : Inv X pins σ' H s :=
  ⟨I.ok, I.os, I.bare, I.base, let ⟨m, hn, hl'⟩ := I.loc; ⟨m, hn, fun i x v e1 e2 e3 => hl' i x v e1 (w i v e2) e3⟩, I.cell, I.free, I.freeC, I.pin, I.hok, hl.trans I.len⟩
theorem Inv.pins_of {pins' : List (Addr × Obj)} (I : Inv X pins σ H s) (h : ∀ p ∈ pins', s.heap.get? p.1 = some p.2 ∧ H p.1 = none ∧ p.1 ≠ X.env.locals ∧ p.1 ∉ X.fs ∧ ∀ v, p.2.data ≠ .cell v) : Inv X pins' σ H s :=
  ⟨I.ok, I.os, I.bare, I.base, I.loc, I.cell, I.free, I.freeC, fun p hp => (List.mem_append.mp hp).elim (fun z => I.pin p (List.mem_append_left _ z)) (h p), I.hok, I.len⟩

theorem nodup_ix {N : List Str} (hN : N.Nodup) {i j : Nat} {x : Str} (a : N[i]? = some x) (b : N[j]? = some x) : i = j := by
  obtain ⟨h1, e1⟩ := List.getElem?_eq_some_iff.mp a
  obtain ⟨h2, e2⟩ := List.getElem?_eq_some_iff.mp b
  exact (List.getElem_inj hN).mp (e1.trans e2.symm)

/-- a name is stored; what changed -/
theorem store_ok2 {M : Model} {A : Around} {E : Value → Shared → Prop} {i : Nat} {x : Str} {v : V} {u : Value} {Q : Unit → Shared → Prop} (I : Inv X pins σ H s) (hN : X.N.Nodup) (hi : X.N[i]? = some x) (hx : Loc X.env.scope x) (r : RelV v u)
    (h : ∀ s', Inv X pins (σ.set i (some v)) H s' → (∃ a, Heap.SameBut a s.heap s'.heap ∧ (a = X.env.locals ∨ X.env.cells.lookup x = some a)) → Q () s') (hf : X.fn x = true ∨ X.env.scope.names.lookup x = some .local := by first | exact .inl rfl | exact .inr rfl | assumption) : wpAny M A (storeName X.env x u) Q E s := by
  obtain ⟨m, hn, hl⟩ := id I.loc
  have hcls : (X.env.scope.kind == .class || (X.env.scope.kind == .module && X.env.locals != X.env.globals)) = false := by rw [I.ok.kind]; rfl
  have hiσ : i < σ.length := by rw [I.len]; exact (List.getElem?_eq_some_iff.mp hi).1
  have cne := I.cne
  have tracked : ∀ {a : Addr} {h' : Heap}, (∃ o, s.heap.get? a = some o ∧ H a = none) → Heap.SameBut a s.heap h' → HOk X.prog X.w H h' := fun {a h'} ha hs b ob e => by
    obtain ⟨_, _, hfree⟩ := ha
    refine (I.hok b ob e).stay (fun c w' hc q => (hs.2 c ?_).trans q) (fun _ q => q) fun _ _ q => q
    rintro rfl
    rcases hc with rfl | hc
    · rw [hfree] at e; cases e
    · rw [hfree] at hc; cases hc
  rcases hx with hk | hk
  · refine wpAny_storeName_local hk hn (fun h' hn' hs => ?_) hcls
    obtain ⟨oL, _, _, hoL, _⟩ := id hn
    refine h _ ⟨I.ok, I.os, I.bare, ⟨fun b o e n hb hx => ?_, fun b o e n hb hx => ?_, I.base.free, fun b o e hx => ?_, I.base.tups, I.base.frzs, I.base.tbls⟩, ⟨_, hn', fun j y v' e1 e2 e3 => ?_⟩, fun y c e => ?_, I.free, I.freeC, fun p hp => ?_, tracked ⟨oL, hoL, I.free⟩ hs, by simpa using I.len⟩ ⟨_, hs, .inl rfl⟩
    · exact (hs.2 b (Nat.ne_of_lt (Nat.lt_of_lt_of_le (Heap.lt_size e) I.ok.above))).trans (I.base.keep b o e n hb hx)
    · obtain ⟨sl, e1⟩ := I.base.slot b o e n hb hx
      exact ⟨sl, (hs.2 b (Nat.ne_of_lt (Nat.lt_of_lt_of_le (Heap.lt_size e) I.ok.above))).trans e1⟩
    · obtain ⟨o', e1⟩ := I.base.there b o e hx
      exact ⟨o', (hs.2 b (Nat.ne_of_lt (Nat.lt_of_lt_of_le (Heap.lt_size e) I.ok.above))).trans e1⟩
    · by_cases hj : j = i
      · subst hj
        rw [hi] at e1; cases e1
        rw [List.getElem?_set_self hiσ] at e2
        cases e2
        exact ⟨u, r, .inl ⟨hk, by simp⟩⟩
      · rw [List.getElem?_set_ne (Ne.symm hj)] at e2
        obtain ⟨u', r', q⟩ := hl j y v' e1 e2 e3
        refine ⟨u', r', ?_⟩
        rcases q with ⟨k, e⟩ | ⟨k, c, e, z⟩
        · refine .inl ⟨k, ?_⟩
          have : y ≠ x := fun e => hj (nodup_ix hN e1 (e ▸ hi))
          simp [this, e]
        · exact .inr ⟨k, c, e, z.sameBut hs (cne y c e)⟩
    · obtain ⟨w', z⟩ := I.cell y c e
      exact ⟨w', z.sameBut hs (cne y c e)⟩
    · obtain ⟨e, n, ne, nf, d⟩ := I.pin p hp
      exact ⟨(hs.2 p.1 ne).trans e, n, ne, nf, d⟩
  · have hfn : X.fn x = true := by
      rcases hf with z | z
      · exact z
      · rw [z] at hk; cases hk
    obtain ⟨c, hc⟩ := I.ok.has x (.inl hk)
    obtain ⟨w', z⟩ := I.cell x c hc
    refine wpAny_storeName_cell I.ok.kind hk hc z (fun h' hc' hs => ?_)
    obtain ⟨oc, hoc, hocd⟩ := id z
    refine h { s with heap := h' } ⟨I.ok, I.os, I.bare, ⟨fun b o e n hb hx => ?_, fun b o e n hb hx => ?_, I.base.free, fun b o e hx => ?_, I.base.tups, I.base.frzs, I.base.tbls⟩, ⟨m, hn.sameBut hs (Ne.symm (cne x c hc)), fun j y v' e1 e2 e3 => ?_⟩, fun y c' e => ?_, I.free, I.freeC, fun p hp => ?_, tracked ⟨oc, hoc, I.freeC x c hc⟩ hs, by simpa using I.len⟩ ⟨c, hs, .inr hc⟩
    · exact (hs.2 b (Nat.ne_of_lt (Nat.lt_of_lt_of_le (Heap.lt_size e) (I.ok.cab x c hfn hc)))).trans (I.base.keep b o e n hb hx)
    · obtain ⟨sl, e1⟩ := I.base.slot b o e n hb hx
      exact ⟨sl, (hs.2 b (Nat.ne_of_lt (Nat.lt_of_lt_of_le (Heap.lt_size e) (I.ok.cab x c hfn hc)))).trans e1⟩
    · obtain ⟨o', e1⟩ := I.base.there b o e hx
      exact ⟨o', (hs.2 b (Nat.ne_of_lt (Nat.lt_of_lt_of_le (Heap.lt_size e) (I.ok.cab x c hfn hc)))).trans e1⟩
    · by_cases hj : j = i
      · subst hj
        rw [hi] at e1; cases e1
        rw [List.getElem?_set_self hiσ] at e2
        cases e2
        exact ⟨u, r, .inr ⟨.inl hk, c, hc, hc'⟩⟩
      · rw [List.getElem?_set_ne (Ne.symm hj)] at e2
        obtain ⟨u', r', q⟩ := hl j y v' e1 e2 e3
        refine ⟨u', r', ?_⟩
        rcases q with q | ⟨k, c', e, z'⟩
        · exact .inl q
        · refine .inr ⟨k, c', e, z'.sameBut hs ?_⟩
          rintro rfl
          exact hj (nodup_ix hN e1 (I.ok.inj _ _ _ e hc ▸ hi))
    · by_cases hcc : c' = c
      · subst hcc; exact ⟨_, hc'⟩
      · obtain ⟨w2, z2⟩ := I.cell y c' e
        exact ⟨w2, z2.sameBut hs hcc⟩
    · obtain ⟨e, n, ne, nf, d⟩ := I.pin p hp
      refine ⟨(hs.2 p.1 ?_).trans e, n, ne, nf, d⟩
      intro q
      rw [q, hoc] at e
      have q' : oc = p.2 := Option.some.inj e
      exact d w' (by rw [← q']; exact hocd)
theorem store_ok {M : Model} {A : Around} {E : Value → Shared → Prop} {i : Nat} {x : Str} {v : V} {u : Value} {Q : Unit → Shared → Prop} (I : Inv X pins σ H s) (hN : X.N.Nodup) (hi : X.N[i]? = some x) (hx : Loc X.env.scope x) (r : RelV v u)
    (h : ∀ s', Inv X pins (σ.set i (some v)) H s' → Q () s') (hf : X.fn x = true ∨ X.env.scope.names.lookup x = some .local := by first | exact .inl rfl | exact .inr rfl | assumption) : wpAny M A (storeName X.env x u) Q E s :=
  store_ok2 I hN hi hx r (fun s' I' _ => h s' I') hf
/-- behind a call or a block, the state as it is -/
theorem Inv.call' {s' : Shared} {ch : List Addr} (I : Inv X pins σ H s) (ho : s'.os = s.os) (u : Un (frs X.stack) ch H H' s.heap s'.heap) (hok : HOk X.prog X.w H' s'.heap) (hg : AllBare s'.gens)
    (hch : ∀ b ∈ ch, (b ∈ X.ex ∨ X.s₀.heap.objs.size ≤ b) ∧ b ≠ X.env.locals ∧ (∀ x c, X.env.cells.lookup x = some c → c ≠ b) ∧ ∀ p ∈ X.pn ++ pins, p.1 ≠ b) : Inv X pins σ H' s' := by
  obtain ⟨h', g', d', t', o'⟩ := s'
  have e : o' = s.os := ho
  subst e
  exact I.call (g' := g') (t' := t') (d' := d') u hok hg hch
end

/-! ### the judgements -/
/-- an exception: its class, its own dict's address (where it has one), the abstract heap behind it -/
abbrev XK := Value → Option Addr → Hp → Prop
abbrev St := List (Option V)
abbrev VK := V → Hp → Prop
/-- an expression's reading; a test's; an argument list's -/
abbrev TE := St → Hp → VK → Prop
abbrev TT := St → Hp → (Bool → Hp → Prop) → Prop
abbrev TA := St → Hp → (List V → Hp → Prop) → Prop
/-- what is wanted behind a statement -/
structure Ends where
  nx : St → Hp → Prop
  rt : VK
  bk : St → Hp → Prop := fun _ _ => False
  ct : St → Hp → Prop := fun _ _ => False
abbrev TS := Ends → St → Hp → Prop

def EP (X : Cx) (pins : List (Addr × Obj)) (σ : St) (Q : VK) (u : Value) (s' : Shared) : Prop := ∃ v H', Inv X pins σ H' s' ∧ RelV v u ∧ Q v H'
def TP (X : Cx) (pins : List (Addr × Obj)) (σ : St) (Q : Bool → Hp → Prop) (b : Bool) (s' : Shared) : Prop := ∃ H', Inv X pins σ H' s' ∧ Q b H'
def AP (X : Cx) (pins : List (Addr × Obj)) (σ : St) (Q : List V → Hp → Prop) (us : List Value) (s' : Shared) : Prop := ∃ vs H', Inv X pins σ H' s' ∧ Vals vs us ∧ Q vs H'
def SP (X : Cx) (pins : List (Addr × Obj)) (D : Ends) (f : Flow) (s' : Shared) : Prop :=
  match f with
  | .next => ∃ σ' H', Inv X pins σ' H' s' ∧ D.nx σ' H'
  | .brk => ∃ σ' H', Inv X pins σ' H' s' ∧ D.bk σ' H'
  | .cont => ∃ σ' H', Inv X pins σ' H' s' ∧ D.ct σ' H'
  | .ret u => ∃ v σ' H', Inv X pins σ' H' s' ∧ RelV v u ∧ D.rt v H'

def PE (X : Cx) (e : Expr) (t : TE) : Prop :=
  ∀ (pins : List (Addr × Obj)) (s : Shared) (σ : St) (H : Hp) (Q : VK), Inv X pins σ H s → t σ H Q → wpAny (model X.prog X.w) X.A (eval e X.env) (EP X pins σ Q) X.xe s
def PT (X : Cx) (e : Expr) (t : TT) : Prop :=
  ∀ (pins : List (Addr × Obj)) (s : Shared) (σ : St) (H : Hp) (Q : Bool → Hp → Prop), Inv X pins σ H s → t σ H Q → wpAny (model X.prog X.w) X.A (isTrue e X.env (eval e X.env)) (TP X pins σ Q) X.xe s
/-- a test whatever its 'whole' is (and, or) -/
def PW (X : Cx) (e : Expr) (t : TT) : Prop :=
  ∀ (whole : Sem Value) (pins : List (Addr × Obj)) (s : Shared) (σ : St) (H : Hp) (Q : Bool → Hp → Prop), Inv X pins σ H s → t σ H Q → wpAny (model X.prog X.w) X.A (isTrue e X.env whole) (TP X pins σ Q) X.xe s
theorem PW.pt {X : Cx} {e : Expr} {t : TT} (h : PW X e t) : PT X e t := h _
/-- an argument list (no star), from the left -/
def PA (X : Cx) (es : List Expr) (t : TA) : Prop :=
  ∀ (pos : Pos) (pins : List (Addr × Obj)) (s : Shared) (σ : St) (H : Hp) (Q : List V → Hp → Prop), Inv X pins σ H s → t σ H Q → wpAny (model X.prog X.w) X.A (spliced (backTo pos (starEach es X.env))) (AP X pins σ Q) X.xe s
def PS (X : Cx) (st : Stmt) (t : TS) : Prop :=
  ∀ (pins : List (Addr × Obj)) (s : Shared) (σ : St) (H : Hp) (D : Ends), Inv X pins σ H s → t D σ H → wpAny (model X.prog X.w) X.A (exec st X.env) (SP X pins D) X.xe s
def PSs (X : Cx) (st : List Stmt) (t : TS) : Prop :=
  ∀ (pins : List (Addr × Obj)) (s : Shared) (σ : St) (H : Hp) (D : Ends), Inv X pins σ H s → t D σ H → wpAny (model X.prog X.w) X.A (execs st X.env) (SP X pins D) X.xe s
/-- weaken the end -/
theorem thn {α : Type} {t : Sem α} {Q Q' : α → Shared → Prop} {M : Model} {A : Around} {E : Value → Shared → Prop} {s : Shared} (h : wpAny M A t Q E s) (hQ : ∀ a s, Q a s → Q' a s) : wpAny M A t Q' E s := wpAny_mono h hQ fun _ _ x => x
end L2

namespace L2
open PySem PySem.Spec PyProof.Rows
section
variable {X : Cx}

/-- two expressions in a row -/
theorem bin {a b : Expr} {ta tb : TE} (ha : PE X a ta) (hb : PE X b tb) {pins : List (Addr × Obj)} {s : Shared} {σ : St} {H : Hp} {R : V → V → Hp → Prop} (I : Inv X pins σ H s) (h : ta σ H fun x H1 => tb σ H1 fun y H2 => R x y H2)
    {α : Type} {Q : α → Shared → Prop} {f : Value → Value → Sem α}
    (hf : ∀ v u s2 x y H2, Inv X pins σ H2 s2 → RelV x v → RelV y u → R x y H2 → wpAny (model X.prog X.w) X.A (f v u) Q X.xe s2) :
    wpAny (model X.prog X.w) X.A (eval a X.env) (fun v s₁ => wpAny (model X.prog X.w) X.A (eval b X.env) (fun u s₂ => wpAny (model X.prog X.w) X.A (f v u) Q X.xe s₂) X.xe s₁) X.xe s := by
  refine thn (ha pins s σ H _ I h) fun v s1 ⟨x, H1, I1, r1, q1⟩ => ?_
  refine thn (hb pins s1 σ H1 _ I1 q1) fun u s2 ⟨y, H2, I2, r2, q2⟩ => ?_
  exact hf v u s2 x y H2 I2 r1 r2 q2

/-! ### names and constants -/
def tVar (i : Nat) : TE := fun σ H Q => ∃ v, σ[i]? = some (some v) ∧ Q v H
def tC (v : V) : TE := fun _ H Q => Q v H
theorem pe_var {i : Nat} {x : Str} {pos : Pos} (hN : X.N[i]? = some x) (hv : Vis X.env.scope x) (hd : (x == ("__debug__" : Str)) = false := by decide) (hcd : (x == ("__classdict__" : Str)) = false := by decide) : PE X (.Name x pos) (tVar i) := by
  intro pins s σ H Q I h
  obtain ⟨v, e, h⟩ := h
  obtain ⟨m, hn, hl⟩ := I.loc
  obtain ⟨u, r, l⟩ := hl i x v hN e hv
  have fin : EP X pins σ Q u s := ⟨v, H, I, r, h⟩
  rcases l with ⟨hk, hm⟩ | ⟨hk, c, hc, hcell⟩
  · exact wpAny_Name (wpAny_loadName_local I.ok.kind hk hn hm fin) hd
  · rcases hk with hk | hk
    · exact wpAny_Name (wpAny_loadName_cell I.ok.kind hk hc hcell fin) hd
    · exact wpAny_Name (wpAny_loadName_free I.ok.kind hk hc hcell fin hcd) hd
theorem pe_int {i j pos} : PE X (.Constant (.int i) j pos) (tC (.int i)) := fun _ _ _ H _ I h => wpAny_Constant_int ⟨.int i, H, I.tok _, ⟨_, rfl⟩, h⟩
theorem pe_bl {b j pos} : PE X (.Constant (.bool b) j pos) (tC (.bl b)) := fun _ _ _ H _ I h => Constant_bool ⟨.bl b, H, I, rfl, h⟩
theorem pe_non {j pos} : PE X (.Constant .none j pos) (tC .non) := fun _ _ _ H _ I h => Constant_none ⟨.non, H, I, rfl, h⟩
theorem pe_str {x j pos} : PE X (.Constant (.str x) j pos) (tC (.str x)) := fun _ _ _ H _ I h => Calls.Constant_str ⟨.str x, H, I.tok _, ⟨_, rfl⟩, h⟩

/-- a global name of the def -/
def Gl (X : Cx) (x : Str) : Prop := X.env.kindOf x = some .globalImplicit
theorem ld_glob {E : Value → Shared → Prop} {pins : List (Addr × Obj)} {s : Shared} {σ : St} {H : Hp} {x : Str} {u : Value} {pos : Pos} {Q : Value → Shared → Prop} (I : Inv X pins σ H s) (hg : Gl X x) (hm : X.mg x = some u) (h : Q u s)
    (hd : (x == ("__debug__" : Str)) = false := by decide) : wpAny (model X.prog X.w) X.A (eval (.Name x pos) X.env) Q E s :=
  Calls.Name_function_global I.ok.kind hg (Calls.loadGlobal_global (by rw [I.ok.glob]; exact I.mod.glob.keeps I.bk) hm h) hd
theorem ld_blt {E : Value → Shared → Prop} {pins : List (Addr × Obj)} {s : Shared} {σ : St} {H : Hp} {x : Str} {u : Value} {pos : Pos} {Q : Value → Shared → Prop} (I : Inv X pins σ H s) (hg : Gl X x) (hm : X.mg x = none) (hv : bootBuiltins x = some u) (h : Q u s)
    (hn : x ≠ "__name__" := by decide) (hd : (x == ("__debug__" : Str)) = false := by decide) : wpAny (model X.prog X.w) X.A (eval (.Name x pos) X.env) Q E s := by
  obtain ⟨mb, h1, h2⟩ := I.mod.blt
  exact Calls.Name_function_global I.ok.kind hg (Calls.loadGlobal_builtin (by rw [I.ok.glob]; exact I.mod.glob.keeps I.bk) hm (by rw [I.ok.blt]; exact h1.keeps I.bk) ((h2 x hn).trans hv) h) hd
/-- a module's constant, a class, a function, as a value -/
theorem pe_glob {x : Str} {v : V} {u : Value} {pos : Pos} (hg : Gl X x) (hm : X.mg x = some u) (r : RelV v u) (hd : (x == ("__debug__" : Str)) = false := by decide) : PE X (.Name x pos) (tC v) :=
  fun _ _ _ H _ I h => ld_glob I hg hm ⟨v, H, I, r, h⟩ hd
theorem pe_bltn {x : Str} {v : V} {u : Value} {pos : Pos} (hg : Gl X x) (hm : X.mg x = none) (hv : bootBuiltins x = some u) (r : RelV v u) (hn : x ≠ "__name__" := by decide) (hd : (x == ("__debug__" : Str)) = false := by decide) : PE X (.Name x pos) (tC v) :=
  fun _ _ _ H _ I h => ld_blt I hg hm hv ⟨v, H, I, r, h⟩ hn hd

/-! ### arithmetic -/
/-- two ints -/
def t2I (ta tb : TE) (k : Int → Int → Hp → Prop) : St → Hp → Prop := fun σ H => ta σ H fun x H1 => tb σ H1 fun y H2 => ∃ i j, x = .int i ∧ y = .int j ∧ k i j H2
def tAdd (ta tb : TE) : TE := fun σ H Q => t2I ta tb (fun i j H2 => Q (.int (i + j)) H2) σ H
def tSub (ta tb : TE) : TE := fun σ H Q => t2I ta tb (fun i j H2 => Q (.int (i - j)) H2) σ H
/-- the left factor below 2^64 -/
def tMul (ta tb : TE) : TE := fun σ H Q => t2I ta tb (fun i j H2 => (-(2 ^ 64) < i ∧ i < 2 ^ 64) ∧ Q (.int (i * j)) H2) σ H
variable {a b : Expr} {ta tb : TE} {pos : Pos}
theorem pe_add (ha : PE X a ta) (hb : PE X b tb) : PE X (.BinOp a .Add b pos) (tAdd ta tb) := by
  intro pins s σ H Q I h
  refine wpAny_BinOp (bin ha hb I h fun v u s2 x y H2 I2 rx ry q => ?_)
  obtain ⟨i, j, rfl, rfl, q⟩ := q
  obtain ⟨t, rfl⟩ := rx
  obtain ⟨t', rfl⟩ := ry
  exact add_int ⟨.int _, H2, I2.tok _, ⟨_, rfl⟩, q⟩
theorem pe_sub (ha : PE X a ta) (hb : PE X b tb) : PE X (.BinOp a .Sub b pos) (tSub ta tb) := by
  intro pins s σ H Q I h
  refine wpAny_BinOp (bin ha hb I h fun v u s2 x y H2 I2 rx ry q => ?_)
  obtain ⟨i, j, rfl, rfl, q⟩ := q
  obtain ⟨t, rfl⟩ := rx
  obtain ⟨t', rfl⟩ := ry
  exact sub_int ⟨.int _, H2, I2.tok _, ⟨_, rfl⟩, q⟩
theorem pe_mul (ha : PE X a ta) (hb : PE X b tb) : PE X (.BinOp a .Mult b pos) (tMul ta tb) := by
  intro pins s σ H Q I h
  refine wpAny_BinOp (bin ha hb I h fun v u s2 x y H2 I2 rx ry q => ?_)
  obtain ⟨i, j, rfl, rfl, ⟨q1, q2⟩, q⟩ := q
  obtain ⟨t, rfl⟩ := rx
  obtain ⟨t', rfl⟩ := ry
  exact mul_int ⟨.int _, H2, I2.tok _, ⟨_, rfl⟩, q⟩ (.of_left (intBits_le_64 q1 q2))

/-! ### comparisons -/
def PC (X : Cx) (op : CmpOp) (a b : Expr) (t : TE) : Prop :=
  ∀ (pins : List (Addr × Obj)) (s : Shared) (σ : St) (H : Hp) (Q : VK), Inv X pins σ H s → t σ H Q →
    wpAny (model X.prog X.w) X.A (eval a X.env) (fun v s₁ => wpAny (model X.prog X.w) X.A (eval b X.env) (fun u s₂ => wpAny (model X.prog X.w) X.A (compareOp op v u) (EP X pins σ Q) X.xe s₂) X.xe s₁) X.xe s
theorem nobehind (b : Expr) {op : CmpOp} (h : op ≠ .In) (h2 : op ≠ .NotIn) : behindInMarks op b = false := by
  have e1 : (op == CmpOp.In) = false := by cases op <;> first | rfl | exact absurd rfl h
  have e2 : (op == CmpOp.NotIn) = false := by cases op <;> first | rfl | exact absurd rfl h2
  cases b <;> simp [behindInMarks, e1, e2]
def tCmp (p : Int → Int → Bool) (ta tb : TE) : TE := fun σ H Q => t2I ta tb (fun i j H2 => Q (.bl (p i j)) H2) σ H
abbrev tLt : TE → TE → TE := tCmp fun i j => decide (i < j)
abbrev tLe : TE → TE → TE := tCmp fun i j => decide (i ≤ j)
abbrev tGt : TE → TE → TE := tCmp fun i j => decide (j < i)
abbrev tGe : TE → TE → TE := tCmp fun i j => decide (j ≤ i)
abbrev tEqI : TE → TE → TE := tCmp fun i j => decide (i = j)
abbrev tNeI : TE → TE → TE := tCmp fun i j => !decide (i = j)
/-- a comparison of two ints, by its rule -/
theorem pc_int {op : CmpOp} {p : Int → Int → Bool} (ha : PE X a ta) (hb : PE X b tb)
    (rule : ∀ (i j : Int) (t u : Tok) (Q : Value → Shared → Prop) (s : Shared), Q (.bool (p i j)) s → wpAny (model X.prog X.w) X.A (compareOp op (.int i t) (.int j u)) Q X.xe s) : PC X op a b (tCmp p ta tb) := by
  intro pins s σ H Q I h
  refine bin ha hb I h fun v u s2 x y H2 I2 rx ry q => ?_
  obtain ⟨i, j, rfl, rfl, q⟩ := q
  obtain ⟨t, rfl⟩ := rx
  obtain ⟨t', rfl⟩ := ry
  exact rule i j t t' _ s2 ⟨.bl _, H2, I2, rfl, q⟩
theorem pc_lt (ha : PE X a ta) (hb : PE X b tb) : PC X .Lt a b (tLt ta tb) := pc_int ha hb fun _ _ _ _ _ _ h => lt_int h
theorem pc_le (ha : PE X a ta) (hb : PE X b tb) : PC X .LtE a b (tLe ta tb) := pc_int ha hb fun _ _ _ _ _ _ h => le_int h
theorem pc_gt (ha : PE X a ta) (hb : PE X b tb) : PC X .Gt a b (tGt ta tb) := pc_int ha hb fun _ _ _ _ _ _ h => gt_int h
theorem pc_ge (ha : PE X a ta) (hb : PE X b tb) : PC X .GtE a b (tGe ta tb) := pc_int ha hb fun _ _ _ _ _ _ h => ge_int h
theorem pc_eqI (ha : PE X a ta) (hb : PE X b tb) : PC X .Eq a b (tEqI ta tb) := pc_int ha hb fun _ _ _ _ _ _ h => eq_int (by rw [Bool.beq_eq_decide_eq]; exact h)
theorem pc_neI (ha : PE X a ta) (hb : PE X b tb) : PC X .NotEq a b (tNeI ta tb) := pc_int ha hb fun _ _ _ _ _ _ h => ne_int (by rw [bne, Bool.beq_eq_decide_eq]; exact h)
/-- is None -/
def tIsN (ta : TE) : TE := fun σ H Q => ta σ H fun x H1 => Q (.bl (decide (x = .non))) H1
def tNotN (ta : TE) : TE := fun σ H Q => ta σ H fun x H1 => Q (.bl (!decide (x = .non))) H1
theorem RelV.none_iff {x : V} {v : Value} (r : RelV x v) : (v == Value.none) = decide (x = .non) := by
  cases x with
  | non => cases r; rfl
  | bl _ => cases r; rfl
  | int _ => obtain ⟨t, rfl⟩ := r; rfl
  | str _ => obtain ⟨t, rfl⟩ := r; rfl
  | byt _ => obtain ⟨t, rfl⟩ := r; rfl
  | flt _ => obtain ⟨t, rfl⟩ := r; rfl
  | ref _ => cases r; rfl
  | ty _ => cases r; rfl
theorem pc_isN {j pos'} (ha : PE X a ta) : PC X .Is a (.Constant .none j pos') (tIsN ta) := by
  intro pins s σ H Q I h
  refine thn (ha pins s σ H _ I h) fun v s1 ⟨x, H1, I1, r1, q1⟩ => ?_
  exact Constant_none (is_none_gen ⟨.bl _, H1, I1, by rw [r1.none_iff]; rfl, q1⟩)
theorem pc_notN {j pos'} (ha : PE X a ta) : PC X .IsNot a (.Constant .none j pos') (tNotN ta) := by
  intro pins s σ H Q I h
  refine thn (ha pins s σ H _ I h) fun v s1 ⟨x, H1, I1, r1, q1⟩ => ?_
  exact Constant_none (isnot_none_gen ⟨.bl _, H1, I1, by rw [r1.none_iff]; rfl, q1⟩)
/-- a comparison as a value, as a test -/
def tB (t : TE) : TT := fun σ H Q => t σ H fun x H1 => ∃ c, x = .bl c ∧ Q c H1
theorem pe_cmp {op : CmpOp} {t : TE} (h : PC X op a b t) (h1 : behindInMarks op b = false := by first | exact nobehind _ (by decide) (by decide) | rfl) : PE X (.Compare a [op] [b] pos) t := fun pins s σ H Q I hw => wpAny_Compare1 (h pins s σ H Q I hw) h1
theorem pt_cmp {op : CmpOp} {t : TE} (h : PC X op a b t) (h1 : behindInMarks op b = false := by first | exact nobehind _ (by decide) (by decide) | rfl) : PT X (.Compare a [op] [b] pos) (tB t) := by
  intro pins s σ H Q I hw
  refine wpAny_isTrue_Compare1 (thn (h pins s σ H _ I hw) fun v s1 h1 => thn h1 fun u s2 h2 => thn h2 fun c s3 ⟨x, H1, I1, r1, q1⟩ => ?_) h1
  obtain ⟨d, rfl, q⟩ := q1
  cases r1
  exact wpAny_truthy_bool ⟨H1, I1, q⟩
/-- an expression whose value is a bool, as a test -/
theorem pt_val {e : Expr} {t : TE} (h : PE X e t) (he : ∀ whole, isTrue e X.env whole = (do let v ← whole; standAt e.pos; holding [v] (truthy v)) := by intro _; rfl) : PT X e (tB t) := by
  intro pins s σ H Q I hw
  refine isTrue_plain (thn (h pins s σ H _ I hw) fun v s1 ⟨x, H1, I1, r1, q1⟩ => ?_) (he _)
  obtain ⟨d, rfl, q⟩ := q1
  cases r1
  exact wpAny_truthy_bool ⟨H1, I1, q⟩

/-! ### and, or, not -/
variable {tA tB' : TT} {rest : List Expr}
def tAnd (t u : TT) : TT := fun σ H Q => t σ H fun c H1 => if c = true then u σ H1 Q else Q false H1
def tOr (t u : TT) : TT := fun σ H Q => t σ H fun c H1 => if c = true then Q true H1 else u σ H1 Q
def tNot (t : TT) : TT := fun σ H Q => t σ H fun c H1 => Q (!c) H1
theorem pw_and1 (ha : PT X a tA) : PW X (.BoolOp .And [a] pos) tA := by
  intro wh pins s σ H Q I h
  refine isTrue_and (thn (ha pins s σ H Q I h) fun c s1 e => ?_)
  cases c with
  | true => exact isTrue_and_nil e
  | false => exact e
theorem pw_or1 (ha : PT X a tA) : PW X (.BoolOp .Or [a] pos) tA := by
  intro wh pins s σ H Q I h
  refine isTrue_or (thn (ha pins s σ H Q I h) fun c s1 e => ?_)
  cases c with
  | false => exact isTrue_or_nil e
  | true => exact e
theorem pw_and (ha : PT X a tA) (hb : PW X (.BoolOp .And (b :: rest) pos) tB') : PW X (.BoolOp .And (a :: b :: rest) pos) (tAnd tA tB') := by
  intro wh pins s σ H Q I h
  refine isTrue_and (thn (ha pins s σ H _ I h) fun c s1 ⟨H1, I1, q1⟩ => ?_)
  cases c with
  | true => exact hb wh pins s1 σ H1 Q I1 q1
  | false => exact ⟨H1, I1, q1⟩
theorem pw_or (ha : PT X a tA) (hb : PW X (.BoolOp .Or (b :: rest) pos) tB') : PW X (.BoolOp .Or (a :: b :: rest) pos) (tOr tA tB') := by
  intro wh pins s σ H Q I h
  refine isTrue_or (thn (ha pins s σ H _ I h) fun c s1 ⟨H1, I1, q1⟩ => ?_)
  cases c with
  | true => exact ⟨H1, I1, q1⟩
  | false => exact hb wh pins s1 σ H1 Q I1 q1
theorem pt_not (ha : PT X a tA) : PT X (.UnaryOp .Not a pos) (tNot tA) := by
  intro pins s σ H Q I h
  exact isTrue_not (ha pins s σ H (fun c H1 => Q (!c) H1) I h)
/-- .. as values (bools) -/
def tAndV (ta tb : TE) : TE := fun σ H Q => ta σ H fun x H1 => ∃ c, x = .bl c ∧ if c = true then tb σ H1 Q else Q (.bl false) H1
def tOrV (ta tb : TE) : TE := fun σ H Q => ta σ H fun x H1 => ∃ c, x = .bl c ∧ if c = true then Q (.bl true) H1 else tb σ H1 Q
def tNotV (ta : TE) : TE := fun σ H Q => ta σ H fun x H1 => ∃ c, x = .bl c ∧ Q (.bl (!c)) H1
theorem pe_one {op} {t : TE} (h : PE X a t) : PE X (.BoolOp op [a] pos) t := fun pins s σ H Q I hw => BoolOp_one (h pins s σ H Q I hw)
theorem pe_and (ha : PE X a ta) (hb : PE X (.BoolOp .And (b :: rest) pos) tb) : PE X (.BoolOp .And (a :: b :: rest) pos) (tAndV ta tb) := by
  intro pins s σ H Q I h
  refine BoolOp_and (thn (ha pins s σ H _ I h) fun v s1 ⟨x, H1, I1, r1, q1⟩ => ?_)
  obtain ⟨c, rfl, q1⟩ := q1
  cases r1
  refine wpAny_truthy_bool ?_
  cases c with
  | true => exact hb pins s1 σ H1 Q I1 q1
  | false => exact ⟨.bl false, H1, I1, rfl, q1⟩
theorem pe_or (ha : PE X a ta) (hb : PE X (.BoolOp .Or (b :: rest) pos) tb) : PE X (.BoolOp .Or (a :: b :: rest) pos) (tOrV ta tb) := by
  intro pins s σ H Q I h
  refine BoolOp_or (thn (ha pins s σ H _ I h) fun v s1 ⟨x, H1, I1, r1, q1⟩ => ?_)
  obtain ⟨c, rfl, q1⟩ := q1
  cases r1
  refine wpAny_truthy_bool ?_
  cases c with
  | false => exact hb pins s1 σ H1 Q I1 q1
  | true => exact ⟨.bl true, H1, I1, rfl, q1⟩
theorem pe_not (ha : PE X a ta) : PE X (.UnaryOp .Not a pos) (tNotV ta) := by
  intro pins s σ H Q I h
  refine UnaryOp_ (thn (ha pins s σ H _ I h) fun v s1 ⟨x, H1, I1, r1, q1⟩ => ?_)
  obtain ⟨c, rfl, q1⟩ := q1
  cases r1
  exact not_of (wpAny_truthy_bool ⟨.bl (!c), H1, I1, rfl, q1⟩)
/-- a if t else b -/
def tIf (t : TT) (ta tb : TE) : TE := fun σ H Q => t σ H fun c H1 => if c = true then ta σ H1 Q else tb σ H1 Q
theorem pe_ifExp {c : Expr} (hc : PT X c tA) (ha : PE X a ta) (hb : PE X b tb) : PE X (.IfExp c a b pos) (tIf tA ta tb) := by
  intro pins s σ H Q I h
  refine wpAny_IfExp (thn (hc pins s σ H _ I h) fun d s1 ⟨H1, I1, q1⟩ => ?_)
  cases d with
  | true => exact ha pins s1 σ H1 Q I1 q1
  | false => exact hb pins s1 σ H1 Q I1 q1
end
end L2

namespace L2
open PySem PySem.Spec PyProof.Rows

/-! ### a list, a tuple that is read: tracked, frozen, or an object of the module -/
def SqL (K : PySem.W.Frag) (H : Hp) (a : Addr) (xs : List V) : Prop :=
  Rd H a (.lst xs) ∨
    ∃ (o : Obj) (its : Array Value) (n : Nat), K.lookup a = some o ∧ o.cls = .type "list" ∧ o.dict = none ∧ o.data = .seq its n ∧ its.size ≤ sizeLine ∧ Vals xs its.toList
def SqT (K : PySem.W.Frag) (H : Hp) (a : Addr) (xs : List V) : Prop :=
  Rd H a (.tup xs) ∨
    ∃ (o : Obj) (its : Array Value) (n : Nat), K.lookup a = some o ∧ o.cls = .type "tuple" ∧ o.data = .seq its n ∧ its.size ≤ sizeLine ∧ Vals xs its.toList
def absV : Value → Option V
  | .none => some .non
  | .bool b => some (.bl b)
  | .int i _ => some (.int i)
  | .str x _ => some (.str x)
  | .bytes b _ => some (.byt b)
  | .float b _ => some (.flt b)
  | .ref a => some (.ref a)
  | .type n => some (.ty n)
  | _ => none
theorem RelV.abs {x : V} {u : Value} (r : RelV x u) : absV u = some x := by
  cases x with
  | non => cases r; rfl
  | bl _ => cases r; rfl
  | int _ => obtain ⟨t, rfl⟩ := r; rfl
  | str _ => obtain ⟨t, rfl⟩ := r; rfl
  | byt _ => obtain ⟨t, rfl⟩ := r; rfl
  | flt _ => obtain ⟨t, rfl⟩ := r; rfl
  | ref _ => cases r; rfl
  | ty _ => cases r; rfl
theorem RelV.inj {x y : V} {u : Value} (r : RelV x u) (q : RelV y u) : x = y := Option.some.inj (r.abs.symm.trans q.abs)
theorem Vals.inj : ∀ {xs ys : List V} {us : List Value}, Vals xs us → Vals ys us → xs = ys
  | _, _, _, .nil, .nil => rfl
  | _, _, _, .cons r t, .cons r' t' => by rw [r.inj r', Vals.inj t t']
section
variable {X : Cx} {pins : List (Addr × Obj)} {σ : St} {H : Hp} {s : Shared} {a : Addr} {xs ys : List V}
theorem SqL.of {K : PySem.W.Frag} (h : H a = some (.lst xs)) : SqL K H a xs := .inl (.inl h)
theorem SqT.of {K : PySem.W.Frag} (h : H a = some (.tup xs)) : SqT K H a xs := .inl (.inl h)
theorem Inv.list (I : Inv X pins σ H s) (h : SqL X.K H a xs) : ∃ its : List Value, Vals xs its ∧ PlainL s.heap a its.toArray ∧ xs.length ≤ sizeLine := by
  rcases h with h | ⟨o, its, n, hk, hc, hd, hs, hz, r⟩
  · obtain ⟨z, its, n, r, e⟩ := h.ok I.hok
    exact ⟨its, r, ⟨_, n, e, rfl, rfl, rfl⟩, z⟩
  · refine ⟨its.toList, r, ⟨o, n, I.kIn a o hk, hc, hd, by simpa using hs⟩, ?_⟩
    have e := r.length
    simp only [Array.length_toList] at e
    omega
theorem Inv.tuple (I : Inv X pins σ H s) (h : SqT X.K H a xs) : ∃ its : List Value, Vals xs its ∧ IsTup s.heap a its.toArray ∧ xs.length ≤ sizeLine := by
  rcases h with h | ⟨o, its, n, hk, hc, hs, hz, r⟩
  · obtain ⟨z, its, r, p⟩ := h.ok I.hok
    exact ⟨its, r, p, z⟩
  · refine ⟨its.toList, r, ⟨o, I.kIn a o hk, hc, n, by simpa using hs⟩, ?_⟩
    have e := r.length
    simp only [Array.length_toList] at e
    omega
theorem Inv.list_inj (I : Inv X pins σ H s) (h : SqL X.K H a xs) (h' : SqL X.K H a ys) : xs = ys := by
  obtain ⟨its, r, ⟨o, n, e, _, _, d⟩, _⟩ := I.list h
  obtain ⟨its', r', ⟨o', n', e', _, _, d'⟩, _⟩ := I.list h'
  rw [e] at e'; cases e'
  rw [d] at d'
  injection d' with d1 _
  have : its = its' := by simpa using congrArg Array.toList d1
  subst this
  exact r.inj r'
theorem Inv.tuple_inj (I : Inv X pins σ H s) (h : SqT X.K H a xs) (h' : SqT X.K H a ys) : xs = ys := by
  obtain ⟨its, r, ⟨o, e, _, n, d⟩, _⟩ := I.tuple h
  obtain ⟨its', r', ⟨o', e', _, n', d'⟩, _⟩ := I.tuple h'
  rw [e] at e'; cases e'
  rw [d] at d'
  injection d' with d1 _
  have : its = its' := by simpa using congrArg Array.toList d1
  subst this
  exact r.inj r'
end

/-! ### another wish about exceptions -/
abbrev Cx.wish (X : Cx) (E : Value → Shared → Prop) : Cx := { X with xe := E }
/-- no exception leaves -/
abbrev Cx.nox (X : Cx) : Cx := X.wish fun _ _ => False
theorem Cx.Ok.wish {X : Cx} (ok : X.Ok) (E : Value → Shared → Prop) : (X.wish E).Ok :=
  ⟨ok.mod, ok.kind, ok.glob, ok.blt, ok.above, ok.inj, ok.has, ok.cab, ok.hd, ok.frames, ok.stk, ok.exf, ok.bs, ok.bsz, ok.noex, ok.exfs, ok.funs, ok.frf⟩
theorem Cx.Ok.unwish {X : Cx} {E : Value → Shared → Prop} (ok : (X.wish E).Ok) : X.Ok :=
  ⟨ok.mod, ok.kind, ok.glob, ok.blt, ok.above, ok.inj, ok.has, ok.cab, ok.hd, ok.frames, ok.stk, ok.exf, ok.bs, ok.bsz, ok.noex, ok.exfs, ok.funs, ok.frf⟩
section
variable {X : Cx} {pins : List (Addr × Obj)} {σ : St} {H : Hp} {s : Shared} {E : Value → Shared → Prop}
theorem Inv.wish (I : Inv X pins σ H s) (E : Value → Shared → Prop) : Inv (X.wish E) pins σ H s := ⟨I.ok.wish E, I.os, I.bare, I.base, I.loc, I.cell, I.free, I.freeC, I.pin, I.hok, I.len⟩
theorem Inv.unwish (I : Inv (X.wish E) pins σ H s) : Inv X pins σ H s := ⟨I.ok.unwish, I.os, I.bare, I.base, I.loc, I.cell, I.free, I.freeC, I.pin, I.hok, I.len⟩
theorem SP.unwish {D : Ends} {f : Flow} {s' : Shared} (h : SP (X.wish E) pins D f s') : SP X pins D f s' := by
  cases f with
  | next => obtain ⟨σ', H', I, q⟩ := h; exact ⟨σ', H', I.unwish, q⟩
  | brk => obtain ⟨σ', H', I, q⟩ := h; exact ⟨σ', H', I.unwish, q⟩
  | cont => obtain ⟨σ', H', I, q⟩ := h; exact ⟨σ', H', I.unwish, q⟩
  | ret u => obtain ⟨v, σ', H', I, r, q⟩ := h; exact ⟨v, σ', H', I.unwish, r, q⟩
theorem PE.nox {e : Expr} {t : TE} (h : PE X.nox e t) : PE X e t := fun pins s σ H Q I hw =>
  wpAny_mono (h pins s σ H Q (I.wish _) hw) (fun _ _ ⟨v, H', I', r, q⟩ => ⟨v, H', I'.unwish, r, q⟩) fun _ _ z => False.elim z
theorem PT.nox {e : Expr} {t : TT} (h : PT X.nox e t) : PT X e t := fun pins s σ H Q I hw =>
  wpAny_mono (h pins s σ H Q (I.wish _) hw) (fun _ _ ⟨H', I', q⟩ => ⟨H', I'.unwish, q⟩) fun _ _ z => False.elim z
theorem PSs.nox {st : List Stmt} {t : TS} (h : PSs X.nox st t) : PSs X st t := fun pins s σ H D I hw =>
  wpAny_mono (h pins s σ H D (I.wish _) hw) (fun _ _ q => q.unwish) fun _ _ z => False.elim z
end

/-! ### blocks and small statements -/
section
variable {X : Cx} {st : Stmt} {rest : List Stmt} {t u : TS} {e : Expr} {te : TE} {pos : Pos}
def tNext : TS := fun D σ H => D.nx σ H
def tSeq (t u : TS) : TS := fun D σ H => t { D with nx := u D } σ H
theorem pss_nil : PSs X [] tNext := fun _ _ σ H _ I h => wpAny_execs_nil ⟨σ, H, I, h⟩
theorem pss_cons (h1 : PS X st t) (h2 : PSs X rest u) : PSs X (st :: rest) (tSeq t u) := by
  intro pins s σ H D I h
  refine wpAny_execs_cons (thn (h1 pins s σ H { D with nx := u D } I h) fun f s1 q => ?_)
  cases f with
  | next =>
    obtain ⟨σ', H', I', q⟩ := q
    exact h2 pins s1 σ' H' D I' q
  | ret v => exact q
  | brk => exact q
  | cont => exact q
theorem pss_one (h1 : PS X st t) : PSs X [st] t := by
  intro pins s σ H D I h
  refine wpAny_execs_cons (thn (h1 pins s σ H D I h) fun f s1 q => ?_)
  cases f with
  | next => exact wpAny_execs_nil q
  | ret v => exact q
  | brk => exact q
  | cont => exact q
def tBreak : TS := fun D σ H => D.bk σ H
def tCont : TS := fun D σ H => D.ct σ H
theorem ps_pass : PS X (.Pass pos) tNext := fun _ _ σ H _ I h => wpAny_Pass ⟨σ, H, I, h⟩
theorem ps_break : PS X (.Break pos) tBreak := fun _ _ σ H _ I h => wpAny_Break ⟨σ, H, I, h⟩
theorem ps_continue : PS X (.Continue pos) tCont := fun _ _ σ H _ I h => wpAny_Continue ⟨σ, H, I, h⟩
/-- in a def's body nothing is shown -/
theorem Inv.quiet {pins : List (Addr × Obj)} {σ : St} {H : Hp} {s : Shared} (I : Inv X pins σ H s) : interactive X.env = false := by simp [interactive, I.ok.kind]
/-- a docstring -/
theorem ps_doc {x j pos pos'} : PS X (.Expr (.Constant (.str x) j pos) pos') tNext := fun _ s σ H _ I h => wpAny_Expr (Calls.Constant_str (show SP X _ _ .next { s with toks := s.toks + 1 } from ⟨σ, H, I.tok _, h⟩)) I.quiet
/-- an expression whose value is dropped -/
def tDrop (te : TE) : TS := fun D σ H => te σ H fun _ H1 => D.nx σ H1
theorem ps_expr (he : PE X e te) (hs : swapsWith e none pos.line X.env = pure false := by rfl) : PS X (.Expr e pos) (tDrop te) := by
  intro pins s σ H D I h
  exact wpAny_Expr_any (thn (he pins s σ H _ I h) fun v s1 ⟨x, H1, I1, r1, q1⟩ => ⟨σ, H1, I1, q1⟩) I.quiet hs
def tRet (te : TE) : TS := fun D σ H => te σ H D.rt
theorem ps_ret (he : PE X e te) : PS X (.Return (some e) pos) (tRet te) := by
  intro pins s σ H D I h
  exact wpAny_Return_some (thn (he pins s σ H _ I h) fun v s1 ⟨x, H1, I1, r1, q1⟩ => ⟨x, σ, H1, I1, r1, q1⟩)
def tRetN : TS := fun D _ H => D.rt .non H
theorem ps_retN : PS X (.Return none pos) tRetN := fun _ _ σ H _ I h => wpAny_Return_none ⟨.non, σ, H, I, rfl, h⟩
def tIfS (c : TT) (t u : TS) : TS := fun D σ H => c σ H fun b H1 => if b = true then t D σ H1 else u D σ H1
theorem ps_if {c : Expr} {a b : List Stmt} {tc : TT} (hc : PT X c tc) (ha : PSs X a t) (hb : PSs X b u) : PS X (.If c a b pos) (tIfS tc t u) := by
  intro pins s σ H D I h
  refine wpAny_If (thn (hc pins s σ H _ I h) fun d s1 ⟨H1, I1, q1⟩ => ?_)
  cases d with
  | true => exact ha pins s1 σ H1 D I1 q1
  | false => exact hb pins s1 σ H1 D I1 q1
/-- code that the proof never comes to -/
def tNever : TS := fun _ _ _ => False
theorem ps_never : PS X st tNever := fun _ _ _ _ _ _ h => h.elim
theorem pss_never {sts : List Stmt} : PSs X sts tNever := fun _ _ _ _ _ _ h => h.elim
end

/-! ### targets -/
abbrev TG := V → St → Hp → (St → Hp → Prop) → Prop
abbrev TGs := List V → St → Hp → (St → Hp → Prop) → Prop
def PG (X : Cx) (target : Expr) (t : TG) : Prop :=
  ∀ (pins : List (Addr × Obj)) (s : Shared) (σ : St) (H : Hp) (v : V) (u : Value) (Q : St → Hp → Prop), Inv X pins σ H s → RelV v u → t v σ H Q →
    wpAny (model X.prog X.w) X.A (assign target X.env u) (fun _ s' => ∃ σ' H', Inv X pins σ' H' s' ∧ Q σ' H') X.xe s
/-- several targets, one after another -/
def PGs (X : Cx) (ts : List Expr) (t : TGs) : Prop :=
  ∀ (pins : List (Addr × Obj)) (s : Shared) (σ : St) (H : Hp) (vs : List V) (us : List Value) (Q : St → Hp → Prop), Inv X pins σ H s → Vals vs us → t vs σ H Q →
    wpAny (model X.prog X.w) X.A (assignInOrder ((assignEach ts X.env).map (·.2)) us) (fun _ s' => ∃ σ' H', Inv X pins σ' H' s' ∧ Q σ' H') X.xe s
/-- o[i] = v, by values -/
abbrev TSet := V → V → V → Hp → (Hp → Prop) → Prop
def PSet (X : Cx) (t : TSet) : Prop :=
  ∀ (pins : List (Addr × Obj)) (s : Shared) (σ : St) (H : Hp) (o i v : V) (ov iv u : Value) (Q : Hp → Prop), Inv X pins σ H s → RelV o ov → RelV i iv → RelV v u → t o i v H Q →
    wpAny (model X.prog X.w) X.A (setItem ov iv u) (fun _ s' => ∃ H', Inv X pins σ H' s' ∧ Q H') X.xe s
/-- a op= b, by values -/
abbrev TIp := V → V → Hp → VK → Prop
def PIp (X : Cx) (op : Operator) (t : TIp) : Prop :=
  ∀ (pins : List (Addr × Obj)) (s : Shared) (σ : St) (H : Hp) (x y : V) (v u : Value) (Q : VK), Inv X pins σ H s → RelV x v → RelV y u → t x y H Q →
    wpAny (model X.prog X.w) X.A (inplaceOp op v u) (EP X pins σ Q) X.xe s
section
variable {X : Cx} {pos : Pos}
def gName (i : Nat) : TG := fun v σ H Q => Q (σ.set i (some v)) H
theorem pg_name {i : Nat} {x : Str} (hN : X.N.Nodup) (hi : X.N[i]? = some x) (hx : Loc X.env.scope x) (hf : X.fn x = true ∨ X.env.scope.names.lookup x = some .local := by first | exact .inl rfl | exact .inr rfl | assumption) : PG X (.Name x pos) (gName i) := by
  intro pins s σ H v u Q I r h
  exact wpAny_assign_Name (store_ok I hN hi hx r (fun s' I' => ⟨_, H, I', h⟩) hf)
def gNil : TGs := fun vs σ H Q => vs = [] ∧ Q σ H
def gCons (t : TG) (u : TGs) : TGs := fun vs σ H Q => ∃ v r, vs = v :: r ∧ t v σ H fun σ' H' => u r σ' H' Q
theorem pgs_nil : PGs X [] gNil := by
  intro pins s σ H vs us Q I r h
  obtain ⟨e, h⟩ := h
  subst e
  cases r
  exact assignInOrder_nil ⟨σ, H, I, h⟩
theorem pgs_cons {e : Expr} {es : List Expr} {t : TG} {u : TGs} (h1 : PG X e t) (h2 : PGs X es u)
    (hs : (assignEach (e :: es) X.env).map (·.2) = assign e X.env :: (assignEach es X.env).map (·.2) := by rfl) : PGs X (e :: es) (gCons t u) := by
  intro pins s σ H vs us Q I r h
  obtain ⟨v, vr, e1, h⟩ := h
  subst e1
  cases r with
  | cons r rr =>
    rw [hs]
    refine assignInOrder_cons (thn (h1 pins s σ H _ _ _ I r h) fun _ s1 ⟨σ1, H1, I1, q1⟩ => ?_)
    exact h2 pins s1 σ1 H1 _ _ Q I1 rr q1
/-- (a, b, ..) = a tuple of that length -/
def gTup (K : PySem.W.Frag) (n : Nat) (t : TGs) : TG := fun v σ H Q => ∃ a xs, v = .ref a ∧ SqT K H a xs ∧ xs.length = n ∧ t xs σ H Q
theorem pg_tup {es : List Expr} {k : Nat} {t : TGs} {n : Nat} (hc : X.calm = true) (h : PGs X es t)
    (hn : (assignEach es X.env).length = n := by rfl) (hst : (assignEach es X.env).findIdx? (·.1) = none := by rfl) : PG X (.Tuple es k pos) (gTup X.K n t) := by
  intro pins s σ H v u Q I r hw
  obtain ⟨a, xs, e1, hq, hl, hw⟩ := hw
  subst e1
  cases r
  obtain ⟨its, rv, ht, hz⟩ := I.tuple hq
  refine assign_Tuple_tuple (I.ok.hd hc) ht (by simp [hn, ← hl, rv.length]) hst fun h' hx => ?_
  have I1 : Inv X pins σ H { s with heap := h' } := I.kept (t' := s.toks) fun b o e => hx b o (Nat.ne_of_lt (Heap.lt_size e)) e
  exact h pins _ σ H xs _ Q I1 (by simpa using rv) hw
/-- o[i] = .. -/
def gSub (to ti : TE) (t : TSet) : TG := fun v σ H Q => to σ H fun o H1 => ti σ H1 fun i H2 => t o i v H2 fun H3 => Q σ H3
theorem pg_sub {o i : Expr} {to ti : TE} {t : TSet} (ho : PE X o to) (hi : PE X i ti) (hs : PSet X t)
    (ha : ∀ v, assign (.Subscript o i pos) X.env v = (do
      let ov ← holding [v] (eval o X.env)
      let iv ← holding [v, ov] (eval i X.env)
      standAt pos
      holding [v, ov, iv] (setItem ov iv v)
      release [v, ov, iv] []) := by intro _; rfl) : PG X (.Subscript o i pos) (gSub to ti t) := by
  intro pins s σ H v u Q I r h
  rw [ha]
  refine wpAny_bind (wpAny_holding (thn (ho pins s σ H _ I h) fun ov s1 ⟨x, H1, I1, r1, q1⟩ => ?_))
  refine wpAny_bind (wpAny_holding (thn (hi pins s1 σ H1 _ I1 q1) fun iv s2 ⟨y, H2, I2, r2, q2⟩ => ?_))
  refine wpAny_bind (wpAny_standAt (wpAny_bind (wpAny_holding (thn (hs pins s2 σ H2 x y v ov iv u _ I2 r1 r2 r q2) fun _ s3 ⟨H3, I3, q3⟩ => ?_))))
  exact wpAny_release ⟨σ, H3, I3, q3⟩
/-- target = value -/
def tAsg (te : TE) (g : TG) : TS := fun D σ H => te σ H fun x H1 => g x σ H1 D.nx
theorem ps_asg {tg e : Expr} {te : TE} {g : TG} (he : PE X e te) (hg : PG X tg g) (hs : swapsWithSole [tg] e pos.line X.env = pure false := by rfl) (hw : swappedStores [tg] e X.env = pure none := by rfl)
    (h1 : (assignEach [tg] X.env).map (·.2) = [assign tg X.env] := by rfl) : PS X (.Assign [tg] e pos) (tAsg te g) := by
  intro pins s σ H D I h
  refine wpAny_Assign_stores (thn (he pins s σ H _ I h) fun v s1 ⟨x, H1, I1, r1, q1⟩ => ?_) hs hw
  rw [h1]
  exact thn (hg pins s1 σ H1 x v _ I1 r1 q1) fun _ s2 q => q
/-- name = value -/
theorem ps_set {i : Nat} {x : Str} {e : Expr} {te : TE} {pos' : Pos} (hN : X.N.Nodup) (hi : X.N[i]? = some x) (hx : Loc X.env.scope x) (he : PE X e te) (hs : swapsWith e (some (.Name x pos')) pos.line X.env = pure false := by rfl) (hf : X.fn x = true ∨ X.env.scope.names.lookup x = some .local := by first | exact .inl rfl | exact .inr rfl | assumption) :
    PS X (.Assign [.Name x pos'] e pos) (tAsg te (gName i)) := by
  intro pins s σ H D I h
  refine wpAny_Assign_Name (thn (he pins s σ H _ I h) fun v s1 ⟨y, H1, I1, r1, q1⟩ => ?_) hs
  exact store_ok I1 hN hi hx r1 (fun s2 I2 => ⟨_, H1, I2, q1⟩) hf
/-- a, b = x, y with plain local names: stored from the right; the pair itself is not tracked (the opening rows as in PyProof/Rows/TupAssign.lean:23) -/
def tPar (i j : Nat) (ta : TA) : TS := fun D σ H => ta σ H fun vs H1 => ∃ v w, vs = [v, w] ∧ D.nx ((σ.set i (some v)).set j (some w)) H1
theorem ps_par {i j : Nat} {x y : Str} {a b : Expr} {ta : TA} {px py pt : Pos} {kt k2 pt2} (hc : X.calm = true) (hN : X.N.Nodup) (hi : X.N[i]? = some x) (hj : X.N[j]? = some y) (hij : i ≠ j)
    (hx : X.env.scope.names.lookup x = some .local) (hy : X.env.scope.names.lookup y = some .local) (ha : PA X [a, b] ta)
    (hw : swappedStores [.Tuple [.Name x px, .Name y py] kt pt] (.Tuple [a, b] k2 pt2) X.env = pure (some [x, y]))
    (hs : swapsWithSole [.Tuple [.Name x px, .Name y py] kt pt] (.Tuple [a, b] k2 pt2) pos.line X.env = pure false := by rfl) :
    PS X (.Assign [.Tuple [.Name x px, .Name y py] kt pt] (.Tuple [a, b] k2 pt2) pos) (tPar i j ta) := by
  intro pins s σ H D I h
  rw [exec_Assign_arm]
  refine wpAny_bind (wpAny_standAt ?_)
  rw [hs]
  refine wpAny_bind (wpAny_pure ?_)
  rw [if_neg (by decide)]
  refine wpAny_bind (Tuple_ (thn (ha _ pins s σ H _ I h) fun us s1 ⟨vs, H1, I1, r1, q1⟩ => ?_))
  obtain ⟨v, w, e1, q1⟩ := q1
  subst e1
  obtain ⟨u1, u2, rfl, rv, rw'⟩ : ∃ u1 u2, us = [u1, u2] ∧ RelV v u1 ∧ RelV w u2 := by
    cases r1 with
    | cons p q =>
      cases q with
      | cons p' q' =>
        cases q'
        exact ⟨_, _, rfl, p, p'⟩
  refine wpAny_newObj_type ?_ (by show 2 ≤ sizeLine; decide)
  have I2 : Inv X pins σ H1 { s1 with heap := s1.heap.push { cls := .type "tuple", data := .seq [u1, u2].toArray } } := I1.kept (t' := s1.toks) fun b o e => Heap.get?_push_of_some _ e
  rw [hw]
  refine wpAny_bind (wpAny_pure ?_)
  show wpAny (model X.prog X.w) X.A (do rule "assign.swapped-stores"; let items ← unpackItems (.ref s1.heap.objs.size) 2 none; assignInOrder [fun v => bindName X.env y v, fun v => bindName X.env x v] items.reverse; pure Flow.next) _ _ _
  refine wpAny_bind (wpAny_rule (wpAny_bind (unpackItems_tuple (items := #[u1, u2]) (I.ok.hd hc) (IsTup.new s1.heap _) fun h' hx' => ?_)))
  have I3 := I2.kept (h' := h') (t' := s1.toks) fun b o e => hx' b o (Nat.ne_of_lt (Heap.lt_size e)) e
  show wpAny _ _ (assignInOrder [fun v => bindName X.env y v, fun v => bindName X.env x v] [u2, u1] >>= fun _ => pure Flow.next) _ _ _
  refine wpAny_bind (assignInOrder_cons (wpAny_bindName (store_ok I3 hN hj (.inl hy) rw' (fun s2 I4 => ?_) (.inr hy))))
  refine assignInOrder_cons (wpAny_bindName (store_ok I4 hN hi (.inl hx) rv (fun s3 I5 => assignInOrder_nil (wpAny_pure ?_)) (.inr hx)))
  rw [List.set_comm _ _ (Ne.symm hij)] at I5
  exact ⟨_, H1, I5, q1⟩
/-- name op= e -/
def tAug (i : Nat) (te : TE) (ti : TIp) : TS := fun D σ H => ∃ x, σ[i]? = some (some x) ∧ te σ H fun y H1 => ti x y H1 fun z H2 => D.nx (σ.set i (some z)) H2
theorem ps_aug {i : Nat} {x : Str} {e : Expr} {te : TE} {op : Operator} {ti : TIp} {pos' : Pos} (hN : X.N.Nodup) (hi : X.N[i]? = some x) (hx : Loc X.env.scope x) (he : PE X e te) (ho : PIp X op ti) (hf : X.fn x = true ∨ X.env.scope.names.lookup x = some .local := by first | exact .inl rfl | exact .inr rfl | assumption) :
    PS X (.AugAssign (.Name x pos') op e pos) (tAug i te ti) := by
  intro pins s σ H D I h
  obtain ⟨v, e1, h⟩ := h
  obtain ⟨m, hn, hl⟩ := I.loc
  have vis : Vis X.env.scope x := by rcases hx with k | k; exact .inl k; exact .inr (.inl k)
  obtain ⟨u, r, l⟩ := hl i x v hi e1 vis
  refine wpAny_AugAssign_Name ?_
  have go : wpAny (model X.prog X.w) X.A (eval e X.env) (fun w s₂ => wpAny (model X.prog X.w) X.A (inplaceOp op u w) (fun r s₃ => wpAny (model X.prog X.w) X.A (storeName X.env x r) (fun _ => SP X pins D .next) X.xe s₃) X.xe s₂) X.xe s := by
    refine thn (he pins s σ H _ I h) fun w s1 ⟨y, H1, I1, r1, q1⟩ => ?_
    refine thn (ho pins s1 σ H1 v y u w _ I1 r r1 q1) fun z s2 ⟨zv, H2, I2, r2, q2⟩ => ?_
    exact store_ok I2 hN hi hx r2 (fun s3 I3 => ⟨_, H2, I3, q2⟩) hf
  rcases l with ⟨hk, hm⟩ | ⟨hk, c, hc, hcell⟩
  · exact wpAny_loadName_local I.ok.kind hk hn hm go
  · rcases hk with hk | hk
    · exact wpAny_loadName_cell I.ok.kind hk hc hcell go
    · rcases hx with k | k
      · have : X.env.scope.names.lookup x = some .free := hk
        rw [k] at this; cases this
      · have : X.env.scope.names.lookup x = some .free := hk
        rw [k] at this; cases this
/-- o[i] op= e -/
def tAugS (to ti te : TE) (tget : V → V → Hp → VK → Prop) (tip : TIp) (tset : TSet) : TS := fun D σ H => to σ H fun o H1 => ti σ H1 fun i H2 => tget o i H2 fun x H3 => te σ H3 fun y H4 => tip x y H4 fun z H5 => tset o i z H5 fun H6 => D.nx σ H6
/-- o[i], by values -/
def PGet (X : Cx) (t : V → V → Hp → VK → Prop) : Prop :=
  ∀ (pins : List (Addr × Obj)) (s : Shared) (σ : St) (H : Hp) (o i : V) (ov iv : Value) (Q : VK), Inv X pins σ H s → RelV o ov → RelV i iv → t o i H Q →
    wpAny (model X.prog X.w) X.A (getItem ov iv) (EP X pins σ Q) X.xe s
theorem ps_augS {o i e : Expr} {to ti te : TE} {tget : V → V → Hp → VK → Prop} {tip : TIp} {tset : TSet} {op : Operator} {tpos : Pos} (ho : PE X o to) (hi : PE X i ti) (hg : PGet X tget) (he : PE X e te) (hp : PIp X op tip) (hs : PSet X tset)
    (ha : ∀ ov iv new, augStore i ov iv new = (do holding [new, ov, iv] (setItem ov iv new); release [new, ov, iv] []; pure .next) := by intros; rfl) : PS X (.AugAssign (.Subscript o i tpos) op e pos) (tAugS to ti te tget tip tset) := by
  intro pins s σ H D I h
  refine wpAny_AugAssign_SubscriptAny (thn (ho pins s σ H _ I h) fun ov s1 ⟨x1, H1, I1, r1, q1⟩ => ?_) ha
  refine thn (hi pins s1 σ H1 _ I1 q1) fun iv s2 ⟨x2, H2, I2, r2, q2⟩ => ?_
  refine thn (hg pins s2 σ H2 x1 x2 ov iv _ I2 r1 r2 q2) fun old s3 ⟨x3, H3, I3, r3, q3⟩ => ?_
  refine thn (he pins s3 σ H3 _ I3 q3) fun v s4 ⟨x4, H4, I4, r4, q4⟩ => ?_
  refine thn (hp pins s4 σ H4 x3 x4 old v _ I4 r3 r4 q4) fun new s5 ⟨x5, H5, I5, r5, q5⟩ => ?_
  exact thn (hs pins s5 σ H5 x1 x2 x5 ov iv new _ I5 r1 r2 r5 q5) fun _ s6 ⟨H6, I6, q6⟩ => ⟨σ, H6, I6, q6⟩
/-- ints -/
def ipI (f : Int → Int → Int) : TIp := fun x y H Q => ∃ i j, x = .int i ∧ y = .int j ∧ Q (.int (f i j)) H
theorem ip_add : PIp X .Add (ipI fun i j => i + j) := by
  intro pins s σ H x y v u Q I r1 r2 h
  obtain ⟨i, j, e1, e2, q⟩ := h
  subst e1; subst e2
  obtain ⟨t, rfl⟩ := r1
  obtain ⟨t', rfl⟩ := r2
  exact iadd_int ⟨.int _, H, I.tok _, ⟨_, rfl⟩, q⟩
theorem ip_sub : PIp X .Sub (ipI fun i j => i - j) := by
  intro pins s σ H x y v u Q I r1 r2 h
  obtain ⟨i, j, e1, e2, q⟩ := h
  subst e1; subst e2
  obtain ⟨t, rfl⟩ := r1
  obtain ⟨t', rfl⟩ := r2
  exact isub_int ⟨.int _, H, I.tok _, ⟨_, rfl⟩, q⟩
end

/-! ### while -/
section
variable {X : Cx} {pos : Pos}
/-- the invariant W with its measure -/
def tWhile (c : TT) (tb : TS) : TS := fun D σ H => ∃ W : Nat → St → Hp → Prop, (∃ m, W m σ H) ∧ ∀ m σ H, W m σ H →
  c σ H fun b H1 => if b = true then ∃ N : St → Hp → Prop, (∀ σ' H', N σ' H' → ∃ m', m' < m ∧ W m' σ' H') ∧ tb { D with nx := N, ct := N, bk := D.nx } σ H1 else D.nx σ H1
theorem ps_while {c : Expr} {body : List Stmt} {tc : TT} {tb : TS} (hp : PassesOwn (model X.prog X.w) X.A X.env X.xe) (hc : PT X c tc) (hb : PSs X body tb) : PS X (.While c body [] pos) (tWhile tc tb) := by
  intro pins s σ H D I h
  obtain ⟨W, ⟨m0, w0⟩, turn⟩ := h
  refine wpAny_While (codeAny_whileLoop (fun n s' => ∃ σ' H', Inv X pins σ' H' s' ∧ W n σ' H') ?_ m0 ⟨σ, H, I, w0⟩)
  rintro n s1 ⟨σ1, H1, I1, w1⟩
  refine wpAny_passesOwn hp (thn (hc pins s1 σ1 H1 _ I1 (turn n σ1 H1 w1)) fun b s2 ⟨H2, I2, q2⟩ => ?_)
  cases b with
  | true =>
    obtain ⟨N, hN, q2⟩ := q2
    rw [if_pos rfl]
    refine wpAny_passesOwn hp (thn (hb pins s2 σ1 H2 _ I2 q2) fun f s3 q3 => ?_)
    cases f with
    | next =>
      obtain ⟨σ3, H3, I3, n3⟩ := q3
      obtain ⟨m', hm, w3⟩ := hN σ3 H3 n3
      exact ⟨m', hm, σ3, H3, I3, w3⟩
    | cont =>
      obtain ⟨σ3, H3, I3, n3⟩ := q3
      obtain ⟨m', hm, w3⟩ := hN σ3 H3 n3
      exact ⟨m', hm, σ3, H3, I3, w3⟩
    | brk => exact q3
    | ret v => exact q3
  | false =>
    rw [if_neg Bool.false_ne_true]
    exact wpAny_execs_nil ⟨σ1, H2, I2, q2⟩
end

/-! ### what a loop or a comprehension walks -/
/-- at turn i: it yields x (the heap may grow), or it stops -/
structure It where
  go : Nat → Hp → Prop
  yld : Nat → Hp → V → Hp → Prop
  stop : Nat → Hp → Prop
/-- the iterator's own objects may turn: they are not the frame's, not pinned, younger than the entry (or a comprehension's own) -/
def FpOk (X : Cx) (pins : List (Addr × Obj)) (H : Hp) (b : Addr) : Prop :=
  H b = none ∧ b ≠ X.env.locals ∧ b ∉ X.fs ∧ (b ∈ X.ex ∨ X.s₀.heap.objs.size ≤ b) ∧ (∀ x c, X.env.cells.lookup x = some c → c ≠ b) ∧ ∀ p ∈ X.pn ++ pins, p.1 ≠ b
theorem Inv.fpOk {X : Cx} {pins : List (Addr × Obj)} {σ : St} {H H' : Hp} {s : Shared} {b : Addr} (I : Inv X pins σ H s) (hb : s.heap.objs.size ≤ b) (hn : H' b = none) : FpOk X pins H' b := by
  refine ⟨hn, Nat.ne_of_gt (Nat.lt_of_lt_of_le I.lt hb), I.nofs hb, .inr (Nat.le_trans I.sz hb), fun x c e z => ?_, fun p hp z => ?_⟩
  · obtain ⟨v, q⟩ := I.cell x c e
    exact absurd (Nat.lt_of_lt_of_le q.lt (by rw [z]; exact hb)) (Nat.lt_irrefl _)
  · exact absurd (Nat.lt_of_lt_of_le (Heap.lt_size (I.pin p hp).1) (by rw [z]; exact hb)) (Nat.lt_irrefl _)
structure Turn (P : Program) (w : World) (K : PySem.W.Frag) (tg : Expr) (J : It) (fp : List Addr) (it : Addr) (tn : Nat → Heap → Prop) : Prop where
  mem : it ∈ fp
  obj : ∀ i h, tn i h → ∀ b ∈ fp, ∃ o, h.get? b = some o ∧ ∀ v, o.data ≠ .cell v
  keep : ∀ i h h', tn i h → (∀ b ∈ fp, ∀ o, h.get? b = some o → h'.get? b = some o) → tn i h'
  item : ∀ (X : Cx), X.prog = P → X.w = w → X.K = K → X.calm = true → ∀ (i : Nat) (pins : List (Addr × Obj)) (s : Shared) (σ : St) (H : Hp) (E : Value → Shared → Prop), Inv X pins σ H s → (∀ b ∈ fp, FpOk X pins H b) → tn i s.heap → J.go i H →
    wpAny (model P w) X.A (pyNext (.ref it)) (fun r s1 => ∃ u, r = some u ∧
      wpAny (model P w) X.A (letOwnedTupleGo tg (.ref it) u) (fun _ s2 => ∃ x H', Inv X pins σ H' s2 ∧ RelV x u ∧ J.yld i H x H' ∧ tn (i + 1) s2.heap ∧ ∀ b ∈ fp, H' b = none) E s1) E s
  done : ∀ (X : Cx), X.prog = P → X.w = w → X.K = K → X.calm = true → ∀ (i : Nat) (pins : List (Addr × Obj)) (s : Shared) (σ : St) (H : Hp) (E : Value → Shared → Prop), Inv X pins σ H s → (∀ b ∈ fp, FpOk X pins H b) → tn i s.heap → J.stop i H →
    wpAny (model P w) X.A (pyNext (.ref it)) (fun r s1 => r = none ∧ Inv X pins σ H s1) E s
  self : ∀ (A : Around) (i : Nat) (s : Shared) (Q : Value → Shared → Prop) (E : Value → Shared → Prop), tn i s.heap → Q (.ref it) s → wpAny (model P w) A (pyIter (.ref it)) Q E s
abbrev TI := St → Hp → (It → Hp → Prop) → Prop
/-- an iterator has come -/
def PIE (X : Cx) (pins : List (Addr × Obj)) (σ : St) (tg : Expr) (R : It → Hp → Prop) (itv : Value) (s2 : Shared) : Prop :=
  ∃ (it : Addr) (fp : List Addr) (tn : Nat → Heap → Prop) (J : It) (H' : Hp), itv = .ref it ∧ Inv X pins σ H' s2 ∧ Turn X.prog X.w X.K tg J fp it tn ∧ tn 0 s2.heap ∧ (∀ b ∈ fp, FpOk X pins H' b) ∧ R J H'
def PI (X : Cx) (tg iter : Expr) (wi : TI) : Prop :=
  ∀ (pins : List (Addr × Obj)) (s : Shared) (σ : St) (H : Hp) (R : It → Hp → Prop), Inv X pins σ H s → wi σ H R →
    wpAny (model X.prog X.w) X.A (eval iter X.env) (fun v s1 => wpAny (model X.prog X.w) X.A (pyIter v) (PIE X pins σ tg R) X.xe s1) X.xe s

/-- the step ahead of the store is nothing for an iterator that keeps no tuple -/
theorem go_of {M : Model} {A : Around} {E : Value → Shared → Prop} {s : Shared} {tg : Expr} {it : Addr} {u : Value} {o : Obj} {n : String} {vs : Array Value} {Q : Unit → Shared → Prop} (ho : s.heap.get? it = some o) (hc : o.cls = .type n) (hd : o.data = .fields vs)
    (hn : ["enumerate", "zip", "dict_itemiterator", "dict_reverseitemiterator", "odict_iterator", "itertools.zip_longest", "itertools.pairwise"].contains n = false) (hQ : Q () s) : wpAny M A (letOwnedTupleGo tg (.ref it) u) Q E s := by
  unfold letOwnedTupleGo
  cases tg <;> first
    | exact wpAny_pure hQ
    | (cases u <;> first
        | exact wpAny_pure hQ
        | (refine wpAny_bind (wpAny_load ho ?_)
           rw [hc, hd]
           show wpAny M A (if (["enumerate", "zip", "dict_itemiterator", "dict_reverseitemiterator", "odict_iterator", "itertools.zip_longest", "itertools.pairwise"].contains n && vs[0]? == some (rawInt _)) = true then _ else _) Q E s
           rw [if_neg (by intro h; rw [hn, Bool.false_and] at h; cases h)]
           exact wpAny_pure hQ))

/-- the list at a, as it stands at each turn (a loop may append to it) -/
def Itl (K : PySem.W.Frag) (a : Addr) : It :=
  ⟨fun i H => ∃ xs x, SqL K H a xs ∧ xs[i]? = some x, fun i H x H' => H' = H ∧ ∀ xs, SqL K H a xs → xs[i]? = some x, fun i H => ∃ xs, SqL K H a xs ∧ xs.length ≤ i⟩
def Itt (K : PySem.W.Frag) (a : Addr) : It :=
  ⟨fun i H => ∃ xs x, SqT K H a xs ∧ xs[i]? = some x, fun i H x H' => H' = H ∧ ∀ xs, SqT K H a xs → xs[i]? = some x, fun i H => ∃ xs, SqT K H a xs ∧ xs.length ≤ i⟩
/-- lo, lo + 1, .. (n of them) -/
def Itr (lo : Int) (n : Nat) : It := ⟨fun i _ => i < n, fun i H x H' => H' = H ∧ x = .int (lo + i), fun i _ => n ≤ i⟩
theorem turn_list {P : Program} {w : World} {K : PySem.W.Frag} {tg : Expr} (a it : Addr) : Turn P w K tg (Itl K a) [it] it (fun i h => h.IsListIter it a i) where
  mem := by simp
  obj := fun i h st b hb => by
    have e : b = it := by simpa using hb
    subst e
    obtain ⟨o, e, c, d⟩ := st
    exact ⟨o, e, fun v z => by rw [d] at z; cases z⟩
  keep := fun i h h' st k => st.at fun o e => k it (by simp) o e
  item := by
    intro X hP hw hK hc i pins s σ H E I hf st hg
    subst hP hw hK
    obtain ⟨xs, x, hq, hx⟩ := hg
    obtain ⟨its, rv, p, hz⟩ := I.list hq
    obtain ⟨u, hu, ru⟩ := rv.get hx
    obtain ⟨f0, f1, f2, f3, f4, f5⟩ := hf it (by simp)
    refine wpAny_pyNext_list_item st p.isList (x := u) (by simpa using hu) fun h' st' sb => ?_
    have I1 : Inv X pins σ H { s with heap := h' } := I.turned (t' := s.toks) (fun b o hb e => (sb.2 b hb).trans e) f0 f1 f3 f4 f5
    obtain ⟨o, e, c, d⟩ := id st'
    exact ⟨u, rfl, go_of (s := { s with heap := h' }) e c d (by decide) ⟨x, H, I1, ru, ⟨rfl, fun ys hy => by rw [I.list_inj hy hq]; exact hx⟩, st', fun b hb => (hf b hb).1⟩⟩
  done := by
    intro X hP hw hK hc i pins s σ H E I hf st hg
    subst hP hw hK
    obtain ⟨xs, hq, hx⟩ := hg
    obtain ⟨its, rv, p, hz⟩ := I.list hq
    obtain ⟨f0, f1, f2, f3, f4, f5⟩ := hf it (by simp)
    have hl := rv.length
    exact wpAny_pyNext_list_end (I.ok.hd hc) st p.isList (by simp; omega) fun h' eb => ⟨rfl, I.turned (t' := s.toks) (fun b o hb e => eb b o hb e) f0 f1 f3 f4 f5⟩
  self := fun _ _ _ _ _ st h => wpAny_pyIter_listiter st h
theorem turn_tuple {P : Program} {w : World} {K : PySem.W.Frag} {tg : Expr} (a it : Addr) : Turn P w K tg (Itt K a) [it] it (fun i h => h.IsTupleIter it a i) where
  mem := by simp
  obj := fun i h st b hb => by
    have e : b = it := by simpa using hb
    subst e
    obtain ⟨o, e, c, d⟩ := st
    exact ⟨o, e, fun v z => by rw [d] at z; cases z⟩
  keep := fun i h h' st k => st.at fun o e => k it (by simp) o e
  item := by
    intro X hP hw hK hc i pins s σ H E I hf st hg
    subst hP hw hK
    obtain ⟨xs, x, hq, hx⟩ := hg
    obtain ⟨its, rv, p, hz⟩ := I.tuple hq
    obtain ⟨u, hu, ru⟩ := rv.get hx
    obtain ⟨f0, f1, f2, f3, f4, f5⟩ := hf it (by simp)
    refine wpAny_pyNext_tuple_item st (show s.heap.IsTuple a its.toArray from p) (x := u) (by simpa using hu) fun h' st' sb => ?_
    have I1 : Inv X pins σ H { s with heap := h' } := I.turned (t' := s.toks) (fun b o hb e => (sb.2 b hb).trans e) f0 f1 f3 f4 f5
    obtain ⟨o, e, c, d⟩ := id st'
    exact ⟨u, rfl, go_of (s := { s with heap := h' }) e c d (by decide) ⟨x, H, I1, ru, ⟨rfl, fun ys hy => by rw [I.tuple_inj hy hq]; exact hx⟩, st', fun b hb => (hf b hb).1⟩⟩
  done := by
    intro X hP hw hK hc i pins s σ H E I hf st hg
    subst hP hw hK
    obtain ⟨xs, hq, hx⟩ := hg
    obtain ⟨its, rv, p, hz⟩ := I.tuple hq
    obtain ⟨f0, f1, f2, f3, f4, f5⟩ := hf it (by simp)
    have hl := rv.length
    exact wpAny_pyNext_tuple_end (I.ok.hd hc) st (show s.heap.IsTuple a its.toArray from p) (by simp; omega) fun h' eb => ⟨rfl, I.turned (t' := s.toks) (fun b o hb e => eb b o hb e) f0 f1 f3 f4 f5⟩
  self := fun _ _ _ _ _ st h => wpAny_pyIter_tupleiter st h
theorem turn_range {P : Program} {w : World} {K : PySem.W.Frag} {tg : Expr} (it : Addr) (lo : Int) (n : Nat) : Turn P w K tg (Itr lo n) [it] it (fun i h => IsRangeIter h it (lo + (i : Nat) * 1) ((n : Int) - (i : Nat)) 1) where
  mem := by simp
  obj := fun i h st b hb => by
    have e : b = it := by simpa using hb
    subst e
    exact ⟨_, st, fun v z => by
      have z' : Data.fields _ = Data.cell v := z
      cases z'⟩
  keep := fun i h h' st k => k it (by simp) _ st
  item := by
    intro X hP hw hK hc i pins s σ H E I hf st hg
    subst hP hw hK
    obtain ⟨f0, f1, f2, f3, f4, f5⟩ := hf it (by simp)
    have W := Walks.range (prog := X.prog) (w := X.w) (I.ok.hd hc) it lo 1 n
    refine W.item i s _ _ hg st fun v h' tk hv st' kk => ?_
    obtain ⟨t, rfl⟩ := hv
    have I1 : Inv X pins σ H { s with heap := h', toks := tk } := I.turned (fun b o hb e => kk b o (by simpa using hb) e) f0 f1 f3 f4 f5
    refine ⟨_, rfl, go_of (s := { s with heap := h', toks := tk }) (n := "range_iterator") st' rfl rfl (by decide) ⟨.int (lo + i), H, I1, ⟨t, ?_⟩, ⟨rfl, rfl⟩, st', fun b hb => (hf b hb).1⟩⟩
    rw [Int.mul_one]
  done := by
    intro X hP hw hK hc i pins s σ H E I hf st hg
    subst hP hw hK
    obtain ⟨f0, f1, f2, f3, f4, f5⟩ := hf it (by simp)
    exact wpAny_pyNext_range_end (I.ok.hd hc) st (by have : n ≤ i := hg; omega) fun h' eb => ⟨rfl, I.turned (t' := s.toks) (fun b o hb e => eb b o hb e) f0 f1 f3 f4 f5⟩
  self := fun _ _ _ _ _ st h => wpAny_pyIter_rangeiter st h
end L2

namespace L2
open PySem PySem.Spec PyProof.Rows
section
variable {X : Cx} {tg : Expr}
def iList (K : PySem.W.Frag) (tl : TE) : TI := fun σ H R => tl σ H fun x H1 => ∃ a, x = .ref a ∧ (∃ xs, SqL K H1 a xs) ∧ R (Itl K a) H1
def iTup (K : PySem.W.Frag) (tl : TE) : TI := fun σ H R => tl σ H fun x H1 => ∃ a, x = .ref a ∧ (∃ xs, SqT K H1 a xs) ∧ R (Itt K a) H1
theorem pi_list {l : Expr} {tl : TE} (hl : PE X l tl) : PI X tg l (iList X.K tl) := by
  intro pins s σ H R I h
  refine thn (hl pins s σ H _ I h) fun v s1 ⟨x, H1, I1, r1, q1⟩ => ?_
  obtain ⟨a, e, ⟨xs, hq⟩, q⟩ := q1
  subst e
  cases r1
  obtain ⟨its, rv, p, hz⟩ := I1.list hq
  refine wpAny_pyIter_list p.isList ?_
  refine ⟨s1.heap.objs.size, [s1.heap.objs.size], _, _, H1, rfl, I1.kept (t' := s1.toks) fun b o e => Heap.get?_push_of_some _ e, turn_list a _, ⟨_, Heap.get?_push_size _ rfl, rfl, rfl⟩, fun b hb => ?_, q⟩
  have e : b = s1.heap.objs.size := by simpa using hb
  subst e
  exact I1.fpOk (Nat.le_refl _) (I1.hok.fresh (Nat.le_refl _))
theorem pi_tup {l : Expr} {tl : TE} (hl : PE X l tl) : PI X tg l (iTup X.K tl) := by
  intro pins s σ H R I h
  refine thn (hl pins s σ H _ I h) fun v s1 ⟨x, H1, I1, r1, q1⟩ => ?_
  obtain ⟨a, e, ⟨xs, hq⟩, q⟩ := q1
  subst e
  cases r1
  obtain ⟨its, rv, p, hz⟩ := I1.tuple hq
  refine wpAny_pyIter_tuple (show s1.heap.IsTuple a its.toArray from p) ?_
  refine ⟨s1.heap.objs.size, [s1.heap.objs.size], _, _, H1, rfl, I1.kept (t' := s1.toks) fun b o e => Heap.get?_push_of_some _ e, turn_tuple a _, ⟨_, Heap.get?_push_size _ rfl, rfl, rfl⟩, fun b hb => ?_, q⟩
  have e : b = s1.heap.objs.size := by simpa using hb
  subst e
  exact I1.fpOk (Nat.le_refl _) (I1.hok.fresh (Nat.le_refl _))
/-- a range object just made, walked -/
theorem range_it {pins : List (Addr × Obj)} {σ : St} {H : Hp} {s : Shared} {R : It → Hp → Prop} {E : Value → Shared → Prop} {lo hi : Int} {t u v : Tok} {tk : Nat} (I : Inv X pins σ H s) (h1 : -(2 ^ 62) ≤ lo) (h2 : lo < 2 ^ 62) (h3 : -(2 ^ 62) ≤ hi) (h4 : hi < 2 ^ 62)
    (q : R (Itr lo (hi - lo).toNat) H) : wpAny (model X.prog X.w) X.A (pyIter (.ref s.heap.objs.size)) (PIE X pins σ tg R) E { s with heap := s.heap.push { cls := .type "range", data := .fields #[.int lo t, .int hi u, .int 1 v] }, toks := tk } := by
  refine wpAny_pyIter_range (IsRange.new ..) (small_one h1 h2 h3 h4) ?_
  have I1 : Inv X pins σ H { s with heap := s.heap.push { cls := .type "range", data := .fields #[.int lo t, .int hi u, .int 1 v] }, toks := tk } := I.kept fun b o e => Heap.get?_push_of_some _ e
  refine ⟨(s.heap.push { cls := .type "range", data := .fields #[.int lo t, .int hi u, .int 1 v] }).objs.size, [(s.heap.push { cls := .type "range", data := .fields #[.int lo t, .int hi u, .int 1 v] }).objs.size], _, _, H, rfl,
    I1.kept (t' := tk) fun b o e => Heap.get?_push_of_some _ e, turn_range _ lo (hi - lo).toNat, ?_, fun b hb => ?_, q⟩
  · have e1 : lo + ((0 : Nat) : Int) * 1 = lo := by simp
    have e2 : (((hi - lo).toNat : Nat) : Int) - ((0 : Nat) : Int) = Builtin.Range.rangeSize lo hi 1 := by rw [rangeSize_one]; split <;> omega
    show IsRangeIter _ _ (lo + ((0 : Nat) : Int) * 1) ((((hi - lo).toNat : Nat) : Int) - ((0 : Nat) : Int)) 1
    rw [e1, e2]
    exact Heap.get?_push_size _ rfl
  · have e : b = (s.heap.push { cls := .type "range", data := .fields #[.int lo t, .int hi u, .int 1 v] }).objs.size := by simpa using hb
    subst e
    exact I1.fpOk (Nat.le_refl _) (I1.hok.fresh (Nat.le_refl _))
def iRng1 (ta : TA) : TI := fun σ H R => ta σ H fun vs H1 => ∃ j : Int, vs = [.int j] ∧ -(2 ^ 62) ≤ j ∧ j < 2 ^ 62 ∧ R (Itr 0 j.toNat) H1
def iRng2 (ta : TA) : TI := fun σ H R => ta σ H fun vs H1 => ∃ i j : Int, vs = [.int i, .int j] ∧ (-(2 ^ 62) ≤ i ∧ i < 2 ^ 62 ∧ -(2 ^ 62) ≤ j ∧ j < 2 ^ 62) ∧ R (Itr i (j - i).toNat) H1
theorem pi_range1 {a : Expr} {ta : TA} {p pos : Pos} (hg : Gl X "range") (hm : X.mg "range" = none) (ha : PA X [a] ta) (hs : starEach [a] X.env = [(false, eval a X.env)] := by rfl) : PI X tg (.Call (.Name "range" p) [a] [] pos) (iRng1 ta) := by
  intro pins s σ H R I h
  refine Call_ (ld_blt I hg hm boot_range (PyProof.Rows.callWith_type1 (thn (ha pos pins s σ H _ I h) fun us s1 ⟨vs, H1, I1, r1, q1⟩ => ?_) hs rfl))
  obtain ⟨j, e, q1, q2, q⟩ := q1
  subst e
  cases r1 with
  | cons r rr =>
    cases rr
    obtain ⟨t, rfl⟩ := r
    exact call_range_1 (range_it I1 (by omega) (by omega) q1 q2 (by simpa using q))
theorem pi_range2 {a b : Expr} {ta : TA} {p pos : Pos} (hg : Gl X "range") (hm : X.mg "range" = none) (ha : PA X [a, b] ta) (hs : starEach [a, b] X.env = [(false, eval a X.env), (false, eval b X.env)] := by rfl) (hs2 : starEach [b] X.env = [(false, eval b X.env)] := by rfl) :
    PI X tg (.Call (.Name "range" p) [a, b] [] pos) (iRng2 ta) := by
  intro pins s σ H R I h
  refine Call_ (ld_blt I hg hm boot_range (PyProof.Rows.callWith_type1 (thn (ha pos pins s σ H _ I h) fun us s1 ⟨vs, H1, I1, r1, q1⟩ => ?_) (by rw [hs, hs2]) (by rw [hs2]; rfl)))
  obtain ⟨i, j, e, ⟨q1, q2, q3, q4⟩, q⟩ := q1
  subst e
  cases r1 with
  | cons r rr =>
    cases rr with
    | cons r' rr =>
      cases rr
      obtain ⟨t, rfl⟩ := r
      obtain ⟨t', rfl⟩ := r'
      exact call_range_2 (range_it I1 q1 q2 q3 q4 q)

/-! ### for -/
/-- W: the invariant by the turn and a measure; N: what the body is to reach -/
def tFor (wi : TI) (g : TG) (tb : TS) : TS := fun D σ H => wi σ H fun J H1 => ∃ W : Nat → Nat → St → Hp → Prop, (∃ m, W 0 m σ H1) ∧ ∀ i m σ H, W i m σ H →
  (J.stop i H ∧ D.nx σ H) ∨ (J.go i H ∧ ∃ N : St → Hp → Prop, (∀ σ' H', N σ' H' → ∃ m', m' < m ∧ W (i + 1) m' σ' H') ∧ ∀ x H', J.yld i H x H' → g x σ H' fun σ2 H2 => tb { D with nx := N, ct := N, bk := D.nx } σ2 H2)
/-- the records at fp as they stand -/
def pinsAt (fp : List Addr) (h : Heap) : List (Addr × Obj) := fp.filterMap fun b => (h.get? b).map fun o => (b, o)
theorem mem_pinsAt {fp : List Addr} {h : Heap} {b : Addr} {o : Obj} (hb : b ∈ fp) (e : h.get? b = some o) : (b, o) ∈ pinsAt fp h := List.mem_filterMap.mpr ⟨b, hb, by rw [e]; rfl⟩
theorem of_pinsAt {fp : List Addr} {h : Heap} {p : Addr × Obj} (hp : p ∈ pinsAt fp h) : p.1 ∈ fp ∧ h.get? p.1 = some p.2 := by
  obtain ⟨b, hb, e⟩ := List.mem_filterMap.mp hp
  cases q : h.get? b with
  | none => rw [q] at e; cases e
  | some o =>
    rw [q] at e
    have e' : (b, o) = p := Option.some.inj e
    subst e'
    exact ⟨hb, q⟩
theorem Inv.pinned {pins : List (Addr × Obj)} {σ : St} {H : Hp} {s : Shared} {fp : List Addr} (I : Inv X pins σ H s) (hf : ∀ b ∈ fp, FpOk X pins H b) (ho : ∀ b ∈ fp, ∃ o, s.heap.get? b = some o ∧ ∀ v, o.data ≠ .cell v) : Inv X (pins ++ pinsAt fp s.heap) σ H s :=
  I.pins_of fun p hp => (List.mem_append.mp hp).elim (fun z => I.pin p (List.mem_append_right _ z)) fun z => by
    obtain ⟨hb, e⟩ := of_pinsAt z
    obtain ⟨f0, f1, f2, _⟩ := hf p.1 hb
    obtain ⟨o, e', d⟩ := ho p.1 hb
    rw [e] at e'; cases e'
    exact ⟨e, f0, f1, f2, d⟩
theorem Inv.unpinned {pins pl : List (Addr × Obj)} {σ : St} {H : Hp} {s : Shared} (I : Inv X (pins ++ pl) σ H s) : Inv X pins σ H s := I.pins_of fun p hp => I.pin p (List.mem_append_right _ (List.mem_append_left _ hp))
theorem ps_for {iter : Expr} {body : List Stmt} {wi : TI} {g : TG} {tb : TS} {pos : Pos} (hp : PassesOwn (model X.prog X.w) X.A X.env X.xe) (hc : X.calm = true) (hi : PI X tg iter wi) (hg : PG X tg g) (hb : PSs X body tb)
    (hs : ∀ x, foldedSetIterable iter X.env x = pure x := by intro _; rfl) : PS X (.For tg iter body [] pos) (tFor wi g tb) := by
  intro pins s σ H D I h
  refine wpAny_For (thn (hi pins s σ H _ I h) fun v s1 h1 => thn h1 fun itv s2 h2 => ?_) hs
  obtain ⟨it, fp, tn, J, H2, e, I2, T, st2, f2, W, ⟨m0, w0⟩, turn⟩ := h2
  subst e
  -- what stays true of the iterator's objects through the loop
  have stat : ∀ {H' : Hp}, (∀ b ∈ fp, H' b = none) → ∀ b ∈ fp, FpOk X pins H' b := fun hn b hb => ⟨hn b hb, (f2 b hb).2⟩
  refine codeAny_forLoop_any (fun n s' => ∃ i σ' H', Inv X pins σ' H' s' ∧ tn i s'.heap ∧ (∀ b ∈ fp, H' b = none) ∧ W i n σ' H') ?_ m0 ⟨0, σ, H2, I2, st2, fun b hb => (f2 b hb).1, w0⟩
  rintro n s3 ⟨i, σ3, H3, I3, st3, fr3, w3⟩
  rcases turn i n σ3 H3 w3 with ⟨stop, qn⟩ | ⟨go, N, hN, step⟩
  · refine wpAny_passesOwn hp (thn (T.done X rfl rfl rfl hc i pins s3 σ3 H3 X.xe I3 (stat fr3) st3 stop) fun r s4 ⟨hr, I4⟩ => ?_)
    subst hr
    exact wpAny_execs_nil ⟨σ3, H3, I4, qn⟩
  · refine wpAny_passesOwn hp (thn (T.item X rfl rfl rfl hc i pins s3 σ3 H3 X.xe I3 (stat fr3) st3 go) fun r s4 ⟨u, hr, h4⟩ => ?_)
    subst hr
    refine wpAny_passesOwn hp (thn h4 fun _ s5 ⟨x, H5, I5, r5, y5, st5, fr5⟩ => ?_)
    have I5' := I5.pinned (stat fr5) (T.obj _ _ st5)
    refine wpAny_passesOwn hp (thn (hg _ s5 σ3 H5 x u _ I5' r5 (step x H5 y5)) fun _ s6 ⟨σ6, H6, I6, q6⟩ => ?_)
    refine wpAny_passesOwn hp (thn (hb _ s6 σ6 H6 _ I6 q6) fun f s7 q7 => ?_)
    have again : ∀ {σ7 : St} {H7 : Hp}, Inv X (pins ++ pinsAt fp s5.heap) σ7 H7 s7 → N σ7 H7 → ∃ m, m < n ∧ ∃ i σ' H', Inv X pins σ' H' s7 ∧ tn i s7.heap ∧ (∀ b ∈ fp, H' b = none) ∧ W i m σ' H' := fun {σ7 H7} I7 n7 => by
      obtain ⟨m', hm, w7⟩ := hN σ7 H7 n7
      refine ⟨m', hm, i + 1, σ7, H7, I7.unpinned, T.keep _ _ _ st5 fun b hb o e => (I7.pin (b, o) (List.mem_append_right _ (List.mem_append_right _ (mem_pinsAt hb e)))).1, fun b hb => ?_, w7⟩
      obtain ⟨o, e, d⟩ := T.obj _ _ st5 b hb
      exact (I7.pin (b, o) (List.mem_append_right _ (List.mem_append_right _ (mem_pinsAt hb e)))).2.1
    cases f with
    | next => obtain ⟨σ7, H7, I7, n7⟩ := q7; exact again I7 n7
    | cont => obtain ⟨σ7, H7, I7, n7⟩ := q7; exact again I7 n7
    | brk => obtain ⟨σ7, H7, I7, q7⟩ := q7; exact ⟨σ7, H7, I7.unpinned, q7⟩
    | ret v => obtain ⟨x7, σ7, H7, I7, r7, q7⟩ := q7; exact ⟨x7, σ7, H7, I7.unpinned, r7, q7⟩
end

/-! ### the forms one uses -/
/-- over a list that the body leaves as it is -/
theorem for_list {K : PySem.W.Frag} {a : Addr} {xs : List V} {g : TG} {tb : TS} {D : Ends} {σ : St} {H : Hp} (Pv : Nat → St → Hp → Prop) (h0 : Pv 0 σ H) (hl : ∀ i σ H, i ≤ xs.length → Pv i σ H → SqL K H a xs)
    (hs : ∀ i x σ H, xs[i]? = some x → Pv i σ H → g x σ H fun σ2 H2 => tb { D with nx := Pv (i + 1), ct := Pv (i + 1), bk := D.nx } σ2 H2) (hd : ∀ σ H, Pv xs.length σ H → D.nx σ H) :
    ∃ W : Nat → Nat → St → Hp → Prop, (∃ m, W 0 m σ H) ∧ ∀ i m σ H, W i m σ H →
      ((Itl K a).stop i H ∧ D.nx σ H) ∨ ((Itl K a).go i H ∧ ∃ N : St → Hp → Prop, (∀ σ' H', N σ' H' → ∃ m', m' < m ∧ W (i + 1) m' σ' H') ∧ ∀ x H', (Itl K a).yld i H x H' → g x σ H' fun σ2 H2 => tb { D with nx := N, ct := N, bk := D.nx } σ2 H2) := by
  refine ⟨fun i m σ H => m = xs.length - i ∧ i ≤ xs.length ∧ Pv i σ H, ⟨xs.length, by simp, Nat.zero_le _, h0⟩, ?_⟩
  rintro i m σ H ⟨rfl, hi, p⟩
  have q := hl i σ H hi p
  by_cases hlt : i < xs.length
  · refine .inr ⟨⟨xs, xs[i], q, by simp [hlt]⟩, Pv (i + 1), fun σ' H' p' => ⟨xs.length - (i + 1), by omega, rfl, hlt, p'⟩, fun x H' y => ?_⟩
    obtain ⟨e, y⟩ := y
    subst e
    exact hs i x σ _ (y xs q) p
  · have e : i = xs.length := by omega
    subst e
    exact .inl ⟨⟨xs, q, Nat.le_refl _⟩, hd σ H p⟩
theorem for_tup {K : PySem.W.Frag} {a : Addr} {xs : List V} {g : TG} {tb : TS} {D : Ends} {σ : St} {H : Hp} (Pv : Nat → St → Hp → Prop) (h0 : Pv 0 σ H) (hl : ∀ i σ H, i ≤ xs.length → Pv i σ H → SqT K H a xs)
    (hs : ∀ i x σ H, xs[i]? = some x → Pv i σ H → g x σ H fun σ2 H2 => tb { D with nx := Pv (i + 1), ct := Pv (i + 1), bk := D.nx } σ2 H2) (hd : ∀ σ H, Pv xs.length σ H → D.nx σ H) :
    ∃ W : Nat → Nat → St → Hp → Prop, (∃ m, W 0 m σ H) ∧ ∀ i m σ H, W i m σ H →
      ((Itt K a).stop i H ∧ D.nx σ H) ∨ ((Itt K a).go i H ∧ ∃ N : St → Hp → Prop, (∀ σ' H', N σ' H' → ∃ m', m' < m ∧ W (i + 1) m' σ' H') ∧ ∀ x H', (Itt K a).yld i H x H' → g x σ H' fun σ2 H2 => tb { D with nx := N, ct := N, bk := D.nx } σ2 H2) := by
  refine ⟨fun i m σ H => m = xs.length - i ∧ i ≤ xs.length ∧ Pv i σ H, ⟨xs.length, by simp, Nat.zero_le _, h0⟩, ?_⟩
  rintro i m σ H ⟨rfl, hi, p⟩
  have q := hl i σ H hi p
  by_cases hlt : i < xs.length
  · refine .inr ⟨⟨xs, xs[i], q, by simp [hlt]⟩, Pv (i + 1), fun σ' H' p' => ⟨xs.length - (i + 1), by omega, rfl, hlt, p'⟩, fun x H' y => ?_⟩
    obtain ⟨e, y⟩ := y
    subst e
    exact hs i x σ _ (y xs q) p
  · have e : i = xs.length := by omega
    subst e
    exact .inl ⟨⟨xs, q, Nat.le_refl _⟩, hd σ H p⟩
theorem for_range {lo : Int} {n : Nat} {g : TG} {tb : TS} {D : Ends} {σ : St} {H : Hp} (Pv : Nat → St → Hp → Prop) (h0 : Pv 0 σ H)
    (hs : ∀ i σ H, i < n → Pv i σ H → g (.int (lo + i)) σ H fun σ2 H2 => tb { D with nx := Pv (i + 1), ct := Pv (i + 1), bk := D.nx } σ2 H2) (hd : ∀ σ H, Pv n σ H → D.nx σ H) :
    ∃ W : Nat → Nat → St → Hp → Prop, (∃ m, W 0 m σ H) ∧ ∀ i m σ H, W i m σ H →
      ((Itr lo n).stop i H ∧ D.nx σ H) ∨ ((Itr lo n).go i H ∧ ∃ N : St → Hp → Prop, (∀ σ' H', N σ' H' → ∃ m', m' < m ∧ W (i + 1) m' σ' H') ∧ ∀ x H', (Itr lo n).yld i H x H' → g x σ H' fun σ2 H2 => tb { D with nx := N, ct := N, bk := D.nx } σ2 H2) := by
  refine ⟨fun i m σ H => m = n - i ∧ i ≤ n ∧ Pv i σ H, ⟨n, by simp, Nat.zero_le _, h0⟩, ?_⟩
  rintro i m σ H ⟨rfl, hi, p⟩
  by_cases hlt : i < n
  · refine .inr ⟨hlt, Pv (i + 1), fun σ' H' p' => ⟨n - (i + 1), by omega, rfl, hlt, p'⟩, fun x H' y => ?_⟩
    obtain ⟨e, y⟩ := y
    subst e y
    exact hs i σ _ hlt p
  · have e : i = n := by omega
    subst e
    exact .inl ⟨Nat.le_refl _, hd σ H p⟩
/-- while, by a word and a measure of the state -/
theorem while_by {c : TT} {tb : TS} {D : Ends} {σ : St} {H : Hp} (Pv : St → Hp → Prop) (μ : St → Hp → Nat) (h0 : Pv σ H)
    (hs : ∀ σ H, Pv σ H → c σ H fun b H1 => if b = true then tb { D with nx := fun σ' H' => Pv σ' H' ∧ μ σ' H' < μ σ H, ct := fun σ' H' => Pv σ' H' ∧ μ σ' H' < μ σ H, bk := D.nx } σ H1 else D.nx σ H1)
    (mono : ∀ σ H Q Q', (∀ b H1, Q b H1 → Q' b H1) → c σ H Q → c σ H Q') : tWhile c tb D σ H := by
  refine ⟨fun m σ H => m = μ σ H ∧ Pv σ H, ⟨_, rfl, h0⟩, ?_⟩
  rintro m σ H ⟨rfl, p⟩
  refine mono σ H _ _ (fun b H1 q => ?_) (hs σ H p)
  cases b with
  | true => exact ⟨_, fun σ' H' ⟨p', l⟩ => ⟨_, l, rfl, p'⟩, q⟩
  | false => exact q
end L2

namespace L2
open PySem PySem.Spec PyProof.Rows

abbrev R2 := V → V → Hp → VK → Prop
/-- a two-place operation on values: f is binaryOp op, inplaceOp op or compareOp op -/
def OpR (X : Cx) (f : Value → Value → Sem Value) (r : R2) : Prop :=
  ∀ (pins : List (Addr × Obj)) (s : Shared) (σ : St) (H : Hp) (x y : V) (v u : Value) (Q : VK), Inv X pins σ H s → RelV x v → RelV y u → r x y H Q →
    wpAny (model X.prog X.w) X.A (f v u) (EP X pins σ Q) X.xe s
/-- a one-place operation -/
def UnR (X : Cx) (f : Value → Sem Value) (r : V → Hp → VK → Prop) : Prop :=
  ∀ (pins : List (Addr × Obj)) (s : Shared) (σ : St) (H : Hp) (x : V) (v : Value) (Q : VK), Inv X pins σ H s → RelV x v → r x H Q →
    wpAny (model X.prog X.w) X.A (f v) (EP X pins σ Q) X.xe s
/-- a call of a value that is known (a builtin, a type) with values -/
def CallR (X : Cx) (f : Value) (r : List V → Hp → VK → Prop) : Prop :=
  ∀ (pins : List (Addr × Obj)) (s : Shared) (σ : St) (H : Hp) (xs : List V) (us : List Value) (Q : VK), Inv X pins σ H s → Vals xs us → r xs H Q →
    wpAny (model X.prog X.w) X.A (call f us) (EP X pins σ Q) X.xe s
/-- a value's truth -/
def TruR (X : Cx) (r : V → Hp → (Bool → Hp → Prop) → Prop) : Prop :=
  ∀ (pins : List (Addr × Obj)) (s : Shared) (σ : St) (H : Hp) (x : V) (v : Value) (Q : Bool → Hp → Prop), Inv X pins σ H s → RelV x v → r x H Q →
    wpAny (model X.prog X.w) X.A (truthy v) (TP X pins σ Q) X.xe s

def tOp (r : R2) (ta tb : TE) : TE := fun σ H Q => ta σ H fun x H1 => tb σ H1 fun y H2 => r x y H2 Q
def tUn (r : V → Hp → VK → Prop) (ta : TE) : TE := fun σ H Q => ta σ H fun x H1 => r x H1 Q
/-- ints in, under C, and a value out -/
def rI (C : Int → Int → Prop) (g : Int → Int → V) : R2 := fun x y H Q => ∃ i j, x = .int i ∧ y = .int j ∧ C i j ∧ Q (g i j) H
def rI0 (g : Int → Int → V) : R2 := fun x y H Q => ∃ i j, x = .int i ∧ y = .int j ∧ Q (g i j) H
def rU (g : Int → V) : V → Hp → VK → Prop := fun x H Q => ∃ i, x = .int i ∧ Q (g i) H

section
variable {X : Cx} {a b c : Expr} {ta tb tc : TE} {pos : Pos}

theorem binT (ha : PE X a ta) (hb : PE X b tb) {pins : List (Addr × Obj)} {s : Shared} {σ : St} {H : Hp} {R : V → V → Hp → Prop} (I : Inv X pins σ H s)
    (h : ta σ H fun x H1 => tb σ H1 fun y H2 => R x y H2) {Q : Value → Shared → Prop} {f : Value → Value → Sem Value}
    (hf : ∀ v u s2 x y H2, Inv X pins σ H2 s2 → RelV x v → RelV y u → R x y H2 → wpAny (model X.prog X.w) X.A (f v u) Q X.xe s2) :
    wpAny (model X.prog X.w) X.A (eval a X.env) (fun v s₁ => wpAny (model X.prog X.w) X.A (eval b X.env) (fun u s₂ => wpAny (model X.prog X.w) X.A (f v u) Q X.xe s₂) X.xe s₁) X.xe s := by
  refine thn (ha pins s σ H _ I h) fun v s1 ⟨x, H1, I1, r1, q1⟩ => ?_
  refine thn (hb pins s1 σ H1 _ I1 q1) fun u s2 ⟨y, H2, I2, r2, q2⟩ => ?_
  exact hf v u s2 x y H2 I2 r1 r2 q2

theorem pe_op {op : Operator} {r : R2} (ho : OpR X (binaryOp op) r) (ha : PE X a ta) (hb : PE X b tb) : PE X (.BinOp a op b pos) (tOp r ta tb) := by
  intro pins s σ H Q I h
  exact wpAny_BinOp (binT ha hb I h fun v u s2 x y H2 I2 rx ry q => ho pins s2 σ H2 x y v u Q I2 rx ry q)
theorem pe_un {op : UnaryOp} {r : V → Hp → VK → Prop} (ho : UnR X (unaryOp op) r) (ha : PE X a ta) : PE X (.UnaryOp op a pos) (tUn r ta) := by
  intro pins s σ H Q I h
  exact UnaryOp_ (thn (ha pins s σ H _ I h) fun v s1 ⟨x, H1, I1, r1, q1⟩ => ho pins s1 σ H1 x v Q I1 r1 q1)
/-- a op= e at a name: the name's slot i -/
theorem augR {op : Operator} {r : R2} (ho : OpR X (inplaceOp op) r) {pins : List (Addr × Obj)} {s : Shared} {σ : St} {H : Hp} {x y : V} {v u : Value} {Q : VK} (I : Inv X pins σ H s)
    (rx : RelV x v) (ry : RelV y u) (q : r x y H Q) : wpAny (model X.prog X.w) X.A (inplaceOp op v u) (EP X pins σ Q) X.xe s := ho pins s σ H x y v u Q I rx ry q

/-! ### ints -/
theorem opI {f : Value → Value → Sem Value} {C : Int → Int → Prop} {g : Int → Int → Int}
    (rule : ∀ (i j : Int) (t u : Tok) (s : Shared) (Q : Value → Shared → Prop) (E : Value → Shared → Prop), C i j → Q (.int (g i j) s.toks) { s with toks := s.toks + 1 } → wpAny (model X.prog X.w) X.A (f (.int i t) (.int j u)) Q E s) :
    OpR X f (rI C fun i j => .int (g i j)) := by
  intro pins s σ H x y v u Q I rx ry h
  obtain ⟨i, j, rfl, rfl, hc, q⟩ := h
  obtain ⟨t, rfl⟩ := rx
  obtain ⟨t', rfl⟩ := ry
  exact rule i j t t' s _ _ hc ⟨.int (g i j), H, I.tok _, ⟨_, rfl⟩, q⟩
theorem opI0 {f : Value → Value → Sem Value} {g : Int → Int → Int}
    (rule : ∀ (i j : Int) (t u : Tok) (s : Shared) (Q : Value → Shared → Prop) (E : Value → Shared → Prop), Q (.int (g i j) s.toks) { s with toks := s.toks + 1 } → wpAny (model X.prog X.w) X.A (f (.int i t) (.int j u)) Q E s) :
    OpR X f (rI0 fun i j => .int (g i j)) := by
  intro pins s σ H x y v u Q I rx ry h
  obtain ⟨i, j, rfl, rfl, q⟩ := h
  obtain ⟨t, rfl⟩ := rx
  obtain ⟨t', rfl⟩ := ry
  exact rule i j t t' s _ _ ⟨.int (g i j), H, I.tok _, ⟨_, rfl⟩, q⟩
theorem opB0 {f : Value → Value → Sem Value} {g : Int → Int → Bool}
    (rule : ∀ (i j : Int) (t u : Tok) (s : Shared) (Q : Value → Shared → Prop) (E : Value → Shared → Prop), Q (.bool (g i j)) s → wpAny (model X.prog X.w) X.A (f (.int i t) (.int j u)) Q E s) :
    OpR X f (rI0 fun i j => .bl (g i j)) := by
  intro pins s σ H x y v u Q I rx ry h
  obtain ⟨i, j, rfl, rfl, q⟩ := h
  obtain ⟨t, rfl⟩ := rx
  obtain ⟨t', rfl⟩ := ry
  exact rule i j t t' s _ _ ⟨.bl (g i j), H, I, rfl, q⟩

def CDiv (i j : Int) : Prop := 0 < j ∧ j < 1073741824
def CDivN (i j : Int) : Prop := j ≠ 0 ∧ j.natAbs < 1073741824
def CPow (i j : Int) : Prop := 0 ≤ j ∧ j ≤ 1000000 ∧ i.natAbs < 2 ^ 64
def CMul (i j : Int) : Prop := (-(2 ^ 64) < i ∧ i < 2 ^ 64) ∨ (-(2 ^ 64) < j ∧ j < 2 ^ 64)
theorem CMul.ok {i j : Int} (h : CMul i j) : IntMulOk i j := by
  rcases h with ⟨h1, h2⟩ | ⟨h1, h2⟩
  · exact .of_left (intBits_le_64 h1 h2)
  · exact .of_right (intBits_le_64 h1 h2)
theorem two_pow_nn (k : Nat) : (0 : Int) ≤ 2 ^ k := by
  rw [two_pow_cast]
  exact Int.natCast_nonneg _

theorem op_add : OpR X (binaryOp .Add) (rI0 fun i j => .int (i + j)) := opI0 fun _ _ _ _ _ _ _ q => add_int q
theorem op_sub : OpR X (binaryOp .Sub) (rI0 fun i j => .int (i - j)) := opI0 fun _ _ _ _ _ _ _ q => sub_int q
theorem op_mul : OpR X (binaryOp .Mult) (rI CMul fun i j => .int (i * j)) := opI fun _ _ _ _ _ _ _ hc q => mul_int q hc.ok
/-- // by a positive divisor -/
theorem op_fdiv : OpR X (binaryOp .FloorDiv) (rI CDiv fun i j => .int (i / j)) := opI fun i j _ _ _ _ _ hc q => by
  have h1 : (0 : Int) < j := hc.1
  have h2 : j < 1073741824 := hc.2
  exact floordiv_int (by omega) (by rw [Int.fdiv_eq_ediv_of_nonneg i (by omega)]; exact q) (.inl (PyProof.noPylong_small (by omega)))
theorem op_fdivN : OpR X (binaryOp .FloorDiv) (rI CDivN fun i j => .int (i.fdiv j)) := opI fun _ _ _ _ _ _ _ hc q => floordiv_int hc.1 q (.inl (PyProof.noPylong_small hc.2))
/-- % by a positive divisor of any size -/
theorem op_mod : OpR X (binaryOp .Mod) (rI (fun _ j => 0 < j) fun i j => .int (i % j)) := opI fun i j _ _ _ _ _ hc q => by
  have h1 : (0 : Int) < j := hc
  exact mod_int' (by omega) (by rw [Int.fmod_eq_emod_of_nonneg i (by omega)]; exact q)
theorem op_modN : OpR X (binaryOp .Mod) (rI (fun _ j => j ≠ 0) fun i j => .int (i.fmod j)) := opI fun _ _ _ _ _ _ _ hc q => mod_int' hc q
theorem op_pow : OpR X (binaryOp .Pow) (rI CPow fun i j => .int (i ^ j.toNat)) := opI fun _ _ _ _ _ _ _ hc q => pow_int_small hc.1 hc.2.1 hc.2.2 q
theorem op_shl : OpR X (binaryOp .LShift) (rI CPow fun i j => .int (i * 2 ^ j.toNat)) := opI fun _ _ _ _ _ _ _ hc q => lshift_int_small hc.1 hc.2.1 hc.2.2 q
theorem op_shr : OpR X (binaryOp .RShift) (rI (fun _ j => 0 ≤ j) fun i j => .int (i / 2 ^ j.toNat)) := opI fun i j _ _ _ _ _ hc q =>
  rshift_int hc (by rw [Int.fdiv_eq_ediv_of_nonneg i (two_pow_nn _)]; exact q)
theorem op_and : OpR X (binaryOp .BitAnd) (rI0 fun i j => .int (Builtin.bitAnd i j)) := opI0 fun _ _ _ _ _ _ _ q => and_int q
theorem op_or : OpR X (binaryOp .BitOr) (rI0 fun i j => .int (Builtin.bitOr i j)) := opI0 fun _ _ _ _ _ _ _ q => or_int q
theorem op_xor : OpR X (binaryOp .BitXor) (rI0 fun i j => .int (Builtin.bitXor i j)) := opI0 fun _ _ _ _ _ _ _ q => xor_int q

theorem iop_add : OpR X (inplaceOp .Add) (rI0 fun i j => .int (i + j)) := opI0 fun _ _ _ _ _ _ _ q => iadd_int q
theorem iop_sub : OpR X (inplaceOp .Sub) (rI0 fun i j => .int (i - j)) := opI0 fun _ _ _ _ _ _ _ q => isub_int q
theorem iop_mul : OpR X (inplaceOp .Mult) (rI CMul fun i j => .int (i * j)) := opI fun _ _ _ _ _ _ _ hc q => imul_int q hc.ok
theorem iop_fdiv : OpR X (inplaceOp .FloorDiv) (rI CDiv fun i j => .int (i / j)) := opI fun i j _ _ _ _ _ hc q => by
  have h1 : (0 : Int) < j := hc.1
  have h2 : j < 1073741824 := hc.2
  exact ifloordiv_int (by omega) (by rw [Int.fdiv_eq_ediv_of_nonneg i (by omega)]; exact q) (.inl (PyProof.noPylong_small (by omega)))
theorem iop_mod : OpR X (inplaceOp .Mod) (rI (fun _ j => 0 < j) fun i j => .int (i % j)) := opI fun i j _ _ _ _ _ hc q => by
  have h1 : (0 : Int) < j := hc
  exact imod_int (by omega) (by rw [Int.fmod_eq_emod_of_nonneg i (by omega)]; exact q)
theorem iop_shl : OpR X (inplaceOp .LShift) (rI CPow fun i j => .int (i * 2 ^ j.toNat)) := opI fun _ _ _ _ _ _ _ hc q => ilshift_int_small hc.1 hc.2.1 hc.2.2 q
theorem iop_shr : OpR X (inplaceOp .RShift) (rI (fun _ j => 0 ≤ j) fun i j => .int (i / 2 ^ j.toNat)) := opI fun i j _ _ _ _ _ hc q =>
  irshift_int hc (by rw [Int.fdiv_eq_ediv_of_nonneg i (two_pow_nn _)]; exact q)
theorem iop_and : OpR X (inplaceOp .BitAnd) (rI0 fun i j => .int (Builtin.bitAnd i j)) := opI0 fun _ _ _ _ _ _ _ q => iand_int q
theorem iop_or : OpR X (inplaceOp .BitOr) (rI0 fun i j => .int (Builtin.bitOr i j)) := opI0 fun _ _ _ _ _ _ _ q => ior_int q
theorem iop_xor : OpR X (inplaceOp .BitXor) (rI0 fun i j => .int (Builtin.bitXor i j)) := opI0 fun _ _ _ _ _ _ _ q => ixor_int q

theorem unI {f : Value → Sem Value} {g : Int → Int}
    (rule : ∀ (i : Int) (t : Tok) (s : Shared) (Q : Value → Shared → Prop) (E : Value → Shared → Prop), Q (.int (g i) s.toks) { s with toks := s.toks + 1 } → wpAny (model X.prog X.w) X.A (f (.int i t)) Q E s) :
    UnR X f (rU fun i => .int (g i)) := by
  intro pins s σ H x v Q I rx h
  obtain ⟨i, rfl, q⟩ := h
  obtain ⟨t, rfl⟩ := rx
  exact rule i t s _ _ ⟨.int (g i), H, I.tok _, ⟨_, rfl⟩, q⟩
theorem un_neg : UnR X (unaryOp .USub) (rU fun i => .int (-i)) := unI fun _ _ _ _ _ q => neg_int q
theorem un_inv : UnR X (unaryOp .Invert) (rU fun i => .int (Builtin.bitNot i)) := unI fun _ _ _ _ _ q => invert_int q

/-! ### bools among ints: n += (a < b) -/
theorem op_add_ib : OpR X (binaryOp .Add) (fun x y H Q => ∃ i k, x = .int i ∧ y = .bl k ∧ Q (.int (i + b2i k)) H) := by
  intro pins s σ H x y v u Q I rx ry h
  obtain ⟨i, k, rfl, rfl, q⟩ := h
  obtain ⟨t, rfl⟩ := rx
  cases ry
  exact add_int_bool ⟨.int (i + b2i k), H, I.tok _, ⟨_, rfl⟩, q⟩
end

/-! ### comparisons -/
/-- the scalars that == tells apart as data does -/
def scal : V → V → Bool
  | .non, .non => true | .non, .int _ => true | .int _, .non => true | .non, .bl _ => true | .bl _, .non => true | .non, .str _ => true | .str _, .non => true
  | .int _, .int _ => true | .bl _, .bl _ => true | .str _, .str _ => true | .byt _, .byt _ => true
  | .int _, .str _ => true | .str _, .int _ => true | .bl _, .str _ => true | .str _, .bl _ => true
  | _, _ => false
def rEq : R2 := fun x y H Q => scal x y = true ∧ Q (.bl (decide (x = y))) H
def rNe : R2 := fun x y H Q => scal x y = true ∧ Q (.bl (!decide (x = y))) H

theorem dec_int {i j : Int} : decide (V.int i = V.int j) = (i == j) := by
  rw [Bool.eq_iff_iff]
  simp
theorem dec_bl {i j : Bool} : decide (V.bl i = V.bl j) = (i == j) := by
  rw [Bool.eq_iff_iff]
  simp
theorem dec_str {i j : Str} : decide (V.str i = V.str j) = (i == j) := by
  rw [Bool.eq_iff_iff]
  simp
theorem dec_byt {i j : Array UInt8} : decide (V.byt i = V.byt j) = (i.toList == j.toList) := by
  rw [Bool.eq_iff_iff]
  cases i
  cases j
  simp

section
variable {X : Cx} {a b c : Expr} {ta tb tc : TE} {pos : Pos}
theorem fin_bl {pins : List (Addr × Obj)} {σ : St} {H : Hp} {s : Shared} {Q : VK} {k k' : Bool} (I : Inv X pins σ H s) (q : Q (.bl k) H) (e : k = k') : EP X pins σ Q (.bool k') s := by
  subst e
  exact ⟨.bl k, H, I, rfl, q⟩
theorem op_eq : OpR X (compareOp .Eq) rEq := by
  intro pins s σ H x y v u Q I rx ry h
  obtain ⟨hs, q⟩ := h
  cases x with
  | non =>
    cases rx
    cases y with
    | non => cases ry; exact PySem.EqNone.eq_none_none (fin_bl I q (by simp))
    | bl j => cases ry; exact PySem.EqNone.eq_none_bool (fin_bl I q (by simp))
    | int j => obtain ⟨t', rfl⟩ := ry; exact PySem.EqNone.eq_none_int (fin_bl I q (by simp))
    | str j => obtain ⟨t', rfl⟩ := ry; exact PySem.EqNone.eq_none_str (fin_bl I q (by simp))
    | _ => exact absurd (show false = true from hs) Bool.false_ne_true
  | bl i =>
    cases rx
    cases y with
    | non => cases ry; exact PySem.EqNone.eq_bool_none (fin_bl I q (by simp))
    | bl j => cases ry; exact eq_bool (fin_bl I q dec_bl)
    | str j => obtain ⟨t', rfl⟩ := ry; exact PySem.EqMixed.eq_bool_str (fin_bl I q (by simp))
    | _ => exact absurd (show false = true from hs) Bool.false_ne_true
  | int i =>
    obtain ⟨t, rfl⟩ := rx
    cases y with
    | non => cases ry; exact PySem.EqNone.eq_int_none (fin_bl I q (by simp))
    | int j => obtain ⟨t', rfl⟩ := ry; exact eq_int (fin_bl I q dec_int)
    | str j => obtain ⟨t', rfl⟩ := ry; exact PySem.EqMixed.eq_int_str (fin_bl I q (by simp))
    | _ => exact absurd (show false = true from hs) Bool.false_ne_true
  | str i =>
    obtain ⟨t, rfl⟩ := rx
    cases y with
    | non => cases ry; exact PySem.EqNone.eq_str_none (fin_bl I q (by simp))
    | bl j => cases ry; exact PySem.EqMixed.eq_str_bool (fin_bl I q (by simp))
    | int j => obtain ⟨t', rfl⟩ := ry; exact PySem.EqMixed.eq_str_int (fin_bl I q (by simp))
    | str j => obtain ⟨t', rfl⟩ := ry; exact eq_str (fin_bl I q dec_str)
    | _ => exact absurd (show false = true from hs) Bool.false_ne_true
  | byt i =>
    obtain ⟨t, rfl⟩ := rx
    cases y with
    | byt j => obtain ⟨t', rfl⟩ := ry; exact PySem.W.eq_bytes (fin_bl I q dec_byt)
    | _ => exact absurd (show false = true from hs) Bool.false_ne_true
  | _ => cases y <;> exact absurd (show false = true from hs) Bool.false_ne_true
theorem op_ne : OpR X (compareOp .NotEq) rNe := by
  intro pins s σ H x y v u Q I rx ry h
  obtain ⟨hs, q⟩ := h
  cases x with
  | non =>
    cases rx
    cases y with
    | non => cases ry; exact PySem.EqNone.ne_none_none (fin_bl I q (by simp))
    | bl j => cases ry; exact PySem.EqNone.ne_none_bool (fin_bl I q (by simp))
    | int j => obtain ⟨t', rfl⟩ := ry; exact PySem.EqNone.ne_none_int (fin_bl I q (by simp))
    | str j => obtain ⟨t', rfl⟩ := ry; exact PySem.EqNone.ne_none_str (fin_bl I q (by simp))
    | _ => exact absurd (show false = true from hs) Bool.false_ne_true
  | bl i =>
    cases rx
    cases y with
    | non => cases ry; exact PySem.EqNone.ne_bool_none (fin_bl I q (by simp))
    | bl j => cases ry; exact ne_bool (fin_bl I q (congrArg not dec_bl))
    | str j => obtain ⟨t', rfl⟩ := ry; exact PySem.EqMixed.ne_bool_str (fin_bl I q (by simp))
    | _ => exact absurd (show false = true from hs) Bool.false_ne_true
  | int i =>
    obtain ⟨t, rfl⟩ := rx
    cases y with
    | non => cases ry; exact PySem.EqNone.ne_int_none (fin_bl I q (by simp))
    | int j => obtain ⟨t', rfl⟩ := ry; exact ne_int (fin_bl I q (congrArg not dec_int))
    | str j => obtain ⟨t', rfl⟩ := ry; exact PySem.EqMixed.ne_int_str (fin_bl I q (by simp))
    | _ => exact absurd (show false = true from hs) Bool.false_ne_true
  | str i =>
    obtain ⟨t, rfl⟩ := rx
    cases y with
    | non => cases ry; exact PySem.EqNone.ne_str_none (fin_bl I q (by simp))
    | bl j => cases ry; exact PySem.EqMixed.ne_str_bool (fin_bl I q (by simp))
    | int j => obtain ⟨t', rfl⟩ := ry; exact PySem.EqMixed.ne_str_int (fin_bl I q (by simp))
    | str j => obtain ⟨t', rfl⟩ := ry; exact ne_str (fin_bl I q (congrArg not dec_str))
    | _ => exact absurd (show false = true from hs) Bool.false_ne_true
  | byt i =>
    obtain ⟨t, rfl⟩ := rx
    cases y with
    | byt j => obtain ⟨t', rfl⟩ := ry; exact PySem.W.ne_bytes (fin_bl I q (congrArg not dec_byt))
    | _ => exact absurd (show false = true from hs) Bool.false_ne_true
  | _ => cases y <;> exact absurd (show false = true from hs) Bool.false_ne_true

theorem op_lt : OpR X (compareOp .Lt) (rI0 fun i j => .bl (decide (i < j))) := opB0 fun _ _ _ _ _ _ _ q => lt_int q
theorem op_le : OpR X (compareOp .LtE) (rI0 fun i j => .bl (decide (i ≤ j))) := opB0 fun _ _ _ _ _ _ _ q => le_int q
theorem op_gt : OpR X (compareOp .Gt) (rI0 fun i j => .bl (decide (j < i))) := opB0 fun _ _ _ _ _ _ _ q => gt_int q
theorem op_ge : OpR X (compareOp .GtE) (rI0 fun i j => .bl (decide (j ≤ i))) := opB0 fun _ _ _ _ _ _ _ q => ge_int q
theorem op_lt_str : OpR X (compareOp .Lt) (fun x y H Q => ∃ i j, x = .str i ∧ y = .str j ∧ Q (.bl (decide (i.cps.toList < j.cps.toList))) H) := by
  intro pins s σ H x y v u Q I rx ry h
  obtain ⟨i, j, rfl, rfl, q⟩ := h
  obtain ⟨t, rfl⟩ := rx
  obtain ⟨t', rfl⟩ := ry
  exact lt_str (fin_bl I q rfl)
/-- the one string within the other -/
theorem op_in_str : OpR X (compareOp .In) (fun x y H Q => ∃ i j, x = .str i ∧ y = .str j ∧ Q (.bl (!(Builtin.Str.occurrences j i 0 j.length 1).isEmpty)) H) := by
  intro pins s σ H x y v u Q I rx ry h
  obtain ⟨i, j, rfl, rfl, q⟩ := h
  obtain ⟨t, rfl⟩ := rx
  obtain ⟨t', rfl⟩ := ry
  exact in_str (fin_bl I q rfl)

/-- is None, is not None: the right side a value none -/
theorem op_isN : OpR X (compareOp .Is) (fun x y H Q => y = .non ∧ Q (.bl (decide (x = .non))) H) := by
  intro pins s σ H x y v u Q I rx ry h
  obtain ⟨rfl, q⟩ := h
  cases ry
  refine is_none_gen (fin_bl I q ?_)
  cases x <;> first
    | (cases rx; rfl)
    | (obtain ⟨t, rfl⟩ := rx; rfl)
theorem op_notN : OpR X (compareOp .IsNot) (fun x y H Q => y = .non ∧ Q (.bl (!decide (x = .non))) H) := by
  intro pins s σ H x y v u Q I rx ry h
  obtain ⟨rfl, q⟩ := h
  cases ry
  refine isnot_none_gen (fin_bl I q ?_)
  cases x <;> first
    | (cases rx; rfl)
    | (obtain ⟨t, rfl⟩ := rx; rfl)

theorem op_notin_str : OpR X (compareOp .NotIn) (fun x y H Q => ∃ i j, x = .str i ∧ y = .str j ∧ Q (.bl (!(!(Builtin.Str.occurrences j i 0 j.length 1).isEmpty))) H) := by
  intro pins s σ H x y v u Q I rx ry h
  obtain ⟨i, j, rfl, rfl, q⟩ := h
  obtain ⟨t, rfl⟩ := rx
  obtain ⟨t', rfl⟩ := ry
  exact notIn_str (fin_bl I q rfl)
/-- is, is not of two objects that are tracked lists or instances -/
def isObj : HO → Bool
  | .lst _ => true
  | .ins _ _ _ => true
  | _ => false
theorem obj_there {pins : List (Addr × Obj)} {s : Shared} {σ : St} {H : Hp} {a : Addr} {o : HO} (I : Inv X pins σ H s) (h : H a = some o) (p : isObj o = true) : ∃ ob, s.heap.get? a = some ob ∧ ob.cls ≠ .type "tuple" := by
  cases o with
  | lst xs =>
    obtain ⟨_, its, n, _, e⟩ : xs.length ≤ sizeLine ∧ ∃ (its : List Value) (n : Nat), Vals xs its ∧ s.heap.get? a = some { cls := .type "list", data := .seq its.toArray n } := I.hok a _ h
    exact ⟨_, e, (by show Value.type "list" ≠ .type "tuple"; decide +kernel)⟩
  | ins C dx fs =>
    have x := I.hok a _ h
    obtain ⟨_, _, _, e, _⟩ := x
    exact ⟨_, e, (by show Value.ref C ≠ .type "tuple"; exact fun z => by cases z)⟩
  | _ => exact absurd (show false = true from p) Bool.false_ne_true
theorem op_is_ref : OpR X (compareOp .Is) (fun x y H Q => ∃ a b oa ob, x = .ref a ∧ y = .ref b ∧ H a = some oa ∧ isObj oa = true ∧ H b = some ob ∧ isObj ob = true ∧ Q (.bl (decide (a = b))) H) := by
  intro pins s σ H x y v u Q I rx ry h
  obtain ⟨a, b, oa, ob, rfl, rfl, ha, pa, hb, pb, q⟩ := h
  cases rx
  cases ry
  obtain ⟨o1, e1, n1⟩ := obj_there I ha pa
  obtain ⟨o2, e2, _⟩ := obj_there I hb pb
  by_cases z : a = b
  · subst z
    exact wpAny_is_ref_self (fin_bl I q (by simp))
  · exact wpAny_is_ref_other z e1 e2 n1 (fin_bl I q (by simp [z]))
theorem op_isnot_ref : OpR X (compareOp .IsNot) (fun x y H Q => ∃ a b oa ob, x = .ref a ∧ y = .ref b ∧ H a = some oa ∧ isObj oa = true ∧ H b = some ob ∧ isObj ob = true ∧ Q (.bl (!decide (a = b))) H) := by
  intro pins s σ H x y v u Q I rx ry h
  obtain ⟨a, b, oa, ob, rfl, rfl, ha, pa, hb, pb, q⟩ := h
  cases rx
  cases ry
  obtain ⟨o1, e1, n1⟩ := obj_there I ha pa
  obtain ⟨o2, e2, _⟩ := obj_there I hb pb
  by_cases z : a = b
  · subst z
    exact wpAny_isNot_ref_self (fin_bl I q (by simp))
  · exact wpAny_isNot_ref_other z e1 e2 n1 (fin_bl I q (by simp [z]))

/-- two rules for one operation: by cases -/
theorem OpR.or {f : Value → Value → Sem Value} {r r' : R2} (h : OpR X f r) (h' : OpR X f r') : OpR X f (fun x y H Q => r x y H Q ∨ r' x y H Q) := by
  intro pins s σ H x y v u Q I rx ry q
  rcases q with q | q
  · exact h pins s σ H x y v u Q I rx ry q
  · exact h' pins s σ H x y v u Q I rx ry q

theorem nomark (b : Expr) {op : CmpOp} (h : op ≠ .In := by decide) (h2 : op ≠ .NotIn := by decide) : behindInMarks op b = false := by
  have e1 : (op == CmpOp.In) = false := by cases op <;> first | rfl | exact absurd rfl h
  have e2 : (op == CmpOp.NotIn) = false := by cases op <;> first | rfl | exact absurd rfl h2
  cases b <;> simp [behindInMarks, e1, e2]
/-- a comparison as a value; hm: nomark b, or (for in, not in) by with_unfolding_all rfl -/
theorem pe_cmpR {op : CmpOp} {r : R2} (ho : OpR X (compareOp op) r) (ha : PE X a ta) (hb : PE X b tb) (hm : behindInMarks op b = false) : PE X (.Compare a [op] [b] pos) (tOp r ta tb) := by
  intro pins s σ H Q I h
  exact wpAny_Compare1 (binT ha hb I h fun v u s2 x y H2 I2 rx ry q => ho pins s2 σ H2 x y v u Q I2 rx ry q) hm
/-- a reading of a value as a test -/
def tTest (t : TE) : TT := fun σ H Q => t σ H fun x H' => ∃ k, x = .bl k ∧ Q k H'
theorem pt_cmpR {op : CmpOp} {r : R2} (ho : OpR X (compareOp op) r) (ha : PE X a ta) (hb : PE X b tb) (hm : behindInMarks op b = false) : PT X (.Compare a [op] [b] pos) (tTest (tOp r ta tb)) := by
  intro pins s σ H Q I h
  refine wpAny_isTrue_Compare1 (thn (ha pins s σ H _ I h) fun v s1 ⟨x, H1, I1, r1, q1⟩ => thn (hb pins s1 σ H1 _ I1 q1) fun u s2 ⟨y, H2, I2, r2, q2⟩ =>
    thn (ho pins s2 σ H2 x y v u _ I2 r1 r2 q2) fun c s3 ⟨z, H3, I3, r3, k, e, q3⟩ => ?_) hm
  subst e
  cases r3
  exact wpAny_truthy_bool ⟨H3, I3, q3⟩
/-- a op1 b op2 c -/
def tChain (r r' : R2) (ta tb tc : TE) : TE := fun σ H Q => ta σ H fun x H1 => tb σ H1 fun y H2 => r x y H2 fun z H3 => ∃ k, z = .bl k ∧
  (if k = true then tc σ H3 fun w' H4 => r' y w' H4 Q else Q (.bl false) H3)
theorem pe_chain {op op' : CmpOp} {r r' : R2} (ho : OpR X (compareOp op) r) (ho' : OpR X (compareOp op') r') (ha : PE X a ta) (hb : PE X b tb) (hc : PE X c tc)
    (hm : lastMarks [op, op'] [b, c] = false := by with_unfolding_all rfl) : PE X (.Compare a [op, op'] [b, c] pos) (tChain r r' ta tb tc) := by
  intro pins s σ H Q I h
  refine Compare_chain (thn (ha pins s σ H _ I h) fun v s1 ⟨x, H1, I1, r1, q1⟩ => chain_link (thn (hb pins s1 σ H1 _ I1 q1) fun u s2 ⟨y, H2, I2, r2, q2⟩ =>
    thn (ho pins s2 σ H2 x y v u _ I2 r1 r2 q2) fun d s3 ⟨z, H3, I3, r3, k, e, q3⟩ => ?_)) hm
  subst e
  cases r3
  refine wpAny_truthy_bool ?_
  cases k with
  | false => exact ite_ff ⟨.bl false, H3, I3, rfl, q3⟩
  | true => exact ite_tt (chain_last (thn (hc pins s3 σ H3 _ I3 q3) fun w' s4 ⟨z', H4, I4, r4, q4⟩ => ho' pins s4 σ H4 y z' u w' Q I4 r2 r4 q4))
theorem pt_chain {op op' : CmpOp} {r r' : R2} (ho : OpR X (compareOp op) r) (ho' : OpR X (compareOp op') r') (ha : PE X a ta) (hb : PE X b tb) (hc : PE X c tc)
    (hm : lastMarks [op, op'] [b, c] = false := by with_unfolding_all rfl) : PT X (.Compare a [op, op'] [b, c] pos) (tTest (tChain r r' ta tb tc)) := by
  intro pins s σ H Q I h
  refine isTrue_chain (thn (ha pins s σ H _ I h) fun v s1 ⟨x, H1, I1, r1, q1⟩ => test_link (thn (hb pins s1 σ H1 _ I1 q1) fun u s2 ⟨y, H2, I2, r2, q2⟩ =>
    thn (ho pins s2 σ H2 x y v u _ I2 r1 r2 q2) fun d s3 ⟨z, H3, I3, r3, k, e, q3⟩ => ?_)) hm
  subst e
  cases r3
  refine wpAny_truthy_bool ?_
  cases k with
  | false =>
    obtain ⟨k', e', q'⟩ := q3
    cases e'
    exact ite_ff ⟨H3, I3, q'⟩
  | true =>
    refine ite_tt (test_last (thn (hc pins s3 σ H3 _ I3 q3) fun w' s4 ⟨z', H4, I4, r4, q4⟩ => thn (ho' pins s4 σ H4 y z' u w' _ I4 r2 r4 q4) fun d' s5 ⟨z2, H5, I5, r5, k2, e2, q5⟩ => ?_))
    subst e2
    cases r5
    exact wpAny_truthy_bool ⟨H5, I5, q5⟩

/-! ### truth -/
/-- a value's truth by the abstract heap -/
def TruV (K : PySem.W.Frag) (x : V) (H : Hp) (k : Bool) : Prop :=
  match x with
  | .non => k = false
  | .bl b => k = b
  | .int i => k = (i != 0)
  | .str y => y.length ≤ sizeLine ∧ k = ((y.length : Int) != 0)
  | .byt y => y.size ≤ sizeLine ∧ k = ((y.size : Int) != 0)
  | .ref p => (∃ xs, SqL K H p xs ∧ k = !xs.isEmpty) ∨ (∃ xs, SqT K H p xs ∧ k = !xs.isEmpty) ∨ ∃ kvs, H p = some (.dK kvs) ∧ k = !kvs.isEmpty
  | _ => False
theorem isEmpty_kv {κ : Type} {kvs : List (κ × V)} {vs : List (κ × Value)} (r : KV kvs vs) : (!vs.isEmpty) = !kvs.isEmpty := by
  cases r <;> rfl
theorem isEmpty_of {xs : List V} {its : List Value} (r : Vals xs its) : (!its.toArray.isEmpty) = !xs.isEmpty := by
  cases r <;> simp
theorem line63 : (sizeLine : Nat) < 2 ^ 63 := by rw [sizeLine_eq]; decide
theorem tru_ok : TruR X (fun x H Q => ∃ k, TruV X.K x H k ∧ Q k H) := by
  intro pins s σ H x v Q I rx h
  obtain ⟨k, e, q⟩ := h
  have hl := line63
  have hs : sizeLine = 16777216 := sizeLine_eq
  cases x with
  | non =>
    cases rx
    have e' : k = false := e
    subst e'
    exact truthy_none ⟨H, I, q⟩
  | bl b =>
    cases rx
    have e' : k = b := e
    subst e'
    exact wpAny_truthy_bool ⟨H, I, q⟩
  | int i =>
    obtain ⟨t, rfl⟩ := rx
    have e' : k = (i != 0) := e
    subst e'
    exact PySem.P.truthy_int ⟨H, I, q⟩
  | str y =>
    obtain ⟨t, rfl⟩ := rx
    obtain ⟨hy, e'⟩ : y.length ≤ sizeLine ∧ k = ((y.length : Int) != 0) := e
    subst e'
    exact PySem.P.truthy_str (by omega) ⟨H, I.tok _, q⟩
  | byt y =>
    obtain ⟨t, rfl⟩ := rx
    obtain ⟨hy, e'⟩ : y.size ≤ sizeLine ∧ k = ((y.size : Int) != 0) := e
    subst e'
    exact PySem.W.truthy_bytes (by omega) ⟨H, I.tok _, q⟩
  | ref p =>
    cases rx
    have e' : (∃ xs, SqL X.K H p xs ∧ k = !xs.isEmpty) ∨ (∃ xs, SqT X.K H p xs ∧ k = !xs.isEmpty) ∨ ∃ kvs, H p = some (.dK kvs) ∧ k = !kvs.isEmpty := e
    rcases e' with ⟨xs, hx, e'⟩ | ⟨xs, hx, e'⟩ | ⟨kvs, hx, e'⟩
    · subst e'
      obtain ⟨its, r, pl, hz⟩ := I.list hx
      have hlen := r.length
      exact wpAny_truthy_list pl.isList (by simp only [List.size_toArray]; omega) ⟨H, I.tok _, by rw [isEmpty_of r]; exact q⟩
    · subst e'
      obtain ⟨its, r, pl, hz⟩ := I.tuple hx
      have hlen := r.length
      exact truthy_tuple pl (by simp only [List.size_toArray]; omega) ⟨H, I.tok _, by rw [isEmpty_of r]; exact q⟩
    · subst e'
      obtain ⟨hz, hS, vs, r, m⟩ : kvs.length ≤ sizeLine ∧ (p == sysModules) = false ∧ ∃ vs, KV kvs vs ∧ s.heap.DictOf (mixKind X.prog X.w) p vs := I.hok p _ hx
      have hlen : kvs.length = vs.length := Paired.length r
      exact wpAny_truthy_dict hS m (by omega) ⟨H, I.tok _, by rw [isEmpty_kv r]; exact q⟩
  | _ => exact (show False from e).elim
/-- any expression whose test is its value's truth (a name, a call, a subscript, a field ..: he by fun _ => rfl) -/
theorem pt_truth (ha : PE X a ta) (he : ∀ whole, isTrue a X.env whole = (do let v ← whole; standAt a.pos; holding [v] (truthy v))) :
    PT X a (fun σ H Q => ta σ H fun x H' => ∃ k, TruV X.K x H' k ∧ Q k H') := by
  intro pins s σ H Q I h
  exact isTrue_plain (thn (ha pins s σ H _ I h) fun v s1 ⟨x, H1, I1, r1, q1⟩ => tru_ok pins s1 σ H1 x v Q I1 r1 q1) (he _)

/-! ### strs and bytes -/
theorem pe_byt {x : List UInt8} {k : Nat} : PE X (.Constant (.bytes x) k pos) (fun _ H Q => Q (.byt x.toArray) H) := fun _ _ _ H _ I h => PySem.W.Constant_bytes ⟨.byt x.toArray, H, I.tok _, ⟨_, rfl⟩, h⟩
theorem op_add_str : OpR X (binaryOp .Add) (fun x y H Q => ∃ i j, x = .str i ∧ y = .str j ∧ i.length + j.length ≤ sizeLine ∧ Q (.str (i ++ j)) H) := by
  intro pins s σ H x y v u Q I rx ry h
  obtain ⟨i, j, rfl, rfl, hz, q⟩ := h
  obtain ⟨t, rfl⟩ := rx
  obtain ⟨t', rfl⟩ := ry
  exact add_str (fun t' tk => ⟨.str (i ++ j), H, I.tok _, ⟨_, rfl⟩, q⟩) hz
theorem iop_add_str : OpR X (inplaceOp .Add) (fun x y H Q => ∃ i j, x = .str i ∧ y = .str j ∧ i.length + j.length ≤ sizeLine ∧ Q (.str (i ++ j)) H) := by
  intro pins s σ H x y v u Q I rx ry h
  obtain ⟨i, j, rfl, rfl, hz, q⟩ := h
  obtain ⟨t, rfl⟩ := rx
  obtain ⟨t', rfl⟩ := ry
  exact iadd_str (fun t' tk => ⟨.str (i ++ j), H, I.tok _, ⟨_, rfl⟩, q⟩) hz
theorem op_add_byt : OpR X (binaryOp .Add) (fun x y H Q => ∃ i j, x = .byt i ∧ y = .byt j ∧ i.size + j.size ≤ 16777216 ∧ Q (.byt (i ++ j)) H) := by
  intro pins s σ H x y v u Q I rx ry h
  obtain ⟨i, j, rfl, rfl, hz, q⟩ := h
  obtain ⟨t, rfl⟩ := rx
  obtain ⟨t', rfl⟩ := ry
  exact PySem.W.KBy.add_bytes hz (fun t' tk => ⟨.byt (i ++ j), H, I.tok _, ⟨_, rfl⟩, q⟩)

def PlainIxT (b : Expr) : Prop := ∀ o i, subscripted b false o i = operate [o, i] (getItem o i)
/-- s[i], 0 ≤ i < len -/
theorem pe_item_str (ha : PE X a ta) (hb : PE X b tb) (hs : PlainIxT b) :
    PE X (.Subscript a b pos) (tOp (fun x y H Q => ∃ z i c, x = .str z ∧ y = .int i ∧ 0 ≤ i ∧ i < 2 ^ 63 ∧ i < z.length ∧ z.cps[i.toNat]? = some c ∧ Q (.str ⟨#[c]⟩) H) ta tb) := by
  intro pins s σ H Q I h
  refine Subscript_ (binT ha hb I h fun v u s2 x y H2 I2 rx ry q => ?_)
  obtain ⟨z, i, c, rfl, rfl, h0, h63, h1, hc, q⟩ := q
  obtain ⟨t, rfl⟩ := rx
  obtain ⟨t', rfl⟩ := ry
  have e : seqIndex? i z.length = some i.toNat := PySem.StrLaws.seqIndex_nonneg h0 h1
  exact tail_any (typeIs_str s2 z t) slot_str_getitem.lookup (getItem_str (c := c) (by
    have e1 : decide (i < -(2 ^ 63 : Int)) = false := decide_eq_false (by omega)
    have e2 : decide (i ≥ 2 ^ 63) = false := decide_eq_false (by omega)
    rw [e1, e2] <;> rfl) (by rw [e]; exact hc) ⟨.str ⟨#[c]⟩, H2, I2.tok _, ⟨_, rfl⟩, q⟩) (hs _ _)
/-- b[i], 0 ≤ i < len -/
theorem pe_item_byt (ha : PE X a ta) (hb : PE X b tb) (hs : PlainIxT b) :
    PE X (.Subscript a b pos) (tOp (fun x y H Q => ∃ (z : List UInt8) (i : Int), x = .byt z.toArray ∧ y = .int i ∧ z.length ≤ sizeLine ∧ 0 ≤ i ∧ i < z.length ∧ Q (.int ((z.getD i.toNat 0).toNat : Nat)) H) ta tb) := by
  intro pins s σ H Q I h
  refine Subscript_ (binT ha hb I h fun v u s2 x y H2 I2 rx ry q => ?_)
  obtain ⟨z, i, rfl, rfl, hz, h0, h1, q⟩ := q
  obtain ⟨t, rfl⟩ := rx
  obtain ⟨t', rfl⟩ := ry
  have hl : sizeLine = 16777216 := sizeLine_eq
  exact tail_any (PySem.W.typeIs_bytes s2 z.toArray t) PySem.W.FB.slot_bytes_getitem.lookup (PySem.W.getItem_bytes (by omega) h0 h1 ⟨.int ((z.getD i.toNat 0).toNat : Nat), H2, I2.tok _, ⟨_, rfl⟩, q⟩) (hs _ _)

/-! ### scalar builtins, by CallR -/
theorem vals1 {x : V} {us : List Value} (r : Vals [x] us) : ∃ u, us = [u] ∧ RelV x u := by
  cases r with
  | cons r1 r2 => cases r2; exact ⟨_, rfl, r1⟩
theorem vals2 {x y : V} {us : List Value} (r : Vals [x, y] us) : ∃ u w', us = [u, w'] ∧ RelV x u ∧ RelV y w' := by
  cases r with
  | cons r1 r2 =>
    cases r2 with
    | cons r3 r4 => cases r4; exact ⟨_, _, rfl, r1, r3⟩
theorem call_abs : CallR X (.builtin "abs") (fun xs H Q => ∃ i, xs = [.int i] ∧ Q (.int (if i < 0 then -i else i)) H) := by
  intro pins s σ H xs us Q I r h
  obtain ⟨i, rfl, q⟩ := h
  obtain ⟨u, rfl, t, rfl⟩ := vals1 r
  exact call_abs_int fun u tk => ⟨.int (if i < 0 then -i else i), H, I.tok _, ⟨_, rfl⟩, q⟩
theorem call_max2 (hc : X.calm = true) : CallR X (.builtin "max") (fun xs H Q => ∃ i j, xs = [.int i, .int j] ∧ Q (.int (if j > i then j else i)) H) := by
  intro pins s σ H xs us Q I r h
  obtain ⟨i, j, rfl, q⟩ := h
  obtain ⟨u, w', rfl, ⟨t, rfl⟩, ⟨t', rfl⟩⟩ := vals2 r
  refine max_two_ints (I.ok.hd hc) fun h' tk k => ⟨_, H, I.kept k, ?_, q⟩
  by_cases hj : j > i
  · rw [if_pos hj, if_pos hj]; exact ⟨_, rfl⟩
  · rw [if_neg hj, if_neg hj]; exact ⟨_, rfl⟩
theorem call_min2 (hc : X.calm = true) : CallR X (.builtin "min") (fun xs H Q => ∃ i j, xs = [.int i, .int j] ∧ Q (.int (if j < i then j else i)) H) := by
  intro pins s σ H xs us Q I r h
  obtain ⟨i, j, rfl, q⟩ := h
  obtain ⟨u, w', rfl, ⟨t, rfl⟩, ⟨t', rfl⟩⟩ := vals2 r
  refine min_two_ints (I.ok.hd hc) fun h' tk k => ⟨_, H, I.kept k, ?_, q⟩
  by_cases hj : j < i
  · rw [if_pos hj, if_pos hj]; exact ⟨_, rfl⟩
  · rw [if_neg hj, if_neg hj]; exact ⟨_, rfl⟩
theorem call_int1 : CallR X (.type "int") (fun xs H Q => (∃ i, xs = [.int i] ∧ Q (.int i) H) ∨ ∃ k, xs = [.bl k] ∧ Q (.int (if k then 1 else 0)) H) := by
  intro pins s σ H xs us Q I r h
  rcases h with ⟨i, rfl, q⟩ | ⟨k, rfl, q⟩
  · obtain ⟨u, rfl, t, rfl⟩ := vals1 r
    exact call_int_int ⟨.int i, H, I, ⟨_, rfl⟩, q⟩
  · obtain ⟨u, rfl, r1⟩ := vals1 r
    cases r1
    exact call_int_bool ⟨.int (if k then 1 else 0), H, I.tok _, ⟨_, rfl⟩, q⟩
theorem call_bool1 : CallR X (.type "bool") (fun xs H Q => (∃ i, xs = [.int i] ∧ Q (.bl (i != 0)) H) ∨ ∃ k, xs = [.bl k] ∧ Q (.bl k) H) := by
  intro pins s σ H xs us Q I r h
  rcases h with ⟨i, rfl, q⟩ | ⟨k, rfl, q⟩
  · obtain ⟨u, rfl, t, rfl⟩ := vals1 r
    exact call_bool_int ⟨.bl (i != 0), H, I, rfl, q⟩
  · obtain ⟨u, rfl, r1⟩ := vals1 r
    cases r1
    exact call_bool_bool ⟨.bl k, H, I, rfl, q⟩
theorem call_str_int : CallR X (.type "str") (fun xs H Q => ∃ i, xs = [.int i] ∧ i.natAbs.log2 < 1920 ∧ Q (.str (toString i)) H) := by
  intro pins s σ H xs us Q I r h
  obtain ⟨i, rfl, hz, q⟩ := h
  obtain ⟨u, rfl, t, rfl⟩ := vals1 r
  exact PySem.P.str_of_int hz ⟨.str _, H, I.tok _, ⟨_, rfl⟩, q⟩
theorem call_ord : CallR X (.builtin "ord") (fun xs H Q => ∃ x, xs = [.str x] ∧ x.length = 1 ∧ Q (.int (x.cps.getD 0 0 : Nat)) H) := by
  intro pins s σ H xs us Q I r h
  obtain ⟨x, rfl, hz, q⟩ := h
  obtain ⟨u, rfl, t, rfl⟩ := vals1 r
  exact ord_of_one hz ⟨.int _, H, I.tok _, ⟨_, rfl⟩, q⟩
theorem call_chr : CallR X (.builtin "chr") (fun xs H Q => ∃ i, xs = [.int i] ∧ 0 ≤ i ∧ i ≤ 1114111 ∧ Q (.str ⟨#[i.toNat]⟩) H) := by
  intro pins s σ H xs us Q I r h
  obtain ⟨i, rfl, h0, h1, q⟩ := h
  obtain ⟨u, rfl, t, rfl⟩ := vals1 r
  exact chr_of_range h0 h1 ⟨.str _, H, I.tok _, ⟨_, rfl⟩, q⟩
/-- len of a str, a bytes, a list, a tuple -/
def LenV (K : PySem.W.Frag) (x : V) (H : Hp) (n : Nat) : Prop :=
  match x with
  | .str y => y.length ≤ sizeLine ∧ n = y.length
  | .byt y => y.size ≤ sizeLine ∧ n = y.size
  | .ref p => (∃ xs, SqL K H p xs ∧ n = xs.length) ∨ ∃ xs, SqT K H p xs ∧ n = xs.length
  | _ => False
theorem call_len : CallR X (.builtin "len") (fun xs H Q => ∃ x n, xs = [x] ∧ LenV X.K x H n ∧ Q (.int n) H) := by
  intro pins s σ H xs us Q I r h
  obtain ⟨x, n, rfl, e, q⟩ := h
  obtain ⟨u, rfl, rx⟩ := vals1 r
  have hl := line63
  have hs : sizeLine = 16777216 := sizeLine_eq
  cases x with
  | str y =>
    obtain ⟨t, rfl⟩ := rx
    obtain ⟨hy, e'⟩ : y.length ≤ sizeLine ∧ n = y.length := e
    subst e'
    exact len_str (by omega) ⟨.int _, H, I.tok _, ⟨_, rfl⟩, q⟩
  | byt y =>
    obtain ⟨t, rfl⟩ := rx
    obtain ⟨hy, e'⟩ : y.size ≤ sizeLine ∧ n = y.size := e
    subst e'
    exact PySem.W.len_bytes (by omega) ⟨.int _, H, I.tok _, ⟨_, rfl⟩, q⟩
  | ref p =>
    cases rx
    have e' : (∃ xs, SqL X.K H p xs ∧ n = xs.length) ∨ ∃ xs, SqT X.K H p xs ∧ n = xs.length := e
    rcases e' with ⟨xs, hx, e'⟩ | ⟨xs, hx, e'⟩
    · subst e'
      obtain ⟨its, r', pl, hz⟩ := I.list hx
      have hlen := r'.length
      exact Calls.call_len_list pl.isList (by simp only [List.size_toArray]; omega) ⟨.int xs.length, H, I.tok _, ⟨_, by simp only [List.size_toArray]; rw [hlen]⟩, q⟩
    · subst e'
      obtain ⟨its, r', pl, hz⟩ := I.tuple hx
      have hlen := r'.length
      exact len_tuple pl (by simp only [List.size_toArray]; omega) ⟨.int xs.length, H, I.tok _, ⟨_, by simp only [List.size_toArray]; rw [hlen]⟩, q⟩
  | _ => exact (show False from e).elim
/-- divmod: a new tuple -/
theorem call_divmod : CallR X (.builtin "divmod") (fun xs H Q => ∃ i j, xs = [.int i, .int j] ∧ CDiv i j ∧ ∀ p, H p = none → Q (.ref p) (upd H p (.tup [.int (i / j), .int (i % j)]))) := by
  intro pins s σ H xs us Q I r h
  obtain ⟨i, j, rfl, ⟨h1, h2⟩, q⟩ := h
  obtain ⟨u, w', rfl, ⟨t, rfl⟩, ⟨t', rfl⟩⟩ := vals2 r
  refine divmod_int (by omega) ?_ (.inl (PyProof.noPylong_small (by omega)))
  rw [Int.fdiv_eq_ediv_of_nonneg i (by omega), Int.fmod_eq_emod_of_nonneg i (by omega)]
  have hn : H s.heap.objs.size = none := I.hok.fresh (Nat.le_refl _)
  refine ⟨.ref s.heap.objs.size, _, ?_, rfl, q _ hn⟩
  refine I.laid (fun b o e => Heap.get?_push_of_some _ e) (Nat.le_refl _) ⟨by simp only [List.length_cons, List.length_nil]; rw [sizeLine_eq]; decide, [.int (i / j) s.toks, .int (i % j) (s.toks + 1)], .cons ⟨_, rfl⟩ (.cons ⟨_, rfl⟩ .nil), ?_⟩
  exact ⟨_, Heap.get?_push_size s.heap rfl, rfl, 0, rfl⟩
end
end L2

namespace L2
open PySem PySem.Spec PyProof.Rows

/-! ### an instance, its attributes a map -/
structure ObjM (h : Heap) (x dx C : Addr) (mA : Str → Option Value) : Prop where
  obj : h.get? x = some (PySem.W.instObj C dx)
  ns : h.Ns1 dx mA
  ne : dx ≠ x

theorem lookIn_ns {h : Heap} {dx : Addr} {mA : Str → Option Value} (n : h.Ns1 dx mA) : ∃ od, h.get? dx = some od ∧ ∀ name, PySem.W.lookIn name od = some (mA name) := by
  obtain ⟨o, es, ep, ho, hd, hk, _, hm⟩ := n
  refine ⟨o, ho, fun name => ?_⟩
  have e := hm name
  unfold nsFind findBy at e
  rw [← Array.find?_toList] at e
  unfold PySem.W.lookIn
  rw [hd]
  dsimp only
  split
  · rename_i y q
    rw [q] at e
    exact congrArg some e
  · rename_i q
    rw [q] at e
    have a : es.toList.any (·.refKey) = false := by
      rw [List.any_eq_false]
      intro y hy
      obtain ⟨z, t, hkey⟩ := hk y (Array.mem_toList_iff.mp hy)
      simp [DictEntry.refKey, hkey]
    have a' : ¬ es.toList.any (·.refKey) = true := by rw [a]; exact Bool.false_ne_true
    rw [if_neg a']
    exact congrArg some e

theorem ObjM.look {h : Heap} {x dx C : Addr} {mA : Str → Option Value} (I : ObjM h x dx C mA) : ∃ od, PySem.W.InstAt h x (PySem.W.instObj C dx) C (some od) ∧ ∀ name, PySem.W.lookIn name od = some (mA name) :=
  let ⟨od, ho, hl⟩ := lookIn_ns I.ns
  ⟨od, ⟨I.obj, rfl, rfl, ho⟩, hl⟩

section
variable {prog : Program} {w : World} {A : Around} {E : Value → Shared → Prop} {s : Shared} {K : PySem.W.Frag} {x dx C f : Addr} {mA : Str → Option Value} {name : Str} {v : Value}

theorem get_map {expr : Bool} {Q : Value → Shared → Prop} (X : K.In s.heap) (I : ObjM s.heap x dx C mA) (hg : PySem.W.plainGet K C name = true) (hh : PySem.W.hasDictIn K C = true)
    (ha : PySem.W.findIn K (.ref C) name = some none) (hv : mA name = some v) (hv' : PySem.W.handedIn v = true) (h : Q v { s with toks := s.toks + 1 }) :
    wpAny (model prog w) A (getAttr (.ref x) name expr) Q E s := by
  obtain ⟨od, J, hl⟩ := I.look
  exact PySem.W.get_value X J (PySem.W.plainGet_of hg).1 (PySem.W.findObj_own hh ha rfl (by rw [hl, hv])) hv' h

theorem get_const {expr : Bool} {a : Value} {Q : Value → Shared → Prop} (X : K.In s.heap) (I : ObjM s.heap x dx C mA) (hg : PySem.W.plainGet K C name = true) (hh : PySem.W.hasDictIn K C = true)
    (ha : PySem.W.findIn K (.ref C) name = some (some a)) (hn : PySem.W.specialIn K a "__get__" = some none) (hc : PySem.W.copiedNames.contains name = false) (hv : mA name = none) (hv' : PySem.W.handedIn a = true)
    (h : Q a { s with toks := s.toks + 1 }) : wpAny (model prog w) A (getAttr (.ref x) name expr) Q E s := by
  obtain ⟨od, J, hl⟩ := I.look
  exact PySem.W.get_value X J (PySem.W.plainGet_of hg).1 (PySem.W.findObj_cls hh ha hn hv' hc (by rw [hl, hv])) hv' h

theorem get_meth {pl : Sem Bool} {Q : Value × List Value → Shared → Prop} (X : K.In s.heap) (I : ObjM s.heap x dx C mA) (hg : PySem.W.plainGet K C name = true)
    (hf : PySem.W.findIn K (.ref C) name = some (some (.ref f))) (ht : PySem.W.isFn K (.ref f) = true) (hv : mA name = none) (h : Q (.ref f, [.ref x]) s) :
    wpAny (model prog w) A (getMethod (.ref x) name pl) Q E s := by
  obtain ⟨od, J, hl⟩ := I.look
  exact PySem.W.method_fn X J (PySem.W.plainGet_of hg).1 (PySem.W.plainGet_of hg).2 hf (beq_iff_eq.mp ht) (by show (PySem.W.lookIn name od).map (·.isSome) = some false; rw [hl, hv]; rfl) h

theorem set_map {ns : List Str} {Q : Unit → Shared → Prop} (X : K.In s.heap) (I : ObjM s.heap x dx C mA)
    (hs : PySem.W.findIn K (.ref C) "__setattr__" = some (some (.builtin "object.__setattr__"))) (hp : PySem.W.plainOver K C = true) (ht : PySem.W.takerIn K C name = some none) (hh : PySem.W.hasDictIn K C = true)
    (hw : PySem.Within mA ns) (hsz : ns.length ≤ sizeLine)
    (h : ∀ h', ObjM h' x dx C (fun y => if y = name then some v else mA y) → Heap.SameBut dx s.heap h' → Q () { s with heap := h', toks := s.toks + 2 }) :
    wpAny (model prog w) A (setAttr (.ref x) name v) Q E s := by
  obtain ⟨od, J, hl⟩ := I.look
  refine PySem.W.set_plain X J hs (PySem.W.osa_open (s := { s with toks := s.toks + 1 }) (r := none) X J hp ht fun b => ?_)
  obtain ⟨cd, hc, hd'⟩ := PySem.W.any_some hh
  have hx : s.heap.get? x = some ⟨.ref C, some dx, .plain, #[]⟩ := I.obj
  refine wpAny_bind (wpAny_pure (wpAny_bind (wpAny_bind (wpAny_loadPart hx (wpAny_bind (PySem.W.Looks.here (s := { s with toks := s.toks + 1 }) (PySem.W.looks_clsIn X hc) ?_))))))
  rw [hd']
  refine wpAny_pure (a := some dx) (wpAny_bind (wpAny_pure (wpAny_bind ?_)))
  refine wpAny_nsSet1 (s := { s with toks := s.toks + 1 }) I.ns fun h' hn2 hs2 => ?_
  obtain ⟨oD, esD, epD, hoD, hdD, hcD⟩ := hn2.count (PySem.Within.cons name v hw)
  refine wpAny_bind (wpAny_lookBehind hoD (by rw [hdD]; exact pastItsLine_dict (Nat.le_trans hcD (by rw [List.length_cons]; omega))) ?_)
  exact wpAny_pure (h _ ⟨(hs2.2 _ (Ne.symm I.ne)).trans I.obj, hn2, I.ne⟩ hs2)

/-- C(..): the dict at the heap's end, the instance behind it; then its __init__ -/
theorem make_map {R : Result → Shared → Prop} {vs : List Value} {kw : List (Str × Value)} (X : K.In s.heap) (hm : PySem.W.makesIn K C = true)
    (hi : PySem.W.findIn K (.ref C) "__init__" = some (some (.ref f))) (hf : PySem.W.typeIn K (.ref f) = some (.type "function"))
    (h : codeAny (model prog w) (A.under (.builtin "type.__call__" ⟨.ref C :: vs, kw⟩)) (.call (.ref f) ⟨.ref (s.heap.objs.size + 1) :: vs, kw⟩) (PySem.W.InitBack (s.heap.objs.size + 1) R)
      { s with heap := (s.heap.push PySem.W.emptyDict).push (PySem.W.instObj C s.heap.objs.size) }) :
    codeAny (model prog w) A (.call (.ref C) ⟨vs, kw⟩) R s := by
  obtain ⟨hh, g, d, t, os⟩ := s
  exact PySem.W.make_core (PySem.W.makes_of X hm) (PySem.W.looks_findIn X hi) (fun self => PySem.W.bind_fn X self hf) (.inl rfl) h
/-- C() where there is no __init__ but object's -/
theorem make_map0 {R : Result → Shared → Prop} (X : K.In s.heap) (hm : PySem.W.makesIn K C = true)
    (hi : PySem.W.findIn K (.ref C) "__init__" = some (some (.builtin "object.__init__")))
    (hb : ∀ self, PySem.W.Looks (model prog w) s.heap (bindSpecial (.builtin "object.__init__") self) (.builtin "object.__init__", [self]))
    (h : codeAny (model prog w) (A.under (.builtin "type.__call__" ⟨[.ref C], []⟩)) (.call (.builtin "object.__init__") ⟨[.ref (s.heap.objs.size + 1)], []⟩) (PySem.W.InitBack (s.heap.objs.size + 1) R)
      { s with heap := (s.heap.push PySem.W.emptyDict).push (PySem.W.instObj C s.heap.objs.size) }) :
    codeAny (model prog w) A (.call (.ref C) ⟨[], []⟩) R s := by
  obtain ⟨hh, g, d, t, os⟩ := s
  exact PySem.W.make_core (PySem.W.makes_of X hm) (PySem.W.looks_findIn X hi) hb (.inr ⟨rfl, rfl⟩) h
end

/-! ### the attributes as a list of pairs -/
def putF (f : Str) (v : V) : List (Str × V) → List (Str × V)
  | [] => [(f, v)]
  | (g, x) :: r => if g = f then (g, v) :: r else (g, x) :: putF f v r
theorem lookup_putF (f g : Str) (v : V) : ∀ fs : List (Str × V), (putF f v fs).lookup g = if g = f then some v else fs.lookup g
  | [] => by
    show List.lookup g [(f, v)] = _
    by_cases h : g = f
    · have hb : (g == f) = true := beq_iff_eq.mpr h
      simp only [List.lookup, hb, if_pos h]
    · have hb : (g == f) = false := beq_eq_false_iff_ne.mpr h
      simp only [List.lookup, hb, if_neg h]
  | (k, x) :: r => by
    have ih := lookup_putF f g v r
    rw [show putF f v ((k, x) :: r) = (if k = f then (k, v) :: r else (k, x) :: putF f v r) from rfl]
    by_cases hk : k = f
    · rw [if_pos hk]
      by_cases h : g = k
      · have hb : (g == k) = true := beq_iff_eq.mpr h
        simp only [List.lookup, hb, if_pos (h.trans hk)]
      · have hb : (g == k) = false := beq_eq_false_iff_ne.mpr h
        simp only [List.lookup, hb, if_neg (fun e : g = f => h (e.trans hk.symm))]
    · rw [if_neg hk]
      by_cases h : g = k
      · have hb : (g == k) = true := beq_iff_eq.mpr h
        simp only [List.lookup, hb, if_neg (fun e : g = f => hk (h.symm.trans e))]
      · have hb : (g == k) = false := beq_eq_false_iff_ne.mpr h
        simp only [List.lookup, hb]
        exact ih
theorem keys_putF (f : Str) (v : V) : ∀ fs : List (Str × V), f ∈ (putF f v fs).map (·.1) ∧ ∀ g, g ∈ fs.map (·.1) → g ∈ (putF f v fs).map (·.1)
  | [] => ⟨by simp [putF], fun g h => by simp at h⟩
  | (k, x) :: r => by
    obtain ⟨i1, i2⟩ := keys_putF f v r
    rw [show putF f v ((k, x) :: r) = (if k = f then (k, v) :: r else (k, x) :: putF f v r) from rfl]
    by_cases hk : k = f
    · rw [if_pos hk]
      subst hk
      exact ⟨by simp, fun g h => by simpa using h⟩
    · rw [if_neg hk]
      refine ⟨?_, fun g h => ?_⟩
      · rw [List.map_cons]
        exact List.mem_cons_of_mem _ i1
      · rw [List.map_cons] at h ⊢
        rcases List.mem_cons.mp h with e | e
        · exact List.mem_cons.mpr (.inl e)
        · exact List.mem_cons_of_mem _ (i2 g e)
theorem length_putF (f : Str) (v : V) : ∀ fs : List (Str × V), (putF f v fs).length ≤ fs.length + 1
  | [] => by simp [putF]
  | (k, x) :: r => by
    have ih := length_putF f v r
    rw [show putF f v ((k, x) :: r) = (if k = f then (k, v) :: r else (k, x) :: putF f v r) from rfl]
    by_cases hk : k = f
    · rw [if_pos hk, List.length_cons, List.length_cons]; omega
    · rw [if_neg hk, List.length_cons, List.length_cons]; omega

theorem RelO.some_of {v : V} {o : Option Value} (r : RelO (some v) o) : ∃ u, o = some u ∧ RelV v u := by
  cases o with
  | none => exact (show False from r).elim
  | some u => exact ⟨u, rfl, r⟩
theorem RelO.none_of {o : Option Value} (r : RelO none o) : o = none := by
  cases o with
  | none => rfl
  | some u => exact (show False from r).elim
theorem handed_of {v : V} {u : Value} (r : RelV v u) : PySem.W.handedIn u = true := by
  cases v with
  | non => cases (show u = Value.none from r); rfl
  | bl b => cases (show u = Value.bool b from r); rfl
  | int i => obtain ⟨t, e⟩ := (show ∃ t, u = Value.int i t from r); cases e; rfl
  | str x => obtain ⟨t, e⟩ := (show ∃ t, u = Value.str x t from r); cases e; rfl
  | byt b => obtain ⟨t, e⟩ := (show ∃ t, u = Value.bytes b t from r); cases e; rfl
  | flt b => obtain ⟨t, e⟩ := (show ∃ t, u = Value.float b t from r); cases e; rfl
  | ref a => cases (show u = Value.ref a from r); rfl
  | ty n => cases (show u = Value.type n from r); rfl

section
variable {P : Program} {w : World} {H H' : Hp} {h h' : Heap} {a C dx : Addr} {fs fs' : List (Str × V)}
theorem ins_get (hok : HOk P w H h) (e : H a = some (.ins C dx fs)) : ∃ mA, ObjM h a dx C mA ∧ (∀ f, RelO (fs.lookup f) (mA f)) ∧ PySem.Within mA (fs.map (·.1)) ∧ fs.length ≤ 1000 ∧ H dx = some (.own a) := by
  obtain ⟨d, z, ne, ob, mA, n, r, q⟩ := (show ObjOk P w H h a (.ins C dx fs) from hok a _ e)
  exact ⟨mA, ⟨ob, n, ne⟩, r, q, z, d⟩
end

/-! ### what of the text a class must have -/
structure Cls (K : PySem.W.Frag) (C : Addr) : Prop where
  pg : PySem.W.plainGet K C Str.empty = true
  hd : PySem.W.hasDictIn K C = true
  po : PySem.W.plainOver K C = true
  sa : PySem.W.findIn K (.ref C) "__setattr__" = some (some (.builtin "object.__setattr__"))
theorem Cls.get {K : PySem.W.Frag} {C : Addr} (c : Cls K C) (f : Str) : PySem.W.plainGet K C f = true := c.pg
/-- no class of it has the name -/
def NoAttr (K : PySem.W.Frag) (C : Addr) (f : Str) : Prop := PySem.W.findIn K (.ref C) f = some none
theorem NoAttr.taker {K : PySem.W.Frag} {C : Addr} {f : Str} (n : NoAttr K C f) : PySem.W.takerIn K C f = some none := by
  unfold PySem.W.takerIn
  rw [show PySem.W.findIn K (.ref C) f = some none from n]
  rfl
/-- a constant of the class -/
structure Con (K : PySem.W.Frag) (C : Addr) (f : Str) (v : V) (u : Value) : Prop where
  at_ : PySem.W.findIn K (.ref C) f = some (some u)
  rel : RelV v u
  get : PySem.W.specialIn K u "__get__" = some none
  cp : PySem.W.copiedNames.contains f = false
/-- a method: a plain def of the class or of one above it -/
structure Meth (K : PySem.W.Frag) (C : Addr) (m : Str) (f : Addr) : Prop where
  at_ : PySem.W.findIn K (.ref C) m = some (some (.ref f))
  fn : PySem.W.isFn K (.ref f) = true
  kp : PySem.W.keepIn K (.ref f) = true

section
variable {X : Cx} {pins : List (Addr × Obj)} {σ : St} {H : Hp} {s : Shared} {a C dx : Addr} {fs : List (Str × V)} {f : Str} {v : V} {A : Around} {E : Value → Shared → Prop}

theorem getattr_ok {b : Bool} {Q : Value → Shared → Prop} (I : Inv X pins σ H s) (e : H a = some (.ins C dx fs)) (c : Cls X.K C) (n : NoAttr X.K C f) (l : fs.lookup f = some v)
    (h : ∀ u s', Inv X pins σ H s' → RelV v u → Q u s') : wpAny (model X.prog X.w) A (getAttr (.ref a) f b) Q E s := by
  obtain ⟨mA, O, r, _, _, _⟩ := ins_get I.hok e
  obtain ⟨u, hu, ru⟩ := RelO.some_of (v := v) (o := mA f) (by rw [← l]; exact r f)
  exact get_map I.kIn O (c.get f) c.hd n hu (handed_of ru) (h u _ (I.tok _) ru)

theorem getcon_ok {b : Bool} {u : Value} {Q : Value → Shared → Prop} (I : Inv X pins σ H s) (e : H a = some (.ins C dx fs)) (c : Cls X.K C) (k : Con X.K C f v u) (l : fs.lookup f = none)
    (h : ∀ s', Inv X pins σ H s' → Q u s') : wpAny (model X.prog X.w) A (getAttr (.ref a) f b) Q E s := by
  obtain ⟨mA, O, r, _, _, _⟩ := ins_get I.hok e
  have hn : mA f = none := RelO.none_of (by rw [← l]; exact r f)
  exact get_const I.kIn O (c.get f) c.hd k.at_ k.get k.cp hn (handed_of k.rel) (h _ (I.tok _))

theorem getmeth_ok {m : Str} {g : Addr} {pl : Sem Bool} {Q : Value × List Value → Shared → Prop} (I : Inv X pins σ H s) (e : H a = some (.ins C dx fs)) (c : Cls X.K C) (k : Meth X.K C m g) (l : fs.lookup m = none)
    (h : Q (.ref g, [.ref a]) s) : wpAny (model X.prog X.w) A (getMethod (.ref a) m pl) Q E s := by
  obtain ⟨mA, O, r, _, _, _⟩ := ins_get I.hok e
  have hn : mA m = none := RelO.none_of (by rw [← l]; exact r m)
  exact get_meth I.kIn O (c.get m) k.at_ k.fn hn h

theorem setattr_ok {y : V} {u : Value} {Q : Unit → Shared → Prop} (I : Inv X pins σ H s) (e : H a = some (.ins C dx fs)) (c : Cls X.K C) (n : NoAttr X.K C f) (hl : fs.length < 1000) (ry : RelV y u)
    (h : ∀ s', Inv X pins σ (upd H a (.ins C dx (putF f y fs))) s' → Q () s') : wpAny (model X.prog X.w) A (setAttr (.ref a) f u) Q E s := by
  obtain ⟨mA, O, r, wi, _, ho⟩ := ins_get I.hok e
  have hz : (fs.map (·.1)).length ≤ sizeLine := by rw [List.length_map, sizeLine_eq]; omega
  refine set_map I.kIn O c.sa c.po n.taker c.hd wi hz fun h' O' sb => h _ ?_
  have hd : ∃ o, h'.get? dx = some o := let ⟨o, _, _, e', _⟩ := O'.ns; ⟨o, e'⟩
  refine I.write (x := a) (e := dx) (by rw [e]; exact True.intro) (.inr ho) (fun b q hb z => (sb.2 b hb).trans z) hd ?_
  refine ⟨by rw [upd_ne O.ne]; exact ho, ?_, O.ne, O'.obj, _, O'.ns, fun g => ?_, fun g hg => ?_⟩
  · have := length_putF f y fs; omega
  · show RelO ((putF f y fs).lookup g) (if g = f then some u else mA g)
    rw [lookup_putF]
    by_cases q : g = f
    · rw [if_pos q, if_pos q]; exact ry
    · rw [if_neg q, if_neg q]; exact r g
  · by_cases q : g = f
    · rw [q]; exact (keys_putF f y fs).1
    · refine (keys_putF f y fs).2 g (wi g fun z => hg ?_)
      show (if g = f then some u else mA g) = none
      rw [if_neg q]; exact z

/-- a new instance, tracked, without attributes -/
theorem Inv.made (I : Inv X pins σ H s) : Inv X pins σ (upd (upd H s.heap.objs.size (.own (s.heap.objs.size + 1))) (s.heap.objs.size + 1) (.ins C s.heap.objs.size []))
    { s with heap := (s.heap.push PySem.W.emptyDict).push (PySem.W.instObj C s.heap.objs.size) } := by
  have e1 : (s.heap.push PySem.W.emptyDict).get? s.heap.objs.size = some PySem.W.emptyDict := Heap.get?_push_size s.heap rfl
  have e2 : ((s.heap.push PySem.W.emptyDict).push (PySem.W.instObj C s.heap.objs.size)).get? (s.heap.objs.size + 1) = some (PySem.W.instObj C s.heap.objs.size) := by
    have := Heap.get?_push_size (s.heap.push PySem.W.emptyDict) (o := PySem.W.instObj C s.heap.objs.size) rfl
    rwa [Heap.size_push] at this
  have e3 : (s.heap.push PySem.W.emptyDict).Ns s.heap.objs.size (fun _ => none) := ⟨PySem.W.emptyDict, #[], _, e1, rfl, (fun e he => absurd he (by simp)), fun _ => rfl⟩
  have I1 := I.laid (a := s.heap.objs.size) (o := .own (s.heap.objs.size + 1)) (h' := s.heap.push PySem.W.emptyDict) (t' := s.toks) (fun b u q => Heap.get?_push_of_some _ q) (Nat.le_refl _) ⟨_, e1⟩
  refine I1.laid (a := s.heap.objs.size + 1) (o := .ins C s.heap.objs.size []) (t' := s.toks) (fun b u q => Heap.get?_push_of_some _ q) (Nat.le_of_eq (Heap.size_push _ _)) ?_
  have ne : s.heap.objs.size ≠ s.heap.objs.size + 1 := Nat.ne_of_lt (Nat.lt_succ_self _)
  refine ⟨by rw [upd_ne ne, upd_same], Nat.zero_le _, ne, e2, fun _ => none, (Heap.Ns1.of_empty e3).at fun o q => Heap.get?_push_of_some _ q, fun _ => True.intro, fun y hy => absurd rfl hy⟩

/-- e.f where nothing but the object is asked: through attributeBase (super) and the last hold -/
theorem attr_of {prog : Program} {w : World} {env : Env} {e : Expr} {f : Str} {pos : Pos} {s : Shared} {Q : Value → Shared → Prop} (hb : attributeBase e f env (eval e env) = eval e env)
    (h : wpAny (model prog w) A (eval e env) (fun o s₁ => wpAny (model prog w) A (getAttr o f true) Q E s₁) E s) : wpAny (model prog w) A (eval (.Attribute e f pos) env) Q E s :=
  Attribute_any_ h (by rw [arm_eval_Attribute, hb])
end

/-! ### readings and rules -/
/-- e.f, an attribute of the instance -/
def tFld (K : PySem.W.Frag) (ta : TE) (f : Str) : TE := fun σ H Q => ta σ H fun x H1 => ∃ a C dx fs v, x = .ref a ∧ H1 a = some (.ins C dx fs) ∧ Cls K C ∧ NoAttr K C f ∧ fs.lookup f = some v ∧ Q v H1
/-- e.f, a constant of the class -/
def tCon (K : PySem.W.Frag) (ta : TE) (f : Str) : TE := fun σ H Q => ta σ H fun x H1 => ∃ a C dx fs v u, x = .ref a ∧ H1 a = some (.ins C dx fs) ∧ Cls K C ∧ Con K C f v u ∧ fs.lookup f = none ∧ Q v H1
/-- e.f = value -/
def sFld (K : PySem.W.Frag) (ta tv : TE) (f : Str) : TS := fun D σ H => tv σ H fun y H1 => ta σ H1 fun x H2 => ∃ a C dx fs, x = .ref a ∧ H2 a = some (.ins C dx fs) ∧ Cls K C ∧ NoAttr K C f ∧ fs.length < 1000 ∧
  D.nx σ (upd H2 a (.ins C dx (putF f y fs)))
/-- an augmented operator on two values -/
def InOp (X : Cx) (op : Operator) (rd : V → V → Hp → VK → Prop) : Prop :=
  ∀ (pins : List (Addr × Obj)) (s : Shared) (σ : St) (H : Hp) (x y : V) (u v : Value) (Q : VK), Inv X pins σ H s → RelV x u → RelV y v → rd x y H Q → wpAny (model X.prog X.w) X.A (inplaceOp op u v) (EP X pins σ Q) X.xe s
/-- e.f op= value -/
def sFldAug (K : PySem.W.Frag) (ta tv : TE) (rd : V → V → Hp → VK → Prop) (f : Str) : TS := fun D σ H => ta σ H fun x H1 => ∃ a C dx fs v, x = .ref a ∧ H1 a = some (.ins C dx fs) ∧ Cls K C ∧ NoAttr K C f ∧ fs.lookup f = some v ∧
  tv σ H1 fun y H2 => rd v y H2 fun z H3 => ∃ dx' fs', H3 a = some (.ins C dx' fs') ∧ fs'.length < 1000 ∧ D.nx σ (upd H3 a (.ins C dx' (putF f z fs')))

section
variable {X : Cx} {o e value : Expr} {f : Str} {pos pos' tpos : Pos} {ta tv : TE}
theorem pe_fld (he : PE X e ta) (hb : attributeBase e f X.env (eval e X.env) = eval e X.env) : PE X (.Attribute e f pos) (tFld X.K ta f) := by
  intro pins s σ H Q I h
  refine attr_of hb (thn (he pins s σ H _ I h) fun u s1 ⟨x, H1, I1, rx, a, C, dx, fs, v, ex, ea, c, n, l, q⟩ => ?_)
  subst ex
  obtain rfl : u = Value.ref a := rx
  exact getattr_ok I1 ea c n l fun u' s2 I2 ru => ⟨v, H1, I2, ru, q⟩
theorem pe_con (he : PE X e ta) (hb : attributeBase e f X.env (eval e X.env) = eval e X.env) : PE X (.Attribute e f pos) (tCon X.K ta f) := by
  intro pins s σ H Q I h
  refine attr_of hb (thn (he pins s σ H _ I h) fun u s1 ⟨x, H1, I1, rx, a, C, dx, fs, v, u0, ex, ea, c, k, l, q⟩ => ?_)
  subst ex
  obtain rfl : u = Value.ref a := rx
  exact getcon_ok I1 ea c k l fun s2 I2 => ⟨v, H1, I2, k.rel, q⟩
theorem ps_fld (ha : PE X o ta) (hv : PE X value tv) (hs : swapsWith value (some (.Attribute o f pos')) pos.line X.env = pure false) : PS X (.Assign [.Attribute o f pos'] value pos) (sFld X.K ta tv f) := by
  intro pins s σ H D I h
  refine plainObj_wpAny_Assign_Attribute (thn (hv pins s σ H _ I h) fun u s1 ⟨y, H1, I1, ry, q⟩ => thn (ha pins s1 σ H1 _ I1 q) fun ov s2 ⟨x, H2, I2, rx, a, C, dx, fs, ex, ea, c, n, l, q2⟩ => ?_) hs
  subst ex
  obtain rfl : ov = Value.ref a := rx
  exact setattr_ok I2 ea c n l ry fun s3 I3 => ⟨σ, _, I3, q2⟩
theorem ps_fldaug {op : Operator} {rd : V → V → Hp → VK → Prop} (ha : PE X o ta) (hv : PE X value tv) (hop : InOp X op rd) : PS X (.AugAssign (.Attribute o f tpos) op value pos) (sFldAug X.K ta tv rd f) := by
  intro pins s σ H D I h
  refine wpAny_AugAssign_AttributeAny (thn (ha pins s σ H _ I h) fun ov s1 ⟨x, H1, I1, rx, a, C, dx, fs, v, ex, ea, c, n, l, q⟩ => ?_)
  subst ex
  obtain rfl : ov = Value.ref a := rx
  refine getattr_ok I1 ea c n l fun u s2 I2 ru => thn (hv pins s2 σ H1 _ I2 q) fun w3 s3 ⟨y, H2, I3, ry, q3⟩ => thn (hop pins s3 σ H2 v y u w3 _ I3 ru ry q3) fun w4 s4 ⟨z, H3, I4, rz, dx', fs', ea', l', q4⟩ => ?_
  exact setattr_ok I4 ea' c n l' rz fun s5 I5 => ⟨σ, _, I5, q4⟩
def rAdd : V → V → Hp → VK → Prop := fun x y H Q => ∃ i j, x = .int i ∧ y = .int j ∧ Q (.int (i + j)) H
def rSub : V → V → Hp → VK → Prop := fun x y H Q => ∃ i j, x = .int i ∧ y = .int j ∧ Q (.int (i - j)) H
theorem in_add : InOp X .Add rAdd := by
  rintro pins s σ H x y u v Q I rx ry ⟨i, j, rfl, rfl, q⟩
  obtain ⟨t, rfl⟩ := (show ∃ t, u = Value.int i t from rx)
  obtain ⟨t', rfl⟩ := (show ∃ t', v = Value.int j t' from ry)
  exact PyProof.Rows.iadd_int ⟨.int (i + j), H, I.tok _, ⟨_, rfl⟩, q⟩
theorem in_sub : InOp X .Sub rSub := by
  rintro pins s σ H x y u v Q I rx ry ⟨i, j, rfl, rfl, q⟩
  obtain ⟨t, rfl⟩ := (show ∃ t, u = Value.int i t from rx)
  obtain ⟨t', rfl⟩ := (show ∃ t', v = Value.int j t' from ry)
  exact PyProof.Rows.isub_int ⟨.int (i - j), H, I.tok _, ⟨_, rfl⟩, q⟩

/-- what is between an instance and its method: the tree of a method call -/
theorem methcall_of {pl : Sem Bool} {m : Str} {apos : Pos} {args : List Expr} {pins : List (Addr × Obj)} {s : Shared} {σ : St} {H : Hp} {Q : Value → Shared → Prop} {te : TE} (he : PE X e te) (I : Inv X pins σ H s)
    (h : te σ H fun x H1 => ∃ a C dx fs g, x = .ref a ∧ H1 a = some (.ins C dx fs) ∧ Cls X.K C ∧ Meth X.K C m g ∧ fs.lookup m = none ∧
      ∀ s1, Inv X pins σ H1 s1 → wpAny (model X.prog X.w) X.A (callWith pos (.ref g) [.ref a] (backTo pos (starEach args X.env)) (backToKw pos (keywordEach [] X.env))) Q X.xe s1)
    (ht : eval (.Call (.Attribute e m apos) args [] pos) X.env = (do
      let ov ← eval e X.env
      standAt apos.atName
      let (f, first) ← holding [ov] (getMethod ov m pl)
      callWith pos f first (backTo pos (starEach args X.env)) (backToKw pos (keywordEach [] X.env)))) :
    wpAny (model X.prog X.w) X.A (eval (.Call (.Attribute e m apos) args [] pos) X.env) Q X.xe s := by
  refine PySem.W.methodCall_KW (pl := pl) (thn (he pins s σ H _ I h) fun u s1 ⟨x, H1, I1, rx, a, C, dx, fs, g, ex, ea, c, k, l, q⟩ => ?_) ht
  subst ex
  obtain rfl : u = Value.ref a := rx
  exact getmeth_ok I1 ea c k l (q s1 I1)
end

/-! ### isinstance -/
section
variable {X : Cx} {pins : List (Addr × Obj)} {σ : St} {H : Hp} {s : Shared} {A : Around} {E : Value → Shared → Prop} {Q : Value → Shared → Prop} {c : Value} {b : Bool}
/-- the type of a value, as the fragment's deciders take it; for an instance its class -/
inductive TyOf (K : PySem.W.Frag) (H : Hp) : V → Value → Prop where
  | non : TyOf K H .non (.type "NoneType")
  | bl (x : Bool) : TyOf K H (.bl x) (.type "bool")
  | int (i : Int) : TyOf K H (.int i) (.type "int")
  | str (x : Str) : TyOf K H (.str x) (.type "str")
  | flt (x : UInt64) : TyOf K H (.flt x) (.type "float")
  | lst {a : Addr} {xs : List V} (e : H a = some (.lst xs)) : TyOf K H (.ref a) (.type "list")
  | frz {a : Addr} {o : Obj} {xs : List V} (e : H a = some (.frz o (.lst xs))) : TyOf K H (.ref a) (.type "list")
  | tup {a : Addr} {xs : List V} (e : H a = some (.tup xs)) : TyOf K H (.ref a) (.type "tuple")
  | dK {a : Addr} {kvs : List (Key × V)} (e : H a = some (.dK kvs)) : TyOf K H (.ref a) (.type "dict")
  | dT {a : Addr} {kvs : List (List Key × V)} (e : H a = some (.dT kvs)) : TyOf K H (.ref a) (.type "dict")
  | ins {a C dx : Addr} {fs : List (Str × V)} (e : H a = some (.ins C dx fs)) (cl : Cls K C) (ha : PySem.W.findIn K (.ref C) "__class__" = some (some (.builtin "object.__class__")))
      (hn : PySem.W.specialIn K (.builtin "object.__class__") "__get__" = some (some (.builtin "getset_descriptor.__get__"))) (htk : PySem.W.takesIn K (.builtin "object.__class__") = some true)
      (hm : PySem.W.mroIn K C (.type "object") = some true) : TyOf K H (.ref a) (.ref C)
/-- isinstance(x, c) for one class c, a built-in or an own one: kitOne's answer -/
theorem isinst_ok {x : V} {u t : Value} (I : Inv X pins σ H s) (rx : RelV x u) (ty : TyOf X.K H x t) (e : PySem.W.kitOne X.K t c = some b) (h : ∀ tk, Q (.bool b) { s with toks := tk }) :
    wpAny (model X.prog X.w) A (call (.builtin "isinstance") [u, c]) Q E s := by
  cases ty with
  | non => cases (show u = Value.none from rx); exact PySem.W.kia_one PySem.W.kitx_none I.kIn True.intro e (fun z => nomatch z) h
  | bl y => cases (show u = Value.bool y from rx); exact PySem.W.kia_one PySem.W.kitx_bool I.kIn True.intro e (fun z => nomatch z) h
  | int i => obtain ⟨t, q⟩ := (show ∃ t, u = Value.int i t from rx); cases q; exact PySem.W.kia_one PySem.W.kitx_int I.kIn True.intro e (fun z => nomatch z) h
  | str y => obtain ⟨t, q⟩ := (show ∃ t, u = Value.str y t from rx); cases q; exact PySem.W.kia_one PySem.W.kitx_str I.kIn True.intro e (fun z => nomatch z) h
  | flt y => obtain ⟨t, q⟩ := (show ∃ t, u = Value.float y t from rx); cases q; exact PySem.W.kia_one PySem.W.kitx_float I.kIn True.intro e (fun z => nomatch z) h
  | @lst a xs ea =>
    cases (show u = Value.ref a from rx)
    obtain ⟨_, _, n, _, h1⟩ := (show ObjOk X.prog X.w H s.heap a (.lst xs) from I.hok a _ ea)
    exact PySem.W.kia_one PySem.W.kitx_list I.kIn ⟨_, h1, rfl⟩ e (fun z => nomatch z) h
  | @frz a ob xs ea =>
    cases (show u = Value.ref a from rx)
    obtain ⟨_, _, _, n, _, h1⟩ := (show ObjOk X.prog X.w H s.heap a (.frz ob (.lst xs)) from I.hok a _ ea)
    exact PySem.W.kia_one PySem.W.kitx_list I.kIn ⟨_, h1, rfl⟩ e (fun z => nomatch z) h
  | @tup a xs ea =>
    cases (show u = Value.ref a from rx)
    obtain ⟨_, _, _, p⟩ := (show ObjOk X.prog X.w H s.heap a (.tup xs) from I.hok a _ ea)
    obtain ⟨o, h1, h2, _⟩ := p
    exact PySem.W.kia_one PySem.W.kitx_tuple I.kIn ⟨o, h1, h2⟩ e (fun z => nomatch z) h
  | @dK a kvs ea =>
    cases (show u = Value.ref a from rx)
    obtain ⟨_, _, vs, _, p⟩ := (show ObjOk X.prog X.w H s.heap a (.dK kvs) from I.hok a _ ea)
    obtain ⟨o, es, ep, h1, h2, _⟩ := p
    exact PySem.W.kia_one PySem.W.kitx_dict I.kIn ⟨o, h1, h2.1⟩ e (fun z => nomatch z) h
  | @dT a kvs ea =>
    cases (show u = Value.ref a from rx)
    obtain ⟨_, _, xs, _, o, es, ep, h1, h2, _⟩ := (show ObjOk X.prog X.w H s.heap a (.dT kvs) from I.hok a _ ea)
    exact PySem.W.kia_one PySem.W.kitx_dict I.kIn ⟨o, h1, h2.1⟩ e (fun z => nomatch z) h
  | @ins a C dx fs ea cl ha hn htk hm =>
    cases (show u = Value.ref a from rx)
    obtain ⟨mA, O, _⟩ := ins_get I.hok ea
    obtain ⟨od, J, _⟩ := O.look
    exact PySem.W.kia_one (PySem.W.kitx_own (cl.get _) cl.hd ha hn htk hm) I.kIn J e (fun z => nomatch z) h
end
end L2

namespace L2
open PySem PySem.Spec PyProof.Rows

/-! ### room -/
structure Room (k : Nat) (A : Around) : Prop where
  hd : A.handled = none
  dp : A.depth + 3 * k + 5 < recursionLimit
  un : A.units + 16 * k + 200 < cLine
theorem Room.mono {j k : Nat} {A : Around} (r : Room k A) (h : j ≤ k) : Room j A := ⟨r.hd, by have := r.dp; omega, by have := r.un; omega⟩
theorem Room.deeper {k : Nat} {A : Around} (r : Room (k + 1) A) (env : Env) : Room k (A.deeper env) :=
  ⟨r.hd, by have := r.dp; show A.depth + 1 + 3 * k + 5 < _; omega, by have := r.un; show A.units + 3 + 16 * k + 200 < _; omega⟩
theorem Room.in1 {k : Nat} {A : Around} (r : Room (k + 1) A) : Room k A.in1 :=
  ⟨r.hd, by have := r.dp; show A.depth + 3 * k + 5 < _; omega, by have := r.un; show A.units + 1 + 16 * k + 200 < _; omega⟩
theorem make_depth {A : Around} {C : Addr} {us : List Value} {kw : List (Str × Value)} : (A.under (.builtin "type.__call__" ⟨.ref C :: us, kw⟩)).depth = A.depth + 1 := by
  first | rfl | simp [Around.under, Code.weight, Code.isCreation, Code.isGuard, Code.isCaller, Code.frames, Code.isFrame, guardIds]
theorem make_units {A : Around} {C : Addr} {us : List Value} {kw : List (Str × Value)} : (A.under (.builtin "type.__call__" ⟨.ref C :: us, kw⟩)).units = A.units + 1 := by
  first | rfl | simp [Around.under, Code.cUnits, Code.frames, Code.isFrame]
theorem Room.make {k : Nat} {A : Around} (r : Room (k + 1) A) (C : Addr) (us : List Value) (kw : List (Str × Value)) : Room k (A.under (.builtin "type.__call__" ⟨.ref C :: us, kw⟩)) :=
  ⟨r.hd, by have := r.dp; rw [make_depth]; omega, by have := r.un; rw [make_units]; omega⟩
theorem Room.depth {k : Nat} {A : Around} (r : Room k A) : A.depth < recursionLimit := by have := r.dp; omega
theorem Room.units {k : Nat} {A : Around} (r : Room k A) : A.units + 64 < cLine := by have := r.un; omega
theorem Room.units0 {k : Nat} {A : Around} (r : Room k A) : A.units < cLine := by have := r.un; omega

/-! ### argument lists and displays -/
def tNil : TA := fun _ H Q => Q [] H
def tCons (ta : TE) (tr : TA) : TA := fun σ H Q => ta σ H fun x H1 => tr σ H1 fun xs H2 => Q (x :: xs) H2
section
variable {X : Cx} {e : Expr} {es : List Expr} {te : TE} {t : TA} {pos : Pos}
theorem pa_nil : PA X [] tNil := fun _ _ _ _ H Q I h => Calls.spliced_nil ⟨[], H, I, .nil, h⟩
theorem pa_cons (ha : PE X e te) (hr : PA X es t) (hs : starEach (e :: es) X.env = (false, eval e X.env) :: starEach es X.env := by rfl) : PA X (e :: es) (tCons te t) := by
  intro pos pins s σ H Q I h
  rw [hs]
  show wpAny _ _ (spliced ((false, eval e X.env) :: backTo pos (starEach es X.env))) _ _ s
  refine Calls.spliced_cons (thn (ha pins s σ H _ I h) fun u s1 ⟨x, H1, I1, r1, q1⟩ => ?_)
  exact thn (hr pos pins s1 σ H1 _ I1 q1) fun us s2 ⟨xs, H2, I2, r2, q2⟩ => ⟨x :: xs, H2, I2, .cons r1 r2, q2⟩

/-- a tuple, a list of written items -/
def tTup (t : TA) : TE := fun σ H Q => t σ H fun xs H1 => xs.length ≤ sizeLine ∧ ∀ p, H1 p = none → Q (.ref p) (upd H1 p (.tup xs))
def tLst (t : TA) : TE := fun σ H Q => t σ H fun xs H1 => xs.length ≤ sizeLine ∧ ∀ p, H1 p = none → Q (.ref p) (upd H1 p (.lst xs))
theorem pe_tup {x1} (h : PA X es t) : PE X (.Tuple es x1 pos) (tTup t) := by
  intro pins s σ H Q I hq
  refine wpAny_Tuple_spliced (thn (h pos pins s σ H _ I hq) fun us s1 ⟨xs, H1, I1, r, z, q⟩ => ⟨by rw [← r.length]; exact z, ?_⟩)
  have hf : H1 s1.heap.objs.size = none := I1.hok.fresh (Nat.le_refl _)
  refine ⟨.ref s1.heap.objs.size, upd H1 s1.heap.objs.size (.tup xs), I1.laid (t' := s1.toks) (fun b u e => Heap.get?_push_of_some _ e) (Nat.le_refl _) ?_, rfl, q _ hf⟩
  exact ⟨z, us, r, ⟨_, Heap.get?_push_size _ rfl, rfl, _, rfl⟩⟩
theorem pe_lst (h : PA X es t) : PE X (.List es pos) (tLst t) := by
  intro pins s σ H Q I hq
  refine wpAny_List_spliced (thn (h pos pins s σ H _ I hq) fun us s1 ⟨xs, H1, I1, r, z, q⟩ => ⟨by rw [← r.length]; exact z, ?_⟩)
  have hf : H1 s1.heap.objs.size = none := I1.hok.fresh (Nat.le_refl _)
  refine ⟨.ref s1.heap.objs.size, upd H1 s1.heap.objs.size (.lst xs), I1.laid (t' := s1.toks) (fun b u e => Heap.get?_push_of_some _ e) (Nat.le_refl _) ?_, rfl, q _ hf⟩
  exact ⟨z, us, 0, r, Heap.get?_push_size _ rfl⟩
end

/-! ### what a def promises -/
/-- a def's promise: the bound arguments in the parameters' order, the heap, the wanted end, the wanted exception -/
abbrev Sp := List V → Hp → VK → XK → Prop
/-- how an exception lies behind a call (file 08 gives it): the callers' frames, abstract heap and state ahead of the call, the wish, the exception, the state -/
abbrev CXT := List Env → Hp → Shared → XK → Value → Shared → Prop

/-- the state at a call -/
structure Env0 (P : Program) (w : World) (K : PySem.W.Frag) (mg : Str → Option Value) (base : Heap) (A : Around) (outer : List Env) (s : Shared) (H : Hp) : Prop where
  frames : A.frames = some outer
  mod : Mod K mg base
  bs : ∀ b o, base.get? b = some o → s.heap.get? b = some o ∧ H b = none
  bsz : base.objs.size ≤ s.heap.objs.size
  funs : s.heap.FunFrames base outer
  frf : ∀ b ∈ frs outer, H b = none
  hok : HOk P w H s.heap
  bare : AllBare s.gens
/-- a call's end -/
def CE (outer : List Env) (P : Program) (w : World) (H : Hp) (s : Shared) (Q : VK) (u : Value) (s' : Shared) : Prop :=
  ∃ v H', s'.os = s.os ∧ AllBare s'.gens ∧ Un (frs outer) [] H H' s.heap s'.heap ∧ HOk P w H' s'.heap ∧ RelV v u ∧ Q v H'
def CR (CX : CXT) (outer : List Env) (P : Program) (w : World) (H : Hp) (s : Shared) (Q : VK) (E : XK) (r : Result) (s' : Shared) : Prop :=
  match r with
  | .ok (.ret u) => CE outer P w H s Q u s'
  | .ok _ => False
  | .error e => CX outer H s E e s'
structure FnOk (P : Program) (w : World) (K : PySem.W.Frag) (mg : Str → Option Value) (base : Heap) (CX : CXT) (k : Nat) (f : Addr) (fd : FuncData) (ps : List Str) (sp : Sp) : Prop where
  len : ∀ vs H Q E, sp vs H Q E → vs.length = ps.length
  run : ∀ (A : Around) (outer : List Env) (s : Shared) (H : Hp) (args : Args) (us : List Value) (vs : List V) (Q : VK) (E : XK), Room k A → Env0 P w K mg base A outer s H → BindsTo s fd args (ps.zip us) → Vals vs us → sp vs H Q E →
    codeAny (model P w) A (.call (.ref f) args) (CR CX outer P w H s Q E) s
theorem FnOk.mono {P : Program} {w : World} {K : PySem.W.Frag} {mg : Str → Option Value} {base : Heap} {CX : CXT} {j k : Nat} {f : Addr} {fd : FuncData} {ps : List Str} {sp : Sp} (F : FnOk P w K mg base CX j f fd ps sp) (h : j ≤ k) :
    FnOk P w K mg base CX k f fd ps sp := ⟨F.len, fun A outer s H args us vs Q E hr => F.run A outer s H args us vs Q E (hr.mono h)⟩
/-- a weaker promise -/
theorem FnOk.imp {P : Program} {w : World} {K : PySem.W.Frag} {mg : Str → Option Value} {base : Heap} {CX : CXT} {k : Nat} {f : Addr} {fd : FuncData} {ps : List Str} {sp sp' : Sp} (F : FnOk P w K mg base CX k f fd ps sp)
    (h : ∀ vs H Q E, sp' vs H Q E → sp vs H Q E) : FnOk P w K mg base CX k f fd ps sp' :=
  ⟨fun vs H Q E q => F.len vs H Q E (h _ _ _ _ q), fun A outer s H args us vs Q E hr he hb hv hs => F.run A outer s H args us vs Q E hr he hb hv (h _ _ _ _ hs)⟩

theorem Env0.make {P : Program} {w : World} {K : PySem.W.Frag} {mg : Str → Option Value} {base : Heap} {A : Around} {outer : List Env} {s : Shared} {H : Hp} (e : Env0 P w K mg base A outer s H) (C : Addr) (us : List Value) (kw : List (Str × Value)) :
    Env0 P w K mg base (A.under (.builtin "type.__call__" ⟨.ref C :: us, kw⟩)) outer s H := ⟨by first | exact e.frames | (simpa [Around.under, Code.envs, Code.isFrame, pushEnvs] using e.frames), e.mod, e.bs, e.bsz, e.funs, e.frf, e.hok, e.bare⟩
theorem Env0.in1 {P : Program} {w : World} {K : PySem.W.Frag} {mg : Str → Option Value} {base : Heap} {A : Around} {outer : List Env} {s : Shared} {H : Hp} (e : Env0 P w K mg base A outer s H) :
    Env0 P w K mg base A.in1 outer s H := ⟨e.frames, e.mod, e.bs, e.bsz, e.funs, e.frf, e.hok, e.bare⟩

section
variable {X : Cx} {pins : List (Addr × Obj)} {σ : St} {H : Hp} {s s' : Shared}
/-- from a body: what a callee wants -/
theorem Inv.env0 (I : Inv X pins σ H s) : Env0 X.prog X.w X.K X.mg X.base X.A X.stack s H :=
  ⟨I.ok.frames, I.ok.mod, I.bs, Nat.le_trans I.ok.bsz I.sz, I.stack, I.stkFree, I.hok, I.bare⟩
/-- behind a call -/
theorem Inv.after {Q : VK} {u : Value} (I : Inv X pins σ H s) (h : CE X.stack X.prog X.w H s Q u s') : EP X pins σ Q u s' := by
  obtain ⟨v, H', os, bare, un, hok, r, q⟩ := h
  obtain ⟨hh, g, d, t, os'⟩ := s'
  obtain rfl : os' = s.os := os
  exact ⟨v, H', I.call (h' := hh) (g' := g) (d' := d) (t' := t) (ch := []) un hok bare (fun b z => absurd z (by simp)), r, q⟩
end

/-! ### calls -/
/-- f(..): the written arguments, then the defaults dvs; E: what is wanted of an exception -/
def tCall (sp : Sp) (dvs : List V) (E : XK) (t : TA) : TE := fun σ H Q => t σ H fun vs H1 => sp (vs ++ dvs) H1 Q E
/-- o.m(..) of an instance of the class at C -/
def tMeth (C : Addr) (m : Str) (sp : Sp) (dvs : List V) (E : XK) (ta : TE) (t : TA) : TE := fun σ H Q => ta σ H fun x H1 => ∃ a dx fs, x = .ref a ∧ H1 a = some (.ins C dx fs) ∧ fs.lookup m = none ∧
  t σ H1 fun vs H2 => sp (x :: (vs ++ dvs)) H2 Q E
/-- C(..): a new instance and its dict, then __init__ -/
def tMake (C : Addr) (sp : Sp) (dvs : List V) (E : XK) (t : TA) : TE := fun σ H Q => t σ H fun vs H1 => ∀ x dx, H1 x = none → H1 dx = none → dx ≠ x →
  sp (.ref x :: (vs ++ dvs)) (upd (upd H1 dx (.own x)) x (.ins C dx [])) (fun v H2 => v = .non ∧ Q (.ref x) H2) E

/-- how the parameters are bound: us the positional arguments, kw the keywords' values by name, ds the defaults that fill up -/
def Binds (K : PySem.W.Frag) (fd : FuncData) (ps : List Str) (ds : List Value) : Prop :=
  ∀ (s : Shared) (us : List Value), K.In s.heap → (us ++ ds).length = ps.length → BindsTo s fd ⟨us, []⟩ (ps.zip (us ++ ds))
/-- every parameter is given -/
theorem Binds.all {K : PySem.W.Frag} {fd : FuncData} {ps : List Str} (h : ∀ us : List Value, us.length = ps.length → bindArgs fd ⟨us, []⟩ = pure (ps.zip us)) : Binds K fd ps [] := fun s us _ hl => by
  rw [List.append_nil] at hl ⊢
  exact .of_eq (h us hl)

/-- an exception of a callee reaches what this body wants of exceptions -/
def Passes (CX : CXT) (X : Cx) (E : XK) : Prop := ∀ (pins : List (Addr × Obj)) (σ : St) (H : Hp) (s : Shared) (e : Value) (s' : Shared), Inv X pins σ H s → CX X.stack H s E e s' → X.xe e s'

section
variable {X : Cx} {CX : CXT} {k : Nat} {f C : Addr} {fd : FuncData} {ps : List Str} {sp : Sp} {dvs : List V} {ds : List Value} {E : XK} {x m : Str} {p pos apos : Pos} {e o : Expr} {es : List Expr} {ta : TE} {t : TA}

/-- the callee runs -/
theorem run_fn {pins : List (Addr × Obj)} {σ : St} {H : Hp} {s : Shared} {Q : VK} {us : List Value} {vs : List V} (F : FnOk X.prog X.w X.K X.mg X.base CX k f fd ps sp) (hr : Room k X.A) (hb : Binds X.K fd ps ds) (hd : Vals dvs ds) (hx : Passes CX X E)
    (I : Inv X pins σ H s) (r : Vals vs us) (h : sp (vs ++ dvs) H Q E) : wpAny (model X.prog X.w) X.A (call (.ref f) us) (EP X pins σ Q) X.xe s := by
  have r2 : Vals (vs ++ dvs) (us ++ ds) := r.append hd
  have hl : (us ++ ds).length = ps.length := by rw [← r2.length]; exact F.len _ _ _ _ h
  refine wpAny_call (codeAny_mono (F.run X.A X.stack s H ⟨us, []⟩ (us ++ ds) (vs ++ dvs) Q E hr I.env0 (hb s us I.kIn hl) r2 h) fun r s' hq => ?_)
  cases r with
  | error e => exact hx pins σ H s e s' I hq
  | ok fl =>
    cases fl with
    | ret u => exact I.after hq
    | next => exact False.elim hq
    | brk => exact False.elim hq
    | cont => exact False.elim hq

theorem pe_call (F : FnOk X.prog X.w X.K X.mg X.base CX k f fd ps sp) (hr : Room k X.A) (hg : Gl X x) (hm : X.mg x = some (.ref f)) (hk : PySem.W.keepIn X.K (.ref f) = true) (hb : Binds X.K fd ps ds) (hd : Vals dvs ds) (hx : Passes CX X E)
    (ha : PA X (e :: es) t) (hdb : (x == ("__debug__" : Str)) = false := by decide) (he : starEach (e :: es) X.env = (false, eval e X.env) :: starEach es X.env := by rfl) (hpl : (backTo pos (starEach es X.env)).any (·.1) = false := by rfl) :
    PE X (.Call (.Name x p) (e :: es) [] pos) (tCall sp dvs E t) := by
  intro pins s σ H Q I h
  refine wpAny_Call_Name_kw (ld_glob I hg hm ?_ hdb)
  refine PySem.W.callWith_K (h₀ := X.base) I.ok.mod.kin hk (thn (ha pos pins s σ H _ I h) fun us s1 ⟨vs, H1, I1, r, q⟩ => ⟨I1.kIn, ?_⟩) he hpl
  exact run_fn F hr hb hd hx I1 r q
theorem pe_call0 (F : FnOk X.prog X.w X.K X.mg X.base CX k f fd ps sp) (hr : Room k X.A) (hg : Gl X x) (hm : X.mg x = some (.ref f)) (hk : PySem.W.keepIn X.K (.ref f) = true) (hb : Binds X.K fd ps ds) (hd : Vals dvs ds) (hx : Passes CX X E)
    (hdb : (x == ("__debug__" : Str)) = false := by decide) : PE X (.Call (.Name x p) [] [] pos) (tCall sp dvs E tNil) := by
  intro pins s σ H Q I h
  refine wpAny_Call_Name_kw (ld_glob I hg hm ?_ hdb)
  exact PySem.W.callWith_K0 I.kIn hk (run_fn (us := []) F hr hb hd hx I .nil h)

/-- o.m(e, ..) -/
theorem pe_meth {pl : Sem Bool} (he : PE X o ta) (c : Cls X.K C) (hm : Meth X.K C m f) (F : FnOk X.prog X.w X.K X.mg X.base CX k f fd ps sp) (hr : Room k X.A) (hb : Binds X.K fd ps ds) (hd : Vals dvs ds) (hx : Passes CX X E) (ha : PA X (e :: es) t)
    (hst : starEach (e :: es) X.env = (false, eval e X.env) :: starEach es X.env := by rfl) (hpl : (backTo pos (starEach es X.env)).any (·.1) = false := by rfl)
    (ht : eval (.Call (.Attribute o m apos) (e :: es) [] pos) X.env = (do
      let ov ← eval o X.env
      standAt apos.atName
      let (f, first) ← holding [ov] (getMethod ov m pl)
      callWith pos f first (backTo pos (starEach (e :: es) X.env)) (backToKw pos (keywordEach [] X.env))) := by rfl) :
    PE X (.Call (.Attribute o m apos) (e :: es) [] pos) (tMeth C m sp dvs E ta t) := by
  intro pins s σ H Q I h
  refine PySem.W.methodCall_KW (pl := pl) (thn (he pins s σ H _ I h) fun u s1 ⟨x, H1, I1, rx, a, dx, fs, ex, ea, l, q⟩ => ?_) ht
  subst ex
  obtain rfl : u = Value.ref a := rx
  refine getmeth_ok I1 ea c hm l ?_
  refine PySem.W.callWith_K (first := [.ref a]) (h₀ := X.base) I.ok.mod.kin hm.kp (thn (ha pos pins s1 σ H1 _ I1 q) fun us s2 ⟨vs, H2, I2, r, q2⟩ => ⟨I2.kIn, ?_⟩) hst hpl
  exact run_fn (us := .ref a :: us) (vs := .ref a :: vs) F hr hb hd hx I2 (.cons rfl r) q2
/-- o.m() -/
theorem pe_meth0 {pl : Sem Bool} (he : PE X o ta) (c : Cls X.K C) (hm : Meth X.K C m f) (F : FnOk X.prog X.w X.K X.mg X.base CX k f fd ps sp) (hr : Room k X.A) (hb : Binds X.K fd ps ds) (hd : Vals dvs ds) (hx : Passes CX X E)
    (ht : eval (.Call (.Attribute o m apos) [] [] pos) X.env = (do
      let ov ← eval o X.env
      standAt apos.atName
      let (f, first) ← holding [ov] (getMethod ov m pl)
      callWith pos f first (backTo pos (starEach [] X.env)) (backToKw pos (keywordEach [] X.env))) := by rfl) :
    PE X (.Call (.Attribute o m apos) [] [] pos) (tMeth C m sp dvs E ta tNil) := by
  intro pins s σ H Q I h
  refine PySem.W.methodCall_KW (pl := pl) (thn (he pins s σ H _ I h) fun u s1 ⟨x, H1, I1, rx, a, dx, fs, ex, ea, l, q⟩ => ?_) ht
  subst ex
  obtain rfl : u = Value.ref a := rx
  refine getmeth_ok I1 ea c hm l ?_
  exact PySem.W.callWith_K0 (first := [.ref a]) I1.kIn hm.kp (run_fn (us := [.ref a]) (vs := [.ref a]) F hr hb hd hx I1 (.cons rfl .nil) q)

/-- what a class must have to be made -/
structure Mk (K : PySem.W.Frag) (C f : Addr) : Prop where
  makes : PySem.W.makesIn K C = true
  init : PySem.W.findIn K (.ref C) "__init__" = some (some (.ref f))
  fn : PySem.W.isFn K (.ref f) = true
  kp : PySem.W.keepIn K (.ref C) = true

theorem run_make {pins : List (Addr × Obj)} {σ : St} {H : Hp} {s : Shared} {Q : VK} {us : List Value} {vs : List V} (M : Mk X.K C f) (F : FnOk X.prog X.w X.K X.mg X.base CX k f fd ps sp) (hr : Room (k + 1) X.A) (hb : Binds X.K fd ps ds) (hd : Vals dvs ds)
    (hx : Passes CX X E) (I : Inv X pins σ H s) (r : Vals vs us)
    (h : ∀ x dx, H x = none → H dx = none → dx ≠ x → sp (.ref x :: (vs ++ dvs)) (upd (upd H dx (.own x)) x (.ins C dx [])) (fun v H2 => v = .non ∧ Q (.ref x) H2) E) :
    wpAny (model X.prog X.w) X.A (call (.ref C) us) (EP X pins σ Q) X.xe s := by
  have hq := h (s.heap.objs.size + 1) s.heap.objs.size (I.hok.fresh (Nat.le_succ _)) (I.hok.fresh (Nat.le_refl _)) (Nat.ne_of_lt (Nat.lt_succ_self _))
  have I2 := Inv.made (C := C) I
  have r2 : Vals (V.ref (s.heap.objs.size + 1) :: (vs ++ dvs)) (Value.ref (s.heap.objs.size + 1) :: (us ++ ds)) := .cons rfl (r.append hd)
  have hl : (Value.ref (s.heap.objs.size + 1) :: us ++ ds).length = ps.length := by
    have e := r2.length
    rw [F.len _ _ _ _ hq] at e
    exact e.symm
  refine wpAny_call (make_map (f := f) I.kIn M.makes M.init (beq_iff_eq.mp M.fn) (codeAny_mono (F.run _ X.stack _ _ ⟨Value.ref (s.heap.objs.size + 1) :: us, []⟩ (Value.ref (s.heap.objs.size + 1) :: (us ++ ds)) _ _ E (hr.make C us [])
    (I2.env0.make C us []) (hb _ (Value.ref (s.heap.objs.size + 1) :: us) I2.kIn hl) r2 hq) fun r s' hq' => ?_))
  cases r with
  | error e => exact hx pins σ _ _ e s' I2 hq'
  | ok fl =>
    cases fl with
    | ret u =>
      obtain ⟨v, H', I3, rv, ev, q3⟩ := I2.after hq'
      subst ev
      exact ⟨rv, ⟨V.ref (s.heap.objs.size + 1), H', I3, rfl, q3⟩⟩
    | next => exact False.elim hq'
    | brk => exact False.elim hq'
    | cont => exact False.elim hq'
theorem pe_make (M : Mk X.K C f) (F : FnOk X.prog X.w X.K X.mg X.base CX k f fd ps sp) (hr : Room (k + 1) X.A) (hg : Gl X x) (hm : X.mg x = some (.ref C)) (hb : Binds X.K fd ps ds) (hd : Vals dvs ds) (hx : Passes CX X E)
    (ha : PA X (e :: es) t) (hdb : (x == ("__debug__" : Str)) = false := by decide) (he : starEach (e :: es) X.env = (false, eval e X.env) :: starEach es X.env := by rfl) (hpl : (backTo pos (starEach es X.env)).any (·.1) = false := by rfl) :
    PE X (.Call (.Name x p) (e :: es) [] pos) (tMake C sp dvs E t) := by
  intro pins s σ H Q I h
  refine wpAny_Call_Name_kw (ld_glob I hg hm ?_ hdb)
  refine PySem.W.callWith_K (h₀ := X.base) I.ok.mod.kin M.kp (thn (ha pos pins s σ H _ I h) fun us s1 ⟨vs, H1, I1, r, q⟩ => ⟨I1.kIn, ?_⟩) he hpl
  exact run_make M F hr hb hd hx I1 r q
theorem pe_make0 (M : Mk X.K C f) (F : FnOk X.prog X.w X.K X.mg X.base CX k f fd ps sp) (hr : Room (k + 1) X.A) (hg : Gl X x) (hm : X.mg x = some (.ref C)) (hb : Binds X.K fd ps ds) (hd : Vals dvs ds) (hx : Passes CX X E)
    (hdb : (x == ("__debug__" : Str)) = false := by decide) : PE X (.Call (.Name x p) [] [] pos) (tMake C sp dvs E tNil) := by
  intro pins s σ H Q I h
  refine wpAny_Call_Name_kw (ld_glob I hg hm ?_ hdb)
  exact PySem.W.callWith_K0 I.kIn M.kp (run_make (us := []) M F hr hb hd hx I .nil h)
end

/-! ### keywords -/
/-- the values of the keywords, from the left -/
def PK (X : Cx) (kws : List Keyword) (t : TA) : Prop :=
  ∀ (pos : Pos) (pins : List (Addr × Obj)) (s : Shared) (σ : St) (H : Hp) (Q : List V → Hp → Prop), Inv X pins σ H s → t σ H Q → wpAny (model X.prog X.w) X.A (evalAll ((backToKw pos (keywordEach kws X.env)).map (·.2))) (AP X pins σ Q) X.xe s
section
variable {X : Cx} {CX : CXT} {k : Nat} {f C : Addr} {fd : FuncData} {ps ks : List Str} {sp : Sp} {E : XK} {x m : Str} {p pos apos kpos : Pos} {e o : Expr} {es : List Expr} {kws : List Keyword} {te ta : TE} {t tk : TA} {nm : Option Str}
theorem pk_nil : PK X [] tNil := fun _ _ _ _ H Q I h => wpAny_evalAll_nil ⟨[], H, I, .nil, h⟩
theorem pk_cons (ha : PE X e te) (hr : PK X kws t) : PK X (⟨nm, e, kpos⟩ :: kws) (tCons te t) := by
  intro pos pins s σ H Q I h
  show wpAny _ _ (evalAll ((do let v ← eval e X.env; standAt pos; pure v) :: (backToKw pos (keywordEach kws X.env)).map (·.2))) _ _ s
  refine wpAny_evalAll_cons (wpAny_bind (thn (ha pins s σ H _ I h) fun u s1 ⟨x, H1, I1, r1, q1⟩ => wpAny_bind (wpAny_standAt (wpAny_pure ?_))))
  exact thn (hr pos pins s1 σ H1 _ I1 q1) fun us s2 ⟨xs, H2, I2, r2, q2⟩ => ⟨x :: xs, H2, I2, .cons r1 r2, q2⟩

/-- how a call with keywords binds: g puts the positional values us and the keywords' values ws (names ks) in the parameters' order, defaults among them -/
structure KBinds (K : PySem.W.Frag) (fd : FuncData) (ps ks : List Str) (g : List Value → List Value → List Value) (gV : List V → List V → List V) : Prop where
  to : ∀ (s : Shared) (us ws : List Value), K.In s.heap → (g us ws).length = ps.length → BindsTo s fd ⟨us, ks.zip ws⟩ (ps.zip (g us ws))
  rel : ∀ {vs : List V} {us : List Value} {zs : List V} {ws : List Value}, Vals vs us → Vals zs ws → Vals (gV vs zs) (g us ws)
def tCallK (sp : Sp) (gV : List V → List V → List V) (E : XK) (t tk : TA) : TE := fun σ H Q => t σ H fun vs H1 => tk σ H1 fun zs H2 => sp (gV vs zs) H2 Q E
variable {g : List Value → List Value → List Value} {gV : List V → List V → List V}
theorem run_fnk {pins : List (Addr × Obj)} {σ : St} {H : Hp} {s : Shared} {Q : VK} {us ws : List Value} {vs zs : List V} (F : FnOk X.prog X.w X.K X.mg X.base CX k f fd ps sp) (hr : Room k X.A) (hb : KBinds X.K fd ps ks g gV) (hx : Passes CX X E)
    (I : Inv X pins σ H s) (r : Vals vs us) (rz : Vals zs ws) (h : sp (gV vs zs) H Q E) : wpAny (model X.prog X.w) X.A (call (.ref f) us (ks.zip ws)) (EP X pins σ Q) X.xe s := by
  have r2 := hb.rel r rz
  have hl : (g us ws).length = ps.length := by rw [← r2.length]; exact F.len _ _ _ _ h
  refine wpAny_call (codeAny_mono (F.run X.A X.stack s H ⟨us, ks.zip ws⟩ (g us ws) (gV vs zs) Q E hr I.env0 (hb.to s us ws I.kIn hl) r2 h) fun r s' hq => ?_)
  cases r with
  | error e => exact hx pins σ H s e s' I hq
  | ok fl =>
    cases fl with
    | ret u => exact I.after hq
    | next => exact False.elim hq
    | brk => exact False.elim hq
    | cont => exact False.elim hq
/-- f(e, .., k = v, ..) -/
theorem pe_callK (F : FnOk X.prog X.w X.K X.mg X.base CX k f fd ps sp) (hr : Room k X.A) (hg : Gl X x) (hm : X.mg x = some (.ref f)) (hk : PySem.W.keepIn X.K (.ref f) = true) (hb : KBinds X.K fd ps ks g gV) (hx : Passes CX X E)
    (ha : PA X (e :: es) t) (hkw : PK X kws tk) (hall : (backToKw pos (keywordEach kws X.env)).all (·.1.isSome) = true := by rfl) (hks : (backToKw pos (keywordEach kws X.env)).filterMap (·.1) = ks := by rfl)
    (hdb : (x == ("__debug__" : Str)) = false := by decide) (he : starEach (e :: es) X.env = (false, eval e X.env) :: starEach es X.env := by rfl)
    (hpl : ((backTo pos (starEach (e :: es) X.env)).any (·.1) || (backToKw pos (keywordEach kws X.env)).any (·.1.isNone)) = false := by rfl) :
    PE X (.Call (.Name x p) (e :: es) kws pos) (tCallK sp gV E t tk) := by
  intro pins s σ H Q I h
  refine wpAny_Call_Name_kw (ld_glob I hg hm ?_ hdb)
  refine PySem.W.callWith_KW (h₀ := X.base) I.ok.mod.kin hk hall (thn (ha pos pins s σ H _ I h) fun us s1 ⟨vs, H1, I1, r, q⟩ => ?_) hpl he
  refine thn (hkw pos pins s1 σ H1 _ I1 q) fun ws s2 ⟨zs, H2, I2, rz, q2⟩ => ⟨I2.kIn, ?_⟩
  rw [hks]
  exact run_fnk F hr hb hx I2 r rz q2
end

/-! ### a def's body keeps its promise -/
/-- names: the parameters first -/
structure FnScope (N P : List Str) (sc : Scope) : Prop where
  kind : sc.kind = .function
  co : sc.isCoroutine = false
  gen : sc.isGenerator = false
  nd : N.Nodup
  pre : N.take P.length = P
  par : ∀ x ∈ P, sc.names.lookup x = some .local ∨ sc.names.lookup x = some .cell
  nofree : ∀ y ∈ sc.names, y.2 ≠ .free

theorem bindL_out {kindOf : Str → Option NameKind} {x : Str} : ∀ {binds : List (Str × Value)} {m : Str → Option Value}, (∀ v, (x, v) ∉ binds) → bindL kindOf binds m x = m x
  | [], _, _ => rfl
  | (n, v) :: r, m, h => by
    unfold bindL
    rw [bindL_out fun w hw => h w (List.mem_cons_of_mem _ hw)]
    split
    · have : x ≠ n := by rintro rfl; exact h v List.mem_cons_self
      simp [this]
    · rfl
theorem bindC_out {kindOf : Str → Option NameKind} {x : Str} : ∀ {binds : List (Str × Value)} {m : Str → Option Value}, (∀ v, (x, v) ∉ binds) → bindC kindOf binds m x = m x
  | [], _, _ => rfl
  | (n, v) :: r, m, h => by
    unfold bindC
    rw [bindC_out fun w hw => h w (List.mem_cons_of_mem _ hw)]
    split
    · rfl
    · have : x ≠ n := by rintro rfl; exact h v List.mem_cons_self
      simp [this]
theorem bindL_get {kindOf : Str → Option NameKind} {x : Str} {v : Value} : ∀ {P : List Str} {vs : List Value} {i : Nat} {m : Str → Option Value}, P.Nodup → P[i]? = some x → vs[i]? = some v → kindOf x = some .local →
    bindL kindOf (P.zip vs) m x = some v
  | [], _, _, _, _, h, _, _ => by simp at h
  | _ :: _, [], _, _, _, _, h, _ => by simp at h
  | p :: P, w :: vs, 0, m, nd, h1, h2, hk => by
    simp at h1 h2; subst h1; subst h2
    show bindL kindOf ((p, w) :: P.zip vs) m p = _
    unfold bindL
    rw [bindL_out fun v hv => (List.nodup_cons.mp nd).1 (List.of_mem_zip hv).1, if_pos hk]
    simp
  | p :: P, w :: vs, i + 1, m, nd, h1, h2, hk => by
    show bindL kindOf ((p, w) :: P.zip vs) m x = _
    unfold bindL
    exact bindL_get (i := i) (List.nodup_cons.mp nd).2 (by simpa using h1) (by simpa using h2) hk
theorem bindC_get {kindOf : Str → Option NameKind} {x : Str} {v : Value} : ∀ {P : List Str} {vs : List Value} {i : Nat} {m : Str → Option Value}, P.Nodup → P[i]? = some x → vs[i]? = some v → kindOf x ≠ some .local →
    bindC kindOf (P.zip vs) m x = some v
  | [], _, _, _, _, h, _, _ => by simp at h
  | _ :: _, [], _, _, _, _, h, _ => by simp at h
  | p :: P, w :: vs, 0, m, nd, h1, h2, hk => by
    simp at h1 h2; subst h1; subst h2
    show bindC kindOf ((p, w) :: P.zip vs) m p = _
    unfold bindC
    rw [bindC_out fun v hv => (List.nodup_cons.mp nd).1 (List.of_mem_zip hv).1, if_neg hk]
    simp
  | p :: P, w :: vs, i + 1, m, nd, h1, h2, hk => by
    show bindC kindOf ((p, w) :: P.zip vs) m x = _
    unfold bindC
    exact bindC_get (i := i) (List.nodup_cons.mp nd).2 (by simpa using h1) (by simpa using h2) hk

/-- the names' values at the entry -/
def start (N : List Str) (vs : List V) : St := vs.map some ++ List.replicate (N.length - vs.length) none

/-- the context of a def's body, at its entry; an exception leaves the frame, then lies as CX says -/
def cxOf (CX : CXT) (P : Program) (w : World) (K : PySem.W.Frag) (mg : Str → Option Value) (base : Heap) (N : List Str) (qual : Str) (scope : Scope) (f : Addr) (cd : Value) (A : Around) (outer : List Env) (s : Shared) (H : Hp) (E : XK) : Cx where
  prog := P
  w := w
  K := K
  mg := mg
  base := base
  A := A.deeper (envOfC qual scope s.heap.objs.size f cd)
  N := N
  s₀ := s
  H₀ := H
  env := envOfC qual scope s.heap.objs.size f cd
  outer := outer
  stack := envOfC qual scope s.heap.objs.size f cd :: outer
  ex := []
  calm := true
  fn := fun _ => true
  pn := []
  xe := fun e s' => wpAny (model P w) (A.deeper (envOfC qual scope s.heap.objs.size f cd)) (leaving (envOfC qual scope s.heap.objs.size f cd) e) (fun _ s'' => CX outer H s E e s'') (fun e' s'' => CX outer H s E e' s'') s'

theorem cell_has {sc : Scope} {n : Nat} {x : Str} (h : sc.names.lookup x = some .cell) : ∃ c, (cellsFrom n sc.names []).lookup x = some c := by
  have q := PySem.W.cellsFrom_some sc.names n [] (.inl h)
  exact Option.isSome_iff_exists.mp q

theorem inv_start {CX : CXT} {P : Program} {w : World} {K : PySem.W.Frag} {mg : Str → Option Value} {base : Heap} {N ps : List Str} {qual : Str} {scope : Scope} {f : Addr} {cd : Value} {A : Around} {outer : List Env} {s s1 : Shared} {H : Hp} {E : XK} {us : List Value} {vs : List V}
    (S : FnScope N ps scope) (hd : A.handled = none) (e0 : Env0 P w K mg base A outer s H) (hl : vs.length = ps.length) (r : Vals vs us)
    (x : InCallC s s.heap.objs.size (bindL (envOfC qual scope s.heap.objs.size f cd).kindOf (ps.zip us) fun _ => none) (cellsFrom (s.heap.objs.size + 1) scope.names []) (bindC (envOfC qual scope s.heap.objs.size f cd).kindOf (ps.zip us) fun _ => none) s1) :
    Inv (cxOf CX P w K mg base N qual scope f cd A outer s H E) [] (start N vs) H s1 := by
  have hpl : ps.length ≤ N.length := by have := congrArg List.length S.pre; rw [List.length_take] at this; omega
  obtain ⟨h1, tk, rfl, hk⟩ := x.done
  have noA : ∀ b : Addr, b ∉ (cxOf CX P w K mg base N qual scope f cd A outer s H E).ex := fun b z => absurd (show b ∈ ([] : List Addr) from z) (by simp)
  refine ⟨⟨e0.mod, S.kind, rfl, rfl, Nat.le_refl _, fun y z c h1 h2 => ?_, fun y hy => ?_, fun y c _ h => ?_, fun _ => hd, Around.frames_deeper e0.frames, .inr ⟨rfl, rfl⟩, fun b z => absurd z (noA b), e0.bs, e0.bsz, fun b _ _ => noA b, fun b z => absurd z (noA b), e0.funs, e0.frf⟩,
    rfl, e0.bare, Un.kept hk, ⟨_, x.toInCall.ns, fun i y v h1 h2 h3 => ?_⟩, fun y c h => ⟨_, x.cell y c h⟩, e0.hok.fresh (Nat.le_refl _), fun y c h => ?_, fun p hp => absurd (show p ∈ ([] : List (Addr × Obj)) from hp) (by simp), e0.hok.kept hk, ?_⟩
  · exact name_of_addr x.apart (PySem.mem_of_lookup h1) (PySem.mem_of_lookup h2)
  · have hy : scope.names.lookup y = some .cell ∨ scope.names.lookup y = some .free := hy
    rcases hy with hy | hy
    · exact cell_has hy
    · exact absurd rfl (S.nofree _ (PySem.mem_of_lookup hy))
  · exact Nat.le_of_lt (x.above y c (PySem.mem_of_lookup h))
  · have hi : i < vs.length := by
      unfold start at h2
      by_cases hi : i < vs.length
      · exact hi
      · rw [List.getElem?_append_right (by simpa using hi)] at h2
        rw [List.getElem?_replicate] at h2
        split at h2 <;> cases h2
    have ha : vs[i]? = some v := by
      unfold start at h2
      rw [List.getElem?_append_left (by simpa using hi), List.getElem?_map] at h2
      cases e : vs[i]? with
      | none => rw [e] at h2; cases h2
      | some a => rw [e] at h2; cases h2; rfl
    obtain ⟨u, hu, rv⟩ := r.get ha
    have hp : ps[i]? = some y := by
      rw [← S.pre, List.getElem?_take_of_lt (by omega)]; exact h1
    have ndP : ps.Nodup := by rw [← S.pre]; exact S.nd.sublist (List.take_sublist _ _)
    refine ⟨u, rv, ?_⟩
    rcases S.par y (List.mem_of_getElem? hp) with k | k
    · exact .inl ⟨k, bindL_get ndP hp hu k⟩
    · obtain ⟨c, e⟩ := cell_has (n := s.heap.objs.size + 1) k
      refine .inr ⟨.inl k, c, e, ?_⟩
      have q := x.cell y c e
      rw [bindC_get ndP hp hu (by show scope.names.lookup y ≠ _; rw [k]; decide)] at q
      exact q
  · exact e0.hok.fresh (Nat.le_of_lt (x.above y c (PySem.mem_of_lookup h)))
  · unfold start
    show _ = N.length
    rw [List.length_append, List.length_map, List.length_replicate]
    omega

/-- THE RULE: a def (or a method) of the text, by its body. The body's reading t is chosen for each entry; it is run at the parameters' values -/
theorem fn_of {CX : CXT} {P : Program} {w : World} {K : PySem.W.Frag} {mg : Str → Option Value} {base : Heap} {k : Nat} {f : Addr} {name qual : Str} {params : Arguments} {body : List Stmt} {scope : Scope} {dV kV doc pm cdv ct oc : Value} {an od : Option Addr}
    {osl : Array (Option Value)} {N ps : List Str} {sp : Sp} (lk : K.lookup f = some ⟨oc, od, .func (PySem.W.fnOf name qual params body scope dV kV doc pm an cdv ct), osl⟩) (hcd : PySem.W.codeIn K cdv qual = true) (S : FnScope N ps scope)
    (len : ∀ vs H Q E, sp vs H Q E → vs.length = ps.length)
    (hbody : ∀ (A : Around) (outer : List Env) (s : Shared) (H : Hp) (vs : List V) (Q : VK) (E : XK), Room k (A.deeper (envOfC qual scope s.heap.objs.size f cdv)) → sp vs H Q E →
      ∃ t, PSs (cxOf CX P w K mg base N qual scope f cdv A outer s H E) body t ∧ t { nx := fun _ H' => Q .non H', rt := Q } (start N vs) H) :
    FnOk P w K mg base CX (k + 1) f (PySem.W.fnOf name qual params body scope dV kV doc pm an cdv ct) ps sp := by
  refine ⟨len, fun A outer s H args us vs Q E hr e0 hb r hsp => ?_⟩
  have hl := len _ _ _ _ hsp
  have KX : K.In s.heap := e0.mod.kin.keeps fun b o e => (e0.bs b o e).1
  have lim : s.heap.NoLimit := e0.mod.nolimit.keeps fun b o e => (e0.bs b o e).1
  have hkind : ∀ y ∈ ps.zip us, scope.names.lookup y.1 = some .local ∨ (scope.names.lookup y.1 = some .cell ∧ ((cellsFrom (s.heap.objs.size + 1) scope.names []).lookup y.1).isSome = true) := fun ⟨n, v⟩ hy => by
    rcases S.par n (List.of_mem_zip hy).1 with q | q
    · exact .inl q
    · exact .inr ⟨q, PySem.W.cellsFrom_some _ _ _ (.inl q)⟩
  refine codeAny_call_function hr.depth (KX _ _ lk) rfl S.co S.gen rfl (PySem.W.codeRec_of KX hcd) (hb _ _ _ _ ?_)
  refine wpAny_newFunctionEnv_cells S.kind hkind fun env he s1 x => ?_
  subst he
  refine ⟨lim.keeps x.toInCall.keep, codeAny_func ?_⟩
  obtain ⟨t, ht, hq⟩ := hbody A outer s H vs Q E (hr.deeper _) hsp
  have I : Inv (cxOf CX P w K mg base N qual scope f cdv A outer s H E) [] (start N vs) H s1 := inv_start S hr.hd e0 hl r x
  refine wpAny_mono (ht [] s1 (start N vs) H _ I hq) (fun fl s' hs => ?_) fun e s' hs => hs
  have fin : ∀ {σ' : St} {H' : Hp} {v : V} {u : Value}, Inv (cxOf CX P w K mg base N qual scope f cdv A outer s H E) [] σ' H' s' → RelV v u → Q v H' → CE outer P w H s Q u s' :=
    fun {σ' H' v u} J rv q => ⟨v, H', J.os, J.bare, J.base, J.hok, rv, q⟩
  cases fl with
  | ret u =>
    obtain ⟨v, σ', H', J, rv, q⟩ := hs
    exact fin J rv q
  | next =>
    obtain ⟨σ', H', J, q⟩ := hs
    exact fin (v := V.non) (u := Value.none) J rfl q
  | brk =>
    obtain ⟨_, _, _, q⟩ := hs
    exact False.elim q
  | cont =>
    obtain ⟨_, _, _, q⟩ := hs
    exact False.elim q
end L2

namespace L2
open PySem PySem.Spec PyProof.Rows
section
variable {X : Cx} {x : Str} {p pos : Pos} {e : Expr} {es : List Expr} {t : TA} {id T : String} {r : List V → Hp → VK → Prop}

def tCB (r : List V → Hp → VK → Prop) (t : TA) : TE := fun σ H Q => t σ H fun vs H1 => r vs H1 Q
/-- f(e, ..), f a built-in function -/
theorem pe_callB (hc : CallR X (.builtin id) r) (hg : Gl X x) (hm : X.mg x = none) (hv : bootBuiltins x = some (.builtin id)) (ha : PA X (e :: es) t) (hn : x ≠ "__name__" := by decide) (hdb : (x == ("__debug__" : Str)) = false := by decide)
    (he : starEach (e :: es) X.env = (false, eval e X.env) :: starEach es X.env := by rfl) (hpl : (backTo pos (starEach es X.env)).any (·.1) = false := by rfl) : PE X (.Call (.Name x p) (e :: es) [] pos) (tCB r t) := by
  intro pins s σ H Q I h
  refine wpAny_Call_Name_kw (ld_blt I hg hm hv ?_ hn hdb)
  exact PyProof.Rows.callWith_builtin1 (thn (ha pos pins s σ H _ I h) fun us s1 ⟨vs, H1, I1, r1, q1⟩ => hc pins s1 σ H1 vs us Q I1 r1 q1) he hpl
/-- T(e, ..), T a built-in type -/
theorem pe_callTy (hc : CallR X (.type T) r) (hg : Gl X x) (hm : X.mg x = none) (hv : bootBuiltins x = some (.type T)) (ha : PA X (e :: es) t) (hn : x ≠ "__name__" := by decide) (hdb : (x == ("__debug__" : Str)) = false := by decide)
    (he : starEach (e :: es) X.env = (false, eval e X.env) :: starEach es X.env := by rfl) (hpl : (backTo pos (starEach es X.env)).any (·.1) = false := by rfl) : PE X (.Call (.Name x p) (e :: es) [] pos) (tCB r t) := by
  intro pins s σ H Q I h
  refine wpAny_Call_Name_kw (ld_blt I hg hm hv ?_ hn hdb)
  exact PyProof.Rows.callWith_type1 (thn (ha pos pins s σ H _ I h) fun us s1 ⟨vs, H1, I1, r1, q1⟩ => hc pins s1 σ H1 vs us Q I1 r1 q1) he hpl
/-- T() -/
theorem pe_callTy0 (hc : CallR X (.type T) r) (hg : Gl X x) (hm : X.mg x = none) (hv : bootBuiltins x = some (.type T)) (hn : x ≠ "__name__" := by decide) (hdb : (x == ("__debug__" : Str)) = false := by decide) :
    PE X (.Call (.Name x p) [] [] pos) (tCB r tNil) := by
  intro pins s σ H Q I h
  refine wpAny_Call_Name_kw (ld_blt I hg hm hv ?_ hn hdb)
  exact PyProof.Rows.callWith_type0 (hc pins s σ H [] [] Q I .nil h)
end
end L2

namespace HT
open PySem PyProof.Rows

/-- t < u of tuples of ints -/
def lexLt : List Int → List Int → Bool
  | [], [] => false
  | [], _ :: _ => true
  | _ :: _, [] => false
  | x :: xs, y :: ys => if x = y then lexLt xs ys else decide (x < y)
theorem lexLt_cons (x y : Int) (xs ys : List Int) : lexLt (x :: xs) (y :: ys) = if x = y then lexLt xs ys else decide (x < y) := rfl
theorem lexLt_nil_nil : lexLt [] [] = false := rfl
theorem lexLt_nil_cons (y : Int) (ys : List Int) : lexLt [] (y :: ys) = true := rfl
theorem lexLt_cons_nil (x : Int) (xs : List Int) : lexLt (x :: xs) [] = false := rfl

theorem eqAt_int (A : Around) (s : Shared) (a : Int) (t : Tok) (c : Int) (u : Tok) : ∃ e, SeqAt.EqAt A s (.int a t) (.int c u) e ∧ (e = true ↔ a = c) :=
  ⟨(a == c), SeqAt.EqAt.int_int a t c u, by simp⟩
theorem rcLt_int (A : Around) (s : Shared) (a : Int) (t : Tok) (c : Int) (u : Tok) (prog : Program) (w : World) (E : Value → Shared → Prop) (Q : Value → Shared → Prop) (h : Q (.bool (decide (a < c))) s) :
    wpAny (model prog w) A (richCompare .Lt (.int a t) (.int c u)) Q E s :=
  (PyProof.Rows.lt_int h : wpAny (model prog w) A (compareOp .Lt (.int a t) (.int c u)) Q E s)

section
open PySem.SeqAt
open PySem.AutoSeq1 (wpAny_loadPart')
open PySem.MeetsSeq PySem.MeetsSeq2 PySem.MeetsSeq3

theorem tuple_lt_ints (l b : Addr) (items items2 : Array Value) (n n2 : Nat) (dd dd2 : Option Addr) (sl sl2 : Array (Option Value)) (ns ms : List Int) (hi : IntsAre items.toList ns) (hj : IntsAre items2.toList ms) :
    Meets (Builtin.«tuple.__lt__» ⟨[.ref l, .ref b], []⟩)
      (fun _ R s => s.heap.get? l = some { cls := .type "tuple", dict := dd, data := .seq items n, slots := sl } ∧ s.heap.get? b = some { cls := .type "tuple", dict := dd2, data := .seq items2 n2, slots := sl2 } ∧
        R (.ok (.ret (.bool (lexLt ns ms)))) s) :=
  .of_wp fun prog w A R s h => by
    obtain ⟨hp, g, d, tk, os⟩ := s; obtain ⟨hl, hb, h⟩ := h
    have f2 := AutoSeq1.sub_tuple_tuple
    have z1 : items.size = ns.length := by rw [← hi.length]; simp
    have z2 : items2.size = ms.length := by rw [← hj.length]; simp
    wp_walk using wpAny_loadPart' hl, wpAny_loadPart' hb, wpAny_forIn_list _ (fun rest b s' => b.1 = none ∧ s' = ⟨hp, g, d, tk, os⟩ ∧ ∃ (vs ws : List Value) (ns' ms' : List Int), rest = vs.zip ws ∧
      IntsAre vs ns' ∧ IntsAre ws ms' ∧ ns'.length + items2.size = ms'.length + items.size ∧ R (.ok (.ret (.bool (lexLt ns' ms')))) ⟨hp, g, d, tk, os⟩) _
    case turn =>
      rintro ⟨y, x⟩ rest b s' ⟨hb', rfl, vs, ws, ns', ms', hz, hvi, hwi, hlen, hR⟩
      cases hvi with
      | nil => rw [List.zip_nil_left] at hz; cases hz
      | cons a t hvi' =>
        cases hwi with
        | nil => rw [List.zip_nil_right] at hz; cases hz
        | cons c u hwi' =>
          rw [List.zip_cons_cons] at hz
          injection hz with hyx hrest
          injection hyx with hy hx
          subst hy hx
          rw [lexLt_cons] at hR
          simp only [List.length_cons] at hlen
          obtain ⟨e, he, hiff⟩ := eqAt_int A.in1 ⟨hp, g, d, tk, os⟩ a t c u
          refine wpAny_bind (he prog w _ _ ?_)
          cases e with
          | true =>
            rw [if_pos (hiff.mp rfl)] at hR
            wp_walk
            exact ⟨rfl, rfl, _, _, _, _, hrest, hvi', hwi', by omega, hR⟩
          | false =>
            rw [if_neg (fun q => absurd (hiff.mpr q) Bool.false_ne_true)] at hR
            have hri := rcLt_int A.in1 ⟨hp, g, d, tk, os⟩ a t c u prog w
            wp_walk using hri
            exact ⟨_, rfl, by simpa using hR⟩
    case fin =>
      rintro ⟨b1, b2⟩ s' ⟨hb', rfl, vs, ws, ns', ms', hz, hvi, hwi, hlen, hR⟩
      simp only at hb'
      subst hb'
      have hv : lexLt ns' ms' = decide (items.size < items2.size) := by
        cases hvi with
        | nil =>
          cases hwi with
          | nil =>
            simp only [List.length_nil] at hlen
            rw [lexLt_nil_nil]
            exact (decide_eq_false (by omega)).symm
          | cons c u hw =>
            simp only [List.length_nil, List.length_cons] at hlen
            rw [lexLt_nil_cons]
            exact (decide_eq_true (by omega)).symm
        | cons a t hv =>
          cases hwi with
          | nil =>
            simp only [List.length_nil, List.length_cons] at hlen
            rw [lexLt_cons_nil]
            exact (decide_eq_false (by omega)).symm
          | cons c u hw =>
            rw [List.zip_cons_cons] at hz
            cases hz
      rw [hv] at hR
      wp_walk
      exact ⟨_, rfl, by simpa [Builtin.Tuple.tupleCompareSizes] using hR⟩
    case h =>
      exact ⟨rfl, rfl, items.toList, items2.toList, ns, ms, rfl, hi, hj, by omega, h⟩
end

section
variable {prog : Program} {w : World} {A : Around} {E : Value → Shared → Prop} {s : Shared}

theorem lt_tupInts {l b : Addr} {items items2 : Array Value} {ns ms : List Int} {Q : Value → Shared → Prop} (hl : IsTup s.heap l items) (hb : IsTup s.heap b items2) (hi : IntsAre items.toList ns) (hj : IntsAre items2.toList ms)
    (hu : A.units < cLine) (h : Q (.bool (lexLt ns ms)) s) : wpAny (model prog w) A (compareOp .Lt (.ref l) (.ref b)) Q E s := by
  obtain ⟨⟨cls, dd, data, sl⟩, ho, hc, n, hd⟩ := id hl
  obtain ⟨⟨cls2, dd2, data2, sl2⟩, ho2, hc2, n2, hd2⟩ := id hb
  simp only at hc hd hc2 hd2
  subst hc hd hc2 hd2
  exact richCompare_meets_room (op := .Lt) ⟨_, ho, rfl⟩ ⟨_, ho2, rfl⟩ PySem.F.slot_tuple_lt PySem.F.entry_tuple_lt (PySem.F.args_tuple_lt_2 _ _) (tuple_lt_ints l b items items2 n n2 dd dd2 sl sl2 ns ms hi hj)
    ⟨ho, ho2, show Value.bool (lexLt ns ms) ≠ Value.notImplemented ∧ Q (.bool (lexLt ns ms)) s from ⟨(fun x => nomatch x), h⟩⟩ hu

/-- t + u, t not empty -/
theorem cat_tup {t b : Addr} {vs ws : List Value} {Q : Value → Shared → Prop} (ht : IsTup s.heap t vs.toArray) (hb : IsTup s.heap b ws.toArray) (hv : vs ≠ [])
    (h1 : ws = [] → Q (.ref t) s) (h2 : ws ≠ [] → Q (.ref s.heap.objs.size) { s with heap := s.heap.push { cls := .type "tuple", data := .seq (vs ++ ws).toArray } })
    (hsz : vs.length + ws.length ≤ sizeLine) : wpAny (model prog w) A (binaryOp .Add (.ref t) (.ref b)) Q E s := by
  obtain ⟨⟨cls, dd, data, sl⟩, ho, hc, n, hd⟩ := id ht
  obtain ⟨⟨cls2, dd2, data2, sl2⟩, ho2, hc2, n2, hd2⟩ := id hb
  simp only at hc hd hc2 hd2
  subst hc hd hc2 hd2
  have e : vs.toArray ++ ws.toArray = (vs ++ ws).toArray := by simp
  by_cases hw : ws = []
  · exact concat_meets ⟨_, ho, rfl⟩ ⟨_, ho2, rfl⟩ noFill_tuple_add seq_tuple_add PySem.F.slot_tuple_add PySem.F.entry_tuple_add (PySem.F.args_tuple_add_2 _ _)
      (tuple_addW1 t b vs.toArray ws.toArray n n2 dd dd2 sl sl2 (by simpa using hv) (by simp [hw])) ⟨ho, ho2, h1 hw⟩
  · refine concat_meets ⟨_, ho, rfl⟩ ⟨_, ho2, rfl⟩ noFill_tuple_add seq_tuple_add PySem.F.slot_tuple_add PySem.F.entry_tuple_add (PySem.F.args_tuple_add_2 _ _)
      (tuple_addW2 t b vs.toArray ws.toArray n n2 dd dd2 sl sl2 (by simpa using hv) (by simpa using hw) (by rw [List.size_toArray, List.size_toArray]; exact hsz)) ⟨ho, ho2, ?_⟩
    rw [e]
    exact h2 hw

/-! ### t[a:b], not the whole -/
/-- a slice's bound as a place among n (d where it is left out) -/
def sIx (n d : Nat) : Option Int → Nat
  | none => d
  | some v => if v < 0 then (v + (n : Int)).toNat else min v.toNat n
theorem sIx_none (n d : Nat) : sIx n d none = d := rfl
theorem sIx_nat (n d k : Nat) : sIx n d (some (k : Int)) = min k n := by
  show (if (k : Int) < 0 then ((k : Int) + (n : Int)).toNat else min (k : Int).toNat n) = min k n
  rw [if_neg (by omega), Int.toNat_natCast]
theorem sIx_le (n d : Nat) (hd : d ≤ n) (o : Option Int) : sIx n d o ≤ n := by
  cases o with
  | none => exact hd
  | some v =>
    show (if v < 0 then (v + (n : Int)).toNat else min v.toNat n) ≤ n
    by_cases hv : v < 0
    · rw [if_pos hv]; omega
    · rw [if_neg hv]; exact Nat.min_le_right _ _
theorem clip_eq (v : Int) (n d : Nat) : (if v < 0 then max (v + (n : Int)) 0 else min v (n : Int)) = ((sIx n d (some v) : Nat) : Int) := by
  show (if v < 0 then max (v + (n : Int)) 0 else min v (n : Int)) = (((if v < 0 then (v + (n : Int)).toNat else min v.toNat n) : Nat) : Int)
  by_cases hv : v < 0
  · simp only [if_pos hv]; omega
  · simp only [if_neg hv]; omega
theorem adjust_gen (lo hi : Option Int) (n : Nat) : Builtin.Slice.sliceAdjust lo hi 1 (n : Int) = (((sIx n 0 lo : Nat) : Int), ((sIx n n hi : Nat) : Int)) := by
  have h1 : ¬ ((1 : Int) < 0) := by omega
  unfold Builtin.Slice.sliceAdjust
  simp only [h1, if_false]
  refine Prod.ext ?_ ?_
  · cases lo with
    | none => rfl
    | some v => exact clip_eq v n 0
  · cases hi with
    | none => rfl
    | some v => exact clip_eq v n n
theorem places_gen (i j : Nat) : Builtin.Slice.slicePlaces (i : Int) (j : Int) 1 = j - i := by
  unfold Builtin.Slice.slicePlaces
  have h1 : (1 : Int) > 0 := by omega
  simp only [h1, if_true, Int.ediv_one]
  split <;> omega
theorem slicePart_ {v : Value} {o : Option Int} {Q : Option Int → Shared → Prop} (p : IsPart v o) (h : Q o s) : wpAny (model prog w) A (Builtin.Slice.slicePartIndex v) Q E s := by
  cases p with
  | none => exact slicePart_none h
  | int i t => exact slicePart_int h
theorem sliceApplied_gen {sl : Addr} {vl vu : Value} {lo hi : Option Int} {n : Nat} {Q : Int × Int × Nat → Shared → Prop} (hs : s.heap.IsSliceOf sl vl vu .none) (pl : IsPart vl lo) (pu : IsPart vu hi)
    (h : Q (((sIx n 0 lo : Nat) : Int), 1, sIx n n hi - sIx n 0 lo) s) : wpAny (model prog w) A (Builtin.Slice.sliceApplied (.ref sl) (pure (n : Int))) Q E s := by
  obtain ⟨os, hos, hcs, hds⟩ := id hs
  unfold Builtin.Slice.sliceApplied Builtin.Slice.sliceFields
  refine wpAny_bind (wpAny_bind (wpAny_field hos hds (x := vl) rfl (wpAny_bind (wpAny_field hos hds (x := vu) rfl (wpAny_bind (wpAny_field hos hds (x := .none) rfl (wpAny_pure ?_)))))))
  refine wpAny_bind (slicePart_none ?_)
  show wpAny _ _ (if ((1 : Int) == 0) = true then _ else _) _ _ s
  rw [if_neg (by decide)]
  refine wpAny_bind (slicePart_ pl (wpAny_bind (slicePart_ pu (wpAny_bind (wpAny_pure ?_)))))
  show wpAny _ _ (match Builtin.Slice.sliceAdjust lo hi 1 (n : Int) with | (lo, hi) => pure (lo, (1 : Int), Builtin.Slice.slicePlaces lo hi 1)) _ _ s
  rw [adjust_gen lo hi n]
  show wpAny _ _ (pure (((sIx n 0 lo : Nat) : Int), (1 : Int), Builtin.Slice.slicePlaces ((sIx n 0 lo : Nat) : Int) ((sIx n n hi : Nat) : Int) 1)) _ _ s
  rw [places_gen]
  exact wpAny_pure h
theorem pick_gen (xs : Array Value) (i k : Nat) : ((List.range k).filterMap fun (m : Nat) => xs[((i : Int) + (m : Int) * 1).toNat]?).toArray = ((xs.toList.drop i).take k).toArray := by
  have e : (fun (m : Nat) => xs[((i : Int) + (m : Int) * 1).toNat]?) = fun m => xs[i + m]? := by
    funext m
    have : ((i : Int) + (m : Int) * 1).toNat = i + m := by omega
    rw [this]
  rw [e]
  have := pick_run xs i k
  rw [List.filterMap_map] at this
  have e2 : ((fun x => xs[x]?) ∘ fun x => i + x) = fun m => xs[i + m]? := rfl
  rw [e2] at this
  rw [this]

theorem getItem_tuple_cut {t sl : Addr} {items : Array Value} {vl vu : Value} {lo hi : Option Int} {Q : Value → Shared → Prop} (ht : IsTup s.heap t items) (hs : s.heap.IsSliceOf sl vl vu .none) (pl : IsPart vl lo) (pu : IsPart vu hi)
    (hw : ¬ (sIx items.size 0 lo = 0 ∧ sIx items.size items.size hi = items.size))
    (h : Q (.ref s.heap.objs.size) { s with heap := s.heap.push { cls := .type "tuple", data := .seq ((items.toList.drop (sIx items.size 0 lo)).take (sIx items.size items.size hi - sIx items.size 0 lo)).toArray } })
    (hsz : items.size ≤ sizeLine) : wpAny (model prog w) A (getItem (.ref t) (.ref sl)) Q E s := by
  have htake : sizeOk (.seq ((items.toList.drop (sIx items.size 0 lo)).take (sIx items.size items.size hi - sIx items.size 0 lo)).toArray) := by
    show ((items.toList.drop (sIx items.size 0 lo)).take (sIx items.size items.size hi - sIx items.size 0 lo)).toArray.size ≤ sizeLine
    rw [List.size_toArray, List.length_take, List.length_drop, Array.length_toList]
    omega
  have hj : sIx items.size items.size hi ≤ items.size := sIx_le _ _ (Nat.le_refl _) hi
  obtain ⟨os, hos, hcs, hds⟩ := id hs
  have hTs : s.TypeIs (.ref sl) "slice" := ⟨os, hos, hcs⟩
  unfold getItem
  try with_reducible refine wpAny_holding ?_
  first | refine wpAny_bind (wpAny_pure ?_) | skip
  refine wpAny_bind (wpAny_sequenceKey ht.typeIs (by decide) ?_)
  refine wpAny_bind (wpAny_callSpecial?_slot (name := Str.ofString "__getitem__") ht.typeIs PyProof.Rows.slot_tuple_getitem
    (wpAny_call_entry PyProof.Rows.slot_tuple_getitem ht.typeIs entry_tuple_getitem ?_ (args_tuple_getitem _ _)))
  show wpAny _ _ (Builtin.Tuple.tupleItemsOf (.ref t) >>= _) _ _ s
  refine wpAny_bind (tupleItemsOf_ ht ?_)
  refine wpAny_bind (wpAny_typeOf hTs ?_)
  rw [if_pos (by decide)]
  refine wpAny_bind (sliceApplied_gen hs pl pu ?_)
  have hno : ¬ ((((sIx items.size 0 lo : Nat) : Int) == 0 && (1 : Int) == 1 && (sIx items.size items.size hi - sIx items.size 0 lo) == items.size) = true) := by
    intro q
    rw [Bool.and_eq_true, Bool.and_eq_true] at q
    have q1 : ((sIx items.size 0 lo : Nat) : Int) = 0 := eq_of_beq q.1.1
    have q2 : sIx items.size items.size hi - sIx items.size 0 lo = items.size := eq_of_beq q.2
    exact hw ⟨by omega, by omega⟩
  show wpAny _ _ (if (((sIx items.size 0 lo : Nat) : Int) == 0 && (1 : Int) == 1 && (sIx items.size items.size hi - sIx items.size 0 lo) == items.size) = true then _ else _) _ _ s
  rw [if_neg hno, pick_gen]
  first
    | exact wpAny_bind (m := Builtin.Tuple.tupleExact _) (wpAny_newObj_type (wpAny_pure ⟨_, rfl, wpAny_pure h⟩) htake)
    | exact wpAny_bind (m := Builtin.Tuple.tupleExact _) (wpAny_newObj_type (wpAny_bind (wpAny_pure (wpAny_pure ⟨_, rfl, wpAny_pure h⟩))) htake)
    | exact wpAny_bind (wpAny_bind (m := Builtin.Tuple.tupleExact _) (wpAny_newObj_type (wpAny_pure (wpAny_pure ⟨_, rfl, wpAny_pure h⟩)) htake))
    | exact wpAny_bind (wpAny_bind (m := Builtin.Tuple.tupleExact _) (wpAny_newObj_type (wpAny_pure ⟨_, rfl, wpAny_pure h⟩) htake))
end
end HT

namespace L2
open PySem PySem.Spec PyProof.Rows

/-! ### the parts of a slice -/
abbrev TO := St → Hp → (Option Int → Hp → Prop) → Prop
/-- a slice's part (left out, or an int) -/
def PO (X : Cx) (e : Option Expr) (t : TO) : Prop :=
  ∀ (pins : List (Addr × Obj)) (s : Shared) (σ : St) (H : Hp) (Q : Option Int → Hp → Prop), Inv X pins σ H s → t σ H Q →
    wpAny (model X.prog X.w) X.A (evalPart e X.env) (fun u s' => ∃ o H', Inv X pins σ H' s' ∧ IsPart u o ∧ Q o H') X.xe s
def tNoPart : TO := fun _ H Q => Q none H
def tPart (t : TE) : TO := fun σ H Q => t σ H fun x H1 => ∃ i, x = .int i ∧ Q (some i) H1

theorem intsAre_of {ns : List Int} : ∀ {us : List Value}, Vals (ns.map V.int) us → IntsAre us ns := by
  induction ns with
  | nil => intro us r; rw [List.map_nil] at r; cases r; exact .nil
  | cons n ns ih =>
    intro us r
    rw [List.map_cons] at r
    cases r with
    | cons r1 r2 =>
      obtain ⟨t, e⟩ := r1
      subst e
      exact .cons n t (ih r2)

section
variable {X : Cx} {e : Expr} {te : TE} {lo hi : Option Expr} {tl th : TO} {pos p2 : Pos}

theorem po_none : PO X none tNoPart := by
  intro pins s σ H Q I h
  rw [evalPart_none]
  exact wpAny_pure ⟨none, H, I, .none, h⟩
theorem po_some (h : PE X e te) : PO X (some e) (tPart te) := by
  intro pins s σ H Q I hw
  rw [evalPart_some]
  refine thn (h pins s σ H _ I hw) fun u s1 ⟨x, H1, I1, r1, q1⟩ => ?_
  obtain ⟨i, rfl, q⟩ := q1
  obtain ⟨t, rfl⟩ := r1
  exact ⟨some i, H1, I1, .int i t, q⟩

/-- what a slice of a value is, by values: the slice object stands at sl -/
def SlR (X : Cx) (r : V → Option Int → Option Int → Hp → VK → Prop) : Prop :=
  ∀ (pins : List (Addr × Obj)) (s : Shared) (σ : St) (H : Hp) (x : V) (v vl vu : Value) (lo hi : Option Int) (sl : Addr) (Q : VK), Inv X pins σ H s → RelV x v → s.heap.IsSliceOf sl vl vu .none → IsPart vl lo → IsPart vu hi → r x lo hi H Q →
    ∃ T id, typeLookup (.type T) "__getitem__" = pure (some (.builtin id)) ∧ s.TypeIs v T ∧ wpAny (model X.prog X.w) X.A (getItem v (.ref sl)) (EP X pins σ Q) X.xe s
theorem SlR.or {r r' : V → Option Int → Option Int → Hp → VK → Prop} (h : SlR X r) (h' : SlR X r') : SlR X (fun x lo hi H Q => r x lo hi H Q ∨ r' x lo hi H Q) := by
  intro pins s σ H x v vl vu lo hi sl Q I rx hs pl pu q
  rcases q with q | q
  · exact h pins s σ H x v vl vu lo hi sl Q I rx hs pl pu q
  · exact h' pins s σ H x v vl vu lo hi sl Q I rx hs pl pu q
def tSl (r : V → Option Int → Option Int → Hp → VK → Prop) (te : TE) (tl th : TO) : TE := fun σ H Q => te σ H fun x H1 => tl σ H1 fun l H2 => th σ H2 fun u H3 => r x l u H3 Q
/-- a[lo:hi], any a -/
theorem pe_slice {r : V → Option Int → Option Int → Hp → VK → Prop} (hr : SlR X r) (he : PE X e te) (hl : PO X lo tl) (hu : PO X hi th) : PE X (.Subscript e (.Slice lo hi none p2) pos) (tSl r te tl th) := by
  intro pins s σ H Q I h
  refine Subscript_ (thn (he pins s σ H _ I h) fun v s1 ⟨x, H1, I1, r1, q1⟩ => ?_)
  refine wpAny_Slice (thn (hl pins s1 σ H1 _ I1 q1) fun vl s2 ⟨l, H2, I2, pl, q2⟩ => thn (hu pins s2 σ H2 _ I2 q2) fun vu s3 ⟨u, H3, I3, pu, q3⟩ => ?_)
  rw [evalPart_none]
  refine wpAny_pure ?_
  have I4 : Inv X pins σ H3 { s3 with heap := s3.heap.push { cls := .type "slice", data := .fields #[vl, vu, .none] } } := I3.kept (t' := s3.toks) fun b ob q => Heap.get?_push_of_some _ q
  obtain ⟨T, id, hT, ht, hg⟩ := hr pins { s3 with heap := s3.heap.push { cls := .type "slice", data := .fields #[vl, vu, .none] } } σ H3 x v vl vu l u s3.heap.objs.size Q I4 r1 (Heap.IsSliceOf.new ..) pl pu q3
  show wpAny (model X.prog X.w) X.A (subscriptTail e (.Slice lo hi none p2) v (.ref s3.heap.objs.size)) (EP X pins σ Q) X.xe { s3 with heap := s3.heap.push { cls := .type "slice", data := .fields #[vl, vu, .none] } }
  exact tail_any (ops := [.ref s3.heap.objs.size, v]) ht hT hg (by with_unfolding_all rfl)

/-- the items of xs[lo:hi] -/
def cutV (xs : List V) (lo hi : Option Int) : List V := (xs.drop (HT.sIx xs.length 0 lo)).take (HT.sIx xs.length xs.length hi - HT.sIx xs.length 0 lo)
theorem cutV_length (xs : List V) (lo hi : Option Int) : (cutV xs lo hi).length ≤ xs.length := by
  unfold cutV
  rw [List.length_take, List.length_drop]
  omega
/-- t[lo:hi], not the whole of it (the whole would be t itself) -/
def rSlT (K : PySem.W.Frag) : V → Option Int → Option Int → Hp → VK → Prop := fun x lo hi H Q => ∃ a xs, x = .ref a ∧ SqT K H a xs ∧
  ¬ (HT.sIx xs.length 0 lo = 0 ∧ HT.sIx xs.length xs.length hi = xs.length) ∧ ∀ p, H p = none → Q (.ref p) (upd H p (.tup (cutV xs lo hi)))
theorem sl_tup : SlR X (rSlT X.K) := by
  intro pins s σ H x v vl vu lo hi sl Q I rx hs pl pu h
  obtain ⟨a, xs, rfl, hx, hw, q⟩ := h
  cases rx
  obtain ⟨its, r, ht, hz⟩ := I.tuple hx
  have hlen : its.toArray.size = xs.length := by rw [List.size_toArray]; exact r.length.symm
  refine ⟨"tuple", _, PyProof.Rows.slot_tuple_getitem.lookup, ht.typeIs, ?_⟩
  refine HT.getItem_tuple_cut ht hs pl pu (by rw [hlen]; exact hw) ?_ (by rw [hlen]; exact hz)
  rw [hlen]
  refine ⟨.ref s.heap.objs.size, _, I.laid (t' := s.toks) (o := .tup (cutV xs lo hi)) (fun b ob q => Heap.get?_push_of_some _ q) (Nat.le_refl _) ?_, rfl, q _ (I.hok.fresh (Nat.le_refl _))⟩
  exact ⟨Nat.le_trans (cutV_length xs lo hi) hz, _, (r.drop (HT.sIx xs.length 0 lo)).take (HT.sIx xs.length xs.length hi - HT.sIx xs.length 0 lo), IsTup.new _ _⟩

/-! ### t < u, t + u -/
def rLtT (K : PySem.W.Frag) : R2 := fun x y H Q => ∃ a b ns ms, x = .ref a ∧ y = .ref b ∧ SqT K H a (ns.map V.int) ∧ SqT K H b (ms.map V.int) ∧ Q (.bl (HT.lexLt ns ms)) H
theorem op_ltT (hu : X.A.units < cLine) : OpR X (compareOp .Lt) (rLtT X.K) := by
  intro pins s σ H x y v u Q I rx ry h
  obtain ⟨a, b, ns, ms, rfl, rfl, ha, hb, q⟩ := h
  cases rx
  cases ry
  obtain ⟨its, r1, p1, _⟩ := I.tuple ha
  obtain ⟨its2, r2, p2, _⟩ := I.tuple hb
  have i1 : IntsAre its.toArray.toList ns := intsAre_of r1
  have i2 : IntsAre its2.toArray.toList ms := intsAre_of r2
  exact HT.lt_tupInts p1 p2 i1 i2 hu ⟨.bl (HT.lexLt ns ms), H, I, rfl, q⟩
/-- t + u, t not empty: u empty gives t itself -/
def rCatT (K : PySem.W.Frag) : R2 := fun x y H Q => ∃ a b xs ys, x = .ref a ∧ y = .ref b ∧ SqT K H a xs ∧ SqT K H b ys ∧ xs ≠ [] ∧ xs.length + ys.length ≤ sizeLine ∧
  (ys = [] → Q (.ref a) H) ∧ (ys ≠ [] → ∀ p, H p = none → Q (.ref p) (upd H p (.tup (xs ++ ys))))
theorem Vals.nil_iff {xs : List V} {us : List Value} (r : Vals xs us) : us = [] ↔ xs = [] := by
  cases r with
  | nil => simp
  | cons _ _ => simp
theorem op_catT : OpR X (binaryOp .Add) (rCatT X.K) := by
  intro pins s σ H x y v u Q I rx ry h
  obtain ⟨a, b, xs, ys, rfl, rfl, ha, hb, hx, hz, q1, q2⟩ := h
  cases rx
  cases ry
  obtain ⟨its, r1, p1, _⟩ := I.tuple ha
  obtain ⟨its2, r2, p2, _⟩ := I.tuple hb
  refine HT.cat_tup p1 p2 (fun z => hx (r1.nil_iff.mp z)) (fun z => ⟨.ref a, H, I, rfl, q1 (r2.nil_iff.mp z)⟩) (fun z => ?_) (by rw [← r1.length, ← r2.length]; exact hz)
  refine ⟨.ref s.heap.objs.size, _, I.laid (t' := s.toks) (o := .tup (xs ++ ys)) (fun b ob q => Heap.get?_push_of_some _ q) (Nat.le_refl _) ?_, rfl, q2 (fun w => z (r2.nil_iff.mpr w)) _ (I.hok.fresh (Nat.le_refl _))⟩
  exact ⟨by rw [List.length_append]; exact hz, _, r1.append r2, IsTup.new _ _⟩
/-- tuple(t) -/
theorem call_tupleT : CallR X (.type "tuple") (fun xs H Q => ∃ a ys, xs = [.ref a] ∧ SqT X.K H a ys ∧ Q (.ref a) H) := by
  intro pins s σ H xs us Q I r h
  obtain ⟨a, ys, rfl, ha, q⟩ := h
  obtain ⟨u, rfl, ru⟩ := vals1 r
  cases ru
  obtain ⟨its, _, p1, _⟩ := I.tuple ha
  exact call_tuple_same (items := its.toArray) p1 ⟨.ref a, H, I, rfl, q⟩
end
end L2

namespace L2
open PySem PySem.Spec PyProof.Rows

/-! ### places -/
/-- the place that an index of any sign means -/
def ixN (n : Nat) (i : Int) : Option Nat := if 0 ≤ i then (if i < n then some i.toNat else none) else if -(n : Int) ≤ i then some (i + n).toNat else none
def atI {α : Type} (xs : List α) (i : Int) : Option α := (ixN xs.length i).bind fun j => xs[j]?
theorem ixN_seq {n : Nat} {i : Int} {j : Nat} (h : ixN n i = some j) : seqIndex? i n = some j ∧ j < n ∧ -(n : Int) ≤ i ∧ i < n := by
  unfold ixN at h
  by_cases h0 : 0 ≤ i
  · rw [if_pos h0] at h
    by_cases h1 : i < n
    · rw [if_pos h1] at h
      have e : i.toNat = j := Option.some.inj h
      exact ⟨by rw [seqIndex_of h0 h1, e], by omega, by omega, h1⟩
    · rw [if_neg h1] at h; cases h
  · rw [if_neg h0] at h
    by_cases h1 : -(n : Int) ≤ i
    · rw [if_pos h1] at h
      have e : (i + n).toNat = j := Option.some.inj h
      exact ⟨by rw [seqIndex_neg (by omega) h1, e], by omega, h1, by omega⟩
    · rw [if_neg h1] at h; cases h
theorem atI_get {α : Type} {xs : List α} {i : Int} {v : α} (h : atI xs i = some v) : ∃ j, seqIndex? i xs.length = some j ∧ xs[j]? = some v ∧ j < xs.length ∧ -(xs.length : Int) ≤ i ∧ i < xs.length := by
  unfold atI at h
  cases e : ixN xs.length i with
  | none => rw [e] at h; cases h
  | some j =>
    rw [e] at h
    obtain ⟨h1, h2, h3, h4⟩ := ixN_seq e
    exact ⟨j, h1, h, h2, h3, h4⟩
theorem atI_nat {α : Type} {xs : List α} {j : Nat} {v : α} (h : xs[j]? = some v) : atI xs (j : Int) = some v := by
  have hj : j < xs.length := (List.getElem?_eq_some_iff.mp h).1
  have e : ixN xs.length (j : Int) = some j := by
    unfold ixN
    rw [if_pos (by omega), if_pos (by omega)]; simp
  unfold atI; rw [e]; exact h
theorem atI_last {α : Type} (xs : List α) (v : α) : atI (xs ++ [v]) (-1) = some v := by
  have hl : (xs ++ [v]).length = xs.length + 1 := by simp
  have e : ixN (xs ++ [v]).length (-1) = some xs.length := by
    unfold ixN
    rw [hl, if_neg (by decide), if_pos (by omega)]
    congr 1
    omega
  unfold atI
  rw [e]
  show (xs ++ [v])[xs.length]? = some v
  simp

/-! ### what may be subscripted -/
/-- what stands as an index of a plain subscript -/
def PlainIx (b : Expr) : Prop := ∀ o i, subscripted b false o i = operate [o, i] (getItem o i)
/-- a subscript by values -/
def IxR (X : Cx) (r : R2) : Prop :=
  ∀ (value slice : Expr) (pins : List (Addr × Obj)) (s : Shared) (σ : St) (H : Hp) (x y : V) (v u : Value) (Q : VK), Inv X pins σ H s → RelV x v → RelV y u → r x y H Q →
    subscripted slice false v u = operate [v, u] (getItem v u) → wpAny (model X.prog X.w) X.A (subscriptTail value slice v u) (EP X pins σ Q) X.xe s
/-- a call of a builtin's method by values: the receiver, the arguments -/
def MtR (X : Cx) (id : String) (r : V → List V → Hp → VK → Prop) : Prop :=
  ∀ (pins : List (Addr × Obj)) (s : Shared) (σ : St) (H : Hp) (x : V) (xs : List V) (v : Value) (us : List Value) (Q : VK), Inv X pins σ H s → RelV x v → Vals xs us → r x xs H Q →
    wpAny (model X.prog X.w) X.A (call (.builtin id) (v :: us)) (EP X pins σ Q) X.xe s
section
variable {X : Cx} {a b : Expr} {ta tb : TE} {pos : Pos}
theorem IxR.or {r r' : R2} (h : IxR X r) (h' : IxR X r') : IxR X (fun x y H Q => r x y H Q ∨ r' x y H Q) := by
  intro value slice pins s σ H x y v u Q I rx ry q hs
  rcases q with q | q
  · exact h value slice pins s σ H x y v u Q I rx ry q hs
  · exact h' value slice pins s σ H x y v u Q I rx ry q hs
theorem MtR.or {id : String} {r r' : V → List V → Hp → VK → Prop} (h : MtR X id r) (h' : MtR X id r') : MtR X id (fun x xs H Q => r x xs H Q ∨ r' x xs H Q) := by
  intro pins s σ H x xs v us Q I rx rs q
  rcases q with q | q
  · exact h pins s σ H x xs v us Q I rx rs q
  · exact h' pins s σ H x xs v us Q I rx rs q
/-- a[b] -/
theorem pe_ix {r : R2} (hr : IxR X r) (ha : PE X a ta) (hb : PE X b tb) (hs : PlainIx b) : PE X (.Subscript a b pos) (tOp r ta tb) := by
  intro pins s σ H Q I h
  exact Subscript_ (binT ha hb I h fun v u s2 x y H2 I2 rx ry q => hr a b pins s2 σ H2 x y v u Q I2 rx ry q (hs _ _))

def rIxL (K : PySem.W.Frag) : R2 := fun x y H Q => ∃ p xs i v, x = .ref p ∧ y = .int i ∧ SqL K H p xs ∧ atI xs i = some v ∧ Q v H
def rIxT (K : PySem.W.Frag) : R2 := fun x y H Q => ∃ p xs i v, x = .ref p ∧ y = .int i ∧ SqT K H p xs ∧ atI xs i = some v ∧ Q v H
def rIxS : R2 := fun x y H Q => ∃ z i c, x = .str z ∧ y = .int i ∧ z.length ≤ sizeLine ∧ atI z.cps.toList i = some c ∧ Q (.str ⟨#[c]⟩) H
theorem ix_list : IxR X (rIxL X.K) := by
  intro value slice pins s σ H x y v u Q I rx ry h hs
  obtain ⟨p, xs, i, z, rfl, rfl, hq, he, q⟩ := h
  cases rx
  obtain ⟨t, rfl⟩ := ry
  obtain ⟨its, r, pl, hz⟩ := I.list hq
  obtain ⟨j, h1, h2, h3, h4, h5⟩ := atI_get he
  obtain ⟨w, ew, rw'⟩ := r.get h2
  have hl := r.length
  have hn := line63
  have fin : EP X pins σ Q w s := ⟨z, H, I, rw', q⟩
  by_cases h0 : 0 ≤ i
  · have hj : i.toNat = j := by
      rw [seqIndex_of h0 h5] at h1
      exact Option.some.inj h1
    exact item_listR pl.isList h0 (by omega) (by rw [hj]; simpa using ew) fin hs
  · have hj : (i + (its.toArray.size : Int)).toNat = j := by
      rw [seqIndex_neg (by omega) h4] at h1
      rw [List.size_toArray, ← hl]
      exact Option.some.inj h1
    exact subscriptTail_builtinR (x := w) pl.isList.typeIs slot_list_getitem.lookup
      (wpAny_getItem_list_neg (Q := fun r s' => r = w ∧ EP X pins σ Q r s') pl.isList (by omega) (by rw [List.size_toArray] <;> omega) (by omega) (by rw [hj]; simpa using ew) ⟨rfl, fin⟩) hs
theorem ix_tup : IxR X (rIxT X.K) := by
  intro value slice pins s σ H x y v u Q I rx ry h hs
  obtain ⟨p, xs, i, z, rfl, rfl, hq, he, q⟩ := h
  cases rx
  obtain ⟨t, rfl⟩ := ry
  obtain ⟨its, r, pl, hz⟩ := I.tuple hq
  obtain ⟨j, h1, h2, h3, h4, h5⟩ := atI_get he
  obtain ⟨w, ew, rw'⟩ := r.get h2
  have hl := r.length
  have hn := line63
  have fin : EP X pins σ Q w s := ⟨z, H, I, rw', q⟩
  exact subscriptTail_builtinR (x := w) pl.typeIs slot_tuple_getitem.lookup
    (getItem_tuple (j := j) (Q := fun r s' => r = w ∧ EP X pins σ Q r s') pl (by omega) (by omega) (by rw [List.size_toArray, ← hl]; exact h1) (by simpa using ew) ⟨rfl, fin⟩) hs
theorem ix_str : IxR X rIxS := by
  intro value slice pins s σ H x y v u Q I rx ry h hs
  obtain ⟨z, i, c, rfl, rfl, hz, he, q⟩ := h
  obtain ⟨t, rfl⟩ := rx
  obtain ⟨t', rfl⟩ := ry
  obtain ⟨j, h1, h2, h3, h4, h5⟩ := atI_get he
  have hl : z.cps.toList.length = z.length := by simp [Str.length]
  rw [hl] at h1 h4 h5
  have hn := line63
  exact tail_any (typeIs_str s z t) slot_str_getitem.lookup (getItem_str (c := c) (by
    have e1 : decide (i < -(2 ^ 63 : Int)) = false := decide_eq_false (by omega)
    have e2 : decide (i ≥ 2 ^ 63) = false := decide_eq_false (by omega)
    rw [e1, e2, Bool.or_false]) (by rw [h1]; simpa using h2) ⟨.str ⟨#[c]⟩, H, I.tok _, ⟨_, rfl⟩, q⟩) hs
/-- list, tuple or str -/
def rIx (K : PySem.W.Frag) : R2 := fun x y H Q => rIxL K x y H Q ∨ rIxT K x y H Q ∨ rIxS x y H Q
theorem ix_seq : IxR X (rIx X.K) := ix_list.or (ix_tup.or ix_str)

/-! ### xs[i] = v, any sign -/
/-- the list's object behind a store -/
theorem mapSeq_set (its : List Value) (n j : Nat) (u : Value) : Obj.mapSeq (·.setIfInBounds j u) { cls := .type "list", data := .seq its.toArray n } = { cls := .type "list", data := .seq (its.set j u).toArray n } := by
  simp [Obj.mapSeq]
theorem Inv.lst {pins : List (Addr × Obj)} {σ : St} {H : Hp} {s : Shared} {p : Addr} {xs : List V} (I : Inv X pins σ H s) (h : H p = some (.lst xs)) :
    ∃ (its : List Value) (n : Nat), Vals xs its ∧ s.heap.get? p = some { cls := .type "list", data := .seq its.toArray n } ∧ xs.length ≤ sizeLine := by
  obtain ⟨z, its, n, r, e⟩ := I.hok p _ h
  exact ⟨its, n, r, e, z⟩
/-- the list at p is written by an update of its object -/
theorem Inv.lstUpd {pins : List (Addr × Obj)} {σ : St} {H : Hp} {s : Shared} {p : Addr} {xs ys : List V} {its its' : List Value} {n n' : Nat} {f : Obj → Obj} (I : Inv X pins σ H s) (h : H p = some (.lst xs))
    (ho : s.heap.get? p = some { cls := .type "list", data := .seq its.toArray n }) (hf : f { cls := .type "list", data := .seq its.toArray n } = { cls := .type "list", data := .seq its'.toArray n' }) (r : Vals ys its') (hz : ys.length ≤ sizeLine) (t : Nat) :
    Inv X pins σ (upd H p (.lst ys)) { s with heap := s.heap.update p f, toks := t } := by
  have e : (s.heap.update p f).get? p = some { cls := .type "list", data := .seq its'.toArray n' } := by
    rw [Heap.get?_update_self f ho (by rw [hf] <;> rfl), hf]
  refine I.write (x := p) (e := p) (by rw [h]; trivial) (.inl rfl) (fun b u hb q => (Heap.get?_update_other _ _ (Ne.symm hb)).trans q) ⟨_, e⟩ ?_
  exact ⟨hz, its', n', r, e⟩
def rSetL : V → V → V → Hp → (Hp → Prop) → Prop := fun o i v H Q => ∃ p xs k j, o = .ref p ∧ i = .int k ∧ H p = some (.lst xs) ∧ ixN xs.length k = some j ∧ Q (upd H p (.lst (xs.set j v)))
theorem set_list : PSet X rSetL := by
  intro pins s σ H o i v ov iv u Q I ro ri rv h
  obtain ⟨p, xs, k, j, rfl, rfl, hp, hj, q⟩ := h
  cases ro
  obtain ⟨t, rfl⟩ := ri
  obtain ⟨its, n, r, ho, hz⟩ := I.lst hp
  obtain ⟨h1, h2, h3, h4⟩ := ixN_seq hj
  have hl := r.length
  have hn := line63
  have I' : Inv X pins σ (upd H p (.lst (xs.set j v))) { s with heap := s.heap.update p (Obj.mapSeq (·.setIfInBounds j u)) } :=
    I.lstUpd hp ho (mapSeq_set its n j u) (r.set rv j) (by rw [List.length_set]; exact hz) s.toks
  by_cases h0 : 0 ≤ k
  · have hk : k.toNat = j := by
      rw [seqIndex_of h0 h4] at h1
      exact Option.some.inj h1
    exact PySem.W.ki_setAt ho h0 (by omega) (by rw [List.size_toArray, ← hl]; exact h4) (by rw [hk]; exact ⟨_, I', q⟩)
  · have hk : (k + (its.toArray.size : Int)).toNat = j := by
      rw [seqIndex_neg (by omega) h3] at h1
      rw [List.size_toArray, ← hl]
      exact Option.some.inj h1
    exact PySem.W.ki_setBack ho (by omega) (by rw [List.size_toArray, ← hl]; exact h3) (by omega) (by rw [hk]; exact ⟨_, I', q⟩)

/-! ### slices -/
theorem slice_bounds (lo hi : Option Int) (n : Nat) : (sliceBounds lo hi none n).1 = ((HT.sIx n 0 lo : Nat) : Int) ∧ (sliceBounds lo hi none n).2.1 = ((HT.sIx n n hi : Nat) : Int) ∧ (sliceBounds lo hi none n).2.2 = 1 := by
  refine ⟨?_, ?_, rfl⟩
  · cases lo with
    | none => simp [sliceBounds, HT.sIx]
    | some i =>
      simp only [sliceBounds, HT.sIx, Option.getD_none, show (1 : Int) > 0 by decide, if_true]
      by_cases h : i < 0
      · simp only [h, if_true] <;> omega
      · simp only [h, if_false] <;> omega
  · cases hi with
    | none => simp [sliceBounds, HT.sIx]
    | some i =>
      simp only [sliceBounds, HT.sIx, Option.getD_none, show (1 : Int) > 0 by decide, if_true]
      by_cases h : i < 0
      · simp only [h, if_true] <;> omega
      · simp only [h, if_false] <;> omega
theorem slicePick_cut (its : List Value) (lo hi : Option Int) : slicePick its.toArray lo hi none = ((its.drop (HT.sIx its.length 0 lo)).take (HT.sIx its.length its.length hi - HT.sIx its.length 0 lo)).toArray := by
  obtain ⟨h1, h2, h3⟩ := slice_bounds lo hi its.toArray.size
  unfold slicePick
  rw [h1, h2, h3]
  simp only [sliceRange_one, pick_run, List.size_toArray] <;> rfl
/-- xs[lo:hi] of a list: a new list -/
def rSlL (K : PySem.W.Frag) : V → Option Int → Option Int → Hp → VK → Prop := fun x lo hi H Q => ∃ a xs, x = .ref a ∧ SqL K H a xs ∧ ∀ p, H p = none → Q (.ref p) (upd H p (.lst (cutV xs lo hi)))
theorem sl_list : SlR X (rSlL X.K) := by
  intro pins s σ H x v vl vu lo hi sl Q I rx hs pl pu h
  obtain ⟨a, xs, rfl, hx, q⟩ := h
  cases rx
  obtain ⟨its, r, ht, hz⟩ := I.list hx
  have hlen := r.length
  refine ⟨"list", _, slot_list_getitem.lookup, ht.isList.typeIs, ?_⟩
  refine wpAny_getItem_list_slice ht.isList hs pl pu .none (by simp) ?_ (by rw [List.size_toArray] <;> omega)
  rw [slicePick_cut, ← hlen]
  refine ⟨.ref s.heap.objs.size, _, I.laid (t' := s.toks) (o := .lst (cutV xs lo hi)) (fun b ob q => Heap.get?_push_of_some _ q) (Nat.le_refl _) ?_, rfl, q _ (I.hok.fresh (Nat.le_refl _))⟩
  exact ⟨Nat.le_trans (cutV_length xs lo hi) hz, _, 0, (r.drop (HT.sIx xs.length 0 lo)).take (HT.sIx xs.length xs.length hi - HT.sIx xs.length 0 lo), Heap.get?_push_size _ rfl⟩

/-! ### in, not in: flat items -/
def flatV : V → Bool
  | .non => true
  | .bl _ => true
  | .int _ => true
  | .str _ => true
  | _ => false
/-- == of flat values -/
def eqV : V → V → Bool
  | .non, .non => true
  | .bl a, .bl b => a == b
  | .bl a, .int b => (if a then 1 else 0) == b
  | .int a, .bl b => a == (if b then 1 else 0)
  | .int a, .int b => a == b
  | .str a, .str b => a == b
  | _, _ => false
theorem eqAt_V {A : Around} {s : Shared} {y x : V} {u v : Value} (ry : RelV y u) (rx : RelV x v) (fy : flatV y = true) (fx : flatV x = true) : SeqAt.EqAt A s u v (eqV y x) := by
  cases y with
  | non =>
    cases ry
    cases x with
    | non => cases rx; exact SeqAt.EqAt.same _
    | bl b => cases rx; exact SeqAt.EqAt.none_bool b
    | int b => obtain ⟨t, rfl⟩ := rx; exact SeqAt.EqAt.none_int b t
    | str b => obtain ⟨t, rfl⟩ := rx; exact SeqAt.EqAt.none_str b t
    | _ => exact absurd (show false = true from fx) Bool.false_ne_true
  | bl a =>
    cases ry
    cases x with
    | non => cases rx; exact SeqAt.EqAt.bool_none a
    | bl b => cases rx; exact SeqAt.EqAt.bool_bool a b
    | int b => obtain ⟨t, rfl⟩ := rx; exact SeqAt.EqAt.bool_int a b t
    | str b => obtain ⟨t, rfl⟩ := rx; exact SeqAt.EqAt.bool_str a b t
    | _ => exact absurd (show false = true from fx) Bool.false_ne_true
  | int a =>
    obtain ⟨t', rfl⟩ := ry
    cases x with
    | non => cases rx; exact SeqAt.EqAt.int_none a t'
    | bl b => cases rx; exact SeqAt.EqAt.int_bool a t' b
    | int b => obtain ⟨t, rfl⟩ := rx; exact SeqAt.EqAt.int_int a t' b t
    | str b => obtain ⟨t, rfl⟩ := rx; exact SeqAt.EqAt.int_str a t' b t
    | _ => exact absurd (show false = true from fx) Bool.false_ne_true
  | str a =>
    obtain ⟨t', rfl⟩ := ry
    cases x with
    | non => cases rx; exact SeqAt.EqAt.str_none a t'
    | bl b => cases rx; exact SeqAt.EqAt.str_bool a t' b
    | int b => obtain ⟨t, rfl⟩ := rx; exact SeqAt.EqAt.str_int a t' b t
    | str b => obtain ⟨t, rfl⟩ := rx; exact SeqAt.EqAt.str_str a t' b t
    | _ => exact absurd (show false = true from fx) Bool.false_ne_true
  | _ => exact absurd (show false = true from fy) Bool.false_ne_true
/-- the items' answers, read off the values (a value's own answer does not lean on its token) -/
def eqU (x : V) (u : Value) : Bool := match u with
  | .none => eqV .non x
  | .bool b => eqV (.bl b) x
  | .int i _ => eqV (.int i) x
  | .str z _ => eqV (.str z) x
  | _ => false
theorem eqU_of {x y : V} {u : Value} (r : RelV y u) (f : flatV y = true) : eqU x u = eqV y x := by
  cases y with
  | non => cases r; rfl
  | bl b => cases r; rfl
  | int i => obtain ⟨t, rfl⟩ := r; rfl
  | str z => obtain ⟨t, rfl⟩ := r; rfl
  | _ => exact absurd (show false = true from f) Bool.false_ne_true
theorem any_eqU {x : V} : ∀ {xs : List V} {us : List Value}, Vals xs us → xs.all flatV = true → us.any (eqU x) = xs.any fun y => eqV y x
  | _, _, .nil, _ => rfl
  | y :: xs, u :: us, .cons r t, f => by
    rw [List.all_cons, Bool.and_eq_true] at f
    rw [List.any_cons, List.any_cons, eqU_of r f.1, any_eqU t f.2]
theorem mem_eqAt {A : Around} {s : Shared} {x : V} {v : Value} (rx : RelV x v) (fx : flatV x = true) : ∀ {xs : List V} {us : List Value}, Vals xs us → xs.all flatV = true → ∀ u ∈ us, SeqAt.EqAt A s u v (eqU x u)
  | _, _, .nil, _ => fun u hu => by cases hu
  | y :: xs, u :: us, .cons r t, f => fun u' hu => by
    rw [List.all_cons, Bool.and_eq_true] at f
    rcases List.mem_cons.mp hu with rfl | hu
    · rw [eqU_of r f.1]; exact eqAt_V r rx f.1 fx
    · exact mem_eqAt rx fx t f.2 u' hu
def inV (x : V) (xs : List V) : Bool := xs.any fun y => eqV y x
/-- x in a list or tuple of flat items -/
def rIn (K : PySem.W.Frag) (neg : Bool) : R2 := fun x y H Q => ∃ p xs, y = .ref p ∧ (SqL K H p xs ∨ SqT K H p xs) ∧ flatV x = true ∧ xs.all flatV = true ∧ Q (.bl (if neg then !inV x xs else inV x xs)) H
theorem op_in_seq : OpR X (compareOp .In) (rIn X.K false) := by
  intro pins s σ H x y v u Q I rx ry h
  obtain ⟨p, xs, rfl, hq, fx, fs, q⟩ := h
  cases ry
  rcases hq with hq | hq
  · obtain ⟨its, r, pl, hz⟩ := I.list hq
    refine SeqAt.in_listAt (eqU x) pl.isList (fun w hw => mem_eqAt rx fx r fs w (by simpa using hw)) ⟨.bl _, H, I, rfl, ?_⟩
    rw [show its.toArray.any (eqU x) = its.any (eqU x) by simp, any_eqU r fs]
    exact q
  · obtain ⟨its, r, pl, hz⟩ := I.tuple hq
    refine SeqAt.in_tupleAt (eqU x) pl (fun w hw => mem_eqAt rx fx r fs w (by simpa using hw)) ⟨.bl _, H, I, rfl, ?_⟩
    rw [show its.toArray.any (eqU x) = its.any (eqU x) by simp, any_eqU r fs]
    exact q
theorem op_notIn_seq : OpR X (compareOp .NotIn) (rIn X.K true) := by
  intro pins s σ H x y v u Q I rx ry h
  obtain ⟨p, xs, rfl, hq, fx, fs, q⟩ := h
  cases ry
  rcases hq with hq | hq
  · obtain ⟨its, r, pl, hz⟩ := I.list hq
    refine SeqAt.notIn_listAt (eqU x) pl.isList (fun w hw => mem_eqAt rx fx r fs w (by simpa using hw)) ⟨.bl _, H, I, rfl, ?_⟩
    rw [show its.toArray.any (eqU x) = its.any (eqU x) by simp, any_eqU r fs]
    exact q
  · obtain ⟨its, r, pl, hz⟩ := I.tuple hq
    refine SeqAt.notIn_tupleAt (eqU x) pl (fun w hw => mem_eqAt rx fx r fs w (by simpa using hw)) ⟨.bl _, H, I, rfl, ?_⟩
    rw [show its.toArray.any (eqU x) = its.any (eqU x) by simp, any_eqU r fs]
    exact q
theorem op_notIn_str : OpR X (compareOp .NotIn) (fun x y H Q => ∃ i j, x = .str i ∧ y = .str j ∧ Q (.bl (!(!(Builtin.Str.occurrences j i 0 j.length 1).isEmpty))) H) := by
  intro pins s σ H x y v u Q I rx ry h
  obtain ⟨i, j, rfl, rfl, q⟩ := h
  obtain ⟨t, rfl⟩ := rx
  obtain ⟨t', rfl⟩ := ry
  exact notIn_str ⟨.bl _, H, I, rfl, q⟩

/-! ### len, list(x), tuple(x) of any list or tuple that is read -/
theorem call_len_seq : CallR X (.builtin "len") (fun xs H Q => ∃ p ys, xs = [.ref p] ∧ (SqL X.K H p ys ∨ SqT X.K H p ys) ∧ Q (.int ys.length) H) := by
  intro pins s σ H xs us Q I r h
  obtain ⟨p, ys, rfl, hq, q⟩ := h
  obtain ⟨u, rfl, rx⟩ := vals1 r
  cases rx
  have hn := line63
  rcases hq with hq | hq
  · obtain ⟨its, r', pl, hz⟩ := I.list hq
    have hlen := r'.length
    exact Calls.call_len_list pl.isList (by simp only [List.size_toArray] <;> omega) ⟨.int ys.length, H, I.tok _, ⟨s.toks + 1, by rw [List.size_toArray, hlen]⟩, q⟩
  · obtain ⟨its, r', pl, hz⟩ := I.tuple hq
    have hlen := r'.length
    exact len_tuple pl (by simp only [List.size_toArray] <;> omega) ⟨.int ys.length, H, I.tok _, ⟨s.toks + 1, by rw [List.size_toArray, hlen]⟩, q⟩
theorem call_len_str : CallR X (.builtin "len") (fun xs H Q => ∃ z, xs = [.str z] ∧ z.length ≤ sizeLine ∧ Q (.int z.length) H) := by
  intro pins s σ H xs us Q I r h
  obtain ⟨z, rfl, hz, q⟩ := h
  obtain ⟨u, rfl, t, rfl⟩ := vals1 r
  have hn := line63
  exact len_str (by omega) ⟨.int z.length, H, I.tok _, ⟨_, rfl⟩, q⟩
theorem CallR.or {f : Value} {r r' : List V → Hp → VK → Prop} (h : CallR X f r) (h' : CallR X f r') : CallR X f (fun xs H Q => r xs H Q ∨ r' xs H Q) := by
  intro pins s σ H xs us Q I rs q
  rcases q with q | q
  · exact h pins s σ H xs us Q I rs q
  · exact h' pins s σ H xs us Q I rs q
theorem call_list_of : CallR X (.type "list") (fun xs H Q => ∃ p ys, xs = [.ref p] ∧ (SqL X.K H p ys ∨ SqT X.K H p ys) ∧ ∀ l, H l = none → Q (.ref l) (upd H l (.lst ys))) := by
  intro pins s σ H xs us Q I r h
  obtain ⟨p, ys, rfl, hq, q⟩ := h
  obtain ⟨u, rfl, rx⟩ := vals1 r
  cases rx
  have fin : ∀ (its : List Value), Vals ys its → ys.length ≤ sizeLine → ∀ (h' : Heap) (c' : Nat), (∀ b o', s.heap.get? b = some o' → h'.get? b = some o') →
      h'.get? s.heap.objs.size = some { cls := .type "list", dict := none, data := .seq its.toArray c', slots := #[] } → EP X pins σ Q (.ref s.heap.objs.size) { s with heap := h' } := fun its r' hz h' c' kp e =>
    ⟨.ref s.heap.objs.size, _, I.laid (t' := s.toks) kp (Nat.le_refl _) (show ObjOk X.prog X.w _ h' _ (.lst ys) from ⟨hz, its, c', r', e⟩), rfl, q _ (I.hok.fresh (Nat.le_refl _))⟩
  rcases hq with hq | hq
  · obtain ⟨its, r', pl, hz⟩ := I.list hq
    have hlen := r'.length
    obtain ⟨o, ho, hc, n, hd⟩ := pl.isList
    exact call_list_seq p (.inl rfl) ho hc hd (fun h' c' kp e => fin its r' hz h' c' kp e) (by simp only [List.size_toArray] <;> omega)
  · obtain ⟨its, r', pl, hz⟩ := I.tuple hq
    have hlen := r'.length
    obtain ⟨o, ho, hc, n, hd⟩ := pl
    exact call_list_seq p (.inr rfl) ho hc hd (fun h' c' kp e => fin its r' hz h' c' kp e) (by simp only [List.size_toArray] <;> omega)
theorem call_tuple_of : CallR X (.type "tuple") (fun xs H Q => ∃ p ys, xs = [.ref p] ∧ ((SqL X.K H p ys ∧ ∀ l, H l = none → Q (.ref l) (upd H l (.tup ys))) ∨ (SqT X.K H p ys ∧ Q (.ref p) H))) := by
  intro pins s σ H xs us Q I r h
  obtain ⟨p, ys, rfl, h⟩ := h
  obtain ⟨u, rfl, rx⟩ := vals1 r
  cases rx
  rcases h with ⟨hq, q⟩ | ⟨hq, q⟩
  · obtain ⟨its, r', pl, hz⟩ := I.list hq
    have hlen := r'.length
    refine call_tuple_list pl.isList (fun h' kp => ?_) (by simp only [List.size_toArray] <;> omega)
    have I1 : Inv X pins σ H { s with heap := h' } := I.kept (t' := s.toks) kp
    have I2 : Inv X pins σ (upd H h'.objs.size (.tup ys)) { s with heap := h'.push { cls := .type "tuple", data := .seq its.toArray } } :=
      I1.laid (t' := s.toks) (fun b o e => Heap.get?_push_of_some _ e) (Nat.le_refl _) (show ObjOk X.prog X.w _ _ _ (.tup ys) from ⟨hz, its, r', IsTup.new _ _⟩)
    exact ⟨.ref h'.objs.size, _, I2, rfl, q _ (I1.hok.fresh (Nat.le_refl _))⟩
  · obtain ⟨its, r', pl, hz⟩ := I.tuple hq
    exact call_tuple_same pl ⟨.ref p, H, I, rfl, q⟩

/-! ### the call of a builtin's method: o.m(..) -/
/-- the value is of that builtin type -/
def tyV (K : PySem.W.Frag) (T : String) (x : V) (H : Hp) : Prop := match x with
  | .str _ => T = "str"
  | .int _ => T = "int"
  | .ref p => (T = "list" ∧ ∃ xs, SqL K H p xs) ∨ (T = "tuple" ∧ ∃ o, K.lookup p = some o ∧ o.cls = .type "tuple" ∧ o.dict = none) ∨
      (T = "dict" ∧ ((∃ kvs, H p = some (.dK kvs)) ∨ ∃ kvs, H p = some (.dT kvs))) ∨ (T = "set" ∧ ∃ S n, H p = some (.set S n))
  | _ => False
theorem tyV_is {pins : List (Addr × Obj)} {σ : St} {H : Hp} {s : Shared} {T : String} {x : V} {v : Value} (I : Inv X pins σ H s) (r : RelV x v) (ty : tyV X.K T x H) :
    s.TypeIs v T ∧ ∀ a, v = .ref a → ∃ ob, s.heap.get? a = some ob ∧ ob.dict = none := by
  cases x with
  | str z =>
    obtain ⟨t, rfl⟩ := r
    cases (show T = "str" from ty)
    exact ⟨typeIs_str s z t, fun _ e => nomatch e⟩
  | int i =>
    obtain ⟨t, rfl⟩ := r
    cases (show T = "int" from ty)
    exact ⟨typeIs_int s i t, fun _ e => nomatch e⟩
  | ref p =>
    cases r
    rcases ty with ⟨rfl, xs, hq⟩ | ⟨rfl, o, hk, hc, hd⟩ | ⟨rfl, hk⟩ | ⟨rfl, S, n, hk⟩
    · obtain ⟨its, _, pl, _⟩ := I.list hq
      refine ⟨pl.isList.typeIs, fun a e => ?_⟩
      cases e
      obtain ⟨o, n, e, c, hd, _⟩ := pl
      exact ⟨o, e, hd⟩
    · refine ⟨⟨o, I.kIn p o hk, hc⟩, fun a e => ?_⟩
      cases e
      exact ⟨o, I.kIn _ o hk, hd⟩
    · have z : ∃ o, s.heap.get? p = some o ∧ o.ExactDict := by
        rcases hk with ⟨kvs, hk⟩ | ⟨kvs, hk⟩
        · obtain ⟨_, _, _, _, o, _, _, e, ex, _⟩ := I.hok p _ hk
          exact ⟨o, e, ex⟩
        · obtain ⟨_, _, _, _, o, _, _, e, ex, _⟩ := I.hok p _ hk
          exact ⟨o, e, ex⟩
      obtain ⟨o, e, ex⟩ := z
      refine ⟨⟨o, e, ex.1⟩, fun a e2 => ?_⟩
      cases e2
      exact ⟨o, e, ex.2.1⟩
    · obtain ⟨o, _, _, _, e, ex, _⟩ := I.hok p _ hk
      refine ⟨⟨o, e, ex.1⟩, fun a e2 => ?_⟩
      cases e2
      exact ⟨o, e, ex.2.1⟩
  | _ => exact False.elim ty
def tBM0 (K : PySem.W.Frag) (T : String) (r : V → List V → Hp → VK → Prop) (to : TE) : TE := fun σ H Q => to σ H fun x H1 => tyV K T x H1 ∧ r x [] H1 Q
def tBM (K : PySem.W.Frag) (T : String) (r : V → List V → Hp → VK → Prop) (to : TE) (t : TA) : TE := fun σ H Q => to σ H fun x H1 => tyV K T x H1 ∧ t σ H1 fun xs H2 => r x xs H2 Q
variable {o e : Expr} {es : List Expr} {to : TE} {t : TA} {name : Str} {apos cpos : Pos} {T id : String} {r : V → List V → Hp → VK → Prop}
theorem pe_bm0 (pa : PlainAttrs T) (slot : Slot T name id) (hty : typeOf (.builtin id) = pure (.type "method_descriptor")) (hm : MtR X id r) (ho : PE X o to)
    (hbase : attributeBase o name X.env (eval o X.env) = eval o X.env := by rfl) (hline : (apos.endLine == cpos.line) = true := by rfl) : PE X (.Call (.Attribute o name apos) [] [] cpos) (tBM0 X.K T r to) := by
  intro pins s σ H Q I h
  refine wpAny_Call_method0_late hbase hline (thn (ho pins s σ H _ I h) fun v s1 ⟨x, H1, I1, r1, ty, q1⟩ => ?_)
  obtain ⟨h1, h2⟩ := tyV_is I1 r1 ty
  exact ⟨T, id, pa, slot, hty, h1, h2, Calls.callWith_builtin rfl (PySem.evalArgs_none (hm pins s1 σ H1 x [] v [] Q I1 r1 .nil q1))⟩
theorem pe_bm (pa : PlainAttrs T) (slot : Slot T name id) (hty : typeOf (.builtin id) = pure (.type "method_descriptor")) (hm : MtR X id r) (ho : PE X o to) (ha : PA X (e :: es) t)
    (hbase : attributeBase o name X.env (eval o X.env) = eval o X.env := by rfl)
    (hfew : ((backTo cpos (starEach (e :: es) X.env)).all (fun x => !x.1) && (backToKw cpos (keywordEach [] X.env)).all (fun x => x.1.isSome)
      && decide ((e :: es).length + ([] : List Keyword).length + (if ([] : List Keyword).isEmpty then 0 else 1) < 30)) = true := by rfl)
    (hline : (apos.endLine == cpos.line) = true := by rfl) (hs : starEach (e :: es) X.env = (false, eval e X.env) :: starEach es X.env := by rfl) (hplain : (backTo cpos (starEach es X.env)).any (·.1) = false := by rfl) :
    PE X (.Call (.Attribute o name apos) (e :: es) [] cpos) (tBM X.K T r to t) := by
  intro pins s σ H Q I h
  refine wpAny_Call_method_late hbase hfew hline rfl (thn (ho pins s σ H _ I h) fun v s1 ⟨x, H1, I1, r1, ty, q1⟩ => ?_)
  obtain ⟨h1, h2⟩ := tyV_is I1 r1 ty
  refine ⟨T, id, pa, slot, hty, h1, h2, ?_⟩
  have hA := ha cpos pins s1 σ H1 _ I1 q1
  rw [hs] at hA ⊢
  refine Calls.callWith_builtin (by show (false || (backTo cpos (starEach es X.env)).any (·.1)) = false; rw [hplain] <;> rfl) (Calls.evalArgs_plain ?_)
  exact thn hA fun us s2 ⟨vs, H2, I2, r2, q2⟩ => hm pins s2 σ H2 x vs v us Q I2 r1 r2 q2
/- xs.append(e), list.index on a module's tuple .. are MtR facts of 06m -/
end
end L2

namespace L2
open PySem PySem.Spec PyProof.Rows

def MtM (X : Cx) (id : String) (r : V → List V → Hp → VK → Prop) : Prop :=
  ∀ (pins : List (Addr × Obj)) (s : Shared) (σ : St) (H : Hp) (x : V) (xs : List V) (v : Value) (us : List Value) (Q : VK), Inv X pins σ H s → RelV x v → Vals xs us → r x xs H Q →
    wpAny (model X.prog X.w) X.A (call (.builtin id) (v :: us)) (EP X pins σ Q) X.xe s

/-! ### lists of values -/
theorem Vals.one : ∀ {x : V} {us : List Value}, Vals [x] us → ∃ u, us = [u] ∧ RelV x u
  | _, _, .cons r .nil => ⟨_, rfl, r⟩
theorem Vals.two : ∀ {x y : V} {us : List Value}, Vals [x, y] us → ∃ u v, us = [u, v] ∧ RelV x u ∧ RelV y v
  | _, _, _, .cons r (.cons q .nil) => ⟨_, _, rfl, r, q⟩
theorem Vals.zero : ∀ {us : List Value}, Vals [] us → us = []
  | _, .nil => rfl
theorem Vals.dropLast {xs : List V} {us : List Value} (h : Vals xs us) : Vals xs.dropLast us.dropLast := by
  induction h with
  | nil => exact .nil
  | cons r t ih =>
    cases t with
    | nil => exact .nil
    | cons q t' => exact .cons r ih
theorem Vals.eraseIdx : ∀ {xs : List V} {us : List Value} (i : Nat), Vals xs us → Vals (xs.eraseIdx i) (us.eraseIdx i)
  | _, _, _, .nil => .nil
  | _, _, 0, .cons _ t => t
  | _, _, i + 1, .cons r t => .cons r (Vals.eraseIdx i t)
theorem Vals.reverse {xs : List V} {us : List Value} (h : Vals xs us) : Vals xs.reverse us.reverse := by
  induction h with
  | nil => exact .nil
  | cons r t ih => rw [List.reverse_cons, List.reverse_cons]; exact Vals.append ih (.cons r .nil)
theorem Vals.rep {xs : List V} {us : List Value} (h : Vals xs us) : ∀ k : Nat, Vals (List.replicate k xs).flatten (List.replicate k us).flatten
  | 0 => .nil
  | k + 1 => by
    rw [List.replicate_succ, List.replicate_succ, List.flatten_cons, List.flatten_cons]
    exact Vals.append h (Vals.rep h k)
theorem erase_last {α : Type} (l : List α) : l.eraseIdx (l.length - 1) = l.dropLast := by
  induction l with
  | nil => rfl
  | cons a r ih =>
    cases r with
    | nil => rfl
    | cons b r =>
      have e : (a :: b :: r).length - 1 = ((b :: r).length - 1) + 1 := by
        have h1 : (a :: b :: r).length = r.length + 2 := rfl
        have h2 : (b :: r).length = r.length + 1 := rfl
        omega
      rw [e, List.eraseIdx_cons_succ, ih]
      all_goals rfl
theorem len_erase {α : Type} : ∀ (l : List α) (i : Nat), (l.eraseIdx i).length ≤ l.length
  | [], _ => Nat.le_refl _
  | _ :: _, 0 => Nat.le_succ _
  | _ :: r, i + 1 => Nat.succ_le_succ (len_erase r i)
theorem foldl_rep (its : List Value) : ∀ (k : Nat) (acc : List Value),
    List.foldl (fun x1 x2 => x1 ++ x2) acc.toArray (List.replicate k its.toArray) = (acc ++ (List.replicate k its).flatten).toArray
  | 0, acc => by simp
  | k + 1, acc => by
    have e : acc.toArray ++ its.toArray = (acc ++ its).toArray := by simp
    have e2 : (acc ++ its) ++ (List.replicate k its).flatten = acc ++ (List.replicate (k + 1) its).flatten := by
      rw [List.replicate_succ, List.flatten_cons, List.append_assoc]
    rw [← e2, ← foldl_rep its k (acc ++ its), ← e, List.replicate_succ, List.foldl_cons]

section
variable {X : Cx} {pins : List (Addr × Obj)} {σ : St} {H : Hp} {s : Shared} {l b : Addr} {xs ys zs : List V}

/-! ### the two steps: a tracked list is rewritten, a new list is laid -/
theorem Inv.lset {its its' : List Value} {n : Nat} {f : Array Value → Array Value} {t' : Nat} (I : Inv X pins σ H s) (hH : H l = some (.lst xs))
    (e : s.heap.get? l = some { cls := .type "list", data := .seq its.toArray n }) (hf : f its.toArray = its'.toArray) (hv : Vals ys its') (hz : ys.length ≤ sizeLine) :
    Inv X pins σ (upd H l (.lst ys)) { s with heap := s.heap.update l (Obj.mapSeq f), toks := t' } := by
  have q := PySem.IsL.update e f
  rw [hf] at q
  refine I.write (x := l) (e := l) (by rw [hH]; exact trivial) (.inl rfl) (fun b' u hb hu => (Heap.get?_update_other s.heap (Obj.mapSeq f) (Ne.symm hb)).trans hu) ⟨_, q⟩ ?_
  exact ⟨hz, its', _, hv, q⟩
theorem Inv.lnew {its : List Value} {t' : Nat} (I : Inv X pins σ H s) (hv : Vals ys its) (hz : ys.length ≤ sizeLine) :
    Inv X pins σ (upd H s.heap.objs.size (.lst ys)) { s with heap := s.heap.push { cls := .type "list", data := .seq its.toArray }, toks := t' } :=
  I.laid (fun _ _ q => Heap.get?_push_of_some _ q) (Nat.le_refl _) ⟨hz, its, 0, hv, Heap.get?_push_size _ rfl⟩
theorem Inv.fresh (I : Inv X pins σ H s) : H s.heap.objs.size = none := I.hok.fresh (Nat.le_refl _)
theorem Inv.lstM (I : Inv X pins σ H s) (hH : H l = some (.lst xs)) : xs.length ≤ sizeLine ∧ ∃ (its : List Value) (n : Nat), Vals xs its ∧ xs.length = its.length ∧ s.heap.get? l = some { cls := .type "list", data := .seq its.toArray n } := by
  obtain ⟨z, its, n, r, e⟩ := I.hok l _ hH
  exact ⟨z, its, n, r, r.length, e⟩

theorem notLongL {n : Nat} (h : n ≤ sizeLine) : Builtin.List.listTooLong n = false := by
  unfold Builtin.List.listTooLong
  exact decide_eq_false (by omega)
end

section
variable {X : Cx}

/-! ### methods -/
def rAppend : V → List V → Hp → VK → Prop := fun x vs H Q => ∃ l xs y, x = .ref l ∧ vs = [y] ∧ H l = some (.lst xs) ∧ xs.length < sizeLine ∧ Q .non (upd H l (.lst (xs ++ [y])))
theorem mt_append : MtM X "list.append" rAppend := by
  intro pins s σ H x vs v us Q I rx rv h
  obtain ⟨l, xs, y, rfl, rfl, hH, hz, q⟩ := h
  cases rx
  obtain ⟨u, rfl, ru⟩ := rv.one
  obtain ⟨z, its, n, r, hl, e⟩ := I.lstM hH
  refine call_meets F.slot_list_append ⟨_, e, rfl⟩ F.entry_list_append (F.args_list_append_2 _ _) (PySem.list_append l its.toArray n u (by rw [List.size_toArray]; omega)) ⟨e, ?_⟩
  refine ⟨.non, _, I.lset (its' := its ++ [u]) hH e (by simp) (r.append (.cons ru .nil)) ?_, rfl, q⟩
  rw [List.length_append, List.length_singleton]
  omega

def rExtend : V → List V → Hp → VK → Prop := fun x vs H Q => ∃ l b xs zs, x = .ref l ∧ vs = [.ref b] ∧ H l = some (.lst xs) ∧ H b = some (.lst zs) ∧ xs.length + zs.length ≤ sizeLine ∧ Q .non (upd H l (.lst (xs ++ zs)))
theorem mt_extend : MtM X "list.extend" rExtend := by
  intro pins s σ H x vs v us Q I rx rv h
  obtain ⟨l, b, xs, zs, rfl, rfl, hH, hB, hz, q⟩ := h
  cases rx
  obtain ⟨u, rfl, ru⟩ := rv.one
  cases ru
  obtain ⟨z, its, n, r, hl, e⟩ := I.lstM hH
  obtain ⟨z2, its2, n2, r2, hl2, e2⟩ := I.lstM hB
  have hsz : its.toArray.size + its2.toArray.size ≤ sizeLine := by rw [List.size_toArray, List.size_toArray]; omega
  have hlong : ¬ (!its.toArray.isEmpty && Builtin.List.listTooLong (its.toArray.size + its2.toArray.size)) = true := by
    rw [notLongL hsz, Bool.and_false]
    exact Bool.false_ne_true
  refine call_meets F.slot_list_extend ⟨_, e, rfl⟩ F.entry_list_extend (F.args_list_extend_2 _ _)
    (AutoSeq1.list_extend_list_list_0 l its.toArray n b its2.toArray n2 hlong (by rw [List.size_toArray]; omega) (by omega)) ⟨e, e2, ?_⟩
  refine ⟨.non, _, I.lset (its' := its ++ its2) hH e (by simp) (r.append r2) ?_, rfl, q⟩
  rw [List.length_append]
  omega

def rPop : V → List V → Hp → VK → Prop := fun x vs H Q => ∃ l xs y, x = .ref l ∧ vs = [] ∧ H l = some (.lst xs) ∧ xs[xs.length - 1]? = some y ∧ Q y (upd H l (.lst xs.dropLast))
theorem mt_pop : MtM X "list.pop" rPop := by
  intro pins s σ H x vs v us Q I rx rv h
  obtain ⟨l, xs, y, rfl, rfl, hH, hy, q⟩ := h
  cases rx
  have hus := rv.zero
  subst hus
  obtain ⟨z, its, n, r, hl, e⟩ := I.lstM hH
  obtain ⟨u, hu, ru⟩ := r.get hy
  have hy' : its.toArray[its.toArray.size - 1]? = some u := by
    show its.toArray[its.length - 1]? = some u
    rw [← Array.getElem?_toList, ← hl]
    exact hu
  refine call_meets F.slot_list_pop ⟨_, e, rfl⟩ F.entry_list_pop (F.args_list_pop_1 _) (MeetsSeq.list_pop_last l its.toArray n u hy' (by rw [List.size_toArray]; omega)) ⟨e, ?_⟩
  refine ⟨y, _, I.lset (its' := its.dropLast) hH e ?_ r.dropLast ?_, ru, q⟩
  · show its.toArray.eraseIdxIfInBounds (its.toArray.size - 1) = its.dropLast.toArray
    rw [List.size_toArray, List.eraseIdxIfInBounds_toArray, erase_last]
  · rw [List.length_dropLast]
    omega

def rPopAt : V → List V → Hp → VK → Prop := fun x vs H Q => ∃ l xs i k y, x = .ref l ∧ vs = [.int i] ∧ H l = some (.lst xs) ∧ -(2 ^ 63) ≤ i ∧ i < 2 ^ 63 ∧ seqIndex? i xs.length = some k ∧ xs[k]? = some y ∧ Q y (upd H l (.lst (xs.eraseIdx k)))
theorem mt_popAt : MtM X "list.pop" rPopAt := by
  intro pins s σ H x vs v us Q I rx rv h
  obtain ⟨l, xs, i, k, y, rfl, rfl, hH, h1, h2, hk, hy, q⟩ := h
  cases rx
  obtain ⟨u, rfl, ru⟩ := rv.one
  obtain ⟨t, rfl⟩ := ru
  obtain ⟨z, its, n, r, hl, e⟩ := I.lstM hH
  obtain ⟨w, hw, rw'⟩ := r.get hy
  refine call_meets F.slot_list_pop ⟨_, e, rfl⟩ F.entry_list_pop (F.args_list_pop_2 _ _)
    (MeetsSeq.list_pop_at l its.toArray n i t k w (fitsIndex_both h1 h2) (by rw [List.size_toArray, ← hl]; exact hk) (by rw [← Array.getElem?_toList]; exact hw) (by rw [List.size_toArray]; omega)) ⟨e, ?_⟩
  refine ⟨y, _, I.lset (its' := its.eraseIdx k) hH e ?_ (r.eraseIdx k) ?_, rw', q⟩
  · show its.toArray.eraseIdxIfInBounds k = (its.eraseIdx k).toArray
    rw [List.eraseIdxIfInBounds_toArray]
  · have := len_erase xs k
    omega

def rReverse : V → List V → Hp → VK → Prop := fun x vs H Q => ∃ l xs, x = .ref l ∧ vs = [] ∧ H l = some (.lst xs) ∧ Q .non (upd H l (.lst xs.reverse))
theorem mt_reverse : MtM X "list.reverse" rReverse := by
  intro pins s σ H x vs v us Q I rx rv h
  obtain ⟨l, xs, rfl, rfl, hH, q⟩ := h
  cases rx
  have hus := rv.zero
  subst hus
  obtain ⟨z, its, n, r, hl, e⟩ := I.lstM hH
  refine call_meets F.slot_list_reverse ⟨_, e, rfl⟩ F.entry_list_reverse (F.args_list_reverse_1 _) (AutoSeq1.list_reverse_list_0 l its.toArray n (by rw [List.size_toArray]; omega)) ⟨e, ?_⟩
  refine ⟨.non, _, I.lset (its' := its.reverse) hH e (by simp) r.reverse ?_, rfl, q⟩
  rw [List.length_reverse]
  omega

def rClear : V → List V → Hp → VK → Prop := fun x vs H Q => ∃ l xs, x = .ref l ∧ vs = [] ∧ H l = some (.lst xs) ∧ Q .non (upd H l (.lst []))
theorem mt_clear : MtM X "list.clear" rClear := by
  intro pins s σ H x vs v us Q I rx rv h
  obtain ⟨l, xs, rfl, rfl, hH, q⟩ := h
  cases rx
  have hus := rv.zero
  subst hus
  obtain ⟨z, its, n, r, hl, e⟩ := I.lstM hH
  refine call_meets F.slot_list_clear ⟨_, e, rfl⟩ F.entry_list_clear (F.args_list_clear_1 _) (AutoSeq1.list_clear_list_0 l its.toArray n (by rw [List.size_toArray]; omega)) ⟨e, ?_⟩
  exact ⟨.non, _, I.lset (its' := []) (ys := []) hH e rfl .nil (Nat.zero_le _), rfl, q⟩

/-! ### list + list, list += list, list * int -/
def rCat : R2 := fun x y H Q => ∃ l b xs zs, x = .ref l ∧ y = .ref b ∧ H l = some (.lst xs) ∧ H b = some (.lst zs) ∧ xs.length + zs.length ≤ sizeLine ∧ ∀ p, H p = none → Q (.ref p) (upd H p (.lst (xs ++ zs)))
theorem op_cat : OpR X (binaryOp .Add) rCat := by
  intro pins s σ H x y v u Q I rx ry h
  obtain ⟨l, b, xs, zs, rfl, rfl, hH, hB, hz, q⟩ := h
  cases rx
  cases ry
  obtain ⟨z, its, n, r, hl, e⟩ := I.lstM hH
  obtain ⟨z2, its2, n2, r2, hl2, e2⟩ := I.lstM hB
  refine PySem.P.add_list e e2 ?_ (by rw [List.size_toArray, List.size_toArray]; omega)
  have ea : its.toArray ++ its2.toArray = (its ++ its2).toArray := by simp
  rw [ea]
  exact ⟨.ref _, _, I.lnew (t' := s.toks) (r.append r2) (by rw [List.length_append]; omega), rfl, q _ I.fresh⟩
/-- a list times an int (a negative one is nothing) -/
def rRep : R2 := fun x y H Q => ∃ l k xs, x = .ref l ∧ y = .int k ∧ H l = some (.lst xs) ∧ -(2 ^ 63) ≤ k ∧ k < 2 ^ 63 ∧ xs.length * k.toNat ≤ sizeLine ∧
  ∀ p, H p = none → Q (.ref p) (upd H p (.lst (List.replicate k.toNat xs).flatten))
theorem len_rep {α : Type} (xs : List α) (k : Nat) : (List.replicate k xs).flatten.length = k * xs.length := by
  induction k with
  | zero => simp
  | succ k ih => rw [List.replicate_succ, List.flatten_cons, List.length_append, ih, Nat.succ_mul, Nat.add_comm]
theorem op_rep : OpR X (binaryOp .Mult) rRep := by
  intro pins s σ H x y v u Q I rx ry h
  obtain ⟨l, k, xs, rfl, rfl, hH, h1, h2, hz, q⟩ := h
  cases rx
  obtain ⟨t, rfl⟩ := ry
  obtain ⟨z, its, n, r, hl, e⟩ := I.lstM hH
  have hlen : its.toArray.size * k.toNat ≤ sizeLine := by rw [List.size_toArray, ← hl]; exact hz
  have hcap : ¬ its.toArray.size * k.toNat > (2 ^ 63 - 1) / 8 := by
    have : (sizeLine : Nat) ≤ (2 ^ 63 - 1) / 8 := by decide
    omega
  have hfit : ¬ (!Builtin.List.listFitsIndex k) = true := by
    rw [fitsIndex_both h1 h2]
    exact Bool.false_ne_true
  have hlong : ¬ Builtin.List.listTooLong (its.toArray.size * k.toNat) = true := by
    rw [notLongL hlen]
    exact Bool.false_ne_true
  have hnew : List.foldl (fun x1 x2 => x1 ++ x2) #[] (List.replicate (if its.toArray.isEmpty = true then 0 else k.toNat) its.toArray) = (List.replicate k.toNat its).flatten.toArray := by
    have f0 : ∀ m : Nat, List.foldl (fun x1 x2 => x1 ++ x2) #[] (List.replicate m its.toArray) = (List.replicate m its).flatten.toArray := fun m => by
      have := foldl_rep its m []
      rw [List.nil_append] at this
      exact this
    rw [f0]
    cases its with
    | nil => simp
    | cons a r' => rw [if_neg (by simp)]
  refine wpAny_binaryOp_repeat_ref (T := "list") (U := "int") (by decide) ⟨_, e, rfl⟩ (fun s' => typeIs_int s' k t) noFill_list_mul F.fills_int_mul F.slot_int_rmul repeat_list F.slot_int_index.lookup
    (call_meets F.slot_int_rmul (typeIs_int s k t) F.entry_int_rmul (F.args_int_rmul_2 _ _) (int___rmul___int_list k t l its.toArray n)
      ⟨e, rfl, ⟨_, e, rfl⟩, call_meets F.slot_list_mul ⟨_, e, rfl⟩ F.entry_list_mul (F.args_list_mul_2 _ _) (AutoListH.list___mul___list_int_3 l its.toArray n k t hfit hcap hlong) ⟨e, ?_⟩⟩)
  rw [hnew]
  exact ⟨.ref _, _, I.lnew (t' := s.toks) (r.rep k.toNat) (by rw [len_rep, Nat.mul_comm]; exact hz), rfl, q _ I.fresh⟩

/-! ### del xs[i] -/
theorem del_list {pins : List (Addr × Obj)} {s : Shared} {σ : St} {H : Hp} {l : Addr} {xs : List V} {i : Int} {t : Tok} {k : Nat} {Q : Unit → Shared → Prop} (I : Inv X pins σ H s) (hH : H l = some (.lst xs))
    (h1 : -(2 ^ 63) ≤ i) (h2 : i < 2 ^ 63) (hk : seqIndex? i xs.length = some k) (h : ∀ s', Inv X pins σ (upd H l (.lst (xs.eraseIdx k))) s' → Q () s') :
    wpAny (model X.prog X.w) X.A (delItem (.ref l) (.int i t)) Q X.xe s := by
  obtain ⟨z, its, n, r, hl, e⟩ := I.lstM hH
  refine PySem.P.delItem_list (k := k) e (fitsIndex_both h1 h2) (by rw [List.size_toArray, ← hl]; exact hk) (h _ ?_) (by rw [List.size_toArray]; omega)
  refine I.lset (its' := its.eraseIdx k) (t' := s.toks) hH e ?_ (r.eraseIdx k) ?_
  · show its.toArray.eraseIdxIfInBounds k = (its.eraseIdx k).toArray
    rw [List.eraseIdxIfInBounds_toArray]
  · have := len_erase xs k
    omega
end

/-! ### xs[a:b] = ys -/
section
variable {prog : Program} {w : World} {A : Around} {E : Value → Shared → Prop} {s : Shared}
theorem splice_eq (its its2 : List Value) (a c : Nat) : its.toArray.extract 0 a ++ its2.toArray ++ its.toArray.extract c its.toArray.size = (its.take a ++ its2 ++ its.drop c).toArray := by
  apply Array.toList_inj.mp
  first
    | (simp
       exact List.take_of_length_le (by simp))
    | simp [List.take_of_length_le]
    | simp
theorem bounds_run {a c n : Nat} (hac : a ≤ c) (hc : c ≤ n) : sliceBounds (some (a : Int)) (some (c : Int)) none n = ((a : Int), (c : Int), 1) := by
  simp only [sliceBounds, Option.getD_none]
  have h1 : ¬ ((a : Int) < 0) := by omega
  have h2 : ¬ ((c : Int) < 0) := by omega
  simp only [h1, h2, if_false, show (1 : Int) > 0 by decide, if_true]
  congr 1
  · omega
  · congr 1; omega
set_option maxRecDepth 100000 in
/-- list.__setitem__ with a slice of step one and another list -/
theorem setItem_slice {l b sl : Addr} {items new : Array Value} {n n2 : Nat} {vl vu : Value} {a c : Nat} {Q : Unit → Shared → Prop}
    (e : s.heap.get? l = some { cls := .type "list", data := .seq items n }) (e2 : s.heap.get? b = some { cls := .type "list", data := .seq new n2 }) (hne : l ≠ b)
    (hs : s.heap.IsSliceOf sl vl vu .none) (pl : IsPart vl (some (a : Int))) (pu : IsPart vu (some (c : Int))) (hac : a ≤ c) (hc : c ≤ items.size)
    (hsz : items.size + new.size ≤ sizeLine) (h : Q () { s with heap := s.heap.update l (Obj.mapSeq fun xs => xs.extract 0 a ++ new ++ xs.extract c xs.size) }) :
    wpAny (model prog w) A (setItem (.ref l) (.ref sl) (.ref b)) Q E s := by
  have hl : s.heap.IsList l items := PySem.IsL.isList e
  have hb : s.heap.IsList b new := PySem.IsL.isList e2
  obtain ⟨os, hos, hcs, hds⟩ := id hs
  have hTs : s.TypeIs (.ref sl) "slice" := ⟨os, hos, hcs⟩
  have hstep : ¬ ((rawPart none == rawInt 0) = true) := Bool.false_ne_true
  have hsame : Builtin.List.listSameRef (.ref l) (.ref b) = false := by
    unfold Builtin.List.listSameRef
    exact beq_eq_false_iff_ne.mpr hne
  have hmax : (max (a : Int) (c : Int)).toNat = c := by omega
  have hz' : ((fun xs : Array Value => xs.extract 0 a ++ new ++ xs.extract c xs.size) items).size ≤ sizeLine + 1 := by
    simp only [Array.size_append, Array.size_extract]
    omega
  unfold setItem
  try with_reducible refine wpAny_holding ?_
  first | refine wpAny_bind (wpAny_pure ?_) | skip
  refine wpAny_bind (wpAny_sequenceKey hl.typeIs (by decide) ?_)
  refine wpAny_bind (wpAny_callSpecial?_slot (name := Str.ofString "__setitem__") hl.typeIs slot_list_setitem
    (wpAny_call_entry slot_list_setitem hl.typeIs entry_list_setitem ?_ (args_list_setitem _ _ _)))
  show wpAny _ _ (Builtin.List.listSubscript? (.ref sl) >>= _) _ _ s
  refine wpAny_bind ?_
  unfold Builtin.List.listSubscript?
  refine wpAny_bind (wpAny_specialOf hTs slice_no_index ?_)
  simp only [Option.isNone_none, if_true]
  refine wpAny_pure ?_
  show wpAny _ _ (typeOf (.ref sl) >>= _) _ _ s
  refine wpAny_bind (wpAny_typeOf hTs ?_)
  first
    | rw [if_neg (by decide)]
    | refine PySem.W.KFB.if_not (by decide) ?_
  rw [listSliceParts_eq]
  refine wpAny_bind (wpAny_bind (wpAny_field hos hds (x := .none) rfl (wpAny_bind (wpAny_listPart .none ?_))))
  rw [if_neg hstep]
  refine wpAny_bind (wpAny_field hos hds (x := vl) rfl (wpAny_bind (wpAny_listPart pl ?_)))
  refine wpAny_bind (wpAny_field hos hds (x := vu) rfl (wpAny_bind (wpAny_listPart pu (wpAny_pure ?_))))
  first
    | simp only [hsame, Bool.false_eq_true, if_false]
    | refine PySem.W.KFB.if_not hsame ?_
    | (dsimp only
       rw [if_neg (by rw [hsame]; exact Bool.false_ne_true)])
  refine wpAny_bind (m := Builtin.List.listAllItems (.ref b) "must assign iterable to extended slice") ?_
  unfold Builtin.List.listAllItems
  refine wpAny_bind (wpAny_typeOf hb.typeIs ?_)
  first
    | refine PySem.W.KFB.if_so (by decide) ?_
    | rw [if_pos (by decide)]
    | simp only [beq_self_eq_true, Bool.true_or, if_true]
  unfold Builtin.List.listItems
  refine wpAny_bind (wpAny_seqItems e2 rfl (wpAny_pure ?_))
  refine wpAny_bind (wpAny_bind (wpAny_seqItems e rfl (wpAny_pure ?_)))
  refine wpAny_bind (wpAny_of_eq ((sliceIndices_raw (some (a : Int)) (some (c : Int)) none items.size (by simp)).trans (congrArg (pure : Int × Int × Int → Sem (Int × Int × Int)) (bounds_run hac hc))) ?_)
  show wpAny _ _ (if ((1 : Int) == 1) = true then _ else _) _ _ s
  rw [if_pos (by decide)]
  refine wpAny_bind (wpAny_rule ?_)
  first
    | simp only [notLongL hsz, Bool.false_eq_true, if_false]
    | refine PySem.W.KFB.if_not (notLongL hsz) ?_
  first | refine wpAny_bind (wpAny_pure ?_) | skip
  show wpAny _ _ (updateSeq l (fun xs => xs.extract 0 ((a : Int)).toNat ++ new ++ xs.extract (max (a : Int) (c : Int)).toNat xs.size) >>= _) _ _ s
  rw [hmax, Int.toNat_natCast]
  refine wpAny_bind (wpAny_updateSeq (hz := Nat.le_trans (Nat.le_add_right _ _) hsz) (_hz' := hz') e rfl ?_)
  refine wpAny_bind (wpAny_letGo ?_)
  first
    | exact wpAny_bind (wpAny_pure (wpAny_pure ⟨.none, rfl, wpAny_pure h⟩))
    | exact wpAny_pure ⟨.none, rfl, wpAny_pure h⟩
end

section
variable {X : Cx}
/-- xs[a:c] = ys of another list, at the value level: sl is the slice object that was just made -/
theorem set_slice {pins : List (Addr × Obj)} {s : Shared} {σ : St} {H : Hp} {l b sl : Addr} {xs ys : List V} {a c : Int} {vl vu : Value} {Q : Unit → Shared → Prop} (I : Inv X pins σ H s)
    (hH : H l = some (.lst xs)) (hB : H b = some (.lst ys)) (hne : l ≠ b) (hs : s.heap.IsSliceOf sl vl vu .none) (ra : RelV (.int a) vl) (rc : RelV (.int c) vu) (h0 : 0 ≤ a) (hac : a ≤ c) (hc : c ≤ xs.length)
    (hz : xs.length + ys.length ≤ sizeLine) (h : ∀ s', Inv X pins σ (upd H l (.lst (xs.take a.toNat ++ ys ++ xs.drop c.toNat))) s' → Q () s') :
    wpAny (model X.prog X.w) X.A (setItem (.ref l) (.ref sl) (.ref b)) Q X.xe s := by
  obtain ⟨ta, rfl⟩ := ra
  obtain ⟨tc, rfl⟩ := rc
  obtain ⟨z, its, n, r, hl, e⟩ := I.lstM hH
  obtain ⟨z2, its2, n2, r2, hl2, e2⟩ := I.lstM hB
  obtain ⟨a', rfl⟩ := Int.eq_ofNat_of_zero_le h0
  obtain ⟨c', rfl⟩ := Int.eq_ofNat_of_zero_le (Int.le_trans h0 hac)
  simp only [Int.toNat_natCast] at h
  refine setItem_slice (a := a') (c := c') e e2 hne hs (.int _ _) (.int _ _) (by omega) (by rw [List.size_toArray]; omega) (by rw [List.size_toArray, List.size_toArray]; omega) (h _ ?_)
  refine I.lset (its' := its.take a' ++ its2 ++ its.drop c') (t' := s.toks) hH e ?_ (Vals.append (Vals.append (r.take _) r2) (r.drop _)) ?_
  · exact splice_eq its its2 a' c'
  · rw [List.length_append, List.length_append, List.length_take, List.length_drop]
    omega
end
end L2

namespace Att
open PySem PySem.W PySem.Calls PyProof.Rows

/-! ### the script -/
theorem ints_of_wellAll {P : Params} {h : Heap} : ∀ (ns : List Int) (vs : List Value), WellAll P h vs (ns.map WData.int) → IntsAre vs ns := by
  intro ns
  induction ns with
  | nil =>
    intro vs w
    rw [List.map_nil] at w
    cases w
    exact .nil
  | cons n ns ih =>
    intro vs w
    rw [List.map_cons] at w
    cases w with
    | cons a b =>
      cases a
      exact .cons _ _ (ih _ b)

theorem script_of {l : OpenLaw} {n : Nat} (hn : l.most = some n) {P : Params} {h : Heap} {args : List WData} {vals : List Value}
    (hpre : l.row.toRowW.claim.pre args = true) (hwl : WellAll P h vals args) :
    ∃ a vs ns, vals = [Value.ref a] ∧ args = [WData.list (ns.map WData.int)] ∧ h.get? a = some { cls := .type "list", data := .seq vs.toArray } ∧ IntsAre vs ns ∧ ns.length ≤ n := by
  have hsh : WShape.hasAll [] args [.list .int] = true := (pre_splitW hpre).1
  have hc : l.pre.holds [] { args := args } = true := (pre_splitW hpre).2
  obtain ⟨d, r, rfl, h1, h2⟩ := hasAllW_cons hsh
  obtain rfl := hasAllW_nil h2
  obtain ⟨xs, rfl, h3⟩ := hasW_list h1
  obtain ⟨ns, rfl⟩ := items_int h3
  have hlen : ns.length ≤ n := by
    unfold OpenLaw.pre at hc
    have h4 : (WTm.not (.lt (.lit (.int (n : Int))) (.len (.arg 0)))).holds [] { args := [.list (ns.map .int)] } = true := by
      have h4 := (holds_andW hc).1
      rw [hn] at h4
      exact h4
    have h5 := condW_of h4 (w_not (w_lt w_lit (w_len_list (w_arg rfl))))
    rw [List.length_map] at h5
    refine Nat.le_of_not_lt fun q => ?_
    have q' : (n : Int) < ((ns.length : Nat) : Int) := by omega
    first
      | (rw [decide_eq_true q'] at h5; exact absurd h5 (by decide))
      | (simp at h5; omega)
  cases hwl with
  | cons w1 w2 =>
    cases w2
    cases w1 with
    | list ho hall => exact ⟨_, _, ns, rfl, rfl, ho, ints_of_wellAll ns _ hall, hlen⟩

theorem post_true (l : OpenLaw) (args : List WData) : l.row.toRowW.claim.post args (.bool true) args = true :=
  postW_of (r := l.row.toRowW) (X := (true == true))
    (show WShape.has [] (.bool true) .bool = true by first | rfl | decide | simp [WShape.has, WShape.arms, WShape.armsAll])
    (show (WTm.eq .res (.lit (.bool true))).value [] { args := args, res := some (.bool true), after := args } = some (.bool (true == true)) from w_eq_bool (w_res rfl) w_lit) rfl

/-! ### the attachment: holds_open's last premise (the goal 'hc' behind k_head) from a wpAny of the law's body -/
theorem attach {l : OpenLaw} {n : Nat} {q : Program} {loose : List Str} {XP : (Str → Option Value) → Heap → Prop} {YP : World → Heap → Prop} {d : DefRec} {x : Str}
    (hn : l.most = some n) (hdf : d.params.defaults = [])
    (hbind : ∀ pm cd doc v : Value, bindArgs (docDef d.name d.params d.body d.scope pm cd doc) ⟨[v], []⟩ = pure [(x, v)])
    (hx : d.scope.names.lookup x = some .local ∨ d.scope.names.lookup x = some .cell)
    (hk : d.scope.kind = .function) (hco : d.scope.isCoroutine = false) (hgen : d.scope.isGenerator = false)
    (body : ∀ (w : World) (s₀ s₁ s : Shared) (mg mb : Str → Option Value) (fa : Addr) (o : Obj) (pm cd doc : Value) (a : Addr) (vs : List Value) (ns : List Int),
      Ground q loose [] XP w s₀ mg mb s₁.heap → YP w s₁.heap →
      s₁.heap.get? fa = some o → o.data = .func (docDef d.name d.params d.body d.scope pm cd doc) → s₁.heap.CodeRec cd d.name → mg d.name = some (.ref fa) →
      s₁.heap.get? a = some { cls := .type "list", data := .seq vs.toArray } → IntsAre vs ns → ns.length ≤ n →
      s.gens = #[] → s.os = s₁.os →
      Fr s₁.heap s₁.heap.objs.size s.heap (bindL (envOfC d.name d.scope s₁.heap.objs.size fa cd).kindOf [(x, .ref a)] fun _ => none) →
      Cl s₁.heap.objs.size (cellsFrom (s₁.heap.objs.size + 1) d.scope.names []) s.heap (bindC (envOfC d.name d.scope s₁.heap.objs.size fa cd).kindOf [(x, .ref a)] fun _ => none) →
      wpAny (model l.prog w) (callerA.deeper (envOfC d.name d.scope s₁.heap.objs.size fa cd)) (execs d.body (envOfC d.name d.scope s₁.heap.objs.size fa cd))
        (fun f s' => f = .ret (.bool true) ∧ OldK s₁.heap s'.heap ∧ s'.os = s₁.os ∧ AllBare s'.gens) (fun _ _ => False) s) :
    WalkO q loose XP YP l.row.toRowW d [] (fun f vs => PySem.call f vs) := by
  intro w s₀ s₁ mg mb G Y fa o pm cd doc dV kV ho hd hcd hD hmg hg args vals as hpre hlay hrd hwl hlo
  obtain rfl : dV = .none := Dflts.none hD hdf
  obtain rfl : kV = .none := Dflts.noKw hD
  obtain ⟨a, vs, ns, rfl, rfl, hobj, hints, hlen⟩ := script_of hn hpre hwl
  refine enter_call ?_
  refine call_cells_ret (o := o) (by rw [depth_caller]; decide) ho (fd_plain hd) G.T.nolimit hcd (hbind pm cd doc (.ref a)) (fun y hy => ?_) (fun h₁ tk F X => ?_) hco hgen hk
  · obtain rfl : y = (x, Value.ref a) := List.mem_singleton.mp hy
    rcases hx with e | e
    · exact .inl e
    · exact .inr ⟨e, cellsFrom_some _ _ _ (.inl e)⟩
  · refine wpAny_mono (body w s₀ s₁ { s₁ with heap := h₁, toks := tk } mg mb fa o pm cd doc a vs ns G Y ho (fd_plain hd) hcd hmg hobj hints hlen hg rfl F X) (fun f s' hq => ?_) (fun _ _ hq => hq)
    obtain ⟨rfl, h2, h3, h4⟩ := hq
    exact ⟨.inl ⟨.bool true, .bool true, [], rfl, fun _ => rfl, .bool true, post_true l _, fun _ => ⟨List.Pairwise.nil, fun _ hm => (nomatch hm)⟩⟩, h2, h3, h4⟩

/-- the same from a codeAny of the CALL (for a layer whose function contracts speak of calls) -/
theorem attach_call {l : OpenLaw} {n : Nat} {q : Program} {loose : List Str} {XP : (Str → Option Value) → Heap → Prop} {YP : World → Heap → Prop} {d : DefRec}
    (hn : l.most = some n) (hdf : d.params.defaults = [])
    (call : ∀ (w : World) (s₀ s₁ : Shared) (mg mb : Str → Option Value) (fa : Addr) (o : Obj) (pm cd doc : Value) (a : Addr) (vs : List Value) (ns : List Int),
      Ground q loose [] XP w s₀ mg mb s₁.heap → YP w s₁.heap →
      s₁.heap.get? fa = some o → o.data = .func (docDef d.name d.params d.body d.scope pm cd doc) → s₁.heap.CodeRec cd d.name → mg d.name = some (.ref fa) →
      s₁.heap.get? a = some { cls := .type "list", data := .seq vs.toArray } → IntsAre vs ns → ns.length ≤ n → s₁.gens = #[] →
      codeAny (model l.prog w) callerA (.call (.ref fa) ⟨[.ref a], []⟩) (fun r s' => r = .ok (.ret (.bool true)) ∧ OldK s₁.heap s'.heap ∧ s'.os = s₁.os ∧ AllBare s'.gens) s₁) :
    WalkO q loose XP YP l.row.toRowW d [] (fun f vs => PySem.call f vs) := by
  intro w s₀ s₁ mg mb G Y fa o pm cd doc dV kV ho hd hcd hD hmg hg args vals as hpre hlay hrd hwl hlo
  obtain rfl : dV = .none := Dflts.none hD hdf
  obtain rfl : kV = .none := Dflts.noKw hD
  obtain ⟨a, vs, ns, rfl, rfl, hobj, hints, hlen⟩ := script_of hn hpre hwl
  refine enter_call (codeAny_mono (call w s₀ s₁ mg mb fa o pm cd doc a vs ns G Y ho (fd_plain hd) hcd hmg hobj hints hlen hg) fun r s' hq => ?_)
  obtain ⟨rfl, h2, h3, h4⟩ := hq
  exact ⟨.inl ⟨.bool true, .bool true, [], rfl, fun _ => rfl, .bool true, post_true l _, fun _ => ⟨List.Pairwise.nil, fun _ hm => (nomatch hm)⟩⟩, h2, h3, h4⟩

/-- the same where the top left finished generators (o_head chose holds_openN): nothing may have changed at all and no generator may be left -/
theorem attachN {l : OpenLaw} {n : Nat} {q : Program} {loose : List Str} {XP : (Str → Option Value) → Heap → Prop} {YP : World → Heap → Prop} {d : DefRec} {x : Str}
    (hn : l.most = some n) (hdf : d.params.defaults = [])
    (hbind : ∀ pm cd doc v : Value, bindArgs (docDef d.name d.params d.body d.scope pm cd doc) ⟨[v], []⟩ = pure [(x, v)])
    (hx : d.scope.names.lookup x = some .local ∨ d.scope.names.lookup x = some .cell)
    (hk : d.scope.kind = .function) (hco : d.scope.isCoroutine = false) (hgen : d.scope.isGenerator = false)
    (body : ∀ (w : World) (s₀ s₁ s : Shared) (mg mb : Str → Option Value) (fa : Addr) (o : Obj) (pm cd doc : Value) (a : Addr) (vs : List Value) (ns : List Int),
      Ground q loose [] XP w s₀ mg mb s₁.heap → YP w s₁.heap →
      s₁.heap.get? fa = some o → o.data = .func (docDef d.name d.params d.body d.scope pm cd doc) → s₁.heap.CodeRec cd d.name → mg d.name = some (.ref fa) →
      s₁.heap.get? a = some { cls := .type "list", data := .seq vs.toArray } → IntsAre vs ns → ns.length ≤ n →
      s.gens = #[] → s.os = s₁.os →
      Fr s₁.heap s₁.heap.objs.size s.heap (bindL (envOfC d.name d.scope s₁.heap.objs.size fa cd).kindOf [(x, .ref a)] fun _ => none) →
      Cl s₁.heap.objs.size (cellsFrom (s₁.heap.objs.size + 1) d.scope.names []) s.heap (bindC (envOfC d.name d.scope s₁.heap.objs.size fa cd).kindOf [(x, .ref a)] fun _ => none) →
      wpAny (model l.prog w) (callerA.deeper (envOfC d.name d.scope s₁.heap.objs.size fa cd)) (execs d.body (envOfC d.name d.scope s₁.heap.objs.size fa cd))
        (fun f s' => f = .ret (.bool true) ∧ (∀ b o, s₁.heap.get? b = some o → s'.heap.get? b = some o) ∧ s'.os = s₁.os ∧ s'.gens = #[]) (fun _ _ => False) s) :
    WalkN q loose XP YP l.row.toRowW d [] (fun f vs => PySem.call f vs) := by
  intro w s₀ s₁ mg mb G Y fa o pm cd doc dV kV ho hd hcd hD hmg hg args vals as hpre hlay hrd hwl hlo
  obtain rfl : dV = .none := Dflts.none hD hdf
  obtain rfl : kV = .none := Dflts.noKw hD
  obtain ⟨a, vs, ns, rfl, rfl, hobj, hints, hlen⟩ := script_of hn hpre hwl
  refine enter_callW ?_
  refine call_cells_ret (o := o) (by rw [depth_caller]; decide) ho (fd_plain hd) G.T.nolimit hcd (hbind pm cd doc (.ref a)) (fun y hy => ?_) (fun h₁ tk F X => ?_) hco hgen hk
  · obtain rfl : y = (x, Value.ref a) := List.mem_singleton.mp hy
    rcases hx with e | e
    · exact .inl e
    · exact .inr ⟨e, cellsFrom_some _ _ _ (.inl e)⟩
  · refine wpAny_mono (body w s₀ s₁ { s₁ with heap := h₁, toks := tk } mg mb fa o pm cd doc a vs ns G Y ho (fd_plain hd) hcd hmg hobj hints hlen hg rfl F X) (fun f s' hq => ?_) (fun _ _ hq => hq)
    obtain ⟨rfl, h2, h3, h4⟩ := hq
    exact ⟨.inl ⟨.bool true, .bool true, [], rfl, fun _ => rfl, .bool true, post_true l _, fun _ => ⟨List.Pairwise.nil, fun _ hm => (nomatch hm)⟩⟩, h2, h3, h4⟩

/-! ### rules over ANY heap (no ledger) from facts about the written part K: the library's own take a ledger (News) for what they write -/
section
variable {prog : Program} {w : World} {A : Around} {E : Value → Shared → Prop} {s : Shared} {K : Frag}

/-- a def of the module, or a method (qual 'C.m'), entered: the frame is the next address; cells behind it -/
theorem call_fn {R : Result → Shared → Prop} {name qual : Str} {params : Arguments} {body : List Stmt} {scope : Scope} {dV kV doc pm cdv ct oc : Value} {an od : Option Addr} {osl : Array (Option Value)} {f : Addr} {args : Args} {binds : List (Str × Value)}
    (X : K.In s.heap) (hlim : s.heap.NoLimit) (ho : K.lookup f = some ⟨oc, od, .func (fnOf name qual params body scope dV kV doc pm an cdv ct), osl⟩) (hcd : codeIn K cdv qual = true) (hroom : A.depth < recursionLimit)
    (hbind : BindsTo s (fnOf name qual params body scope dV kV doc pm an cdv ct) args binds)
    (hkind : (binds.all fun y => scope.names.lookup y.1 == some .local || scope.names.lookup y.1 == some .cell) = true)
    (h : ∀ s₁, InCallC s s.heap.objs.size (bindL (envOfC qual scope s.heap.objs.size f cdv).kindOf binds fun _ => none) (cellsFrom (s.heap.objs.size + 1) scope.names [])
        (bindC (envOfC qual scope s.heap.objs.size f cdv).kindOf binds fun _ => none) s₁ →
      wpAny (model prog w) (A.deeper (envOfC qual scope s.heap.objs.size f cdv)) (execs body (envOfC qual scope s.heap.objs.size f cdv))
        (fun fl s' => R (.ok (.ret (match fl with | .ret v => v | _ => .none))) s')
        (fun e s' => wpAny (model prog w) (A.deeper (envOfC qual scope s.heap.objs.size f cdv)) (leaving (envOfC qual scope s.heap.objs.size f cdv) e) (fun _ s'' => R (.error e) s'') (fun e' s'' => R (.error e') s'') s') s₁)
    (hco : scope.isCoroutine = false) (hgen : scope.isGenerator = false) (hk : scope.kind = .function) : codeAny (model prog w) A (.call (.ref f) args) R s := by
  refine codeAny_call_function hroom (X _ _ ho) rfl hco hgen rfl (codeRec_of X hcd) (hbind _ _ _ _ ?_)
  refine wpAny_newFunctionEnv_cells hk (kindsX hkind _) fun env he s₁ x => ?_
  subst he
  exact ⟨hlim.keeps x.toInCall.keep, codeAny_func (h s₁ x)⟩

/-- C(..): dict at size, instance at size + 1, then __init__ -/
theorem make_obj {R : Result → Shared → Prop} {C fI : Addr} {rest : List Value} {kw : List (Str × Value)}
    (X : K.In s.heap) (hm : makesIn K C = true) (hi : findIn K (.ref C) "__init__" = some (some (.ref fI))) (hf : isFn K (.ref fI) = true)
    (h : codeAny (model prog w) (A.under (.builtin "type.__call__" ⟨.ref C :: rest, kw⟩)) (.call (.ref fI) ⟨.ref (s.heap.objs.size + 1) :: rest, kw⟩) (InitBack (s.heap.objs.size + 1) R)
      { s with heap := (s.heap.push emptyDict).push (instObj C s.heap.objs.size) }) : codeAny (model prog w) A (.call (.ref C) ⟨rest, kw⟩) R s := by
  obtain ⟨hh, g, d, t, os⟩ := s
  exact make_core (makes_of X hm) (looks_findIn X hi) (fun self => bind_fn X self (beq_iff_eq.mp hf)) (.inl rfl) h

/-- x.name where the instance's dict holds the name and the class does not -/
theorem get_field {x C : Addr} {ox : Obj} {es : List DictEntry} {n : Nat} {name : Str} {expr : Bool} {v : Value} {Q : Value → Shared → Prop}
    (X : K.In s.heap) (I : PySem.W.InstAt s.heap x ox C (some (dictOf es n))) (hg : plainGet K C name = true) (hh : hasDictIn K C = true) (ha : findIn K (.ref C) name = some none)
    (hl : getL name es = some (some v)) (hv : handedIn v = true) (h : Q v { s with toks := s.toks + 1 }) : wpAny (model prog w) A (getAttr (.ref x) name expr) Q E s :=
  get_value X I (plainGet_of hg).1 (findObj_own hh ha rfl hl) hv h

/-- x.m(..): the method found in the class -/
theorem get_method {x C f : Addr} {ox : Obj} {es : List DictEntry} {n : Nat} {name : Str} {pl : Sem Bool} {Q : Value × List Value → Shared → Prop}
    (X : K.In s.heap) (I : PySem.W.InstAt s.heap x ox C (some (dictOf es n))) (hg : plainGet K C name = true) (hf : findIn K (.ref C) name = some (some (.ref f))) (ht : isFn K (.ref f) = true)
    (hl : getL name es = some none) (h : Q (.ref f, [.ref x]) s) : wpAny (model prog w) A (getMethod (.ref x) name pl) Q E s :=
  method_fn X I (plainGet_of hg).1 (plainGet_of hg).2 hf (beq_iff_eq.mp ht) (by show (lookIn name (dictOf es n)).map _ = _; rw [lookIn_dict, hl]; rfl) h

/-! the whole heap as the ledger: makes every rule that writes through a ledger a rule over any heap -/
def noObjs (h : Heap) : Heap := { h with objs := #[] }
theorem noObjs_get (h : Heap) (b : Addr) : (noObjs h).get? b = none := by
  cases e : (noObjs h).get? b with
  | none => rfl
  | some o => exact absurd (Heap.lt_size e) (Nat.not_lt_zero _)
def ledger (h : Heap) (L d : Addr) : List (Addr × Obj) := (List.range h.objs.size).filterMap fun a => if a = L ∨ a = d then none else (h.get? a).map fun o => (a, o)
theorem mem_ledger {h : Heap} {L d a : Addr} {o : Obj} : (a, o) ∈ ledger h L d ↔ a ≠ L ∧ a ≠ d ∧ h.get? a = some o := by
  unfold ledger
  rw [List.mem_filterMap]
  constructor
  · rintro ⟨b, _, e⟩
    split at e
    · cases e
    · rename_i hb
      obtain ⟨o', ho, e'⟩ := Option.map_eq_some_iff.mp e
      cases e'
      exact ⟨fun q => hb (.inl q), fun q => hb (.inr q), ho⟩
  · rintro ⟨n1, n2, ho⟩
    refine ⟨a, List.mem_range.mpr (Heap.lt_size ho), ?_⟩
    rw [if_neg (show ¬ (a = L ∨ a = d) from fun q => q.elim n1 n2), ho] <;> rfl
theorem news_ledger {h : Heap} {L d : Addr} {od : Obj} (hne : d ≠ L) (ho : h.get? d = some od) : News (noObjs h) L h ([] ++ (d, od) :: ledger h L d) := by
  rintro ⟨a, o⟩ hp
  rcases List.mem_cons.mp hp with e | hp
  · cases e
    exact ⟨ho, hne, noObjs_get _ _⟩
  · obtain ⟨n1, n2, e⟩ := mem_ledger.mp hp
    exact ⟨e, n1, noObjs_get _ _⟩
theorem fr_all {h : Heap} {L : Addr} {m : Str → Option Value} (n : h.Ns L m) : Fr (noObjs h) L h m :=
  ⟨n, fun b o e => (by rw [noObjs_get] at e; cases e), Nat.zero_le _⟩
/-- Upd of the head entry (for append_K, setItem_K ..) -/
theorem upd_ledger {h : Heap} {L d : Addr} {o o' : Obj} : Upd d o o' ((d, o) :: ledger h L d) ((d, o') :: ledger h L d) :=
  .head fun ⟨_, _⟩ hp => (mem_ledger.mp hp).2.1

/-- x.name = v over any heap: L is any namespace of the heap (the frame's, say): its map stays, its object is not told; all else but the dict stays -/
theorem set_field {x C dx L : Addr} {ox : Obj} {m : Str → Option Value} {es es' : List DictEntry} {n n' : Nat} {name : Str} {v : Value} {Q : Unit → Shared → Prop}
    (X : K.In s.heap) (I : PySem.W.InstAt s.heap x ox C (some (dictOf es n))) (hd : ox.dict = some dx) (hL : s.heap.Ns L m) (hne : dx ≠ L)
    (hs : findIn K (.ref C) "__setattr__" = some (some (.builtin "object.__setattr__"))) (hp : plainOver K C = true) (ht : takerIn K C name = some none) (hh : hasDictIn K C = true) (hl : (getL name es).isSome = true)
    (e : (putL name (PyData.keyHash w.params name) (.str name (s.toks + 1)) v es, putN name es n) = (es', n')) (hz : es'.length ≤ 1000)
    (h : ∀ h' : Heap, h'.Ns L m → h'.get? dx = some (dictOf es' n') → (∀ b o, b ≠ dx → b ≠ L → s.heap.get? b = some o → h'.get? b = some o) → Q () { s with heap := h', toks := s.toks + 2 }) :
    wpAny (model prog w) A (setAttr (.ref x) name v) Q E s := by
  obtain ⟨e1, e2⟩ := Prod.mk.inj e
  have hdx : s.heap.get? dx = some (dictOf es n) := by
    have := I.dict
    rw [hd] at this
    exact this
  refine set_plain X I hs (osa_dict (s := { s with toks := s.toks + 1 }) (h₀ := noObjs s.heap) (L := L) (m := m) (od := dictOf es n) (od' := dictOf es' n') (es := es') (n := n') (pre := []) (post := ledger s.heap L dx)
    (fr_all hL) (news_ledger hne hdx) X I hd hp ht hh hl (fun _ q => nomatch q) (fun ⟨_, _⟩ q => (mem_ledger.mp q).2.1) (by rw [putName_dict, e1, e2]) rfl hz fun h' F' N' => ?_)
  exact h h' F'.ns (N'.get (List.Mem.head _)) fun b o n1 n2 ho => N'.get (List.Mem.tail _ (mem_ledger.mpr ⟨n2, n1, ho⟩))
end
end Att

namespace L2
open PySem PySem.Spec PyProof.Rows

theorem vals_ints : ∀ {vs : List Value} {ns : List Int}, IntsAre vs ns → Vals (ns.map V.int) vs
  | _, _, .nil => .nil
  | _, _, .cons n t h => .cons ⟨t, rfl⟩ (vals_ints h)

/-- nothing is tracked but the script, known to the object (or it is an object of the module) -/
def Only (H : Hp) : Prop := ∀ b, H b = none ∨ ∃ o xs, H b = some (.frz o (.lst xs))

/-- THE HEAD: the law's promise, at the heap behind the top. F, the promise of the law's def, may use that base is part of the heap (so K.In base, base.Ns mainGlobals mg stand in Mod) -/
theorem law_call {P : Program} {w : World} {K : PySem.W.Frag} {mg mb : Str → Option Value} {CX : CXT} {k : Nat} {fa a : Addr} {fd : FuncData} {x : Str} {sp : Sp} {s₁ : Shared} {vs : List Value} {ns : List Int}
    (KX : K.In s₁.heap) (hns : s₁.heap.Ns mainGlobals mg) (hb : s₁.heap.Ns builtinsNs mb) (hbb : ∀ x : Str, x ≠ "__name__" → mb x = bootBuiltins x) (hlim : s₁.heap.NoLimit) (hg : s₁.gens = #[])
    (ha : s₁.heap.get? a = some { cls := .type "list", data := .seq vs.toArray }) (hi : IntsAre vs ns) (hl : ns.length ≤ sizeLine) (hr : Room k callerA)
    (F : ∀ base : Heap, K.In base → base.Ns mainGlobals mg → FnOk P w K mg base CX k fa fd [x] sp) (hbind : ∀ (s : Shared) (u : Value), BindsTo s fd ⟨[u], []⟩ [(x, u)])
    (hsp : ∀ H : Hp, Only H → SqL K H a (ns.map V.int) → sp [.ref a] H (fun v _ => v = .bl true) fun _ _ _ => False)
    (hCX : ∀ H e s', CX [] H s₁ (fun _ _ _ => False) e s' → False) :
    codeAny (model P w) callerA (.call (.ref fa) ⟨[.ref a], []⟩) (fun r s' => r = .ok (.ret (.bool true)) ∧ OldK s₁.heap s'.heap ∧ s'.os = s₁.os ∧ AllBare s'.gens) s₁ := by
  have rv := vals_ints hi
  have lenV := hi.length
  -- from an abstract heap in which nothing but the script may be tracked
  have core : ∀ H : Hp, Only H → SqL K H a (ns.map V.int) → HOk P w H s₁.heap → (∀ b, H b ≠ none → b = a) → (H a ≠ none → K.lookup a = none) →
      codeAny (model P w) callerA (.call (.ref fa) ⟨[.ref a], []⟩) (fun r s' => r = .ok (.ret (.bool true)) ∧ OldK s₁.heap s'.heap ∧ s'.os = s₁.os ∧ AllBare s'.gens) s₁ := by
    intro H hO hS hok hA hK
    have base_of : ∀ {b : Addr} {o : Obj}, s₁.heap.get? b = some o → H b = none → (hidT s₁.heap H).get? b = some o := fun e n => hidT_get e n
    have noA : ∀ {b : Addr} {o : Obj} {es : Array DictEntry} {ep : Nat}, s₁.heap.get? b = some o → o.data = .dict es ep → H b = none := fun {b o es ep} e d => by
      cases q : H b with
      | none => rfl
      | some u =>
        have e' : b = a := hA b (by rw [q]; simp)
        subst e'
        rw [ha] at e; cases e
        have d' : Data.seq vs.toArray _ = Data.dict es ep := d
        cases d'
    have nsK : ∀ {b : Addr} {m : Str → Option Value}, s₁.heap.Ns b m → (hidT s₁.heap H).Ns b m := fun {b m} ⟨o, es, ep, e, d, r⟩ => ⟨o, es, ep, base_of e (noA e d), d, r⟩
    have hKb : K.In (hidT s₁.heap H) := fun b o e => base_of (KX b o e) (by
      cases q : H b with
      | none => rfl
      | some u =>
        have e' : b = a := hA b (by rw [q]; simp)
        subst e'
        rw [hK (by rw [q]; simp)] at e; cases e)
    have hM : Mod K mg (hidT s₁.heap H) := ⟨hKb, nsK hns, ⟨mb, nsK hb, hbb⟩, let ⟨mc, h1, h2⟩ := hlim; ⟨mc, nsK h1, h2⟩⟩
    have e0 : Env0 P w K mg (hidT s₁.heap H) callerA [] s₁ H := ⟨rfl, hM, fun b o e => of_hidT e, Nat.le_of_eq (hidT_size _ _), trivial, fun b hb => absurd (show b ∈ ([] : List Addr) from hb) (by simp), hok, .of_eq hg⟩
    refine codeAny_mono ((F _ hKb (nsK hns)).run callerA [] s₁ H ⟨[.ref a], []⟩ [.ref a] [.ref a] _ _ hr e0 (hbind s₁ (.ref a)) (.cons rfl .nil) (hsp H hO hS)) fun r s' h => ?_
    cases r with
    | error e => exact (hCX H e s' h).elim
    | ok fl =>
      cases fl with
      | next => exact False.elim h
      | brk => exact False.elim h
      | cont => exact False.elim h
      | ret u =>
        obtain ⟨v, H', os, bare, un, hok', r', q⟩ := h
        have q' : v = .bl true := q
        subst q'
        obtain rfl : u = Value.bool true := r'
        refine ⟨rfl, OldK.of_keep fun b o e => ?_, os, bare⟩
        cases q : H b with
        | none => exact un.keep b o e q (by intro z; exact absurd (show b ∈ ([] : List Addr) from z) (by simp)) (by simp)
        | some u =>
          rcases hO b with z | ⟨ob, xs, z⟩
          · rw [q] at z; cases z
          · have z2 := un.frzs b ob _ z
            obtain ⟨e1, _⟩ := hok b _ z
            obtain ⟨e2, _⟩ := hok' b _ z2
            rw [e] at e1; cases e1
            exact e2
  cases hk : K.lookup a with
  | some o =>
    -- the script is one of the module's own objects
    have e := KX a o hk
    rw [ha] at e
    cases e
    refine core (fun _ => none) (fun _ => .inl rfl) (.inr ⟨_, vs.toArray, _, hk, rfl, rfl, rfl, by rw [List.size_toArray, lenV]; exact hl, by simpa using rv⟩) (fun b u z => by have z' : (none : Option HO) = some u := z; cases z') (fun b z => absurd rfl z) fun z => absurd rfl z
  | none =>
    refine core (fun b => if b = a then some (.frz { cls := .type "list", data := .seq vs.toArray } (.lst (ns.map V.int))) else none) (fun b => ?_) (.inl (.inr ⟨{ cls := .type "list", data := .seq vs.toArray }, if_pos rfl⟩)) (fun b u z => ?_) (fun b z => ?_) fun _ => hk
    · by_cases hb : b = a
      · exact .inr ⟨_, _, if_pos hb⟩
      · exact .inl (if_neg hb)
    · by_cases hb : b = a
      · have z' := (if_pos hb).symm.trans z
        cases z'
        subst hb
        exact ⟨ha, by rw [List.length_map]; exact hl, vs, _, rv, ha⟩
      · have z' := (if_neg hb).symm.trans z
        cases z'
    · by_cases hb : b = a
      · exact hb
      · exact absurd (if_neg hb) z
end L2

namespace L2
open PySem PySem.Spec PyProof.Rows

abbrev KOf {K : PySem.W.Frag} {h : Heap} (_ : K.In h) : PySem.W.Frag := K

/-- the goal that k_head leaves (case hc), from the law's promise. F gives the function object fd (K's own) once, then the promise over every base -/
theorem walk_of {l : PySem.W.OpenLaw} {n k : Nat} {q : Program} {loose : List Str} {XP : (Str → Option Value) → Heap → Prop} {YP : World → Heap → Prop} {d : DefRec} {K : Params → PySem.W.Frag} {CX : World → CXT} {sp : World → Sp} {x : Str}
    (hn : l.most = some n) (hn2 : n ≤ sizeLine) (hdf : d.params.defaults = []) (hr : Room k callerA)
    (hY : ∀ (w : World) (h : Heap), YP w h → (K w.params).In h)
    (F : ∀ (w : World) (mg : Str → Option Value) (fa : Addr) (h : Heap), (K w.params).In h → h.Ns mainGlobals mg → mg d.name = some (.ref fa) →
      ∃ fd : FuncData, (∀ (s : Shared) (u : Value), BindsTo s fd ⟨[u], []⟩ [(x, u)]) ∧
        ∀ base : Heap, (K w.params).In base → base.Ns mainGlobals mg → FnOk l.prog w (K w.params) mg base (CX w) k fa fd [x] (sp w))
    (hsp : ∀ (w : World) (H : Hp) (a : Addr) (ns : List Int), ns.length ≤ n → Only H → SqL (K w.params) H a (ns.map V.int) → sp w [.ref a] H (fun v _ => v = .bl true) fun _ _ _ => False)
    (hCX : ∀ (w : World) (H : Hp) (s : Shared) (e : Value) (s' : Shared), CX w [] H s (fun _ _ _ => False) e s' → False) :
    PySem.W.WalkO q loose XP YP l.row.toRowW d [] (fun f vs => PySem.call f vs) := by
  refine Att.attach_call hn hdf fun w s₀ s₁ mg mb fa o pm cd doc a vs ns G Y ho hd hcd hmg hobj hints hlen hg => ?_
  have KX := hY w _ Y
  obtain ⟨fd, hb, hF⟩ := F w mg fa _ KX G.T.g hmg
  exact law_call KX G.T.g G.T.b G.T.builtins G.T.nolimit hg hobj hints (Nat.le_trans hlen hn2) hr hF hb (fun H hO hS => hsp w H a ns hlen hO hS) fun H e s' => hCX w H s₁ e s'
/-- the same where the promise hangs on the written part alone: (sp := My.sp_law), no hole under a binder -/
theorem walk_ofK {l : PySem.W.OpenLaw} {n k : Nat} {q : Program} {loose : List Str} {XP : (Str → Option Value) → Heap → Prop} {YP : World → Heap → Prop} {d : DefRec} {K : Params → PySem.W.Frag} {CX : CXT} {sp : PySem.W.Frag → Sp} {x : Str}
    (hn : l.most = some n) (hn2 : n ≤ sizeLine) (hdf : d.params.defaults = []) (hr : Room k callerA)
    (hY : ∀ (w : World) (h : Heap), YP w h → (K w.params).In h)
    (F : ∀ (w : World) (mg : Str → Option Value) (fa : Addr) (h : Heap), (K w.params).In h → h.Ns mainGlobals mg → mg d.name = some (.ref fa) →
      ∃ fd : FuncData, (∀ (s : Shared) (u : Value), BindsTo s fd ⟨[u], []⟩ [(x, u)]) ∧
        ∀ base : Heap, (K w.params).In base → base.Ns mainGlobals mg → FnOk l.prog w (K w.params) mg base CX k fa fd [x] (sp (K w.params)))
    (hsp : ∀ (K : PySem.W.Frag) (H : Hp) (a : Addr) (ns : List Int), ns.length ≤ n → Only H → SqL K H a (ns.map V.int) → sp K [.ref a] H (fun v _ => v = .bl true) fun _ _ _ => False)
    (hCX : ∀ (H : Hp) (s : Shared) (e : Value) (s' : Shared), CX [] H s (fun _ _ _ => False) e s' → False) :
    PySem.W.WalkO q loose XP YP l.row.toRowW d [] (fun f vs => PySem.call f vs) :=
  walk_of (K := K) (CX := fun _ => CX) (sp := fun w => sp (K w.params)) hn hn2 hdf hr hY F (fun w H a ns h1 h2 h3 => hsp (K w.params) H a ns h1 h2 h3) fun _ H s e s' => hCX H s e s'
end L2

/- THE LAST THEOREM (shape; LID, My.* are yours):
   My.Adr: a structure of the addresses that your layer names (classes, functions); My.Txt K t: a structure (Prop) of the equations over K;
   My.txt_mk : {K} {implicit addresses ..} (e1 : nsIn K mainGlobals "law" = some (some (.ref f))) (e2 : K.lookup f = some ⟨oc, od, .func (fnOf "law" "law" params body scope dV kV doc pm an cdv ct), sl⟩) (e3 : codeIn K cdv "law" = true) .. : ∃ t, My.Txt K t

set_option maxRecDepth 100000 in
set_option maxHeartbeats 0 in
theorem PySem.Challenge.cw_LID_holds : PySem.Challenge.rw_LID.Holds := by
  w_on; o_law; k_head; (case hw => w_witness2)
  k_fill
  refine L2.walk_of (l := PySem.Challenge.rw_LID) (n := 63) (k := 40) (x := "script") (CX := fun w => ..) (sp := fun _ => My.sp_law) rfl (by decide) rfl ⟨rfl, by decide, by decide⟩ (fun w h Y => PySem.W.kIn_of Y) ?F ?S ?C
  case F =>
    intro w mg fa h KX G hmg
    have T : ∃ t, My.Txt (L2.KOf KX) t := by
      dsimp only [L2.KOf]                          -- K must stand as «<heap const> w.params» for k_is
      refine' My.txt_mk ?e1 ?e2 ?e3 ..
      (case e1 => PySem.W.k_is)                    -- in the order: a name -> its address -> its object -> its parts
      (case e2 => PySem.W.k_is)
      ..
    obtain ⟨t, T⟩ := T
    have e0 := hmg.symm.trans (PySem.W.mg_of KX G T.law)
    cases e0                                       -- fa is the law's own address
    exact ⟨_, fun s u => .of_eq rfl, fun base kb nb => My.law_fn T kb nb⟩     -- if «.of_eq rfl» comes too early: refine' ⟨_, ?b, fun base kb nb => My.law_fn T kb nb⟩; exact fun s u => .of_eq rfl
  case S => exact fun w H a ns hl hO hS => ..
  case C => exact ..
(the tactic k_is has no namespace: write k_is) -/

/-! SHORT WORDS over the layer: a def of the text, its body, what a loop and a test want. -/
namespace L2
open PySem PySem.Spec PyProof.Rows

/-! ### the text by places -/
/-- the j-th statement of a class's body -/
def inClass (s : Stmt) (j : Nat) : Stmt := match s with
  | .ClassDef _ _ _ body _ _ _ _ _ _ _ => body.getD j (.Pass ⟨0, 0, 0, 0⟩)
  | _ => .Pass ⟨0, 0, 0, 0⟩
def defArgs (s : Stmt) : Arguments := match s with
  | .FunctionDef _ a _ _ _ _ _ _ _ _ => a
  | _ => { posonlyargs := [], args := [], vararg := none, kwonlyargs := [], kw_defaults := [], kwarg := none, defaults := [] }
def defBody (s : Stmt) : List Stmt := match s with
  | .FunctionDef _ _ b _ _ _ _ _ _ _ => b
  | _ => []
def defScope (s : Stmt) : Scope := match s with
  | .FunctionDef _ _ _ _ _ _ sc _ _ _ => sc
  | _ => { kind := .function, names := [], isGenerator := false, isCoroutine := false }

/-! ### no exception leaves a def -/
abbrev CX0 : CXT := fun _ _ _ _ _ _ => False
abbrev E0 : XK := fun _ _ _ => False
theorem pass0 {X : Cx} : Passes CX0 X E0 := fun _ _ _ _ _ _ _ h => h.elim

/-! ### a def (or method) of the text as it stands behind the top -/
structure Fun (K : PySem.W.Frag) (x qual : Str) (st : Stmt) (f : Addr) (fd : FuncData) : Prop where
  ex : ∃ (oc : Value) (od : Option Addr) (kV doc pm : Value) (an : Option Addr) (cdv ct : Value) (osl : Array (Option Value)),
    fd = PySem.W.fnOf x qual (defArgs st) (defBody st) (defScope st) .none kV doc pm an cdv ct ∧ K.lookup f = some ⟨oc, od, .func fd, osl⟩ ∧ PySem.W.codeIn K cdv qual = true
  kp : PySem.W.keepIn K (.ref f) = true
section
variable {P : Program} {w : World} {K : PySem.W.Frag} {mg : Str → Option Value} {base : Heap}
/-- THE RULE for a def: its body as a term of rules, and the reading of that term -/
theorem Fun.ok {x qual : Str} {st : Stmt} {f : Addr} {fd : FuncData} {N ps : List Str} {k : Nat} {sp : Sp} (F : Fun K x qual st f fd) (S : FnScope N ps (defScope st)) (len : ∀ vs H Q E, sp vs H Q E → vs.length = ps.length)
    (hbody : ∀ (cdv : Value) (A : Around) (outer : List Env) (s : Shared) (H : Hp) (vs : List V) (Q : VK) (E : XK), Room k (A.deeper (envOfC qual (defScope st) s.heap.objs.size f cdv)) → sp vs H Q E →
      ∃ t, PSs (cxOf CX0 P w K mg base N qual (defScope st) f cdv A outer s H E).nox (defBody st) t ∧ t { nx := fun _ H' => Q .non H', rt := Q } (start N vs) H) : FnOk P w K mg base CX0 (k + 1) f fd ps sp := by
  obtain ⟨oc, od, kV, doc, pm, an, cdv, ct, osl, rfl, lk, hcd⟩ := F.ex
  refine fn_of lk hcd S len fun A outer s H vs Q E hr hsp => ?_
  obtain ⟨t, h, q⟩ := hbody cdv A outer s H vs Q E hr hsp
  exact ⟨t, h.nox, q⟩
/-- how its arguments bind (no defaults): h is «fun _ _ _ _ _ _ us hl => match us, hl with | [_, _], _ => rfl», one _ a parameter -/
theorem Fun.binds {x qual : Str} {st : Stmt} {f : Addr} {fd : FuncData} {ps : List Str} (F : Fun K x qual st f fd)
    (h : ∀ (kV doc pm : Value) (an : Option Addr) (cdv ct : Value) (us : List Value), us.length = ps.length → bindArgs (PySem.W.fnOf x qual (defArgs st) (defBody st) (defScope st) .none kV doc pm an cdv ct) ⟨us, []⟩ = pure (ps.zip us)) : Binds K fd ps [] := by
  obtain ⟨oc, od, kV, doc, pm, an, cdv, ct, osl, rfl, lk, hcd⟩ := F.ex
  exact .all (h kV doc pm an cdv ct)
theorem fun_mk {x qual : Str} {st : Stmt} {f : Addr} {oc : Value} {od an : Option Addr} {osl : Array (Option Value)} {kV doc pm cdv ct : Value} (l : K.lookup f = some ⟨oc, od, .func (PySem.W.fnOf x qual (defArgs st) (defBody st) (defScope st) .none kV doc pm an cdv ct), osl⟩)
    (c : PySem.W.codeIn K cdv qual = true) (k : PySem.W.keepIn K (.ref f) = true) : Fun K x qual st f (PySem.W.fnOf x qual (defArgs st) (defBody st) (defScope st) .none kV doc pm an cdv ct) := ⟨⟨oc, od, kV, doc, pm, an, cdv, ct, osl, rfl, l, c⟩, k⟩
end
theorem hu_of {A : Around} {k : Nat} (hr : Room k A) : A.units + 1 < cLine := Nat.lt_of_le_of_lt (Nat.add_le_add_left (by decide : 1 ≤ 64) _) hr.units
theorem small1000 {n : Nat} (h : n ≤ 1000) : n < sizeLine := Nat.lt_of_le_of_lt h (by decide)

/-! ### expressions in short: the name that stands in the i-th slot -/
section
variable {X : Cx}
theorem pv (i : Nat) {x : Str} {pos : Pos} (hN : X.N[i]? = some x := by rfl) (hv : Vis X.env.scope x := by first | exact Or.inl rfl | exact Or.inr (Or.inl rfl) | exact Or.inr (Or.inr rfl)) (hd : (x == ("__debug__" : Str)) = false := by decide)
    (hcd : (x == ("__classdict__" : Str)) = false := by decide) : PE X (.Name x pos) (tVar i) := pe_var hN hv hd hcd
end

/-! ### tests -/
theorem iteF {A B : Prop} (h : B) : if false = true then A else B := by
  rw [if_neg Bool.false_ne_true]
  exact h
theorem iteT {A B : Prop} (h : A) : if true = true then A else B := by
  rw [if_pos rfl]
  exact h
theorem ite2 {c A B : Prop} [Decidable c] (h1 : c → A) (h2 : ¬ c → B) : if c then A else B := by
  by_cases h : c
  · rw [if_pos h]
    exact h1 h
  · rw [if_neg h]
    exact h2 h
theorem iteNS {c A B : Prop} [Decidable c] (hc : c) (h : B) : if (!decide c) = true then A else B := by
  rw [decide_eq_true hc]
  exact iteF h

/-! ### heaps -/
/-- all that was tracked is as it was -/
def Same (H H' : Hp) : Prop := ∀ b o, H b = some o → H' b = some o
theorem Same.refl (H : Hp) : Same H H := fun _ _ h => h
theorem Same.trans {H H1 H2 : Hp} (a : Same H H1) (b : Same H1 H2) : Same H H2 := fun c o h => b c o (a c o h)
theorem Same.free {H H' : Hp} (e : Same H H') {l : Addr} (h : H' l = Option.none) : H l = Option.none := by
  cases q : H l with
  | none => rfl
  | some o =>
    rw [e l o q] at h
    cases h
theorem Same.seq {K : PySem.W.Frag} {H H' : Hp} {a : Addr} {xs : List V} (e : Same H H') (h : SqL K H a xs) : SqL K H' a xs := by
  rcases h with (h | ⟨o, h⟩) | h
  · exact .inl (.inl (e _ _ h))
  · exact .inl (.inr ⟨o, e _ _ h⟩)
  · exact .inr h

end L2

set_option maxHeartbeats 4000000
namespace L2
open PySem PySem.Spec PyProof.Rows

/-! ### list comprehensions of one clause, within the hand layer -/
section
variable {X : Cx} {pins : List (Addr × Obj)} {σ : St} {H : Hp} {s : Shared} {a : Addr} {o : HO}
theorem HOk.adopt {P : Program} {w : World} {h : Heap} (x : HOk P w H h) (hn : H a = none) (new : ObjOk P w (upd H a o) h a o) : HOk P w (upd H a o) h := fun b u e => by
  by_cases hb : b = a
  · subst hb; rw [upd_same] at e; cases e; exact new
  · rw [upd_ne hb] at e
    exact (x b u e).stay (fun c v _ q => q) (fun c q => by rw [upd_ne (ne_of_none q hn)]; exact q) fun c xs q => by rw [upd_ne (ne_of_none q hn)]; exact q
/-- an object that was not tracked is tracked from here on -/
theorem Inv.adopt (I : Inv X pins σ H s) (f : FpOk X pins H a) (new : ObjOk X.prog X.w (upd H a o) s.heap a o) : Inv X pins σ (upd H a o) s := by
  obtain ⟨hn, hL, hfs, hex, hc, hp⟩ := f
  refine ⟨I.ok, I.os, I.bare, ⟨I.base.keep, I.base.slot, fun b ob e n hx => ?_, I.base.there, fun b xs e => ?_, fun b ob u e => ?_, fun b ps e => ?_⟩, I.loc, I.cell, by rw [upd_ne (Ne.symm hL)]; exact I.free, fun x c e => by rw [upd_ne (hc x c e)]; exact I.freeC x c e, fun p q => ?_, HOk.adopt I.hok hn new, I.len⟩
  · have nb : b ≠ a := fun z => by
      rcases hex with z' | z'
      · exact hx (z ▸ z')
      · exact absurd (Heap.lt_size e) (by rw [z]; exact Nat.not_lt.mpr z')
    rw [upd_ne nb]
    exact I.base.free b ob e n hx
  · have q := I.base.tups b xs e
    rw [upd_ne (ne_of_none q hn)]
    exact q
  · have q := I.base.frzs b ob u e
    rw [upd_ne (ne_of_none q hn)]
    exact q
  · obtain ⟨m, q⟩ := I.base.tbls b ps e
    exact ⟨m, by rw [upd_ne (ne_of_none q hn)]; exact q⟩
  · obtain ⟨e, n, r⟩ := I.pin p q
    exact ⟨e, by rw [upd_ne (hp p q)]; exact n, r⟩
end

/-! the closure of the block -/
theorem forIn_yield_fold {α β : Type} {f : α → β → Sem (ForInStep β)} {g : α → β → β} : ∀ (l : List α) (c : β), (∀ x ∈ l, ∀ c, f x c = pure (.yield (g x c))) → forIn l c f = pure (l.foldl (fun c x => g x c) c)
  | [], _, _ => rfl
  | x :: l, c, h => by
    rw [List.forIn_cons, h x List.mem_cons_self, pure_bind]
    exact forIn_yield_fold l (g x c) fun y hy => h y (List.mem_cons_of_mem _ hy)
def clG (env : Env) (x : Str × NameKind) (c : List (Str × Addr)) : List (Str × Addr) := if (x.2 == NameKind.free) = true then (x.1, (env.cells.lookup x.1).getD 0) :: c else c
def clOf (env : Env) (scope : Scope) : List (Str × Addr) := scope.names.foldl (fun c x => clG env x c) []
theorem closure_eq {env : Env} {scope : Scope} (h : ∀ y ∈ scope.names, y.2 = .free → ∃ c, env.cells.lookup y.1 = some c) : closureFor scope env = pure (clOf env scope) := by
  simp only [closureFor]
  rw [forIn_yield_fold (g := clG env) scope.names [] (fun x hx c => by
    obtain ⟨n, k⟩ := x
    unfold clG
    by_cases hk : (k == NameKind.free) = true
    · obtain ⟨a, ha⟩ := h _ hx (by simpa using hk)
      have ha' : env.cells.lookup n = some a := ha
      simp only [hk, if_true, cellOf, ha', pure_bind, Option.getD_some]
    · have hk' : (k == NameKind.free) = false := Bool.eq_false_iff.mpr hk
      simp only [hk', Bool.false_eq_true, if_false])]
  rfl
theorem clG_look {env : Env} : ∀ (l : List (Str × NameKind)) (cs : List (Str × Addr)), (∀ y ∈ l, y.2 = .free → ∃ c, env.cells.lookup y.1 = some c) → (∀ y c, cs.lookup y = some c → env.cells.lookup y = some c) →
    (∀ y c, (l.foldl (fun c x => clG env x c) cs).lookup y = some c → env.cells.lookup y = some c) ∧ ∀ y, ((cs.lookup y).isSome = true ∨ (y, NameKind.free) ∈ l) → ((l.foldl (fun c x => clG env x c) cs).lookup y).isSome = true
  | [], cs, _, h => ⟨h, fun y hy => hy.elim id fun z => absurd z (by simp)⟩
  | (n, k) :: l, cs, hf, h => by
    have hf' : ∀ y ∈ l, y.2 = .free → ∃ c, env.cells.lookup y.1 = some c := fun y hy => hf y (List.mem_cons_of_mem _ hy)
    rw [List.foldl_cons]
    by_cases hk : k = .free
    · subst hk
      obtain ⟨a, ha⟩ := hf (n, .free) List.mem_cons_self rfl
      have ha' : env.cells.lookup n = some a := ha
      have e : clG env (n, .free) cs = (n, a) :: cs := by
        unfold clG
        rw [if_pos (by rfl)]
        show (n, (env.cells.lookup n).getD 0) :: cs = _
        rw [ha']
        rfl
      rw [e]
      have ih := clG_look l ((n, a) :: cs) hf' (fun y c hy => by
        rw [List.lookup_cons] at hy
        cases hb : y == n with
        | true =>
          rw [hb] at hy
          rw [eq_of_beq hb]
          exact ha'.trans hy
        | false =>
          rw [hb] at hy
          exact h y c hy)
      refine ⟨ih.1, fun y hy => ih.2 y ?_⟩
      rcases hy with hy | hy
      · left
        rw [List.lookup_cons]
        cases y == n with
        | true => rfl
        | false => exact hy
      · rcases List.mem_cons.mp hy with hy | hy
        · left
          rw [(Prod.mk.inj hy).1, List.lookup_cons]
          simp
        · exact .inr hy
    · have e : clG env (n, k) cs = cs := by
        unfold clG
        rw [if_neg (by simpa using hk)]
      rw [e]
      have ih := clG_look l cs hf' h
      refine ⟨ih.1, fun y hy => ih.2 y ?_⟩
      rcases hy with hy | hy
      · exact .inl hy
      · rcases List.mem_cons.mp hy with hy | hy
        · exact absurd (Prod.mk.inj hy).2.symm hk
        · exact .inr hy
theorem lookup_relabel_free {env : Env} : ∀ {names : List (Str × NameKind)} {x : Str}, names.lookup x = some .free →
    (names.map fun (n, k) => if (k == NameKind.free && env.scope.kind == .function && env.kindOf n == some .cell) then (n, NameKind.cell) else (n, k)).lookup x ≠ some .local
  | [], _, h => by simp at h
  | (n, k) :: r, x, h => by
    have ih := @lookup_relabel_free env r x
    show List.lookup x ((if (k == NameKind.free && env.scope.kind == .function && env.kindOf n == some .cell) = true then (n, NameKind.cell) else (n, k)) :: _) ≠ _
    cases hx : x == n with
    | true =>
      simp only [List.lookup_cons, hx] at h
      cases h
      split
      · simp [List.lookup_cons, hx]
      · simp [List.lookup_cons, hx]
    | false =>
      simp only [List.lookup_cons, hx] at h
      by_cases hc : (k == NameKind.free && env.scope.kind == .function && env.kindOf n == some .cell) = true
      · rw [if_pos hc]; simp only [List.lookup_cons, hx]; exact ih h
      · rw [if_neg hc]; simp only [List.lookup_cons, hx]; exact ih h
theorem free_of_relabel {env : Env} {scope : Scope} {y : Str} (nc : ∀ z ∈ scope.names, z.2 ≠ .cell) (h : (relabel scope env).names.lookup y = some .cell ∨ (relabel scope env).names.lookup y = some .free) : (y, NameKind.free) ∈ scope.names := by
  have go : ∀ k, (k = NameKind.cell ∨ k = NameKind.free) → (relabel scope env).names.lookup y = some k → (y, NameKind.free) ∈ scope.names := fun k hk e => by
    have m := PySem.mem_of_lookup e
    obtain ⟨⟨n, k'⟩, hm, e'⟩ := List.mem_map.mp m
    by_cases hc : (k' == NameKind.free && env.scope.kind == .function && env.kindOf n == some .cell) = true
    · have e2 : (n, NameKind.cell) = (y, k) := by
        rw [← e']
        show _ = (if (k' == NameKind.free && env.scope.kind == .function && env.kindOf n == some .cell) = true then (n, NameKind.cell) else (n, k'))
        rw [if_pos hc]
      have hk' : k' = .free := by
        simp only [Bool.and_eq_true, beq_iff_eq] at hc
        exact hc.1.1
      rw [← (Prod.mk.inj e2).1, ← hk']
      exact hm
    · have e2 : (n, k') = (y, k) := by
        rw [← e']
        show _ = (if (k' == NameKind.free && env.scope.kind == .function && env.kindOf n == some .cell) = true then (n, NameKind.cell) else (n, k'))
        rw [if_neg hc]
      rcases hk with hk | hk
      · exact absurd ((Prod.mk.inj e2).2.trans hk) (nc _ hm)
      · rw [← (Prod.mk.inj e2).1, ← hk, ← (Prod.mk.inj e2).2]
        exact hm
  rcases h with h | h
  · exact go _ (.inl rfl) h
  · exact go _ (.inr rfl) h

/-! the block's own context -/
def cxComp (X : Cx) (N : List Str) (scope : Scope) (C : Addr) (s : Shared) (H : Hp) (ex : List Addr) (pn : List (Addr × Obj)) (E : Value → Shared → Prop) : Cx where
  prog := X.prog
  w := X.w
  K := X.K
  mg := X.mg
  base := X.base
  A := X.A
  N := N
  s₀ := s
  H₀ := H
  env := compEnvC scope (clOf X.env scope) C X.env
  outer := X.stack
  stack := X.stack
  ex := ex
  fn := fun _ => false
  calm := X.calm
  pn := pn
  xe := E
/-- what is read off the text: osc, N the scope and the names around; caps: the names (with their places around) that the block sees -/
structure CompSc (osc : Scope) (N : List Str) (scope : Scope) (x : Str) (caps : List (Nat × Str)) : Prop where
  kind : scope.kind = .function
  hx : scope.names.lookup x = some .local
  ncell : ∀ y ∈ scope.names, y.2 ≠ .cell
  nloc : ∀ y ∈ scope.names, y.2 = .local → scope.names.lookup y.1 = some .local
  free : ∀ y ∈ scope.names, y.2 = .free → osc.names.lookup y.1 = some .cell ∨ osc.names.lookup y.1 = some .free
  cap : ∀ p ∈ caps, N[p.1]? = some p.2 ∧ scope.names.lookup p.2 = some .free
  nd : (x :: caps.map (·.2)).Nodup
def capS (caps : List (Nat × Str)) (σ : St) : St := caps.map fun p => (σ[p.1]?).getD none
def PIfs (X : Cx) (ifs : List Expr) (tc : TT) : Prop :=
  ∀ (pins : List (Addr × Obj)) (s : Shared) (σ : St) (H : Hp) (Q : Bool → Hp → Prop), Inv X pins σ H s → tc σ H Q →
    wpAny (model X.prog X.w) X.A (forIn ifs true fun c r => if r = true then do let ok ← isTrue c X.env (eval c X.env); pure (ForInStep.yield ok) else pure (ForInStep.yield r)) (TP X pins σ Q) X.xe s
def tYes : TT := fun _ H Q => Q true H
theorem pifs_nil {X : Cx} : PIfs X [] tYes := fun _ _ _ H _ I h => by
  simp only [List.forIn_nil]
  exact wpAny_pure ⟨H, I, h⟩
theorem pifs_one {X : Cx} {c : Expr} {tc : TT} (h : PT X c tc) : PIfs X [c] tc := by
  intro pins s σ H Q I hq
  simp only [List.forIn_cons, List.forIn_nil, if_true]
  exact wpAny_bind (wpAny_bind (wpAny_mono (h pins s σ H Q I hq) (fun b s' hb => wpAny_pure (wpAny_pure hb)) fun _ _ x => x))
/-- the block's reading: W, what holds ahead of turn i with a measure m and the items acc so far; Z, what is wanted behind -/
def tCompW (J : It) (cs : St) (tc : TT) (te : TE) (H1 : Hp) (Z : List V → Hp → Prop) : Prop :=
  ∃ W : Nat → Nat → List V → Hp → Prop, (∃ m, W 0 m [] H1) ∧ ∀ i m acc H, W i m acc H →
    (J.stop i H ∧ Z acc H) ∨ (J.go i H ∧ ∃ N : List V → Hp → Prop, (∀ a H', N a H' → ∃ m', m' < m ∧ W (i + 1) m' a H') ∧
      ∀ x H', J.yld i H x H' → tc (some x :: cs) H' fun b H2 => if b = true then te (some x :: cs) H2 fun v H3 => acc.length < sizeLine ∧ N (acc ++ [v]) H3 else N acc H2)
def tComp (wi : TI) (caps : List (Nat × Str)) (tc : TT) (te : TE) : TE := fun σ H Q => wi σ H fun J H1 => tCompW J (capS caps σ) tc te H1 fun acc H2 => ∀ p, H2 p = none → Q (.ref p) (upd H2 p (.lst acc))

/-! the loop -/
theorem comp_loop {X : Cx} {elt iter : Expr} {x : Str} {ns : List Str} {px pos : Pos} {ifs : List Expr} {scope : Scope} {it D : Addr} {fp : List Addr} {tn : Nat → Heap → Prop} {J : It} {tc : TT} {te : TE} {Z : List V → Hp → Prop} {R : Result → Shared → Prop}
    {cs : St} {o : Option V} {H : Hp} {s : Shared} (hc : X.calm = true) (hN : X.N = x :: ns) (nd : X.N.Nodup) (hx : X.env.scope.names.lookup x = some .local) (I : Inv X [] (o :: cs) H s) (T : Turn X.prog X.w X.K (.Name x px) J fp it tn) (st : tn 0 s.heap) (hf : ∀ b ∈ fp, FpOk X [] H b)
    (hD : FpOk X [] H D) (hDf : D ∉ fp) (pl : s.heap.PlainList D #[]) (hifs : PIfs X ifs tc) (helt : PE X elt te) (hW : tCompW J cs tc te H Z) (hxe : X.xe = notedBy (model X.prog X.w) X.A X.env fun e s' => R (.error e) s')
    (hR : ∀ (s' : Shared) (H' : Hp) (acc : List V) (its : List Value) (o' : Option V), Inv X [] (o' :: cs) H' s' → s'.heap.PlainList D its.toArray → Vals acc its → acc.length ≤ sizeLine → H' D = none → Z acc H' → R (.ok .next) s') :
    codeAny (model X.prog X.w) X.A (.compLoop (.ListComp elt [⟨.Name x px, iter, ifs, 0⟩] scope pos) 0 (.ref it) (.ref D) X.env) R s := by
  obtain ⟨W, ⟨m0, w0⟩, turn⟩ := hW
  refine codeAny_compLoop_tests (fun n s' => ∃ (i : Nat) (acc : List V) (its : List Value) (H' : Hp) (o' : Option V), Inv X [] (o' :: cs) H' s' ∧ tn i s'.heap ∧ (∀ b ∈ fp, H' b = none) ∧ H' D = none ∧ s'.heap.PlainList D its.toArray ∧ Vals acc its ∧ acc.length ≤ sizeLine ∧ W i n acc H') ?_ m0
    ⟨0, [], [], H, o, I, st, fun b hb => (hf b hb).1, hD.1, pl, .nil, Nat.zero_le _, w0⟩
  rintro n s3 ⟨i, acc, its, H3, o3, I3, st3, fr3, hD3, ⟨nD, gD⟩, va, hl, w3⟩
  rw [← hxe]
  -- the list is pinned through the turn
  have I4 : Inv X [(D, { cls := .type "list", data := .seq its.toArray nD })] (o3 :: cs) H3 s3 := I3.pins_of fun p hp => by
    obtain rfl : p = (D, { cls := .type "list", data := .seq its.toArray nD }) := by simpa using hp
    exact ⟨gD, hD3, hD.2.1, hD.2.2.1, fun v z => by cases (show Data.seq its.toArray nD = Data.cell v from z)⟩
  have stat : ∀ {H' : Hp}, (∀ b ∈ fp, H' b = none) → ∀ b ∈ fp, FpOk X [(D, { cls := .type "list", data := .seq its.toArray nD })] H' b := fun hn b hb => by
    obtain ⟨_, f1, f2, f3, f4, f5⟩ := hf b hb
    refine ⟨hn b hb, f1, f2, f3, f4, fun p hp => ?_⟩
    rcases List.mem_append.mp hp with z | z
    · exact f5 p (List.mem_append_left _ z)
    · obtain rfl : p = (D, { cls := .type "list", data := .seq its.toArray nD }) := by simpa using z
      exact fun e => hDf (by rw [show D = b from e]; exact hb)
  rcases turn i n acc H3 w3 with ⟨stop, z⟩ | ⟨go, N, hNn, step⟩
  · refine thn (T.done X rfl rfl rfl hc i _ s3 (o3 :: cs) H3 X.xe I4 (stat fr3) st3 stop) fun r s4 ⟨hr, I5⟩ => ?_
    subst hr
    exact hR s4 H3 acc its o3 (I5.pins_of fun p hp => absurd hp (by simp)) ⟨nD, (I5.pin _ (List.mem_append_right _ (List.mem_singleton.mpr rfl))).1⟩ va hl hD3 z
  · refine thn (T.item X rfl rfl rfl hc i _ s3 (o3 :: cs) H3 X.xe I4 (stat fr3) st3 go) fun r s4 ⟨u, hr, h4⟩ => ?_
    subst hr
    have e0 : (letOwnedTupleGo (.Name x px) (.ref it) u >>= fun _ => assign (.Name x px) X.env u) = assign (.Name x px) X.env u := rfl
    show wpAny _ _ (assign (.Name x px) X.env u) _ _ s4
    rw [← e0]
    refine wpAny_bind (thn h4 fun _ s5 ⟨xv, H5, I5, r5, y5, st5, fr5⟩ => ?_)
    have I5' := I5.pinned (stat fr5) (T.obj _ _ st5)
    refine wpAny_assign_Name (store_ok (i := 0) I5' nd (by rw [hN] <;> rfl) (.inl hx) r5 (fun s6 I6 => ?_) (.inr hx))
    have I6' : Inv X ([(D, { cls := .type "list", data := .seq its.toArray nD })] ++ pinsAt fp s5.heap) (some xv :: cs) H5 s6 := I6
    -- what stays of the iterator and of the list, at any later state of the turn
    have later : ∀ {σ' : St} {H' : Hp} {s' : Shared}, Inv X ([(D, { cls := .type "list", data := .seq its.toArray nD })] ++ pinsAt fp s5.heap) σ' H' s' →
        Inv X [] σ' H' s' ∧ tn (i + 1) s'.heap ∧ (∀ b ∈ fp, H' b = none) ∧ H' D = none ∧ s'.heap.get? D = some { cls := .type "list", data := .seq its.toArray nD } := fun {σ' H' s'} J' => by
      have pD := J'.pin (D, { cls := .type "list", data := .seq its.toArray nD }) (List.mem_append_right _ (List.mem_append_left _ (List.mem_singleton.mpr rfl)))
      refine ⟨J'.pins_of fun p hp => absurd hp (by simp), T.keep _ _ _ st5 fun b hb ob e => (J'.pin (b, ob) (List.mem_append_right _ (List.mem_append_right _ (mem_pinsAt hb e)))).1, fun b hb => ?_, pD.2.1, pD.1⟩
      obtain ⟨ob, e, _⟩ := T.obj _ _ st5 b hb
      exact (J'.pin (b, ob) (List.mem_append_right _ (List.mem_append_right _ (mem_pinsAt hb e)))).2.1
    refine thn (hifs _ s6 (some xv :: cs) H5 _ I6' (step xv H5 y5)) fun b s7 ⟨H7, I7, q7⟩ => ?_
    cases b with
    | false =>
      obtain ⟨m', hm, w7⟩ : ∃ m', m' < n ∧ W (i + 1) m' acc H7 := hNn acc H7 q7
      obtain ⟨l1, l2, l3, l4, l5⟩ := later I7
      exact ⟨m', hm, i + 1, acc, its, H7, some xv, l1, l2, l3, l4, ⟨nD, l5⟩, va, hl, w7⟩
    | true =>
      have q7' : te (some xv :: cs) H7 fun v H3 => acc.length < sizeLine ∧ N (acc ++ [v]) H3 := q7
      show wpAny _ _ (eval elt X.env) _ _ s7
      refine thn (helt _ s7 (some xv :: cs) H7 _ I7 q7') fun u8 s8 ⟨v, H8, I8, r8, hlt, n8⟩ => ?_
      obtain ⟨m', hm, w8⟩ := hNn _ _ n8
      obtain ⟨l1, l2, l3, l4, l5⟩ := later I8
      have hlen := va.length
      refine wpAny_list_append_plain (hsz := by simp only [List.size_toArray]; omega) ⟨nD, l5⟩ fun h9 pl9 sb9 => ?_
      refine ⟨m', hm, i + 1, acc ++ [v], its ++ [u8], H8, some xv, l1.turned (t' := s8.toks) (fun b ob hb e => (sb9.2 b hb).trans e) l4 hD.2.1 hD.2.2.2.1 hD.2.2.2.2.1 hD.2.2.2.2.2, ?_, l3, l4, by simpa using pl9, va.append (.cons r8 .nil), ?_, w8⟩
      · exact T.keep _ _ _ l2 fun b hb ob e => (sb9.2 b (fun z => hDf (z ▸ hb))).trans e
      · rw [List.length_append, List.length_singleton]
        omega

/-! the block -/
section
variable {X : Cx} {elt iter : Expr} {x : Str} {px pos : Pos} {ifs : List Expr} {scope : Scope} {caps : List (Nat × Str)} {wi : TI} {tc : TT} {te : TE}
theorem Inv.stkNo {pins : List (Addr × Obj)} {σ : St} {H : Hp} {s : Shared} {b : Addr} (I : Inv X pins σ H s) (h1 : b ≠ X.env.locals) (h2 : b ∉ X.fs) : b ∉ frs X.stack := fun z => (List.mem_cons.mp (I.stkSub b z)).elim h1 h2
theorem comp_block {pins : List (Addr × Obj)} {σ : St} {H : Hp} {s : Shared} {E : Value → Shared → Prop} {it : Addr} {fp : List Addr} {tn : Nat → Heap → Prop} {J : It} {Z : List V → Hp → Prop} {RR : Value → Addr → Result → Shared → Prop}
    (hc : X.calm = true) (S : CompSc X.env.scope X.N scope x caps) (I : Inv X pins σ H s) (T : Turn X.prog X.w X.K (.Name x px) J fp it tn) (st : tn 0 s.heap) (hf : ∀ b ∈ fp, FpOk X pins H b)
    (hifs : ∀ C s H ex pn E, PIfs (cxComp X (x :: caps.map (·.2)) scope C s H ex pn E) ifs tc) (helt : ∀ C s H ex pn E, PE (cxComp X (x :: caps.map (·.2)) scope C s H ex pn E) elt te)
    (hW : tCompW J (capS caps σ) tc te H Z)
    (hRR : ∀ (s' : Shared) (H' : Hp) (acc : List V) (its : List Value) (D C : Addr) (m : Str → Option Value), Inv X pins σ H' s' → s'.heap.PlainList D its.toArray → Vals acc its → acc.length ≤ sizeLine → FpOk X pins H' D → FpOk X pins H' C → D ≠ C → s'.heap.Ns C m → Z acc H' → RR (.ref D) C (.ok .next) s') :
    wpAny (model X.prog X.w) X.A (newList []) (fun acc s₃ => wpAny (model X.prog X.w) X.A (newFunctionEnv scope X.env.globals (clOf X.env scope) [] X.env.qual none .none (some X.env)) (fun cenv s₄ =>
      codeAny (model X.prog X.w) X.A (.compStart (.ListComp elt [⟨.Name x px, iter, ifs, 0⟩] scope pos) 0 (.ref it) acc { cenv with scope := relabel scope X.env }) (RR acc cenv.locals) s₄) E s₃) E s := by
  refine wpAny_newObj_type (wpAny_newFunctionEnv S.ncell (by intro y hy; simp at hy) (fun h₁ hns₁ hsb₁ => ?_) S.kind)
  dsimp only at hns₁ hsb₁ ⊢
  have hI3 : Inv X pins σ H { s with heap := s.heap.push { cls := .type "list", dict := none, data := .seq ([] : List Value).toArray } } := I.kept (t' := s.toks) fun b u e => Heap.get?_push_of_some _ e
  have gD3 : (s.heap.push { cls := .type "list", dict := none, data := .seq ([] : List Value).toArray }).get? s.heap.objs.size = some { cls := .type "list", dict := none, data := .seq ([] : List Value).toArray } := Heap.get?_push_size _ rfl
  have hz3 : (s.heap.push { cls := .type "list", dict := none, data := .seq ([] : List Value).toArray }).objs.size = s.heap.objs.size + 1 := Heap.size_push _ _
  generalize hH3 : s.heap.push { cls := .type "list", dict := none, data := .seq ([] : List Value).toArray } = h3 at hns₁ hsb₁ hI3 gD3 hz3 ⊢
  have k3 : ∀ b u, s.heap.get? b = some u → h3.get? b = some u := fun b u e => hH3 ▸ Heap.get?_push_of_some _ e
  have k31 : ∀ b u, h3.get? b = some u → h₁.get? b = some u := fun b u e => (hsb₁.2 b (Nat.ne_of_lt (Heap.lt_size e))).trans (Heap.get?_push_of_some _ e)
  have k1 : ∀ b u, s.heap.get? b = some u → h₁.get? b = some u := fun b u e => k31 b u (k3 b u e)
  have hDC : s.heap.objs.size ≠ h3.objs.size := by rw [hz3]; exact Nat.ne_of_lt (Nat.lt_succ_self _)
  have fD : FpOk X pins H s.heap.objs.size := I.fpOk (Nat.le_refl _) (I.hok.fresh (Nat.le_refl _))
  have fC : FpOk X pins H h3.objs.size := I.fpOk (by rw [hz3]; exact Nat.le_succ _) (I.hok.fresh (by rw [hz3]; exact Nat.le_succ _))
  have lfp : ∀ b ∈ fp, b < s.heap.objs.size := fun b hb => let ⟨_, e, _⟩ := T.obj _ _ st b hb; Heap.lt_size e
  have hDf : s.heap.objs.size ∉ fp := fun z => Nat.lt_irrefl _ (lfp _ z)
  -- the closure's cells are cells around
  have hfree : ∀ y ∈ scope.names, y.2 = .free → ∃ c, X.env.cells.lookup y.1 = some c := fun y hy e => I.ok.has y.1 (S.free y hy e)
  obtain ⟨sub, has⟩ := clG_look scope.names [] hfree (fun y c e => by simp at e)
  have sub' : ∀ y c, (clOf X.env scope).lookup y = some c → X.env.cells.lookup y = some c := sub
  have has' : ∀ y, (y, NameKind.free) ∈ scope.names → ∃ c, (clOf X.env scope).lookup y = some c := fun y hy => Option.isSome_iff_exists.mp (has y (.inr hy))
  have inj : ∀ b ∈ s.heap.objs.size :: fp, FpOk X pins H b := fun b hb => (List.mem_cons.mp hb).elim (fun z => z ▸ fD) (hf b)
  have ltC : ∀ b ∈ s.heap.objs.size :: fp, b ≠ h3.objs.size := fun b hb => (List.mem_cons.mp hb).elim (fun z => z ▸ hDC) fun z => Nat.ne_of_lt (by rw [hz3]; exact Nat.lt_succ_of_lt (lfp b z))
  have I1 : Inv (cxComp X (x :: caps.map (·.2)) scope h3.objs.size { s with heap := h3 } H (s.heap.objs.size :: fp) (X.pn ++ pins)
      (notedBy (model X.prog X.w) X.A (compEnvC scope (clOf X.env scope) h3.objs.size X.env) fun e s' => RR (.ref s.heap.objs.size) h3.objs.size (.error e) s')) [] (none :: capS caps σ) H { s with heap := h₁, toks := s.toks + ([] : List (Str × Value)).length } := by
    refine ⟨⟨I.ok.mod, S.kind, I.ok.glob, I.ok.blt, Nat.le_refl _, fun y z c e1 e2 => I.ok.inj y z c (sub' _ _ e1) (sub' _ _ e2), fun y hy => has' y (free_of_relabel S.ncell hy), fun y c e => (nomatch e), I.ok.hd, I.ok.frames, .inl rfl, fun b hb => ⟨ltC b hb, fun y c e => (inj b hb).2.2.2.2.1 y c (sub' y c e)⟩,
        fun b ob e => ⟨k3 b ob (I.bs b ob e).1, (I.bs b ob e).2⟩, ?_, fun b ob e z => ?_, fun b hb => I.stkNo (inj b hb).2.1 (inj b hb).2.2.1, ?_, I.stkFree⟩,
      rfl, I.bare, Un.kept k31, ⟨_, hns₁, fun i y v e1 e2 e3 => ?_⟩, fun y c e => ?_, fC.1, fun y c e => I.freeC y c (sub' y c e), fun p hp => ?_, I.hok.kept k1, ?_⟩
    · exact Nat.le_trans I.ok.bsz (Nat.le_trans I.sz (by show s.heap.objs.size ≤ h3.objs.size; rw [hz3]; exact Nat.le_succ _))
    · rcases (inj b z).2.2.2.1 with w1 | w1
      · exact I.ok.noex b ob e w1
      · exact absurd (Nat.lt_of_lt_of_le (Heap.lt_size e) I.ok.bsz) (Nat.not_lt.mpr w1)
    · exact Heap.FunFrames.of_keeps (fun b ob e _ => ⟨ob, k3 b ob e, rfl⟩) I.stack
    · cases i with
      | zero => cases e2
      | succ i =>
        have e1' : (caps.map (·.2))[i]? = some y := e1
        have e2' : (capS caps σ)[i]? = some (some v) := e2
        unfold capS at e2'
        rw [List.getElem?_map] at e1' e2'
        cases ep : caps[i]? with
        | none => rw [ep] at e1'; cases e1'
        | some p =>
          rw [ep] at e1' e2'
          obtain rfl : p.2 = y := Option.some.inj e1'
          have e2'' : (σ[p.1]?).getD none = some v := Option.some.inj e2'
          have hσ : σ[p.1]? = some (some v) := by
            cases es : σ[p.1]? with
            | none => rw [es] at e2''; cases e2''
            | some w1 => rw [es] at e2''; exact congrArg some e2''
          obtain ⟨cN, cF⟩ := S.cap p (List.mem_of_getElem? ep)
          have mF : (p.2, NameKind.free) ∈ scope.names := PySem.mem_of_lookup cF
          have oF := S.free _ mF rfl
          obtain ⟨m, hn, hlook⟩ := I.loc
          obtain ⟨u, ru, lk⟩ := hlook p.1 p.2 v cN hσ (.inr oF)
          refine ⟨u, ru, .inr ⟨?_, ?_⟩⟩
          · rcases e3 with z | z
            · exact absurd z (lookup_relabel_free cF)
            · exact z
          · obtain ⟨c, ec⟩ := has' p.2 mF
            refine ⟨c, ec, ?_⟩
            rcases lk with ⟨z, _⟩ | ⟨_, c', ec', ob, ho, hd⟩
            · have z' : X.env.scope.names.lookup p.2 = some .local := z
              rw [z'] at oF
              rcases oF with q | q <;> cases q
            · have ee := (sub' _ _ ec).symm.trans ec'
              cases ee
              exact ⟨ob, k1 _ _ ho, hd⟩
    · obtain ⟨v, ob, ho, hd⟩ := I.cell y c (sub' y c e)
      exact ⟨v, ob, k1 _ _ ho, hd⟩
    · have hp' : p ∈ X.pn ++ pins := by
        rcases List.mem_append.mp hp with z | z
        · exact z
        · exact absurd z (by simp)
      obtain ⟨e, n, ne, nf, d⟩ := I.pin p hp'
      refine ⟨k1 _ _ e, n, Nat.ne_of_lt ?_, I.stkNo ne nf, d⟩
      show p.1 < h3.objs.size
      rw [hz3]
      exact Nat.lt_succ_of_lt (Heap.lt_size e)
    · show (none :: capS caps σ).length = (x :: caps.map (·.2)).length
      simp [capS]
  have hf1 : ∀ b ∈ s.heap.objs.size :: fp, FpOk (cxComp X (x :: caps.map (·.2)) scope h3.objs.size { s with heap := h3 } H (s.heap.objs.size :: fp) (X.pn ++ pins)
      (notedBy (model X.prog X.w) X.A (compEnvC scope (clOf X.env scope) h3.objs.size X.env) fun e s' => RR (.ref s.heap.objs.size) h3.objs.size (.error e) s')) [] H b := fun b hb => by
    obtain ⟨f0, f1, f2, f3, f4, f5⟩ := inj b hb
    refine ⟨f0, ltC b hb, I.stkNo f1 f2, .inl hb, fun y c e => f4 y c (sub' y c e), fun p hp => f5 p ?_⟩
    rcases List.mem_append.mp hp with z | z
    · exact z
    · exact absurd z (by simp)
  have st1 : tn 0 h₁ := T.keep _ _ _ st fun b _ ob e => k1 b ob e
  have loop : codeAny (model X.prog X.w) X.A (.compLoop (.ListComp elt [⟨.Name x px, iter, ifs, 0⟩] scope pos) 0 (.ref it) (.ref s.heap.objs.size) (compEnvC scope (clOf X.env scope) h3.objs.size X.env)) (RR (.ref s.heap.objs.size) h3.objs.size) { s with heap := h₁, toks := s.toks + ([] : List (Str × Value)).length } := by
    refine comp_loop (X := cxComp X (x :: caps.map (·.2)) scope h3.objs.size { s with heap := h3 } H (s.heap.objs.size :: fp) (X.pn ++ pins) (notedBy (model X.prog X.w) X.A (compEnvC scope (clOf X.env scope) h3.objs.size X.env) fun e s' => RR (.ref s.heap.objs.size) h3.objs.size (.error e) s'))
      hc rfl S.nd (lookup_relabel_local S.hx) I1 T st1 (fun b hb => hf1 b (List.mem_cons_of_mem _ hb)) (hf1 _ List.mem_cons_self) hDf ⟨0, k31 _ _ gD3⟩ (hifs _ _ _ _ _ _) (helt _ _ _ _ _ _) hW rfl ?_
    intro s' H' acc its o' J1 plD va hlen nD z
    have u1 : Un (frs X.stack) (s.heap.objs.size :: fp) H H' h3 s'.heap := J1.base
    have J2 : Inv X pins σ H' s' := Inv.call' (s := { s with heap := h3 }) hI3 J1.os u1 J1.hok J1.bare fun b hb => by
      obtain ⟨_, f1, _, f3, f4, f5⟩ := inj b hb
      exact ⟨f3, f1, f4, f5⟩
    obtain ⟨m, hn, _⟩ := J1.loc
    exact hRR s' H' acc its _ _ m J2 plD va hlen ⟨nD, fD.2⟩ ⟨J1.free, fC.2⟩ hDC hn z
  exact codeAny_compStart_list loop (T.self _ 0 _ _ _ st1 loop)

theorem pe_comp (hc : X.calm = true) (S : CompSc X.env.scope X.N scope x caps) (hi : PI X (.Name x px) iter wi)
    (hifs : ∀ C s H ex pn E, PIfs (cxComp X (x :: caps.map (·.2)) scope C s H ex pn E) ifs tc) (helt : ∀ C s H ex pn E, PE (cxComp X (x :: caps.map (·.2)) scope C s H ex pn E) elt te)
    (hs : ∀ x, foldedSetIterable iter X.env x = pure x := by intro _; rfl) : PE X (.ListComp elt [⟨.Name x px, iter, ifs, 0⟩] scope pos) (tComp wi caps tc te) := by
  intro pins s σ H Q I h
  have hfree : ∀ y ∈ scope.names, y.2 = .free → ∃ c, X.env.cells.lookup y.1 = some c := fun y hy e => I.ok.has y.1 (S.free y hy e)
  rw [eval_ListComp]
  refine wpAny_comprehension_free (use := none) rfl hs (closure_eq hfree) S.kind S.nloc (thn (hi pins s σ H _ I h) fun v s1 h1 => thn h1 fun itv s2 h2 => ?_)
  obtain ⟨it, fp, tn, J, H2, e, I2, T, st2, f2, hW⟩ := h2
  subst e
  refine comp_block (RR := fun acc C => compPost (model X.prog X.w) X.A X.xe none (EP X pins σ Q) acc C) hc S I2 T st2 f2 hifs helt hW ?_
  intro s' H' acc its D C m J2 plD va hlen fD fC hDC hn z
  obtain ⟨nD, gD⟩ := plD
  refine ⟨m, hn, fun h'' sb => ?_⟩
  have J3 : Inv X pins σ H' { s' with heap := h'' } := J2.turned (t' := s'.toks) (fun b ob hb e => (sb.2 b hb).trans e) fC.1 fC.2.1 fC.2.2.2.1 fC.2.2.2.2.1 fC.2.2.2.2.2
  exact ⟨.ref D, upd H' D (.lst acc), J3.adopt fD ⟨hlen, its, nD, va, (sb.2 D hDC).trans gD⟩, rfl, z D fD.1⟩
/-- name = [..] where the store is the comprehension's own last step -/
theorem ps_setC {i : Nat} {y : Str} {py spos : Pos} (hc : X.calm = true) (hN : X.N.Nodup) (hi' : X.N[i]? = some y) (hy : Loc X.env.scope y) (S : CompSc X.env.scope X.N scope x caps) (hi : PI X (.Name x px) iter wi)
    (hifs : ∀ C s H ex pn E, PIfs (cxComp X (x :: caps.map (·.2)) scope C s H ex pn E) ifs tc) (helt : ∀ C s H ex pn E, PE (cxComp X (x :: caps.map (·.2)) scope C s H ex pn E) elt te)
    (hsw : swapsWith (.ListComp elt [⟨.Name x px, iter, ifs, 0⟩] scope pos) (some (.Name y py)) spos.line X.env = pure true := by rfl) (hs : ∀ x, foldedSetIterable iter X.env x = pure x := by intro _; rfl)
    (hfn : X.fn y = true ∨ X.env.scope.names.lookup y = some .local := by first | exact .inl rfl | exact .inr rfl | assumption) : PS X (.Assign [.Name y py] (.ListComp elt [⟨.Name x px, iter, ifs, 0⟩] scope pos) spos) (tAsg (tComp wi caps tc te) (gName i)) := by
  intro pins s σ H D0 I h
  have hfree : ∀ y ∈ scope.names, y.2 = .free → ∃ c, X.env.cells.lookup y.1 = some c := fun y hy e => I.ok.has y.1 (S.free y hy e)
  rw [exec_Assign_Name_used _ _ _ _ hsw]
  refine wpAny_bind (wpAny_standAt (wpAny_bind ?_))
  show wpAny _ _ (do let _ ← comprehension (.ListComp elt [⟨.Name x px, iter, ifs, 0⟩] scope pos) scope X.env _ (newList []) false (eval iter X.env) (some (assign (.Name y py) X.env))) _ _ s
  refine wpAny_bind (wpAny_mono (wpAny_comprehension_free (use := some (assign (.Name y py) X.env)) (Q := fun _ s' => SP X pins D0 .next s') rfl hs (closure_eq hfree) S.kind S.nloc
    (thn (hi pins s σ H _ I h) fun v s1 h1 => thn h1 fun itv s2 h2 => ?_)) (fun _ s' hq => wpAny_pure (wpAny_pure hq)) fun _ _ e => e)
  obtain ⟨it, fp, tn, J, H2, e, I2, T, st2, f2, hW⟩ := h2
  subst e
  refine comp_block (RR := fun acc C => compPost (model X.prog X.w) X.A X.xe (some (assign (.Name y py) X.env)) (fun _ s' => SP X pins D0 .next s') acc C) hc S I2 T st2 f2 hifs helt hW ?_
  intro s' H' acc its D C m J2 plD va hlen fD fC hDC hn z
  obtain ⟨nD, gD⟩ := plD
  have J3 : Inv X pins σ (upd H' D (.lst acc)) s' := J2.adopt fD ⟨hlen, its, nD, va, gD⟩
  show wpAny _ _ (assign (.Name y py) X.env (.ref D)) _ _ s'
  refine wpAny_assign_Name (store_ok2 J3 hN hi' hy (show RelV (.ref D) (.ref D) from rfl) (fun s4 J4 ⟨a, sa, ha⟩ => ?_) hfn)
  have hCa : C ≠ a := by
    rcases ha with q | q
    · rw [q]; exact fC.2.1
    · exact (fC.2.2.2.2.1 y a q).symm
  refine ⟨m, hn.sameBut sa hCa, fun h'' sb => ?_⟩
  exact ⟨_, _, J4.turned (t' := s4.toks) (fun b ob hb e => (sb.2 b hb).trans e) (by rw [upd_ne (Ne.symm hDC)]; exact fC.1) fC.2.1 fC.2.2.2.1 fC.2.2.2.2.1 fC.2.2.2.2.2, z D fD.1⟩
end
end L2

namespace L2
open PySem PySem.Spec PyProof.Rows

/-! ### the forms of a comprehension one uses -/
theorem comp_of {J : It} {cs : St} {tc : TT} {te : TE} {H1 : Hp} {Z : List V → Hp → Prop} (n : Nat) (Pv : Nat → List V → Hp → Prop) (h0 : Pv 0 [] H1) (hd : ∀ acc H, Pv n acc H → J.stop n H ∧ Z acc H)
    (hs : ∀ i acc H, i < n → Pv i acc H → J.go i H ∧ ∀ x H', J.yld i H x H' → tc (some x :: cs) H' fun b H2 => if b = true then te (some x :: cs) H2 fun v H3 => acc.length < sizeLine ∧ Pv (i + 1) (acc ++ [v]) H3 else Pv (i + 1) acc H2) :
    tCompW J cs tc te H1 Z := by
  refine ⟨fun i m acc H => m = n - i ∧ i ≤ n ∧ Pv i acc H, ⟨n, by simp, Nat.zero_le _, h0⟩, ?_⟩
  rintro i m acc H ⟨rfl, hi, p⟩
  by_cases hlt : i < n
  · obtain ⟨g, y⟩ := hs i acc H hlt p
    exact .inr ⟨g, Pv (i + 1), fun a H' q => ⟨n - (i + 1), by omega, rfl, hlt, q⟩, y⟩
  · have e : i = n := by omega
    subst e
    exact .inl (hd acc H p)
theorem comp_range {lo : Int} {n : Nat} {cs : St} {tc : TT} {te : TE} {H1 : Hp} {Z : List V → Hp → Prop} (Pv : Nat → List V → Hp → Prop) (h0 : Pv 0 [] H1)
    (hs : ∀ i acc H, i < n → Pv i acc H → tc (some (.int (lo + i)) :: cs) H fun b H2 => if b = true then te (some (.int (lo + i)) :: cs) H2 fun v H3 => acc.length < sizeLine ∧ Pv (i + 1) (acc ++ [v]) H3 else Pv (i + 1) acc H2)
    (hd : ∀ acc H, Pv n acc H → Z acc H) : tCompW (Itr lo n) cs tc te H1 Z :=
  comp_of n Pv h0 (fun acc H p => ⟨Nat.le_refl _, hd acc H p⟩) fun i acc H hi p => ⟨hi, fun x H' y => by
    obtain ⟨e, y⟩ := y
    subst e y
    exact hs i acc _ hi p⟩
theorem comp_list {K : PySem.W.Frag} {a : Addr} {xs : List V} {cs : St} {tc : TT} {te : TE} {H1 : Hp} {Z : List V → Hp → Prop} (Pv : Nat → List V → Hp → Prop) (h0 : Pv 0 [] H1) (hl : ∀ i acc H, Pv i acc H → SqL K H a xs)
    (hs : ∀ i x acc H, xs[i]? = some x → Pv i acc H → tc (some x :: cs) H fun b H2 => if b = true then te (some x :: cs) H2 fun v H3 => acc.length < sizeLine ∧ Pv (i + 1) (acc ++ [v]) H3 else Pv (i + 1) acc H2)
    (hd : ∀ acc H, Pv xs.length acc H → Z acc H) : tCompW (Itl K a) cs tc te H1 Z :=
  comp_of xs.length Pv h0 (fun acc H p => ⟨⟨xs, hl _ _ _ p, Nat.le_refl _⟩, hd acc H p⟩) fun i acc H hi p => ⟨⟨xs, xs[i], hl _ _ _ p, by simp [hi]⟩, fun x H' y => by
    obtain ⟨e, y⟩ := y
    subst e
    exact hs i x acc _ (y xs (hl _ _ _ p)) p⟩
theorem comp_tup {K : PySem.W.Frag} {a : Addr} {xs : List V} {cs : St} {tc : TT} {te : TE} {H1 : Hp} {Z : List V → Hp → Prop} (Pv : Nat → List V → Hp → Prop) (h0 : Pv 0 [] H1) (hl : ∀ i acc H, Pv i acc H → SqT K H a xs)
    (hs : ∀ i x acc H, xs[i]? = some x → Pv i acc H → tc (some x :: cs) H fun b H2 => if b = true then te (some x :: cs) H2 fun v H3 => acc.length < sizeLine ∧ Pv (i + 1) (acc ++ [v]) H3 else Pv (i + 1) acc H2)
    (hd : ∀ acc H, Pv xs.length acc H → Z acc H) : tCompW (Itt K a) cs tc te H1 Z :=
  comp_of xs.length Pv h0 (fun acc H p => ⟨⟨xs, hl _ _ _ p, Nat.le_refl _⟩, hd acc H p⟩) fun i acc H hi p => ⟨⟨xs, xs[i], hl _ _ _ p, by simp [hi]⟩, fun x H' y => by
    obtain ⟨e, y⟩ := y
    subst e
    exact hs i x acc _ (y xs (hl _ _ _ p)) p⟩

/-! ### a text walked sign by sign -/
def Its (z : Str) : It := ⟨fun i _ => i < z.cps.size, fun i H x H' => H' = H ∧ ∃ c, z.cps[i]? = some c ∧ x = .str ⟨#[c]⟩, fun i _ => z.cps.size ≤ i⟩
theorem turn_ascii {P : Program} {w : World} {K : PySem.W.Frag} {tg : Expr} (it : Addr) (z : Str) (t : Tok) : Turn P w K tg (Its z) [it] it (fun i h => h.IsStrIter it "str_ascii_iterator" z t i) where
  mem := by simp
  obj := fun i h st b hb => by
    have e : b = it := by simpa using hb
    subst e
    obtain ⟨o, e, c, d⟩ := st
    exact ⟨o, e, fun v z => by rw [d] at z; cases z⟩
  keep := fun i h h' st k => by
    obtain ⟨o, e, r⟩ := st
    exact ⟨o, k it (by simp) o e, r⟩
  item := by
    intro X hP hw hK hc i pins s σ H E I hf st hg
    subst hP hw hK
    obtain ⟨f0, f1, f2, f3, f4, f5⟩ := hf it (by simp)
    have hlt : i < z.cps.size := hg
    refine wpAny_pyNext_ascii_item st (c := z.cps[i]) (by simp [hlt]) fun h' st' sb => ?_
    have I1 : Inv X pins σ H { s with heap := h', toks := s.toks + 1 } := I.turned (fun b o hb e => (sb.2 b hb).trans e) f0 f1 f3 f4 f5
    obtain ⟨o, e, c, d⟩ := id st'
    exact ⟨_, rfl, go_of (s := { s with heap := h', toks := s.toks + 1 }) e c d (by decide) ⟨.str ⟨#[z.cps[i]]⟩, H, I1, ⟨_, rfl⟩, ⟨rfl, _, by simp [hlt], rfl⟩, st', fun b hb => (hf b hb).1⟩⟩
  done := by
    intro X hP hw hK hc i pins s σ H E I hf st hg
    subst hP hw hK
    obtain ⟨f0, f1, f2, f3, f4, f5⟩ := hf it (by simp)
    have hge : z.cps.size ≤ i := hg
    exact wpAny_pyNext_ascii_end (I.ok.hd hc) st (by simp [hge]) fun h' eb => ⟨rfl, I.turned (t' := s.toks) (fun b o hb e => eb b o hb e) f0 f1 f3 f4 f5⟩
  self := fun _ _ _ _ _ st h => wpAny_pyIter_striter_ascii st h
theorem turn_wide {P : Program} {w : World} {K : PySem.W.Frag} {tg : Expr} (it : Addr) (z : Str) (t : Tok) : Turn P w K tg (Its z) [it] it (fun i h => h.IsStrIter it "str_iterator" z t i) where
  mem := by simp
  obj := fun i h st b hb => by
    have e : b = it := by simpa using hb
    subst e
    obtain ⟨o, e, c, d⟩ := st
    exact ⟨o, e, fun v z => by rw [d] at z; cases z⟩
  keep := fun i h h' st k => by
    obtain ⟨o, e, r⟩ := st
    exact ⟨o, k it (by simp) o e, r⟩
  item := by
    intro X hP hw hK hc i pins s σ H E I hf st hg
    subst hP hw hK
    obtain ⟨f0, f1, f2, f3, f4, f5⟩ := hf it (by simp)
    have hlt : i < z.cps.size := hg
    refine wpAny_pyNext_wide_item st (c := z.cps[i]) (by simp [hlt]) fun h' st' sb => ?_
    have I1 : Inv X pins σ H { s with heap := h', toks := s.toks + 1 } := I.turned (fun b o hb e => (sb.2 b hb).trans e) f0 f1 f3 f4 f5
    obtain ⟨o, e, c, d⟩ := id st'
    exact ⟨_, rfl, go_of (s := { s with heap := h', toks := s.toks + 1 }) e c d (by decide) ⟨.str ⟨#[z.cps[i]]⟩, H, I1, ⟨_, rfl⟩, ⟨rfl, _, by simp [hlt], rfl⟩, st', fun b hb => (hf b hb).1⟩⟩
  done := by
    intro X hP hw hK hc i pins s σ H E I hf st hg
    subst hP hw hK
    obtain ⟨f0, f1, f2, f3, f4, f5⟩ := hf it (by simp)
    have hge : z.cps.size ≤ i := hg
    exact wpAny_pyNext_wide_end (I.ok.hd hc) st (by simp [hge]) fun h' eb => ⟨rfl, I.turned (t' := s.toks) (fun b o hb e => eb b o hb e) f0 f1 f3 f4 f5⟩
  self := fun _ _ _ _ _ st h => wpAny_pyIter_striter_wide st h
section
variable {X : Cx} {tg : Expr}
def iStr (tl : TE) : TI := fun σ H R => tl σ H fun x H1 => ∃ z, x = .str z ∧ R (Its z) H1
theorem pi_str {l : Expr} {tl : TE} (hl : PE X l tl) : PI X tg l (iStr tl) := by
  intro pins s σ H R I h
  refine thn (hl pins s σ H _ I h) fun v s1 ⟨x, H1, I1, r1, q1⟩ => ?_
  obtain ⟨z, e, q⟩ := q1
  subst e
  obtain ⟨t, rfl⟩ := r1
  have fp : ∀ b ∈ [s1.heap.objs.size], FpOk X pins H1 b := fun b hb => by
    have e : b = s1.heap.objs.size := by simpa using hb
    subst e
    exact I1.fpOk (Nat.le_refl _) (I1.hok.fresh (Nat.le_refl _))
  cases ha : z.cps.all (· < 128)
  · refine wpAny_pyIter_wide ha ?_
    exact ⟨s1.heap.objs.size, [s1.heap.objs.size], _, _, H1, rfl, I1.kept (t' := s1.toks) fun b o e => Heap.get?_push_of_some _ e, turn_wide _ z t, ⟨_, Heap.get?_push_size _ rfl, rfl, rfl⟩, fp, q⟩
  · refine wpAny_pyIter_ascii ha ?_
    exact ⟨s1.heap.objs.size, [s1.heap.objs.size], _, _, H1, rfl, I1.kept (t' := s1.toks) fun b o e => Heap.get?_push_of_some _ e, turn_ascii _ z t, ⟨_, Heap.get?_push_size _ rfl, rfl, rfl⟩, fp, q⟩
end
theorem for_str {z : Str} {g : TG} {tb : TS} {D : Ends} {σ : St} {H : Hp} (Pv : Nat → St → Hp → Prop) (h0 : Pv 0 σ H)
    (hs : ∀ i c σ H, z.cps[i]? = some c → Pv i σ H → g (.str ⟨#[c]⟩) σ H fun σ2 H2 => tb { D with nx := Pv (i + 1), ct := Pv (i + 1), bk := D.nx } σ2 H2) (hd : ∀ σ H, Pv z.cps.size σ H → D.nx σ H) :
    ∃ W : Nat → Nat → St → Hp → Prop, (∃ m, W 0 m σ H) ∧ ∀ i m σ H, W i m σ H →
      ((Its z).stop i H ∧ D.nx σ H) ∨ ((Its z).go i H ∧ ∃ N : St → Hp → Prop, (∀ σ' H', N σ' H' → ∃ m', m' < m ∧ W (i + 1) m' σ' H') ∧ ∀ x H', (Its z).yld i H x H' → g x σ H' fun σ2 H2 => tb { D with nx := N, ct := N, bk := D.nx } σ2 H2) := by
  refine ⟨fun i m σ H => m = z.cps.size - i ∧ i ≤ z.cps.size ∧ Pv i σ H, ⟨z.cps.size, by simp, Nat.zero_le _, h0⟩, ?_⟩
  rintro i m σ H ⟨rfl, hi, p⟩
  by_cases hlt : i < z.cps.size
  · refine .inr ⟨hlt, Pv (i + 1), fun σ' H' p' => ⟨z.cps.size - (i + 1), by omega, rfl, hlt, p'⟩, fun x H' y => ?_⟩
    obtain ⟨e, c, ec, ex⟩ := y
    subst e ex
    exact hs i c σ _ ec p
  · have e : i = z.cps.size := by omega
    subst e
    exact .inl ⟨Nat.le_refl _, hd σ H p⟩
theorem comp_str {z : Str} {cs : St} {tc : TT} {te : TE} {H1 : Hp} {Z : List V → Hp → Prop} (Pv : Nat → List V → Hp → Prop) (h0 : Pv 0 [] H1)
    (hs : ∀ i c acc H, z.cps[i]? = some c → Pv i acc H → tc (some (.str ⟨#[c]⟩) :: cs) H fun b H2 => if b = true then te (some (.str ⟨#[c]⟩) :: cs) H2 fun v H3 => acc.length < sizeLine ∧ Pv (i + 1) (acc ++ [v]) H3 else Pv (i + 1) acc H2)
    (hd : ∀ acc H, Pv z.cps.size acc H → Z acc H) : tCompW (Its z) cs tc te H1 Z :=
  comp_of z.cps.size Pv h0 (fun acc H p => ⟨Nat.le_refl _, hd acc H p⟩) fun i acc H hi p => ⟨hi, fun x H' y => by
    obtain ⟨e, c, ec, ex⟩ := y
    subst e ex
    exact hs i c acc _ ec p⟩

/-! ### texts: find, join, slices; truths: is, all -/
section
variable {X : Cx}
theorem mt_find : MtR X "str.find" (fun x xs H Q => ∃ a b, x = .str a ∧ xs = [.str b] ∧ Q (.int (Txt.find a b)) H) := by
  intro pins s σ H x xs v us Q I rx rs h
  obtain ⟨a, b, rfl, rfl, q⟩ := h
  obtain ⟨t, rfl⟩ := rx
  obtain ⟨u, rfl, t', rfl⟩ := vals1 rs
  exact SC.find ⟨.int _, H, I.tok _, ⟨_, rfl⟩, q⟩
theorem strsAre_of {ys : List Str} : ∀ {us : List Value}, Vals (ys.map V.str) us → StrsAre us ys := by
  induction ys with
  | nil => intro us r; rw [List.map_nil] at r; cases r; exact .nil
  | cons n ns ih =>
    intro us r
    rw [List.map_cons] at r
    cases r with
    | cons r1 r2 =>
      obtain ⟨t, e⟩ := r1
      subst e
      exact .cons n t (ih r2)
theorem mt_join : MtR X "str.join" (fun x xs H Q => ∃ (a : Str) (p : Addr) (ys : List Str), x = .str a ∧ xs = [.ref p] ∧ SqL X.K H p (ys.map V.str) ∧ (ys.map (·.length)).sum + ys.length * a.length ≤ 16777216 ∧ Q (.str (Txt.join a ys)) H) := by
  intro pins s σ H x xs v us Q I rx rs h
  obtain ⟨a, p, ys, rfl, rfl, hq, hz, q⟩ := h
  obtain ⟨t, rfl⟩ := rx
  obtain ⟨u, rfl, r2⟩ := vals1 rs
  cases r2
  obtain ⟨its, r', pl, _⟩ := I.list hq
  exact join_list pl.isList (by simpa using strsAre_of r') hz fun t' k => ⟨.str _, H, I.tok _, ⟨_, rfl⟩, q⟩
theorem sl_str : SlR X (fun x lo hi H Q => ∃ z, x = .str z ∧ z.length ≤ sizeLine ∧ Q (.str (Txt.slice z lo hi)) H) := by
  intro pins s σ H x v vl vu lo hi sl Q I rx hs pl pu h
  obtain ⟨z, rfl, hz, q⟩ := h
  obtain ⟨t, rfl⟩ := rx
  have fin : ∀ (l u : Option (Int × Tok)), s.heap.IsSlice sl l u none → l.map (·.1) = lo → u.map (·.1) = hi → wpAny (model X.prog X.w) X.A (getItem (.str z t) (.ref sl)) (EP X pins σ Q) X.xe s := fun l u h1 h2 h3 => by
    subst h2 h3
    exact wpAny_getItem_str_slice (l := l) (u := u) (st := none) h1 rfl (post_val_or_str ⟨Nat.le_trans (Txt.slice_le z _ _) hz, fun t' k => ⟨.str _, H, I.tok _, ⟨_, rfl⟩, q⟩⟩)
  refine ⟨"str", _, F.slot_str_getitem.lookup, typeIs_str _ _ _, ?_⟩
  cases pl with
  | none =>
    cases pu with
    | none => exact fin none none hs rfl rfl
    | int j uj => exact fin none (some (j, uj)) hs rfl rfl
  | int i ui =>
    cases pu with
    | none => exact fin (some (i, ui)) none hs rfl rfl
    | int j uj => exact fin (some (i, ui)) (some (j, uj)) hs rfl rfl
theorem op_isB : OpR X (compareOp .Is) (fun x y H Q => ∃ c d, x = .bl c ∧ y = .bl d ∧ Q (.bl (c == d)) H) := by
  intro pins s σ H x y v u Q I rx ry h
  obtain ⟨c, d, rfl, rfl, q⟩ := h
  cases rx
  cases ry
  exact is_bool ⟨.bl _, H, I, rfl, q⟩
theorem op_isnotB : OpR X (compareOp .IsNot) (fun x y H Q => ∃ c d, x = .bl c ∧ y = .bl d ∧ Q (.bl (c != d)) H) := by
  intro pins s σ H x y v u Q I rx ry h
  obtain ⟨c, d, rfl, rfl, q⟩ := h
  cases rx
  cases ry
  exact isnot_bool ⟨.bl _, H, I, rfl, q⟩
theorem range_all : ∀ (n : Nat) (f : Nat → Bool) (bs : List Bool), bs.length = n → (∀ i b, bs[i]? = some b → f i = b) → (List.range n).all f = bs.all id := by
  intro n f bs hl hf
  rw [Bool.eq_iff_iff, List.all_eq_true, List.all_eq_true]
  constructor
  · intro h b hb
    obtain ⟨i, e⟩ := List.mem_iff_getElem?.mp hb
    have hi : i < n := by
      have := (List.getElem?_eq_some_iff.mp e).1
      omega
    have := h i (List.mem_range.mpr hi)
    rw [hf i b e] at this
    exact this
  · intro h i hi
    have hi' : i < bs.length := by rw [hl]; exact List.mem_range.mp hi
    have e : bs[i]? = some bs[i] := List.getElem?_eq_getElem hi'
    rw [hf i _ e]
    exact h _ (List.getElem_mem hi')
/-- all(bs), bs a list of truths -/
theorem call_allB (hc : X.calm = true) : CallR X (.builtin "all") (fun xs H Q => ∃ (p : Addr) (bs : List Bool), xs = [.ref p] ∧ SqL X.K H p (bs.map V.bl) ∧ Q (.bl (bs.all id)) H) := by
  intro pins s σ H xs us Q I r h
  obtain ⟨p, bs, rfl, hq, q⟩ := h
  obtain ⟨u, rfl, rx⟩ := vals1 r
  cases rx
  obtain ⟨its, rv, pl, hz⟩ := I.list hq
  have hlen := rv.length
  rw [List.length_map] at hlen
  have hlt : p < s.heap.objs.size := by
    obtain ⟨o, ho, _⟩ := pl.isList
    exact Heap.lt_size ho
  refine call_all_walk (wpAny_pyIter_list pl.isList ?_)
  refine ⟨s.heap.objs.size, [s.heap.objs.size, p], [s.heap.objs.size], its.toArray.size, fun i v => its.toArray[i]? = some v, fun i h => h.IsListIter s.heap.objs.size p i ∧ h.IsList p its.toArray, fun i => (bs[i]?).getD true, rfl,
    Walks.list (A := X.A.in1) (I.ok.hd hc) _ _ (Nat.ne_of_lt hlt) _, ⟨⟨_, Heap.get?_push_size _ rfl, rfl, rfl⟩, pl.isList.at fun o e => Heap.get?_push_of_some _ e⟩, ?_, ?_⟩
  · intro i v s' Q' E' hv hQ'
    have hi : i < bs.length := by
      have := (Array.getElem?_eq_some_iff.mp hv).1
      simp only [List.size_toArray] at this
      omega
    have e : bs[i]? = some bs[i] := List.getElem?_eq_getElem hi
    obtain ⟨u, hu, ru⟩ := rv.get (i := i) (x := V.bl bs[i]) (by rw [List.getElem?_map, e]; rfl)
    have hv' : its[i]? = some v := by simpa using hv
    rw [hu] at hv'
    cases hv'
    cases ru
    have hQ2 : Q' ((bs[i]?).getD true) s' := hQ'
    rw [e] at hQ2
    exact wpAny_truthy_bool hQ2
  · intro h' tk k
    refine ⟨.bl (bs.all id), H, I.kept (t' := tk) (h' := h') fun b u e => k b u (fun z => ?_) (Heap.get?_push_of_some _ e), ?_, q⟩
    · have z' : b = s.heap.objs.size := by simpa using z
      exact absurd (Heap.lt_size e) (by rw [z']; exact Nat.lt_irrefl _)
    · show Value.bool _ = Value.bool _
      rw [range_all its.toArray.size _ bs (by simp only [List.size_toArray]; exact hlen) fun i b e => by rw [e]; rfl]
end
end L2
namespace L2
open PySem PySem.Spec PyProof.Rows
section
variable {X : Cx} {a b c : Expr} {ta tb : TE} {pos : Pos}
/-- a op1 b op2 k of ints, k a constant: one truth -/
def tChI (p p' : Int → Int → Bool) (k : Int) (ta tb : TE) : TE := fun σ H Q => ta σ H fun x H1 => tb σ H1 fun y H2 => ∃ i j, x = .int i ∧ y = .int j ∧ Q (.bl (p i j && p' j k)) H2
theorem pe_chainI {op op' : CmpOp} {p p' : Int → Int → Bool} {k : Int} (ho : OpR X (compareOp op) (rI0 fun i j => .bl (p i j))) (ho' : OpR X (compareOp op') (rI0 fun i j => .bl (p' i j))) (ha : PE X a ta) (hb : PE X b tb) (hc : PE X c (tC (.int k)))
    (hm : lastMarks [op, op'] [b, c] = false := by with_unfolding_all rfl) : PE X (.Compare a [op, op'] [b, c] pos) (tChI p p' k ta tb) := by
  intro pins s σ H Q I h
  refine Compare_chain (thn (ha pins s σ H _ I h) fun v s1 ⟨x, H1, I1, r1, q1⟩ => chain_link (thn (hb pins s1 σ H1 _ I1 q1) fun u s2 ⟨y, H2, I2, r2, q2⟩ => ?_)) hm
  obtain ⟨i, j, rfl, rfl, q⟩ := q2
  refine thn (ho pins s2 σ H2 _ _ v u (fun z H3 => z = .bl (p i j) ∧ H3 = H2) I2 r1 r2 ⟨i, j, rfl, rfl, rfl, rfl⟩) fun d s3 ⟨z, H3, I3, r3, e1, e2⟩ => ?_
  subst e1 e2
  cases r3
  refine wpAny_truthy_bool ?_
  cases e : p i j with
  | false =>
    rw [e, Bool.false_and] at q
    exact ite_ff ⟨.bl false, _, I3, rfl, q⟩
  | true =>
    rw [e, Bool.true_and] at q
    exact ite_tt (chain_last (thn (hc pins s3 σ _ (fun z H4 => z = .int k ∧ H4 = H3) I3 ⟨rfl, rfl⟩) fun w' s4 ⟨z', H4, I4, r4, e3, e4⟩ => by
      subst e3 e4
      exact ho' pins s4 σ _ _ _ u w' Q I4 r2 r4 ⟨j, k, rfl, rfl, q⟩))
end
theorem atI_some {α : Type} {xs : List α} {i : Int} (h0 : 0 ≤ i) (h1 : i < (xs.length : Int)) : ∃ v ∈ xs, atI xs i = some v := by
  have hk : i.toNat < xs.length := by omega
  have e : xs[i.toNat]? = some xs[i.toNat] := List.getElem?_eq_getElem hk
  refine ⟨xs[i.toNat], List.getElem_mem hk, ?_⟩
  have q := atI_nat e
  rw [Int.toNat_of_nonneg h0] at q
  exact q
theorem atI_int {ns : List Int} {i : Int} (h0 : 0 ≤ i) (h1 : i < (ns.length : Int)) : ∃ v : Int, atI (ns.map V.int) i = some (.int v) := by
  obtain ⟨v, hv, e⟩ := atI_some (xs := ns.map V.int) h0 (by rw [List.length_map]; exact h1)
  obtain ⟨n, _, rfl⟩ := List.mem_map.mp hv
  exact ⟨n, e⟩
theorem small_le {n : Nat} (h : n ≤ 1000) : n ≤ sizeLine := Nat.le_of_lt (small1000 h)
theorem mask31 (x : Int) : Builtin.bitAnd x 2147483647 = x % 2147483648 := PySem.W.kbt_mask x 31
theorem maskB (x : Int) : 0 ≤ Builtin.bitAnd x 2147483647 ∧ Builtin.bitAnd x 2147483647 < 2147483648 := by
  rw [mask31]
  omega
end L2
namespace L2
open PySem PySem.Spec PyProof.Rows
section
variable {X : Cx} {st : Stmt} {rest : List Stmt} {t u : TS}
/-- a word M between a statement and what follows: both ways through the statement meet there -/
def tCut (t u : TS) : TS := fun D σ H => ∃ M : St → Hp → Prop, t { D with nx := M } σ H ∧ ∀ σ' H', M σ' H' → u D σ' H'
theorem pss_cut (h1 : PS X st t) (h2 : PSs X rest u) : PSs X (st :: rest) (tCut t u) := by
  intro pins s σ H D I h
  obtain ⟨M, h, hM⟩ := h
  refine wpAny_execs_cons (thn (h1 pins s σ H { D with nx := M } I h) fun f s1 q => ?_)
  cases f with
  | next =>
    obtain ⟨σ', H', I', q⟩ := q
    exact h2 pins s1 σ' H' D I' (hM σ' H' q)
  | ret v => exact q
  | brk => exact q
  | cont => exact q
end
theorem same_new {H : Hp} {p : Addr} (h : H p = none) (o : HO) : Same H (upd H p o) := fun b u q => by rw [upd_ne (ne_of_none q h)]; exact q
end L2
namespace L2
open PySem PySem.Spec PyProof.Rows
/-- a word M behind an expression (a test): its ways meet there -/
def tCutE (t : TE) : TE := fun σ H Q => ∃ M : VK, t σ H M ∧ ∀ v H', M v H' → Q v H'
theorem pe_cut {X : Cx} {e : Expr} {t : TE} (h : PE X e t) : PE X e (tCutE t) := by
  intro pins s σ H Q I ⟨M, hM, hQ⟩
  exact thn (h pins s σ H M I hM) fun u s' ⟨v, H', I', r, m⟩ => ⟨v, H', I', r, hQ v H' m⟩
def tCutT (t : TT) : TT := fun σ H Q => ∃ M : Bool → Hp → Prop, t σ H M ∧ ∀ b H', M b H' → Q b H'
theorem pt_cut {X : Cx} {e : Expr} {t : TT} (h : PT X e t) : PT X e (tCutT t) := by
  intro pins s σ H Q I ⟨M, hM, hQ⟩
  exact thn (h pins s σ H M I hM) fun b s' ⟨H', I', m⟩ => ⟨H', I', hQ b H' m⟩
end L2

namespace L2
open PySem PySem.Spec PyProof.Rows
/-! isinstance with a type of Python's own -/
section
variable {X : Cx}
theorem call_isinst : CallR X (.builtin "isinstance") (fun xs H Q => ∃ (x : V) (T : String) (t : Value) (b : Bool), xs = [x, .ty T] ∧ TyOf X.K H x t ∧ PySem.W.kitOne X.K t (.type T) = some b ∧ Q (.bl b) H) := by
  intro pins s σ H xs us Q I r h
  obtain ⟨x, T, t, b, rfl, ty, e, q⟩ := h
  obtain ⟨u, w', rfl, r1, r2⟩ := vals2 r
  cases (show w' = Value.type T from r2)
  exact isinst_ok I r1 ty e fun tk => ⟨.bl b, H, I.tok tk, rfl, q⟩
theorem kit_ii (K : PySem.W.Frag) : PySem.W.kitOne K (.type "int") (.type "int") = some true := by rfl
theorem kit_ib (K : PySem.W.Frag) : PySem.W.kitOne K (.type "int") (.type "bool") = some false := by rfl
end
end L2

namespace L2
open PySem
theorem ifT {c : Bool} {A B : Prop} (h : c = true) (a : A) : if c = true then A else B := by rw [if_pos h]; exact a
theorem ifF {c : Bool} {A B : Prop} (h : c = false) (b : B) : if c = true then A else B := by rw [if_neg (by rw [h]; decide)]; exact b
end L2

namespace Gds
open PySem L2
/-! guards as a datum of our own, and how the heap bears them -/
inductive Gd where
  | yes
  | is (b n : Int)
  | under (b n : Int)
  | inn (r : Int)
  | neg (g : Gd)
  | both (g h : Gd)
  | either (g h : Gd)
def Gd.ht : Gd → Nat
  | .yes => 1
  | .is _ _ => 1
  | .under _ _ => 1
  | .inn _ => 1
  | .neg g => g.ht + 1
  | .both g h => 1 + max g.ht h.ht
  | .either g h => 1 + max g.ht h.ht
theorem Gd.ht_pos : ∀ g : Gd, 1 ≤ g.ht
  | .yes => Nat.le_refl _
  | .is _ _ => Nat.le_refl _
  | .under _ _ => Nat.le_refl _
  | .inn _ => Nat.le_refl _
  | .neg _ => Nat.succ_le_succ (Nat.zero_le _)
  | .both _ _ => Nat.le_add_right _ _
  | .either _ _ => Nat.le_add_right _ _
def at0 (bx : List Int) (b : Int) : Int := bx.getD b.toNat 0
def Gd.holds (op bx : List Int) : Gd → Bool
  | .yes => true
  | .is b n => decide (V.int (at0 bx b) = V.int n)
  | .under b n => decide (at0 bx b < n)
  | .inn r => inV (.int r) (op.map V.int)
  | .neg g => !(g.holds op bx)
  | .both g h => g.holds op bx && h.holds op bx
  | .either g h => g.holds op bx || h.holds op bx
def Gd.ok (nb : Nat) : Gd → Prop
  | .yes => True
  | .is b _ => 0 ≤ b ∧ b < (nb : Int)
  | .under b _ => 0 ≤ b ∧ b < (nb : Int)
  | .inn _ => True
  | .neg g => g.ok nb
  | .both g h => g.ok nb ∧ h.ok nb
  | .either g h => g.ok nb ∧ h.ok nb
/-- tuples stay -/
def KeepT (H H' : Hp) : Prop := ∀ b xs, H b = some (.tup xs) → H' b = some (.tup xs)
theorem KeepT.refl (H : Hp) : KeepT H H := fun _ _ h => h
theorem KeepT.trans {H H1 H2 : Hp} (a : KeepT H H1) (b : KeepT H1 H2) : KeepT H H2 := fun c xs h => b c xs (a c xs h)
theorem KeepT.of {H H' : Hp} (s : Same H H') : KeepT H H' := fun b xs h => s b _ h
theorem KeepT.lst {H : Hp} {p : Addr} {xs : List V} (h : H p = some (.lst xs)) (o : HO) : KeepT H (upd H p o) := fun b ys e => by
  rw [upd_ne (ne_of e h (by intro z; cases z))]
  exact e
theorem KeepT.new {H : Hp} {p : Addr} (h : H p = none) (o : HO) : KeepT H (upd H p o) := .of (same_new h o)
theorem same_upd {H H' : Hp} {p : Addr} (hp : H p = none) (s : Same H H') (o : HO) : Same H (upd H' p o) := fun b u e => by
  rw [upd_ne (ne_of_none e hp)]
  exact s b u e
inductive GdIn (H : Hp) : V → Gd → Prop where
  | yes {a : Addr} : H a = some (.tup [.str "yes"]) → GdIn H (.ref a) .yes
  | is {a : Addr} {b n : Int} : H a = some (.tup [.str "is", .int b, .int n]) → GdIn H (.ref a) (.is b n)
  | under {a : Addr} {b n : Int} : H a = some (.tup [.str "under", .int b, .int n]) → GdIn H (.ref a) (.under b n)
  | inn {a : Addr} {r : Int} : H a = some (.tup [.str "in", .int r]) → GdIn H (.ref a) (.inn r)
  | neg {a : Addr} {v : V} {g : Gd} : H a = some (.tup [.str "not", v]) → GdIn H v g → GdIn H (.ref a) (.neg g)
  | both {a : Addr} {v u : V} {g h : Gd} : H a = some (.tup [.str "both", v, u]) → GdIn H v g → GdIn H u h → GdIn H (.ref a) (.both g h)
  | either {a : Addr} {v u : V} {g h : Gd} : H a = some (.tup [.str "either", v, u]) → GdIn H v g → GdIn H u h → GdIn H (.ref a) (.either g h)
theorem GdIn.mono {H H' : Hp} {v : V} {g : Gd} (x : GdIn H v g) (k : KeepT H H') : GdIn H' v g := by
  induction x with
  | yes e => exact .yes (k _ _ e)
  | is e => exact .is (k _ _ e)
  | under e => exact .under (k _ _ e)
  | inn e => exact .inn (k _ _ e)
  | neg e _ i => exact .neg (k _ _ e) i
  | both e _ _ i j => exact .both (k _ _ e) i j
  | either e _ _ i j => exact .either (k _ _ e) i j
theorem strNe {x y : Str} {A B : Prop} (h : ¬ x = y) (b : B) : if decide (V.str x = V.str y) = true then A else B := by
  rw [if_neg]
  · exact b
  · intro z
    have z' := of_decide_eq_true z
    injection z' with z''
    exact h z''
theorem strEq {x : Str} {A B : Prop} (a : A) : if decide (V.str x = V.str x) = true then A else B := by
  rw [if_pos (decide_eq_true rfl)]
  exact a
theorem at0_at {bx : List Int} {b : Int} (h0 : 0 ≤ b) (h1 : b < (bx.length : Int)) : atI (bx.map V.int) b = some (.int (at0 bx b)) := by
  have hk : b.toNat < bx.length := by omega
  have e : (bx.map V.int)[b.toNat]? = some (.int (at0 bx b)) := by
    rw [List.getElem?_map, List.getElem?_eq_getElem hk]
    unfold at0
    rw [List.getD_eq_getElem?_getD, List.getElem?_eq_getElem hk]
    rfl
  have q := atI_nat e
  rw [Int.toNat_of_nonneg h0] at q
  exact q
theorem atI_last2 {α : Type} (xs : List α) (u v : α) : atI (xs ++ [u, v]) (-2) = some u := by
  unfold atI ixN
  have hl : (xs ++ [u, v]).length = xs.length + 2 := by simp
  rw [hl, if_neg (by decide), if_pos (by omega)]
  show (xs ++ [u, v])[((-2 : Int) + ((xs.length + 2 : Nat) : Int)).toNat]? = some u
  have e : ((-2 : Int) + ((xs.length + 2 : Nat) : Int)).toNat = xs.length := by omega
  rw [e, List.getElem?_append_right (Nat.le_refl _)]
  simp
theorem ints_flat (op : List Int) : (op.map V.int).all flatV = true := by
  rw [List.all_eq_true]
  intro x hx
  obtain ⟨n, _, rfl⟩ := List.mem_map.mp hx
  rfl
theorem inV_take (op : List Int) (r : Int) : inV (.int r) (op.map V.int) = op.any fun y => decide (V.int y = V.int r) := by
  unfold inV
  rw [List.any_map]
  congr 1
  funext y
  show (y == r) = _
  exact dec_int.symm
theorem snoc_of {α : Type} {xs : List α} (h : xs ≠ []) : ∃ init last, xs = init ++ [last] := ⟨xs.dropLast, xs.getLast h, (List.dropLast_concat_getLast h).symm⟩
theorem snoc2_of {α : Type} {xs : List α} (h : 1 < xs.length) : ∃ init u v, xs = init ++ [u, v] := by
  obtain ⟨i1, v, rfl⟩ := snoc_of (xs := xs) (by intro z; rw [z] at h; simp at h)
  rw [List.length_append, List.length_singleton] at h
  obtain ⟨i2, u, rfl⟩ := snoc_of (xs := i1) (by intro z; rw [z] at h; simp at h)
  exact ⟨i2, u, v, by simp⟩
end Gds

namespace L2
open PySem PySem.Spec PyProof.Rows

/-! ### lists of pairs as tables -/
section
variable {κ : Type} [DecidableEq κ]
def valV (kvs : List (κ × V)) (k : κ) : Option V := (kvs.find? fun kv => decide (kv.1 = k)).map (·.2)
/-- in its place, or at the end -/
def putK (kvs : List (κ × V)) (k : κ) (v : V) : List (κ × V) :=
  if (kvs.any fun kv => decide (kv.1 = k)) = true then kvs.map (fun kv => if kv.1 = k then (kv.1, v) else kv) else kvs ++ [(k, v)]
def dropK (kvs : List (κ × V)) (k : κ) : List (κ × V) := kvs.filter fun kv => decide (kv.1 ≠ k)

theorem valV_nil {k : κ} : valV ([] : List (κ × V)) k = none := rfl
theorem valV_pos {p : κ × V} {r : List (κ × V)} {k : κ} (e : p.1 = k) : valV (p :: r) k = some p.2 := by simp [valV, List.find?_cons, e]
theorem valV_neg {p : κ × V} {r : List (κ × V)} {k : κ} (e : ¬ p.1 = k) : valV (p :: r) k = valV r k := by simp [valV, List.find?_cons, e]
theorem valV_any (k : κ) : ∀ kvs : List (κ × V), (kvs.any fun kv => decide (kv.1 = k)) = (valV kvs k).isSome
  | [] => rfl
  | p :: r => by
    rw [List.any_cons]
    by_cases e : p.1 = k
    · simp only [valV_pos e, decide_eq_true e, Bool.true_or, Option.isSome_some]
    · rw [valV_neg e, decide_eq_false e, Bool.false_or]; exact valV_any k r
theorem valV_map (k j : κ) (y : V) : ∀ kvs : List (κ × V), valV (kvs.map fun kv => if kv.1 = k then (kv.1, y) else kv) j = (valV kvs j).map fun x => if j = k then y else x
  | [] => rfl
  | p :: r => by
    have ih := valV_map k j y r
    rw [List.map_cons]
    by_cases h : p.1 = k
    · rw [if_pos h]
      by_cases e : p.1 = j
      · rw [valV_pos (p := (p.1, y)) e, valV_pos e, Option.map_some, if_pos (e.symm.trans h)]
      · rw [valV_neg (p := (p.1, y)) e, valV_neg e, ih]
    · rw [if_neg h]
      by_cases e : p.1 = j
      · rw [valV_pos (p := p) e, valV_pos e, Option.map_some, if_neg (fun z => h (e.trans z))]
      · rw [valV_neg (p := p) e, valV_neg e, ih]
theorem valV_snoc (k j : κ) (y : V) : ∀ kvs : List (κ × V), valV kvs k = none → valV (kvs ++ [(k, y)]) j = if j = k then some y else valV kvs j
  | [], _ => by
    by_cases e : k = j
    · rw [if_pos e.symm]; exact valV_pos (p := (k, y)) e
    · rw [if_neg (fun z => e z.symm)]; exact valV_neg (p := (k, y)) e
  | p :: r, hn => by
    rw [List.cons_append]
    have hk : ¬ p.1 = k := fun z => by rw [valV_pos z] at hn; cases hn
    rw [valV_neg hk] at hn
    have ih := valV_snoc k j y r hn
    by_cases e : p.1 = j
    · rw [valV_pos e, valV_pos e, if_neg (fun z => hk (e.trans z))]
    · rw [valV_neg e, valV_neg e, ih]
theorem valV_put (kvs : List (κ × V)) (k j : κ) (y : V) : valV (putK kvs k y) j = if j = k then some y else valV kvs j := by
  unfold putK
  by_cases a : (kvs.any fun kv => decide (kv.1 = k)) = true
  · rw [if_pos a, valV_map]
    rw [valV_any] at a
    by_cases e : j = k
    · obtain ⟨x, hx⟩ := Option.isSome_iff_exists.mp a
      rw [if_pos e, e, hx, Option.map_some, if_pos rfl]
    · rw [if_neg e]
      cases valV kvs j with
      | none => rfl
      | some x => rw [Option.map_some, if_neg e]
  · rw [if_neg a]
    refine valV_snoc k j y kvs ?_
    rw [valV_any] at a
    cases q : valV kvs k with
    | none => rfl
    | some x => rw [q] at a; exact (a rfl).elim
theorem length_putK (kvs : List (κ × V)) (k : κ) (v : V) : (putK kvs k v).length ≤ kvs.length + 1 := by
  unfold putK
  split
  · rw [List.length_map]; omega
  · rw [List.length_append, List.length_cons, List.length_nil]; omega
theorem putK_new {kvs : List (κ × V)} {k : κ} (v : V) (h : valV kvs k = none) : putK kvs k v = kvs ++ [(k, v)] := by
  unfold putK
  rw [valV_any, h]
  exact if_neg (by decide)

theorem RelO.isSome_eq {o : Option V} {u : Option Value} (r : RelO o u) : o.isSome = u.isSome := by
  cases o with
  | none => cases u with
    | none => rfl
    | some _ => exact (show False from r).elim
  | some _ => cases u with
    | none => exact (show False from r).elim
    | some _ => rfl
theorem RelO.getD {o : Option V} {u : Option Value} {d : V} {d' : Value} (r : RelO o u) (rd : RelV d d') : RelV (o.getD d) (u.getD d') := by
  cases o with
  | none => cases u with
    | none => exact rd
    | some _ => exact (show False from r).elim
  | some _ => cases u with
    | none => exact (show False from r).elim
    | some _ => exact r

/-- raw tables of the same keys -/
theorem KV.val {kvs : List (κ × V)} {vs : List (κ × Value)} (r : KV kvs vs) (k : κ) : RelO (valV kvs k) (valueAt vs k) := by
  unfold KV at r
  induction r with
  | nil => exact True.intro
  | @cons p q ps qs h t ih =>
    obtain ⟨h1, h2⟩ := h
    by_cases e : p.1 = k
    · have e' : q.1 = k := h1.symm.trans e
      have b : valueAt (q :: qs) k = some q.2 := by simp [valueAt, List.find?_cons, e']
      rw [valV_pos e, b]; exact h2
    · have e' : ¬ q.1 = k := fun z => e (h1.trans z)
      have b : valueAt (q :: qs) k = valueAt qs k := by simp [valueAt, List.find?_cons, e']
      rw [valV_neg e, b]; exact ih
theorem KV.any {kvs : List (κ × V)} {vs : List (κ × Value)} (r : KV kvs vs) (k : κ) : (kvs.any fun kv => decide (kv.1 = k)) = vs.any fun kv => decide (kv.1 = k) := by
  unfold KV at r
  induction r with
  | nil => rfl
  | cons h t ih => rw [List.any_cons, List.any_cons, ih, h.1]
theorem KV.repl {kvs : List (κ × V)} {vs : List (κ × Value)} (r : KV kvs vs) (k : κ) {y : V} {u : Value} (ry : RelV y u) :
    KV (kvs.map fun kv => if kv.1 = k then (kv.1, y) else kv) (vs.map fun kv => if kv.1 = k then (kv.1, u) else kv) := by
  unfold KV at r ⊢
  induction r with
  | nil => exact .nil
  | @cons p q ps qs h t ih =>
    rw [List.map_cons, List.map_cons]
    refine .cons ?_ ih
    obtain ⟨h1, h2⟩ := h
    by_cases e : p.1 = k
    · rw [if_pos e, if_pos (h1.symm.trans e)]; exact ⟨h1, ry⟩
    · rw [if_neg e, if_neg (fun z => e (h1.trans z))]; exact ⟨h1, h2⟩
theorem KV.put {kvs : List (κ × V)} {vs : List (κ × Value)} (r : KV kvs vs) (k : κ) {y : V} {u : Value} (ry : RelV y u) : KV (putK kvs k y) (stored vs k u) := by
  unfold putK stored
  rw [r.any k]
  by_cases e : (vs.any fun kv => decide (kv.1 = k)) = true
  · rw [if_pos e, if_pos e]; exact r.repl k ry
  · rw [if_neg e, if_neg e]; exact Paired.snoc r ⟨rfl, ry⟩
theorem KV.drop {kvs : List (κ × V)} {vs : List (κ × Value)} (r : KV kvs vs) (k : κ) : KV (dropK kvs k) (without vs k) := by
  unfold KV at r ⊢
  unfold dropK without
  induction r with
  | nil => exact .nil
  | @cons p q ps qs h t ih =>
    obtain ⟨h1, h2⟩ := h
    rw [List.filter_cons, List.filter_cons]
    by_cases e : p.1 = k
    · have a : ¬ decide (p.1 ≠ k) = true := by simp [e]
      have b : ¬ decide (q.1 ≠ k) = true := by simp [h1.symm.trans e]
      rw [if_neg a, if_neg b]; exact ih
    · have e' : ¬ q.1 = k := fun z => e (h1.trans z)
      have a : decide (p.1 ≠ k) = true := by simp [e]
      have b : decide (q.1 ≠ k) = true := by simp [e']
      rw [if_pos a, if_pos b]; exact .cons ⟨h1, h2⟩ ih
theorem KV.keys {kvs : List (κ × V)} {vs : List (κ × Value)} (r : KV kvs vs) : kvs.map (·.1) = vs.map (·.1) := by
  unfold KV at r
  induction r with
  | nil => rfl
  | cons h t ih => rw [List.map_cons, List.map_cons, ih, h.1]
theorem KV.length {kvs : List (κ × V)} {vs : List (κ × Value)} (r : KV kvs vs) : kvs.length = vs.length := Paired.length r
theorem dropK_le (kvs : List (κ × V)) (k : κ) : (dropK kvs k).length ≤ kvs.length := List.length_filter_le _ _
end


/-! ### a tracked dict, its keys ints and texts or tuples of these -/
theorem kV_is {P : Program} {w : World} {k : Key} {u : Value} (r : RelV (kV k) u) : (mixKind P w).is k u = true := by
  cases k with
  | inl i => obtain ⟨t, e⟩ := (show ∃ t, u = Value.int i t from r); subst e; exact mixKind_int P w i t
  | inr x => obtain ⟨t, e⟩ := (show ∃ t, u = Value.str x t from r); subst e; exact mixKind_str P w x t
theorem kV_inj {a b : Key} (e : kV a = kV b) : a = b := by
  cases a with
  | inl i => cases b with
    | inl j => have e' : V.int i = V.int j := e; injection e' with e'; rw [e']
    | inr y => exact nomatch (show V.int i = V.str y from e)
  | inr x => cases b with
    | inl j => exact nomatch (show V.str x = V.int j from e)
    | inr y => have e' : V.str x = V.str y := e; injection e' with e'; rw [e']
theorem kVs_inj : ∀ {a b : List Key}, a.map kV = b.map kV → a = b
  | [], [], _ => rfl
  | [], _ :: _, e => by simp at e
  | _ :: _, [], e => by simp at e
  | x :: xs, y :: ys, e => by
    rw [List.map_cons, List.map_cons] at e
    injection e with e1 e2
    rw [kV_inj e1, kVs_inj e2]
theorem items_are {P : Program} {w : World} : ∀ {ks : List Key} {us : List Value}, Vals (ks.map kV) us → ItemsAre (mixKind P w) ks us
  | [], _, r => by rw [List.map_nil] at r; cases r; exact .nil
  | k :: ks, _, r => by
    rw [List.map_cons] at r
    cases r with
    | cons h t => exact .cons (kV_is h) (items_are t)

/-- raw entries of a dict with tuple keys -/
abbrev KT (H : Hp) : List (List Key × V) → List (List Key × Addr × Value) → Prop := Paired fun p q => p.1 = q.1 ∧ H q.2.1 = some (.tup (p.1.map kV)) ∧ RelV p.2 q.2.2
theorem KT.val {H : Hp} {kvs : List (List Key × V)} {xs : List (List Key × Addr × Value)} (r : KT H kvs xs) (k : List Key) : RelO (valV kvs k) ((atKey xs k).map (·.2)) := by
  induction r with
  | nil => exact True.intro
  | @cons p q ps qs h t ih =>
    obtain ⟨h1, _, h2⟩ := h
    by_cases e : p.1 = k
    · have e' : q.1 = k := h1.symm.trans e
      have b : atKey (q :: qs) k = some q.2 := by simp [atKey, List.find?_cons, e']
      rw [valV_pos e, b]; exact h2
    · have e' : ¬ q.1 = k := fun z => e (h1.trans z)
      have b : atKey (q :: qs) k = atKey qs k := by simp [atKey, List.find?_cons, e']
      rw [valV_neg e, b]; exact ih
theorem KT.repl {H : Hp} {kvs : List (List Key × V)} {xs : List (List Key × Addr × Value)} (r : KT H kvs xs) (k : List Key) {y : V} {u : Value} (ry : RelV y u) :
    KT H (kvs.map fun kv => if kv.1 = k then (kv.1, y) else kv) (xs.map (putAt k u)) := by
  induction r with
  | nil => exact .nil
  | @cons p q ps qs h t ih =>
    rw [List.map_cons, List.map_cons]
    refine .cons ?_ ih
    obtain ⟨h1, h2, h3⟩ := h
    unfold putAt
    by_cases e : p.1 = k
    · rw [if_pos e, if_pos (h1.symm.trans e)]; exact ⟨h1, h2, ry⟩
    · rw [if_neg e, if_neg (fun z => e (h1.trans z))]; exact ⟨h1, h2, h3⟩
theorem KT.put {H : Hp} {kvs : List (List Key × V)} {xs : List (List Key × Addr × Value)} (r : KT H kvs xs) (k : List Key) {b : Addr} {y : V} {u : Value} (hb : H b = some (.tup (k.map kV))) (ry : RelV y u) :
    KT H (putK kvs k y) (storedH xs k b u) := by
  have e : (kvs.any fun kv => decide (kv.1 = k)) = (atKey xs k).isSome := by
    rw [valV_any, (r.val k).isSome_eq, Option.isSome_map]
  unfold putK storedH
  rw [e]
  by_cases q : (atKey xs k).isSome = true
  · rw [if_pos q, if_pos q]; exact r.repl k ry
  · rw [if_neg q, if_neg q]; exact Paired.snoc r ⟨rfl, hb, ry⟩
theorem KT.keeps {H H' : Hp} {kvs : List (List Key × V)} {xs : List (List Key × Addr × Value)} (r : KT H kvs xs) (ht : ∀ b ys, H b = some (.tup ys) → H' b = some (.tup ys)) : KT H' kvs xs :=
  Paired.mapP r fun _ _ z => ⟨z.1, ht _ _ z.2.1, z.2.2⟩

section
variable {P : Program} {w : World} {H : Hp} {h : Heap} {a : Addr}
theorem rd_of {u : HO} (ok : HOk P w H h) (e : Rd H a u) : ObjOk P w H h a u := e.ok ok
theorem dk_rd {kvs : List (Key × V)} (ok : HOk P w H h) (e : Rd H a (.dK kvs)) : kvs.length ≤ sizeLine ∧ (a == sysModules) = false ∧ ∃ vs, KV kvs vs ∧ h.DictOf (mixKind P w) a vs :=
  show ObjOk P w H h a (.dK kvs) from rd_of ok e
theorem dk_of {kvs : List (Key × V)} (ok : HOk P w H h) (e : H a = some (.dK kvs)) : kvs.length ≤ sizeLine ∧ (a == sysModules) = false ∧ ∃ vs, KV kvs vs ∧ h.DictOf (mixKind P w) a vs := dk_rd ok (.inl e)
/-- a tracked tuple of ints and texts is a key -/
theorem key_of {ks : List Key} (ok : HOk P w H h) (e : H a = some (.tup (ks.map kV))) : (tupleKind (mixKind P w)).is h ks a := by
  obtain ⟨_, its, r, o, h1, h2, n, h3⟩ := (show ObjOk P w H h a (.tup (ks.map kV)) from ok a _ e)
  exact ⟨o, its.toArray, n, h1, h2, h3, by simpa using items_are r⟩
theorem dt_rd {kvs : List (List Key × V)} (ok : HOk P w H h) (e : Rd H a (.dT kvs)) : kvs.length ≤ sizeLine ∧ (a == sysModules) = false ∧
    ∃ xs, KT H kvs xs ∧ h.DictOfH (tupleKind (mixKind P w)) a xs := by
  obtain ⟨z, y, xs, r, o, es, ep, h1, h2, h3, h4, h5⟩ := (show ObjOk P w H h a (.dT kvs) from rd_of ok e)
  refine ⟨z, y, xs, r, o, es, ep, h1, h2, h3, h4, fun x hx => ?_, h5⟩
  have all : ∀ {l : List (List Key × V)} {m : List (List Key × Addr × Value)}, KT H l m → ∀ x ∈ m, (tupleKind (mixKind P w)).is h x.1 x.2.1 := by
    intro l m q
    induction q with
    | nil => intro x hx; exact nomatch hx
    | @cons p q ps qs hq t ih =>
      intro x hx
      rcases List.mem_cons.mp hx with e | hx
      · subst e
        exact key_of ok (by rw [← hq.1]; exact hq.2.1)
      · exact ih x hx
  exact all r x hx
theorem dt_of {kvs : List (List Key × V)} (ok : HOk P w H h) (e : H a = some (.dT kvs)) : kvs.length ≤ sizeLine ∧ (a == sysModules) = false ∧
    ∃ xs, KT H kvs xs ∧ h.DictOfH (tupleKind (mixKind P w)) a xs := dt_rd ok (.inl e)
end

/-- what the dict at a holds at the key y -/
def DGet (H : Hp) (a : Addr) (y : V) (r : Option V) : Prop :=
  (∃ kvs k, Rd H a (.dK kvs) ∧ y = kV k ∧ r = valV kvs k) ∨ ∃ kvs k b, Rd H a (.dT kvs) ∧ y = .ref b ∧ H b = some (.tup (k.map kV)) ∧ r = valV kvs k
/-- the heap behind a[y] = v -/
def DPut (H : Hp) (a : Addr) (y v : V) (H' : Hp) : Prop :=
  (∃ kvs k, H a = some (.dK kvs) ∧ y = kV k ∧ kvs.length < sizeLine ∧ H' = upd H a (.dK (putK kvs k v))) ∨
  ∃ kvs k b, H a = some (.dT kvs) ∧ y = .ref b ∧ H b = some (.tup (k.map kV)) ∧ kvs.length < sizeLine ∧ H' = upd H a (.dT (putK kvs k v))
theorem DGet.k {H : Hp} {a : Addr} {kvs : List (Key × V)} {k : Key} (e : H a = some (.dK kvs)) : DGet H a (kV k) (valV kvs k) := .inl ⟨kvs, k, .inl e, rfl, rfl⟩
theorem DGet.t {H : Hp} {a b : Addr} {kvs : List (List Key × V)} {k : List Key} (e : H a = some (.dT kvs)) (eb : H b = some (.tup (k.map kV))) : DGet H a (.ref b) (valV kvs k) := .inr ⟨kvs, k, b, .inl e, rfl, eb, rfl⟩
theorem DPut.k {H : Hp} {a : Addr} {kvs : List (Key × V)} {k : Key} {v : V} (e : H a = some (.dK kvs)) (hl : kvs.length < sizeLine) : DPut H a (kV k) v (upd H a (.dK (putK kvs k v))) := .inl ⟨kvs, k, e, rfl, hl, rfl⟩
theorem DPut.t {H : Hp} {a b : Addr} {kvs : List (List Key × V)} {k : List Key} {v : V} (e : H a = some (.dT kvs)) (eb : H b = some (.tup (k.map kV))) (hl : kvs.length < sizeLine) :
    DPut H a (.ref b) v (upd H a (.dT (putK kvs k v))) := .inr ⟨kvs, k, b, e, rfl, eb, hl, rfl⟩


section
variable {X : Cx} {pins : List (Addr × Obj)} {σ : St} {H : Hp} {s : Shared} {a : Addr} {y v : V} {u r : Value} {o : Option V} {A : Around} {E : Value → Shared → Prop}

theorem Inv.big (I : Inv X pins σ H s) : sysModules < s.heap.objs.size := by
  have h : mainGlobals < s.heap.objs.size := (I.mod.glob.keeps I.bk).lt
  exact Nat.lt_trans (by decide) h

/-- d[y], there -/
theorem d_getItem {Q : Value → Shared → Prop} (hu : A.units + 1 < cLine) (I : Inv X pins σ H s) (g : DGet H a y (some v)) (ry : RelV y u) (h : ∀ w' s', Inv X pins σ H s' → RelV v w' → Q w' s') :
    wpAny (model X.prog X.w) A (getItem (.ref a) u) Q E s := by
  rcases g with ⟨kvs, k, e, ey, l⟩ | ⟨kvs, k, b, e, ey, eb, l⟩
  · subst ey
    obtain ⟨z, hd, vs, rel, dd⟩ := dk_rd I.hok e
    obtain ⟨w', hw, rw'⟩ := RelO.some_of (v := v) (o := valueAt vs k) (by rw [l]; exact rel.val k)
    exact wpAny_getItem_of (kV_is ry) dd.mapOf hw (h w' _ (I.tok _) rw')
  · subst ey
    cases (show u = Value.ref b from ry)
    obtain ⟨z, hd, xs, rel, dd⟩ := dt_rd I.hok e
    obtain ⟨w', hw, rw'⟩ := RelO.some_of (v := v) (o := (atKey xs k).map (·.2)) (by rw [l]; exact rel.val k)
    obtain ⟨p, hp, hp2⟩ := Option.map_eq_some_iff.mp hw
    refine wpAny_getItem_heap (tupleKind_room_in1 hu) (key_of I.hok eb) dd hp ?_
    rw [hp2]
    exact h w' _ (I.tok _) rw'
/-- y in d -/
theorem d_in {Q : Value → Shared → Prop} (hu : A.units + 1 < cLine) (I : Inv X pins σ H s) (g : DGet H a y o) (ry : RelV y u) (h : ∀ s', Inv X pins σ H s' → Q (.bool o.isSome) s') :
    wpAny (model X.prog X.w) A (compareOp .In u (.ref a)) Q E s := by
  rcases g with ⟨kvs, k, e, ey, l⟩ | ⟨kvs, k, b, e, ey, eb, l⟩
  · subst ey
    obtain ⟨z, hd, vs, rel, dd⟩ := dk_rd I.hok e
    refine wpAny_in_of (kV_is ry) hd dd.mapOf ?_
    rw [← (rel.val k).isSome_eq, ← l]
    exact h _ (I.tok _)
  · subst ey
    cases (show u = Value.ref b from ry)
    obtain ⟨z, hd, xs, rel, dd⟩ := dt_rd I.hok e
    refine wpAny_in_heap (tupleKind_room_in1 hu) (key_of I.hok eb) hd dd ?_
    have q := (rel.val k).isSome_eq
    rw [Option.isSome_map] at q
    rw [← q, ← l]
    exact h _ (I.tok _)
theorem d_notIn {Q : Value → Shared → Prop} (hu : A.units + 1 < cLine) (I : Inv X pins σ H s) (g : DGet H a y o) (ry : RelV y u) (h : ∀ s', Inv X pins σ H s' → Q (.bool (!o.isSome)) s') :
    wpAny (model X.prog X.w) A (compareOp .NotIn u (.ref a)) Q E s := by
  rcases g with ⟨kvs, k, e, ey, l⟩ | ⟨kvs, k, b, e, ey, eb, l⟩
  · subst ey
    obtain ⟨z, hd, vs, rel, dd⟩ := dk_rd I.hok e
    refine wpAny_notIn_of (kV_is ry) hd dd.mapOf ?_
    rw [← (rel.val k).isSome_eq, ← l]
    exact h _ (I.tok _)
  · subst ey
    cases (show u = Value.ref b from ry)
    obtain ⟨z, hd, xs, rel, dd⟩ := dt_rd I.hok e
    refine wpAny_notIn_heap (tupleKind_room_in1 hu) (key_of I.hok eb) hd dd ?_
    have q := (rel.val k).isSome_eq
    rw [Option.isSome_map] at q
    rw [← q, ← l]
    exact h _ (I.tok _)
/-- a dict's object is replaced -/
theorem d_write {h' : Heap} {t' : Nat} {ob : HO} (I : Inv X pins σ H s) (mu : Mut (H a)) (hs : Heap.SameBut a s.heap h') (he : ∃ q, h'.get? a = some q) (new : ObjOk X.prog X.w (upd H a ob) h' a ob) :
    Inv X pins σ (upd H a ob) { s with heap := h', toks := t' } :=
  I.write (x := a) (e := a) mu (.inl rfl) (fun b q hb z => (hs.2 b hb).trans z) he new
theorem dk_new {P : Program} {w : World} {H' : Hp} {h' : Heap} {kvs : List (Key × V)} {vs : List (Key × Value)} (z : kvs.length ≤ sizeLine) (hd : (a == sysModules) = false) (rel : KV kvs vs) (dd : h'.DictOf (mixKind P w) a vs) :
    ObjOk P w H' h' a (.dK kvs) := ⟨z, hd, vs, rel, dd⟩
/-- d[y] = v -/
theorem d_setItem {H' : Hp} {Q : Unit → Shared → Prop} (hu : A.units + 1 < cLine) (I : Inv X pins σ H s) (g : DPut H a y v H') (ry : RelV y u) (rv : RelV v r) (h : ∀ s', Inv X pins σ H' s' → Q () s') :
    wpAny (model X.prog X.w) A (setItem (.ref a) u r) Q E s := by
  rcases g with ⟨kvs, k, e, ey, l, eH⟩ | ⟨kvs, k, b, e, ey, eb, l, eH⟩
  · subst ey eH
    obtain ⟨z, hd, vs, rel, dd⟩ := dk_of I.hok e
    have hz : vs.length ≤ sizeLine := by rw [← rel.length]; exact z
    have hl : (putK kvs k v).length ≤ sizeLine := by have := length_putK kvs k v; omega
    refine wpAny_setItem_pairs (hsz := hz) (kV_is ry) dd fun h' dd' hs => h _ ?_
    have he : ∃ q, h'.get? a = some q := let ⟨q, _, _, hq, _⟩ := dd'; ⟨q, hq⟩
    exact d_write I (by rw [e]; exact True.intro) hs he (dk_new hl hd (rel.put k rv) dd')
  · subst ey eH
    cases (show u = Value.ref b from ry)
    obtain ⟨z, hd, xs, rel, dd⟩ := dt_of I.hok e
    have hz : xs.length ≤ sizeLine := by rw [← Paired.length rel]; exact z
    have hl : (putK kvs k v).length ≤ sizeLine := by have := length_putK kvs k v; omega
    refine wpAny_setItem_heap (hsz := hz) (tupleKind_room_in1 hu) (key_of I.hok eb) dd fun h' dd' hs => h _ ?_
    obtain ⟨q, es, ep, hq, h2, h3, h4, _, h5⟩ := dd'
    refine d_write I (by rw [e]; exact True.intro) hs ⟨q, hq⟩ ⟨hl, hd, _, (rel.put k eb rv).keeps fun c ys ec => ?_, q, es, ep, hq, h2, h3, h4, h5⟩
    rw [upd_ne (ne_of ec e (fun z => nomatch z))]
    exact ec
end

section
variable {X : Cx} {pins : List (Addr × Obj)} {σ : St} {H : Hp} {s : Shared} {a : Addr} {kvs : List (Key × V)} {k : Key} {u : Value} {A : Around} {E : Value → Shared → Prop}
/-- del d[k] -/
theorem d_delItem {Q : Unit → Shared → Prop} (I : Inv X pins σ H s) (e : H a = some (.dK kvs)) (ry : RelV (kV k) u) (l : (valV kvs k).isSome = true) (h : ∀ s', Inv X pins σ (upd H a (.dK (dropK kvs k))) s' → Q () s') :
    wpAny (model X.prog X.w) A (delItem (.ref a) u) Q E s := by
  obtain ⟨z, hd, vs, rel, dd⟩ := dk_of I.hok e
  refine wpAny_delItem_slot dd.typeIs (by decide) PySem.F.slot_dict_delitem
    (call_meetsIn PySem.F.slot_dict_delitem dd.typeIs PySem.F.entry_dict_delitem (PySem.F.args_dict_delitem_2 _ _) (meets_dict_delitem_pairs (mixKind X.prog X.w) a (kV_is ry)) ⟨vs, dd, by rw [← rel.length]; exact z, by rw [← (rel.val k).isSome_eq]; exact l, fun h' dd' hs => h _ ?_⟩)
  have he : ∃ q, h'.get? a = some q := let ⟨q, _, _, hq, _⟩ := dd'; ⟨q, hq⟩
  exact d_write I (by rw [e]; exact True.intro) hs he (dk_new (Nat.le_trans (dropK_le kvs k) z) hd (rel.drop k) dd')
/-- d.pop(k[, x]), there -/
theorem d_pop {v : V} {more : List Value} {Q : Value → Shared → Prop} (I : Inv X pins σ H s) (e : H a = some (.dK kvs)) (ry : RelV (kV k) u) (l : valV kvs k = some v) (hm : more = [] ∨ ∃ x, more = [x])
    (h : ∀ w' s', Inv X pins σ (upd H a (.dK (dropK kvs k))) s' → RelV v w' → Q w' s') : wpAny (model X.prog X.w) A (call (.builtin "dict.pop") (.ref a :: u :: more)) Q E s := by
  obtain ⟨z, hd, vs, rel, dd⟩ := dk_of I.hok e
  obtain ⟨w', hw, rw'⟩ := RelO.some_of (v := v) (o := valueAt vs k) (by rw [← l]; exact rel.val k)
  have hp : (keyPart u).isSome = true := by
    cases k with
    | inl i => obtain ⟨t, q⟩ := (show ∃ t, u = Value.int i t from ry); subst q; rfl
    | inr x => obtain ⟨t, q⟩ := (show ∃ t, u = Value.str x t from ry); subst q; rfl
  have ha : argsOk "dict.pop" ⟨.ref a :: u :: more, []⟩ := by
    rcases hm with q | ⟨x, q⟩
    · subst q; exact PySem.F.args_dict_pop_2 _ _
    · subst q; exact PySem.F.args_dict_pop_3 _ _ _
  refine call_meetsIn PySem.F.slot_dict_pop dd.typeIs PySem.F.entry_dict_pop ha (meets_dict_pop_there (mixKind X.prog X.w) a (kV_is ry) more hm hp)
    ⟨vs, w', dd, by rw [← rel.length]; exact z, hw, fun h' dd' hs => h w' _ ?_ rw'⟩
  have he : ∃ q, h'.get? a = some q := let ⟨q, _, _, hq, _⟩ := dd'; ⟨q, hq⟩
  exact d_write I (by rw [e]; exact True.intro) hs he (dk_new (Nat.le_trans (dropK_le kvs k) z) hd (rel.drop k) dd')
/-- d.pop(k, x), not there -/
theorem d_popD {r : Value} {Q : Value → Shared → Prop} (I : Inv X pins σ H s) (e : H a = some (.dK kvs)) (ry : RelV (kV k) u) (l : valV kvs k = none) (h : ∀ s', Inv X pins σ H s' → Q r s') :
    wpAny (model X.prog X.w) A (call (.builtin "dict.pop") [.ref a, u, r]) Q E s := by
  obtain ⟨z, hd, vs, rel, dd⟩ := dk_of I.hok e
  have hn : valueAt vs k = none := RelO.none_of (by rw [← l]; exact rel.val k)
  have hp : (keyPart u).isSome = true := by
    cases k with
    | inl i => obtain ⟨t, q⟩ := (show ∃ t, u = Value.int i t from ry); subst q; rfl
    | inr x => obtain ⟨t, q⟩ := (show ∃ t, u = Value.str x t from ry); subst q; rfl
  exact call_meetsIn PySem.F.slot_dict_pop dd.typeIs PySem.F.entry_dict_pop (PySem.F.args_dict_pop_3 _ _ _) (meets_dict_pop_default (mixKind X.prog X.w) a (kV_is ry) hd hp r) ⟨vs, dd, hn, h _ (I.tok _)⟩
/-- d.clear() -/
theorem d_clear {Q : Value → Shared → Prop} (I : Inv X pins σ H s) (e : H a = some (.dK kvs)) (h : ∀ s', Inv X pins σ (upd H a (.dK [])) s' → Q .none s') : wpAny (model X.prog X.w) A (call (.builtin "dict.clear") [.ref a]) Q E s := by
  obtain ⟨z, hd, vs, rel, dd⟩ := dk_of I.hok e
  refine call_meetsIn PySem.F.slot_dict_clear dd.typeIs PySem.F.entry_dict_clear (PySem.F.args_dict_clear_1 _) (meets_dict_clear (mixKind X.prog X.w) a) ⟨vs, dd, by rw [← rel.length]; exact z, fun h' dd' hs => h _ ?_⟩
  have he : ∃ q, h'.get? a = some q := let ⟨q, _, _, hq, _⟩ := dd'; ⟨q, hq⟩
  exact d_write (t' := s.toks) I (by rw [e]; exact True.intro) hs he (dk_new (Nat.zero_le _) hd .nil dd')
/-- len(d) -/
theorem d_len {Q : Value → Shared → Prop} (I : Inv X pins σ H s) (e : Rd H a (.dK kvs)) (h : ∀ t s', Inv X pins σ H s' → Q (.int kvs.length t) s') : wpAny (model X.prog X.w) A (call (.builtin "len") [.ref a]) Q E s := by
  obtain ⟨z, hd, vs, rel, dd⟩ := dk_rd I.hok e
  refine call_len_dict hd dd (by rw [← rel.length]; rw [sizeLine_eq] at z; omega) ?_
  rw [← rel.length]
  exact h _ _ (I.tok _)
/-- if d -/
theorem d_truth {Q : Bool → Shared → Prop} (I : Inv X pins σ H s) (e : Rd H a (.dK kvs)) (h : ∀ s', Inv X pins σ H s' → Q (!kvs.isEmpty) s') : wpAny (model X.prog X.w) A (truthy (.ref a)) Q E s := by
  obtain ⟨z, hd, vs, rel, dd⟩ := dk_rd I.hok e
  refine wpAny_truthy_dict hd dd (by rw [← rel.length]; rw [sizeLine_eq] at z; omega) ?_
  have q : kvs.isEmpty = vs.isEmpty := by cases rel <;> rfl
  rw [← q]
  exact h _ (I.tok _)
end


/-! ### readings and rules -/
/-- the element of a subscription, not a slice -/
def NoSl (i : Expr) : Prop := ∀ ov iv, subscripted i false ov iv = operate [ov, iv] (getItem ov iv)
theorem subD_of {prog : Program} {w : World} {A : Around} {E : Value → Shared → Prop} {s : Shared} {env : Env} {value slice : Expr} {pos : Pos} {T id : String} {Q : Value → Shared → Prop}
    (hl : typeLookup (.type T) "__getitem__" = pure (some (.builtin id))) (hs : NoSl slice)
    (h : wpAny (model prog w) A (eval value env) (fun o s₁ => wpAny (model prog w) A (eval slice env) (fun i s₂ => s₂.TypeIs o T ∧ wpAny (model prog w) A (getItem o i) Q E s₂) E s₁) E s) :
    wpAny (model prog w) A (eval (.Subscript value slice pos) env) Q E s := by
  refine Subscript_ (wpAny_mono h (fun o s₁ h₁ => wpAny_mono h₁ (fun i s₂ h₂ => ?_) fun _ _ x => x) fun _ _ x => x)
  obtain ⟨hT, h₂⟩ := h₂
  unfold subscriptTail
  refine wpAny_bind ?_
  rw [getitemInPython_of_ne hT.not_modules]
  refine wpAny_bind (wpAny_specialOf hT hl ?_)
  have fin : wpAny (model prog w) A (subscripted slice false o i) (fun r s₃ => wpAny (model prog w) A (letTemporaryGo value o r >>= fun _ => pure r) Q E s₃) E s₂ := by
    rw [hs o i]
    exact wpAny_operating (wpAny_mono h₂ (fun r s₃ h₃ => wpAny_bind (wpAny_letTemporaryGo (wpAny_pure h₃))) fun _ _ x => x)
  first
    | exact wpAny_pure (wpAny_bind fin)
    | exact wpAny_bind (wpAny_pure (wpAny_bind fin))
    | exact wpAny_bind fin

theorem dict_typeIs {X : Cx} {pins : List (Addr × Obj)} {σ : St} {H : Hp} {s : Shared} {a : Addr} {y : V} {o : Option V} (I : Inv X pins σ H s) (g : DGet H a y o) : s.TypeIs (.ref a) "dict" := by
  rcases g with ⟨kvs, k, e, _, _⟩ | ⟨kvs, k, b, e, _, _, _⟩
  · obtain ⟨_, _, vs, _, dd⟩ := dk_rd I.hok e
    exact dd.typeIs
  · obtain ⟨_, _, xs, _, dd⟩ := dt_rd I.hok e
    exact dd.typeIs
theorem dict_noDict {X : Cx} {pins : List (Addr × Obj)} {σ : St} {H : Hp} {s : Shared} {a : Addr} {y : V} {o : Option V} (I : Inv X pins σ H s) (g : DGet H a y o) :
    ∀ b, Value.ref a = .ref b → ∃ ob, s.heap.get? b = some ob ∧ ob.dict = none := fun b q => by
  cases q
  rcases g with ⟨kvs, k, e, _, _⟩ | ⟨kvs, k, b, e, _, _, _⟩
  · obtain ⟨_, _, vs, _, ob, _, _, h1, h2, _⟩ := dk_rd I.hok e
    exact ⟨ob, h1, h2.2.1⟩
  · obtain ⟨_, _, xs, _, ob, _, _, h1, h2, _⟩ := dt_rd I.hok e
    exact ⟨ob, h1, h2.2.1⟩

/-- d[y] -/
def tDGet (td ty : TE) : TE := fun σ H Q => td σ H fun x H1 => ty σ H1 fun y H2 => ∃ a v, x = .ref a ∧ DGet H2 a y (some v) ∧ Q v H2
/-- y in d, y not in d -/
def tDIn (ty td : TE) : TE := fun σ H Q => ty σ H fun y H1 => td σ H1 fun x H2 => ∃ a o, x = .ref a ∧ DGet H2 a y o ∧ Q (.bl o.isSome) H2
def tDNotIn (ty td : TE) : TE := fun σ H Q => ty σ H fun y H1 => td σ H1 fun x H2 => ∃ a o, x = .ref a ∧ DGet H2 a y o ∧ Q (.bl (!o.isSome)) H2
/-- d[y] = v -/
def sDPut (td ty tv : TE) : TS := fun D σ H => tv σ H fun v H1 => td σ H1 fun x H2 => ty σ H2 fun y H3 => ∃ a H4, x = .ref a ∧ DPut H3 a y v H4 ∧ D.nx σ H4
/-- d[y] op= v -/
def sDAug (td ty tv : TE) (rd : V → V → Hp → VK → Prop) : TS := fun D σ H => td σ H fun x H1 => ty σ H1 fun y H2 => ∃ a v, x = .ref a ∧ DGet H2 a y (some v) ∧
  tv σ H2 fun y2 H3 => rd v y2 H3 fun z H4 => ∃ H5, DPut H4 a y z H5 ∧ D.nx σ H5
/-- del d[y] -/
def sDDel (td ty : TE) : TS := fun D σ H => td σ H fun x H1 => ty σ H1 fun y H2 => ∃ a kvs k, x = .ref a ∧ H2 a = some (.dK kvs) ∧ y = kV k ∧ (valV kvs k).isSome = true ∧ D.nx σ (upd H2 a (.dK (dropK kvs k)))

section
variable {X : Cx} {o i e value : Expr} {pos pos' tpos : Pos} {td ty tv : TE}
theorem pe_dget (hu : X.A.units + 1 < cLine) (ho : PE X o td) (hi : PE X i ty) (hs : NoSl i) : PE X (.Subscript o i pos) (tDGet td ty) := by
  intro pins s σ H Q I h
  refine subD_of PySem.F.slot_dict_getitem.lookup hs (thn (ho pins s σ H _ I h) fun u s1 ⟨x, H1, I1, rx, q1⟩ => thn (hi pins s1 σ H1 _ I1 q1) fun iv s2 ⟨y, H2, I2, ry, a, v, ex, g, q2⟩ => ?_)
  subst ex
  obtain rfl : u = Value.ref a := rx
  exact ⟨dict_typeIs I2 g, d_getItem hu I2 g ry fun w' s3 I3 rw' => ⟨v, H2, I3, rw', q2⟩⟩
theorem pc_din (hu : X.A.units + 1 < cLine) (hi : PE X i ty) (ho : PE X o td) : PC X .In i o (tDIn ty td) := by
  intro pins s σ H Q I h
  refine thn (hi pins s σ H _ I h) fun iv s1 ⟨y, H1, I1, ry, q1⟩ => thn (ho pins s1 σ H1 _ I1 q1) fun u s2 ⟨x, H2, I2, rx, a, ov, ex, g, q2⟩ => ?_
  subst ex
  obtain rfl : u = Value.ref a := rx
  exact d_in hu I2 g ry fun s3 I3 => ⟨.bl ov.isSome, H2, I3, rfl, q2⟩
theorem pc_dnotin (hu : X.A.units + 1 < cLine) (hi : PE X i ty) (ho : PE X o td) : PC X .NotIn i o (tDNotIn ty td) := by
  intro pins s σ H Q I h
  refine thn (hi pins s σ H _ I h) fun iv s1 ⟨y, H1, I1, ry, q1⟩ => thn (ho pins s1 σ H1 _ I1 q1) fun u s2 ⟨x, H2, I2, rx, a, ov, ex, g, q2⟩ => ?_
  subst ex
  obtain rfl : u = Value.ref a := rx
  exact d_notIn hu I2 g ry fun s3 I3 => ⟨.bl (!ov.isSome), H2, I3, rfl, q2⟩
theorem ps_dput (hu : X.A.units + 1 < cLine) (ho : PE X o td) (hi : PE X i ty) (hv : PE X value tv) (hs : swapsWith value (some (.Subscript o i pos')) pos.line X.env = pure false) :
    PS X (.Assign [.Subscript o i pos'] value pos) (sDPut td ty tv) := by
  intro pins s σ H D I h
  refine wpAny_Assign_Subscript (thn (hv pins s σ H _ I h) fun r s1 ⟨v, H1, I1, rv, q1⟩ => thn (ho pins s1 σ H1 _ I1 q1) fun u s2 ⟨x, H2, I2, rx, q2⟩ => thn (hi pins s2 σ H2 _ I2 q2) fun iv s3 ⟨y, H3, I3, ry, a, H4, ex, g, q3⟩ => ?_) hs
  subst ex
  obtain rfl : u = Value.ref a := rx
  exact d_setItem hu I3 g ry rv fun s4 I4 => ⟨σ, H4, I4, q3⟩
theorem ps_daug {op : Operator} {rd : V → V → Hp → VK → Prop} (hu : X.A.units + 1 < cLine) (ho : PE X o td) (hi : PE X i ty) (hv : PE X value tv) (hop : InOp X op rd)
    (ha : ∀ ov iv new, augStore i ov iv new = (do holding [new, ov, iv] (setItem ov iv new); release [new, ov, iv] []; pure .next)) : PS X (.AugAssign (.Subscript o i tpos) op value pos) (sDAug td ty tv rd) := by
  intro pins s σ H D I h
  refine wpAny_AugAssign_SubscriptAny (thn (ho pins s σ H _ I h) fun u s1 ⟨x, H1, I1, rx, q1⟩ => thn (hi pins s1 σ H1 _ I1 q1) fun iv s2 ⟨y, H2, I2, ry, a, v, ex, g, q2⟩ => ?_) ha
  subst ex
  obtain rfl : u = Value.ref a := rx
  refine d_getItem hu I2 g ry fun w' s3 I3 rw' => thn (hv pins s3 σ H2 _ I3 q2) fun w2 s4 ⟨y2, H3, I4, ry2, q3⟩ => thn (hop pins s4 σ H3 v y2 w' w2 _ I4 rw' ry2 q3) fun w3 s5 ⟨z, H4, I5, rz, H5, g5, q4⟩ => ?_
  exact d_setItem hu I5 g5 ry rz fun s6 I6 => ⟨σ, H5, I6, q4⟩
theorem ps_ddel (ho : PE X o td) (hi : PE X i ty) : PS X (.Delete [.Subscript o i tpos] pos) (sDDel td ty) := by
  intro pins s σ H D I h
  refine wpAny_Delete (wpAny_deleteEach_cons (wpAny_delete_Subscript (thn (ho pins s σ H _ I h) fun u s1 ⟨x, H1, I1, rx, q1⟩ => thn (hi pins s1 σ H1 _ I1 q1) fun iv s2 ⟨y, H2, I2, ry, a, kvs, k, ex, e, ey, l, q2⟩ => ?_)))
  subst ex ey
  obtain rfl : u = Value.ref a := rx
  exact d_delItem I2 e ry l fun s3 I3 => wpAny_deleteEach_nil ⟨σ, _, I3, q2⟩
end


/-! ### displays -/
theorem dk_empty {P : Program} {w : World} {H : Hp} (h : Heap) (hb : sysModules < h.objs.size) : ObjOk P w H (h.push { cls := .type "dict", data := .dict #[] }) h.objs.size (.dK []) :=
  ⟨Nat.zero_le _, beq_eq_false_iff_ne.mpr (Ne.symm (Nat.ne_of_lt hb)), [], .nil, Heap.DictOf.new h⟩
theorem dt_empty {P : Program} {w : World} {H : Hp} (h : Heap) (hb : sysModules < h.objs.size) : ObjOk P w H (h.push { cls := .type "dict", data := .dict #[] }) h.objs.size (.dT []) :=
  ⟨Nat.zero_le _, beq_eq_false_iff_ne.mpr (Ne.symm (Nat.ne_of_lt hb)), [], .nil, _, #[], 0, Heap.get?_push_size _ rfl, ⟨rfl, rfl, rfl⟩, rfl, rfl, List.nodup_nil⟩
/-- {}, to be a dict of the kind that is wanted -/
def tDNewK : TE := fun _ H Q => ∀ p, H p = none → Q (.ref p) (upd H p (.dK []))
def tDNewT : TE := fun _ H Q => ∀ p, H p = none → Q (.ref p) (upd H p (.dT []))
section
variable {X : Cx} {pos : Pos}
theorem pe_dnewK : PE X (.Dict [] [] pos) tDNewK := fun pins s σ H Q I h =>
  wpAny_Dict_empty ⟨.ref s.heap.objs.size, _, I.laid (a := s.heap.objs.size) (o := .dK []) (t' := s.toks) (fun _ _ q => Heap.get?_push_of_some _ q) (Nat.le_refl _) (dk_empty s.heap I.big), rfl, h _ (I.hok.fresh (Nat.le_refl _))⟩
theorem pe_dnewT : PE X (.Dict [] [] pos) tDNewT := fun pins s σ H Q I h =>
  wpAny_Dict_empty ⟨.ref s.heap.objs.size, _, I.laid (a := s.heap.objs.size) (o := .dT []) (t' := s.toks) (fun _ _ q => Heap.get?_push_of_some _ q) (Nat.le_refl _) (dt_empty s.heap I.big), rfl, h _ (I.hok.fresh (Nat.le_refl _))⟩
end

/-- the pairs of a display, from the left -/
def tPairs : List (TE × TE) → St → Hp → (List (V × V) → Hp → Prop) → Prop
  | [], _, H, Q => Q [] H
  | (tk, tv) :: r, σ, H, Q => tk σ H fun x H1 => tv σ H1 fun y H2 => tPairs r σ H2 fun ps H3 => Q ((x, y) :: ps) H3
abbrev VV : List (V × V) → List (Value × Value) → Prop := Paired fun p q => RelV p.1 q.1 ∧ RelV p.2 q.2
def PPs (X : Cx) (pos : Pos) (keys : List (Option Expr)) (values : List Expr) (trs : List (TE × TE)) : Prop :=
  ∀ (pins : List (Addr × Obj)) (s : Shared) (σ : St) (H : Hp) (Q : List (V × V) → Hp → Prop), Inv X pins σ H s → tPairs trs σ H Q →
    wpAny (model X.prog X.w) X.A (evalPairs (pairTrees keys values X.env pos)) (fun vs s' => ∃ ps H', Inv X pins σ H' s' ∧ VV ps vs ∧ Q ps H') X.xe s
theorem pps_nil {X : Cx} {pos : Pos} : PPs X pos [] [] [] := fun pins s σ H Q I h => pairTrees_nil_walk ⟨[], H, I, .nil, h⟩
theorem pps_cons {X : Cx} {pos : Pos} {k v : Expr} {ks : List (Option Expr)} {vs : List Expr} {tk tv : TE} {trs : List (TE × TE)} (hk : PE X k tk) (hv : PE X v tv) (hr : PPs X pos ks vs trs) :
    PPs X pos (some k :: ks) (v :: vs) ((tk, tv) :: trs) := fun pins s σ H Q I h =>
  pairTrees_cons_walk (thn (hk pins s σ H _ I h) fun u s1 ⟨x, H1, I1, rx, q1⟩ => thn (hv pins s1 σ H1 _ I1 q1) fun w2 s2 ⟨y, H2, I2, ry, q2⟩ =>
    thn (hr pins s2 σ H2 _ I2 q2) fun ws s3 ⟨ps, H3, I3, rel, q3⟩ => ⟨(x, y) :: ps, H3, I3, .cons ⟨rx, ry⟩ rel, q3⟩)

def mergeK (kvs more : List (Key × V)) : List (Key × V) := more.foldl (fun acc kv => putK acc kv.1 kv.2) kvs
theorem KV.merge : ∀ {more : List (Key × V)} {rs : List (Key × Value)} {kvs : List (Key × V)} {vs : List (Key × Value)}, KV more rs → KV kvs vs → KV (mergeK kvs more) (merged vs rs) := by
  intro more rs kvs vs r
  unfold KV at r
  induction r generalizing kvs vs with
  | nil => intro q; exact q
  | @cons p q ps qs h t ih =>
    intro r0
    have e : KV (putK kvs p.1 p.2) (stored vs q.1 q.2) := by
      have := r0.put p.1 h.2
      rw [← h.1]; exact this
    exact ih e
theorem length_mergeK : ∀ (more kvs : List (Key × V)), (mergeK kvs more).length ≤ kvs.length + more.length
  | [], kvs => by show kvs.length ≤ kvs.length + 0; omega
  | p :: r, kvs => by
    have h1 := length_mergeK r (putK kvs p.1 p.2)
    have h2 := length_putK kvs p.1 p.2
    show (mergeK (putK kvs p.1 p.2) r).length ≤ _
    rw [List.length_cons]; omega
theorem carries_of {P : Program} {w : World} : ∀ {kvs : List (Key × V)} {ws : List (Value × Value)}, VV (kvs.map fun kv => (kV kv.1, kv.2)) ws → ∃ rs, Carries (mixKind P w) ws rs ∧ KV kvs rs
  | [], _, r => by rw [List.map_nil] at r; cases r; exact ⟨[], True.intro, .nil⟩
  | p :: kvs, _, r => by
    rw [List.map_cons] at r
    cases r with
    | @cons a b as bs h t =>
      obtain ⟨rs, c, q⟩ := carries_of (P := P) (w := w) t
      obtain ⟨b1, b2⟩ := b
      exact ⟨(p.1, b2) :: rs, ⟨kV_is h.1, rfl, c⟩, .cons ⟨rfl, h.2⟩ q⟩
/-- {k: v, ..} with keys ints and texts; the new dict stands empty while the pairs are made -/
def tDisp (trs : List (TE × TE)) : TE := fun σ H Q => ∀ p, H p = none → tPairs trs σ (upd H p (.dK [])) fun ps H2 => H2 p = some (.dK []) ∧ ∃ kvs : List (Key × V), ps = kvs.map (fun kv => (kV kv.1, kv.2)) ∧ kvs.length ≤ 15 ∧ Q (.ref p) (upd H2 p (.dK (mergeK [] kvs)))
theorem pe_disp {X : Cx} {pos : Pos} {keys : List (Option Expr)} {values : List Expr} {trs : List (TE × TE)} (h : PPs X pos keys values trs) (hall : keys.all (·.isSome) = true) (hl : keys.length = values.length) (h0 : keys ≠ [])
    (h15 : keys.length ≤ 15) : PE X (.Dict keys values pos) (tDisp trs) := by
  intro pins s σ H Q I q
  have hn := I.hok.fresh (Nat.le_refl s.heap.objs.size)
  have I1 := I.laid (a := s.heap.objs.size) (o := .dK []) (h' := s.heap.push { cls := .type "dict", data := .dict #[] }) (t' := s.toks) (fun _ _ q => Heap.get?_push_of_some _ q) (Nat.le_refl _) (dk_empty s.heap I.big)
  refine wpAny_Dict_walk (knd := mixKind X.prog X.w) hall hl h0 h15 (thn (h pins _ σ _ _ I1 (q _ hn)) fun ws s2 ⟨ps, H2, I2, rel, e, kvs, ep, lk, q2⟩ => ?_)
  subst ep
  obtain ⟨rs, c, rk⟩ := carries_of (P := X.prog) (w := X.w) rel
  obtain ⟨z, hd, vs0, r0, dd⟩ := dk_of I2.hok e
  cases r0
  refine ⟨rs, c, dd, fun h' dd' hs => ⟨.ref s.heap.objs.size, _, ?_, rfl, q2⟩⟩
  have hz : (mergeK [] kvs).length ≤ sizeLine := by
    have h1 := length_mergeK kvs []
    rw [List.length_nil] at h1
    rw [sizeLine_eq]; omega
  have he : ∃ q, h'.get? s.heap.objs.size = some q := let ⟨q, _, _, hq, _⟩ := dd'; ⟨q, hq⟩
  exact d_write I2 (by rw [e]; exact True.intro) hs he (dk_new hz hd (rk.merge .nil) dd')


/-! ### methods -/
/-- a method call o.m(e) of a built-in, with one argument: what must be seen of the text -/
structure M1 (X : Cx) (o : Expr) (m : Str) (apos : Pos) (e : Expr) (cpos : Pos) : Prop where
  base : attributeBase o m X.env (eval o X.env) = eval o X.env
  few : ((backTo cpos (starEach [e] X.env)).all (fun x => !x.1) && (backToKw cpos (keywordEach [] X.env)).all (fun x => x.1.isSome)
    && decide (([e] : List Expr).length + ([] : List Keyword).length + (if ([] : List Keyword).isEmpty then 0 else 1) < 30)) = true
  line : (apos.endLine == cpos.line) = true
  trees : backTo cpos (starEach [e] X.env) = [(false, eval e X.env)]
structure M2 (X : Cx) (o : Expr) (m : Str) (apos : Pos) (e f : Expr) (cpos : Pos) : Prop where
  base : attributeBase o m X.env (eval o X.env) = eval o X.env
  few : ((backTo cpos (starEach [e, f] X.env)).all (fun x => !x.1) && (backToKw cpos (keywordEach [] X.env)).all (fun x => x.1.isSome)
    && decide (([e, f] : List Expr).length + ([] : List Keyword).length + (if ([] : List Keyword).isEmpty then 0 else 1) < 30)) = true
  line : (apos.endLine == cpos.line) = true
  trees : backTo cpos (starEach [e, f] X.env) = [(false, eval e X.env), (false, eval f X.env)]

/-- a is a dict, whatever its keys -/
def IsD (H : Hp) (a : Addr) : Prop := (∃ kvs, Rd H a (.dK kvs)) ∨ ∃ kvs, Rd H a (.dT kvs)
theorem isD_at {X : Cx} {pins : List (Addr × Obj)} {σ : St} {H : Hp} {s : Shared} {a : Addr} (I : Inv X pins σ H s) (d : IsD H a) :
    s.TypeIs (.ref a) "dict" ∧ (∀ b, Value.ref a = .ref b → ∃ ob, s.heap.get? b = some ob ∧ ob.dict = none) ∧ (a == sysModules) = false := by
  rcases d with ⟨kvs, e⟩ | ⟨kvs, e⟩
  · obtain ⟨_, hd, vs, _, dd⟩ := dk_rd I.hok e
    refine ⟨dd.typeIs, fun b q => ?_, hd⟩
    cases q
    obtain ⟨ob, _, _, h1, h2, _⟩ := dd
    exact ⟨ob, h1, h2.2.1⟩
  · obtain ⟨_, hd, xs, _, dd⟩ := dt_rd I.hok e
    refine ⟨dd.typeIs, fun b q => ?_, hd⟩
    cases q
    obtain ⟨ob, _, _, h1, h2, _⟩ := dd
    exact ⟨ob, h1, h2.2.1⟩

section
variable {X : Cx} {pins : List (Addr × Obj)} {σ : St} {H : Hp} {s : Shared} {a : Addr} {y d : V} {u r : Value} {o : Option V} {A : Around} {E : Value → Shared → Prop}
/-- d.get(y) -/
theorem d_get1 {Q : Value → Shared → Prop} (hu : A.units + 1 < cLine) (I : Inv X pins σ H s) (g : DGet H a y o) (ry : RelV y u) (h : ∀ w' s', Inv X pins σ H s' → RelV (o.getD .non) w' → Q w' s') :
    wpAny (model X.prog X.w) A (call (.builtin "dict.get") [.ref a, u]) Q E s := by
  rcases g with ⟨kvs, k, e, ey, l⟩ | ⟨kvs, k, b, e, ey, eb, l⟩
  · subst ey
    obtain ⟨z, hd, vs, rel, dd⟩ := dk_rd I.hok e
    refine call_meetsIn PySem.F.slot_dict_get dd.typeIs PySem.F.entry_dict_get (PySem.F.args_dict_get_2 _ _) (meets_dict_get (mixKind X.prog X.w) a (kV_is ry) hd) ⟨_, dd.mapOf, h _ _ (I.tok _) ?_⟩
    rw [l]
    exact (rel.val k).getD rfl
  · subst ey
    cases (show u = Value.ref b from ry)
    obtain ⟨z, hd, xs, rel, dd⟩ := dt_rd I.hok e
    refine call_meetsIn PySem.F.slot_dict_get dd.typeIs PySem.F.entry_dict_get (PySem.F.args_dict_get_2 _ _) (meetsH_dict_get (tupleKind (mixKind X.prog X.w)) a b hd) ⟨tupleKind_room_in1 hu, k, xs, key_of I.hok eb, dd, h _ _ (I.tok _) ?_⟩
    rw [l]
    exact (rel.val k).getD rfl
/-- d.get(y, x) -/
theorem d_get2 {Q : Value → Shared → Prop} (hu : A.units + 1 < cLine) (I : Inv X pins σ H s) (g : DGet H a y o) (ry : RelV y u) (rd : RelV d r) (h : ∀ w' s', Inv X pins σ H s' → RelV (o.getD d) w' → Q w' s') :
    wpAny (model X.prog X.w) A (call (.builtin "dict.get") [.ref a, u, r]) Q E s := by
  rcases g with ⟨kvs, k, e, ey, l⟩ | ⟨kvs, k, b, e, ey, eb, l⟩
  · subst ey
    obtain ⟨z, hd, vs, rel, dd⟩ := dk_rd I.hok e
    refine call_meetsIn PySem.F.slot_dict_get dd.typeIs PySem.F.entry_dict_get (PySem.F.args_dict_get_3 _ _ _) (meets_dict_get_default (mixKind X.prog X.w) a (kV_is ry) hd r) ⟨_, dd.mapOf, h _ _ (I.tok _) ?_⟩
    rw [l]
    exact (rel.val k).getD rd
  · subst ey
    cases (show u = Value.ref b from ry)
    obtain ⟨z, hd, xs, rel, dd⟩ := dt_rd I.hok e
    refine call_meetsIn PySem.F.slot_dict_get dd.typeIs PySem.F.entry_dict_get (PySem.F.args_dict_get_3 _ _ _) (meetsH_dict_get_default (tupleKind (mixKind X.prog X.w)) a b hd r) ⟨tupleKind_room_in1 hu, k, xs, key_of I.hok eb, dd, h _ _ (I.tok _) ?_⟩
    rw [l]
    exact (rel.val k).getD rd
end

def tDGet1 (td ty : TE) : TE := fun σ H Q => td σ H fun x H1 => ∃ a, x = .ref a ∧ IsD H1 a ∧ ty σ H1 fun y H2 => ∃ o, DGet H2 a y o ∧ Q (o.getD .non) H2
def tDGet2 (td ty tx : TE) : TE := fun σ H Q => td σ H fun x H1 => ∃ a, x = .ref a ∧ IsD H1 a ∧ ty σ H1 fun y H2 => tx σ H2 fun z H3 => ∃ o, DGet H3 a y o ∧ Q (o.getD z) H3
/-- d.pop(k): there; d.pop(k, x): there or not -/
def tDPop1 (td ty : TE) : TE := fun σ H Q => td σ H fun x H1 => ∃ a, x = .ref a ∧ IsD H1 a ∧ ty σ H1 fun y H2 => ∃ kvs k v, H2 a = some (.dK kvs) ∧ y = kV k ∧ valV kvs k = some v ∧ Q v (upd H2 a (.dK (dropK kvs k)))
def tDPop2 (td ty tx : TE) : TE := fun σ H Q => td σ H fun x H1 => ∃ a, x = .ref a ∧ IsD H1 a ∧ ty σ H1 fun y H2 => tx σ H2 fun z H3 => ∃ kvs k, H3 a = some (.dK kvs) ∧ y = kV k ∧
  (∀ v, valV kvs k = some v → Q v (upd H3 a (.dK (dropK kvs k)))) ∧ (valV kvs k = none → Q z H3)
section
variable {X : Cx} {o e f : Expr} {apos cpos : Pos} {td ty tx : TE}
theorem pe_dget1 (hu : X.A.units + 1 < cLine) (ho : PE X o td) (he : PE X e ty) (m : M1 X o "get" apos e cpos) : PE X (.Call (.Attribute o "get" apos) [e] [] cpos) (tDGet1 td ty) := by
  intro pins s σ H Q I h
  refine wpAny_Call_method m.base m.few m.line PySem.F.plainAttrs_dict PySem.F.slot_dict_get PySem.F.type_dict_get (thn (ho pins s σ H _ I h) fun u s1 ⟨x, H1, I1, rx, a, ex, d, q1⟩ => ?_)
  subst ex
  obtain rfl : u = Value.ref a := rx
  obtain ⟨t1, t2, _⟩ := isD_at I1 d
  refine ⟨t1, t2, ?_⟩
  rw [m.trees]
  refine Calls.callWith_builtin rfl (Calls.evalArgs_plain (Calls.spliced_cons (thn (he pins s1 σ H1 _ I1 q1) fun iv s2 ⟨y, H2, I2, ry, ov, g, q2⟩ => Calls.spliced_nil ?_)))
  exact d_get1 hu I2 g ry fun w' s3 I3 rw' => ⟨_, H2, I3, rw', q2⟩
theorem pe_dget2 (hu : X.A.units + 1 < cLine) (ho : PE X o td) (he : PE X e ty) (hf : PE X f tx) (m : M2 X o "get" apos e f cpos) : PE X (.Call (.Attribute o "get" apos) [e, f] [] cpos) (tDGet2 td ty tx) := by
  intro pins s σ H Q I h
  refine wpAny_Call_method m.base m.few m.line PySem.F.plainAttrs_dict PySem.F.slot_dict_get PySem.F.type_dict_get (thn (ho pins s σ H _ I h) fun u s1 ⟨x, H1, I1, rx, a, ex, d, q1⟩ => ?_)
  subst ex
  obtain rfl : u = Value.ref a := rx
  obtain ⟨t1, t2, _⟩ := isD_at I1 d
  refine ⟨t1, t2, ?_⟩
  rw [m.trees]
  refine Calls.callWith_builtin rfl (Calls.evalArgs_plain (Calls.spliced_cons (thn (he pins s1 σ H1 _ I1 q1) fun iv s2 ⟨y, H2, I2, ry, q2⟩ =>
    Calls.spliced_cons (thn (hf pins s2 σ H2 _ I2 q2) fun fv s3 ⟨z, H3, I3, rz, ov, g, q3⟩ => Calls.spliced_nil ?_))))
  exact d_get2 hu I3 g ry rz fun w' s4 I4 rw' => ⟨_, H3, I4, rw', q3⟩
theorem pe_dpop1 (ho : PE X o td) (he : PE X e ty) (m : M1 X o "pop" apos e cpos) : PE X (.Call (.Attribute o "pop" apos) [e] [] cpos) (tDPop1 td ty) := by
  intro pins s σ H Q I h
  refine wpAny_Call_method m.base m.few m.line PySem.F.plainAttrs_dict PySem.F.slot_dict_pop PySem.F.type_dict_pop (thn (ho pins s σ H _ I h) fun u s1 ⟨x, H1, I1, rx, a, ex, d, q1⟩ => ?_)
  subst ex
  obtain rfl : u = Value.ref a := rx
  obtain ⟨t1, t2, _⟩ := isD_at I1 d
  refine ⟨t1, t2, ?_⟩
  rw [m.trees]
  refine Calls.callWith_builtin rfl (Calls.evalArgs_plain (Calls.spliced_cons (thn (he pins s1 σ H1 _ I1 q1) fun iv s2 ⟨y, H2, I2, ry, kvs, k, v, ea, ey, l, q2⟩ => Calls.spliced_nil ?_)))
  subst ey
  exact d_pop I2 ea ry l (.inl rfl) fun w' s3 I3 rw' => ⟨v, _, I3, rw', q2⟩
theorem pe_dpop2 (ho : PE X o td) (he : PE X e ty) (hf : PE X f tx) (m : M2 X o "pop" apos e f cpos) : PE X (.Call (.Attribute o "pop" apos) [e, f] [] cpos) (tDPop2 td ty tx) := by
  intro pins s σ H Q I h
  refine wpAny_Call_method m.base m.few m.line PySem.F.plainAttrs_dict PySem.F.slot_dict_pop PySem.F.type_dict_pop (thn (ho pins s σ H _ I h) fun u s1 ⟨x, H1, I1, rx, a, ex, d, q1⟩ => ?_)
  subst ex
  obtain rfl : u = Value.ref a := rx
  obtain ⟨t1, t2, _⟩ := isD_at I1 d
  refine ⟨t1, t2, ?_⟩
  rw [m.trees]
  refine Calls.callWith_builtin rfl (Calls.evalArgs_plain (Calls.spliced_cons (thn (he pins s1 σ H1 _ I1 q1) fun iv s2 ⟨y, H2, I2, ry, q2⟩ =>
    Calls.spliced_cons (thn (hf pins s2 σ H2 _ I2 q2) fun fv s3 ⟨z, H3, I3, rz, kvs, k, ea, ey, q3, q4⟩ => Calls.spliced_nil ?_))))
  subst ey
  cases l : valV kvs k with
  | some v => exact d_pop I3 ea ry l (.inr ⟨fv, rfl⟩) fun w' s4 I4 rw' => ⟨v, _, I4, rw', q3 v l⟩
  | none => exact d_popD I3 ea ry l fun s4 I4 => ⟨z, H3, I4, rz, q4 l⟩
end

/-! ### dict(d): a copy -/
section
variable {X : Cx} {pins : List (Addr × Obj)} {σ : St} {H : Hp} {s : Shared} {a : Addr} {kvs : List (Key × V)} {A : Around} {E : Value → Shared → Prop}
theorem d_copyOf {Q : Value → Shared → Prop} (I : Inv X pins σ H s) (e : Rd H a (.dK kvs)) (h : ∀ p s', H p = none → Inv X pins σ (upd H p (.dK kvs)) s' → Q (.ref p) s') : wpAny (model X.prog X.w) A (call (.type "dict") [.ref a]) Q E s := by
  obtain ⟨z, hd, vs, rel, dd⟩ := dk_rd I.hok e
  refine kt_call_dict hd dd (by rw [← rel.length]; exact z) fun h' dd' hs => ?_
  refine h _ _ (I.hok.fresh (Nat.le_refl _)) (I.laid (a := s.heap.objs.size) (o := .dK kvs) (t' := s.toks) (fun b q hq => ?_) (Nat.le_refl _) (dk_new z (beq_eq_false_iff_ne.mpr (Ne.symm (Nat.ne_of_lt I.big))) rel dd'))
  exact (hs.2 b (Nat.ne_of_lt (Heap.lt_size hq))).trans (Heap.get?_push_of_some _ hq)
end


section
variable {X : Cx} {pins : List (Addr × Obj)} {σ : St} {H : Hp} {s : Shared} {a : Addr} {y : V} {u : Value} {A : Around} {E : Value → Shared → Prop}
/-- d[y], not there: a KeyError -/
theorem d_missing {Q : Value → Shared → Prop} (hu : A.units + 1 < cLine) (hh : A.handled = none) (I : Inv X pins σ H s) (g : DGet H a y none) (ry : RelV y u)
    (h : ∀ h' e t', Heap.NewExc s.heap h' e "KeyError" → E (.ref e) { s with heap := h', toks := t' }) : wpAny (model X.prog X.w) A (getItem (.ref a) u) Q E s := by
  rcases g with ⟨kvs, k, e, ey, l⟩ | ⟨kvs, k, b, e, ey, eb, l⟩
  · subst ey
    obtain ⟨z, hd, vs, rel, dd⟩ := dk_rd I.hok e
    have hn : valueAt vs k = none := RelO.none_of (by rw [l]; exact rel.val k)
    exact wpAny_getItem_missing_of (kV_is ry) hd hh dd.mapOf hn fun h' ex ne => h h' ex _ ne
  · subst ey
    cases (show u = Value.ref b from ry)
    obtain ⟨z, hd, xs, rel, dd⟩ := dt_rd I.hok e
    have hn : (atKey xs k).map (·.2) = none := RelO.none_of (by rw [l]; exact rel.val k)
    exact wpAny_getItem_missing_heap (tupleKind_room_in1 hu) (key_of I.hok eb) hd hh dd (Option.map_eq_none_iff.mp hn) fun h' ex ne => h h' ex _ ne
end
end L2
namespace L2
open PySem
/-! two tuples of the same flat items are not unlike -/
section
variable {X : Cx}
theorem eqV_self {x : V} (h : flatV x = true) : eqV x x = true := by
  cases x with
  | non => rfl
  | bl b => exact beq_self_eq_true b
  | int b => exact beq_self_eq_true b
  | str b => exact beq_self_eq_true b
  | _ => exact absurd (show false = true from h) Bool.false_ne_true
theorem eqAt_two {A : Around} {s : Shared} : ∀ {xs : List V} {us vs : List Value}, Vals xs us → Vals xs vs → xs.all flatV = true → ∀ (j : Nat) (h1 : j < us.length) (h2 : j < vs.length), SeqAt.EqAt A s us[j] vs[j] true
  | _, _, _, .nil, .nil, _, j, h1, _ => absurd h1 (Nat.not_lt_zero _)
  | x :: xs, u :: us, v :: vs, .cons r t, .cons r' t', f, j, h1, h2 => by
    rw [List.all_cons, Bool.and_eq_true] at f
    cases j with
    | zero =>
      have := eqAt_V (A := A) (s := s) r r' f.1 f.1
      rw [eqV_self f.1] at this
      exact this
    | succ j => exact eqAt_two t t' f.2 j (Nat.lt_of_succ_lt_succ h1) (Nat.lt_of_succ_lt_succ h2)
theorem op_neT (hu : X.A.units < cLine) : OpR X (compareOp .NotEq) (fun x y H Q => ∃ a b xs, x = .ref a ∧ y = .ref b ∧ SqT X.K H a xs ∧ SqT X.K H b xs ∧ xs.all flatV = true ∧ Q (.bl false) H) := by
  intro pins s σ H x y v u Q I rx ry h
  obtain ⟨a, b, xs, rfl, rfl, ha, hb, f, q⟩ := h
  cases rx
  cases ry
  obtain ⟨its, r1, p1, _⟩ := I.tuple ha
  obtain ⟨its2, r2, p2, _⟩ := I.tuple hb
  have l1 := r1.length
  have l2 := r2.length
  refine SeqAt.RcNeAt.tuples (e := fun _ => true) p1 p2 hu (fun j h1 h2 => ?_) X.prog X.w X.xe _ ?_
  · have := eqAt_two (A := X.A.in1) (s := s) r1 r2 f j (by simpa using h1) (by simpa using h2)
    simpa using this
  · have e : (!((List.range (min its.toArray.size its2.toArray.size)).all (fun _ => true) && its.toArray.size == its2.toArray.size)) = false := by
      rw [List.size_toArray, List.size_toArray, ← l1, ← l2]
      simp
    rw [e]
    exact ⟨.bl false, H, I, rfl, q⟩
end
end L2

namespace L2
open PySem
/-! values that are alike through and through -/
inductive Dq (K : PySem.W.Frag) (H : Hp) : Nat → V → V → Prop where
  | flat {n : Nat} {x : V} : flatV x = true → Dq K H n x x
  | same {n : Nat} {a : Addr} : Dq K H n (.ref a) (.ref a)
  | tup {n : Nat} {a b : Addr} {xs ys : List V} : SqT K H a xs → SqT K H b ys → xs.length = ys.length → (∀ (j : Nat) (x y : V), xs[j]? = some x → ys[j]? = some y → Dq K H n x y) → Dq K H (n + 1) (.ref a) (.ref b)
  | lst {n : Nat} {a b : Addr} {xs ys : List V} : SqL K H a xs → SqL K H b ys → xs.length = ys.length → (∀ (j : Nat) (x y : V), xs[j]? = some x → ys[j]? = some y → Dq K H n x y) → Dq K H (n + 1) (.ref a) (.ref b)
theorem Vals.at_of {xs : List V} {us : List Value} (r : Vals xs us) {j : Nat} (h : j < us.length) : ∃ x, xs[j]? = some x ∧ RelV x us[j] := by
  have hl := r.length
  have hx : xs[j]? = some xs[j] := List.getElem?_eq_getElem (by omega)
  obtain ⟨u, hu, ru⟩ := r.get hx
  rw [List.getElem?_eq_getElem h] at hu
  exact ⟨_, hx, Option.some.inj hu ▸ ru⟩
section
variable {X : Cx} {pins : List (Addr × Obj)} {σ : St} {H : Hp} {s : Shared}
theorem Dq.eqAt (I : Inv X pins σ H s) {n : Nat} {x y : V} (d : Dq X.K H n x y) : ∀ {A : Around} {u v : Value}, RelV x u → RelV y v → A.units + n < cLine → SeqAt.EqAt A s u v true := by
  induction d with
  | @flat n x f =>
    intro A u v ru rv _
    have := eqAt_V (A := A) (s := s) ru rv f f
    rw [eqV_self f] at this
    exact this
  | same =>
    intro A u v ru rv _
    cases ru
    cases rv
    exact SeqAt.EqAt.same _
  | @tup n a b xs ys ha hb hl _ ih =>
    intro A u v ru rv hu
    cases ru
    cases rv
    obtain ⟨its, r1, p1, _⟩ := I.tuple ha
    obtain ⟨its2, r2, p2, _⟩ := I.tuple hb
    have l1 := r1.length
    have l2 := r2.length
    by_cases e : a = b
    · subst e
      exact SeqAt.EqAt.same _
    refine SeqAt.EqAt.of_refs e ?_
    have := SeqAt.RcAt.tuples (A := A) (s := s) (e := fun _ => true) p1 p2 (by omega) (fun j h1 h2 => ?_)
    · have e2 : ((List.range (min its.toArray.size its2.toArray.size)).all (fun _ => true) && its.toArray.size == its2.toArray.size) = true := by
        rw [List.size_toArray, List.size_toArray, ← l1, ← l2, hl]
        simp
      rw [e2] at this
      exact this
    · have h1' : j < its.length := by simpa using h1
      have h2' : j < its2.length := by simpa using h2
      obtain ⟨x, hx, rx⟩ := r1.at_of h1'
      obtain ⟨y, hy, ry⟩ := r2.at_of h2'
      have := ih j x y hx hy (A := A.in1) rx ry (by show A.in1.units + n < cLine; simp; omega)
      simpa using this
  | @lst n a b xs ys ha hb hl _ ih =>
    intro A u v ru rv hu
    cases ru
    cases rv
    obtain ⟨its, r1, p1, _⟩ := I.list ha
    obtain ⟨its2, r2, p2, _⟩ := I.list hb
    have l1 := r1.length
    have l2 := r2.length
    by_cases e : a = b
    · subst e
      exact SeqAt.EqAt.same _
    refine SeqAt.EqAt.of_refs e ?_
    have := SeqAt.RcAt.lists (A := A) (s := s) (e := fun _ => true) p1.isList p2.isList (by rw [List.size_toArray, List.size_toArray, ← l1, ← l2, hl]) (by omega) (fun j h1 h2 => ?_)
    · have e2 : (List.range its.toArray.size).all (fun _ => true) = true := by simp
      rw [e2] at this
      exact this
    · have h1' : j < its.length := by simpa using h1
      have h2' : j < its2.length := by simpa using h2
      obtain ⟨x, hx, rx⟩ := r1.at_of h1'
      obtain ⟨y, hy, ry⟩ := r2.at_of h2'
      have := ih j x y hx hy (A := A.in1) rx ry (by show A.in1.units + n < cLine; simp; omega)
      simpa using this
end
section
variable {X : Cx}
theorem op_eqDL (hu : X.A.units + 64 < cLine) : OpR X (compareOp .Eq) (fun x y H Q => ∃ a b xs ys n, x = .ref a ∧ y = .ref b ∧ SqL X.K H a xs ∧ SqL X.K H b ys ∧ xs.length = ys.length ∧ (∀ (j : Nat) (x y : V), xs[j]? = some x → ys[j]? = some y → Dq X.K H n x y) ∧ n ≤ 60 ∧ Q (.bl true) H) := by
  intro pins s σ H x y v u Q I rx ry h
  obtain ⟨a, b, xs, ys, n, rfl, rfl, ha, hb, hl, dq, hn, q⟩ := h
  cases rx
  cases ry
  obtain ⟨its, r1, p1, _⟩ := I.list ha
  obtain ⟨its2, r2, p2, _⟩ := I.list hb
  have l1 := r1.length
  have l2 := r2.length
  refine SeqAt.RcAt.lists (e := fun _ => true) p1.isList p2.isList (by rw [List.size_toArray, List.size_toArray, ← l1, ← l2, hl]) (by omega) (fun j h1 h2 => ?_) X.prog X.w X.xe _ ?_
  · have h1' : j < its.length := by simpa using h1
    have h2' : j < its2.length := by simpa using h2
    obtain ⟨x, hx, rx⟩ := r1.at_of h1'
    obtain ⟨y, hy, ry⟩ := r2.at_of h2'
    have := (dq j x y hx hy).eqAt I (A := X.A.in1) rx ry (by show X.A.in1.units + n < cLine; simp; omega)
    simpa using this
  · have e : (List.range its.toArray.size).all (fun _ => true) = true := by
      simp
    rw [e]
    exact ⟨.bl true, H, I, rfl, q⟩
theorem op_neDL (hu : X.A.units + 64 < cLine) : OpR X (compareOp .NotEq) (fun x y H Q => ∃ a b xs ys n, x = .ref a ∧ y = .ref b ∧ SqL X.K H a xs ∧ SqL X.K H b ys ∧ xs.length = ys.length ∧ (∀ (j : Nat) (x y : V), xs[j]? = some x → ys[j]? = some y → Dq X.K H n x y) ∧ n ≤ 60 ∧ Q (.bl false) H) := by
  intro pins s σ H x y v u Q I rx ry h
  obtain ⟨a, b, xs, ys, n, rfl, rfl, ha, hb, hl, dq, hn, q⟩ := h
  cases rx
  cases ry
  obtain ⟨its, r1, p1, _⟩ := I.list ha
  obtain ⟨its2, r2, p2, _⟩ := I.list hb
  have l1 := r1.length
  have l2 := r2.length
  refine SeqAt.RcNeAt.lists (e := fun _ => true) p1.isList p2.isList (by rw [List.size_toArray, List.size_toArray, ← l1, ← l2, hl]) (by omega) (fun j h1 h2 => ?_) X.prog X.w X.xe _ ?_
  · have h1' : j < its.length := by simpa using h1
    have h2' : j < its2.length := by simpa using h2
    obtain ⟨x, hx, rx⟩ := r1.at_of h1'
    obtain ⟨y, hy, ry⟩ := r2.at_of h2'
    have := (dq j x y hx hy).eqAt I (A := X.A.in1) rx ry (by show X.A.in1.units + n < cLine; simp; omega)
    simpa using this
  · have e : (!(List.range its.toArray.size).all (fun _ => true)) = false := by
      simp
    rw [e]
    exact ⟨.bl false, H, I, rfl, q⟩
theorem op_eqDT (hu : X.A.units + 64 < cLine) : OpR X (compareOp .Eq) (fun x y H Q => ∃ a b xs ys n, x = .ref a ∧ y = .ref b ∧ SqT X.K H a xs ∧ SqT X.K H b ys ∧ xs.length = ys.length ∧ (∀ (j : Nat) (x y : V), xs[j]? = some x → ys[j]? = some y → Dq X.K H n x y) ∧ n ≤ 60 ∧ Q (.bl true) H) := by
  intro pins s σ H x y v u Q I rx ry h
  obtain ⟨a, b, xs, ys, n, rfl, rfl, ha, hb, hl, dq, hn, q⟩ := h
  cases rx
  cases ry
  obtain ⟨its, r1, p1, _⟩ := I.tuple ha
  obtain ⟨its2, r2, p2, _⟩ := I.tuple hb
  have l1 := r1.length
  have l2 := r2.length
  refine SeqAt.RcAt.tuples (e := fun _ => true) p1 p2 (by omega) (fun j h1 h2 => ?_) X.prog X.w X.xe _ ?_
  · have h1' : j < its.length := by simpa using h1
    have h2' : j < its2.length := by simpa using h2
    obtain ⟨x, hx, rx⟩ := r1.at_of h1'
    obtain ⟨y, hy, ry⟩ := r2.at_of h2'
    have := (dq j x y hx hy).eqAt I (A := X.A.in1) rx ry (by show X.A.in1.units + n < cLine; simp; omega)
    simpa using this
  · have e : ((List.range (min its.toArray.size its2.toArray.size)).all (fun _ => true) && its.toArray.size == its2.toArray.size) = true := by
      rw [List.size_toArray, List.size_toArray, ← l1, ← l2, hl]; simp
    rw [e]
    exact ⟨.bl true, H, I, rfl, q⟩
theorem op_neDT (hu : X.A.units + 64 < cLine) : OpR X (compareOp .NotEq) (fun x y H Q => ∃ a b xs ys n, x = .ref a ∧ y = .ref b ∧ SqT X.K H a xs ∧ SqT X.K H b ys ∧ xs.length = ys.length ∧ (∀ (j : Nat) (x y : V), xs[j]? = some x → ys[j]? = some y → Dq X.K H n x y) ∧ n ≤ 60 ∧ Q (.bl false) H) := by
  intro pins s σ H x y v u Q I rx ry h
  obtain ⟨a, b, xs, ys, n, rfl, rfl, ha, hb, hl, dq, hn, q⟩ := h
  cases rx
  cases ry
  obtain ⟨its, r1, p1, _⟩ := I.tuple ha
  obtain ⟨its2, r2, p2, _⟩ := I.tuple hb
  have l1 := r1.length
  have l2 := r2.length
  refine SeqAt.RcNeAt.tuples (e := fun _ => true) p1 p2 (by omega) (fun j h1 h2 => ?_) X.prog X.w X.xe _ ?_
  · have h1' : j < its.length := by simpa using h1
    have h2' : j < its2.length := by simpa using h2
    obtain ⟨x, hx, rx⟩ := r1.at_of h1'
    obtain ⟨y, hy, ry⟩ := r2.at_of h2'
    have := (dq j x y hx hy).eqAt I (A := X.A.in1) rx ry (by show X.A.in1.units + n < cLine; simp; omega)
    simpa using this
  · have e : (!((List.range (min its.toArray.size its2.toArray.size)).all (fun _ => true) && its.toArray.size == its2.toArray.size)) = false := by
      rw [List.size_toArray, List.size_toArray, ← l1, ← l2, hl]; simp
    rw [e]
    exact ⟨.bl false, H, I, rfl, q⟩
end
end L2

namespace L2
open PySem PyProof.Rows
/-! a def whose scope is given as a datum: a big body is walked but once -/
theorem okS {P : Program} {w : World} {K : PySem.W.Frag} {mg : Str → Option Value} {base : Heap} {x qual : Str} {st : Stmt} {f : Addr} {fd : FuncData} {N ps : List Str} {k : Nat} {sp : Sp} (sc : Scope) (hsc : defScope st = sc) (F : Fun K x qual st f fd) (S : FnScope N ps sc) (len : ∀ vs H Q E, sp vs H Q E → vs.length = ps.length)
    (hbody : ∀ (cdv : Value) (A : Around) (outer : List Env) (s : Shared) (H : Hp) (vs : List V) (Q : VK) (E : XK), Room k (A.deeper (envOfC qual sc s.heap.objs.size f cdv)) → sp vs H Q E →
      ∃ t, PSs (cxOf CX0 P w K mg base N qual sc f cdv A outer s H E).nox (defBody st) t ∧ t { nx := fun _ H' => Q .non H', rt := Q } (start N vs) H) : FnOk P w K mg base CX0 (k + 1) f fd ps sp := by
  subst hsc
  exact F.ok S len hbody
end L2

namespace HT
open PySem PySem.Spec PyProof.Rows
section
variable {prog : Program} {w : World} {A : Around} {E : Value → Shared → Prop} {s : Shared}
/-- the whole of a tuple, cut, is the tuple itself -/
theorem getItem_tuple_whole {t sl : Addr} {items : Array Value} {vl vu : Value} {lo hi : Option Int} {Q : Value → Shared → Prop} (ht : IsTup s.heap t items) (hs : s.heap.IsSliceOf sl vl vu .none) (pl : IsPart vl lo) (pu : IsPart vu hi)
    (hw : sIx items.size 0 lo = 0 ∧ sIx items.size items.size hi = items.size) (h : Q (.ref t) s) : wpAny (model prog w) A (getItem (.ref t) (.ref sl)) Q E s := by
  obtain ⟨os, hos, hcs, hds⟩ := id hs
  have hTs : s.TypeIs (.ref sl) "slice" := ⟨os, hos, hcs⟩
  unfold getItem
  try with_reducible refine wpAny_holding ?_
  first | refine wpAny_bind (wpAny_pure ?_) | skip
  refine wpAny_bind (wpAny_sequenceKey ht.typeIs (by decide) ?_)
  refine wpAny_bind (wpAny_callSpecial?_slot (name := Str.ofString "__getitem__") ht.typeIs PyProof.Rows.slot_tuple_getitem
    (wpAny_call_entry PyProof.Rows.slot_tuple_getitem ht.typeIs entry_tuple_getitem ?_ (args_tuple_getitem _ _)))
  show wpAny _ _ (Builtin.Tuple.tupleItemsOf (.ref t) >>= _) _ _ s
  refine wpAny_bind (tupleItemsOf_ ht ?_)
  refine wpAny_bind (wpAny_typeOf hTs ?_)
  rw [if_pos (by decide)]
  refine wpAny_bind (sliceApplied_gen hs pl pu ?_)
  have hyes : (((sIx items.size 0 lo : Nat) : Int) == 0 && (1 : Int) == 1 && (sIx items.size items.size hi - sIx items.size 0 lo) == items.size) = true := by
    rw [hw.1, hw.2]
    simp
  show wpAny _ _ (if (((sIx items.size 0 lo : Nat) : Int) == 0 && (1 : Int) == 1 && (sIx items.size items.size hi - sIx items.size 0 lo) == items.size) = true then _ else _) _ _ s
  rw [if_pos hyes]
  have hx : wpAny (model prog w) A.in1 (Builtin.Tuple.tupleIsExact (Value.ref t)) (fun b s' => b = true ∧ s' = s) (fun _ _ => False) s := by
    unfold Builtin.Tuple.tupleIsExact
    exact wpAny_bind (wpAny_typeOf ht.typeIs (wpAny_pure ⟨by decide, rfl⟩))
  refine wpAny_bind (wpAny_mono hx (fun b s' ⟨e1, e2⟩ => ?_) (fun _ _ z => z.elim))
  subst e1 e2
  rw [if_pos rfl]
  exact wpAny_bind (wpAny_rule (wpAny_pure ⟨_, rfl, wpAny_pure h⟩))
end
end HT
namespace L2
open PySem PySem.Spec PyProof.Rows
section
variable {X : Cx}
/-- t[lo:hi], be it the whole or not -/
def rSlA (K : PySem.W.Frag) : V → Option Int → Option Int → Hp → VK → Prop := fun x lo hi H Q => ∃ a xs, x = .ref a ∧ SqT K H a xs ∧
  ((HT.sIx xs.length 0 lo = 0 ∧ HT.sIx xs.length xs.length hi = xs.length) → Q (.ref a) H) ∧ (¬ (HT.sIx xs.length 0 lo = 0 ∧ HT.sIx xs.length xs.length hi = xs.length) → ∀ p, H p = none → Q (.ref p) (upd H p (.tup (cutV xs lo hi))))
theorem sl_tupA : SlR X (rSlA X.K) := by
  intro pins s σ H x v vl vu lo hi sl Q I rx hs pl pu h
  obtain ⟨a, xs, rfl, hx, h1, h2⟩ := h
  by_cases hw : HT.sIx xs.length 0 lo = 0 ∧ HT.sIx xs.length xs.length hi = xs.length
  · cases rx
    obtain ⟨its, r, ht, hz⟩ := I.tuple hx
    have hlen : its.toArray.size = xs.length := by rw [List.size_toArray]; exact r.length.symm
    refine ⟨"tuple", _, PyProof.Rows.slot_tuple_getitem.lookup, ht.typeIs, ?_⟩
    exact HT.getItem_tuple_whole ht hs pl pu (by rw [hlen]; exact hw) ⟨.ref a, _, I, rfl, h1 hw⟩
  · exact sl_tup pins s σ H _ v vl vu lo hi sl Q I rx hs pl pu ⟨a, xs, rfl, hx, hw, h2 hw⟩
end
end L2

namespace L2
open PySem
/-! tuples of texts, alike or not -/
theorem map_str_inj : ∀ {a b : List Str}, a.map V.str = b.map V.str → a = b
  | [], [], _ => rfl
  | [], _ :: _, h => by simp at h
  | _ :: _, [], h => by simp at h
  | x :: a, y :: b, h => by
    rw [List.map_cons, List.map_cons] at h
    injection h with h1 h2
    injection h1 with h1
    rw [h1, map_str_inj h2]
theorem words_all (a b : List Str) : ((List.range (min a.length b.length)).all (fun j => decide (a[j]? = b[j]?)) && a.length == b.length) = decide (a = b) := by
  rw [Bool.eq_iff_iff, Bool.and_eq_true, List.all_eq_true, decide_eq_true_iff, beq_iff_eq]
  constructor
  · rintro ⟨h1, h2⟩
    apply List.ext_getElem?
    intro j
    by_cases hj : j < a.length
    · exact of_decide_eq_true (h1 j (List.mem_range.mpr (by omega)))
    · rw [List.getElem?_eq_none (by omega), List.getElem?_eq_none (by omega)]
  · rintro rfl
    exact ⟨fun j _ => decide_eq_true rfl, rfl⟩
section
variable {X : Cx} {pins : List (Addr × Obj)} {σ : St} {H : Hp} {s : Shared}
theorem words_item (I : Inv X pins σ H s) {a b : List Str} {us vs : List Value} (ra : Vals (a.map V.str) us) (rb : Vals (b.map V.str) vs) {A : Around} (j : Nat) (h1 : j < us.length) (h2 : j < vs.length) : SeqAt.EqAt A s us[j] vs[j] (decide (a[j]? = b[j]?)) := by
  obtain ⟨x, hx, rx⟩ := ra.at_of h1
  obtain ⟨y, hy, ry⟩ := rb.at_of h2
  rw [List.getElem?_map] at hx hy
  cases ea : a[j]? with
  | none => rw [ea] at hx; cases hx
  | some xa =>
    cases eb : b[j]? with
    | none => rw [eb] at hy; cases hy
    | some yb =>
      rw [ea] at hx
      rw [eb] at hy
      obtain rfl := Option.some.inj hx
      obtain rfl := Option.some.inj hy
      have := eqAt_V (A := A) (s := s) rx ry rfl rfl
      have e : eqV (V.str xa) (V.str yb) = decide (some xa = some yb) := by
        show (xa == yb) = _
        rw [Bool.eq_iff_iff, beq_iff_eq, decide_eq_true_iff]
        exact ⟨fun z => by rw [z], fun z => Option.some.inj z⟩
      rw [e] at this
      exact this
theorem words_rc (I : Inv X pins σ H s) {p q : Addr} {a b : List Str} (ha : SqT X.K H p (a.map V.str)) (hb : SqT X.K H q (b.map V.str)) {A : Around} (hu : A.units < cLine) : SeqAt.RcAt A s (.ref p) (.ref q) (decide (a = b)) ∧ SeqAt.RcNeAt A s (.ref p) (.ref q) (!decide (a = b)) := by
  obtain ⟨its, r1, p1, _⟩ := I.tuple ha
  obtain ⟨its2, r2, p2, _⟩ := I.tuple hb
  have l1 := r1.length
  have l2 := r2.length
  rw [List.length_map] at l1 l2
  have it : ∀ j (h1 : j < its.toArray.size) (h2 : j < its2.toArray.size), SeqAt.EqAt A.in1 s its.toArray[j] its2.toArray[j] (decide (a[j]? = b[j]?)) := fun j h1 h2 => by
    have := words_item I r1 r2 (A := A.in1) j (by simpa using h1) (by simpa using h2)
    simpa using this
  have e : ((List.range (min its.toArray.size its2.toArray.size)).all (fun j => decide (a[j]? = b[j]?)) && its.toArray.size == its2.toArray.size) = decide (a = b) := by
    rw [List.size_toArray, List.size_toArray, ← l1, ← l2]
    exact words_all a b
  have z1 := SeqAt.RcAt.tuples (A := A) (s := s) (e := fun j => decide (a[j]? = b[j]?)) p1 p2 hu it
  have z2 := SeqAt.RcNeAt.tuples (A := A) (s := s) (e := fun j => decide (a[j]? = b[j]?)) p1 p2 hu it
  rw [e] at z1 z2
  exact ⟨z1, z2⟩
end
section
variable {X : Cx}
theorem op_eqW (hu : X.A.units + 64 < cLine) : OpR X (compareOp .Eq) (fun x y H Q => ∃ (p q : Addr) (a b : List Str), x = .ref p ∧ y = .ref q ∧ SqT X.K H p (a.map V.str) ∧ SqT X.K H q (b.map V.str) ∧ Q (.bl (decide (a = b))) H) := by
  intro pins s σ H x y v u Q I rx ry h
  obtain ⟨p, q, a, b, rfl, rfl, ha, hb, k⟩ := h
  cases rx
  cases ry
  exact (words_rc I ha hb (by omega)).1 X.prog X.w X.xe _ ⟨.bl _, H, I, rfl, k⟩
theorem op_neW (hu : X.A.units + 64 < cLine) : OpR X (compareOp .NotEq) (fun x y H Q => ∃ (p q : Addr) (a b : List Str), x = .ref p ∧ y = .ref q ∧ SqT X.K H p (a.map V.str) ∧ SqT X.K H q (b.map V.str) ∧ Q (.bl (!decide (a = b))) H) := by
  intro pins s σ H x y v u Q I rx ry h
  obtain ⟨p, q, a, b, rfl, rfl, ha, hb, k⟩ := h
  cases rx
  cases ry
  exact (words_rc I ha hb (by omega)).2 X.prog X.w X.xe _ ⟨.bl _, H, I, rfl, k⟩
/-- two pairs of tuples of texts -/
theorem op_neWW (hu : X.A.units + 64 < cLine) : OpR X (compareOp .NotEq) (fun x y H Q => ∃ (p q p1 p2 q1 q2 : Addr) (a1 a2 b1 b2 : List Str), x = .ref p ∧ y = .ref q ∧ H p = some (.tup [.ref p1, .ref p2]) ∧ H q = some (.tup [.ref q1, .ref q2]) ∧ H p1 = some (.tup (a1.map V.str)) ∧ H p2 = some (.tup (a2.map V.str)) ∧ H q1 = some (.tup (b1.map V.str)) ∧ H q2 = some (.tup (b2.map V.str)) ∧ Q (.bl (!(decide (a1 = b1) && decide (a2 = b2)))) H) := by
  intro pins s σ H x y v u Q I rx ry h
  obtain ⟨p, q, p1, p2, q1, q2, a1, a2, b1, b2, rfl, rfl, hp, hq, hp1, hp2, hq1, hq2, k⟩ := h
  cases rx
  cases ry
  have one : ∀ {c d : Addr} {a b : List Str}, H c = some (.tup (a.map V.str)) → H d = some (.tup (b.map V.str)) → SeqAt.EqAt X.A.in1 s (.ref c) (.ref d) (decide (a = b)) := fun {c d a b} hc hd => by
    by_cases e : c = d
    · subst e
      rw [hc] at hd
      injection hd with hd
      injection hd with hd
      rw [decide_eq_true (map_str_inj hd)]
      exact SeqAt.EqAt.same _
    · exact SeqAt.EqAt.of_refs e (words_rc I (SqT.of hc) (SqT.of hd) (A := X.A.in1) (by simp; omega)).1
  obtain ⟨its, r1, pl1, _⟩ := I.tuple (SqT.of hp)
  obtain ⟨its2, r2, pl2, _⟩ := I.tuple (SqT.of hq)
  cases r1 with
  | cons x1 t1 => cases t1 with
    | cons x2 t2 => cases t2 with
      | nil => cases r2 with
        | cons y1 t1 => cases t1 with
          | cons y2 t2 => cases t2 with
            | nil =>
              cases x1
              cases x2
              cases y1
              cases y2
              have z := SeqAt.RcNeAt.tuples (A := X.A) (s := s) (e := fun j => if j = 0 then decide (a1 = b1) else decide (a2 = b2)) pl1 pl2 (by omega) (fun j h1 h2 => by
                have hj : j = 0 ∨ j = 1 := by
                  have : j < 2 := h1
                  omega
                rcases hj with rfl | rfl
                · exact one hp1 hq1
                · exact one hp2 hq2)
              have e : (!((List.range (min 2 2)).all (fun j => if j = 0 then decide (a1 = b1) else decide (a2 = b2)) && (2 : Nat) == 2)) = (!(decide (a1 = b1) && decide (a2 = b2))) := by
                cases decide (a1 = b1) <;> cases decide (a2 = b2) <;> rfl
              have z' : SeqAt.RcNeAt X.A s (.ref p) (.ref q) (!(decide (a1 = b1) && decide (a2 = b2))) := by
                rw [← e]
                exact z
              exact z' X.prog X.w X.xe _ ⟨.bl _, H, I, rfl, k⟩
/-- two pairs of tuples of texts, alike -/
theorem op_eqWW (hu : X.A.units + 64 < cLine) : OpR X (compareOp .Eq) (fun x y H Q => ∃ (p q p1 p2 q1 q2 : Addr) (a1 a2 b1 b2 : List Str), x = .ref p ∧ y = .ref q ∧ H p = some (.tup [.ref p1, .ref p2]) ∧ H q = some (.tup [.ref q1, .ref q2]) ∧ H p1 = some (.tup (a1.map V.str)) ∧ H p2 = some (.tup (a2.map V.str)) ∧ H q1 = some (.tup (b1.map V.str)) ∧ H q2 = some (.tup (b2.map V.str)) ∧ Q (.bl (decide (a1 = b1) && decide (a2 = b2))) H) := by
  intro pins s σ H x y v u Q I rx ry h
  obtain ⟨p, q, p1, p2, q1, q2, a1, a2, b1, b2, rfl, rfl, hp, hq, hp1, hp2, hq1, hq2, k⟩ := h
  cases rx
  cases ry
  have one : ∀ {c d : Addr} {a b : List Str}, H c = some (.tup (a.map V.str)) → H d = some (.tup (b.map V.str)) → SeqAt.EqAt X.A.in1 s (.ref c) (.ref d) (decide (a = b)) := fun {c d a b} hc hd => by
    by_cases e : c = d
    · subst e
      rw [hc] at hd
      injection hd with hd
      injection hd with hd
      rw [decide_eq_true (map_str_inj hd)]
      exact SeqAt.EqAt.same _
    · exact SeqAt.EqAt.of_refs e (words_rc I (SqT.of hc) (SqT.of hd) (A := X.A.in1) (by simp; omega)).1
  obtain ⟨its, r1, pl1, _⟩ := I.tuple (SqT.of hp)
  obtain ⟨its2, r2, pl2, _⟩ := I.tuple (SqT.of hq)
  cases r1 with
  | cons x1 t1 => cases t1 with
    | cons x2 t2 => cases t2 with
      | nil => cases r2 with
        | cons y1 t1 => cases t1 with
          | cons y2 t2 => cases t2 with
            | nil =>
              cases x1
              cases x2
              cases y1
              cases y2
              have z := SeqAt.RcAt.tuples (A := X.A) (s := s) (e := fun j => if j = 0 then decide (a1 = b1) else decide (a2 = b2)) pl1 pl2 (by omega) (fun j h1 h2 => by
                have hj : j = 0 ∨ j = 1 := by
                  have : j < 2 := h1
                  omega
                rcases hj with rfl | rfl
                · exact one hp1 hq1
                · exact one hp2 hq2)
              have e : ((List.range (min 2 2)).all (fun j => if j = 0 then decide (a1 = b1) else decide (a2 = b2)) && (2 : Nat) == 2) = (decide (a1 = b1) && decide (a2 = b2)) := by
                cases decide (a1 = b1) <;> cases decide (a2 = b2) <;> rfl
              have z' : SeqAt.RcAt X.A s (.ref p) (.ref q) (decide (a1 = b1) && decide (a2 = b2)) := by
                rw [← e]
                exact z
              exact z' X.prog X.w X.xe _ ⟨.bl _, H, I, rfl, k⟩
end
end L2

namespace L2
open PySem
/-! two lists of numbers of rooms: alike or not -/
section
variable {X : Cx}
theorem eqAt_nats {A : Around} {s : Shared} : ∀ {as bs : List Nat} {us vs : List Value}, Vals (as.map fun j : Nat => V.int (j : Int)) us → Vals (bs.map fun j : Nat => V.int (j : Int)) vs → ∀ (j : Nat) (h1 : j < us.length) (h2 : j < vs.length), SeqAt.EqAt A s us[j] vs[j] (decide (as[j]? = bs[j]?))
  | [], _, _, _, .nil, _, j, h1, _ => absurd h1 (Nat.not_lt_zero _)
  | _ :: _, [], _, _, _, .nil, j, _, h2 => absurd h2 (Nat.not_lt_zero _)
  | a :: as, b :: bs, u :: us, v :: vs, .cons r t, .cons r' t', j, h1, h2 => by
    cases j with
    | zero =>
      have := eqAt_V (A := A) (s := s) r r' rfl rfl
      have e : eqV (.int (a : Int)) (.int (b : Int)) = decide ((a :: as)[0]? = (b :: bs)[0]?) := by
        show ((a : Int) == (b : Int)) = _
        rw [Bool.eq_iff_iff, decide_eq_true_iff]
        simp
        omega
      rw [e] at this
      exact this
    | succ j => exact eqAt_nats t t' j (Nat.lt_of_succ_lt_succ h1) (Nat.lt_of_succ_lt_succ h2)
theorem all_eq {as bs : List Nat} (hl : as.length = bs.length) : (List.range as.length).all (fun j => decide (as[j]? = bs[j]?)) = decide (as = bs) := by
  rw [Bool.eq_iff_iff, decide_eq_true_iff, List.all_eq_true]
  constructor
  · intro h
    apply List.ext_getElem?
    intro i
    by_cases c : i < as.length
    · exact of_decide_eq_true (h i (List.mem_range.mpr c))
    · rw [List.getElem?_eq_none (by omega), List.getElem?_eq_none (by omega)]
  · intro h j _
    rw [h]
    exact decide_eq_true rfl
theorem op_eqN (hu : X.A.units < cLine) : OpR X (compareOp .Eq) (fun x y H Q => ∃ (a b : Addr) (as bs : List Nat), x = .ref a ∧ y = .ref b ∧ SqL X.K H a (as.map fun j : Nat => V.int (j : Int)) ∧ SqL X.K H b (bs.map fun j : Nat => V.int (j : Int)) ∧ Q (.bl (decide (as = bs))) H) := by
  intro pins s σ H x y v u Q I rx ry h
  obtain ⟨a, b, as, bs, rfl, rfl, ha, hb, q⟩ := h
  cases rx
  cases ry
  obtain ⟨its, r1, p1, _⟩ := I.list ha
  obtain ⟨its2, r2, p2, _⟩ := I.list hb
  have l1 := r1.length
  have l2 := r2.length
  rw [List.length_map] at l1 l2
  by_cases hl : as.length = bs.length
  · refine SeqAt.RcAt.lists (e := fun j => decide (as[j]? = bs[j]?)) p1.isList p2.isList (by rw [List.size_toArray, List.size_toArray]; omega) hu (fun j h1 h2 => ?_) X.prog X.w X.xe _ ?_
    · have := eqAt_nats (A := X.A.in1) (s := s) r1 r2 j (by simpa using h1) (by simpa using h2)
      simpa using this
    · rw [List.size_toArray, ← l1, all_eq hl]
      exact ⟨.bl _, H, I, rfl, q⟩
  · refine SeqAt.RcAt.lists_lengths p1.isList p2.isList (by rw [List.size_toArray, List.size_toArray]; simp; omega) hu X.prog X.w X.xe _ ?_
    rw [decide_eq_false (fun e => hl (by rw [e]))] at q
    exact ⟨.bl _, H, I, rfl, q⟩
/-- of two lists of the same flat items: they are not unlike -/
theorem op_neL (hu : X.A.units < cLine) : OpR X (compareOp .NotEq) (fun x y H Q => ∃ a b xs, x = .ref a ∧ y = .ref b ∧ SqL X.K H a xs ∧ SqL X.K H b xs ∧ xs.all flatV = true ∧ Q (.bl false) H) := by
  intro pins s σ H x y v u Q I rx ry h
  obtain ⟨a, b, xs, rfl, rfl, ha, hb, f, q⟩ := h
  cases rx
  cases ry
  obtain ⟨its, r1, p1, _⟩ := I.list ha
  obtain ⟨its2, r2, p2, _⟩ := I.list hb
  have l1 := r1.length
  have l2 := r2.length
  refine SeqAt.RcNeAt.lists (e := fun _ => true) p1.isList p2.isList (by rw [List.size_toArray, List.size_toArray, ← l1, ← l2]) hu (fun j h1 h2 => ?_) X.prog X.w X.xe _ ?_
  · have := eqAt_two (A := X.A.in1) (s := s) r1 r2 f j (by simpa using h1) (by simpa using h2)
    simpa using this
  · have e : (!(List.range its.toArray.size).all (fun _ => true)) = false := by simp
    rw [e]
    exact ⟨.bl false, H, I, rfl, q⟩
end
end L2

namespace PySem
/-! keys of a dict that are tuples of tuples: kinds of values, put together -/
structure VFam (prog : Program) (w : World) (K : Type) [DecidableEq K] (d : Nat) where
  has : Nat → Heap → K → Value → Prop
  hsh : K → Int
  drw : K → Nat
  one : ∀ {i : Nat} {h : Heap} {v : Value} {x y : K}, has i h x v → has i h y v → x = y
  stay : ∀ {i : Nat} {h h' : Heap} {v : Value} {x : K}, has i h x v → (∀ a o its n, h.get? a = some o → o.data = .seq its n → h'.get? a = some o) → has i h' x v
  hashed : ∀ {i : Nat} {A : Around} {E : Value → Shared → Prop} {s : Shared} {x : K} {v : Value} {Q : Int → Shared → Prop}, A.units + d < cLine → has i s.heap x v → Q (hsh x) { s with toks := s.toks + drw x } → wpAny (model prog w) A (pyHash v) Q E s
  same : ∀ {i : Nat} {A : Around} {E : Value → Shared → Prop} {s : Shared} {x y : K} {u v : Value} {Q : Bool → Shared → Prop}, A.units + d < cLine → has i s.heap x u → has i s.heap y v → Q (decide (x = y)) s → wpAny (model prog w) A (eqBool u v) Q E s
  still : ∀ {i : Nat} {A : Around} {E : Value → Shared → Prop} {s : Shared} {x : K} {v : Value} {Q : Bool → Shared → Prop} (n : Nat), d ≤ n → has i s.heap x v → Q true s → wpAny (model prog w) A (eqIsQuiet n v) Q E s
/-- numbers and texts -/
def VFam.leaf {prog : Program} {w : World} {K : Type} [DecidableEq K] (knd : KeyKind prog w K) : VFam prog w K 0 where
  has := fun _ _ k v => knd.is k v = true
  hsh := knd.hash
  drw := fun _ => 1
  one := fun hx hy => knd.inj _ _ _ hx hy
  stay := fun hx _ => hx
  hashed := fun _ hx q => knd.pyHash hx q
  same := fun _ hx hy q => knd.eqBool hx hy q
  still := fun n _ hx q => by
    rw [eqIsQuiet_byValue n (knd.byValue _ _ hx)]
    exact wpAny_pure q
/-- one kind at place 0, another at the places behind it -/
def VFam.two {prog : Program} {w : World} {K L : Type} [DecidableEq K] [DecidableEq L] {d : Nat} (F : VFam prog w K d) (G : VFam prog w L d) : VFam prog w (K ⊕ L) d where
  has := fun i h k v => match k with
    | .inl x => i = 0 ∧ F.has 0 h x v
    | .inr y => i ≠ 0 ∧ G.has i h y v
  hsh := fun k => match k with
    | .inl x => F.hsh x
    | .inr y => G.hsh y
  drw := fun k => match k with
    | .inl x => F.drw x
    | .inr y => G.drw y
  one := by
    rintro i h v (x | x) (y | y) ⟨e1, hx⟩ ⟨e2, hy⟩
    · rw [F.one hx hy]
    · exact absurd e1 e2
    · exact absurd e2 e1
    · rw [G.one hx hy]
  stay := by
    rintro i h h' v (x | x) ⟨e1, hx⟩ k
    · exact ⟨e1, F.stay hx k⟩
    · exact ⟨e1, G.stay hx k⟩
  hashed := by
    rintro i A E s (x | x) v Q hu ⟨e1, hx⟩ q
    · exact F.hashed hu hx q
    · exact G.hashed hu hx q
  same := by
    rintro i A E s (x | x) (y | y) u v Q hu ⟨e1, hx⟩ ⟨e2, hy⟩ q
    · refine F.same hu hx hy ?_
      rw [show decide (x = y) = decide ((Sum.inl x : K ⊕ L) = Sum.inl y) from decide_eq_decide.mpr ⟨fun z => by rw [z], fun z => Sum.inl.inj z⟩]
      exact q
    · exact absurd e1 e2
    · exact absurd e2 e1
    · refine G.same hu hx hy ?_
      rw [show decide (x = y) = decide ((Sum.inr x : K ⊕ L) = Sum.inr y) from decide_eq_decide.mpr ⟨fun z => by rw [z], fun z => Sum.inr.inj z⟩]
      exact q
  still := by
    rintro i A E s (x | x) v Q n hn ⟨e1, hx⟩ q
    · exact F.still n hn hx q
    · exact G.still n hn hx q
/-- the same kind, with more room -/
def VFam.up {prog : Program} {w : World} {K : Type} [DecidableEq K] {d : Nat} (F : VFam prog w K d) (e : Nat) (le : d ≤ e) : VFam prog w K e where
  has := F.has
  hsh := F.hsh
  drw := F.drw
  one := F.one
  stay := F.stay
  hashed := fun hu hx q => F.hashed (by omega) hx q
  same := fun hu hx hy q => F.same (by omega) hx hy q
  still := fun n hn hx q => F.still n (by omega) hx q
section
variable {prog : Program} {w : World} {K : Type} [DecidableEq K] {d : Nat} (F : VFam prog w K d)
inductive Its (h : Heap) : Nat → List K → List Value → Prop
  | nil {i : Nat} : Its h i [] []
  | cons {i : Nat} {k : K} {v : Value} {ks : List K} {vs : List Value} : F.has i h k v → Its h (i + 1) ks vs → Its h i (k :: ks) (v :: vs)
def TupV (h : Heap) (ks : List K) (v : Value) : Prop := ∃ a o its n, v = .ref a ∧ h.get? a = some o ∧ o.cls = .type "tuple" ∧ o.data = .seq its n ∧ Its F h 0 ks its.toList
variable {F}
theorem Its.one {h : Heap} {i : Nat} {x y : List K} {vs : List Value} (hx : Its F h i x vs) (hy : Its F h i y vs) : x = y := by
  induction hx generalizing y with
  | nil =>
    cases hy
    rfl
  | cons a _ ih =>
    cases hy with
    | cons b t => rw [F.one a b, ih t]
theorem Its.stay {h h' : Heap} {i : Nat} {x : List K} {vs : List Value} (hx : Its F h i x vs) (k : ∀ a o its n, h.get? a = some o → o.data = .seq its n → h'.get? a = some o) : Its F h' i x vs := by
  induction hx with
  | nil => exact .nil
  | cons a _ ih => exact .cons (F.stay a k) ih
def hshT (F : VFam prog w K d) (ks : List K) : Int := reduceHash (Builtin.Tuple.tupleHashOf (ks.map F.hsh))
def drwT (F : VFam prog w K d) (ks : List K) : Nat := (ks.map F.drw).sum + 1
variable {A : Around} {E : Value → Shared → Prop} {s : Shared}
theorem hashedT {ks : List K} {v : Value} {Q : Int → Shared → Prop} (hu : A.units + (d + 1) < cLine) (hk : TupV F s.heap ks v) (h : Q (hshT F ks) { s with toks := s.toks + drwT F ks }) : wpAny (model prog w) A (pyHash v) Q E s := by
  obtain ⟨a, o, its, n, rfl, ho, oc, od, hi⟩ := hk
  have ty : s.TypeIs (.ref a) "tuple" := ⟨o, ho, oc⟩
  unfold pyHash
  (first | unfold pyHashByItsType | skip)
  (first | refine wpAny_bind (wpAny_cRoomFor_or (.inr (by omega)) ?_) | skip)
  refine wpAny_bind (wpAny_specialOf ty PySem.F.slot_tuple_hash.lookup ?_)
  show wpAny _ _ (if (some (Value.builtin "tuple.__hash__") == some Value.none) = true then _ else _) Q E s
  rw [if_neg (by rw [beq_builtin_none]; simp)]
  refine wpAny_bind (wpAny_specialOf ty PySem.F.slot_tuple_hash.lookup ?_)
  show wpAny _ _ (callSpecialIfBoundUnlessNone? (Value.ref a) "__hash__" _ >>= _) Q E s
  refine wpAny_bind (wpAny_callSpecialIfBoundUnlessNone?_slot ty PySem.F.slot_tuple_hash (wpAny_call_entry PySem.F.slot_tuple_hash ty PySem.F.entry_tuple_hash ?_ (PySem.F.args_tuple_hash_1 _)))
  show wpAny _ _ (Builtin.Tuple.tupleItemsOf (Value.ref a) >>= _) _ _ s
  refine wpAny_bind (wpAny_tupleItemsOf ho od (wpAny_bind ?_))
  rw [← Array.forIn_toList]
  refine wpAny_forIn_list _
    (fun rest (b : Array Int) s' => ∃ i dn left, ks = dn ++ left ∧ Its F s.heap i left rest ∧ b.toList = dn.map F.hsh ∧ s' = { s with toks := s.toks + (dn.map F.drw).sum }) _ ?_ ?_ _ _ ⟨0, [], ks, rfl, hi, rfl, rfl⟩
  · rintro x rest b s' ⟨i, dn, left, rfl, hl, hb, rfl⟩
    cases hl with
    | @cons _ k _ ks' _ h1 hl' =>
      refine wpAny_bind (F.hashed (s := { s with toks := s.toks + (dn.map F.drw).sum }) (by show A.units + 1 + d < cLine; omega) h1 ?_)
      (first
        | exact wpAny_pure ⟨i + 1, dn ++ [k], ks', by simp, hl', by simp [hb], by simp [Nat.add_assoc]⟩
        | exact wpAny_bind (wpAny_pure (wpAny_pure ⟨i + 1, dn ++ [k], ks', by simp, hl', by simp [hb], by simp [Nat.add_assoc]⟩)))
  · rintro b s' ⟨i, dn, left, rfl, hl, hb, rfl⟩
    cases hl
    rw [List.append_nil] at h
    show wpAny _ _ (retInt (Builtin.Tuple.tupleHashOf b.toList)) _ _ _
    rw [hb]
    refine wpAny_ret_mkInt ?_
    show wpAny _ _ (if (decide (-(2 : Int) ^ 63 ≤ Builtin.Tuple.tupleHashOf (dn.map F.hsh)) && decide (Builtin.Tuple.tupleHashOf (dn.map F.hsh) < 2 ^ 63)) = true then _ else _) Q E _
    unfold hshT reduceHash drwT at h
    by_cases hr : (decide (-(2 : Int) ^ 63 ≤ Builtin.Tuple.tupleHashOf (dn.map F.hsh)) && decide (Builtin.Tuple.tupleHashOf (dn.map F.hsh) < 2 ^ 63)) = true
    · rw [if_pos hr] at h ⊢
      exact wpAny_pure (by simpa [Nat.add_assoc] using h)
    · rw [if_neg hr] at h ⊢
      exact wpAny_bind (wpAny_rule (wpAny_pure (by simpa [Nat.add_assoc] using h)))
theorem eq_treeT {x y : List K} {a b : Addr} {P : Fin → Shared → Prop} (hu : A.units + d < cLine) (hx : TupV F s.heap x (.ref a)) (hy : TupV F s.heap y (.ref b)) (h : P (.done (.ret (.bool (decide (x = y))))) s) : wpAny (model prog w) A (Builtin.«tuple.__eq__» ⟨[.ref a, .ref b], []⟩) P E s := by
  obtain ⟨a', oa, xs, na, ea, hoa, _, hda, hia⟩ := hx
  obtain ⟨b', ob, ys, nb, eb, hob, hcb, hdb, hib⟩ := hy
  cases ea
  cases eb
  have tb : s.TypeIs (.ref b) "tuple" := ⟨ob, hob, hcb⟩
  show wpAny _ _ (isInstance (Value.ref b) (.type "tuple") >>= _) _ _ s
  refine wpAny_bind (wpAny_isInstance tb isSubtype_tuple_tuple ?_)
  simp only [Bool.not_true, Bool.false_eq_true, if_false]
  refine wpAny_bind (wpAny_tupleItemsOf hoa hda (wpAny_bind (wpAny_tupleItemsOf hob hdb (wpAny_bind ?_))))
  refine wpAny_forIn_list _
    (fun rest r s' => r.1 = none ∧ s' = s ∧ ∃ i x' y' xs' ys', rest = List.zip xs' ys' ∧ Its F s.heap i x' xs' ∧ Its F s.heap i y' ys' ∧ decide (x' = y') = decide (x = y) ∧ (xs'.length == ys'.length) = (xs.size == ys.size))
    _ ?_ ?_ _ _ ⟨rfl, rfl, 0, x, y, xs.toList, ys.toList, rfl, hia, hib, rfl, by simp⟩
  · rintro ⟨u, v⟩ rest r s' ⟨hr, rfl, i, x', y', xs', ys', hz, hx', hy', hdec, hlen⟩
    cases hx' with
    | nil => simp at hz
    | @cons _ k1 u' x'' xs'' h1 hx'' =>
      cases hy' with
      | nil => simp at hz
      | @cons _ k2 v' y'' ys'' h2 hy'' =>
        simp only [List.zip_cons_cons, List.cons.injEq, Prod.mk.injEq] at hz
        obtain ⟨⟨rfl, rfl⟩, rfl⟩ := hz
        refine wpAny_bind (F.same (x := k1) (y := k2) hu h1 h2 ?_)
        by_cases hk : k1 = k2
        · subst hk
          rw [decide_eq_true rfl]
          simp only [Bool.not_true, Bool.false_eq_true, if_false]
          refine wpAny_pure ⟨rfl, rfl, i + 1, x'', y'', xs'', ys'', rfl, hx'', hy'', ?_, by simpa using hlen⟩
          rw [← hdec]
          by_cases hxy : x'' = y''
          · simp [hxy]
          · simp [hxy]
        · rw [decide_eq_false hk]
          simp only [Bool.not_false, if_true]
          have hf : decide (x = y) = false := by
            rw [← hdec]
            simp [hk]
          rw [hf] at h
          exact wpAny_bind (wpAny_pure (wpAny_pure (wpAny_pure h)))
  · rintro ⟨r1, r2⟩ s' ⟨hr, rfl, i, x', y', xs', ys', hz, hx', hy', hdec, hlen⟩
    simp only at hr
    subst hr
    refine wpAny_pure ?_
    have fin : (xs.size == ys.size) = decide (x = y) := by
      rw [← hdec, ← hlen]
      cases hx' with
      | nil =>
        cases hy' with
        | nil => simp
        | cons _ _ => simp
      | cons _ _ =>
        cases hy' with
        | nil => simp
        | cons _ _ => simp at hz
    show P (.done (.ret (.bool (xs.size == ys.size)))) s'
    rw [fin]
    exact h
theorem sameT {x y : List K} {u v : Value} {Q : Bool → Shared → Prop} (hu : A.units + (d + 1) < cLine) (hx : TupV F s.heap x u) (hy : TupV F s.heap y v) (h : Q (decide (x = y)) s) : wpAny (model prog w) A (eqBool u v) Q E s := by
  obtain ⟨a, oa, xs, na, rfl, hoa, hca, hda, hia⟩ := id hx
  obtain ⟨b, ob, ys, nb, rfl, hob, hcb, hdb, hib⟩ := id hy
  have ta : s.TypeIs (.ref a) "tuple" := ⟨oa, hoa, hca⟩
  have tb : s.TypeIs (.ref b) "tuple" := ⟨ob, hob, hcb⟩
  unfold eqBool
  (try with_reducible refine wpAny_holding ?_)
  show wpAny _ _ (if (Value.ref a == Value.ref b) = true then _ else _) Q E s
  by_cases hab : (Value.ref a == Value.ref b) = true
  · rw [if_pos hab]
    have e : a = b := by
      have := eq_of_beq hab
      injection this
    subst e
    rw [hoa] at hob
    cases hob
    rw [hda] at hdb
    cases hdb
    obtain rfl := hia.one hib
    exact wpAny_bind (wpAny_rule (wpAny_pure (by simpa using h)))
  · rw [if_neg hab]
    exact wpAny_bind (wpAny_richCompare_same_room (op := .Eq) ta tb PySem.F.slot_tuple_eq
      (wpAny_call_entry PySem.F.slot_tuple_eq ta PySem.F.entry_tuple_eq (eq_treeT (by show A.units + 1 + d < cLine; omega) hx hy ⟨_, rfl, (fun e => nomatch e), wpAny_truthy_bool h⟩) (PySem.F.args_tuple_eq_2 _ _)) (by omega))
theorem stillT {ks : List K} {v : Value} {Q : Bool → Shared → Prop} (n : Nat) (hn : d + 1 ≤ n) (hk : TupV F s.heap ks v) (h : Q true s) : wpAny (model prog w) A (eqIsQuiet n v) Q E s := by
  obtain ⟨a, o, its, m, rfl, ho, hc, hd, hi⟩ := hk
  have ty : s.TypeIs (.ref a) "tuple" := ⟨o, ho, hc⟩
  obtain ⟨n, rfl⟩ : ∃ k, n = k + 1 := ⟨n - 1, by omega⟩
  unfold eqIsQuiet
  refine wpAny_bind (wpAny_specialOf ty PySem.F.slot_tuple_eq.lookup ?_)
  show wpAny _ _ (isInstance (Value.ref a) (.type "tuple") >>= _) _ _ s
  refine wpAny_bind (wpAny_isInstance ty isSubtype_tuple_tuple ?_)
  simp only [Bool.not_true, Bool.false_eq_true, if_false]
  refine wpAny_bind (wpAny_seqItems ho hd (wpAny_bind ?_))
  show wpAny _ _ (forIn its _ _) _ _ s
  rw [← Array.forIn_toList]
  refine wpAny_forIn_list _ (fun rest r s' => r.1 = none ∧ s' = s ∧ ∃ i left, Its F s.heap i left rest) _ ?_ ?_ _ _ ⟨rfl, rfl, 0, ks, hi⟩
  · rintro v rest r s' ⟨hr, rfl, i, left, hl⟩
    cases hl with
    | @cons _ k _ ks' _ h1 hl' =>
      refine wpAny_bind (F.still n (by omega) h1 ?_)
      simp only [Bool.not_true, Bool.false_eq_true, if_false]
      exact wpAny_pure ⟨rfl, rfl, i + 1, ks', hl'⟩
  · rintro ⟨r1, r2⟩ s' ⟨hr, rfl, _⟩
    simp only at hr
    subst hr
    exact wpAny_pure h
theorem TupV.one {h : Heap} {v : Value} {x y : List K} (hx : TupV F h x v) (hy : TupV F h y v) : x = y := by
  obtain ⟨a, o, its, n, rfl, ho, _, hd, hi⟩ := hx
  obtain ⟨a', o', its', n', e, ho', _, hd', hi'⟩ := hy
  cases e
  rw [ho] at ho'
  cases ho'
  rw [hd] at hd'
  cases hd'
  exact hi.one hi'
/-- tuples of a kind -/
def VFam.tup (F : VFam prog w K d) : VFam prog w (List K) (d + 1) where
  has := fun _ h ks v => TupV F h ks v
  hsh := hshT F
  drw := drwT F
  one := fun hx hy => hx.one hy
  stay := fun hx k => by
    obtain ⟨a, o, its, n, e, ho, hc, hd, hi⟩ := hx
    exact ⟨a, o, its, n, e, k _ _ _ _ ho hd, hc, hd, hi.stay k⟩
  hashed := fun hu hx q => hashedT hu hx q
  same := fun hu hx hy q => sameT hu hx hy q
  still := fun n hn hx q => stillT n hn hx q
/-- .. as keys of a dict -/
def VFam.heap (F : VFam prog w K d) (le : d ≤ 8) : HeapKind prog w K where
  is := fun h k a => F.has 0 h k (.ref a)
  hash := F.hsh
  draws := F.drw
  room := fun A => A.units + d < cLine
  inj := fun hx hy => F.one hx hy
  keeps := fun hx ho hd hs => F.stay hx fun a o its n ha hs' => by
    refine (hs.2 a ?_).trans ha
    rintro rfl
    rw [ha] at ho
    cases ho
    rw [hs'] at hd
    exact nomatch hd
  pyHash := fun hu hx q => F.hashed hu hx q
  eqBool := fun hu hx hy q => F.same hu hx hy q
  quiet := fun hx q => F.still 8 le hx q
end
end PySem

namespace L2
open PySem PySem.Spec PyProof.Rows
/-! dicts whose keys are tuples of tuples -/
structure TFam (K : Type) [DecidableEq K] (d : Nat) where
  inn : Nat → Hp → K → V → Prop
  mono : ∀ {i : Nat} {H H' : Hp} {k : K} {v : V}, inn i H k v → (∀ b xs, H b = some (.tup xs) → H' b = some (.tup xs)) → inn i H' k v
  fam : ∀ (P : Program) (w : World), VFam P w K d
  ok : ∀ {P : Program} {w : World} {H : Hp} {h : Heap} {i : Nat} {k : K} {v : V} {u : Value}, HOk P w H h → inn i H k v → RelV v u → (fam P w).has i h k u
def TFam.leaf : TFam Key 0 where
  inn := fun _ _ k v => v = kV k
  mono := fun x _ => x
  fam := fun P w => VFam.leaf (mixKind P w)
  ok := fun _ x r => by
    subst x
    exact kV_is r
section
variable {K L : Type} [DecidableEq K] [DecidableEq L] {d : Nat}
def TFam.up (F : TFam K d) (e : Nat) (le : d ≤ e) : TFam K e where
  inn := F.inn
  mono := F.mono
  fam := fun P w => (F.fam P w).up e le
  ok := fun a b c => F.ok a b c
def TFam.two (F : TFam K d) (G : TFam L d) : TFam (K ⊕ L) d where
  inn := fun i H k v => match k with
    | .inl x => i = 0 ∧ F.inn 0 H x v
    | .inr y => i ≠ 0 ∧ G.inn i H y v
  mono := by
    rintro i H H' (k | k) v ⟨e, x⟩ h
    · exact ⟨e, F.mono x h⟩
    · exact ⟨e, G.mono x h⟩
  fam := fun P w => (F.fam P w).two (G.fam P w)
  ok := by
    rintro P w H h i (k | k) v u hk ⟨e, x⟩ r
    · exact ⟨e, F.ok hk x r⟩
    · exact ⟨e, G.ok hk x r⟩
inductive InnL (F : TFam K d) (H : Hp) : Nat → List K → List V → Prop
  | nil {i : Nat} : InnL F H i [] []
  | cons {i : Nat} {k : K} {v : V} {ks : List K} {vs : List V} : F.inn i H k v → InnL F H (i + 1) ks vs → InnL F H i (k :: ks) (v :: vs)
theorem InnL.mono {F : TFam K d} {H H' : Hp} {i : Nat} {ks : List K} {vs : List V} (x : InnL F H i ks vs) (h : ∀ b xs, H b = some (.tup xs) → H' b = some (.tup xs)) : InnL F H' i ks vs := by
  induction x with
  | nil => exact .nil
  | cons a _ ih => exact .cons (F.mono a h) ih
theorem InnL.ok {F : TFam K d} {P : Program} {w : World} {H : Hp} {h : Heap} (hk : HOk P w H h) {i : Nat} {ks : List K} {vs : List V} (x : InnL F H i ks vs) : ∀ {us : List Value}, Vals vs us → PySem.Its (F.fam P w) h i ks us := by
  induction x with
  | nil =>
    intro us r
    cases r
    exact .nil
  | cons a _ ih =>
    intro us r
    cases r with
    | cons r1 r2 => exact .cons (F.ok hk a r1) (ih r2)
def TFam.tup (F : TFam K d) : TFam (List K) (d + 1) where
  inn := fun _ H ks v => ∃ (a : Addr) (vs : List V), v = .ref a ∧ H a = some (.tup vs) ∧ InnL F H 0 ks vs
  mono := by
    rintro i H H' k v ⟨a, vs, e, h1, h2⟩ h
    exact ⟨a, vs, e, h _ _ h1, h2.mono h⟩
  fam := fun P w => (F.fam P w).tup
  ok := by
    rintro P w H h i k v u hk ⟨a, vs, rfl, h1, h2⟩ r
    cases (show u = Value.ref a from r)
    obtain ⟨_, its, rv, o, g1, g2, n, g3⟩ := (show ObjOk P w H h a (.tup vs) from hk a _ h1)
    exact ⟨a, o, its.toArray, n, rfl, g1, g2, g3, by simpa using h2.ok hk rv⟩
/-- the object: its keys' places, its values -/
def dnP (P : Program) (w : World) (F : TFam K d) (le : d ≤ 8) (a : Addr) (xs : List (K × Addr × V)) (h : Heap) : Prop :=
  xs.length ≤ sizeLine ∧ (a == sysModules) = false ∧ ∃ ys : List (K × Addr × Value), Paired (fun (p : K × Addr × V) (q : K × Addr × Value) => p.1 = q.1 ∧ p.2.1 = q.2.1 ∧ RelV p.2.2 q.2.2) xs ys ∧
    ∃ o es ep, h.get? a = some o ∧ o.ExactDict ∧ o.data = .dict es ep ∧ es.toList = ys.map (entryOfKey ((F.fam P w).heap le)) ∧ (ys.map (·.1)).Nodup
def DN (P : Program) (w : World) (F : TFam K d) (le : d ≤ 8) (H : Hp) (a : Addr) (kvs : List (K × V)) : Prop :=
  ∃ xs : List (K × Addr × V), kvs = xs.map (fun x => (x.1, x.2.2)) ∧ H a = some (.ext (dnP P w F le a xs)) ∧ ∀ x ∈ xs, F.inn 0 H x.1 (.ref x.2.1)
theorem DN.mono {P : Program} {w : World} {F : TFam K d} {le : d ≤ 8} {H H' : Hp} {a : Addr} {kvs : List (K × V)} (x : DN P w F le H a kvs) (h : ∀ b xs, H b = some (.tup xs) → H' b = some (.tup xs)) (e : H' a = H a) : DN P w F le H' a kvs := by
  obtain ⟨xs, h1, h2, h3⟩ := x
  exact ⟨xs, h1, by rw [e]; exact h2, fun y hy => F.mono (h3 y hy) h⟩
theorem DN.len {P : Program} {w : World} {F : TFam K d} {le : d ≤ 8} {H : Hp} {h : Heap} {a : Addr} {kvs : List (K × V)} (x : DN P w F le H a kvs) (hk : HOk P w H h) : kvs.length ≤ sizeLine := by
  obtain ⟨xs, h1, h2, h3⟩ := x
  obtain ⟨⟨z, _⟩, _⟩ := (show ObjOk P w H h a (.ext (dnP P w F le a xs)) from hk a _ h2)
  rw [h1, List.length_map]
  exact z
abbrev PRel (p : K × Addr × V) (q : K × Addr × Value) : Prop := p.1 = q.1 ∧ p.2.1 = q.2.1 ∧ RelV p.2.2 q.2.2
theorem prel_val {xs : List (K × Addr × V)} {ys : List (K × Addr × Value)} (r : Paired PRel xs ys) (k : K) : (valV (xs.map fun x => (x.1, x.2.2)) k = none ∧ atKey ys k = none) ∨ ∃ v p, valV (xs.map fun x => (x.1, x.2.2)) k = some v ∧ atKey ys k = some p ∧ RelV v p.2 := by
  induction r with
  | nil => exact .inl ⟨rfl, rfl⟩
  | @cons p q ps qs h _ ih =>
    obtain ⟨e1, e2, e3⟩ := h
    by_cases e : p.1 = k
    · refine .inr ⟨p.2.2, q.2, valV_pos (p := (p.1, p.2.2)) e, ?_, e3⟩
      unfold atKey
      rw [List.find?_cons, show decide (q.1 = k) = true from decide_eq_true (by rw [← e1]; exact e)]
      rfl
    · have e' : atKey (q :: qs) k = atKey qs k := by
        unfold atKey
        rw [List.find?_cons, show decide (q.1 = k) = false from decide_eq_false (by rw [← e1]; exact e)]
      rw [List.map_cons, valV_neg (p := (p.1, p.2.2)) e, e']
      exact ih
theorem DN.at {P : Program} {w : World} {F : TFam K d} {le : d ≤ 8} {H : Hp} {h : Heap} {a : Addr} {kvs : List (K × V)} (x : DN P w F le H a kvs) (hk : HOk P w H h) :
    ∃ (xs : List (K × Addr × V)) (ys : List (K × Addr × Value)), kvs = xs.map (fun x => (x.1, x.2.2)) ∧ H a = some (.ext (dnP P w F le a xs)) ∧ (∀ x ∈ xs, F.inn 0 H x.1 (.ref x.2.1)) ∧ xs.length ≤ sizeLine ∧ (a == sysModules) = false ∧ Paired PRel xs ys ∧ h.DictOfH ((F.fam P w).heap le) a ys := by
  obtain ⟨xs, h1, h2, h3⟩ := x
  obtain ⟨⟨z, y, ys, r, o, es, ep, g1, g2, g3, g4, g5⟩, _⟩ := (show ObjOk P w H h a (.ext (dnP P w F le a xs)) from hk a _ h2)
  refine ⟨xs, ys, h1, h2, h3, z, y, r, o, es, ep, g1, g2, g3, g4, ?_, g5⟩
  have all : ∀ {l : List (K × Addr × V)} {m : List (K × Addr × Value)}, Paired PRel l m → (∀ x ∈ l, F.inn 0 H x.1 (.ref x.2.1)) → ∀ x ∈ m, ((F.fam P w).heap le).is h x.1 x.2.1 := by
    intro l m q
    induction q with
    | nil => intro _ x hx; exact nomatch hx
    | @cons p q ps qs hq t ih =>
      intro hl x hx
      rcases List.mem_cons.mp hx with e | hx
      · subst e
        have := F.ok hk (hl p List.mem_cons_self) (show RelV (.ref p.2.1) (Value.ref p.2.1) from rfl)
        rw [hq.1, hq.2.1] at this
        exact this
      · exact ih (fun y hy => hl y (List.mem_cons_of_mem _ hy)) x hx
  exact all r h3
theorem dnP_stay {P : Program} {w : World} {F : TFam K d} {le : d ≤ 8} {a : Addr} {xs : List (K × Addr × V)} : ∀ h1 h2 : Heap, dnP P w F le a xs h1 → (∀ o, h1.get? a = some o → h2.get? a = some o) → dnP P w F le a xs h2 := by
  rintro h1 h2 ⟨z, y, ys, r, o, es, ep, g1, g⟩ k
  exact ⟨z, y, ys, r, o, es, ep, k _ g1, g⟩
theorem dn_obj {P : Program} {w : World} {F : TFam K d} {le : d ≤ 8} {H : Hp} {h : Heap} {a : Addr} {xs : List (K × Addr × V)} {ys : List (K × Addr × Value)} (z : xs.length ≤ sizeLine) (y : (a == sysModules) = false) (r : Paired PRel xs ys) (dd : h.DictOfH ((F.fam P w).heap le) a ys) : ObjOk P w H h a (.ext (dnP P w F le a xs)) := by
  obtain ⟨o, es, ep, g1, g2, g3, g4, _, g5⟩ := dd
  exact ⟨⟨z, y, ys, r, o, es, ep, g1, g2, g3, g4, g5⟩, ⟨o, g1⟩, dnP_stay⟩
end
section
variable {X : Cx} {K : Type} [DecidableEq K] {d : Nat} {F : TFam K d} {le : d ≤ 8}
/-- {} -/
def tNNew (P : Program) (w : World) (F : TFam K d) (le : d ≤ 8) : TE := fun _ H Q => ∀ p H', H p = none → H' = upd H p (.ext (dnP P w F le p [])) → DN P w F le H' p [] → Q (.ref p) H'
theorem pe_nnew {pos : Pos} (F : TFam K d) (le : d ≤ 8) : PE X (.Dict [] [] pos) (tNNew X.prog X.w F le) := fun pins s σ H Q I h =>
  wpAny_Dict_empty ⟨.ref s.heap.objs.size, _, I.laid (a := s.heap.objs.size) (o := .ext (dnP X.prog X.w F le s.heap.objs.size [])) (t' := s.toks) (fun _ _ q => Heap.get?_push_of_some _ q) (Nat.le_refl _) (dn_obj (ys := []) (Nat.zero_le _) (beq_eq_false_iff_ne.mpr (Ne.symm (Nat.ne_of_lt I.big))) .nil (Heap.DictOfH.new s.heap)), rfl, h _ _ (I.hok.fresh (Nat.le_refl _)) rfl ⟨[], rfl, upd_same, fun x hx => by cases hx⟩⟩
/-- d[y] -/
def tNGet (P : Program) (w : World) (F : TFam K d) (le : d ≤ 8) (td ty : TE) : TE := fun σ H Q => td σ H fun x H1 => ty σ H1 fun y H2 => ∃ (a b : Addr) (kvs : List (K × V)) (k : K) (v : V), x = .ref a ∧ y = .ref b ∧ DN P w F le H2 a kvs ∧ F.inn 0 H2 k (.ref b) ∧ valV kvs k = some v ∧ Q v H2
theorem pe_nget {o i : Expr} {pos : Pos} {td ty : TE} (hu : X.A.units + 64 < cLine) (F : TFam K d) (le : d ≤ 8) (ho : PE X o td) (hi : PE X i ty) (hs : NoSl i) : PE X (.Subscript o i pos) (tNGet X.prog X.w F le td ty) := by
  intro pins s σ H Q I h
  refine subD_of PySem.F.slot_dict_getitem.lookup hs (thn (ho pins s σ H _ I h) fun u s1 ⟨x, H1, I1, rx, q1⟩ => thn (hi pins s1 σ H1 _ I1 q1) fun iv s2 ⟨y, H2, I2, ry, a, b, kvs, k, v, ex, ey, D, hk, l, q2⟩ => ?_)
  subst ex
  subst ey
  obtain rfl : u = Value.ref a := rx
  obtain rfl : iv = Value.ref b := ry
  obtain ⟨xs, ys, e1, e2, e3, z, hd, r, dd⟩ := D.at I2.hok
  rcases prel_val r k with ⟨h1, _⟩ | ⟨v', p, h1, h2, h3⟩
  · rw [e1, h1] at l
    cases l
  · rw [e1, h1] at l
    cases l
    exact ⟨dd.typeIs, wpAny_getItem_heap (show X.A.units + 1 + d < cLine by omega) (F.ok I2.hok hk rfl) dd h2 ⟨_, H2, I2.tok _, h3, q2⟩⟩
end
section
variable {prog : Program} {w : World} {K : Type} [DecidableEq K] {knd : HeapKind prog w K} {A : Around} {E : Value → Shared → Prop} {s : Shared}
theorem lenN {d : Addr} {xs : List (K × Addr × Value)} {Q : Value → Shared → Prop} (hd : (d == sysModules) = false) (hm : s.heap.DictOfH knd d xs) (hfit : (xs.length : Int) < 2 ^ 63)
    (h : Q (.int xs.length (s.toks + 1)) { s with toks := s.toks + 1 + 1 }) : wpAny (model prog w) A (call (.builtin "len") [.ref d]) Q E s := by
  refine Calls.call_function_entry kind_len plain_len entry_len (args_len1 _) ?_
  unfold Builtin.«len»
  have ty := hm.typeIs
  obtain ⟨o, es, ep, ho, hc, hdat, he, _, _⟩ := hm
  have hz := size_of_entries he
  have mt : MeetsIn prog w (Builtin.«dict.__len__» ⟨[.ref d], []⟩) (fun _ R s' => s' = s ∧ R (.ok (.ret (.int xs.length s.toks))) { s with toks := s.toks + 1 }) := .of_wp fun A R s' ⟨e, q⟩ => by
    subst e
    show wpAny _ _ (dictSize d >>= _) _ _ s'
    unfold dictSize
    refine wpAny_bind (wpAny_bind (wpAny_dictEntries ho hdat (wpAny_pure ?_)))
    show wpAny _ _ (Builtin.Dict.pendingCount d >>= _) _ _ s'
    refine wpAny_bind (wpAny_pendingCount_other hd (wpAny_ret_mkInt ?_))
    rw [hz]
    exact q
  refine wpAny_bind (m := oneArg "len" _) (wpAny_pure ?_)
  refine wpAny_bind (m := callSpecial? (.ref d) (Str.ofString "__len__")) (wpAny_callSpecial?_slot (name := Str.ofString "__len__") ty PySem.F.slot_dict_len (call_meetsIn PySem.F.slot_dict_len ty PySem.F.entry_dict_len (PySem.F.args_dict_len_1 _) mt ⟨rfl, ?_⟩))
  show wpAny _ _ _ _ _ { s with toks := s.toks + 1 }
  refine wpAny_bind (wpAny_holding (wpAny_pure (wpAny_bind (wpAny_letGo ?_))))
  show wpAny _ _ (if ((xs.length : Nat) : Int) < 0 then _ else _) _ _ _
  rw [if_neg (by omega)]
  show wpAny _ _ (if ((xs.length : Nat) : Int) ≥ 2 ^ 63 then _ else _) _ _ _
  rw [if_neg (by omega)]
  exact wpAny_bind (wpAny_mkInt (wpAny_pure ⟨_, rfl, h⟩))
theorem setdefN {d a : Addr} {xs : List (K × Addr × Value)} {k : K} {v : Value} {Q : Value → Shared → Prop} (hu : knd.room A) (hd : (d == sysModules) = false) (hkey : knd.is s.heap k a) (hm : s.heap.DictOfH knd d xs)
    (h1 : ∀ p, atKey xs k = some p → Q p.2 { s with toks := s.toks + knd.draws k })
    (h2 : atKey xs k = none → ∀ h', h'.DictOfH knd d (xs ++ [(k, a, v)]) → Heap.SameBut d s.heap h' → Q v { s with heap := h', toks := s.toks + knd.draws k }) (hsz : xs.length ≤ sizeLine) :
    wpAny (model prog w) A (dictSetDefault d (.ref a) v) Q E s := by
  obtain ⟨o, es, ep, ho, hc, hdat, he, his, hn⟩ := hm
  unfold dictSetDefault
  (try with_reducible refine wpAny_holding ?_)
  refine wpAny_bind (knd.pyHash hu hkey (wpAny_bind (wpAny_dictFind_heap (s := { s with toks := s.toks + knd.draws k }) hu hkey ho hdat he his hn ?_ ?_)))
  · intro hno
    have hnot : k ∉ xs.map (·.1) := not_mem_keys_of_get hno
    refine wpAny_bind (wpAny_rule (wpAny_bind (wpAny_updateDictKeys (hz := by have e := size_of_entries he; omega) (s := { s with toks := s.toks + knd.draws k }) ho hdat (wpAny_pure (h2 (atKey_none_of_get hno) _ ⟨_, _, ep + 1, Heap.get?_update_self _ ho (Obj.isFreed_of_dict (Obj.data_mapDictKeys hdat _)),
      hc.mapDictKeys _, Obj.data_mapDictKeys hdat _, ?_, ?_, ?_⟩ (Heap.SameBut.update ..))))))
    · simp [he, entryOfKey]
    · intro x hx
      rcases List.mem_append.mp hx with hx | hx
      · exact knd.keeps (his x hx) ho hdat (Heap.SameBut.update ..)
      · rw [List.mem_singleton.mp hx]
        exact knd.keeps hkey ho hdat (Heap.SameBut.update ..)
    · rw [List.map_append, List.nodup_append]
      refine ⟨hn, by simp, fun x hx y hy => ?_⟩
      rw [List.map_cons, List.map_nil, List.mem_singleton] at hy
      subst hy
      exact fun e => hnot (e ▸ hx)
  · intro j p hj
    refine wpAny_bind (wpAny_dictEntries (s := { s with toks := s.toks + knd.draws k }) ho hdat ?_)
    rw [entry_at he j, hj]
    exact wpAny_bind (wpAny_rule (wpAny_pure (h1 p (atKey_of_get hn hj))))
theorem callSetdefN {d a : Addr} {xs : List (K × Addr × Value)} {k : K} {v : Value} {Q : Value → Shared → Prop} (hu : knd.room A.in1) (hd : (d == sysModules) = false) (hkey : knd.is s.heap k a) (hm : s.heap.DictOfH knd d xs)
    (h1 : ∀ p, atKey xs k = some p → Q p.2 { s with toks := s.toks + knd.draws k })
    (h2 : atKey xs k = none → ∀ h', h'.DictOfH knd d (xs ++ [(k, a, v)]) → Heap.SameBut d s.heap h' → Q v { s with heap := h', toks := s.toks + knd.draws k }) (hsz : xs.length ≤ sizeLine) :
    wpAny (model prog w) A (call (.builtin "dict.setdefault") [.ref d, .ref a, v]) Q E s := by
  refine wpAny_call_entry PySem.F.slot_dict_setdefault hm.typeIs PySem.F.entry_dict_setdefault ?_ (PySem.F.args_dict_setdefault_3 _ _ _)
  unfold Builtin.«dict.setdefault» Builtin.Dict.keyAndDefault
  refine wpAny_bind (wpAny_bind (wpAny_notOrdered_dict hm.typeIs ?_))
  show wpAny _ _ (pure (d, Value.ref a, some v)) _ _ s
  refine wpAny_pure ?_
  show wpAny _ _ (if (d == sysModules) = true then _ else (dictSetDefault d (.ref a) v >>= _)) _ _ s
  rw [if_neg (by rw [hd]; simp)]
  exact wpAny_bind (setdefN hu hd hkey hm (fun p hp => wpAny_pure ⟨_, rfl, h1 p hp⟩) (fun hn h' hm' hs => wpAny_pure ⟨_, rfl, h2 hn h' hm' hs⟩) hsz)
end
section
variable {X : Cx} {K : Type} [DecidableEq K] {d : Nat}
/-- len(d) -/
theorem call_lenN (F : TFam K d) (le : d ≤ 8) : CallR X (.builtin "len") (fun vs H Q => ∃ (a : Addr) (kvs : List (K × V)), vs = [.ref a] ∧ DN X.prog X.w F le H a kvs ∧ Q (.int kvs.length) H) := by
  intro pins s σ H xs us Q I r h
  obtain ⟨a, kvs, rfl, D, q⟩ := h
  obtain ⟨u, rfl, rx⟩ := vals1 r
  cases rx
  obtain ⟨xs, ys, e1, e2, e3, z, hd, r, dd⟩ := D.at I.hok
  have hl := r.length
  have ek : kvs.length = ys.length := by rw [e1, List.length_map, hl]
  refine lenN hd dd (by rw [sizeLine_eq] at z; omega) ⟨_, H, I.tok _, ?_, q⟩
  rw [ek]
  exact ⟨_, rfl⟩
/-- d.setdefault(y, z) -/
def tNSet (P : Program) (w : World) (F : TFam K d) (le : d ≤ 8) (td ty tz : TE) : TE := fun σ H Q => td σ H fun x H1 => ∃ (a : Addr) (kvs0 : List (K × V)), x = .ref a ∧ DN P w F le H1 a kvs0 ∧ ty σ H1 fun y H2 => tz σ H2 fun v H3 => ∃ (b : Addr) (kvs : List (K × V)) (k : K), y = .ref b ∧ DN P w F le H3 a kvs ∧ F.inn 0 H3 k (.ref b) ∧ kvs.length < sizeLine ∧
  (∀ v', valV kvs k = some v' → Q v' H3) ∧ (valV kvs k = none → ∀ o, DN P w F le (upd H3 a o) a (kvs ++ [(k, v)]) → Q v (upd H3 a o))
theorem pe_nset {o e f : Expr} {apos cpos : Pos} {td ty tz : TE} (hu : X.A.units + 64 < cLine) (F : TFam K d) (le : d ≤ 8) (ho : PE X o td) (he : PE X e ty) (hf : PE X f tz) (m : M2 X o "setdefault" apos e f cpos) : PE X (.Call (.Attribute o "setdefault" apos) [e, f] [] cpos) (tNSet X.prog X.w F le td ty tz) := by
  intro pins s σ H Q I h
  refine wpAny_Call_method m.base m.few m.line PySem.F.plainAttrs_dict PySem.F.slot_dict_setdefault PySem.F.type_dict_setdefault (thn (ho pins s σ H _ I h) fun u s1 ⟨x, H1, I1, rx, a, kvs0, ex, D0, q1⟩ => ?_)
  subst ex
  obtain rfl : u = Value.ref a := rx
  obtain ⟨_, ys0, _, _, _, _, _, _, dd0⟩ := D0.at I1.hok
  refine ⟨dd0.typeIs, fun b q => ?_, ?_⟩
  · cases q
    obtain ⟨ob, _, _, g1, g2, _⟩ := dd0
    exact ⟨ob, g1, g2.2.1⟩
  rw [m.trees]
  refine Calls.callWith_builtin rfl (Calls.evalArgs_plain (Calls.spliced_cons (thn (he pins s1 σ H1 _ I1 q1) fun iv s2 ⟨y, H2, I2, ry, q2⟩ =>
    Calls.spliced_cons (thn (hf pins s2 σ H2 _ I2 q2) fun fv s3 ⟨v, H3, I3, rz, b, kvs, k, ey, D, hk, hl, qa, qb⟩ => Calls.spliced_nil ?_))))
  subst ey
  obtain rfl : iv = Value.ref b := ry
  obtain ⟨xs, ys, e1, e2, e3, z, hd, r, dd⟩ := D.at I3.hok
  have lr := r.length
  have lk : kvs.length = xs.length := by rw [e1, List.length_map]
  refine callSetdefN (show X.A.units + 1 + d < cLine by omega) hd (F.ok I3.hok hk rfl) dd (fun p hp => ?_) (fun hn h' dd' hs => ?_) (by omega)
  · rcases prel_val r k with ⟨_, h2⟩ | ⟨v', p', h1, h2, h3⟩
    · rw [hp] at h2
      cases h2
    · rw [hp] at h2
      cases h2
      exact ⟨v', H3, I3.tok _, h3, qa v' (by rw [e1]; exact h1)⟩
  · have hv : valV kvs k = none := by
      rcases prel_val r k with ⟨h1, _⟩ | ⟨v', p', h1, h2, h3⟩
      · rw [e1]
        exact h1
      · rw [hn] at h2
        cases h2
    have hq : ∃ q, h'.get? a = some q := by
      obtain ⟨q, _, _, g, _⟩ := dd'
      exact ⟨q, g⟩
    have I4 : Inv X pins σ (upd H3 a (.ext (dnP X.prog X.w F le a (xs ++ [(k, b, v)])))) { s3 with heap := h', toks := s3.toks + ((F.fam X.prog X.w).heap le).draws k } :=
      d_write I3 (by rw [e2]; exact True.intro) hs hq (dn_obj (by rw [List.length_append, List.length_singleton]; omega) hd (r.snoc ⟨rfl, rfl, rz⟩) dd')
    have kt : ∀ c zs, H3 c = some (.tup zs) → upd H3 a (.ext (dnP X.prog X.w F le a (xs ++ [(k, b, v)]))) c = some (.tup zs) := fun c zs g => by
      rw [upd_ne (ne_of g e2 (fun z => by cases z))]
      exact g
    refine ⟨v, _, I4, rz, qb hv _ ⟨xs ++ [(k, b, v)], by rw [List.map_append, e1]; rfl, upd_same, fun x hx => ?_⟩⟩
    rcases List.mem_append.mp hx with hx | hx
    · exact F.mono (e3 x hx) kt
    · rw [List.mem_singleton.mp hx]
      exact F.mono hk kt
end
end L2

namespace L2
open PySem PySem.Spec PyProof.Rows
/-! zip of two lists, enumerate of a list: at each turn a new pair -/
section
variable {X : Cx} {pins : List (Addr × Obj)} {σ : St} {H : Hp} {s : Shared} {h' : Heap}
/-- several untracked records of ours have turned -/
theorem Inv.turnedZ {t' : Nat} {ts : List Addr} (I : Inv X pins σ H s) (k : ∀ b o, b ∉ ts → s.heap.get? b = some o → h'.get? b = some o) (hf : ∀ b ∈ ts, FpOk X pins H b) : Inv X pins σ H { s with heap := h', toks := t' } := by
  have nit : ∀ b u, H b = some u → b ∉ ts := fun b u e z => by
    rw [(hf b z).1] at e
    cases e
  refine I.step (g' := s.gens) (d' := s.drawn) (ch := ts) (fun b hb => ?_) (fun b o _ _ hc e _ => k b o hc e) (fun b o _ _ hc e _ => ⟨o.slots, k b o hc e⟩) (fun _ _ _ _ n => n) (fun b o hc e => ⟨o, k b o hc e⟩) (fun _ _ e => e) (fun _ _ _ e => e) (fun b ps e => ⟨#[], by rw [e]; simp⟩) (fun m hm => ?_) (fun b u e => ?_) I.bare
  · obtain ⟨f0, f1, f2, f3, f4, f5⟩ := hf b hb
    exact ⟨f3, f1, f4, f5⟩
  · obtain ⟨o, es, ep, ho, r⟩ := hm
    exact ⟨o, es, ep, k _ o (fun z => (hf _ z).2.1 rfl) ho, r⟩
  · refine (I.hok b u e).stay (fun c v hc q => k c v ?_ q) (fun _ q => q) fun _ _ q => q
    rcases hc with z | z
    · rw [z]
      exact nit b u e
    · exact nit c _ z
end

def Itz (K : PySem.W.Frag) (a b : Addr) : It :=
  ⟨fun i H => ∃ xs ys x y, SqL K H a xs ∧ SqL K H b ys ∧ xs[i]? = some x ∧ ys[i]? = some y, fun i H v H' => ∃ (t : Addr) (x y : V), v = .ref t ∧ H t = none ∧ (∀ xs, SqL K H a xs → xs[i]? = some x) ∧ (∀ ys, SqL K H b ys → ys[i]? = some y) ∧ H' = upd H t (.tup [x, y]), fun i H => ∃ xs ys, SqL K H a xs ∧ SqL K H b ys ∧ (xs.length ≤ i ∨ ys.length ≤ i)⟩
theorem turn_zip {P : Program} {w : World} {K : PySem.W.Frag} {es : List Expr} {k : Nat} {pos : Pos} (a b z TI TO i1 i2 : Addr) (D : ZipApart z TI TO i1 i2 a b) :
    Turn P w K (.Tuple es k pos) (Itz K a b) [z, TI, TO, i1, i2] z (fun i h => IsZip h z TI TO .none ∧ IsPair h TI (.ref i1) (.ref i2) ∧ (∃ p q, IsPair h TO p q) ∧ h.IsListIter i1 a i ∧ h.IsListIter i2 b i) where
  mem := by simp
  obj := fun i h st c hc => by
    obtain ⟨hz, hTI, ⟨p, q, hTO⟩, ⟨o1, g1, _, d1⟩, ⟨o2, g2, _, d2⟩⟩ := st
    simp only [List.mem_cons, List.not_mem_nil, or_false] at hc
    rcases hc with rfl | rfl | rfl | rfl | rfl
    · exact ⟨_, hz, fun v y => by cases (show Data.fields _ = Data.cell v from y)⟩
    · exact ⟨_, hTI, fun v y => by cases (show Data.seq _ _ = Data.cell v from y)⟩
    · exact ⟨_, hTO, fun v y => by cases (show Data.seq _ _ = Data.cell v from y)⟩
    · exact ⟨o1, g1, fun v y => by rw [d1] at y; cases y⟩
    · exact ⟨o2, g2, fun v y => by rw [d2] at y; cases y⟩
  keep := fun i h h' st k => by
    obtain ⟨hz, hTI, ⟨p, q, hTO⟩, h1, h2⟩ := st
    exact ⟨k z (by simp) _ hz, k TI (by simp) _ hTI, ⟨p, q, k TO (by simp) _ hTO⟩, h1.at fun o e => k i1 (by simp) o e, h2.at fun o e => k i2 (by simp) o e⟩
  item := by
    intro X hP hw hK hc i pins s σ H E I hf st hg
    subst hP hw hK
    obtain ⟨xs, ys, x, y, hqa, hqb, hx, hy⟩ := hg
    obtain ⟨ia, ra, pa, _⟩ := I.list hqa
    obtain ⟨ib, rb, pb, _⟩ := I.list hqb
    obtain ⟨u, hu, ru⟩ := ra.get hx
    obtain ⟨v, hv, rv⟩ := rb.get hy
    obtain ⟨hz, hTI, ⟨p, q, hTO⟩, h1, h2⟩ := st
    have hnew : H s.heap.objs.size = none := I.hok.fresh (Nat.le_refl _)
    refine wpAny_pyNext_zip_item D hz hTI hTO h1 h2 pa.isList pb.isList (x := u) (y := v) (by simpa using hu) (by simpa using hv) fun h' a1 a2 a3 a4 a5 a6 hk => ?_
    have ltz : s.heap.objs.size ≠ z := Nat.ne_of_gt (Heap.lt_size hz)
    refine ⟨_, rfl, wpAny_letOwnedTupleGo_zip a1 fun h2' hz2 sb => ?_⟩
    have kk : ∀ c o, c ∉ [z, TI, TO, i1, i2] → s.heap.get? c = some o → h2'.get? c = some o := fun c o hc g => by
      simp only [List.mem_cons, List.not_mem_nil, or_false, not_or] at hc
      exact (sb.2 c hc.1).trans (hk c o hc.1 hc.2.2.1 hc.2.2.2.1 hc.2.2.2.2 g)
    have I1 : Inv X pins σ H { s with heap := h2', toks := s.toks } := I.turnedZ kk hf
    have I2 : Inv X pins σ (upd H s.heap.objs.size (.tup [x, y])) { s with heap := h2', toks := s.toks } := by
      refine Inv.adopt I1 (I.fpOk (Nat.le_refl _) hnew) ⟨by show 2 ≤ sizeLine; decide, [u, v], .cons ru (.cons rv .nil), ?_⟩
      exact ⟨_, (sb.2 _ ltz).trans a5, rfl, _, rfl⟩
    refine ⟨.ref s.heap.objs.size, _, I2, rfl, ⟨_, x, y, rfl, hnew, fun zs hz => by rw [I.list_inj hz hqa]; exact hx, fun zs hz => by rw [I.list_inj hz hqb]; exact hy, rfl⟩,
      ⟨hz2, (sb.2 TI D.TIz).trans (hk TI _ D.TIz D.TITO D.TIi1 D.TIi2 hTI), ⟨u, v, (sb.2 TO D.TOz).trans a2⟩, a3.at fun o e => (sb.2 i1 D.i1z).trans e, a4.at fun o e => (sb.2 i2 D.i2z).trans e⟩, fun c hc => ?_⟩
    rw [upd_ne]
    · exact (hf c hc).1
    · rintro rfl
      have nl : ∀ {c : Addr} {o : Obj}, s.heap.get? c = some o → s.heap.objs.size ≠ c := fun e => Nat.ne_of_gt (Heap.lt_size e)
      obtain ⟨o1, g1, _⟩ := h1
      obtain ⟨o2, g2, _⟩ := h2
      simp only [List.mem_cons, List.not_mem_nil, or_false] at hc
      rcases hc with e | e | e | e | e
      · exact nl hz e
      · exact nl hTI e
      · exact nl hTO e
      · exact nl g1 e
      · exact nl g2 e
  done := by
    intro X hP hw hK hc i pins s σ H E I hf st hg
    subst hP hw hK
    obtain ⟨xs, ys, hqa, hqb, hx⟩ := hg
    obtain ⟨ia, ra, pa, _⟩ := I.list hqa
    obtain ⟨ib, rb, pb, _⟩ := I.list hqb
    obtain ⟨hz, hTI, ⟨p, q, hTO⟩, h1, h2⟩ := st
    have la := ra.length
    have lb := rb.length
    refine wpAny_pyNext_zip_end (I.ok.hd hc) D hz hTI hTO h1 h2 pa.isList pb.isList (hx.elim (fun h => .inl (by simp; omega)) fun h => .inr (by simp; omega)) fun h' hk => ⟨rfl, ?_⟩
    refine I.turnedZ (t' := s.toks) (fun c o hc g => ?_) hf
    simp only [List.mem_cons, List.not_mem_nil, or_false, not_or] at hc
    exact hk c o hc.1 hc.2.2.1 hc.2.2.2.1 hc.2.2.2.2 g
  self := fun _ _ _ _ _ st h => wpAny_pyIter_zip st.1 h
section
variable {X : Cx} {es : List Expr} {k : Nat} {tpos : Pos}
def iZip (K : PySem.W.Frag) (ta : TA) : TI := fun σ H R => ta σ H fun vs H1 => ∃ a b, vs = [.ref a, .ref b] ∧ (∃ xs, SqL K H1 a xs) ∧ (∃ ys, SqL K H1 b ys) ∧ R (Itz K a b) H1
theorem pi_zip {l m : Expr} {ta : TA} {p pos : Pos} (hg : Gl X "zip") (hm : X.mg "zip" = none) (ha : PA X [l, m] ta) (hs : starEach [l, m] X.env = (false, eval l X.env) :: starEach [m] X.env := by rfl) (hp : (backTo pos (starEach [m] X.env)).any (·.1) = false := by rfl) : PI X (.Tuple es k tpos) (.Call (.Name "zip" p) [l, m] [] pos) (iZip X.K ta) := by
  intro pins s σ H R I h
  refine Call_ (ld_blt I hg hm boot_zip (PyProof.Rows.callWith_type1 (thn (ha pos pins s σ H _ I h) fun us s1 ⟨vs, H1, I1, r1, q1⟩ => ?_) hs hp))
  obtain ⟨a, b, e, ⟨xs, hqa⟩, ⟨ys, hqb⟩, q⟩ := q1
  subst e
  obtain ⟨u, v, rfl, ra, rb⟩ := vals2 r1
  cases ra
  cases rb
  obtain ⟨ia, _, pa, _⟩ := I1.list hqa
  obtain ⟨ib, _, pb, _⟩ := I1.list hqb
  have al : a < s1.heap.objs.size := by
    obtain ⟨_, e, _⟩ := pa.isList
    exact Heap.lt_size e
  have bl : b < s1.heap.objs.size := by
    obtain ⟨_, e, _⟩ := pb.isList
    exact Heap.lt_size e
  refine call_zip_2 pa.isList pb.isList fun h' hz hTI hTO h1 h2 hsz hk => ?_
  refine wpAny_pyIter_zip hz ?_
  have I2 : Inv X pins σ H1 { s1 with heap := h' } := I1.kept (t' := s1.toks) hk
  refine ⟨s1.heap.objs.size + 4, _, _, _, H1, rfl, I2, turn_zip a b _ _ _ _ _ (zipApart_new al bl), ⟨hz, hTI, ⟨_, _, hTO⟩, h1, h2⟩, fun c hc => ?_, q⟩
  have up : ∀ n : Nat, FpOk X pins H1 (s1.heap.objs.size + n) := fun n => I1.fpOk (Nat.le_add_right _ n) (I1.hok.fresh (Nat.le_add_right _ n))
  simp only [List.mem_cons, List.not_mem_nil, or_false] at hc
  rcases hc with rfl | rfl | rfl | rfl | rfl
  · exact up 4
  · exact up 2
  · exact up 3
  · exact up 0
  · exact up 1
end
/-- number and item of a list, at each turn in a new pair -/
def Itel (K : PySem.W.Frag) (a : Addr) : It :=
  ⟨fun i H => ∃ xs x, SqL K H a xs ∧ xs[i]? = some x, fun i H v H' => ∃ (t : Addr) (x : V), v = .ref t ∧ H t = none ∧ (∀ xs, SqL K H a xs → xs[i]? = some x) ∧ H' = upd H t (.tup [.int (i : Int), x]), fun i H => ∃ xs, SqL K H a xs ∧ xs.length ≤ i⟩
theorem turn_enumL {P : Program} {w : World} {K : PySem.W.Frag} {es : List Expr} {k : Nat} {pos : Pos} (a e q : Addr) : Turn P w K (.Tuple es k pos) (Itel K a) [e, q] e (fun i h => (∃ old, IsEnum h e q (i : Nat) old) ∧ h.IsListIter q a i) where
  mem := by simp
  obj := fun i h st b hb => by
    obtain ⟨⟨old, he⟩, o, ho, hc, hd⟩ := st
    rcases List.mem_cons.mp hb with rfl | hb
    · exact ⟨_, he, fun v z => by cases (show Data.fields _ = Data.cell v from z)⟩
    · rw [List.mem_singleton.mp hb]
      exact ⟨o, ho, fun v z => by rw [hd] at z; cases z⟩
  keep := fun i h h' st k => by
    obtain ⟨⟨old, he⟩, hq⟩ := st
    exact ⟨⟨old, k e (by simp) _ he⟩, hq.at fun o z => k q (by simp) o z⟩
  item := by
    intro X hP hw hK hc i pins s σ H E I hf st hg
    subst hP hw hK
    obtain ⟨xs, x, hq, hx⟩ := hg
    obtain ⟨its, rv, p, hz⟩ := I.list hq
    obtain ⟨u, hu, ru⟩ := rv.get hx
    obtain ⟨⟨old, he⟩, hit⟩ := st
    have pt := p.isList
    have naq : a ≠ q := fun z => by
      obtain ⟨o1, g1, c1, _⟩ := pt
      obtain ⟨o2, g2, c2, _⟩ := hit
      rw [z, g2] at g1
      cases g1
      rw [c2] at c1
      injection c1 with c1
      exact absurd c1 (by decide)
    have neq : e ≠ q := fun z => by
      obtain ⟨o2, g2, c2, _⟩ := hit
      rw [← z] at g2
      have g3 := g2.symm.trans he
      cases g3
      have c3 : Value.type "enumerate" = Value.type "list_iterator" := c2
      injection c3 with c3
      exact absurd c3 (by decide)
    have nea : e ≠ a := fun z => by
      obtain ⟨o1, g1, c1, _⟩ := pt
      rw [← z] at g1
      have g3 := g1.symm.trans he
      cases g3
      have c3 : Value.type "enumerate" = Value.type "list" := c1
      injection c3 with c3
      exact absurd c3 (by decide)
    have D := Draws.list (prog := X.prog) (w := X.w) (A := X.A.in1) (I.ok.hd hc) q a naq its.toArray
    have hlt : i < its.toArray.size := by
      have := (List.getElem?_eq_some_iff.mp hu).1
      simpa using this
    have hnew : H s.heap.objs.size = none := I.hok.fresh (Nat.le_refl _)
    refine wpAny_pyNext_enum_itemD D he ⟨hit, pt⟩ hlt neq (by simp [neq, nea]) fun y h1 tk hy ho hs1 hT hsz hk => ?_
    obtain rfl : y = u := by
      rw [List.getElem?_toArray, hu] at hy
      exact (Option.some.inj hy).symm
    refine ⟨_, rfl, wpAny_letOwnedTupleGo_enum ho fun h2 he2 sb => ?_⟩
    have nse : s.heap.objs.size ≠ e := Nat.ne_of_gt (Heap.lt_size he)
    have nsq : s.heap.objs.size ≠ q := by
      obtain ⟨o2, g2, _⟩ := hit
      exact Nat.ne_of_gt (Heap.lt_size g2)
    have kk : ∀ b o, b ∉ [e, q] → s.heap.get? b = some o → h2.get? b = some o := fun b o hb g => by
      have b1 : b ≠ e := fun z => hb (by simp [z])
      have b2 : b ≠ q := fun z => hb (by simp [z])
      exact (sb.2 b b1).trans (hk b o b1 b2 g)
    have I1 : Inv X pins σ H { s with heap := h2, toks := tk + 1 } := I.turnedZ kk hf
    have I2 : Inv X pins σ (upd H s.heap.objs.size (.tup [.int (i : Int), x])) { s with heap := h2, toks := tk + 1 } := by
      refine Inv.adopt I1 (I.fpOk (Nat.le_refl _) hnew) ⟨by show 2 ≤ sizeLine; decide, [.int i tk, y], .cons ⟨tk, rfl⟩ (.cons ru .nil), ?_⟩
      exact ⟨_, (sb.2 _ nse).trans hT, rfl, _, rfl⟩
    refine ⟨.ref s.heap.objs.size, _, I2, rfl, ⟨_, x, rfl, hnew, fun ys hy => by rw [I.list_inj hy hq]; exact hx, rfl⟩, ⟨⟨y, by have := he2; simpa using this⟩, hs1.1.at fun o g => (sb.2 q (Ne.symm neq)).trans g⟩, fun b hb => ?_⟩
    have nb : b ≠ s.heap.objs.size := by
      rcases List.mem_cons.mp hb with rfl | hb
      · exact Ne.symm nse
      · rw [List.mem_singleton.mp hb]
        exact Ne.symm nsq
    rw [upd_ne nb]
    exact (hf b hb).1
  done := by
    intro X hP hw hK hc i pins s σ H E I hf st hg
    subst hP hw hK
    obtain ⟨xs, hq, hx⟩ := hg
    obtain ⟨its, rv, p, hz⟩ := I.list hq
    obtain ⟨⟨old, he⟩, hit⟩ := st
    have hl := rv.length
    refine wpAny_pyNext_enum_end (I.ok.hd hc) he hit p.isList (by simp; omega) fun h2 eb => ⟨rfl, ?_⟩
    exact I.turnedZ (t' := s.toks) (fun b o hb g => eb b o (fun z => hb (by simp [z])) g) hf
  self := fun _ _ _ _ _ st h => by
    obtain ⟨⟨old, he⟩, _⟩ := st
    exact wpAny_pyIter_enum he h
section
variable {X : Cx} {es : List Expr} {k : Nat} {tpos : Pos}
def iEnumL (K : PySem.W.Frag) (ta : TA) : TI := fun σ H R => ta σ H fun vs H1 => ∃ a, vs = [.ref a] ∧ (∃ xs, SqL K H1 a xs) ∧ R (Itel K a) H1
theorem pi_enumL {l : Expr} {ta : TA} {p pos : Pos} (hg : Gl X "enumerate") (hm : X.mg "enumerate" = none) (ha : PA X [l] ta) (hs : starEach [l] X.env = [(false, eval l X.env)] := by rfl) : PI X (.Tuple es k tpos) (.Call (.Name "enumerate" p) [l] [] pos) (iEnumL X.K ta) := by
  intro pins s σ H R I h
  refine Call_ (ld_blt I hg hm boot_enumerate (PyProof.Rows.callWith_type1 (thn (ha pos pins s σ H _ I h) fun us s1 ⟨vs, H1, I1, r1, q1⟩ => ?_) hs rfl))
  obtain ⟨a, e, ⟨xs, hq⟩, q⟩ := q1
  subst e
  obtain ⟨u, rfl, ra⟩ := vals1 r1
  cases ra
  obtain ⟨its, rv, p, hz⟩ := I1.list hq
  refine call_enumerate_list p.isList fun h' he hit hsz hk => ?_
  refine wpAny_pyIter_enum he ?_
  have I2 : Inv X pins σ H1 { s1 with heap := h' } := I1.kept (t' := s1.toks) hk
  refine ⟨s1.heap.objs.size + 1, [s1.heap.objs.size + 1, s1.heap.objs.size], _, _, H1, rfl, I2, turn_enumL a _ _, ⟨⟨.none, by simpa using he⟩, hit⟩, fun b hb => ?_, q⟩
  rcases List.mem_cons.mp hb with rfl | hb
  · exact I1.fpOk (Nat.le_succ _) (I1.hok.fresh (Nat.le_succ _))
  · rw [List.mem_singleton.mp hb]
    exact I1.fpOk (Nat.le_refl _) (I1.hok.fresh (Nat.le_refl _))
end
end L2

namespace L2
open PySem PySem.Spec PyProof.Rows
/-! list comprehensions whose target is two names -/
/-- as for one name: two are set at each turn -/
structure CompSc2 (osc : Scope) (N : List Str) (scope : Scope) (x x2 : Str) (caps : List (Nat × Str)) : Prop where
  kind : scope.kind = .function
  hx : scope.names.lookup x = some .local
  hy : scope.names.lookup x2 = some .local
  ncell : ∀ q ∈ scope.names, q.2 ≠ .cell
  nloc : ∀ q ∈ scope.names, q.2 = .local → scope.names.lookup q.1 = some .local
  free : ∀ q ∈ scope.names, q.2 = .free → osc.names.lookup q.1 = some .cell ∨ osc.names.lookup q.1 = some .free
  cap : ∀ p ∈ caps, N[p.1]? = some p.2 ∧ scope.names.lookup p.2 = some .free
  nd : (x :: x2 :: caps.map (·.2)).Nodup

def tCompW2 (K : PySem.W.Frag) (J : It) (cs : St) (tc : TT) (te : TE) (H1 : Hp) (Z : List V → Hp → Prop) : Prop :=
  ∃ W : Nat → Nat → List V → Hp → Prop, (∃ m, W 0 m [] H1) ∧ ∀ i m acc H, W i m acc H →
    (J.stop i H ∧ Z acc H) ∨ (J.go i H ∧ ∃ N : List V → Hp → Prop, (∀ a H', N a H' → ∃ m', m' < m ∧ W (i + 1) m' a H') ∧
      ∀ x H', J.yld i H x H' → ∃ (a : Addr) (u v : V), x = .ref a ∧ SqT K H' a [u, v] ∧ tc (some u :: some v :: cs) H' fun b H2 => if b = true then te (some u :: some v :: cs) H2 fun v H3 => acc.length < sizeLine ∧ N (acc ++ [v]) H3 else N acc H2)
def tComp2 (K : PySem.W.Frag) (wi : TI) (caps : List (Nat × Str)) (tc : TT) (te : TE) : TE := fun σ H Q => wi σ H fun J H1 => tCompW2 K J (capS caps σ) tc te H1 fun acc H2 => ∀ p, H2 p = none → Q (.ref p) (upd H2 p (.lst acc))
section
variable {prog : Program} {w : World} {A : Around} {R : Result → Shared → Prop} {s : Shared}
theorem compLoopT {elt target iter : Expr} {ifs : List Expr} {scope : Scope} {pos : Pos} {it acc : Value} {env : Env} (I : Nat → Shared → Prop)
    (turn : ∀ n s, I n s → wpAny (model prog w) A (pyNext it) (fun r s₁ => match r with
      | none => R (.ok .next) s₁
      | some v => wpAny (model prog w) A (letOwnedTupleGo target it v) (fun _ sg => wpAny (model prog w) A (assign target env v) (fun _ s₂ =>
          wpAny (model prog w) A (forIn ifs true fun c r => if r = true then do let ok ← isTrue c env (eval c env); pure (ForInStep.yield ok) else pure (ForInStep.yield r)) (fun ok s₃ =>
            if ok = true then wpAny (model prog w) A (eval elt env) (fun x s₄ =>
              wpAny (model prog w) A (call (.builtin "list.append") [acc, x]) (fun _ s₅ => ∃ m, m < n ∧ I m s₅) (notedBy (model prog w) A env fun e s' => R (.error e) s') s₄) (notedBy (model prog w) A env fun e s' => R (.error e) s') s₃
            else ∃ m, m < n ∧ I m s₃) (notedBy (model prog w) A env fun e s' => R (.error e) s') s₂) (notedBy (model prog w) A env fun e s' => R (.error e) s') sg) (notedBy (model prog w) A env fun e s' => R (.error e) s') s₁) (notedBy (model prog w) A env fun e s' => R (.error e) s') s)
    (n : Nat) (h : I n s) : codeAny (model prog w) A (.compLoop (.ListComp elt [⟨target, iter, ifs, 0⟩] scope pos) 0 it acc env) R s := by
  refine codeAny_loop rfl I (fun n s hI => ?_) n h
  show wpAny _ A ((compTurn (.ListComp elt [⟨target, iter, ifs, 0⟩] scope pos) 0 it acc env).onRaise (fun q => do noteFrame q env; theTreesLotGoes q)) _ _ s
  refine wpAny_noted ?_
  rw [compTurn_list]
  refine wpAny_bind (wpAny_standAt (wpAny_bind (wpAny_mono (turn n s hI) (fun r s₁ h₁ => ?_) fun _ _ q => q)))
  cases r with
  | none => exact wpAny_pure h₁
  | some v =>
    refine wpAny_bind (wpAny_mono h₁ (fun _ sg hg => wpAny_bind (wpAny_mono hg (fun _ s₂ h₂ => wpAny_bind (wpAny_mono h₂ (fun ok s₃ h₃ => ?_) fun _ _ q => q)) fun _ _ q => q)) fun _ _ q => q)
    cases ok with
    | false => exact wpAny_pure ⟨rfl, h₃⟩
    | true =>
      exact wpAny_bind (wpAny_bind (wpAny_mono h₃ (fun x s₄ h₄ => wpAny_bind (wpAny_mono h₄ (fun _ s₅ h₅ => wpAny_pure (wpAny_pure ⟨rfl, h₅⟩)) fun _ _ q => q)) fun _ _ q => q))
end
/-! the loop -/
theorem comp_loop2 {X : Cx} {elt iter : Expr} {x x2 : Str} {ns : List Str} {px px2 pt pos : Pos} {kt : Nat} {ifs : List Expr} {scope : Scope} {it D : Addr} {fp : List Addr} {tn : Nat → Heap → Prop} {J : It} {tc : TT} {te : TE} {Z : List V → Hp → Prop} {R : Result → Shared → Prop}
    {cs : St} {o o2 : Option V} {H : Hp} {s : Shared} (hc : X.calm = true) (hN : X.N = x :: x2 :: ns) (nd : X.N.Nodup) (hx : X.env.scope.names.lookup x = some .local) (hy : X.env.scope.names.lookup x2 = some .local) (I : Inv X [] (o :: o2 :: cs) H s) (T : Turn X.prog X.w X.K (.Tuple [.Name x px, .Name x2 px2] kt pt) J fp it tn) (st : tn 0 s.heap) (hf : ∀ b ∈ fp, FpOk X [] H b)
    (hD : FpOk X [] H D) (hDf : D ∉ fp) (pl : s.heap.PlainList D #[]) (hifs : PIfs X ifs tc) (helt : PE X elt te) (hW : tCompW2 X.K J cs tc te H Z) (hxe : X.xe = notedBy (model X.prog X.w) X.A X.env fun e s' => R (.error e) s')
    (hR : ∀ (s' : Shared) (H' : Hp) (acc : List V) (its : List Value) (o' o2' : Option V), Inv X [] (o' :: o2' :: cs) H' s' → s'.heap.PlainList D its.toArray → Vals acc its → acc.length ≤ sizeLine → H' D = none → Z acc H' → R (.ok .next) s') :
    codeAny (model X.prog X.w) X.A (.compLoop (.ListComp elt [⟨.Tuple [.Name x px, .Name x2 px2] kt pt, iter, ifs, 0⟩] scope pos) 0 (.ref it) (.ref D) X.env) R s := by
  obtain ⟨W, ⟨m0, w0⟩, turn⟩ := hW
  refine compLoopT (fun n s' => ∃ (i : Nat) (acc : List V) (its : List Value) (H' : Hp) (o' o2' : Option V), Inv X [] (o' :: o2' :: cs) H' s' ∧ tn i s'.heap ∧ (∀ b ∈ fp, H' b = none) ∧ H' D = none ∧ s'.heap.PlainList D its.toArray ∧ Vals acc its ∧ acc.length ≤ sizeLine ∧ W i n acc H') ?_ m0
    ⟨0, [], [], H, o, o2, I, st, fun b hb => (hf b hb).1, hD.1, pl, .nil, Nat.zero_le _, w0⟩
  rintro n s3 ⟨i, acc, its, H3, o3, p3, I3, st3, fr3, hD3, ⟨nD, gD⟩, va, hl, w3⟩
  rw [← hxe]
  -- the list is pinned through the turn
  have I4 : Inv X [(D, { cls := .type "list", data := .seq its.toArray nD })] (o3 :: p3 :: cs) H3 s3 := I3.pins_of fun p hp => by
    obtain rfl : p = (D, { cls := .type "list", data := .seq its.toArray nD }) := by simpa using hp
    exact ⟨gD, hD3, hD.2.1, hD.2.2.1, fun v z => by cases (show Data.seq its.toArray nD = Data.cell v from z)⟩
  have stat : ∀ {H' : Hp}, (∀ b ∈ fp, H' b = none) → ∀ b ∈ fp, FpOk X [(D, { cls := .type "list", data := .seq its.toArray nD })] H' b := fun hn b hb => by
    obtain ⟨_, f1, f2, f3, f4, f5⟩ := hf b hb
    refine ⟨hn b hb, f1, f2, f3, f4, fun p hp => ?_⟩
    rcases List.mem_append.mp hp with z | z
    · exact f5 p (List.mem_append_left _ z)
    · obtain rfl : p = (D, { cls := .type "list", data := .seq its.toArray nD }) := by simpa using z
      exact fun e => hDf (by rw [show D = b from e]; exact hb)
  rcases turn i n acc H3 w3 with ⟨stop, z⟩ | ⟨go, N, hNn, step⟩
  · refine thn (T.done X rfl rfl rfl hc i _ s3 (o3 :: p3 :: cs) H3 X.xe I4 (stat fr3) st3 stop) fun r s4 ⟨hr, I5⟩ => ?_
    subst hr
    exact hR s4 H3 acc its o3 p3 (I5.pins_of fun p hp => absurd hp (by simp)) ⟨nD, (I5.pin _ (List.mem_append_right _ (List.mem_singleton.mpr rfl))).1⟩ va hl hD3 z
  · refine thn (T.item X rfl rfl rfl hc i _ s3 (o3 :: p3 :: cs) H3 X.xe I4 (stat fr3) st3 go) fun r s4 ⟨u, hr, h4⟩ => ?_
    subst hr
    refine thn h4 fun _ s5 ⟨xv, H5, I5, r5, y5, st5, fr5⟩ => ?_
    have I5' := I5.pinned (stat fr5) (T.obj _ _ st5)
    obtain ⟨at1, u1, u2, ex, sq, hq⟩ := step xv H5 y5
    subst ex
    have gt : PG X (.Tuple [.Name x px, .Name x2 px2] kt pt) (gTup X.K 2 (gCons (gName 0) (gCons (gName 1) gNil))) := pg_tup hc (pgs_cons (pg_name (i := 0) nd (by rw [hN]; rfl) (.inl hx) (.inr hx)) (pgs_cons (pg_name (i := 1) nd (by rw [hN]; rfl) (.inl hy) (.inr hy)) pgs_nil))
    refine thn (gt _ s5 (o3 :: p3 :: cs) H5 (.ref at1) u (fun σ' H' => σ' = some u1 :: some u2 :: cs ∧ H' = H5) I5' r5 ⟨at1, [u1, u2], rfl, sq, rfl, u1, [u2], rfl, u2, [], rfl, rfl, rfl, rfl⟩) fun _ s6 ⟨σ6, H6, I6, e6, e7⟩ => ?_
    subst e6
    subst e7
    have I6' : Inv X ([(D, { cls := .type "list", data := .seq its.toArray nD })] ++ pinsAt fp s5.heap) (some u1 :: some u2 :: cs) H6 s6 := I6
    -- what stays of the iterator and of the list, at any later state of the turn
    have later : ∀ {σ' : St} {H' : Hp} {s' : Shared}, Inv X ([(D, { cls := .type "list", data := .seq its.toArray nD })] ++ pinsAt fp s5.heap) σ' H' s' →
        Inv X [] σ' H' s' ∧ tn (i + 1) s'.heap ∧ (∀ b ∈ fp, H' b = none) ∧ H' D = none ∧ s'.heap.get? D = some { cls := .type "list", data := .seq its.toArray nD } := fun {σ' H' s'} J' => by
      have pD := J'.pin (D, { cls := .type "list", data := .seq its.toArray nD }) (List.mem_append_right _ (List.mem_append_left _ (List.mem_singleton.mpr rfl)))
      refine ⟨J'.pins_of fun p hp => absurd hp (by simp), T.keep _ _ _ st5 fun b hb ob e => (J'.pin (b, ob) (List.mem_append_right _ (List.mem_append_right _ (mem_pinsAt hb e)))).1, fun b hb => ?_, pD.2.1, pD.1⟩
      obtain ⟨ob, e, _⟩ := T.obj _ _ st5 b hb
      exact (J'.pin (b, ob) (List.mem_append_right _ (List.mem_append_right _ (mem_pinsAt hb e)))).2.1
    refine thn (hifs _ s6 (some u1 :: some u2 :: cs) H6 _ I6' hq) fun b s7 ⟨H7, I7, q7⟩ => ?_
    cases b with
    | false =>
      obtain ⟨m', hm, w7⟩ : ∃ m', m' < n ∧ W (i + 1) m' acc H7 := hNn acc H7 q7
      obtain ⟨l1, l2, l3, l4, l5⟩ := later I7
      exact ⟨m', hm, i + 1, acc, its, H7, some u1, some u2, l1, l2, l3, l4, ⟨nD, l5⟩, va, hl, w7⟩
    | true =>
      have q7' : te (some u1 :: some u2 :: cs) H7 fun v H3 => acc.length < sizeLine ∧ N (acc ++ [v]) H3 := q7
      show wpAny _ _ (eval elt X.env) _ _ s7
      refine thn (helt _ s7 (some u1 :: some u2 :: cs) H7 _ I7 q7') fun u8 s8 ⟨v, H8, I8, r8, hlt, n8⟩ => ?_
      obtain ⟨m', hm, w8⟩ := hNn _ _ n8
      obtain ⟨l1, l2, l3, l4, l5⟩ := later I8
      have hlen := va.length
      refine wpAny_list_append_plain (hsz := by simp only [List.size_toArray]; omega) ⟨nD, l5⟩ fun h9 pl9 sb9 => ?_
      refine ⟨m', hm, i + 1, acc ++ [v], its ++ [u8], H8, some u1, some u2, l1.turned (t' := s8.toks) (fun b ob hb e => (sb9.2 b hb).trans e) l4 hD.2.1 hD.2.2.2.1 hD.2.2.2.2.1 hD.2.2.2.2.2, ?_, l3, l4, by simpa using pl9, va.append (.cons r8 .nil), ?_, w8⟩
      · exact T.keep _ _ _ l2 fun b hb ob e => (sb9.2 b (fun z => hDf (z ▸ hb))).trans e
      · rw [List.length_append, List.length_singleton]
        omega

/-! the block -/
section
variable {X : Cx} {elt iter : Expr} {x x2 : Str} {px px2 pt pos : Pos} {kt : Nat} {ifs : List Expr} {scope : Scope} {caps : List (Nat × Str)} {wi : TI} {tc : TT} {te : TE}
theorem comp_block2 {pins : List (Addr × Obj)} {σ : St} {H : Hp} {s : Shared} {E : Value → Shared → Prop} {it : Addr} {fp : List Addr} {tn : Nat → Heap → Prop} {J : It} {Z : List V → Hp → Prop} {RR : Value → Addr → Result → Shared → Prop}
    (hc : X.calm = true) (S : CompSc2 X.env.scope X.N scope x x2 caps) (I : Inv X pins σ H s) (T : Turn X.prog X.w X.K (.Tuple [.Name x px, .Name x2 px2] kt pt) J fp it tn) (st : tn 0 s.heap) (hf : ∀ b ∈ fp, FpOk X pins H b)
    (hifs : ∀ C s H ex pn E, PIfs (cxComp X (x :: x2 :: caps.map (·.2)) scope C s H ex pn E) ifs tc) (helt : ∀ C s H ex pn E, PE (cxComp X (x :: x2 :: caps.map (·.2)) scope C s H ex pn E) elt te)
    (hW : tCompW2 X.K J (capS caps σ) tc te H Z)
    (hRR : ∀ (s' : Shared) (H' : Hp) (acc : List V) (its : List Value) (D C : Addr) (m : Str → Option Value), Inv X pins σ H' s' → s'.heap.PlainList D its.toArray → Vals acc its → acc.length ≤ sizeLine → FpOk X pins H' D → FpOk X pins H' C → D ≠ C → s'.heap.Ns C m → Z acc H' → RR (.ref D) C (.ok .next) s') :
    wpAny (model X.prog X.w) X.A (newList []) (fun acc s₃ => wpAny (model X.prog X.w) X.A (newFunctionEnv scope X.env.globals (clOf X.env scope) [] X.env.qual none .none (some X.env)) (fun cenv s₄ =>
      codeAny (model X.prog X.w) X.A (.compStart (.ListComp elt [⟨.Tuple [.Name x px, .Name x2 px2] kt pt, iter, ifs, 0⟩] scope pos) 0 (.ref it) acc { cenv with scope := relabel scope X.env }) (RR acc cenv.locals) s₄) E s₃) E s := by
  refine wpAny_newObj_type (wpAny_newFunctionEnv S.ncell (by intro y hy; simp at hy) (fun h₁ hns₁ hsb₁ => ?_) S.kind)
  dsimp only at hns₁ hsb₁ ⊢
  have hI3 : Inv X pins σ H { s with heap := s.heap.push { cls := .type "list", dict := none, data := .seq ([] : List Value).toArray } } := I.kept (t' := s.toks) fun b u e => Heap.get?_push_of_some _ e
  have gD3 : (s.heap.push { cls := .type "list", dict := none, data := .seq ([] : List Value).toArray }).get? s.heap.objs.size = some { cls := .type "list", dict := none, data := .seq ([] : List Value).toArray } := Heap.get?_push_size _ rfl
  have hz3 : (s.heap.push { cls := .type "list", dict := none, data := .seq ([] : List Value).toArray }).objs.size = s.heap.objs.size + 1 := Heap.size_push _ _
  generalize hH3 : s.heap.push { cls := .type "list", dict := none, data := .seq ([] : List Value).toArray } = h3 at hns₁ hsb₁ hI3 gD3 hz3 ⊢
  have k3 : ∀ b u, s.heap.get? b = some u → h3.get? b = some u := fun b u e => hH3 ▸ Heap.get?_push_of_some _ e
  have k31 : ∀ b u, h3.get? b = some u → h₁.get? b = some u := fun b u e => (hsb₁.2 b (Nat.ne_of_lt (Heap.lt_size e))).trans (Heap.get?_push_of_some _ e)
  have k1 : ∀ b u, s.heap.get? b = some u → h₁.get? b = some u := fun b u e => k31 b u (k3 b u e)
  have hDC : s.heap.objs.size ≠ h3.objs.size := by rw [hz3]; exact Nat.ne_of_lt (Nat.lt_succ_self _)
  have fD : FpOk X pins H s.heap.objs.size := I.fpOk (Nat.le_refl _) (I.hok.fresh (Nat.le_refl _))
  have fC : FpOk X pins H h3.objs.size := I.fpOk (by rw [hz3]; exact Nat.le_succ _) (I.hok.fresh (by rw [hz3]; exact Nat.le_succ _))
  have lfp : ∀ b ∈ fp, b < s.heap.objs.size := fun b hb => let ⟨_, e, _⟩ := T.obj _ _ st b hb; Heap.lt_size e
  have hDf : s.heap.objs.size ∉ fp := fun z => Nat.lt_irrefl _ (lfp _ z)
  -- the closure's cells are cells around
  have hfree : ∀ y ∈ scope.names, y.2 = .free → ∃ c, X.env.cells.lookup y.1 = some c := fun y hy e => I.ok.has y.1 (S.free y hy e)
  obtain ⟨sub, has⟩ := clG_look scope.names [] hfree (fun y c e => by simp at e)
  have sub' : ∀ y c, (clOf X.env scope).lookup y = some c → X.env.cells.lookup y = some c := sub
  have has' : ∀ y, (y, NameKind.free) ∈ scope.names → ∃ c, (clOf X.env scope).lookup y = some c := fun y hy => Option.isSome_iff_exists.mp (has y (.inr hy))
  have inj : ∀ b ∈ s.heap.objs.size :: fp, FpOk X pins H b := fun b hb => (List.mem_cons.mp hb).elim (fun z => z ▸ fD) (hf b)
  have ltC : ∀ b ∈ s.heap.objs.size :: fp, b ≠ h3.objs.size := fun b hb => (List.mem_cons.mp hb).elim (fun z => z ▸ hDC) fun z => Nat.ne_of_lt (by rw [hz3]; exact Nat.lt_succ_of_lt (lfp b z))
  have I1 : Inv (cxComp X (x :: x2 :: caps.map (·.2)) scope h3.objs.size { s with heap := h3 } H (s.heap.objs.size :: fp) (X.pn ++ pins)
      (notedBy (model X.prog X.w) X.A (compEnvC scope (clOf X.env scope) h3.objs.size X.env) fun e s' => RR (.ref s.heap.objs.size) h3.objs.size (.error e) s')) [] (none :: none :: capS caps σ) H { s with heap := h₁, toks := s.toks + ([] : List (Str × Value)).length } := by
    refine ⟨⟨I.ok.mod, S.kind, I.ok.glob, I.ok.blt, Nat.le_refl _, fun y z c e1 e2 => I.ok.inj y z c (sub' _ _ e1) (sub' _ _ e2), fun y hy => has' y (free_of_relabel S.ncell hy), fun y c e => (nomatch e), I.ok.hd, I.ok.frames, .inl rfl, fun b hb => ⟨ltC b hb, fun y c e => (inj b hb).2.2.2.2.1 y c (sub' y c e)⟩,
        fun b ob e => ⟨k3 b ob (I.bs b ob e).1, (I.bs b ob e).2⟩, ?_, fun b ob e z => ?_, fun b hb => I.stkNo (inj b hb).2.1 (inj b hb).2.2.1, ?_, I.stkFree⟩,
      rfl, I.bare, Un.kept k31, ⟨_, hns₁, fun i y v e1 e2 e3 => ?_⟩, fun y c e => ?_, fC.1, fun y c e => I.freeC y c (sub' y c e), fun p hp => ?_, I.hok.kept k1, ?_⟩
    · exact Nat.le_trans I.ok.bsz (Nat.le_trans I.sz (by show s.heap.objs.size ≤ h3.objs.size; rw [hz3]; exact Nat.le_succ _))
    · rcases (inj b z).2.2.2.1 with w1 | w1
      · exact I.ok.noex b ob e w1
      · exact absurd (Nat.lt_of_lt_of_le (Heap.lt_size e) I.ok.bsz) (Nat.not_lt.mpr w1)
    · exact Heap.FunFrames.of_keeps (fun b ob e _ => ⟨ob, k3 b ob e, rfl⟩) I.stack
    · rcases i with _ | _ | i
      · cases e2
      · cases e2
      · have e1' : (caps.map (·.2))[i]? = some y := e1
        have e2' : (capS caps σ)[i]? = some (some v) := e2
        unfold capS at e2'
        rw [List.getElem?_map] at e1' e2'
        cases ep : caps[i]? with
        | none => rw [ep] at e1'; cases e1'
        | some p =>
          rw [ep] at e1' e2'
          obtain rfl : p.2 = y := Option.some.inj e1'
          have e2'' : (σ[p.1]?).getD none = some v := Option.some.inj e2'
          have hσ : σ[p.1]? = some (some v) := by
            cases es : σ[p.1]? with
            | none => rw [es] at e2''; cases e2''
            | some w1 => rw [es] at e2''; exact congrArg some e2''
          obtain ⟨cN, cF⟩ := S.cap p (List.mem_of_getElem? ep)
          have mF : (p.2, NameKind.free) ∈ scope.names := PySem.mem_of_lookup cF
          have oF := S.free _ mF rfl
          obtain ⟨m, hn, hlook⟩ := I.loc
          obtain ⟨u, ru, lk⟩ := hlook p.1 p.2 v cN hσ (.inr oF)
          refine ⟨u, ru, .inr ⟨?_, ?_⟩⟩
          · rcases e3 with z | z
            · exact absurd z (lookup_relabel_free cF)
            · exact z
          · obtain ⟨c, ec⟩ := has' p.2 mF
            refine ⟨c, ec, ?_⟩
            rcases lk with ⟨z, _⟩ | ⟨_, c', ec', ob, ho, hd⟩
            · have z' : X.env.scope.names.lookup p.2 = some .local := z
              rw [z'] at oF
              rcases oF with q | q <;> cases q
            · have ee := (sub' _ _ ec).symm.trans ec'
              cases ee
              exact ⟨ob, k1 _ _ ho, hd⟩
    · obtain ⟨v, ob, ho, hd⟩ := I.cell y c (sub' y c e)
      exact ⟨v, ob, k1 _ _ ho, hd⟩
    · have hp' : p ∈ X.pn ++ pins := by
        rcases List.mem_append.mp hp with z | z
        · exact z
        · exact absurd z (by simp)
      obtain ⟨e, n, ne, nf, d⟩ := I.pin p hp'
      refine ⟨k1 _ _ e, n, Nat.ne_of_lt ?_, I.stkNo ne nf, d⟩
      show p.1 < h3.objs.size
      rw [hz3]
      exact Nat.lt_succ_of_lt (Heap.lt_size e)
    · show (none :: none :: capS caps σ).length = (x :: x2 :: caps.map (·.2)).length
      simp [capS]
  have hf1 : ∀ b ∈ s.heap.objs.size :: fp, FpOk (cxComp X (x :: x2 :: caps.map (·.2)) scope h3.objs.size { s with heap := h3 } H (s.heap.objs.size :: fp) (X.pn ++ pins)
      (notedBy (model X.prog X.w) X.A (compEnvC scope (clOf X.env scope) h3.objs.size X.env) fun e s' => RR (.ref s.heap.objs.size) h3.objs.size (.error e) s')) [] H b := fun b hb => by
    obtain ⟨f0, f1, f2, f3, f4, f5⟩ := inj b hb
    refine ⟨f0, ltC b hb, I.stkNo f1 f2, .inl hb, fun y c e => f4 y c (sub' y c e), fun p hp => f5 p ?_⟩
    rcases List.mem_append.mp hp with z | z
    · exact z
    · exact absurd z (by simp)
  have st1 : tn 0 h₁ := T.keep _ _ _ st fun b _ ob e => k1 b ob e
  have loop : codeAny (model X.prog X.w) X.A (.compLoop (.ListComp elt [⟨.Tuple [.Name x px, .Name x2 px2] kt pt, iter, ifs, 0⟩] scope pos) 0 (.ref it) (.ref s.heap.objs.size) (compEnvC scope (clOf X.env scope) h3.objs.size X.env)) (RR (.ref s.heap.objs.size) h3.objs.size) { s with heap := h₁, toks := s.toks + ([] : List (Str × Value)).length } := by
    refine comp_loop2 (X := cxComp X (x :: x2 :: caps.map (·.2)) scope h3.objs.size { s with heap := h3 } H (s.heap.objs.size :: fp) (X.pn ++ pins) (notedBy (model X.prog X.w) X.A (compEnvC scope (clOf X.env scope) h3.objs.size X.env) fun e s' => RR (.ref s.heap.objs.size) h3.objs.size (.error e) s'))
      hc rfl S.nd (lookup_relabel_local S.hx) (lookup_relabel_local S.hy) I1 T st1 (fun b hb => hf1 b (List.mem_cons_of_mem _ hb)) (hf1 _ List.mem_cons_self) hDf ⟨0, k31 _ _ gD3⟩ (hifs _ _ _ _ _ _) (helt _ _ _ _ _ _) hW rfl ?_
    intro s' H' acc its o' o2' J1 plD va hlen nD z
    have u1 : Un (frs X.stack) (s.heap.objs.size :: fp) H H' h3 s'.heap := J1.base
    have J2 : Inv X pins σ H' s' := Inv.call' (s := { s with heap := h3 }) hI3 J1.os u1 J1.hok J1.bare fun b hb => by
      obtain ⟨_, f1, _, f3, f4, f5⟩ := inj b hb
      exact ⟨f3, f1, f4, f5⟩
    obtain ⟨m, hn, _⟩ := J1.loc
    exact hRR s' H' acc its _ _ m J2 plD va hlen ⟨nD, fD.2⟩ ⟨J1.free, fC.2⟩ hDC hn z
  exact codeAny_compStart_list loop (T.self _ 0 _ _ _ st1 loop)

theorem pe_comp2 (hc : X.calm = true) (S : CompSc2 X.env.scope X.N scope x x2 caps) (hi : PI X (.Tuple [.Name x px, .Name x2 px2] kt pt) iter wi)
    (hifs : ∀ C s H ex pn E, PIfs (cxComp X (x :: x2 :: caps.map (·.2)) scope C s H ex pn E) ifs tc) (helt : ∀ C s H ex pn E, PE (cxComp X (x :: x2 :: caps.map (·.2)) scope C s H ex pn E) elt te)
    (hs : ∀ x, foldedSetIterable iter X.env x = pure x := by intro _; rfl) : PE X (.ListComp elt [⟨.Tuple [.Name x px, .Name x2 px2] kt pt, iter, ifs, 0⟩] scope pos) (tComp2 X.K wi caps tc te) := by
  intro pins s σ H Q I h
  have hfree : ∀ y ∈ scope.names, y.2 = .free → ∃ c, X.env.cells.lookup y.1 = some c := fun y hy e => I.ok.has y.1 (S.free y hy e)
  rw [eval_ListComp]
  refine wpAny_comprehension_free (use := none) rfl hs (closure_eq hfree) S.kind S.nloc (thn (hi pins s σ H _ I h) fun v s1 h1 => thn h1 fun itv s2 h2 => ?_)
  obtain ⟨it, fp, tn, J, H2, e, I2, T, st2, f2, hW⟩ := h2
  subst e
  refine comp_block2 (RR := fun acc C => compPost (model X.prog X.w) X.A X.xe none (EP X pins σ Q) acc C) hc S I2 T st2 f2 hifs helt hW ?_
  intro s' H' acc its D C m J2 plD va hlen fD fC hDC hn z
  obtain ⟨nD, gD⟩ := plD
  refine ⟨m, hn, fun h'' sb => ?_⟩
  have J3 : Inv X pins σ H' { s' with heap := h'' } := J2.turned (t' := s'.toks) (fun b ob hb e => (sb.2 b hb).trans e) fC.1 fC.2.1 fC.2.2.2.1 fC.2.2.2.2.1 fC.2.2.2.2.2
  exact ⟨.ref D, upd H' D (.lst acc), J3.adopt fD ⟨hlen, its, nD, va, (sb.2 D hDC).trans gD⟩, rfl, z D fD.1⟩
/-- name = [..] where the store is the comprehension's own last step -/
theorem ps_setC2 {i : Nat} {y : Str} {py spos : Pos} (hc : X.calm = true) (hN : X.N.Nodup) (hi' : X.N[i]? = some y) (hy : Loc X.env.scope y) (S : CompSc2 X.env.scope X.N scope x x2 caps) (hi : PI X (.Tuple [.Name x px, .Name x2 px2] kt pt) iter wi)
    (hifs : ∀ C s H ex pn E, PIfs (cxComp X (x :: x2 :: caps.map (·.2)) scope C s H ex pn E) ifs tc) (helt : ∀ C s H ex pn E, PE (cxComp X (x :: x2 :: caps.map (·.2)) scope C s H ex pn E) elt te)
    (hsw : swapsWith (.ListComp elt [⟨.Tuple [.Name x px, .Name x2 px2] kt pt, iter, ifs, 0⟩] scope pos) (some (.Name y py)) spos.line X.env = pure true := by rfl) (hs : ∀ x, foldedSetIterable iter X.env x = pure x := by intro _; rfl)
    (hfn : X.fn y = true ∨ X.env.scope.names.lookup y = some .local := by first | exact .inl rfl | exact .inr rfl | assumption) : PS X (.Assign [.Name y py] (.ListComp elt [⟨.Tuple [.Name x px, .Name x2 px2] kt pt, iter, ifs, 0⟩] scope pos) spos) (tAsg (tComp2 X.K wi caps tc te) (gName i)) := by
  intro pins s σ H D0 I h
  have hfree : ∀ y ∈ scope.names, y.2 = .free → ∃ c, X.env.cells.lookup y.1 = some c := fun y hy e => I.ok.has y.1 (S.free y hy e)
  rw [exec_Assign_Name_used _ _ _ _ hsw]
  refine wpAny_bind (wpAny_standAt (wpAny_bind ?_))
  show wpAny _ _ (do let _ ← comprehension (.ListComp elt [⟨.Tuple [.Name x px, .Name x2 px2] kt pt, iter, ifs, 0⟩] scope pos) scope X.env _ (newList []) false (eval iter X.env) (some (assign (.Name y py) X.env))) _ _ s
  refine wpAny_bind (wpAny_mono (wpAny_comprehension_free (use := some (assign (.Name y py) X.env)) (Q := fun _ s' => SP X pins D0 .next s') rfl hs (closure_eq hfree) S.kind S.nloc
    (thn (hi pins s σ H _ I h) fun v s1 h1 => thn h1 fun itv s2 h2 => ?_)) (fun _ s' hq => wpAny_pure (wpAny_pure hq)) fun _ _ e => e)
  obtain ⟨it, fp, tn, J, H2, e, I2, T, st2, f2, hW⟩ := h2
  subst e
  refine comp_block2 (RR := fun acc C => compPost (model X.prog X.w) X.A X.xe (some (assign (.Name y py) X.env)) (fun _ s' => SP X pins D0 .next s') acc C) hc S I2 T st2 f2 hifs helt hW ?_
  intro s' H' acc its D C m J2 plD va hlen fD fC hDC hn z
  obtain ⟨nD, gD⟩ := plD
  have J3 : Inv X pins σ (upd H' D (.lst acc)) s' := J2.adopt fD ⟨hlen, its, nD, va, gD⟩
  show wpAny _ _ (assign (.Name y py) X.env (.ref D)) _ _ s'
  refine wpAny_assign_Name (store_ok2 J3 hN hi' hy (show RelV (.ref D) (.ref D) from rfl) (fun s4 J4 ⟨a, sa, ha⟩ => ?_) hfn)
  have hCa : C ≠ a := by
    rcases ha with q | q
    · rw [q]; exact fC.2.1
    · exact (fC.2.2.2.2.1 y a q).symm
  refine ⟨m, hn.sameBut sa hCa, fun h'' sb => ?_⟩
  exact ⟨_, _, J4.turned (t' := s4.toks) (fun b ob hb e => (sb.2 b hb).trans e) (by rw [upd_ne (Ne.symm hDC)]; exact fC.1) fC.2.1 fC.2.2.2.1 fC.2.2.2.2.1 fC.2.2.2.2.2, z D fD.1⟩
end
end L2

namespace L2
open PySem PySem.Spec PyProof.Rows
/-- xs.index(k), xs a list of numbers in which k stands first at j -/
def rIdx : V → List V → Hp → VK → Prop := fun x vs H Q => ∃ (l : Addr) (os : List Nat) (k : Int) (j : Nat), x = .ref l ∧ vs = [.int k] ∧ H l = some (.lst (os.map fun j : Nat => V.int (j : Int))) ∧ (∃ h : j < os.length, ((os[j] : Nat) : Int) = k) ∧ (∀ (m : Nat) (hm : m < os.length), m < j → ((os[m] : Nat) : Int) ≠ k) ∧ os.length ≤ 1000 ∧ Q (.int (j : Int)) H
def eqNi (k : Int) : Value → Bool
  | .int a _ => a == k
  | _ => false
section
variable {X : Cx}
theorem mt_index : MtM X "list.index" rIdx := by
  intro pins s σ H x vs v us Q I rx rv h
  obtain ⟨l, os, k, j, rfl, rfl, hH, ⟨hj, e1⟩, e2, hz, q⟩ := h
  cases rx
  obtain ⟨u, rfl, ru⟩ := rv.one
  obtain ⟨t, rfl⟩ := ru
  obtain ⟨z, its, n, r, hl, e⟩ := I.lstM hH
  rw [List.length_map] at hl
  have item : ∀ (m : Nat) (hm : m < os.length), ∃ t', its[m]? = some (.int ((os[m] : Nat) : Int) t') := fun m hm => by
    obtain ⟨w', hw, t', rfl⟩ := r.get (i := m) (x := .int ((os[m] : Nat) : Int)) (by rw [List.getElem?_map, List.getElem?_eq_getElem hm]; rfl)
    exact ⟨t', hw⟩
  have at' : ∀ (m : Nat) (hm : m < its.toArray.size), ∃ (hm' : m < os.length) (t' : Tok), its.toArray[m] = .int ((os[m]'hm' : Nat) : Int) t' := fun m hm => by
    have hm' : m < os.length := by
      rw [List.size_toArray] at hm
      omega
    obtain ⟨t', ht⟩ := item m hm'
    refine ⟨hm', t', ?_⟩
    have := List.getElem?_eq_some_iff.mp ht
    obtain ⟨_, this⟩ := this
    simpa using this
  refine call_meets PySem.F.slot_list_index ⟨_, e, rfl⟩ PySem.F.entry_list_index (PySem.F.args_list_index_2 _ _) (MeetsSeq.list_index l its.toArray n _ (eqNi k) (fun y hy => ?_) j (by rw [List.size_toArray]; omega) (by omega) ?_ (fun m hm hmj => ?_)) ⟨e, ?_⟩
  · obtain ⟨m, hm, rfl⟩ := Array.mem_iff_getElem.mp hy
    obtain ⟨hm', t', et⟩ := at' m hm
    rw [et]
    exact MeetsSeq.EqGives.int _ _ _ _
  · obtain ⟨hm', t', et⟩ := at' j (by rw [List.size_toArray]; omega)
    rw [et]
    show (((os[j] : Nat) : Int) == k) = true
    rw [e1]
    exact beq_self_eq_true _
  · obtain ⟨hm', t', et⟩ := at' m hm
    rw [et]
    exact beq_eq_false_iff_ne.mpr (e2 m hm' hmj)
  · exact ⟨.int (j : Int), H, I.tok _, ⟨_, rfl⟩, q⟩
end
end L2

namespace Wy
/-! ways as mathematics: a way's code is greater just where it comes later -/
def codeF (a : Nat) (p : List Nat) : Nat := p.foldl (fun c x => 8 * c + (x + 1)) a
def code (p : List Nat) : Nat := codeF 0 p
theorem codeF_cons (a x : Nat) (p : List Nat) : codeF a (x :: p) = codeF (8 * a + (x + 1)) p := rfl
theorem codeF_app (a : Nat) (p q : List Nat) : codeF a (p ++ q) = codeF (codeF a p) q := by
  unfold codeF
  rw [List.foldl_append]
theorem code_snoc (p : List Nat) (x : Nat) : code (p ++ [x]) = 8 * code p + (x + 1) := codeF_app 0 p [x]
theorem codeF_lt : ∀ (s t : List Nat) (a b : Nat), a < b → s.length = t.length → (∀ x ∈ s, x < 8) → codeF a s < codeF b t
  | [], [], a, b, h, _, _ => h
  | [], _ :: _, _, _, _, h, _ => by simp at h
  | _ :: _, [], _, _, _, h, _ => by simp at h
  | x :: s, y :: t, a, b, h, hl, hs => by
    rw [codeF_cons, codeF_cons]
    have hx := hs x List.mem_cons_self
    exact codeF_lt s t _ _ (by omega) (by simpa using hl) fun z hz => hs z (List.mem_cons_of_mem _ hz)
theorem codeF_inj : ∀ (s t : List Nat) (a b : Nat), s.length = t.length → (∀ x ∈ s, x < 8) → (∀ x ∈ t, x < 8) → codeF a s = codeF b t → a = b ∧ s = t
  | [], [], a, b, _, _, _, h => ⟨h, rfl⟩
  | [], _ :: _, _, _, h, _, _, _ => by simp at h
  | _ :: _, [], _, _, h, _, _, _ => by simp at h
  | x :: s, y :: t, a, b, hl, hs, ht, h => by
    rw [codeF_cons, codeF_cons] at h
    obtain ⟨h1, h2⟩ := codeF_inj s t _ _ (by simpa using hl) (fun z hz => hs z (List.mem_cons_of_mem _ hz)) (fun z hz => ht z (List.mem_cons_of_mem _ hz)) h
    have hx := hs x List.mem_cons_self
    have hy := ht y List.mem_cons_self
    have e : x = y := by omega
    subst e h2
    exact ⟨by omega, rfl⟩
theorem codeF_ge (p : List Nat) : ∀ a : Nat, a ≤ codeF a p := by
  induction p with
  | nil => exact fun a => Nat.le_refl _
  | cons x p ih =>
    intro a
    have := ih (8 * a + (x + 1))
    rw [codeF_cons]
    omega
theorem code_len {p q : List Nat} (h : p.length < q.length) (hp : ∀ x ∈ p, x < 8) : code p < code q := by
  have e : q = q.take (q.length - p.length) ++ q.drop (q.length - p.length) := (List.take_append_drop _ _).symm
  have l1 : (q.take (q.length - p.length)).length = q.length - p.length := by
    rw [List.length_take]
    omega
  have l2 : (q.drop (q.length - p.length)).length = p.length := by
    rw [List.length_drop]
    omega
  generalize q.take (q.length - p.length) = u at e l1
  generalize q.drop (q.length - p.length) = v at e l2
  rw [e]
  show codeF 0 p < codeF 0 (u ++ v)
  rw [codeF_app]
  refine codeF_lt p v 0 _ ?_ l2.symm hp
  cases u with
  | nil =>
    simp at l1
    omega
  | cons x u =>
    have := codeF_ge u (8 * 0 + (x + 1))
    rw [codeF_cons]
    omega
theorem code_inj {p q : List Nat} (hp : ∀ x ∈ p, x < 8) (hq : ∀ x ∈ q, x < 8) (h : code p = code q) : p = q := by
  by_cases l : p.length = q.length
  · exact (codeF_inj p q 0 0 l hp hq h).2
  · by_cases l2 : p.length < q.length
    · have := code_len l2 hp
      omega
    · have := code_len (show q.length < p.length by omega) hq
      omega
def goal (tb : List (List Nat)) (k x : Nat) : Nat := (tb.getD k []).getD x 0
def leadF (tb : List (List Nat)) (k : Nat) (p : List Nat) : Nat := p.foldl (fun r x => goal tb r x) k
def lead (tb : List (List Nat)) (p : List Nat) : Nat := leadF tb 0 p
theorem lead_snoc (tb : List (List Nat)) (p : List Nat) (x : Nat) : lead tb (p ++ [x]) = goal tb (lead tb p) x := by
  unfold lead leadF
  rw [List.foldl_append]
  rfl
structure TbOk (tb : List (List Nat)) (n e : Nat) : Prop where
  len : tb.length = n
  pos : 1 ≤ n
  row : ∀ k, k < n → (tb.getD k []).length = e
  to : ∀ k x, k < n → x < e → goal tb k x < n
structure WaysOk (tb : List (List Nat)) (n e : Nat) (ws : List (Option (List Nat))) : Prop where
  len : ws.length = n
  zero : ws[0]? = some (some [])
  lead : ∀ (k : Nat) (p : List Nat), ws[k]? = some (some p) → lead tb p = k ∧ ∀ x ∈ p, x < e
  short : ∀ (k : Nat) (p : List Nat), ws[k]? = some (some p) → p.length ≤ n
  clo : ∀ (k : Nat) (p : List Nat), ws[k]? = some (some p) → ∀ x, x < e → ∃ p', ws[goal tb k x]? = some (some p') ∧ code p' ≤ 8 * code p + (x + 1)
theorem WaysOk.reach {tb : List (List Nat)} {n e : Nat} {ws : List (Option (List Nat))} (W : WaysOk tb n e ws) : ∀ (p : List Nat) (k c : Nat) (p1 : List Nat), (∀ x ∈ p, x < e) → ws[k]? = some (some p1) → code p1 ≤ c → ∃ p', ws[leadF tb k p]? = some (some p') ∧ code p' ≤ codeF c p
  | [], k, c, p1, _, h, hc => ⟨p1, h, hc⟩
  | x :: p, k, c, p1, hp, h, hc => by
    obtain ⟨p2, h2, hc2⟩ := W.clo k p1 h x (hp x List.mem_cons_self)
    exact W.reach p (goal tb k x) (8 * c + (x + 1)) p2 (fun z hz => hp z (List.mem_cons_of_mem _ hz)) h2 (by omega)
theorem WaysOk.least {tb : List (List Nat)} {n e : Nat} {ws : List (Option (List Nat))} (W : WaysOk tb n e ws) {k : Nat} {p : List Nat} (hp : ∀ x ∈ p, x < e) (h : Wy.lead tb p = k) : ∃ p', ws[k]? = some (some p') ∧ code p' ≤ code p := by
  subst h
  exact W.reach p 0 0 [] hp W.zero (Nat.le_refl _)
theorem WaysOk.unique {tb : List (List Nat)} {n e : Nat} {ws vs : List (Option (List Nat))} (he : e ≤ 8) (W : WaysOk tb n e ws) (U : WaysOk tb n e vs) : ws = vs := by
  have one : ∀ {ws vs : List (Option (List Nat))}, WaysOk tb n e ws → WaysOk tb n e vs → ∀ (k : Nat) (p : List Nat), ws[k]? = some (some p) → vs[k]? = some (some p) := fun {ws vs} W U k p h => by
    obtain ⟨h1, h2⟩ := W.lead k p h
    obtain ⟨p2, h3, h4⟩ := U.least h2 h1
    obtain ⟨h5, h6⟩ := U.lead k p2 h3
    obtain ⟨p3, h7, h8⟩ := W.least h6 h5
    rw [h] at h7
    cases h7
    rw [h3, code_inj (fun x hx => Nat.lt_of_lt_of_le (h6 x hx) he) (fun x hx => Nat.lt_of_lt_of_le (h2 x hx) he) (show code p2 = code p by omega)]
  apply List.ext_getElem?
  intro k
  have lw := W.len
  have lu := U.len
  by_cases hk : k < n
  · have e1 : ws[k]? = some ws[k] := List.getElem?_eq_getElem (by omega)
    have e2 : vs[k]? = some vs[k] := List.getElem?_eq_getElem (by omega)
    cases z1 : ws[k] with
    | some p =>
      rw [z1] at e1
      rw [e1, one W U k p e1]
    | none =>
      cases z2 : vs[k] with
      | none => rw [e1, e2, z1, z2]
      | some p =>
        rw [z2] at e2
        have := one U W k p e2
        rw [e1, z1] at this
        cases this
  · rw [List.getElem?_eq_none (by omega), List.getElem?_eq_none (by omega)]
def lk (pm : List (Nat × List Nat)) (k : Nat) : Option (List Nat) := (pm.find? fun kp => kp.1 == k).map (·.2)
theorem lk_cons (kp : Nat × List Nat) (pm : List (Nat × List Nat)) (k : Nat) : lk (kp :: pm) k = if kp.1 = k then some kp.2 else lk pm k := by
  unfold lk
  rw [List.find?_cons]
  by_cases h : kp.1 = k
  · rw [if_pos h, show (kp.1 == k) = true from beq_iff_eq.mpr h]
    rfl
  · rw [if_neg h, show (kp.1 == k) = false from beq_eq_false_iff_ne.mpr h]
theorem lk_mem {k : Nat} {p : List Nat} : ∀ {pm : List (Nat × List Nat)}, lk pm k = some p → (k, p) ∈ pm
  | [], h => by cases h
  | kp :: pm, h => by
    rw [lk_cons] at h
    by_cases e : kp.1 = k
    · rw [if_pos e] at h
      cases h
      subst e
      exact List.mem_cons_self
    · rw [if_neg e] at h
      exact List.mem_cons_of_mem _ (lk_mem h)
theorem lk_of {k : Nat} {p : List Nat} : ∀ {pm : List (Nat × List Nat)}, (pm.map (·.1)).Nodup → (k, p) ∈ pm → lk pm k = some p
  | [], _, h => by cases h
  | kp :: pm, nd, h => by
    rw [lk_cons]
    rw [List.map_cons, List.nodup_cons] at nd
    rcases List.mem_cons.mp h with e | h
    · subst e
      rw [if_pos rfl]
    · by_cases e : kp.1 = k
      · exfalso
        exact nd.1 (List.mem_map.mpr ⟨_, h, e.symm⟩)
      · rw [if_neg e]
        exact lk_of nd.2 h
theorem lk_none {k : Nat} : ∀ {pm : List (Nat × List Nat)}, lk pm k = none → k ∉ pm.map (·.1)
  | [], _ => by simp
  | kp :: pm, h => by
    rw [lk_cons] at h
    by_cases e : kp.1 = k
    · rw [if_pos e] at h
      cases h
    · rw [if_neg e] at h
      rw [List.map_cons, List.mem_cons]
      rintro (z | z)
      · exact e z.symm
      · exact lk_none h z
theorem lk_app {k : Nat} {p : List Nat} (kp : Nat × List Nat) : ∀ {pm : List (Nat × List Nat)}, lk pm k = some p → lk (pm ++ [kp]) k = some p
  | [], h => by cases h
  | x :: pm, h => by
    rw [lk_cons] at h
    rw [List.cons_append, lk_cons]
    by_cases e : x.1 = k
    · rw [if_pos e] at h ⊢
      exact h
    · rw [if_neg e] at h ⊢
      exact lk_app kp h
theorem nodup_lt : ∀ (n : Nat) (l : List Nat), l.Nodup → (∀ x ∈ l, x < n) → l.length ≤ n
  | 0, [], _, _ => Nat.le_refl _
  | 0, x :: l, _, h => absurd (h x List.mem_cons_self) (Nat.not_lt_zero _)
  | n + 1, l, nd, h => by
    have h1 := nodup_lt n (l.erase n) (nd.erase n) fun x hx => by
      have h2 := (nd.mem_erase_iff).mp hx
      have h3 := h x h2.2
      omega
    have h4 := List.length_erase (a := n) (l := l)
    split at h4 <;> omega
structure Bf (tb : List (List Nat)) (n e : Nat) (pm : List (Nat × List Nat)) (i x : Nat) : Prop where
  head : pm[0]? = some (0, [])
  nodup : (pm.map (·.1)).Nodup
  rng : ∀ kp ∈ pm, kp.1 < n ∧ lead tb kp.2 = kp.1 ∧ ∀ y ∈ kp.2, y < e
  srt : pm.Pairwise fun a b => code a.2 < code b.2
  len : ∀ (j : Nat) (kp : Nat × List Nat), pm[j]? = some kp → kp.2.length ≤ j
  clo : ∀ (j : Nat) (kp : Nat × List Nat), pm[j]? = some kp → ∀ y, y < e → (j < i ∨ (j = i ∧ y < x)) → ∃ p', lk pm (goal tb kp.1 y) = some p' ∧ code p' ≤ 8 * code kp.2 + (y + 1)
  bnd : ∀ c : Nat × List Nat, pm[i]? = some c → ∀ kp ∈ pm, code kp.2 ≤ 8 * code c.2 + x
section
variable {tb : List (List Nat)} {n e : Nat} {pm : List (Nat × List Nat)} {i x : Nat}
theorem Bf.init (T : TbOk tb n e) : Bf tb n e [(0, [])] 0 0 where
  head := rfl
  nodup := by simp
  rng := fun kp h => by
    rw [List.mem_singleton.mp h]
    exact ⟨T.pos, rfl, fun y hy => by cases hy⟩
  srt := List.pairwise_singleton _ _
  len := fun j kp h => by
    cases j with
    | zero =>
      cases h
      exact Nat.le_refl _
    | succ j => simp at h
  clo := fun j kp h y _ z => by omega
  bnd := fun c h kp hk => by
    rw [List.mem_singleton.mp hk]
    exact Nat.zero_le _
theorem Bf.size (B : Bf tb n e pm i x) : pm.length ≤ n := by
  have := nodup_lt n (pm.map (·.1)) B.nodup fun k hk => by
    obtain ⟨kp, h, rfl⟩ := List.mem_map.mp hk
    exact (B.rng kp h).1
  rwa [List.length_map] at this
theorem Bf.hit (B : Bf tb n e pm i x) {c : Nat × List Nat} (hc : pm[i]? = some c) {p : List Nat} (h : lk pm (goal tb c.1 x) = some p) : Bf tb n e pm i (x + 1) where
  head := B.head
  nodup := B.nodup
  rng := B.rng
  srt := B.srt
  len := B.len
  clo := fun j kp hj y hy z => by
    by_cases w : j = i ∧ y = x
    · obtain ⟨rfl, rfl⟩ := w
      rw [hc] at hj
      cases hj
      refine ⟨p, h, ?_⟩
      have := B.bnd c hc _ (lk_mem h)
      show code p ≤ _
      have this : code p ≤ 8 * code c.2 + y := this
      omega
    · exact B.clo j kp hj y hy (by omega)
  bnd := fun c hc kp hk => by
    have := B.bnd c hc kp hk
    omega
theorem Bf.new (T : TbOk tb n e) (B : Bf tb n e pm i x) {c : Nat × List Nat} (hc : pm[i]? = some c) (hx : x < e) (h : lk pm (goal tb c.1 x) = none) : Bf tb n e (pm ++ [(goal tb c.1 x, c.2 ++ [x])]) i (x + 1) where
  head := by
    rw [List.getElem?_append_left (List.getElem?_eq_some_iff.mp B.head).1]
    exact B.head
  nodup := by
    rw [List.map_append]
    refine List.nodup_append.mpr ⟨B.nodup, by simp, fun a ha b hb => ?_⟩
    rw [List.map_cons, List.map_nil, List.mem_singleton] at hb
    subst hb
    intro z
    subst z
    exact lk_none h ha
  rng := fun kp hk => by
    rcases List.mem_append.mp hk with hk | hk
    · exact B.rng kp hk
    · rw [List.mem_singleton.mp hk]
      have hm := List.mem_of_getElem? hc
      obtain ⟨h1, h2, h3⟩ := B.rng c hm
      refine ⟨T.to _ _ h1 hx, ?_, fun y hy => ?_⟩
      · rw [lead_snoc, h2]
      · rcases List.mem_append.mp hy with hy | hy
        · exact h3 y hy
        · rw [List.mem_singleton.mp hy]
          exact hx
  srt := by
    refine List.pairwise_append.mpr ⟨B.srt, List.pairwise_singleton _ _, fun a ha b hb => ?_⟩
    rw [List.mem_singleton.mp hb]
    have := B.bnd c hc a ha
    show code a.2 < code (c.2 ++ [x])
    rw [code_snoc]
    omega
  len := fun j kp hj => by
    by_cases w : j < pm.length
    · rw [List.getElem?_append_left w] at hj
      exact B.len j kp hj
    · have hi := (List.getElem?_eq_some_iff.mp hc).1
      have l1 := B.len i c hc
      rw [List.getElem?_append_right (by omega)] at hj
      have hj' := (List.getElem?_eq_some_iff.mp hj).1
      have ej : j - pm.length = 0 := by simpa using hj'
      rw [ej] at hj
      cases hj
      show (c.2 ++ [x]).length ≤ j
      rw [List.length_append, List.length_singleton]
      omega
  clo := fun j kp hj y hy z => by
    have hi := (List.getElem?_eq_some_iff.mp hc).1
    have hj2 : j < pm.length := by omega
    rw [List.getElem?_append_left hj2] at hj
    by_cases w : j = i ∧ y = x
    · obtain ⟨rfl, rfl⟩ := w
      rw [hc] at hj
      cases hj
      refine ⟨c.2 ++ [y], ?_, by rw [code_snoc]; exact Nat.le_refl _⟩
      have nd : ((pm ++ [(goal tb c.1 y, c.2 ++ [y])]).map (·.1)).Nodup := by
        rw [List.map_append]
        refine List.nodup_append.mpr ⟨B.nodup, by simp, fun a ha b hb => ?_⟩
        rw [List.map_cons, List.map_nil, List.mem_singleton] at hb
        subst hb
        intro z
        subst z
        exact lk_none h ha
      exact lk_of nd (List.mem_append_right _ (List.mem_singleton.mpr rfl))
    · obtain ⟨p', h1, h2⟩ := B.clo j kp hj y hy (by omega)
      exact ⟨p', lk_app _ h1, h2⟩
  bnd := fun c' hc' kp hk => by
    have hi := (List.getElem?_eq_some_iff.mp hc).1
    rw [List.getElem?_append_left hi, hc] at hc'
    cases hc'
    rcases List.mem_append.mp hk with hk | hk
    · have := B.bnd c hc kp hk
      omega
    · rw [List.mem_singleton.mp hk]
      show code (c.2 ++ [x]) ≤ _
      rw [code_snoc]
      omega
theorem Bf.next (B : Bf tb n e pm i e) (he : e ≤ 8) {c : Nat × List Nat} (hc : pm[i]? = some c) : Bf tb n e pm (i + 1) 0 where
  head := B.head
  nodup := B.nodup
  rng := B.rng
  srt := B.srt
  len := B.len
  clo := fun j kp hj y hy z => B.clo j kp hj y hy (by omega)
  bnd := fun c' hc' kp hk => by
    have h1 := B.bnd c hc kp hk
    obtain ⟨hi, e1⟩ := List.getElem?_eq_some_iff.mp hc
    obtain ⟨hi', e2⟩ := List.getElem?_eq_some_iff.mp hc'
    have h2 := List.pairwise_iff_getElem.mp B.srt i (i + 1) hi hi' (Nat.lt_succ_self _)
    rw [e1, e2] at h2
    omega
theorem Bf.done (T : TbOk tb n e) (B : Bf tb n e pm i 0) (hi : pm.length ≤ i) : WaysOk tb n e ((List.range n).map (lk pm)) := by
  have at' : ∀ k p, ((List.range n).map (lk pm))[k]? = some (some p) ↔ k < n ∧ lk pm k = some p := fun k p => by
    rw [List.getElem?_map]
    by_cases hk : k < n
    · rw [List.getElem?_range hk]
      simp [hk]
    · rw [List.getElem?_eq_none (by simpa using hk)]
      simp [hk]
  refine ⟨by simp, (at' 0 []).mpr ⟨T.pos, ?_⟩, fun k p h => ?_, fun k p h => ?_, fun k p h y hy => ?_⟩
  · exact lk_of B.nodup (List.mem_of_getElem? B.head)
  · obtain ⟨h1, h2⟩ := (at' k p).mp h
    exact (B.rng _ (lk_mem h2)).2
  · obtain ⟨h1, h2⟩ := (at' k p).mp h
    obtain ⟨j, hj⟩ := List.getElem?_of_mem (lk_mem h2)
    have := B.len j _ hj
    have h3 := (List.getElem?_eq_some_iff.mp hj).1
    have h4 := B.size
    show p.length ≤ n
    have this : p.length ≤ j := this
    omega
  · obtain ⟨h1, h2⟩ := (at' k p).mp h
    obtain ⟨j, hj⟩ := List.getElem?_of_mem (lk_mem h2)
    have h3 := (List.getElem?_eq_some_iff.mp hj).1
    obtain ⟨p', h4, h5⟩ := B.clo j _ hj y hy (.inl (by omega))
    exact ⟨p', (at' _ _).mpr ⟨T.to k y h1 hy, h4⟩, h5⟩
end
end Wy

namespace L2
open PySem
/-! a row of written constants, at once -/
def conE : Expr → Option V
  | .Constant (.int i) _ _ => some (.int i)
  | .Constant (.str z) _ _ => some (.str z)
  | .UnaryOp .USub (.Constant (.int i) _ _) _ => some (.int (-i))
  | _ => none
def conEs : List Expr → Option (List V)
  | [] => some []
  | e :: es => match conE e, conEs es with
    | some v, some vs => some (v :: vs)
    | _, _ => none
section
variable {X : Cx}
theorem con_ok {e : Expr} {v : V} (h : conE e = some v) : PE X e (fun _ H Q => Q v H) ∧ ∀ es, starEach (e :: es) X.env = (false, eval e X.env) :: starEach es X.env := by
  unfold conE at h
  split at h
  · cases h
    exact ⟨pe_int, fun _ => rfl⟩
  · cases h
    exact ⟨pe_str, fun _ => rfl⟩
  · cases h
    refine ⟨fun pins s σ H Q I h => ?_, fun _ => rfl⟩
    exact (pe_un un_neg pe_int) pins s σ H Q I ⟨_, rfl, h⟩
  · cases h
theorem pa_consts : ∀ {es : List Expr} {vs : List V}, conEs es = some vs → PA X es (fun _ H Q => Q vs H)
  | [], vs, h => by
    cases h
    exact pa_nil
  | e :: es, vs, h => by
    unfold conEs at h
    split at h
    · rename_i v vs' h1 h2
      cases h
      obtain ⟨a, b⟩ := con_ok (X := X) h1
      exact pa_cons a (pa_consts h2) (b es)
    · cases h
end
/-! closed-up forms of the layer's readings, whose insides the unifier does not open -/
structure RE (X : Cx) (e : Expr) (t : TE) : Prop where
  p : PE X e t
structure RS (X : Cx) (st : Stmt) (t : TS) : Prop where
  p : PS X st t
structure RSs (X : Cx) (st : List Stmt) (t : TS) : Prop where
  p : PSs X st t
structure RA (X : Cx) (es : List Expr) (t : TA) : Prop where
  p : PA X es t
section
variable {X : Cx} {e a b c : Expr} {es : List Expr} {te ta tb : TE} {tc : TT} {tr : TA} {pos : Pos} {st : Stmt} {ss rest : List Stmt} {t u : TS}
theorem r_one (h : RS X st t) : RSs X [st] t := ⟨pss_one h.p⟩
theorem r_cons (h : RS X st t) (h2 : RSs X rest u) : RSs X (st :: rest) (tSeq t u) := ⟨pss_cons h.p h2.p⟩
theorem r_cut (h : RS X st t) (h2 : RSs X rest u) : RSs X (st :: rest) (tCut t u) := ⟨pss_cut h.p h2.p⟩
theorem r_if (hc : PT X c tc) (ha : RSs X ss t) (hb : PSs X rest u) : RS X (.If c ss rest pos) (tIfS tc t u) := ⟨ps_if hc ha.p hb⟩
theorem r_ret (h : RE X e te) : RS X (.Return (some e) pos) (tRet te) := ⟨ps_ret h.p⟩
theorem r_st (h : PS X st t) : RS X st t := ⟨h⟩
theorem r_set {i : Nat} {x : Str} {pos' : Pos} (hN : X.N.Nodup) (hi : X.N[i]? = some x) (hx : Loc X.env.scope x) (he : RE X e te) (hs : swapsWith e (some (.Name x pos')) pos.line X.env = pure false := by rfl) (hf : X.fn x = true ∨ X.env.scope.names.lookup x = some .local := by first | exact .inl rfl | exact .inr rfl | assumption) : RS X (.Assign [.Name x pos'] e pos) (tAsg te (gName i)) := ⟨ps_set hN hi hx he.p hs hf⟩
theorem r_e (h : PE X e te) : RE X e te := ⟨h⟩
theorem r_ixL (ha : RE X a ta) (hb : PE X b tb) (hs : PlainIx b) : RE X (.Subscript a b pos) (tOp (rIxL X.K) ta tb) := ⟨pe_ix ix_list ha.p hb hs⟩
theorem r_lst (h : RA X es tr) : RE X (.List es pos) (tLst tr) := ⟨pe_lst h.p⟩
theorem ra_con {vs : List V} (h : conEs es = some vs) : RA X es (fun _ H Q => Q vs H) := ⟨pa_consts h⟩
theorem ra_c (ha : PE X e te) (hr : RA X es tr) (hs : ∀ es, starEach (e :: es) X.env = (false, eval e X.env) :: starEach es X.env := by intro _; rfl) : RA X (e :: es) (tCons te tr) := ⟨pa_cons ha hr.p (hs es)⟩
end
end L2

namespace PySem
open Sem (wp)
namespace Rv
/-! tuple(reversed(xs)): what the tuple's maker collects from a list's backward iterator -/
theorem noLen : typeLookup (.type "list_reverseiterator") "__len__" = pure none := by
  rw [typeLookup_type, builtinLookup_eq_fast]; kernel_rfl
theorem hasHint : typeLookup (.type "list_reverseiterator") "__length_hint__" = pure (some (.builtin "list_reverseiterator.__length_hint__")) := by
  rw [typeLookup_type, builtinLookup_eq_fast]; kernel_rfl
section
variable {prog : Program} {w : World} {A : Around} {E : Value → Shared → Prop} {s : Shared} {I : Addr} {fp wr : List Addr} {G : Array GenState → Array GenState → Prop} {n : Nat} {P : Nat → Value → Prop} {St : Nat → Shared → Prop}
theorem collectRev {Q : List Value → Shared → Prop} (W : WalksS prog w A.in1 I fp wr G n P St) (ty : ∀ i s, St i s → s.TypeIs (.ref I) "list_reverseiterator") (st0 : St 0 s) (low : ∀ b ∈ fp, b < s.heap.objs.size) (inI : I ∈ fp)
    (fin : ∀ s' acc, Moved wr G s s' → ItemsOf P acc n → Q acc.toList s') (hn : n ≤ sizeLine) : wpAny (model prog w) A (collect (.ref I)) Q E s := by
  have newF : s.heap.objs.size ∉ fp := fun m => Nat.lt_irrefl _ (low _ m)
  have newI : s.heap.objs.size ≠ I := fun e => newF (e ▸ inI)
  unfold collect; refine wpAny_bind (wpAny_runValue (codeAny_builtin F.entry_proto_collect ?_)); rw [Around.under_plainId F.plain_proto_collect _]
  show wpAny _ A.in1 (newList [] >>= fun l => again (.builtin "list.__iadd__" ⟨[l, .ref I], []⟩)) _ _ s; refine wpAny_bind (wpAny_newObj_type ?_)
  refine wpAny_pure ⟨plainId_quiet F.plain_list_iadd _, codeAny_builtin F.entry_list_iadd ?_⟩; rw [Around.under_plainId F.plain_list_iadd _]
  have st1 := W.frame 0 s (s.heap.push { cls := .type "list", data := .seq ([] : List Value).toArray }) s.toks st0 (Nat.le_refl _) fun b _ ob e => Heap.get?_push_of_some _ e
  have at1 : (s.heap.push { cls := .type "list", data := .seq ([] : List Value).toArray }).get? s.heap.objs.size = some { cls := .type "list", data := .seq ([] : List Value).toArray } := Heap.get?_push_size s.heap rfl
  have other : Builtin.List.listSameRef (.ref s.heap.objs.size) (.ref I) = false := by simp [Builtin.List.listSameRef, newI]
  show wpAny _ A.in1 (Builtin.List.listExtendWith (.ref s.heap.objs.size) (.ref I) (.ref s.heap.objs.size)) _ _ _; unfold Builtin.List.listExtendWith
  refine wpAny_bind (wpAny_typeOf (ty 0 _ st1) ?_); rw [if_neg (by rw [other]; decide)]
  refine wpAny_bind (W.self 0 _ _ _ st1 ?_); refine wpAny_bind (wpAny_holding ?_); unfold Builtin.List.listLengthHint
  refine wpAny_bind (wpAny_specialOf (ty 0 _ st1) noLen ?_)
  show wpAny _ A.in1 (specialOf (Value.ref I) (Str.ofString "__length_hint__") >>= _) _ _ _; refine wpAny_bind (wpAny_specialOf (ty 0 _ st1) hasHint ?_)
  (generalize hid : ("list_reverseiterator.__length_hint__" : String) = id0; (fail_if_success (clear hid id0)); wp_delta; rw [show splitId id0 = some ("list_reverseiterator", "__length_hint__") from by subst hid; decide +kernel]; subst hid)
  refine wpAny_bind (wpAny_isInstance (b := true) (ty 0 _ st1) (by rw [isSubtype_type]; kernel_rfl) ?_); refine wpAny_pure ?_; rw [if_neg (by decide)]
  refine wpAny_pure ⟨plainId_quiet F.plain_extend_loop _, codeAny_extend_loopS W hn _ newF _ n 0 _ _ _ rfl (Nat.zero_le _) st1 at1 (ItemsOf.nil P) fun s' acc' c' hm hS' hacc => ?_⟩
  show wpAny _ A (load s.heap.objs.size >>= _) _ _ s'; refine wpAny_bind (wpAny_load hS' ?_)
  exact wpAny_pure (fin s' acc' (Moved.drop_new (o := { cls := .type "list", data := .seq ([] : List Value).toArray }) (tk := s.toks) hm (Nat.le_refl _)) hacc)
theorem codeTupleRev {Q₁ : Value → Shared → Prop} (W : WalksS prog w A.in1.in1 I fp wr G n P St) (ty : ∀ i s, St i s → s.TypeIs (.ref I) "list_reverseiterator") (st0 : St 0 s) (low : ∀ b ∈ fp, b < s.heap.objs.size) (inI : I ∈ fp)
    (fin : ∀ s' acc, Moved wr G s s' → ItemsOf P acc n → Q₁ (.ref s'.heap.objs.size) { s' with heap := s'.heap.push { cls := .type "tuple", data := .seq acc } }) (hsz : n ≤ sizeLine) :
    codeAny (model prog w) A (.call (.builtin "tuple.__new__") ⟨[.type "tuple", .ref I], []⟩) (wants Q₁ E) s := by
  refine codeAny_of_tree ?_
  show wpAny _ A.in1 (do checkBuiltinCall "tuple.__new__" ⟨[.type "tuple", .ref I], []⟩; again (.builtin "tuple.__new__" ⟨[.type "tuple", .ref I], []⟩)) _ _ s
  refine wpAny_bind (wpAny_of_eq (F.newCall_tuple_1 _) (wpAny_pure ⟨plainId_quiet F.plain_tuple_new _, codeAny_builtin F.entry_tuple_new ?_⟩)); rw [Around.under_plainId F.plain_tuple_new _]
  have a1 := sub_tuple_self
  have a2 := init_tuple_lookup
  have a3 := madeHere_tuple
  have a4 := ty 0 s st0
  wp_walk using wpAny_typeOf a4, collectRev (hn := hsz) W ty st0 low inI
  intro s' acc hm hacc
  show wpAny _ _ (Builtin.Tuple.tupleExact acc.toList.toArray >>= fun v => ret v) _ _ _; unfold Builtin.Tuple.tupleExact
  refine wpAny_bind (wpAny_newObj_type ?_ (by show acc.toList.toArray.size ≤ sizeLine; simp only [Array.toArray_toList]; rw [hacc.1]; exact hsz)); refine wpAny_pure ?_
  rw [show acc.toList.toArray = acc by simp]
  exact fin s' acc hm hacc
theorem callTupleRev {Q : Value → Shared → Prop} (W : WalksS prog w A.in1.in1.in1 I fp wr G n P St) (ty : ∀ i s, St i s → s.TypeIs (.ref I) "list_reverseiterator") (st0 : St 0 s) (low : ∀ b ∈ fp, b < s.heap.objs.size) (inI : I ∈ fp)
    (fin : ∀ s' acc, Moved wr G s s' → ItemsOf P acc n → Q (.ref s'.heap.objs.size) { s' with heap := s'.heap.push { cls := .type "tuple", data := .seq acc } }) (hsz : n ≤ sizeLine) :
    wpAny (model prog w) A (call (.type "tuple") [.ref I]) Q E s := by
  refine callType_codes (Q₁ := fun obj s₁ => s₁.TypeIs obj "tuple" ∧ Q obj s₁) F.called_tuple (F.typeCall_tuple_1 _) F.entry_object_init
    (codeTupleRev W ty st0 low inI (fun s' acc hm hacc => ⟨⟨_, Heap.get?_push_size _ rfl, rfl⟩, fin s' acc hm hacc⟩) hsz) fun obj s₁ h₁ => ?_
  exact ⟨h₁.1, F.args_object_init_2 obj _, object_init_meets F.called_tuple.init.lookup F.called_tuple.made (by decide) prog w A.in1 _ s₁ ⟨h₁.1, rfl, h₁.2⟩⟩
end
end Rv
end PySem
namespace L2
open PySem PySem.Spec PyProof.Rows
section
variable {X : Cx}
theorem Vals.rev {xs : List V} {us : List Value} (h : Vals xs us) : Vals xs.reverse us.reverse := Vals.reverse h
theorem items_rev {its : List Value} {acc : Array Value} (h : ItemsOf (fun i v => its.toArray[its.toArray.size - 1 - i]? = some v) acc its.toArray.size) : acc.toList = its.reverse := by
  obtain ⟨h1, h2⟩ := h
  have h1' : acc.size = its.length := by rw [h1, List.size_toArray]
  apply List.ext_getElem?
  intro i
  by_cases hi : i < acc.size
  · have e : acc.toList[i]? = some acc[i] := by simp [hi]
    have q := h2 i acc[i] (by simp [hi])
    rw [List.size_toArray] at q
    rw [e, List.getElem?_reverse (by omega)]
    have q' : its[its.length - 1 - i]? = some acc[i] := by simpa using q
    exact q'.symm
  · have e1 : acc.toList[i]? = none := by simp; omega
    have e2 : its.reverse[i]? = none := by simp; omega
    rw [e1, e2]
/-- tuple(reversed(a)), a a list: the iterator between is nobody's -/
def tTR (K : PySem.W.Frag) (t : TA) : TE := fun σ H Q => t σ H fun vs H1 => ∃ (p : Addr) (ys : List V), vs = [.ref p] ∧ SqL K H1 p ys ∧ ∀ q, H1 q = none → Q (.ref q) (upd H1 q (.tup ys.reverse))
theorem pe_tupleRev {a : Expr} {t : TA} {p1 p2 pos pos2 : Pos} (hc : X.calm = true) (hg : Gl X "tuple") (hm : X.mg "tuple" = none) (hg2 : Gl X "reversed") (hm2 : X.mg "reversed" = none) (ha : PA X [a] t)
    (he : starEach [a] X.env = [(false, eval a X.env)] := by rfl) (he2 : starEach [.Call (.Name "reversed" p2) [a] [] pos2] X.env = [(false, eval (.Call (.Name "reversed" p2) [a] [] pos2) X.env)] := by rfl) :
    PE X (.Call (.Name "tuple" p1) [.Call (.Name "reversed" p2) [a] [] pos2] [] pos) (tTR X.K t) := by
  intro pins s σ H Q I h
  refine wpAny_Call_Name_kw (ld_blt I hg hm PyProof.Rows.boot_tuple ?_)
  refine PyProof.Rows.callWith_type1 ?_ he2 rfl
  rw [he2]
  show wpAny _ _ (spliced ((false, eval (.Call (.Name "reversed" p2) [a] [] pos2) X.env) :: [])) _ _ s
  refine Calls.spliced_cons ?_
  refine wpAny_Call_Name_kw (ld_blt I hg2 hm2 PyProof.Rows.boot_reversed ?_)
  refine PyProof.Rows.callWith_type1 (thn (ha pos2 pins s σ H _ I h) fun us s1 ⟨vs, H1, I1, r1, q1⟩ => ?_) he rfl
  obtain ⟨p, ys, rfl, hq, q⟩ := q1
  obtain ⟨u, rfl, rx⟩ := vals1 r1
  cases rx
  obtain ⟨its, rv, pl, hz⟩ := I1.list hq
  have hlen := rv.length
  have hP : p < s1.heap.objs.size := by
    obtain ⟨o, ho, _⟩ := pl.isList
    exact Heap.lt_size ho
  have hsz : its.toArray.size = its.length := List.size_toArray
  refine call_reversed_list pl.isList (Calls.spliced_nil ?_)
  have I2 : Inv X pins σ H1 { s1 with heap := s1.heap.push (revObj p ((its.toArray.size : Int) - 1)) } := I1.kept (t' := s1.toks) fun b o e => Heap.get?_push_of_some _ e
  have fI : FpOk X pins H1 s1.heap.objs.size := I1.fpOk (Nat.le_refl _) (I1.hok.fresh (Nat.le_refl _))
  refine Rv.callTupleRev (Walks.listRev (prog := X.prog) (w := X.w) (A := X.A.in1.in1.in1) (I.ok.hd hc) s1.heap.objs.size p (Nat.ne_of_lt hP) its.toArray).toS (fun i s' x => x.2.1.typeIs) ⟨Nat.zero_le _, ⟨_, Heap.get?_push_size _ rfl, rfl, ?_⟩, pl.isList.at fun o e => Heap.get?_push_of_some _ e⟩ (fun b hb => ?_) (by simp) (fun s' acc hmv hacc => ?_) (by rw [hsz, ← hlen]; exact hz)
  · show Data.fields #[.ref p, rawInt ((its.toArray.size : Int) - 1)] = Data.fields #[.ref p, rawInt ((its.toArray.size : Int) - 1 - ((0 : Nat) : Int))]
    rw [show ((its.toArray.size : Int) - 1 - ((0 : Nat) : Int)) = (its.toArray.size : Int) - 1 by omega]
  · show b < (s1.heap.push (revObj p ((its.toArray.size : Int) - 1))).objs.size
    rw [Heap.size_push]
    rcases List.mem_cons.mp hb with rfl | hb
    · exact Nat.lt_succ_self _
    · rw [List.mem_singleton.mp hb]
      exact Nat.lt_succ_of_lt hP
  have e1 : s'.gens = s1.gens := hmv.gens
  have e2 : s'.drawn = s1.drawn := hmv.drawn
  have e3 : s'.os = s1.os := hmv.os
  have hk : ∀ b ob, b ≠ s1.heap.objs.size → (s1.heap.push (revObj p ((its.toArray.size : Int) - 1))).get? b = some ob → s'.heap.get? b = some ob := fun b ob hb e => hmv.heap b ob (fun z => hb (by simpa using z)) e
  have ea := items_rev hacc
  obtain ⟨h', g', d', tk', os'⟩ := s'
  have e1' : g' = s1.gens := e1
  have e2' : d' = s1.drawn := e2
  have e3' : os' = s1.os := e3
  subst e1' e2' e3'
  have J : Inv X pins σ H1 { s1 with heap := h', toks := tk' } := I2.turned (h' := h') (t' := tk') hk fI.1 fI.2.1 fI.2.2.2.1 fI.2.2.2.2.1 fI.2.2.2.2.2
  have eb : acc = its.reverse.toArray := by rw [← ea]
  refine ⟨.ref h'.objs.size, _, J.laid (t' := tk') (o := .tup ys.reverse) (fun b o e => Heap.get?_push_of_some _ e) (Nat.le_refl _) ?_, rfl, q _ (J.hok.fresh (Nat.le_refl _))⟩
  subst eb
  exact ⟨by rw [List.length_reverse]; exact hz, its.reverse, Vals.rev rv, IsTup.new _ _⟩
/-- t + u where t is the empty tuple: u itself -/
theorem op_catT0 : OpR X (binaryOp .Add) (fun x y H Q => ∃ (a b : Addr) (ys : List V), x = .ref a ∧ y = .ref b ∧ SqT X.K H a [] ∧ SqT X.K H b ys ∧ Q (.ref b) H) := by
  intro pins s σ H x y v u Q I rx ry h
  obtain ⟨a, b, ys, rfl, rfl, ha, hb, q⟩ := h
  cases rx
  cases ry
  obtain ⟨its, r1, p1, _⟩ := I.tuple ha
  obtain ⟨its2, r2, p2, _⟩ := I.tuple hb
  have e0 : its = [] := r1.nil_iff.mpr rfl
  subst e0
  obtain ⟨⟨cls, dd, data, sl⟩, ho, hc, n, hd⟩ := id p1
  obtain ⟨⟨cls2, dd2, data2, sl2⟩, ho2, hc2, n2, hd2⟩ := id p2
  simp only at hc hd hc2 hd2
  subst hc hd hc2 hd2
  exact concat_meets ⟨_, ho, rfl⟩ ⟨_, ho2, rfl⟩ noFill_tuple_add seq_tuple_add PySem.F.slot_tuple_add PySem.F.entry_tuple_add (PySem.F.args_tuple_add_2 _ _) (tuple_addW0 a b _ _ n n2 dd dd2 sl sl2 (by simp)) ⟨ho, ho2, ⟨.ref b, H, I, rfl, q⟩⟩
end
end L2

namespace L2
open PySem
/-! items of a display whose kind is plain at sight: the rest is not looked at -/
section
variable {X : Cx} {es : List Expr} {te : TE} {t : TA}
theorem pa_k {k : Const} {j : Nat} {p : Pos} (ha : PE X (.Constant k j p) te) (hr : PA X es t) : PA X (.Constant k j p :: es) (tCons te t) := pa_cons ha hr rfl
theorem pa_u {o : UnaryOp} {e : Expr} {p : Pos} (ha : PE X (.UnaryOp o e p) te) (hr : PA X es t) : PA X (.UnaryOp o e p :: es) (tCons te t) := pa_cons ha hr rfl
theorem pa_b {o : Operator} {a b : Expr} {p : Pos} (ha : PE X (.BinOp a o b p) te) (hr : PA X es t) : PA X (.BinOp a o b p :: es) (tCons te t) := pa_cons ha hr rfl
end
end L2

namespace L2
open PySem PySem.Spec PyProof.Rows
section
variable {X : Cx} {a b c : Expr} {ta tb tc : TE} {pos : Pos}
/-- a op1 b op2 c of ints, c a calm expression: one truth -/
def tChV (p p' : Int → Int → Bool) (ta tb tc : TE) : TE := fun σ H Q => ta σ H fun x H1 => tb σ H1 fun y H2 => ∃ i j k, x = .int i ∧ y = .int j ∧ tc σ H2 (fun z H3 => z = .int k ∧ H3 = H2) ∧ Q (.bl (p i j && p' j k)) H2
theorem pe_chV {op op' : CmpOp} {p p' : Int → Int → Bool} (ho : OpR X (compareOp op) (rI0 fun i j => .bl (p i j))) (ho' : OpR X (compareOp op') (rI0 fun i j => .bl (p' i j))) (ha : PE X a ta) (hb : PE X b tb) (hc : PE X c tc)
    (hm : lastMarks [op, op'] [b, c] = false := by with_unfolding_all rfl) : PE X (.Compare a [op, op'] [b, c] pos) (tChV p p' ta tb tc) := by
  intro pins s σ H Q I h
  refine Compare_chain (thn (ha pins s σ H _ I h) fun v s1 ⟨x, H1, I1, r1, q1⟩ => chain_link (thn (hb pins s1 σ H1 _ I1 q1) fun u s2 ⟨y, H2, I2, r2, q2⟩ => ?_)) hm
  obtain ⟨i, j, k, rfl, rfl, tq, q⟩ := q2
  refine thn (ho pins s2 σ H2 _ _ v u (fun z H3 => z = .bl (p i j) ∧ H3 = H2) I2 r1 r2 ⟨i, j, rfl, rfl, rfl, rfl⟩) fun d s3 ⟨z, H3, I3, r3, e1, e2⟩ => ?_
  subst e1 e2
  cases r3
  refine wpAny_truthy_bool ?_
  cases e : p i j with
  | false =>
    rw [e, Bool.false_and] at q
    exact ite_ff ⟨.bl false, _, I3, rfl, q⟩
  | true =>
    rw [e, Bool.true_and] at q
    exact ite_tt (chain_last (thn (hc pins s3 σ _ _ I3 tq) fun w' s4 ⟨z', H4, I4, r4, e3, e4⟩ => by
      subst e3 e4
      exact ho' pins s4 σ _ _ _ u w' Q I4 r2 r4 ⟨j, k, rfl, rfl, q⟩))
theorem pt_chV {op op' : CmpOp} {p p' : Int → Int → Bool} (ho : OpR X (compareOp op) (rI0 fun i j => .bl (p i j))) (ho' : OpR X (compareOp op') (rI0 fun i j => .bl (p' i j))) (ha : PE X a ta) (hb : PE X b tb) (hc : PE X c tc)
    (hm : lastMarks [op, op'] [b, c] = false := by with_unfolding_all rfl) : PT X (.Compare a [op, op'] [b, c] pos) (tTest (tChV p p' ta tb tc)) := by
  intro pins s σ H Q I h
  refine isTrue_chain (thn (ha pins s σ H _ I h) fun v s1 ⟨x, H1, I1, r1, q1⟩ => test_link (thn (hb pins s1 σ H1 _ I1 q1) fun u s2 ⟨y, H2, I2, r2, q2⟩ => ?_)) hm
  obtain ⟨i, j, k, rfl, rfl, tq, kk, ek, q⟩ := q2
  cases ek
  refine thn (ho pins s2 σ H2 _ _ v u (fun z H3 => z = .bl (p i j) ∧ H3 = H2) I2 r1 r2 ⟨i, j, rfl, rfl, rfl, rfl⟩) fun d s3 ⟨z, H3, I3, r3, e1, e2⟩ => ?_
  subst e1 e2
  cases r3
  refine wpAny_truthy_bool ?_
  cases e : p i j with
  | false =>
    rw [e, Bool.false_and] at q
    exact ite_ff ⟨_, I3, q⟩
  | true =>
    rw [e, Bool.true_and] at q
    refine ite_tt (test_last (thn (hc pins s3 σ _ _ I3 tq) fun w' s4 ⟨z', H4, I4, r4, e3, e4⟩ => ?_))
    subst e3 e4
    refine thn (ho' pins s4 σ _ _ _ u w' (fun z H5 => z = .bl (p' j k) ∧ H5 = H4) I4 r2 r4 ⟨j, k, rfl, rfl, rfl, rfl⟩) fun d' s5 ⟨z2, H5, I5, r5, e5, e6⟩ => ?_
    subst e5 e6
    cases r5
    exact wpAny_truthy_bool ⟨_, I5, q⟩
end
theorem itB {c : Bool} {A B : Prop} (h1 : c = true → A) (h2 : c = false → B) : if c = true then A else B := by
  cases c with
  | true =>
    rw [if_pos rfl]
    exact h1 rfl
  | false =>
    rw [if_neg Bool.false_ne_true]
    exact h2 rfl
theorem in_strs (z : Str) (zs : List Str) : inV (.str z) (zs.map V.str) = zs.contains z := by
  unfold inV
  rw [List.any_map, List.contains_eq_any_beq]
  congr 1
  funext y
  show (y == z) = (z == y)
  rw [Bool.eq_iff_iff]
  exact ⟨fun h => by rw [eq_of_beq h]; exact beq_self_eq_true z, fun h => by rw [eq_of_beq h]; exact beq_self_eq_true y⟩
theorem strs_flat (zs : List Str) : (zs.map V.str).all flatV = true := by
  rw [List.all_eq_true]
  intro x hx
  obtain ⟨n, _, rfl⟩ := List.mem_map.mp hx
  rfl
theorem Same.seqT {K : PySem.W.Frag} {H H' : Hp} {a : Addr} {xs : List V} (e : Same H H') (h : SqT K H a xs) : SqT K H' a xs := by
  rcases h with (h | ⟨o, h⟩) | h
  · exact .inl (.inl (e _ _ h))
  · exact .inl (.inr ⟨o, e _ _ h⟩)
  · exact .inr h
end L2

namespace L2
open PySem
section
variable {X : Cx}
/-- != of two lists of numbers, equally long -/
theorem op_neN (hu : X.A.units + 64 < cLine) : OpR X (compareOp .NotEq) (fun x y H Q => ∃ (a b : Addr) (as bs : List Nat), x = .ref a ∧ y = .ref b ∧ SqL X.K H a (as.map fun j : Nat => V.int (j : Int)) ∧ SqL X.K H b (bs.map fun j : Nat => V.int (j : Int)) ∧ as.length = bs.length ∧ Q (.bl (!decide (as = bs))) H) := by
  intro pins s σ H x y v u Q I rx ry h
  obtain ⟨a, b, as, bs, rfl, rfl, ha, hb, hl, q⟩ := h
  cases rx
  cases ry
  obtain ⟨its, r1, p1, _⟩ := I.list ha
  obtain ⟨its2, r2, p2, _⟩ := I.list hb
  have l1 := r1.length
  have l2 := r2.length
  rw [List.length_map] at l1 l2
  refine SeqAt.RcNeAt.lists (e := fun j => decide (as[j]? = bs[j]?)) p1.isList p2.isList (by rw [List.size_toArray, List.size_toArray]; omega) (by omega) (fun j h1 h2 => ?_) X.prog X.w X.xe _ ?_
  · have := eqAt_nats (A := X.A.in1) (s := s) r1 r2 j (by simpa using h1) (by simpa using h2)
    simpa using this
  · rw [List.size_toArray, ← l1, all_eq hl]
    exact ⟨.bl _, H, I, rfl, q⟩
end
theorem comp2_zip {K : PySem.W.Frag} {a b : Addr} {xs ys : List V} {cs : St} {tc : TT} {te : TE} {H1 : Hp} {Z : List V → Hp → Prop} (Pv : Nat → List V → Hp → Prop) (h0 : Pv 0 [] H1) (hl : ∀ i acc H, Pv i acc H → SqL K H a xs ∧ SqL K H b ys) (ln : xs.length = ys.length)
    (hs : ∀ i x y acc H t, xs[i]? = some x → ys[i]? = some y → Pv i acc H → H t = none → tc (some x :: some y :: cs) (upd H t (.tup [x, y])) fun b H2 => if b = true then te (some x :: some y :: cs) H2 fun v H3 => acc.length < sizeLine ∧ Pv (i + 1) (acc ++ [v]) H3 else Pv (i + 1) acc H2)
    (hd : ∀ acc H, Pv xs.length acc H → Z acc H) : tCompW2 K (Itz K a b) cs tc te H1 Z := by
  refine ⟨fun i m acc H => m + i = xs.length ∧ Pv i acc H, ⟨xs.length, rfl, h0⟩, ?_⟩
  rintro i m acc H ⟨hm, p⟩
  obtain ⟨qa, qb⟩ := hl i acc H p
  by_cases hlt : i < xs.length
  · refine .inr ⟨⟨xs, ys, xs[i], ys[i], qa, qb, by simp [hlt], by simp [show i < ys.length by omega]⟩, Pv (i + 1), fun ac H' p' => ⟨m - 1, by omega, by omega, p'⟩, fun v H' y => ?_⟩
    obtain ⟨t, x, y', rfl, ht, hx, hy, rfl⟩ := y
    exact ⟨t, x, y', rfl, SqT.of upd_same, hs i x y' acc H t (hx xs qa) (hy ys qb) p ht⟩
  · obtain rfl : i = xs.length := by omega
    exact .inl ⟨⟨xs, ys, qa, qb, .inl (Nat.le_refl _)⟩, hd acc H p⟩
theorem comp2_enumL {K : PySem.W.Frag} {a : Addr} {xs : List V} {cs : St} {tc : TT} {te : TE} {H1 : Hp} {Z : List V → Hp → Prop} (Pv : Nat → List V → Hp → Prop) (h0 : Pv 0 [] H1) (hl : ∀ i acc H, Pv i acc H → SqL K H a xs)
    (hs : ∀ i x acc H t, xs[i]? = some x → Pv i acc H → H t = none → tc (some (.int (i : Int)) :: some x :: cs) (upd H t (.tup [.int (i : Int), x])) fun b H2 => if b = true then te (some (.int (i : Int)) :: some x :: cs) H2 fun v H3 => acc.length < sizeLine ∧ Pv (i + 1) (acc ++ [v]) H3 else Pv (i + 1) acc H2)
    (hd : ∀ acc H, Pv xs.length acc H → Z acc H) : tCompW2 K (Itel K a) cs tc te H1 Z := by
  refine ⟨fun i m acc H => m + i = xs.length ∧ Pv i acc H, ⟨xs.length, rfl, h0⟩, ?_⟩
  rintro i m acc H ⟨hm, p⟩
  have qa := hl i acc H p
  by_cases hlt : i < xs.length
  · refine .inr ⟨⟨xs, xs[i], qa, by simp [hlt]⟩, Pv (i + 1), fun ac H' p' => ⟨m - 1, by omega, by omega, p'⟩, fun v H' y => ?_⟩
    obtain ⟨t, x, rfl, ht, hx, rfl⟩ := y
    exact ⟨t, _, x, rfl, SqT.of upd_same, hs i x acc H t (hx xs qa) p ht⟩
  · obtain rfl : i = xs.length := by omega
    exact .inl ⟨⟨xs, qa, Nat.le_refl _⟩, hd acc H p⟩
end L2

namespace L2
open PySem PySem.Spec PyProof.Rows
/-- {(k, ..): v}: one pair, its key a tuple of numbers and texts; the new dict stands empty while the pair is made -/
def tDispT (tk tv : TE) : TE := fun σ H Q => ∀ p, H p = none → tk σ (upd H p (.dT [])) fun x H1 => tv σ H1 fun y H2 => ∃ (b : Addr) (k : List Key), x = .ref b ∧ H2 p = some (.dT []) ∧ H2 b = some (.tup (k.map kV)) ∧ Q (.ref p) (upd H2 p (.dT (putK [] k y)))
section
variable {X : Cx} {pos : Pos} {k v : Expr} {tk tv : TE}
theorem pe_dispT (hu : X.A.units + 1 < cLine) (hk : PE X k tk) (hv : PE X v tv) : PE X (.Dict [some k] [v] pos) (tDispT tk tv) := by
  intro pins s σ H Q I q
  have hn := I.hok.fresh (Nat.le_refl s.heap.objs.size)
  have I1 := I.laid (a := s.heap.objs.size) (o := .dT []) (h' := s.heap.push { cls := .type "dict", data := .dict #[] }) (t' := s.toks) (fun _ _ q => Heap.get?_push_of_some _ q) (Nat.le_refl _) (dt_empty s.heap I.big)
  refine wpAny_Dict_any rfl rfl (by intro z; cases z) (by show 1 ≤ 15; decide) ?_
  refine pairTrees_cons_walk (thn (hk pins _ σ _ _ I1 (q _ hn)) fun u s1 ⟨x, H1, I2, rx, q1⟩ => thn (hv pins s1 σ H1 _ I2 q1) fun w2 s2 ⟨y, H2, I3, ry, b, ks, ex, e, eb, q2⟩ => pairTrees_nil_walk ?_)
  subst ex
  cases (show u = Value.ref b from rx)
  obtain ⟨z, hd, xs, rel, dd⟩ := dt_of I3.hok e
  have hz : xs.length ≤ sizeLine := by rw [← Paired.length rel]; exact z
  have hl : (putK ([] : List (List Key × V)) ks y).length ≤ sizeLine := by
    have := length_putK ([] : List (List Key × V)) ks y
    rw [sizeLine_eq]
    simp at this
    omega
  unfold storeAll
  rw [List.forIn_cons]
  refine wpAny_bind (wpAny_bind (wpAny_dictSet_heap (hsz := hz) (knd := tupleKind (mixKind X.prog X.w)) (show X.A.units < cLine by omega) (key_of I3.hok eb) dd fun h' dd' hs => wpAny_pure ?_))
  show wpAny (model X.prog X.w) X.A (forIn ([] : List (Value × Value)) PUnit.unit _) _ _ _
  rw [List.forIn_nil]
  refine wpAny_pure ⟨.ref s.heap.objs.size, _, ?_, rfl, q2⟩
  obtain ⟨q, es, ep, hq, h2, h3, h4, _, h5⟩ := dd'
  refine d_write I3 (by rw [e]; exact True.intro) hs ⟨q, hq⟩ ⟨hl, hd, _, (rel.put ks eb ry).keeps fun c ys ec => ?_, q, es, ep, hq, h2, h3, h4, h5⟩
  rw [upd_ne (ne_of ec e (fun z => nomatch z))]
  exact ec
end
end L2

namespace Mix
open PySem L2
def top (i : Nat) : Stmt := PySem.Challenge.pw_nesthall_k38_small_rows_are_parted.main.body.getD i (.Pass ⟨0, 0, 0, 0⟩)
abbrev s_is_parted : Stmt := top 1
abbrev s_pair_behind : Stmt := top 2
abbrev s_way_to : Stmt := top 3
abbrev s_parting : Stmt := top 4
abbrev s_numbered : Stmt := top 6
abbrev s_folded_moves : Stmt := top 7
abbrev s_finer : Stmt := top 8
abbrev s_alike : Stmt := top 9
abbrev s_shrunk : Stmt := top 10
abbrev sCell : Stmt := top 12
abbrev sMixed : Stmt := top 13
abbrev s_L_word : Stmt := top 14
abbrev s_L_some : Stmt := top 15
abbrev s_L_words : Stmt := top 16
abbrev sRow : Stmt := top 17
abbrev s_L_line : Stmt := top 18
abbrev s_L_table : Stmt := top 19
abbrev s_L_end : Stmt := top 20
abbrev s_L_is_way : Stmt := top 21
abbrev sLawF : Stmt := top 22
abbrev sNear : Str := "_law_near"
end Mix

namespace Mix
open PySem L2
/-! the cell of a script and the mixed draw: the same two defs stand in every law -/
def spCell (K : PySem.W.Frag) : Sp := fun vs H Q _ => ∃ (a : Addr) (ns : List Int) (k : Int), vs = [.ref a, .int k] ∧ SqL K H a (ns.map V.int) ∧ ns.length ≤ 63 ∧ ∀ v : Int, Q (.int v) H
def spMixed (K : PySem.W.Frag) : Sp := fun vs H Q _ => ∃ (a : Addr) (ns : List Int) (k salt : Int), vs = [.ref a, .int k, .int salt] ∧ SqL K H a (ns.map V.int) ∧ ns.length ≤ 63 ∧ (0 ≤ k ∧ k ≤ 1000000) ∧ (0 ≤ salt ∧ salt ≤ 1000) ∧
  ∀ r : Int, 0 ≤ r → r < 2147483648 → Q (.int r) H
section
variable {P : Program} {w : World} {K : PySem.W.Frag} {mg : Str → Option Value} {base : Heap}
theorem scC : FnScope ["_law_script", "_law_k"] ["_law_script", "_law_k"] (defScope sCell) := ⟨rfl, rfl, rfl, by decide +kernel, rfl, by decide +kernel, by decide +kernel⟩
theorem ok_cell {f : Addr} {fd : FuncData} (F : Fun K "_law_cell_at" "_law_cell_at" sCell f fd) (ml : mg "len" = none) : FnOk P w K mg base CX0 1 f fd ["_law_script", "_law_k"] (spCell K) := by
  refine F.ok scC (fun vs H Q E h => ?_) (fun cdv A outer s H vs Q E hr h => ?_)
  · obtain ⟨a, ns, k, rfl, _⟩ := h
    rfl
  obtain ⟨a, ns, k, rfl, hS, h63, q⟩ := h
  refine ⟨_, pss_cons (ps_if (pt_cmpR op_eq (pe_callB call_len_seq rfl ml PySem.boot_len (pa_cons (pv 0) pa_nil)) pe_int (nomark _)) (pss_one (ps_ret pe_int)) pss_nil)
    (pss_one (ps_ret (pe_ix ix_list (pv 0) (pe_op op_mod (pv 1) (pe_callB call_len_seq rfl ml PySem.boot_len (pa_cons (pv 0) pa_nil))) (fun _ _ => rfl)))), ?_⟩
  have hl : (ns.map V.int).length = ns.length := List.length_map _
  refine ⟨_, rfl, a, _, rfl, .inl hS, rfl, _, rfl, ?_⟩
  refine ite2 (fun c => ?_) (fun c => ?_)
  · exact q 0
  · have c' : ¬ V.int (((ns.map V.int).length : Nat) : Int) = V.int 0 := of_decide_eq_false (Bool.eq_false_iff.mpr c)
    have hp : (0 : Int) < (((ns.map V.int).length : Nat) : Int) := by
      rw [hl] at c' ⊢
      have : ns.length ≠ 0 := fun z => c' (by rw [z]; rfl)
      omega
    obtain ⟨v, hv⟩ := atI_int (ns := ns) (i := k % (((ns.map V.int).length : Nat) : Int)) (Int.emod_nonneg _ (by omega)) (by have := Int.emod_lt_of_pos k hp; rw [hl] at this ⊢; exact this)
    exact ⟨_, rfl, _, rfl, _, rfl, a, _, rfl, .inl hS, _, _, rfl, rfl, hp, a, _, _, _, rfl, rfl, hS, hv, q v⟩
theorem scM : FnScope ["_law_script", "_law_k", "_law_salt", "_law_cell", "_law_lap", sNear] ["_law_script", "_law_k", "_law_salt"] (defScope sMixed) := ⟨rfl, rfl, rfl, by decide +kernel, rfl, by decide +kernel, by decide +kernel⟩
theorem mulIn {i j : Int} (h0 : 0 ≤ i) (h1 : i < 18446744073709551616) : CMul i j := .inl ⟨by omega, by omega⟩
theorem ok_mixed {f g : Addr} {fd gd : FuncData} (F : Fun K "_law_mixed" "_law_mixed" sMixed f fd) (G : FnOk P w K mg base CX0 1 g gd ["_law_script", "_law_k"] (spCell K)) (bG : Binds K gd ["_law_script", "_law_k"] []) (kG : PySem.W.keepIn K (.ref g) = true) (mG : mg "_law_cell_at" = some (.ref g))
    (ml : mg "len" = none) (mm : mg "max" = none) : FnOk P w K mg base CX0 2 f fd ["_law_script", "_law_k", "_law_salt"] (spMixed K) := by
  refine F.ok scM (fun vs H Q E h => ?_) (fun cdv A outer s H vs Q E hr h => ?_)
  · obtain ⟨a, ns, k, salt, rfl, _⟩ := h
    rfl
  obtain ⟨a, ns, k, salt, rfl, hS, h63, hk, hs, q⟩ := h
  refine ⟨_, pss_cons (ps_set (i := 3) scM.nd rfl (Or.inl rfl) (pe_call G hr rfl mG kG bG .nil pass0 (pa_cons (pv 0) (pa_cons (pv 1) pa_nil))))
    (pss_cons (ps_set (i := 4) scM.nd rfl (Or.inl rfl) (pe_op op_fdiv (pv 1) (pe_callB (call_max2 rfl) rfl mm PyProof.Rows.boot_max (pa_cons pe_int (pa_cons (pe_callB call_len_seq rfl ml PySem.boot_len (pa_cons (pv 0) pa_nil)) pa_nil)))))
    (pss_cons (ps_set (i := 5) scM.nd rfl (Or.inl rfl) (pe_op op_add (pe_op op_add (pe_op op_add (pe_op op_and (pv 3) pe_int) (pe_op op_mul (pe_op op_mul pe_int (pv 1)) (pv 1))) (pe_op op_mul (pe_op op_mul pe_int (pv 2)) (pv 2))) pe_int))
    (pss_cons (ps_set (i := 5) scM.nd rfl (Or.inl rfl) (pe_op op_mod (pe_op op_mul (pv 5) pe_int) pe_int))
    (pss_cons (ps_set (i := 5) scM.nd rfl (Or.inl rfl) (pe_op op_mod (pe_op op_mul (pv 5) (pv 5)) pe_int))
    (pss_one (ps_ret (pe_op op_and (pe_op op_add (pe_op op_shr (pv 3) (pe_op op_mul pe_int (pe_op op_add (pv 2) (pe_op op_mul pe_int (pv 4))))) (pv 5)) pe_int))))))), ?_⟩
  have hl : (ns.map V.int).length = ns.length := List.length_map _
  refine ⟨_, rfl, _, rfl, a, ns, k, rfl, hS, h63, fun v => ?_⟩
  -- lap
  refine ⟨_, rfl, _, rfl, a, _, rfl, .inl hS, _, _, rfl, _, _, rfl, rfl, ?_⟩
  have hM : 0 < (if (((ns.map V.int).length : Nat) : Int) > 1 then (((ns.map V.int).length : Nat) : Int) else 1) ∧ (if (((ns.map V.int).length : Nat) : Int) > 1 then (((ns.map V.int).length : Nat) : Int) else 1) < 1073741824 := by
    rw [hl]
    split <;> omega
  refine ⟨hM, ?_⟩
  have hlap : 0 ≤ k / (if (((ns.map V.int).length : Nat) : Int) > 1 then (((ns.map V.int).length : Nat) : Int) else 1) := Int.ediv_nonneg hk.1 (Int.le_of_lt hM.1)
  -- near
  refine ⟨_, rfl, _, _, rfl, rfl, _, rfl, _, _, rfl, rfl, mulIn (by decide) (by decide), _, rfl, _, _, rfl, rfl, mulIn (by omega) (by omega), _, _, rfl, rfl, _, rfl, _, _, rfl, rfl, mulIn (by decide) (by decide), _, rfl, _, _, rfl, rfl, mulIn (by omega) (by omega), _, _, rfl, rfl, _, _, rfl, rfl, ?_⟩
  refine ⟨_, rfl, _, _, rfl, rfl, .inr ⟨by decide, by decide⟩, _, _, rfl, rfl, (by show (0 : Int) < 2147483647; decide), ?_⟩
  have b1 := Int.emod_nonneg ((Builtin.bitAnd v 2147483647 + 1009 * k * k + 7919 * salt * salt + 12) * 48271) (show (2147483647 : Int) ≠ 0 by decide)
  have b2 := Int.emod_lt_of_pos ((Builtin.bitAnd v 2147483647 + 1009 * k * k + 7919 * salt * salt + 12) * 48271) (show (0 : Int) < 2147483647 by decide)
  refine ⟨_, rfl, _, rfl, _, _, rfl, rfl, mulIn b1 (Int.lt_trans b2 (by decide)), _, _, rfl, rfl, (by show (0 : Int) < 2147483629; decide), ?_⟩
  refine ⟨_, rfl, _, rfl, _, rfl, _, _, rfl, rfl, mulIn (by decide) (by decide), _, _, rfl, rfl, _, _, rfl, rfl, mulIn (by decide) (by decide), _, _, rfl, rfl, ?_, _, rfl, _, _, rfl, rfl, _, _, rfl, rfl, ?_⟩
  · have nn : ∀ lap : Int, 0 ≤ lap → 0 ≤ 31 * (salt + 128 * lap) := fun lap h => by omega
    exact nn _ hlap
  · exact q _ (maskB _).1 (maskB _).2
end
end Mix

namespace Mix
open PySem L2 Gds
/-! rows of numbers, where no parents stand in the law -/
def pV : Option Nat → V
  | none => .non
  | some j => .int (j : Int)
def natsV (s : List Nat) : List V := s.map fun j : Nat => V.int (j : Int)
theorem cut_take (xs : List V) {d : Int} (h : 0 ≤ d) : cutV xs none (some d) = xs.take d.toNat := by
  show (xs.drop 0).take ((if d < 0 then (d + (xs.length : Int)).toNat else min d.toNat xs.length) - 0) = _
  rw [if_neg (by omega), List.drop_zero, Nat.sub_zero, List.take_eq_take_iff]
  omega
end Mix

namespace Tb
open PySem L2 Mix Gds
/-! tables by the cells: words (the same defs in k36, k37, k38, k53) -/
inductive Al {α : Type} (R : V → α → Prop) : List V → List α → Prop where
  | nil : Al R [] []
  | cons {v : V} {r : α} {vs : List V} {rs : List α} : R v r → Al R vs rs → Al R (v :: vs) (r :: rs)
theorem Al.mono {α : Type} {R R' : V → α → Prop} {vs : List V} {rs : List α} (x : Al R vs rs) (k : ∀ v r, R v r → R' v r) : Al R' vs rs := by
  induction x with
  | nil => exact .nil
  | cons h _ ih => exact .cons (k _ _ h) ih
theorem Al.length {α : Type} {R : V → α → Prop} {vs : List V} {rs : List α} (x : Al R vs rs) : vs.length = rs.length := by
  induction x with
  | nil => rfl
  | cons _ _ ih => rw [List.length_cons, List.length_cons, ih]
theorem Al.snoc {α : Type} {R : V → α → Prop} {vs : List V} {rs : List α} {v : V} {r : α} (x : Al R vs rs) (y : R v r) : Al R (vs ++ [v]) (rs ++ [r]) := by
  induction x with
  | nil => exact .cons y .nil
  | cons h _ ih => exact .cons h ih
theorem Al.get {α : Type} {R : V → α → Prop} {vs : List V} {rs : List α} (x : Al R vs rs) : ∀ {k : Nat} {r : α}, rs[k]? = some r → ∃ v, vs[k]? = some v ∧ R v r := by
  induction x with
  | nil => intro k r h; simp at h
  | cons h _ ih =>
    intro k r e
    cases k with
    | zero =>
      simp at e
      subst e
      exact ⟨_, rfl, h⟩
    | succ k => exact ih (by simpa using e)
theorem Al.set {α : Type} {R : V → α → Prop} {vs : List V} {rs : List α} {v : V} {r : α} (x : Al R vs rs) (y : R v r) : ∀ k, Al R (vs.set k v) (rs.set k r) := by
  induction x with
  | nil => exact fun k => .nil
  | cons h t ih =>
    intro k
    cases k with
    | zero => exact .cons y t
    | succ k => exact .cons h (ih k)
theorem Al.at {α : Type} {R : V → α → Prop} {vs : List V} {rs : List α} (x : Al R vs rs) {i : Int} (h0 : 0 ≤ i) (h1 : i < (rs.length : Int)) : ∃ (v : V) (r : α), atI vs i = some v ∧ R v r ∧ r ∈ rs := by
  have hk : i.toNat < rs.length := by omega
  obtain ⟨v, hv, hr⟩ := x.get (List.getElem?_eq_getElem hk)
  refine ⟨v, _, ?_, hr, List.getElem_mem hk⟩
  have e : ((i.toNat : Nat) : Int) = i := by omega
  rw [← e]
  exact atI_nat hv
def WdIn (H : Hp) (v : V) (ws : List Str) : Prop := ∃ a : Addr, v = .ref a ∧ H a = some (.tup (ws.map V.str))
theorem WdIn.mono {H H' : Hp} {v : V} {ws : List Str} (x : WdIn H v ws) (k : KeepT H H') : WdIn H' v ws := by
  obtain ⟨a, e, h⟩ := x
  exact ⟨a, e, k _ _ h⟩
def MvIn (H : Hp) (v : V) (m : List Str × Nat) : Prop := ∃ (a : Addr) (wv : V), v = .ref a ∧ H a = some (.tup [wv, .int (m.2 : Int)]) ∧ WdIn H wv m.1
theorem MvIn.mono {H H' : Hp} {v : V} {m : List Str × Nat} (x : MvIn H v m) (k : KeepT H H') : MvIn H' v m := by
  obtain ⟨a, wv, e, h, g⟩ := x
  exact ⟨a, wv, e, k _ _ h, g.mono k⟩
abbrev Row := List Str × List (List Str × Nat)
def RwIn (H : Hp) (v : V) (r : Row) : Prop := ∃ (a m : Addr) (l : V) (mv : List V), v = .ref a ∧ H a = some (.tup [l, .ref m]) ∧ WdIn H l r.1 ∧ H m = some (.tup mv) ∧ Al (MvIn H) mv r.2
theorem RwIn.mono {H H' : Hp} {v : V} {r : Row} (x : RwIn H v r) (k : KeepT H H') : RwIn H' v r := by
  obtain ⟨a, m, l, mv, e, h, g, hm, hv⟩ := x
  exact ⟨a, m, l, mv, e, k _ _ h, g.mono k, k _ _ hm, hv.mono fun _ _ z => z.mono k⟩
/-- a row that fits a table of n rows and e events -/
def RwOk (c n e : Nat) (r : Row) : Prop := r.1.length ≤ c ∧ r.2.length = e ∧ ∀ m ∈ r.2, m.1.length ≤ c ∧ m.2 < n
structure TbOk (rows : List Row) (n e : Nat) : Prop where
  len : rows.length = n
  pos : 1 ≤ n
  row : ∀ r ∈ rows, RwOk 3 n e r
theorem str_at {zs : List Str} {i : Int} (h0 : 0 ≤ i) (h1 : i < (zs.length : Int)) : ∃ z ∈ zs, atI (zs.map V.str) i = some (.str z) := by
  obtain ⟨v, hv, e⟩ := atI_some (xs := zs.map V.str) (i := i) h0 (by rw [List.length_map]; exact h1)
  obtain ⟨z, hz, rfl⟩ := List.mem_map.mp hv
  exact ⟨z, hz, e⟩
def spWord : Sp := fun vs H Q _ => ∃ n k : Int, vs = [.int n, .int k] ∧ ∀ (z : Str) (H' : Hp), Same H H' → z.length ≤ 100 → Q (.str z) H'
def spSome (K : PySem.W.Frag) : Sp := fun vs H Q _ => ∃ (a : Addr) (ns : List Int) (k : Int), vs = [.ref a, .int k] ∧ SqL K H a (ns.map V.int) ∧ ns.length ≤ 63 ∧ ∀ (v : V) (ws : List Str) (H' : Hp), Same H H' → WdIn H' v ws → ws.length ≤ 2 → Q v H'
def spWords (K : PySem.W.Frag) : Sp := fun vs H Q _ => ∃ (a : Addr) (ns : List Int) (k salt : Int), vs = [.ref a, .int k, .int salt] ∧ SqL K H a (ns.map V.int) ∧ ns.length ≤ 63 ∧ (0 ≤ k ∧ k ≤ 100000) ∧ (0 ≤ salt ∧ salt ≤ 500) ∧ ∀ (v : V) (ws : List Str) (H' : Hp), Same H H' → WdIn H' v ws → ws.length ≤ 2 → Q v H'
section
variable {P : Program} {w : World} {K : PySem.W.Frag} {mg : Str → Option Value} {base : Heap}
theorem sc_law_word : FnScope ["_law_number", "_law_letter", "_law_stem", "_law_at"] ["_law_number", "_law_letter"] (defScope s_L_word) := ⟨rfl, rfl, rfl, by decide +kernel, rfl, by decide +kernel, by decide +kernel⟩
theorem ok_word {f : Addr} {fd : FuncData} (F : Fun K "_law_word" "_law_word" s_L_word f fd) (m_len : mg "len" = none) : FnOk P w K mg base CX0 1 f fd ["_law_number", "_law_letter"] spWord := by
  refine F.ok sc_law_word (fun vs H Q E h => ?_) (fun cdv A outer s H vs Q E hr h => ?_)
  · obtain ⟨n, k, rfl, _⟩ := h
    rfl
  obtain ⟨n, k, rfl, q⟩ := h
  refine ⟨_, (pss_cons (ps_set (i := 2) sc_law_word.nd rfl (Or.inl rfl) (pe_ix ix_list (pe_lst (pa_cons pe_str (pa_cons pe_str (pa_cons pe_str (pa_cons pe_str pa_nil))))) (pe_op op_mod (pv 0) pe_int) (fun _ _ => rfl)))
    (pss_cons (ps_set (i := 3) sc_law_word.nd rfl (Or.inl rfl) (pe_cut (pe_op op_mod (pe_op op_fdiv (pv 0) pe_int) (pe_op op_add (pe_callB call_len_str rfl m_len PySem.boot_len (pa_cons (pv 2) pa_nil)) pe_int))))
    (pss_one (ps_ret (pe_op op_add_str (pe_op op_add_str (pe_slice sl_str (pv 2) po_none (po_some (pv 3))) (pe_ix ix_str pe_str (pe_op op_mod (pv 1) pe_int) (fun _ _ => rfl))) (pe_slice sl_str (pv 2) (po_some (pv 3)) po_none)))))), ?_⟩
  obtain ⟨z, hz, hat⟩ := str_at (zs := [("" : Str), "hall", "quiet", "aaaaaaaaaaa"]) (i := n % 4) (by omega) (by show _ < (4 : Int); omega)
  have lz : z.length ≤ 11 := by
    simp only [List.mem_cons, List.not_mem_nil, or_false] at hz
    rcases hz with rfl | rfl | rfl | rfl <;> decide +kernel
  have hz' : z.length ≤ sizeLine := small_le (by omega)
  have sl : ∀ (lo hi : Option Int), (Txt.slice z lo hi).length ≤ 11 := fun lo hi => Nat.le_trans (Txt.slice_le z lo hi) lz
  refine ⟨small_le (by show 4 ≤ 1000; decide), fun p hp => ⟨_, rfl, _, _, rfl, rfl, (by show (0 : Int) < 4; decide), p, _, _, _, rfl, rfl, SqL.of upd_same, hat, ?_⟩⟩
  have s1 := same_new hp (.lst [V.str "", V.str "hall", V.str "quiet", V.str "aaaaaaaaaaa"])
  refine ⟨fun v H' => Same H H' ∧ ∃ t : Int, v = .int t, ?_, ?_⟩
  · exact ⟨_, rfl, _, _, rfl, rfl, ⟨by decide, by decide⟩, _, rfl, z, rfl, hz', _, _, rfl, rfl, _, _, rfl, rfl, (by show (0 : Int) < (z.length : Int) + 1; omega), s1, _, rfl⟩
  rintro _ H2 ⟨s2, t, rfl⟩
  obtain ⟨c1, _, h1⟩ := atI_some (xs := ("abcdefghijklmnopqrstuvwxyz" : Str).cps.toList) (i := k % 26) (by omega) (by show k % 26 < 26; omega)
  have la : ∀ x y : Str, (x ++ y).length = x.length + y.length := fun x y => by
    show (x.cps ++ y.cps).size = _
    rw [Array.size_append]
    rfl
  have lo : ∀ c : Nat, (⟨#[c]⟩ : Str).length = 1 := fun c => rfl
  have l1 := sl none (some t)
  have l2 := sl (some t) none
  exact ⟨_, rfl, _, rfl, _, rfl, z, rfl, hz', _, rfl, _, _, rfl, rfl, (by show (0 : Int) < 26; decide), _, _, c1, rfl, rfl, small_le (by decide +kernel), h1, _, _, rfl, rfl, small_le (by rw [lo]; omega), _, rfl, _, rfl, _, rfl, z, rfl, hz', _, _, rfl, rfl, small_le (by rw [la, lo]; omega), q _ H2 s2 (by rw [la, la, lo]; omega)⟩
theorem sc_law_some : FnScope ["_law_script", "_law_number", "_law_seed", "_law_one", "_law_other", "_law_both"] ["_law_script", "_law_number"] (defScope s_L_some) := ⟨rfl, rfl, rfl, by decide +kernel, rfl, by decide +kernel, by decide +kernel⟩
theorem ok_some {f gm gw : Addr} {fd dm dw : FuncData} (F : Fun K "_law_some" "_law_some" s_L_some f fd) (G_law_mixed : FnOk P w K mg base CX0 2 gm dm ["_law_script", "_law_k", "_law_salt"] (spMixed K)) (b_law_mixed : Binds K dm ["_law_script", "_law_k", "_law_salt"] []) (k_law_mixed : PySem.W.keepIn K (.ref gm) = true) (m_law_mixed : mg "_law_mixed" = some (.ref gm))
    (G_law_word : FnOk P w K mg base CX0 2 gw dw ["_law_number", "_law_letter"] spWord) (b_law_word : Binds K dw ["_law_number", "_law_letter"] []) (k_law_word : PySem.W.keepIn K (.ref gw) = true) (m_law_word : mg "_law_word" = some (.ref gw))
    (m_len : mg "len" = none) : FnOk P w K mg base CX0 3 f fd ["_law_script", "_law_number"] (spSome K) := by
  refine F.ok sc_law_some (fun vs H Q E h => ?_) (fun cdv A outer s H vs Q E hr h => ?_)
  · obtain ⟨a, ns, k, rfl, _⟩ := h
    rfl
  obtain ⟨a, ns, k, rfl, hS, h63, q⟩ := h
  refine ⟨_, RSs.p (r_cons (r_st (ps_set (i := 2) sc_law_some.nd rfl (Or.inl rfl) (pe_call G_law_mixed hr rfl m_law_mixed k_law_mixed b_law_mixed .nil pass0 (pa_cons (pv 0) (pa_cons pe_int (pa_cons pe_int pa_nil))))))
    (r_cons (r_st (ps_set (i := 3) sc_law_some.nd rfl (Or.inl rfl) (pe_call G_law_word hr rfl m_law_word k_law_word b_law_word .nil pass0 (pa_cons (pv 2) (pa_cons (pe_op op_fdiv (pv 2) pe_int) pa_nil)))))
    (r_cons (r_st (ps_set (i := 4) sc_law_some.nd rfl (Or.inl rfl) (pe_call G_law_word hr rfl m_law_word k_law_word b_law_word .nil pass0 (pa_cons (pv 2) (pa_cons (pe_op op_add (pe_op op_add (pe_op op_fdiv (pv 2) pe_int) pe_int) (pe_op op_mod (pe_call G_law_mixed hr rfl m_law_mixed k_law_mixed b_law_mixed .nil pass0 (pa_cons (pv 0) (pa_cons pe_int (pa_cons pe_int pa_nil)))) pe_int)) pa_nil)))))
    (r_cons (r_st (ps_set (i := 5) sc_law_some.nd rfl (Or.inl rfl) (pe_op op_add_str (pv 3) (pv 4))))
    (r_cut (r_st (ps_if (pt_cmpR op_gt (pe_callB call_len_str rfl m_len PySem.boot_len (pa_cons (pv 5) pa_nil)) pe_int (nomark _))
      (pss_one (ps_set (i := 5) sc_law_some.nd rfl (Or.inl rfl) (pv 3)))
      pss_nil))
    (r_one (r_ret (r_ixL (r_lst (ra_c (pe_tup pa_nil) (ra_c (pe_tup (pa_cons (pv 3) pa_nil)) (ra_c (pe_tup (pa_cons (pv 4) pa_nil)) (ra_c (pe_tup (pa_cons (pv 3) (pa_cons (pv 4) pa_nil))) (ra_c (pe_tup (pa_cons (pv 4) (pa_cons (pv 3) pa_nil))) (ra_c (pe_tup (pa_cons (pv 5) pa_nil)) (ra_c (pe_tup (pa_cons (pv 3) (pa_cons (pv 3) pa_nil))) (ra_c (pe_tup pa_nil) ⟨pa_nil⟩))))))))) (pe_op op_mod (pv 1) pe_int) (fun _ _ => rfl))))))))), ?_⟩
  have la : ∀ x y : Str, (x ++ y).length = x.length + y.length := fun x y => by
    show (x.cps ++ y.cps).size = _
    rw [Array.size_append]
    rfl
  refine ⟨_, rfl, a, ns, _, _, rfl, hS, h63, ⟨by decide, by decide⟩, ⟨by decide, by decide⟩, fun x x0 x1 => ?_⟩
  refine ⟨_, rfl, _, rfl, _, _, rfl, rfl, ⟨by decide, by decide⟩, _, _, rfl, fun z1 H1 s1 l1 => ?_⟩
  refine ⟨_, rfl, _, rfl, _, _, rfl, rfl, ⟨by decide, by decide⟩, _, _, rfl, rfl, _, rfl, a, ns, _, _, rfl, s1.seq hS, h63, ⟨by decide, by decide⟩, ⟨by decide, by decide⟩, fun y y0 y1 => ⟨_, _, rfl, rfl, (by show (0 : Int) < 25; decide), _, _, rfl, rfl, _, _, rfl, fun z2 H2 s2 l2 => ?_⟩⟩
  refine ⟨_, rfl, _, rfl, _, _, rfl, rfl, small_le (by omega), ?_⟩
  refine ⟨fun σ' H' => H' = H2 ∧ ∃ z3 : Str, σ' = [some (.ref a), some (.int k), some (.int x), some (.str z1), some (.str z2), some (.str z3)], ?_, ?_⟩
  · refine ⟨_, rfl, _, rfl, small_le (by rw [la]; omega), _, _, rfl, rfl, _, rfl, itB (fun c => ⟨_, rfl, rfl, _, rfl⟩) (fun c => ⟨rfl, _, rfl⟩)⟩
  rintro σ3 H3 ⟨rfl, z3, rfl⟩
  refine ⟨Nat.zero_le _, fun p1 hp1 => ⟨_, rfl, small_le (by show 1 ≤ 1000; decide), fun p2 hp2 => ⟨_, rfl, small_le (by show 1 ≤ 1000; decide), fun p3 hp3 => ⟨_, rfl, _, rfl, small_le (by show 2 ≤ 1000; decide), fun p4 hp4 => ⟨_, rfl, _, rfl, small_le (by show 2 ≤ 1000; decide), fun p5 hp5 => ⟨_, rfl, small_le (by show 1 ≤ 1000; decide), fun p6 hp6 => ⟨_, rfl, _, rfl, small_le (by show 2 ≤ 1000; decide), fun p7 hp7 => ⟨Nat.zero_le _, fun p8 hp8 => ⟨small_le (by show 8 ≤ 1000; decide), fun p9 hp9 => ?_⟩⟩⟩⟩⟩⟩⟩⟩⟩
  have u1 := same_new hp1 (.tup ([] : List V))
  have u2 := same_new hp2 (.tup [V.str z1])
  have u3 := same_new hp3 (.tup [V.str z2])
  have u4 := same_new hp4 (.tup [V.str z1, V.str z2])
  have u5 := same_new hp5 (.tup [V.str z2, V.str z1])
  have u6 := same_new hp6 (.tup [V.str z3])
  have u7 := same_new hp7 (.tup [V.str z1, V.str z1])
  have u8 := same_new hp8 (.tup ([] : List V))
  have u9 := same_new hp9 (.lst [V.ref p1, .ref p2, .ref p3, .ref p4, .ref p5, .ref p6, .ref p7, .ref p8])
  have t8 := u8.trans u9
  have t7 := u7.trans t8
  have t6 := u6.trans t7
  have t5 := u5.trans t6
  have t4 := u4.trans t5
  have t3 := u3.trans t4
  have t2 := u2.trans t3
  have t1 := u1.trans t2
  have hA : Al (WdIn _) [V.ref p1, .ref p2, .ref p3, .ref p4, .ref p5, .ref p6, .ref p7, .ref p8] [[], [z1], [z2], [z1, z2], [z2, z1], [z3], [z1, z1], []] := .cons ⟨p1, rfl, t2 _ _ upd_same⟩ (.cons ⟨p2, rfl, t3 _ _ upd_same⟩ (.cons ⟨p3, rfl, t4 _ _ upd_same⟩ (.cons ⟨p4, rfl, t5 _ _ upd_same⟩ (.cons ⟨p5, rfl, t6 _ _ upd_same⟩ (.cons ⟨p6, rfl, t7 _ _ upd_same⟩ (.cons ⟨p7, rfl, t8 _ _ upd_same⟩ (.cons ⟨p8, rfl, u9 _ _ upd_same⟩ .nil)))))))
  obtain ⟨v, ws, hat, hw, hm⟩ := hA.at (i := k % 8) (by omega) (by show _ < (8 : Int); omega)
  refine ⟨_, rfl, _, _, rfl, rfl, (by show (0 : Int) < 8; decide), p9, _, _, _, rfl, rfl, SqL.of upd_same, hat, q v ws _ ((s1.trans s2).trans t1) hw ?_⟩
  simp only [List.mem_cons, List.not_mem_nil, or_false] at hm
  rcases hm with rfl | rfl | rfl | rfl | rfl | rfl | rfl | rfl <;> simp
theorem sc_law_words : FnScope ["_law_script", "_law_k", "_law_salt", "_law_number"] ["_law_script", "_law_k", "_law_salt"] (defScope s_L_words) := ⟨rfl, rfl, rfl, by decide +kernel, rfl, by decide +kernel, by decide +kernel⟩
theorem ok_words {f gm gs : Addr} {fd dm ds : FuncData} (F : Fun K "_law_words" "_law_words" s_L_words f fd) (G_law_mixed : FnOk P w K mg base CX0 3 gm dm ["_law_script", "_law_k", "_law_salt"] (spMixed K)) (b_law_mixed : Binds K dm ["_law_script", "_law_k", "_law_salt"] []) (k_law_mixed : PySem.W.keepIn K (.ref gm) = true) (m_law_mixed : mg "_law_mixed" = some (.ref gm))
    (G_law_some : FnOk P w K mg base CX0 3 gs ds ["_law_script", "_law_number"] (spSome K)) (b_law_some : Binds K ds ["_law_script", "_law_number"] []) (k_law_some : PySem.W.keepIn K (.ref gs) = true) (m_law_some : mg "_law_some" = some (.ref gs)) : FnOk P w K mg base CX0 4 f fd ["_law_script", "_law_k", "_law_salt"] (spWords K) := by
  refine F.ok sc_law_words (fun vs H Q E h => ?_) (fun cdv A outer s H vs Q E hr h => ?_)
  · obtain ⟨a, ns, k, salt, rfl, _⟩ := h
    rfl
  obtain ⟨a, ns, k, salt, rfl, hS, h63, ⟨k0, k1⟩, ⟨t0, t1⟩, q⟩ := h
  refine ⟨_, (pss_cons (ps_set (i := 3) sc_law_words.nd rfl (Or.inl rfl) (pe_call G_law_mixed hr rfl m_law_mixed k_law_mixed b_law_mixed .nil pass0 (pa_cons (pv 0) (pa_cons (pv 1) (pa_cons (pv 2) pa_nil)))))
    (pss_cut (ps_if (pt_cmpR op_gt (pe_op op_mod (pv 3) pe_int) pe_int (nomark _))
      (pss_one (ps_set (i := 3) sc_law_words.nd rfl (Or.inl rfl) (pe_call G_law_mixed hr rfl m_law_mixed k_law_mixed b_law_mixed .nil pass0 (pa_cons (pv 0) (pa_cons pe_int (pa_cons pe_int pa_nil))))))
      pss_nil)
    (pss_one (ps_ret (pe_call G_law_some hr rfl m_law_some k_law_some b_law_some .nil pass0 (pa_cons (pv 0) (pa_cons (pe_op op_fdiv (pv 3) pe_int) pa_nil))))))), ?_⟩
  refine ⟨_, rfl, _, rfl, _, rfl, a, ns, _, _, rfl, hS, h63, ⟨by omega, by omega⟩, ⟨by omega, by omega⟩, fun x x0 x1 => ?_⟩
  refine ⟨fun σ' H' => H' = H ∧ ∃ y : Int, σ' = [some (.ref a), some (.int k), some (.int salt), some (.int y)], ?_, ?_⟩
  · refine ⟨_, rfl, _, _, rfl, rfl, (by show (0 : Int) < 4; decide), _, _, rfl, rfl, _, rfl, itB (fun c => ?_) (fun c => ⟨rfl, _, rfl⟩)⟩
    exact ⟨_, rfl, a, ns, _, _, rfl, hS, h63, ⟨by decide, by decide⟩, ⟨by decide, by decide⟩, fun y y0 y1 => ⟨rfl, _, rfl⟩⟩
  rintro σ1 H1 ⟨rfl, y, rfl⟩
  exact ⟨_, rfl, _, rfl, _, _, rfl, rfl, ⟨by decide, by decide⟩, a, ns, _, rfl, hS, h63, q⟩
end
end Tb

namespace Tb
open PySem L2 Mix Gds
/-! tables by the cells: rows and lines -/
def spRow (K : PySem.W.Frag) : Sp := fun vs H Q _ => ∃ (a : Addr) (ns : List Int) (k b : Int) (m e : Nat), vs = [.ref a, .int k, .int b, .int (m : Int), .int (e : Int)] ∧ SqL K H a (ns.map V.int) ∧ ns.length ≤ 63 ∧ (0 ≤ k ∧ k ≤ 1000) ∧ (1 ≤ b ∧ b ≤ (m : Int)) ∧ m ≤ 200 ∧ e ≤ 8 ∧ ∀ (v : V) (r : Row) (H' : Hp), Same H H' → RwIn H' v r → RwOk 2 m e r → Q v H'
section
variable {P : Program} {w : World} {K : PySem.W.Frag} {mg : Str → Option Value} {base : Heap}
theorem sc_law_row : FnScope ["_law_script", "_law_k", "_law_base", "_law_many", "_law_events", "_law_own", "_law_moves", "_law_e", "_law_goal"] ["_law_script", "_law_k", "_law_base", "_law_many", "_law_events"] (defScope sRow) := ⟨rfl, rfl, rfl, by decide +kernel, rfl, by decide +kernel, by decide +kernel⟩
theorem ok_row {f gm gw : Addr} {fd dm dw : FuncData} (F : Fun K "_law_row" "_law_row" sRow f fd) (G_law_mixed : FnOk P w K mg base CX0 4 gm dm ["_law_script", "_law_k", "_law_salt"] (spMixed K)) (b_law_mixed : Binds K dm ["_law_script", "_law_k", "_law_salt"] []) (k_law_mixed : PySem.W.keepIn K (.ref gm) = true) (m_law_mixed : mg "_law_mixed" = some (.ref gm))
    (G_law_words : FnOk P w K mg base CX0 4 gw dw ["_law_script", "_law_k", "_law_salt"] (spWords K)) (b_law_words : Binds K dw ["_law_script", "_law_k", "_law_salt"] []) (k_law_words : PySem.W.keepIn K (.ref gw) = true) (m_law_words : mg "_law_words" = some (.ref gw))
    (m_range : mg "range" = none) (m_tuple : mg "tuple" = none) : FnOk P w K mg base CX0 5 f fd ["_law_script", "_law_k", "_law_base", "_law_many", "_law_events"] (spRow K) := by
  refine F.ok sc_law_row (fun vs H Q E h => ?_) (fun cdv A outer s H vs Q E hr h => ?_)
  · obtain ⟨a, ns, k, b, m, e, rfl, _⟩ := h
    rfl
  obtain ⟨a, ns, k, b, m, e, rfl, hS, h63, ⟨k0, k1⟩, ⟨b1, bm⟩, m200, e8, q⟩ := h
  refine ⟨_, (pss_cons (ps_set (i := 5) sc_law_row.nd rfl (Or.inl rfl) (pe_op op_mod (pv 1) (pv 2)))
    (pss_cons (ps_set (i := 6) sc_law_row.nd rfl (Or.inl rfl) (pe_lst pa_nil))
    (pss_cut (ps_for PassesOwn.never rfl (pi_range1 rfl m_range (pa_cons (pv 4) pa_nil)) (pg_name (i := 7) sc_law_row.nd rfl (Or.inl rfl))
      (pss_cons (ps_set (i := 8) sc_law_row.nd rfl (Or.inl rfl) (pe_op op_mod (pe_call G_law_mixed hr rfl m_law_mixed k_law_mixed b_law_mixed .nil pass0 (pa_cons (pv 0) (pa_cons (pe_op op_add pe_int (pv 5)) (pa_cons (pe_op op_add pe_int (pv 7)) pa_nil)))) (pv 2)))
      (pss_cons (ps_set (i := 8) sc_law_row.nd rfl (Or.inl rfl) (pe_op op_add (pv 8) (pe_op op_mul (pv 2) (pe_op op_mod (pe_call G_law_mixed hr rfl m_law_mixed k_law_mixed b_law_mixed .nil pass0 (pa_cons (pv 0) (pa_cons (pe_op op_add pe_int (pv 1)) (pa_cons (pe_op op_add pe_int (pv 7)) pa_nil)))) (pe_op op_add (pe_op op_fdiv (pe_op op_sub (pe_op op_sub (pv 3) pe_int) (pv 8)) (pv 2)) pe_int)))))
      (pss_one (ps_expr (pe_bm PySem.F.plainAttrs_list PySem.F.slot_list_append PySem.F.type_list_append mt_append (pv 6) (pa_cons (pe_tup (pa_cons (pe_call G_law_words hr rfl m_law_words k_law_words b_law_words .nil pass0 (pa_cons (pv 0) (pa_cons (pe_op op_add pe_int (pv 5)) (pa_cons (pe_op op_add pe_int (pv 7)) pa_nil)))) (pa_cons (pv 8) pa_nil))) pa_nil)))))))
    (pss_one (ps_ret (pe_tup (pa_cons (pe_call G_law_words hr rfl m_law_words k_law_words b_law_words .nil pass0 (pa_cons (pv 0) (pa_cons (pe_op op_add pe_int (pv 5)) (pa_cons pe_int pa_nil)))) (pa_cons (pe_callTy call_tuple_of rfl m_tuple PyProof.Rows.boot_tuple (pa_cons (pv 6) pa_nil)) pa_nil)))))))), ?_⟩
  refine ⟨_, rfl, _, rfl, _, _, rfl, rfl, (by show (0 : Int) < b; omega), ?_⟩
  have o0 := Int.emod_nonneg k (show b ≠ 0 by omega)
  have o1 := Int.emod_lt_of_pos k (show 0 < b by omega)
  refine ⟨Nat.zero_le _, fun pm hpm => ?_⟩
  have s1 := same_new hpm (.lst [])
  refine ⟨fun σ' H' => ∃ (mv : List V) (ms : List (List Str × Nat)), Same H H' ∧ H' pm = some (.lst mv) ∧ Al (MvIn H') mv ms ∧ ms.length = e ∧ (∀ x ∈ ms, x.1.length ≤ 2 ∧ x.2 < m) ∧ ∃ o7 o8 : Option V, σ' = [some (.ref a), some (.int k), some (.int b), some (.int (m : Int)), some (.int (e : Int)), some (.int (k % b)), some (.ref pm), o7, o8], ?_, ?_⟩
  · refine ⟨_, rfl, _, rfl, by omega, by omega, ?_⟩
    refine for_range (fun i σ' H' => ∃ (mv : List V) (ms : List (List Str × Nat)), Same H H' ∧ H' pm = some (.lst mv) ∧ Al (MvIn H') mv ms ∧ ms.length = i ∧ (∀ x ∈ ms, x.1.length ≤ 2 ∧ x.2 < m) ∧ ∃ o7 o8 : Option V, σ' = [some (.ref a), some (.int k), some (.int b), some (.int (m : Int)), some (.int (e : Int)), some (.int (k % b)), some (.ref pm), o7, o8])
      ⟨[], [], s1, upd_same, .nil, rfl, (fun x h => by cases h), _, _, rfl⟩ ?_ ?_
    · rintro i σ' H2 hi ⟨mv, ms, s2, h2, hA, lms, hms, o7, o8, rfl⟩
      have hi' : i < e := by
        simp only [Int.toNat_natCast] at hi
        exact hi
      have lmv := hA.length
      refine ⟨_, rfl, _, rfl, _, _, rfl, rfl, _, rfl, _, _, rfl, rfl, a, ns, _, _, rfl, s2.seq hS, h63, ⟨by omega, by omega⟩, ⟨by omega, by omega⟩, fun x x0 x1 => ⟨_, rfl, _, _, rfl, rfl, (by show (0 : Int) < b; omega), ?_⟩⟩
      have g0 := Int.emod_nonneg x (show b ≠ 0 by omega)
      have g1 := Int.emod_lt_of_pos x (show 0 < b by omega)
      refine ⟨_, rfl, _, rfl, _, rfl, _, rfl, _, _, rfl, rfl, _, rfl, _, _, rfl, rfl, a, ns, _, _, rfl, s2.seq hS, h63, ⟨by omega, by omega⟩, ⟨by omega, by omega⟩, fun y y0 y1 => ?_⟩
      have d0 : 0 ≤ ((m : Int) - 1 - x % b) / b := Int.ediv_nonneg (by omega) (by omega)
      have d1 := Int.mul_ediv_self_le (x := (m : Int) - 1 - x % b) (k := b) (by omega)
      have t0 := Int.emod_nonneg y (show ((m : Int) - 1 - x % b) / b + 1 ≠ 0 by omega)
      have t1 := Int.emod_lt_of_pos y (show 0 < ((m : Int) - 1 - x % b) / b + 1 by omega)
      have mu := Int.mul_le_mul_of_nonneg_left (show y % (((m : Int) - 1 - x % b) / b + 1) ≤ ((m : Int) - 1 - x % b) / b by omega) (show 0 ≤ b by omega)
      have mn := Int.mul_nonneg (show 0 ≤ b by omega) t0
      refine ⟨_, rfl, _, _, rfl, rfl, _, rfl, _, _, rfl, rfl, _, rfl, _, _, rfl, rfl, ⟨by omega, by omega⟩, _, _, rfl, rfl, _, _, rfl, rfl, (by show (0 : Int) < ((m : Int) - 1 - x % b) / b + 1; omega), _, _, rfl, rfl, mulIn (by omega) (by omega), _, _, rfl, rfl, ?_⟩
      obtain ⟨g, hg, gm⟩ : ∃ g : Nat, x % b + b * (y % (((m : Int) - 1 - x % b) / b + 1)) = (g : Int) ∧ g < m := ⟨(x % b + b * (y % (((m : Int) - 1 - x % b) / b + 1))).toNat, by omega, by omega⟩
      refine ⟨_, rfl, .inl ⟨rfl, _, SqL.of h2⟩, _, rfl, _, rfl, _, _, rfl, rfl, _, rfl, _, _, rfl, rfl, a, ns, _, _, rfl, s2.seq hS, h63, ⟨by omega, by omega⟩, ⟨by omega, by omega⟩, fun v ws H3 s3 hw lw => ?_⟩
      refine ⟨_, rfl, small_le (by show 2 ≤ 1000; decide), fun p4 hp4 => ?_⟩
      have u4 := s3.trans (same_new hp4 (.tup [v, .int (x % b + b * (y % (((m : Int) - 1 - x % b) / b + 1)))]))
      have h4 := u4 _ _ h2
      have kl := KeepT.lst h4 (.lst (mv ++ [.ref p4]))
      refine ⟨pm, _, _, rfl, rfl, h4, small1000 (by omega), mv ++ [.ref p4], ms ++ [(ws, g)], same_upd hpm (s2.trans u4) _, upd_same, Al.snoc (hA.mono fun _ _ z => z.mono ((KeepT.of u4).trans kl)) ⟨p4, v, rfl, (by rw [← hg]; exact kl _ _ upd_same), hw.mono ((KeepT.new hp4 _).trans kl)⟩, by simp [lms], fun x hx => ?_, _, _, rfl⟩
      rcases List.mem_append.mp hx with h | h
      · exact hms x h
      · rw [List.mem_singleton.mp h]
        exact ⟨by show ws.length ≤ 2; omega, gm⟩
    · rintro σ' H2 ⟨mv, ms, s2, h2, hA, lms, r⟩
      rw [Int.toNat_natCast] at lms
      exact ⟨mv, ms, s2, h2, hA, lms, r⟩
  rintro σ2 H2 ⟨mv, ms, s2, h2, hA, lms, hms, o7, o8, rfl⟩
  refine ⟨_, rfl, _, rfl, _, _, rfl, rfl, a, ns, _, _, rfl, s2.seq hS, h63, ⟨by omega, by omega⟩, ⟨by decide, by decide⟩, fun v ws H3 s3 hw lw => ?_⟩
  refine ⟨_, rfl, pm, _, rfl, .inl ⟨SqL.of (s3 _ _ h2), fun p4 hp4 => ⟨small_le (by show 2 ≤ 1000; decide), fun p5 hp5 => ?_⟩⟩⟩
  have u4 := same_new hp4 (.tup mv)
  have u5 := same_new hp5 (.tup [v, .ref p4])
  have h4 := u5 _ _ (show upd H3 p4 (.tup mv) p4 = some (.tup mv) from upd_same)
  have t45 := u4.trans u5
  exact q (.ref p5) (ws, ms) _ ((s2.trans s3).trans t45) ⟨p5, p4, v, mv, rfl, upd_same, hw.mono (KeepT.of t45), h4, hA.mono fun _ _ z => z.mono (KeepT.of (s3.trans t45))⟩ ⟨by show ws.length ≤ 2; omega, lms, hms⟩
end
end Tb

namespace Tb
open PySem L2 Mix Gds
/-! tables by the cells: lines -/
def spLine (K : PySem.W.Frag) : Sp := fun vs H Q _ => ∃ (a : Addr) (ns : List Int) (m e : Nat), vs = [.ref a, .int (m : Int), .int (e : Int)] ∧ SqL K H a (ns.map V.int) ∧ ns.length ≤ 63 ∧ 1 ≤ m ∧ m ≤ 200 ∧ 1 ≤ e ∧ e ≤ 8 ∧ ∀ (p : Addr) (rv : List V) (rows : List Row) (H' : Hp), Same H H' → H p = none → H' p = some (.lst rv) → Al (RwIn H') rv rows → TbOk rows m e → Q (.ref p) H'
section
variable {P : Program} {w : World} {K : PySem.W.Frag} {mg : Str → Option Value} {base : Heap}
abbrev lineSc : Scope := ⟨.function, [("_law_script", .local), ("_law_many", .local), ("_law_events", .local), ("_law_lit", .local), ("_law_at", .local), ("_law_rows", .local), ("_law_k", .local), ("_law_on", .local), ("_law_moves", .local), ("_law_e", .local), ("_law_words_here", .local), ("_law_goal", .local), ("_law_some", .globalImplicit), ("_law_mixed", .globalImplicit), ("range", .globalImplicit), ("tuple", .globalImplicit)], false, false, (defScope s_L_line).more⟩
theorem lineSc_eq : defScope s_L_line = lineSc := by rfl
theorem sc_law_line : FnScope ["_law_script", "_law_many", "_law_events", "_law_lit", "_law_at", "_law_rows", "_law_k", "_law_on", "_law_moves", "_law_e", "_law_words_here", "_law_goal"] ["_law_script", "_law_many", "_law_events"] lineSc := ⟨rfl, rfl, rfl, by decide +kernel, rfl, by decide +kernel, by decide +kernel⟩
theorem ok_line {f gm gs : Addr} {fd dm ds : FuncData} (F : Fun K "_law_line" "_law_line" s_L_line f fd) (G_law_mixed : FnOk P w K mg base CX0 3 gm dm ["_law_script", "_law_k", "_law_salt"] (spMixed K)) (b_law_mixed : Binds K dm ["_law_script", "_law_k", "_law_salt"] []) (k_law_mixed : PySem.W.keepIn K (.ref gm) = true) (m_law_mixed : mg "_law_mixed" = some (.ref gm))
    (G_law_some : FnOk P w K mg base CX0 3 gs ds ["_law_script", "_law_number"] (spSome K)) (b_law_some : Binds K ds ["_law_script", "_law_number"] []) (k_law_some : PySem.W.keepIn K (.ref gs) = true) (m_law_some : mg "_law_some" = some (.ref gs))
    (m_range : mg "range" = none) (m_tuple : mg "tuple" = none) : FnOk P w K mg base CX0 4 f fd ["_law_script", "_law_many", "_law_events"] (spLine K) := by
  refine okS lineSc lineSc_eq F sc_law_line (fun vs H Q E h => ?_) (fun cdv A outer s H vs Q E hr h => ?_)
  · obtain ⟨a, ns, m, e, rfl, _⟩ := h
    rfl
  obtain ⟨a, ns, m, e, rfl, hS, h63, m1, m200, e1, e8, q⟩ := h
  refine ⟨_, (pss_cons (ps_set (i := 3) sc_law_line.nd rfl (Or.inl rfl) (pe_call G_law_some hr rfl m_law_some k_law_some b_law_some .nil pass0 (pa_cons (pv 0) (pa_cons (pe_call G_law_mixed hr rfl m_law_mixed k_law_mixed b_law_mixed .nil pass0 (pa_cons (pv 0) (pa_cons pe_int (pa_cons pe_int pa_nil)))) pa_nil))))
    (pss_cons (ps_set (i := 4) sc_law_line.nd rfl (Or.inl rfl) (pe_op op_mod (pe_call G_law_mixed hr rfl m_law_mixed k_law_mixed b_law_mixed .nil pass0 (pa_cons (pv 0) (pa_cons pe_int (pa_cons pe_int pa_nil)))) (pv 1)))
    (pss_cons (ps_set (i := 5) sc_law_line.nd rfl (Or.inl rfl) (pe_lst pa_nil))
    (pss_cut (ps_for PassesOwn.never rfl (pi_range1 rfl m_range (pa_cons (pv 1) pa_nil)) (pg_name (i := 6) sc_law_line.nd rfl (Or.inl rfl))
      (pss_cons (ps_set (i := 7) sc_law_line.nd rfl (Or.inl rfl) (pe_op op_mod (pe_call G_law_mixed hr rfl m_law_mixed k_law_mixed b_law_mixed .nil pass0 (pa_cons (pv 0) (pa_cons (pe_op op_add pe_int (pv 6)) (pa_cons pe_int pa_nil)))) (pv 2)))
      (pss_cons (ps_set (i := 8) sc_law_line.nd rfl (Or.inl rfl) (pe_lst pa_nil))
      (pss_cut (ps_for PassesOwn.never rfl (pi_range1 rfl m_range (pa_cons (pv 2) pa_nil)) (pg_name (i := 9) sc_law_line.nd rfl (Or.inl rfl))
        (pss_cons (ps_set (i := 10) sc_law_line.nd rfl (Or.inl rfl) (pe_call G_law_some hr rfl m_law_some k_law_some b_law_some .nil pass0 (pa_cons (pv 0) (pa_cons (pe_call G_law_mixed hr rfl m_law_mixed k_law_mixed b_law_mixed .nil pass0 (pa_cons (pv 0) (pa_cons pe_int (pa_cons pe_int pa_nil)))) pa_nil))))
        (pss_cut (ps_if (pt_cut (PW.pt (pw_and (pt_cmpR op_eq (pv 6) (pv 4) (nomark _)) (pw_and1 (pt_cmpR op_eq (pv 9) (pv 7) (nomark _))))))
          (pss_one (ps_set (i := 10) sc_law_line.nd rfl (Or.inl rfl) (pe_op (OpR.or op_catT op_catT0) (pv 10) (pe_tup (pa_cons pe_str pa_nil)))))
          pss_nil)
        (pss_cons (ps_set (i := 11) sc_law_line.nd rfl (Or.inl rfl) (pe_op op_add (pv 6) pe_int))
        (pss_cut (ps_if (pt_cut (PW.pt (pw_or (pt_cmpR op_ne (pv 9) (pv 7) (nomark _)) (pw_or1 (pt_cmpR op_eq (pv 11) (pv 1) (nomark _))))))
          (pss_one (ps_set (i := 11) sc_law_line.nd rfl (Or.inl rfl) (pe_op op_mod (pe_call G_law_mixed hr rfl m_law_mixed k_law_mixed b_law_mixed .nil pass0 (pa_cons (pv 0) (pa_cons (pe_op op_add pe_int (pv 6)) (pa_cons (pe_op op_add pe_int (pv 9)) pa_nil)))) (pe_op op_add (pv 6) pe_int))))
          pss_nil)
        (pss_one (ps_expr (pe_bm PySem.F.plainAttrs_list PySem.F.slot_list_append PySem.F.type_list_append mt_append (pv 8) (pa_cons (pe_tup (pa_cons (pv 10) (pa_cons (pv 11) pa_nil))) pa_nil)))))))))
      (pss_one (ps_expr (pe_bm PySem.F.plainAttrs_list PySem.F.slot_list_append PySem.F.type_list_append mt_append (pv 5) (pa_cons (pe_tup (pa_cons (pv 3) (pa_cons (pe_callTy call_tuple_of rfl m_tuple PyProof.Rows.boot_tuple (pa_cons (pv 8) pa_nil)) pa_nil))) pa_nil))))))))
    (pss_one (ps_ret (pv 5))))))), ?_⟩
  refine ⟨_, rfl, _, rfl, a, ns, _, _, rfl, hS, h63, ⟨by decide, by decide⟩, ⟨by decide, by decide⟩, fun x x0 x1 => ⟨a, ns, _, rfl, hS, h63, fun vl wl H1 s1 hl lwl => ?_⟩⟩
  refine ⟨_, rfl, a, ns, _, _, rfl, s1.seq hS, h63, ⟨by decide, by decide⟩, ⟨by decide, by decide⟩, fun y y0 y1 => ⟨_, rfl, _, _, rfl, rfl, (by show (0 : Int) < (m : Int); omega), ?_⟩⟩
  refine ⟨Nat.zero_le _, fun pr hpr => ?_⟩
  have npr : H pr = none := s1.free hpr
  have s3 := same_new hpr (.lst [])
  refine ⟨fun σ' H' => ∃ (rv : List V) (rows : List Row), Same H1 H' ∧ H' pr = some (.lst rv) ∧ Al (RwIn H') rv rows ∧ rows.length = m ∧ (∀ r ∈ rows, RwOk 3 m e r) ∧ ∃ o6 o7 o8 o9 o10 o11 : Option V, σ' = [some (.ref a), some (.int (m : Int)), some (.int (e : Int)), some vl, some (.int (y % (m : Int))), some (.ref pr), o6, o7, o8, o9, o10, o11], ?_, ?_⟩
  · refine ⟨_, rfl, _, rfl, by omega, by omega, ?_⟩
    refine for_range (fun i σ' H' => ∃ (rv : List V) (rows : List Row), Same H1 H' ∧ H' pr = some (.lst rv) ∧ Al (RwIn H') rv rows ∧ rows.length = i ∧ (∀ r ∈ rows, RwOk 3 m e r) ∧ ∃ o6 o7 o8 o9 o10 o11 : Option V, σ' = [some (.ref a), some (.int (m : Int)), some (.int (e : Int)), some vl, some (.int (y % (m : Int))), some (.ref pr), o6, o7, o8, o9, o10, o11])
      ⟨[], [], s3, upd_same, .nil, rfl, (fun r h => by cases h), _, _, _, _, _, _, rfl⟩ ?_ ?_
    · rintro i σ' H4 hi ⟨rv, rows, s4, h4, hA, ltb, htb, o6, o7, o8, o9, o10, o11, rfl⟩
      have hi' : i < m := by
        simp only [Int.toNat_natCast] at hi
        exact hi
      have lrv := hA.length
      have s14 := s1.trans s4
      refine ⟨_, rfl, _, rfl, _, _, rfl, rfl, a, ns, _, _, rfl, s14.seq hS, h63, ⟨by omega, by omega⟩, ⟨by decide, by decide⟩, fun z z0 z1 => ⟨_, rfl, _, _, rfl, rfl, (by show (0 : Int) < (e : Int); omega), ?_⟩⟩
      refine ⟨Nat.zero_le _, fun pm hpm => ?_⟩
      have s5 := same_new hpm (.lst [])
      refine ⟨fun σ' H' => ∃ (mv : List V) (ms : List (List Str × Nat)), Same H4 H' ∧ H' pm = some (.lst mv) ∧ Al (MvIn H') mv ms ∧ ms.length = e ∧ (∀ g ∈ ms, g.1.length ≤ 3 ∧ g.2 < m) ∧ ∃ o9 o10 o11 : Option V, σ' = [some (.ref a), some (.int (m : Int)), some (.int (e : Int)), some vl, some (.int (y % (m : Int))), some (.ref pr), some (.int (0 + (i : Int))), some (.int (z % (e : Int))), some (.ref pm), o9, o10, o11], ?_, ?_⟩
      · refine ⟨_, rfl, _, rfl, by omega, by omega, ?_⟩
        refine for_range (fun j σ' H' => ∃ (mv : List V) (ms : List (List Str × Nat)), Same H4 H' ∧ H' pm = some (.lst mv) ∧ Al (MvIn H') mv ms ∧ ms.length = j ∧ (∀ g ∈ ms, g.1.length ≤ 3 ∧ g.2 < m) ∧ ∃ o9 o10 o11 : Option V, σ' = [some (.ref a), some (.int (m : Int)), some (.int (e : Int)), some vl, some (.int (y % (m : Int))), some (.ref pr), some (.int (0 + (i : Int))), some (.int (z % (e : Int))), some (.ref pm), o9, o10, o11])
          ⟨[], [], s5, upd_same, .nil, rfl, (fun g h => by cases h), _, _, _, rfl⟩ ?_ ?_
        · rintro j σ' H6 hj ⟨mv, ms, s6, h6, hB, lms, hms, o9, o10, o11, rfl⟩
          have hj' : j < e := by
            simp only [Int.toNat_natCast] at hj
            exact hj
          have lmv := hB.length
          have s16 := s14.trans s6
          refine ⟨_, rfl, _, rfl, a, ns, _, _, rfl, s16.seq hS, h63, ⟨by decide, by decide⟩, ⟨by decide, by decide⟩, fun t t0 t1 => ⟨a, ns, _, rfl, s16.seq hS, h63, fun vw ww H7 s7 hw lww => ?_⟩⟩
          refine ⟨fun σ' H' => Same H7 H' ∧ ∃ (vw : V) (ww : List Str), WdIn H' vw ww ∧ ww.length ≤ 3 ∧ σ' = [some (.ref a), some (.int (m : Int)), some (.int (e : Int)), some vl, some (.int (y % (m : Int))), some (.ref pr), some (.int (0 + (i : Int))), some (.int (z % (e : Int))), some (.ref pm), some (.int (0 + (j : Int))), some vw, o11], ?_, ?_⟩
          · refine ⟨fun c H' => H' = H7, ?_, ?_⟩
            · exact ⟨_, rfl, _, rfl, rfl, _, rfl, itB (fun c => ⟨_, rfl, _, rfl, rfl, _, rfl, rfl⟩) (fun c => rfl)⟩
            rintro c H' rfl
            refine itB (fun c => ?_) (fun c => ⟨Same.refl _, vw, ww, hw, by omega, rfl⟩)
            obtain ⟨aw, rfl, haw⟩ := hw
            refine ⟨_, rfl, small_le (by show 1 ≤ 1000; decide), fun p8 hp8 => ?_⟩
            have u8 := same_new hp8 (.tup [V.str "end"])
            have h88 : upd H' p8 (.tup [V.str "end"]) p8 = some (.tup ([("end" : Str)].map V.str)) := upd_same
            generalize upd H' p8 (.tup [V.str "end"]) = H8 at u8 h88 ⊢
            by_cases ez : ww = []
            · subst ez
              exact .inr ⟨aw, p8, _, rfl, rfl, SqT.of (u8 _ _ haw), SqT.of h88, u8, _, [("end" : Str)], ⟨p8, rfl, h88⟩, (by show 1 ≤ 3; decide), rfl⟩
            · refine .inl ⟨aw, p8, _, _, rfl, rfl, SqT.of (u8 _ _ haw), SqT.of h88, (fun z => ez (List.map_eq_nil_iff.mp z)), small_le (by rw [List.length_map]; show ww.length + 1 ≤ 1000; omega), (fun z => by cases z), fun _ p9 hp9 => ?_⟩
              refine ⟨u8.trans (same_new hp9 _), _, ww ++ [("end" : Str)], ⟨p9, rfl, ?_⟩, by rw [List.length_append]; show ww.length + 1 ≤ 3; omega, rfl⟩
              rw [upd_same, List.map_append]
          rintro σ7 H8 ⟨s8, vw, ww, hw, lww, rfl⟩
          refine ⟨_, rfl, _, _, rfl, rfl, ?_⟩
          refine ⟨fun σ' H' => H' = H8 ∧ ∃ g : Nat, g < m ∧ σ' = [some (.ref a), some (.int (m : Int)), some (.int (e : Int)), some vl, some (.int (y % (m : Int))), some (.ref pr), some (.int (0 + (i : Int))), some (.int (z % (e : Int))), some (.ref pm), some (.int (0 + (j : Int))), some vw, some (.int (g : Int))], ?_, ?_⟩
          · refine ⟨fun c H' => H' = H8 ∧ (c = false → i + 1 ≠ m), ?_, ?_⟩
            · refine ⟨_, rfl, _, rfl, rfl, _, rfl, itB (fun c => ⟨rfl, fun z => by cases z⟩) (fun c => ?_)⟩
              refine ⟨_, rfl, _, rfl, rfl, _, rfl, rfl, fun z1 z2 => of_decide_eq_false z1 ?_⟩
              show V.int (0 + (i : Int) + 1) = V.int (m : Int)
              rw [show (0 : Int) + (i : Int) + 1 = (m : Int) by omega]
            rintro c H' ⟨rfl, hc⟩
            refine itB (fun c => ?_) (fun c => ?_)
            · refine ⟨_, rfl, _, rfl, _, _, rfl, rfl, _, rfl, _, _, rfl, rfl, a, ns, _, _, rfl, (s16.trans (s7.trans s8)).seq hS, h63, ⟨by omega, by omega⟩, ⟨by omega, by omega⟩, fun t t0 t1 => ?_⟩
              have g0 := Int.emod_nonneg t (show (0 : Int) + (i : Int) + 1 ≠ 0 by omega)
              have g1 := Int.emod_lt_of_pos t (show (0 : Int) < 0 + (i : Int) + 1 by omega)
              refine ⟨_, rfl, _, _, rfl, rfl, _, _, rfl, rfl, (by show (0 : Int) < 0 + (i : Int) + 1; omega), rfl, (t % (0 + (i : Int) + 1)).toNat, by omega, ?_⟩
              rw [Int.toNat_of_nonneg g0]
              rfl
            · refine ⟨rfl, i + 1, ?_, ?_⟩
              · have := hc c
                omega
              · rw [show ((i + 1 : Nat) : Int) = 0 + (i : Int) + 1 by omega]
                rfl
          rintro σ9 H9 ⟨rfl, g, hg, rfl⟩
          have s69 := s7.trans s8
          refine ⟨_, rfl, .inl ⟨rfl, _, SqL.of (s69 _ _ h6)⟩, _, rfl, _, rfl, small_le (by show 2 ≤ 1000; decide), fun p9 hp9 => ?_⟩
          have u9 := s69.trans (same_new hp9 (.tup [vw, .int (g : Int)]))
          have h9 := u9 _ _ h6
          have kl := KeepT.lst h9 (.lst (mv ++ [.ref p9]))
          refine ⟨pm, _, _, rfl, rfl, h9, small1000 (by omega), mv ++ [.ref p9], ms ++ [(ww, g)], same_upd hpm (s6.trans u9) _, upd_same, Al.snoc (hB.mono fun _ _ b => b.mono ((KeepT.of u9).trans kl)) ⟨p9, vw, rfl, kl _ _ upd_same, hw.mono ((KeepT.new hp9 _).trans kl)⟩, by simp [lms], fun g' hg' => ?_, _, _, _, rfl⟩
          rcases List.mem_append.mp hg' with h | h
          · exact hms g' h
          · rw [List.mem_singleton.mp h]
            exact ⟨lww, hg⟩
        · rintro σ' H6 ⟨mv, ms, s6, h6, hB, lms, r⟩
          rw [Int.toNat_natCast] at lms
          exact ⟨mv, ms, s6, h6, hB, lms, r⟩
      rintro σ6 H6 ⟨mv, ms, s6, h6, hB, lms, hms, o9', o10', o11', rfl⟩
      have h6r := s6 _ _ h4
      refine ⟨_, rfl, .inl ⟨rfl, _, SqL.of h6r⟩, _, rfl, _, rfl, pm, _, rfl, .inl ⟨SqL.of h6, fun p8 hp8 => ⟨small_le (by show 2 ≤ 1000; decide), fun p9 hp9 => ?_⟩⟩⟩
      have u8 := same_new hp8 (.tup mv)
      have h88 : upd H6 p8 (.tup mv) p8 = some (.tup mv) := upd_same
      generalize upd H6 p8 (.tup mv) = H8 at u8 h88 hp9 ⊢
      have u9 := same_new hp9 (.tup [vl, .ref p8])
      have u69 := u8.trans u9
      have h9 := u69 _ _ h6r
      have kl := KeepT.lst h9 (.lst (rv ++ [.ref p9]))
      refine ⟨pr, _, _, rfl, rfl, h9, small1000 (by omega), rv ++ [.ref p9], rows ++ [(wl, ms)], same_upd hpr ((s4.trans s6).trans u69) _, upd_same, Al.snoc (hA.mono fun _ _ b => b.mono ((KeepT.of (s6.trans u69)).trans kl)) ⟨p9, p8, vl, mv, rfl, kl _ _ upd_same, hl.mono ((KeepT.of ((s4.trans s6).trans u69)).trans kl), ((KeepT.of u9).trans kl) _ _ h88, hB.mono fun _ _ b => b.mono ((KeepT.of u69).trans kl)⟩, by simp [ltb], fun gs' h => ?_, _, _, _, _, _, _, rfl⟩
      rcases List.mem_append.mp h with h | h
      · exact htb gs' h
      · rw [List.mem_singleton.mp h]
        exact ⟨by show wl.length ≤ 3; omega, lms, hms⟩
    · rintro σ' H4 ⟨rv, rows, s4, h4, hA, ltb, htb, r⟩
      rw [Int.toNat_natCast] at ltb
      exact ⟨rv, rows, s4, h4, hA, ltb, htb, r⟩
  rintro σ4 H4 ⟨rv, rows, s4, h4, hA, ltb, htb, o6, o7, o8, o9, o10, o11, rfl⟩
  exact ⟨_, rfl, q pr rv rows H4 (s1.trans s4) npr h4 hA ⟨ltb, m1, htb⟩⟩
end
end Tb

namespace Tb
open PySem L2 Mix Gds
/-! tables by the cells: the table -/
def spTable (K : PySem.W.Frag) : Sp := fun vs H Q _ => ∃ (a : Addr) (ns : List Int), vs = [.ref a] ∧ SqL K H a (ns.map V.int) ∧ ns.length ≤ 63 ∧ ∀ (p : Addr) (rv : List V) (rows : List Row) (m e : Nat) (H' : Hp), Same H H' → H p = none → H' p = some (.lst rv) → Al (RwIn H') rv rows → TbOk rows m e → m ≤ 200 → e ≤ 8 → Q (.ref p) H'
theorem cut_tail (x : V) (xs : List V) : cutV (x :: xs) (some 1) none = xs := by
  show (List.drop (if (1 : Int) < 0 then ((1 : Int) + ((x :: xs).length : Int)).toNat else min (1 : Int).toNat (x :: xs).length) (x :: xs)).take ((x :: xs).length - (if (1 : Int) < 0 then ((1 : Int) + ((x :: xs).length : Int)).toNat else min (1 : Int).toNat (x :: xs).length)) = xs
  rw [if_neg (by decide)]
  have e : min (1 : Int).toNat (x :: xs).length = 1 := by
    rw [List.length_cons]
    show min 1 (xs.length + 1) = 1
    omega
  rw [e]
  exact List.take_of_length_le (by simp)
theorem int_at {zs : List Int} {i : Int} (h0 : 0 ≤ i) (h1 : i < (zs.length : Int)) : ∃ z ∈ zs, atI (zs.map V.int) i = some (.int z) := by
  obtain ⟨v, hv, e⟩ := atI_some (xs := zs.map V.int) (i := i) h0 (by rw [List.length_map]; exact h1)
  obtain ⟨z, hz, rfl⟩ := List.mem_map.mp hv
  exact ⟨z, hz, e⟩
/-- words with one more behind -/
theorem wd_more {K : PySem.W.Frag} {H : Hp} {v : V} {ws : List Str} {p : Addr} {Q : VK} (hw : WdIn H v ws) (lw : ws.length ≤ 100) (hp : H p = none) (q : ∀ (v' : V) (H' : Hp), Same H H' → WdIn H' v' (ws ++ [("end" : Str)]) → Q v' H') :
    (rCatT K v (.ref p) (upd H p (.tup [V.str "end"])) Q) ∨ (∃ (a b : Addr) (ys : List V), v = .ref a ∧ V.ref p = .ref b ∧ SqT K (upd H p (.tup [V.str "end"])) a [] ∧ SqT K (upd H p (.tup [V.str "end"])) b ys ∧ Q (.ref b) (upd H p (.tup [V.str "end"]))) := by
  obtain ⟨a, rfl, ha⟩ := hw
  have u := same_new hp (.tup [V.str "end"])
  have hpp : upd H p (.tup [V.str "end"]) p = some (.tup ([("end" : Str)].map V.str)) := upd_same
  by_cases ez : ws = []
  · subst ez
    exact .inr ⟨a, p, _, rfl, rfl, SqT.of (u _ _ ha), SqT.of hpp, q _ _ u ⟨p, rfl, hpp⟩⟩
  · refine .inl ⟨a, p, _, _, rfl, rfl, SqT.of (u _ _ ha), SqT.of hpp, (fun z => ez (List.map_eq_nil_iff.mp z)), small_le (by rw [List.length_map]; show ws.length + 1 ≤ 1000; omega), (fun z => by cases z), fun _ p9 hp9 => ?_⟩
    refine q _ _ (u.trans (same_new hp9 _)) ⟨p9, rfl, ?_⟩
    rw [upd_same, List.map_append]
section
variable {P : Program} {w : World} {K : PySem.W.Frag} {mg : Str → Option Value} {base : Heap}
abbrev tabSc : Scope := ⟨.function, [("_law_script", .cell), ("_law_many", .cell), ("_law_events", .cell), ("_law_sort", .local), ("_law_base", .cell), ("_law_rows", .local), ("_law_at", .local), ("_law_moves", .local), ("_law_mixed", .globalImplicit), ("_law_line", .globalImplicit), ("range", .globalImplicit)], false, false, (defScope s_L_table).more⟩
theorem tabSc_eq : defScope s_L_table = tabSc := by rfl
theorem sc_law_table : FnScope ["_law_script", "_law_many", "_law_events", "_law_sort", "_law_base", "_law_rows", "_law_at", "_law_moves"] ["_law_script"] tabSc := ⟨rfl, rfl, rfl, by decide +kernel, rfl, by decide +kernel, by decide +kernel⟩
theorem ok_table {f gm gr gl : Addr} {fd dm dr dl : FuncData} (F : Fun K "_law_table" "_law_table" s_L_table f fd) (G_law_mixed : FnOk P w K mg base CX0 5 gm dm ["_law_script", "_law_k", "_law_salt"] (spMixed K)) (b_law_mixed : Binds K dm ["_law_script", "_law_k", "_law_salt"] []) (k_law_mixed : PySem.W.keepIn K (.ref gm) = true) (m_law_mixed : mg "_law_mixed" = some (.ref gm))
    (G_law_row : FnOk P w K mg base CX0 5 gr dr ["_law_script", "_law_k", "_law_base", "_law_many", "_law_events"] (spRow K)) (b_law_row : Binds K dr ["_law_script", "_law_k", "_law_base", "_law_many", "_law_events"] []) (k_law_row : PySem.W.keepIn K (.ref gr) = true) (m_law_row : mg "_law_row" = some (.ref gr))
    (G_law_line : FnOk P w K mg base CX0 5 gl dl ["_law_script", "_law_many", "_law_events"] (spLine K)) (b_law_line : Binds K dl ["_law_script", "_law_many", "_law_events"] []) (k_law_line : PySem.W.keepIn K (.ref gl) = true) (m_law_line : mg "_law_line" = some (.ref gl))
    (m_range : mg "range" = none) : FnOk P w K mg base CX0 6 f fd ["_law_script"] (spTable K) := by
  refine okS tabSc tabSc_eq F sc_law_table (fun vs H Q E h => ?_) (fun cdv A outer s H vs Q E hr h => ?_)
  · obtain ⟨a, ns, rfl, _⟩ := h
    rfl
  obtain ⟨a, ns, rfl, hS, h63, q⟩ := h
  refine ⟨_, RSs.p (r_cons (r_st (ps_set (i := 1) sc_law_table.nd rfl (Or.inr rfl) (pe_op op_add pe_int (pe_op op_mod (pe_call G_law_mixed hr rfl m_law_mixed k_law_mixed b_law_mixed .nil pass0 (pa_cons (pv 0) (pa_cons pe_int (pa_cons pe_int pa_nil)))) pe_int))))
    (r_cons (r_set (i := 2) sc_law_table.nd rfl (Or.inr rfl) (r_ixL (r_lst (ra_con (vs := [.int 0, .int 1, .int 1, .int 2, .int 2, .int 2, .int 3, .int 3]) (by rfl))) (pe_op op_mod (pe_call G_law_mixed hr rfl m_law_mixed k_law_mixed b_law_mixed .nil pass0 (pa_cons (pv 0) (pa_cons pe_int (pa_cons pe_int pa_nil)))) pe_int) (fun _ _ => rfl)))
    (r_cons (r_st (ps_set (i := 3) sc_law_table.nd rfl (Or.inl rfl) (pe_op op_mod (pe_call G_law_mixed hr rfl m_law_mixed k_law_mixed b_law_mixed .nil pass0 (pa_cons (pv 0) (pa_cons pe_int (pa_cons pe_int pa_nil)))) pe_int)))
    (r_cons (r_st (ps_set (i := 4) sc_law_table.nd rfl (Or.inr rfl) (pe_op op_add pe_int (pe_op op_mod (pe_call G_law_mixed hr rfl m_law_mixed k_law_mixed b_law_mixed .nil pass0 (pa_cons (pv 0) (pa_cons pe_int (pa_cons pe_int pa_nil)))) (pv 1)))))
    (r_cut (r_st (ps_if (pt_cmpR op_eq (pv 3) pe_int (nomark _))
      (pss_cons (ps_set (i := 1) sc_law_table.nd rfl (Or.inr rfl) (pe_op op_add pe_int (pe_op op_mod (pe_call G_law_mixed hr rfl m_law_mixed k_law_mixed b_law_mixed .nil pass0 (pa_cons (pv 0) (pa_cons pe_int (pa_cons pe_int pa_nil)))) pe_int)))
      (pss_cons (ps_set (i := 4) sc_law_table.nd rfl (Or.inr rfl) (pe_op op_add pe_int (pe_op op_mod (pe_call G_law_mixed hr rfl m_law_mixed k_law_mixed b_law_mixed .nil pass0 (pa_cons (pv 0) (pa_cons pe_int (pa_cons pe_int pa_nil)))) (pv 1))))
      (pss_one (ps_set (i := 2) sc_law_table.nd rfl (Or.inr rfl) pe_int))))
      pss_nil))
    (r_cut (r_st (ps_if (pt_cmpR op_eq (pv 3) pe_int (nomark _))
      (pss_cons (ps_set (i := 1) sc_law_table.nd rfl (Or.inr rfl) (pe_op op_add pe_int (pe_op op_mod (pv 1) pe_int)))
      (pss_cons (ps_set (i := 4) sc_law_table.nd rfl (Or.inr rfl) (pe_op op_add pe_int (pe_op op_mod (pe_call G_law_mixed hr rfl m_law_mixed k_law_mixed b_law_mixed .nil pass0 (pa_cons (pv 0) (pa_cons pe_int (pa_cons pe_int pa_nil)))) (pv 1))))
      (pss_one (ps_set (i := 2) sc_law_table.nd rfl (Or.inr rfl) (pe_op op_add pe_int (pv 2))))))
      pss_nil))
    (r_cut (r_st (ps_if (pt_cmpR op_eq (pv 3) pe_int (nomark _))
      (pss_cons (ps_set (i := 1) sc_law_table.nd rfl (Or.inr rfl) (pe_op op_add pe_int (pe_op op_mod (pe_call G_law_mixed hr rfl m_law_mixed k_law_mixed b_law_mixed .nil pass0 (pa_cons (pv 0) (pa_cons pe_int (pa_cons pe_int pa_nil)))) pe_int)))
      (pss_cons (ps_set (i := 4) sc_law_table.nd rfl (Or.inr rfl) (pe_op op_sub (pv 1) (pe_op op_mod (pe_call G_law_mixed hr rfl m_law_mixed k_law_mixed b_law_mixed .nil pass0 (pa_cons (pv 0) (pa_cons pe_int (pa_cons pe_int pa_nil)))) pe_int)))
      (pss_one (ps_set (i := 2) sc_law_table.nd rfl (Or.inr rfl) pe_int))))
      pss_nil))
    (r_cons (r_st (ps_if (pt_cmpR op_eq (pv 3) pe_int (nomark _))
      (pss_one (ps_ret (pe_call G_law_line hr rfl m_law_line k_law_line b_law_line .nil pass0 (pa_cons (pv 0) (pa_cons (pe_op op_add pe_int (pe_op op_mod (pe_call G_law_mixed hr rfl m_law_mixed k_law_mixed b_law_mixed .nil pass0 (pa_cons (pv 0) (pa_cons pe_int (pa_cons pe_int pa_nil)))) pe_int)) (pa_cons pe_int pa_nil))))))
      pss_nil))
    (r_cons (r_st (ps_if (pt_cmpR op_eq (pv 3) pe_int (nomark _))
      (pss_one (ps_ret (pe_call G_law_line hr rfl m_law_line k_law_line b_law_line .nil pass0 (pa_cons (pv 0) (pa_cons (pe_op op_add pe_int (pe_op op_mod (pe_call G_law_mixed hr rfl m_law_mixed k_law_mixed b_law_mixed .nil pass0 (pa_cons (pv 0) (pa_cons pe_int (pa_cons pe_int pa_nil)))) pe_int)) (pa_cons (pe_op op_add pe_int (pe_op op_mod (pv 1) pe_int)) pa_nil))))))
      pss_nil))
    (r_cons (r_st (ps_setC (i := 5) (caps := [(0, "_law_script"), (4, "_law_base"), (1, "_law_many"), (2, "_law_events")]) rfl sc_law_table.nd rfl (Or.inl rfl) (show CompSc tabSc ["_law_script", "_law_many", "_law_events", "_law_sort", "_law_base", "_law_rows", "_law_at", "_law_moves"] _ _ _ from ⟨rfl, rfl, by decide +kernel, by decide +kernel, by decide +kernel, by decide +kernel, by decide +kernel⟩) (pi_range1 rfl m_range (pa_cons (pv 1) pa_nil)) (fun _ _ _ _ _ _ => pifs_nil) (fun _ _ _ _ _ _ => (pe_call G_law_row hr rfl m_law_row k_law_row b_law_row .nil pass0 (pa_cons (pv 1) (pa_cons (pv 0) (pa_cons (pv 2) (pa_cons (pv 3) (pa_cons (pv 4) pa_nil)))))))))
    (r_cut (r_st (ps_if (pt_cmpR op_eq (pe_op op_mod (pe_call G_law_mixed hr rfl m_law_mixed k_law_mixed b_law_mixed .nil pass0 (pa_cons (pv 0) (pa_cons pe_int (pa_cons pe_int pa_nil)))) pe_int) pe_int (nomark _))
      (pss_cons (ps_set (i := 6) sc_law_table.nd rfl (Or.inl rfl) (pe_op op_mod (pe_call G_law_mixed hr rfl m_law_mixed k_law_mixed b_law_mixed .nil pass0 (pa_cons (pv 0) (pa_cons pe_int (pa_cons pe_int pa_nil)))) (pv 1)))
      (pss_cons (ps_set (i := 7) sc_law_table.nd rfl (Or.inl rfl) (pe_ix ix_tup (pe_ix ix_list (pv 5) (pv 6) (fun _ _ => rfl)) pe_int (fun _ _ => rfl)))
      (pss_one (ps_if (pt_cmpR op_gt (pv 2) pe_int (nomark _))
        (pss_cons (ps_set (i := 7) sc_law_table.nd rfl (Or.inl rfl) (pe_cut (pe_op op_catT (pe_tup (pa_cons (pe_tup (pa_cons (pe_cut (pe_op (OpR.or op_catT op_catT0) (pe_ix ix_tup (pe_ix ix_tup (pv 7) pe_int (fun _ _ => rfl)) pe_int (fun _ _ => rfl)) (pe_tup (pa_cons pe_str pa_nil)))) (pa_cons (pe_ix ix_tup (pe_ix ix_tup (pv 7) pe_int (fun _ _ => rfl)) pe_int (fun _ _ => rfl)) pa_nil))) pa_nil)) (pe_slice sl_tup (pv 7) (po_some pe_int) po_none))))
        (pss_one (ps_asg (pe_tup (pa_cons (pe_ix ix_tup (pe_ix ix_list (pv 5) (pv 6) (fun _ _ => rfl)) pe_int (fun _ _ => rfl)) (pa_cons (pv 7) pa_nil))) (pg_sub (pv 5) (pv 6) set_list))))
        (pss_one (ps_asg (pe_tup (pa_cons (pe_cut (pe_op (OpR.or op_catT op_catT0) (pe_ix ix_tup (pe_ix ix_list (pv 5) (pv 6) (fun _ _ => rfl)) pe_int (fun _ _ => rfl)) (pe_tup (pa_cons pe_str pa_nil)))) (pa_cons (pv 7) pa_nil))) (pg_sub (pv 5) (pv 6) set_list)))))))
      pss_nil))
    (r_one (r_st (ps_ret (pv 5))))))))))))))), ?_⟩
  refine ⟨_, rfl, a, ns, _, _, rfl, hS, h63, ⟨by decide, by decide⟩, ⟨by decide, by decide⟩, fun x x0 x1 => ⟨_, _, rfl, rfl, (by show (0 : Int) < 9; decide), _, _, rfl, rfl, ?_⟩⟩
  refine ⟨small_le (by show 8 ≤ 1000; decide), fun p1 hp1 => ?_⟩
  have s1 := same_new hp1 (.lst [V.int 0, V.int 1, V.int 1, V.int 2, V.int 2, V.int 2, V.int 3, V.int 3])
  have h1 : upd H p1 (.lst [V.int 0, V.int 1, V.int 1, V.int 2, V.int 2, V.int 2, V.int 3, V.int 3]) p1 = some (.lst [V.int 0, V.int 1, V.int 1, V.int 2, V.int 2, V.int 2, V.int 3, V.int 3]) := upd_same
  generalize upd H p1 (.lst [V.int 0, V.int 1, V.int 1, V.int 2, V.int 2, V.int 2, V.int 3, V.int 3]) = H1 at s1 h1 ⊢
  refine ⟨_, rfl, a, ns, _, _, rfl, s1.seq hS, h63, ⟨by decide, by decide⟩, ⟨by decide, by decide⟩, fun x2 x20 x21 => ?_⟩
  obtain ⟨e0, he0, hat1⟩ := int_at (zs := [0, 1, 1, 2, 2, 2, 3, 3]) (i := x2 % 8) (by omega) (by show _ < (8 : Int); omega)
  have e03 : 0 ≤ e0 ∧ e0 ≤ 3 := by
    simp only [List.mem_cons, List.not_mem_nil, or_false] at he0
    omega
  refine ⟨_, _, rfl, rfl, (by show (0 : Int) < 8; decide), p1, _, _, _, rfl, rfl, SqL.of h1, hat1, ?_⟩
  refine ⟨_, rfl, a, ns, _, _, rfl, s1.seq hS, h63, ⟨by decide, by decide⟩, ⟨by decide, by decide⟩, fun so so0 so1 => ⟨_, _, rfl, rfl, (by show (0 : Int) < 8; decide), ?_⟩⟩
  refine ⟨_, rfl, a, ns, _, _, rfl, s1.seq hS, h63, ⟨by decide, by decide⟩, ⟨by decide, by decide⟩, fun x3 x30 x31 => ⟨_, rfl, _, _, rfl, rfl, (by show (0 : Int) < 1 + x % 9; omega), _, _, rfl, rfl, ?_⟩⟩
  have bs : ∀ (y : Int) (m : Nat), 1 ≤ m → 1 ≤ 1 + y % (m : Int) ∧ 1 + y % (m : Int) ≤ (m : Int) := fun y m hm => by
    have := Int.emod_nonneg y (show (m : Int) ≠ 0 by omega)
    have := Int.emod_lt_of_pos y (show (0 : Int) < (m : Int) by omega)
    omega
  obtain ⟨m0, em0, m01, m09⟩ : ∃ m : Nat, 1 + x % 9 = (m : Int) ∧ 1 ≤ m ∧ m ≤ 9 := ⟨(1 + x % 9).toNat, by omega, by omega, by omega⟩
  obtain ⟨e1, rfl, e13⟩ : ∃ e : Nat, e0 = (e : Int) ∧ e ≤ 3 := ⟨e0.toNat, by omega, by omega⟩
  refine ⟨fun σ' H' => H' = H1 ∧ ∃ (m e : Nat) (b : Int), 1 ≤ m ∧ m ≤ 200 ∧ e ≤ 3 ∧ 1 ≤ b ∧ b ≤ (m : Int) ∧ σ' = [some (.ref a), some (.int (m : Int)), some (.int (e : Int)), some (.int (so % 8)), some (.int b), none, none, none], ?_, ?_⟩
  · refine ⟨_, rfl, rfl, _, rfl, itB (fun c => ?_) (fun c => ?_)⟩
    · refine ⟨_, rfl, a, ns, _, _, rfl, s1.seq hS, h63, ⟨by decide, by decide⟩, ⟨by decide, by decide⟩, fun y y0 y1 => ⟨_, _, rfl, rfl, (by show (0 : Int) < 31; decide), _, _, rfl, rfl, ?_⟩⟩
      obtain ⟨m, em, hm1, hm2⟩ : ∃ m : Nat, 10 + y % 31 = (m : Int) ∧ 1 ≤ m ∧ m ≤ 200 := ⟨(10 + y % 31).toNat, by omega, by omega, by omega⟩
      refine ⟨_, rfl, a, ns, _, _, rfl, s1.seq hS, h63, ⟨by decide, by decide⟩, ⟨by decide, by decide⟩, fun y2 y20 y21 => ⟨_, rfl, _, _, rfl, rfl, (by show (0 : Int) < 10 + y % 31; omega), _, _, rfl, rfl, rfl, m, 1, 1 + y2 % (m : Int), hm1, hm2, by decide, (bs y2 m hm1).1, (bs y2 m hm1).2, ?_⟩⟩
      rw [← em]
      rfl
    · refine ⟨rfl, m0, e1, 1 + x3 % (m0 : Int), m01, by omega, e13, (bs x3 m0 m01).1, (bs x3 m0 m01).2, ?_⟩
      rw [← em0]
      rfl
  rintro σ2 H2 ⟨rfl, m, e, b, m1, m2, e3, b1, b2, rfl⟩
  refine ⟨fun σ' H' => H' = H2 ∧ ∃ (m e : Nat) (b : Int), 1 ≤ m ∧ m ≤ 200 ∧ e ≤ 8 ∧ 1 ≤ b ∧ b ≤ (m : Int) ∧ σ' = [some (.ref a), some (.int (m : Int)), some (.int (e : Int)), some (.int (so % 8)), some (.int b), none, none, none], ?_, ?_⟩
  · refine ⟨_, rfl, rfl, _, rfl, itB (fun c => ?_) (fun c => ⟨rfl, m, e, b, m1, m2, by omega, b1, b2, rfl⟩)⟩
    refine ⟨_, rfl, _, _, rfl, rfl, (by show (0 : Int) < 4; decide), _, _, rfl, rfl, ?_⟩
    obtain ⟨m', em, hm1, hm2⟩ : ∃ m' : Nat, 1 + (m : Int) % 4 = (m' : Int) ∧ 1 ≤ m' ∧ m' ≤ 200 := ⟨(1 + (m : Int) % 4).toNat, by omega, by omega, by omega⟩
    refine ⟨_, rfl, a, ns, _, _, rfl, s1.seq hS, h63, ⟨by decide, by decide⟩, ⟨by decide, by decide⟩, fun y2 y20 y21 => ⟨_, rfl, _, _, rfl, rfl, (by show (0 : Int) < 1 + (m : Int) % 4; omega), _, _, rfl, rfl, ?_⟩⟩
    refine ⟨_, rfl, _, _, rfl, rfl, rfl, m', 5 + e, 1 + y2 % (m' : Int), hm1, hm2, by omega, (bs y2 m' hm1).1, (bs y2 m' hm1).2, ?_⟩
    rw [← em, show ((5 + e : Nat) : Int) = 5 + (e : Int) by omega]
    rfl
  rintro σ3 H3 ⟨rfl, m, e, b, m1, m2, e8, b1, b2, rfl⟩
  refine ⟨fun σ' H' => H' = H3 ∧ ∃ (m e : Nat) (b : Int), 1 ≤ m ∧ m ≤ 200 ∧ e ≤ 8 ∧ 1 ≤ b ∧ b ≤ (m : Int) ∧ σ' = [some (.ref a), some (.int (m : Int)), some (.int (e : Int)), some (.int (so % 8)), some (.int b), none, none, none], ?_, ?_⟩
  · refine ⟨_, rfl, rfl, _, rfl, itB (fun c => ?_) (fun c => ⟨rfl, m, e, b, m1, m2, by omega, b1, b2, rfl⟩)⟩
    refine ⟨_, rfl, a, ns, _, _, rfl, s1.seq hS, h63, ⟨by decide, by decide⟩, ⟨by decide, by decide⟩, fun y y0 y1 => ⟨_, _, rfl, rfl, (by show (0 : Int) < 9; decide), _, _, rfl, rfl, ?_⟩⟩
    obtain ⟨m', em, hm1, hm2⟩ : ∃ m' : Nat, 10 + y % 9 = (m' : Int) ∧ 10 ≤ m' ∧ m' ≤ 200 := ⟨(10 + y % 9).toNat, by omega, by omega, by omega⟩
    refine ⟨_, rfl, _, rfl, a, ns, _, _, rfl, s1.seq hS, h63, ⟨by decide, by decide⟩, ⟨by decide, by decide⟩, fun y2 y20 y21 => ⟨_, _, rfl, rfl, (by show (0 : Int) < 3; decide), _, _, rfl, rfl, rfl, m', 2, (m' : Int) - y2 % 3, by omega, hm2, by decide, by omega, by omega, ?_⟩⟩
    rw [← em]
    rfl
  rintro σ4 H4 ⟨rfl, m, e, b, m1, m2, e8, b1, b2, rfl⟩
  refine ⟨_, rfl, rfl, _, rfl, itB (fun c => ?_) (fun c => ?_)⟩
  · refine ⟨_, rfl, _, rfl, a, ns, _, _, rfl, s1.seq hS, h63, ⟨by decide, by decide⟩, ⟨by decide, by decide⟩, fun y y0 y1 => ⟨_, _, rfl, rfl, (by show (0 : Int) < 59; decide), _, _, rfl, rfl, ?_⟩⟩
    obtain ⟨m', em, hm1, hm2⟩ : ∃ m' : Nat, 2 + y % 59 = (m' : Int) ∧ 1 ≤ m' ∧ m' ≤ 200 := ⟨(2 + y % 59).toNat, by omega, by omega, by omega⟩
    exact ⟨a, ns, m', 1, (by rw [← em]; rfl), s1.seq hS, h63, hm1, hm2, by decide, by decide, fun p rv rows H' s' np hp hA T => q p rv rows m' 1 H' (s1.trans s') (s1.free np) hp hA T hm2 (by decide)⟩
  refine ⟨_, rfl, rfl, _, rfl, itB (fun c => ?_) (fun c => ?_)⟩
  · refine ⟨_, rfl, _, rfl, a, ns, _, _, rfl, s1.seq hS, h63, ⟨by decide, by decide⟩, ⟨by decide, by decide⟩, fun y y0 y1 => ⟨_, _, rfl, rfl, (by show (0 : Int) < 11; decide), _, _, rfl, rfl, _, rfl, _, _, rfl, rfl, (by show (0 : Int) < 2; decide), _, _, rfl, rfl, ?_⟩⟩
    obtain ⟨m', em, hm1, hm2⟩ : ∃ m' : Nat, 2 + y % 11 = (m' : Int) ∧ 1 ≤ m' ∧ m' ≤ 200 := ⟨(2 + y % 11).toNat, by omega, by omega, by omega⟩
    obtain ⟨e', ee, he1, he2⟩ : ∃ e' : Nat, 2 + (m : Int) % 2 = (e' : Int) ∧ 1 ≤ e' ∧ e' ≤ 8 := ⟨(2 + (m : Int) % 2).toNat, by omega, by omega, by omega⟩
    exact ⟨a, ns, m', e', (by rw [← em, ← ee]; rfl), s1.seq hS, h63, hm1, hm2, he1, he2, fun p rv rows H' s' np hp hA T => q p rv rows m' e' H' (s1.trans s') (s1.free np) hp hA T hm2 he2⟩
  refine ⟨_, rfl, _, rfl, by omega, by omega, ?_⟩
  refine comp_range (fun i acc H' => Same H4 H' ∧ ∃ rows : List Row, Al (RwIn H') acc rows ∧ rows.length = i ∧ ∀ r ∈ rows, RwOk 2 m e r) ⟨Same.refl _, [], .nil, rfl, fun r h => by cases h⟩ (fun i acc H' hi ⟨e1, rows, hA, lr, hok⟩ => ?_) (fun acc H' ⟨e1, rows, hA, lr, hok⟩ pr hpr => ?_)
  · have hi' : i < m := by
      simp only [Int.toNat_natCast] at hi
      exact hi
    have la := hA.length
    refine ⟨_, rfl, _, rfl, _, rfl, _, rfl, _, rfl, a, ns, _, b, m, e, rfl, (s1.trans e1).seq hS, h63, ⟨by omega, by omega⟩, ⟨b1, b2⟩, m2, e8, fun v r H5 s5 hr' rok => ⟨small1000 (by omega), e1.trans s5, rows ++ [r], Al.snoc (hA.mono fun _ _ z => z.mono (KeepT.of s5)) hr', by simp [lr], fun r' h => ?_⟩⟩
    rcases List.mem_append.mp h with h | h
    · exact hok r' h
    · rw [List.mem_singleton.mp h]
      exact rok
  rw [Int.toNat_natCast] at lr
  have u5 := same_new hpr (.lst acc)
  have s5 := (s1.trans e1).trans u5
  have npr : H pr = none := (s1.trans e1).free hpr
  have h5 : upd H' pr (.lst acc) pr = some (.lst acc) := upd_same
  have hA5 := hA.mono fun _ _ z => z.mono (KeepT.of u5)
  generalize upd H' pr (.lst acc) = H5 at s5 h5 hA5 ⊢
  have la := hA5.length
  have ok3 : ∀ r ∈ rows, RwOk 3 m e r := fun r h => ⟨by have := (hok r h).1; omega, (hok r h).2.1, fun x hx => ⟨by have := ((hok r h).2.2 x hx).1; omega, ((hok r h).2.2 x hx).2⟩⟩
  refine ⟨fun σ' H' => ∃ (rv : List V) (rows : List Row), Same H H' ∧ H' pr = some (.lst rv) ∧ Al (RwIn H') rv rows ∧ TbOk rows m e ∧ ∃ o1 o2 o3 o4 o6 o7 : Option V, σ' = [some (.ref a), o1, o2, o3, o4, some (.ref pr), o6, o7], ?_, ?_⟩
  · refine ⟨_, rfl, a, ns, _, _, rfl, s5.seq hS, h63, ⟨by decide, by decide⟩, ⟨by decide, by decide⟩, fun y y0 y1 => ⟨_, _, rfl, rfl, (by show (0 : Int) < 3; decide), rfl, _, rfl, itB (fun c => ?_) (fun c => ⟨acc, rows, s5, h5, hA5, ⟨lr, m1, ok3⟩, _, _, _, _, _, _, rfl⟩)⟩⟩
    refine ⟨_, rfl, a, ns, _, _, rfl, s5.seq hS, h63, ⟨by decide, by decide⟩, ⟨by decide, by decide⟩, fun y2 y20 y21 => ⟨_, rfl, _, _, rfl, rfl, (by show (0 : Int) < (m : Int); omega), ?_⟩⟩
    have a0 := Int.emod_nonneg y2 (show (m : Int) ≠ 0 by omega)
    have a1 := Int.emod_lt_of_pos y2 (show (0 : Int) < (m : Int) by omega)
    obtain ⟨j, ej⟩ : ∃ j : Nat, y2 % (m : Int) = (j : Int) := ⟨(y2 % (m : Int)).toNat, by omega⟩
    have hj : j < rows.length := by omega
    have erj := List.getElem?_eq_getElem hj
    obtain ⟨vr, hvr, ar, am, l, mv, rfl, har, hl, ham, hmv⟩ := hA5.get erj
    have hrm := List.getElem_mem hj
    have hok' := hok _ hrm
    generalize rows[j] = r at erj hl hmv hok'
    have hatr : atI acc (y2 % (m : Int)) = some (.ref ar) := by
      rw [ej]
      exact atI_nat hvr
    have hix : ixN acc.length (y2 % (m : Int)) = some j := by
      rw [ej]
      unfold ixN
      rw [if_pos (by omega), if_pos (by omega), Int.toNat_natCast]
    have fin : ∀ (pn : Addr) (v1 : V) (p2 : Addr) (r' : Row) (mv2 : List V) (H6 : Hp) (σ' : St), Same H5 H6 → H6 pn = some (.tup [v1, .ref p2]) → WdIn H6 v1 r'.1 → H6 p2 = some (.tup mv2) → Al (MvIn H6) mv2 r'.2 → RwOk 3 m e r' → (∃ o1 o2 o3 o4 o6 o7 : Option V, σ' = [some (.ref a), o1, o2, o3, o4, some (.ref pr), o6, o7]) →
        ∃ (rv : List V) (rows' : List Row), Same H (upd H6 pr (.lst (acc.set j (.ref pn)))) ∧ upd H6 pr (.lst (acc.set j (.ref pn))) pr = some (.lst rv) ∧ Al (RwIn (upd H6 pr (.lst (acc.set j (.ref pn))))) rv rows' ∧ TbOk rows' m e ∧ ∃ o1 o2 o3 o4 o6 o7 : Option V, σ' = [some (.ref a), o1, o2, o3, o4, some (.ref pr), o6, o7] := fun pn v1 p2 r' mv2 H6 σ' u6 hn hw hp2 hm2 okr hσ => by
      have kl := KeepT.lst (u6 _ _ h5) (.lst (acc.set j (.ref pn)))
      refine ⟨acc.set j (.ref pn), rows.set j r', same_upd npr (s5.trans u6) _, upd_same, ?_, ⟨by rw [List.length_set]; exact lr, m1, fun x hx => ?_⟩, hσ⟩
      · exact Al.set (hA5.mono fun _ _ z => z.mono ((KeepT.of u6).trans kl)) ⟨pn, p2, v1, mv2, rfl, kl _ _ hn, hw.mono kl, kl _ _ hp2, hm2.mono fun _ _ z => z.mono kl⟩ j
      · rcases List.mem_or_eq_of_mem_set hx with h | h
        · exact ok3 x h
        · rw [h]
          exact okr
    refine ⟨_, rfl, _, rfl, pr, _, _, _, rfl, rfl, SqL.of h5, hatr, ar, _, _, _, rfl, rfl, SqT.of har, rfl, ?_⟩
    refine ⟨_, rfl, _, _, rfl, rfl, _, rfl, ite2 (fun c2 => ?_) (fun c2 => ?_)⟩
    · have ep : 0 < e := by
        have : (0 : Int) < (e : Int) := of_decide_eq_true c2
        omega
      obtain ⟨rl, rm⟩ := r
      cases hmv with
      | nil =>
        have := hok'.2.1
        simp at this
        omega
      | @cons v0 g0 mvs ms h0 hmvs =>
        obtain ⟨a0', w0, rfl, ha0, hw0⟩ := h0
        have g0ok := hok'.2.2 g0 List.mem_cons_self
        refine ⟨fun v H' => ∃ (am' : Addr) (mv' : List V), v = .ref am' ∧ Same H5 H' ∧ H' am' = some (.tup mv') ∧ Al (MvIn H') mv' ((g0.1 ++ [("end" : Str)], g0.2) :: ms), ?_, ?_⟩
        · refine ⟨fun v H' => Same H5 H' ∧ WdIn H' v (g0.1 ++ [("end" : Str)]), ?_, ?_⟩
          · refine ⟨_, rfl, am, _, _, _, rfl, rfl, SqT.of ham, (atI_nat (j := 0) rfl), a0', _, _, _, rfl, rfl, SqT.of ha0, rfl, small_le (by show 1 ≤ 1000; decide), fun p6 hp6 => wd_more hw0 (by omega) hp6 fun v' H6 s6 hw' => ⟨s6, hw'⟩⟩
          rintro v1 H6 ⟨s6, hw1⟩
          refine ⟨_, rfl, am, _, _, _, rfl, rfl, SqT.of (s6 _ _ ham), (atI_nat (j := 0) rfl), a0', _, _, _, rfl, rfl, SqT.of (s6 _ _ ha0), rfl, small_le (by show 2 ≤ 1000; decide), fun p7 hp7 => ⟨small_le (by show 1 ≤ 1000; decide), fun p8 hp8 => ?_⟩⟩
          have u7 := same_new hp7 (.tup [v1, .int (g0.2 : Int)])
          have h77 : upd H6 p7 (.tup [v1, .int (g0.2 : Int)]) p7 = some (.tup [v1, .int (g0.2 : Int)]) := upd_same
          generalize upd H6 p7 (.tup [v1, .int (g0.2 : Int)]) = H7 at u7 h77 hp8 ⊢
          have u8 := same_new hp8 (.tup [V.ref p7])
          have h88 : upd H7 p8 (.tup [V.ref p7]) p8 = some (.tup [V.ref p7]) := upd_same
          generalize upd H7 p8 (.tup [V.ref p7]) = H8 at u8 h88 ⊢
          have s58 := s6.trans (u7.trans u8)
          refine ⟨_, rfl, _, rfl, am, _, rfl, SqT.of (s58 _ _ ham), (fun z => ?_), fun p9 hp9 => ?_⟩
          · have y1 : HT.sIx (mvs.length + 1) 0 (some 1) = 0 := z.1
            unfold HT.sIx at y1
            simp at y1
          rw [cut_tail]
          have u9 := same_new hp9 (.tup mvs)
          have h99 : upd H8 p9 (.tup mvs) p9 = some (.tup mvs) := upd_same
          generalize upd H8 p9 (.tup mvs) = H9 at u9 h99 ⊢
          have s59 := s58.trans u9
          have lms := hmvs.length
          have e2 := hok'.2.1
          simp only [List.length_cons] at e2
          have hd : ∀ H', Same H9 H' → MvIn H' (.ref p7) (g0.1 ++ [("end" : Str)], g0.2) := fun H' s' => ⟨p7, v1, rfl, (u8.trans (u9.trans s')) _ _ h77, hw1.mono (KeepT.of (u7.trans (u8.trans (u9.trans s'))))⟩
          refine ⟨p8, p9, _, _, rfl, rfl, SqT.of (u9 _ _ h88), SqT.of h99, (by intro z; cases z), small_le (by show 1 + mvs.length ≤ 1000; omega), fun z => ?_, fun z p10 hp10 => ?_⟩
          · subst z
            have : ms = [] := by
              cases ms with
              | nil => rfl
              | cons _ _ => simp at lms
            subst this
            exact ⟨p8, _, rfl, s59, u9 _ _ h88, .cons (hd _ (Same.refl _)) .nil⟩
          · exact ⟨p10, _, rfl, s59.trans (same_new hp10 _), upd_same, .cons (hd _ (same_new hp10 _)) (hmvs.mono fun _ _ z => z.mono (KeepT.of (s59.trans (same_new hp10 _))))⟩
        rintro v2 H6 ⟨am', mv', rfl, s6, ham', hmv'⟩
        refine ⟨_, rfl, _, rfl, pr, _, _, _, rfl, rfl, SqL.of (s6 _ _ h5), hatr, ar, _, _, _, rfl, rfl, SqT.of (s6 _ _ har), rfl, _, rfl, small_le (by show 2 ≤ 1000; decide), fun p9 hp9 => ?_⟩
        have u9 := same_new hp9 (.tup [l, .ref am'])
        have h9 := (s6.trans u9) _ _ h5
        refine ⟨_, rfl, _, rfl, pr, acc, _, j, rfl, rfl, h9, hix, fin p9 l am' (rl, (g0.1 ++ [("end" : Str)], g0.2) :: ms) mv' _ _ (s6.trans u9) upd_same (hl.mono (KeepT.of (s6.trans u9))) (u9 _ _ ham') (hmv'.mono fun _ _ z => z.mono (KeepT.of u9)) ⟨by have h : rl.length ≤ 2 := hok'.1; show rl.length ≤ 3; omega, hok'.2.1, fun x hx => ?_⟩ ⟨_, _, _, _, _, _, rfl⟩⟩
        rcases List.mem_cons.mp hx with rfl | hx
        · exact ⟨by show (g0.1 ++ [("end" : Str)]).length ≤ 3; rw [List.length_append]; show g0.1.length + 1 ≤ 3; omega, g0ok.2⟩
        · have := hok'.2.2 x (List.mem_cons_of_mem _ hx)
          exact ⟨by omega, this.2⟩
    · have ez : e = 0 := by
        have : ¬ (0 : Int) < (e : Int) := fun z => c2 (decide_eq_true z)
        omega
      refine ⟨fun v H' => Same H5 H' ∧ WdIn H' v (r.1 ++ [("end" : Str)]), ?_, ?_⟩
      · refine ⟨_, rfl, _, rfl, pr, _, _, _, rfl, rfl, SqL.of h5, hatr, ar, _, _, _, rfl, rfl, SqT.of har, rfl, small_le (by show 1 ≤ 1000; decide), fun p6 hp6 => wd_more hl (by have := hok'.1; omega) hp6 fun v' H6 s6 hw' => ⟨s6, hw'⟩⟩
      rintro v1 H6 ⟨s6, hw1⟩
      refine ⟨_, rfl, small_le (by show 2 ≤ 1000; decide), fun p9 hp9 => ?_⟩
      have u9 := same_new hp9 (.tup [v1, .ref am])
      have h9 := (s6.trans u9) _ _ h5
      refine ⟨_, rfl, _, rfl, pr, acc, _, j, rfl, rfl, h9, hix, fin p9 v1 am (r.1 ++ [("end" : Str)], r.2) mv _ _ (s6.trans u9) upd_same (hw1.mono (KeepT.of u9)) ((s6.trans u9) _ _ ham) (hmv.mono fun _ _ z => z.mono (KeepT.of (s6.trans u9))) ⟨by show (r.1 ++ [("end" : Str)]).length ≤ 3; rw [List.length_append]; show r.1.length + 1 ≤ 3; have := hok'.1; omega, hok'.2.1, fun x hx => ?_⟩ ⟨_, _, _, _, _, _, rfl⟩⟩
      have := hok'.2.2 x hx
      exact ⟨by omega, this.2⟩
  rintro σ6 H6 ⟨rv, rows', s6, h6, hA6, T6, o1, o2, o3, o4, o6, o7, rfl⟩
  exact ⟨_, rfl, q pr rv rows' m e H6 s6 npr h6 hA6 T6 m2 e8⟩
end
end Tb

namespace Tb
open PySem L2 Mix Gds
/-! tables as data: what parts two rows -/
def rowAt (rows : List Row) (k : Nat) : Row := rows.getD k ([], [])
def mvAt (rows : List Row) (k x : Nat) : List Str × Nat := (rowAt rows k).2.getD x ([], 0)
def goF (rows : List Row) (p : List Nat) (k : Nat) (ws : List Str) : Nat × List Str := p.foldl (fun s x => ((mvAt rows s.1 x).2, (mvAt rows s.1 x).1)) (k, ws)
def endOf (rows : List Row) (k : Nat) (p : List Nat) : List Str × List Str := ((rowAt rows (goF rows p k []).1).1, (goF rows p k []).2)
def PartOk (rows : List Row) (e a b : Nat) (o : Option (List Nat)) : Prop := match o with
  | none => ∀ p : List Nat, (∀ x ∈ p, x < e) → endOf rows a p = endOf rows b p
  | some p => (∀ x ∈ p, x < e) ∧ endOf rows a p ≠ endOf rows b p ∧ ∀ p' : List Nat, (∀ x ∈ p', x < e) → endOf rows a p' ≠ endOf rows b p' → Wy.code p ≤ Wy.code p'
def OpIn (H : Hp) (v : V) (o : Option (List Nat)) : Prop := match o with
  | none => v = .non
  | some p => ∃ a : Addr, v = .ref a ∧ H a = some (.tup (natsV p))
def spParting : Sp := fun vs H Q _ => ∃ (pt : Addr) (rv : List V) (rows : List Row) (m e a b : Nat) (ia ib : Int), vs = [.ref pt, .int ia, .int ib] ∧ ia = (a : Int) ∧ ib = (b : Int) ∧ H pt = some (.lst rv) ∧ Al (RwIn H) rv rows ∧ TbOk rows m e ∧ m ≤ 200 ∧ e ≤ 8 ∧ a < m ∧ b < m ∧ ∀ (v : V) (o : Option (List Nat)) (H' : Hp), Same H H' → OpIn H' v o → PartOk rows e a b o → Q v H'
def spEnd : Sp := fun vs H Q _ => ∃ (pt pw : Addr) (rv : List V) (rows : List Row) (m e a : Nat) (ia : Int) (p : List Nat), vs = [.ref pt, .int ia, .ref pw] ∧ ia = (a : Int) ∧ H pt = some (.lst rv) ∧ Al (RwIn H) rv rows ∧ TbOk rows m e ∧ a < m ∧ H pw = some (.tup (natsV p)) ∧ (∀ x ∈ p, x < e) ∧ ∀ (pq p1 p2 : Addr) (H' : Hp), Same H H' → H' pq = some (.tup [.ref p1, .ref p2]) → H' p1 = some (.tup ((endOf rows a p).1.map V.str)) → H' p2 = some (.tup ((endOf rows a p).2.map V.str)) → Q (.ref pq) H'
def spIsWay : Sp := fun vs H Q _ => ∃ (a : Addr) (p : List Nat) (ev : Nat), vs = [.ref a, .int (ev : Int)] ∧ H a = some (.tup (natsV p)) ∧ (∀ x ∈ p, x < ev) ∧ Q (.bl true) H
def spLaw (K : PySem.W.Frag) : Sp := fun vs H Q _ => ∃ (a : Addr) (ns : List Int), vs = [.ref a] ∧ SqL K H a (ns.map V.int) ∧ ns.length ≤ 63 ∧ ∀ H', Q (.bl true) H'
theorem natsV_len (os : List Nat) : (natsV os).length = os.length := List.length_map _
theorem nv_get {os : List Nat} {i : Nat} {x : V} (h : (natsV os)[i]? = some x) : ∃ hi : i < os.length, x = .int ((os[i] : Nat) : Int) := by
  have hi : i < os.length := by
    have := (List.getElem?_eq_some_iff.mp h).1
    rw [natsV_len] at this
    exact this
  refine ⟨hi, ?_⟩
  unfold natsV at h
  rw [List.getElem?_map, List.getElem?_eq_getElem hi] at h
  exact (Option.some.inj h).symm
theorem TbOk.at {rows : List Row} {m e : Nat} (T : TbOk rows m e) {k : Nat} (hk : k < m) : rows[k]? = some (rowAt rows k) ∧ RwOk 3 m e (rowAt rows k) := by
  have h : k < rows.length := by rw [T.len]; exact hk
  have e1 : rows[k]? = some rows[k] := List.getElem?_eq_getElem h
  have e2 : rowAt rows k = rows[k] := by
    unfold rowAt
    rw [List.getD_eq_getElem?_getD, e1]
    rfl
  rw [e2]
  exact ⟨e1, T.row _ (List.getElem_mem h)⟩
theorem row_in {H : Hp} {rv : List V} {rows : List Row} {m e : Nat} (hA : Al (RwIn H) rv rows) (T : TbOk rows m e) {k : Nat} (hk : k < m) : ∃ (a am al : Addr) (mv : List V), atI rv ((k : Nat) : Int) = some (.ref a) ∧ H a = some (.tup [.ref al, .ref am]) ∧ H al = some (.tup ((rowAt rows k).1.map V.str)) ∧ H am = some (.tup mv) ∧ Al (MvIn H) mv (rowAt rows k).2 := by
  obtain ⟨v, hv, a, am, l, mv, rfl, h1, ⟨al, rfl, hl⟩, h3, h4⟩ := hA.get (T.at hk).1
  exact ⟨a, am, al, mv, atI_nat hv, h1, hl, h3, h4⟩
theorem mv_in {H : Hp} {mv : List V} {rows : List Row} {m e k x : Nat} (T : TbOk rows m e) (hk : k < m) (hx : x < e) (h : Al (MvIn H) mv (rowAt rows k).2) : (mvAt rows k x).2 < m ∧ ∃ (a aw : Addr), atI mv ((x : Nat) : Int) = some (.ref a) ∧ H a = some (.tup [.ref aw, .int ((mvAt rows k x).2 : Int)]) ∧ H aw = some (.tup ((mvAt rows k x).1.map V.str)) := by
  have ok := (T.at hk).2
  have hl : x < (rowAt rows k).2.length := by rw [ok.2.1]; exact hx
  have e1 : (rowAt rows k).2[x]? = some (rowAt rows k).2[x] := List.getElem?_eq_getElem hl
  have e2 : mvAt rows k x = (rowAt rows k).2[x] := by
    unfold mvAt
    rw [List.getD_eq_getElem?_getD, e1]
    rfl
  rw [e2]
  obtain ⟨v, hv, a, wv, rfl, h1, aw, rfl, hw⟩ := h.get e1
  exact ⟨(ok.2.2 _ (List.getElem_mem hl)).2, a, aw, atI_nat hv, h1, hw⟩
theorem kit_tt' (K : PySem.W.Frag) : PySem.W.kitOne K (.type "tuple") (.type "tuple") = some true := by rfl
theorem ref_at {H : Hp} {rv : List V} {rows : List Row} (T : Al (RwIn H) rv rows) {j : Nat} {x : V} (h : rv[j]? = some x) : ∃ a : Addr, x = .ref a := by
  have hj := (List.getElem?_eq_some_iff.mp h).1
  have lt := T.length
  obtain ⟨v, hv, a, m, l, mv, rfl, _⟩ := T.get (List.getElem?_eq_getElem (show j < rows.length by omega))
  rw [hv] at h
  exact ⟨a, (Option.some.inj h).symm⟩
end Tb

namespace Tb
/-! two rows walked beside each other: breadth first over pairs, the shortest parting, the first one -/
def WayE (e : Nat) (p : List Nat) : Prop := ∀ x ∈ p, x < e
def wk (rows : List Row) (p : List Nat) (k : Nat) : Nat := (goF rows p k []).1
theorem wk_snoc (rows : List Row) (p : List Nat) (x k : Nat) : wk rows (p ++ [x]) k = (mvAt rows (wk rows p k) x).2 := by
  unfold wk goF
  rw [List.foldl_append]
  rfl
theorem end_snoc (rows : List Row) (p : List Nat) (x k : Nat) : endOf rows k (p ++ [x]) = ((rowAt rows (mvAt rows (wk rows p k) x).2).1, (mvAt rows (wk rows p k) x).1) := by
  unfold endOf wk goF
  rw [List.foldl_append]
  rfl
theorem end_cons (rows : List Row) (x : Nat) {p : List Nat} (k : Nat) (h : p ≠ []) : endOf rows k (x :: p) = endOf rows (mvAt rows k x).2 p := by
  cases p with
  | nil => exact absurd rfl h
  | cons y p => rfl
theorem end_one (rows : List Row) (x k : Nat) : endOf rows k [x] = ((rowAt rows (mvAt rows k x).2).1, (mvAt rows k x).1) := rfl
theorem end_nil (rows : List Row) (k : Nat) : endOf rows k [] = ((rowAt rows k).1, []) := rfl
theorem wayE_snoc {e : Nat} {p : List Nat} {x : Nat} : WayE e (p ++ [x]) ↔ WayE e p ∧ x < e := by
  constructor
  · exact fun h => ⟨fun y hy => h y (List.mem_append_left _ hy), h x (List.mem_append_right _ (List.mem_singleton.mpr rfl))⟩
  · rintro ⟨h1, h2⟩ y hy
    rcases List.mem_append.mp hy with z | z
    · exact h1 y z
    · rw [List.mem_singleton.mp z]
      exact h2
theorem wayE_cons {e : Nat} {p : List Nat} {x : Nat} (hx : x < e) (h : WayE e p) : WayE e (x :: p) := fun y hy => by
  rcases List.mem_cons.mp hy with z | z
  · rw [z]
    exact hx
  · exact h y z
def LenOk (rows : List Row) (e a b : Nat) (l : Int) : Prop := (l = -1 ∧ ∀ p : List Nat, WayE e p → endOf rows a p = endOf rows b p) ∨ ∃ p : List Nat, WayE e p ∧ endOf rows a p ≠ endOf rows b p ∧ l = (p.length : Int) ∧ ∀ p' : List Nat, WayE e p' → endOf rows a p' ≠ endOf rows b p' → p.length ≤ p'.length
theorem LenOk.uniq {rows : List Row} {e a b : Nat} {l l' : Int} (h : LenOk rows e a b l) (h' : LenOk rows e a b l') : l = l' := by
  rcases h with ⟨h1, h2⟩ | ⟨p, h1, h2, h3, h4⟩
  · rcases h' with ⟨g1, _⟩ | ⟨p', g1, g2, _⟩
    · omega
    · exact absurd (h2 p' g1) g2
  · rcases h' with ⟨g1, g2⟩ | ⟨p', g1, g2, g3, g4⟩
    · exact absurd (g2 p h1) h2
    · have := h4 p' g1 g2
      have := g4 p h1 h2
      omega
theorem LenOk.symm {rows : List Row} {e a b : Nat} {l : Int} (h : LenOk rows e a b l) : LenOk rows e b a l := by
  rcases h with ⟨h1, h2⟩ | ⟨p, h1, h2, h3, h4⟩
  · exact .inl ⟨h1, fun p hp => (h2 p hp).symm⟩
  · exact .inr ⟨p, h1, fun z => h2 z.symm, h3, fun p' hp' z => h4 p' hp' fun y => z y.symm⟩
/-! breadth first -/
def Cl (rows : List Row) (met : List (Nat × Nat)) (x y ev : Nat) : Prop := (mvAt rows x ev).1 = (mvAt rows y ev).1 ∧ ((mvAt rows x ev).2, (mvAt rows y ev).2) ∈ met
def Lit (rows : List Row) (m : Nat) (q : Nat × Nat) : Prop := q.1 < m ∧ q.2 < m ∧ (rowAt rows q.1).1 = (rowAt rows q.2).1
structure Bfs (rows : List Row) (m e a b : Nat) (met level : List (Nat × Nat)) (d : Nat) : Prop where
  nd : met.Nodup
  lit : ∀ q ∈ met, Lit rows m q
  sub : ∀ q ∈ level, q ∈ met
  cl : ∀ q ∈ met, q ∉ level → ∀ x : Nat, x < e → Cl rows met q.1 q.2 x
  deep : ∀ q ∈ level, ∃ p : List Nat, WayE e p ∧ p.length = d ∧ wk rows p a = q.1 ∧ wk rows p b = q.2
  near : ∀ p : List Nat, WayE e p → p.length ≤ d → (wk rows p a, wk rows p b) ∈ met ∧ endOf rows a p = endOf rows b p
structure Mid (rows : List Row) (m e a b : Nat) (met0 level : List (Nat × Nat)) (d : Nat) (met ahead : List (Nat × Nat)) (i ev : Nat) : Prop where
  nd : met.Nodup
  old : ∀ q ∈ met0, q ∈ met
  sub : ∀ q ∈ ahead, q ∈ met
  spl : ∀ q ∈ met, q ∈ met0 ∨ q ∈ ahead
  lit : ∀ q ∈ met, Lit rows m q
  deep : ∀ q ∈ ahead, ∃ p : List Nat, WayE e p ∧ p.length = d + 1 ∧ wk rows p a = q.1 ∧ wk rows p b = q.2
  done : ∀ (j : Nat) (q : Nat × Nat), level[j]? = some q → j < i → ∀ x : Nat, x < e → Cl rows met q.1 q.2 x
  part : ∀ q : Nat × Nat, level[i]? = some q → ∀ x : Nat, x < ev → Cl rows met q.1 q.2 x
  len : met.length = met0.length + ahead.length
section
variable {rows : List Row} {m e a b d i ev : Nat} {met met0 level ahead : List (Nat × Nat)}
theorem Cl.mono {x y : Nat} {met met' : List (Nat × Nat)} (h : Cl rows met x y ev) (k : ∀ q ∈ met, q ∈ met') : Cl rows met' x y ev := ⟨h.1, k _ h.2⟩
theorem Bfs.init (ha : a < m) (hb : b < m) (h : (rowAt rows a).1 = (rowAt rows b).1) : Bfs rows m e a b [(a, b)] [(a, b)] 0 where
  nd := by simp
  lit := fun q hq => by rw [List.mem_singleton.mp hq]; exact ⟨ha, hb, h⟩
  sub := fun q hq => hq
  cl := fun q hq hn => absurd hq hn
  deep := fun q hq => by rw [List.mem_singleton.mp hq]; exact ⟨[], (fun x hx => by cases hx), rfl, rfl, rfl⟩
  near := fun p _ hl => by
    have : p = [] := List.eq_nil_of_length_eq_zero (by omega)
    subst this
    exact ⟨List.mem_singleton.mpr rfl, by rw [end_nil, end_nil, h]⟩
theorem Mid.start (B : Bfs rows m e a b met level d) : Mid rows m e a b met level d met [] 0 0 where
  nd := B.nd
  old := fun q hq => hq
  sub := fun q hq => by cases hq
  spl := fun q hq => .inl hq
  lit := B.lit
  deep := fun q hq => by cases hq
  done := fun j q _ hj => absurd hj (Nat.not_lt_zero _)
  part := fun q _ x hx => absurd hx (Nat.not_lt_zero _)
  len := rfl
theorem Mid.row (M : Mid rows m e a b met0 level d met ahead i e) : Mid rows m e a b met0 level d met ahead (i + 1) 0 where
  nd := M.nd
  old := M.old
  sub := M.sub
  spl := M.spl
  lit := M.lit
  deep := M.deep
  done := fun j q hq hj => by
    by_cases z : j = i
    · subst z
      exact M.part q hq
    · exact M.done j q hq (by omega)
  part := fun q _ x hx => absurd hx (Nat.not_lt_zero _)
  len := M.len
theorem Mid.keep {q : Nat × Nat} (M : Mid rows m e a b met0 level d met ahead i ev) (hq : level[i]? = some q) (h : Cl rows met q.1 q.2 ev) : Mid rows m e a b met0 level d met ahead i (ev + 1) where
  nd := M.nd
  old := M.old
  sub := M.sub
  spl := M.spl
  lit := M.lit
  deep := M.deep
  done := M.done
  part := fun q' hq' x hx => by
    rw [hq] at hq'
    obtain rfl := Option.some.inj hq'
    by_cases z : x = ev
    · rw [z]
      exact h
    · exact M.part q hq x (by omega)
  len := M.len
theorem Mid.add {q : Nat × Nat} (B : Bfs rows m e a b met0 level d) (M : Mid rows m e a b met0 level d met ahead i ev) (hq : level[i]? = some q) (hv : ev < e) (hw : (mvAt rows q.1 ev).1 = (mvAt rows q.2 ev).1)
    (hn : ((mvAt rows q.1 ev).2, (mvAt rows q.2 ev).2) ∉ met) (hl : Lit rows m ((mvAt rows q.1 ev).2, (mvAt rows q.2 ev).2)) :
    Mid rows m e a b met0 level d (met ++ [((mvAt rows q.1 ev).2, (mvAt rows q.2 ev).2)]) (ahead ++ [((mvAt rows q.1 ev).2, (mvAt rows q.2 ev).2)]) i (ev + 1) := by
  have up : ∀ z ∈ met, z ∈ met ++ [((mvAt rows q.1 ev).2, (mvAt rows q.2 ev).2)] := fun z hz => List.mem_append_left _ hz
  have new : ((mvAt rows q.1 ev).2, (mvAt rows q.2 ev).2) ∈ met ++ [((mvAt rows q.1 ev).2, (mvAt rows q.2 ev).2)] := List.mem_append_right _ (List.mem_singleton.mpr rfl)
  refine ⟨?_, fun z hz => up z (M.old z hz), fun z hz => ?_, fun z hz => ?_, fun z hz => ?_, fun z hz => ?_, fun j q' h1 h2 x hx => (M.done j q' h1 h2 x hx).mono up, fun q' hq' x hx => ?_, by simp [M.len]; omega⟩
  · refine List.nodup_append.mpr ⟨M.nd, by simp, fun x hx y hy => ?_⟩
    rw [List.mem_singleton.mp hy]
    rintro rfl
    exact hn hx
  · rcases List.mem_append.mp hz with z' | z'
    · exact up z (M.sub z z')
    · rw [List.mem_singleton.mp z']
      exact new
  · rcases List.mem_append.mp hz with z' | z'
    · rcases M.spl z z' with y | y
      · exact .inl y
      · exact .inr (List.mem_append_left _ y)
    · exact .inr (List.mem_append_right _ z')
  · rcases List.mem_append.mp hz with z' | z'
    · exact M.lit z z'
    · rw [List.mem_singleton.mp z']
      exact hl
  · rcases List.mem_append.mp hz with z' | z'
    · exact M.deep z z'
    · rw [List.mem_singleton.mp z']
      obtain ⟨p, h1, h2, h3, h4⟩ := B.deep q (List.mem_of_getElem? hq)
      exact ⟨p ++ [ev], wayE_snoc.mpr ⟨h1, hv⟩, by simp [h2], by rw [wk_snoc, h3], by rw [wk_snoc, h4]⟩
  · rw [hq] at hq'
    obtain rfl := Option.some.inj hq'
    by_cases z : x = ev
    · rw [z]
      exact ⟨hw, new⟩
    · exact (M.part q hq x (by omega)).mono up
theorem Mid.cl_all (B : Bfs rows m e a b met0 level d) (M : Mid rows m e a b met0 level d met ahead level.length 0) : ∀ q ∈ met0, ∀ x : Nat, x < e → Cl rows met q.1 q.2 x := fun q hq x hx => by
  by_cases z : q ∈ level
  · obtain ⟨j, hj, ej⟩ := List.mem_iff_getElem.mp z
    exact M.done j q (by rw [List.getElem?_eq_getElem hj, ej]) hj x hx
  · exact (B.cl q hq z x hx).mono M.old
theorem Mid.fin (B : Bfs rows m e a b met0 level d) (M : Mid rows m e a b met0 level d met ahead level.length 0) : Bfs rows m e a b met ahead (d + 1) where
  nd := M.nd
  lit := M.lit
  sub := M.sub
  cl := fun q hq hn => (M.spl q hq).elim (fun z => M.cl_all B q z) (fun z => absurd z hn)
  deep := M.deep
  near := fun p hp hl => by
    by_cases z : p.length ≤ d
    · have := B.near p hp z
      exact ⟨M.old _ this.1, this.2⟩
    · rcases List.eq_nil_or_concat p with e0 | ⟨q, x, e0⟩
      · subst e0
        exact absurd (Nat.zero_le _) z
      · rw [List.concat_eq_append] at e0
        subst e0
        obtain ⟨hq, hx⟩ := wayE_snoc.mp hp
        have n := B.near q hq (by simp at hl; omega)
        have c := M.cl_all B _ n.1 x hx
        refine ⟨by rw [wk_snoc, wk_snoc]; exact c.2, ?_⟩
        rw [end_snoc, end_snoc]
        exact Prod.ext (M.lit _ c.2).2.2 c.1
theorem Bfs.none (B : Bfs rows m e a b met [] d) : ∀ p : List Nat, WayE e p → (wk rows p a, wk rows p b) ∈ met ∧ endOf rows a p = endOf rows b p := by
  have : ∀ (n : Nat) (p : List Nat), p.length = n → WayE e p → (wk rows p a, wk rows p b) ∈ met ∧ endOf rows a p = endOf rows b p := by
    intro n
    induction n with
    | zero =>
      intro p hn hp
      exact B.near p hp (by omega)
    | succ n ih =>
      intro p hn hp
      rcases List.eq_nil_or_concat p with e0 | ⟨q, x, e0⟩
      · subst e0
        cases hn
      · rw [List.concat_eq_append] at e0
        subst e0
        obtain ⟨hq, hx⟩ := wayE_snoc.mp hp
        have k := ih q (by simp at hn; omega) hq
        have c := B.cl _ k.1 (by simp) x hx
        refine ⟨by rw [wk_snoc, wk_snoc]; exact c.2, ?_⟩
        rw [end_snoc, end_snoc]
        exact Prod.ext (B.lit _ c.2).2.2 c.1
  exact fun p hp => this p.length p rfl hp
theorem Bfs.alike (B : Bfs rows m e a b met [] d) : LenOk rows e a b (-1) := .inl ⟨rfl, fun p hp => (B.none p hp).2⟩
theorem Bfs.found {q : Nat × Nat} {x : Nat} (B : Bfs rows m e a b met level d) (hq : q ∈ level) (hx : x < e) (h : (mvAt rows q.1 x).1 ≠ (mvAt rows q.2 x).1 ∨ (rowAt rows (mvAt rows q.1 x).2).1 ≠ (rowAt rows (mvAt rows q.2 x).2).1) : LenOk rows e a b ((d : Int) + 1) := by
  obtain ⟨p, h1, h2, h3, h4⟩ := B.deep q hq
  refine .inr ⟨p ++ [x], wayE_snoc.mpr ⟨h1, hx⟩, ?_, by simp [h2], fun p' hp' hn => ?_⟩
  · rw [end_snoc, end_snoc, h3, h4]
    intro z
    injection z with z1 z2
    rcases h with h | h
    · exact h z2
    · exact h z1
  · by_cases z : p'.length ≤ d
    · exact absurd (B.near p' hp' z).2 hn
    · simp
      omega
theorem few_pairs (Bnd : met.Nodup) (Blit : ∀ q ∈ met, Lit rows m q) : met.length ≤ m * m := by
  have inj : ∀ q q' : Nat × Nat, q.2 < m → q'.2 < m → q.1 * m + q.2 = q'.1 * m + q'.2 → q = q' := fun q q' h1 h2 h => by
    have hm : 0 < m := by omega
    have e1 : (q.1 * m + q.2) / m = q.1 := by rw [Nat.add_comm, Nat.add_mul_div_right _ _ hm, Nat.div_eq_of_lt h1, Nat.zero_add]
    have e2 : (q'.1 * m + q'.2) / m = q'.1 := by rw [Nat.add_comm, Nat.add_mul_div_right _ _ hm, Nat.div_eq_of_lt h2, Nat.zero_add]
    have e3 : q.1 = q'.1 := by rw [← e1, ← e2, h]
    have e4 : q.2 = q'.2 := by rw [e3] at h; omega
    exact Prod.ext e3 e4
  have nd : (met.map fun q => q.1 * m + q.2).Nodup := by
    refine List.pairwise_map.mpr ((List.Pairwise.imp_of_mem ?_) Bnd)
    intro q q' hq hq' ne h
    exact ne (inj q q' (Blit q hq).2.1 (Blit q' hq').2.1 h)
  have := Wy.nodup_lt (m * m) _ nd (fun z hz => by
    obtain ⟨q, hq, rfl⟩ := List.mem_map.mp hz
    have l := Blit q hq
    have : q.1 * m + m ≤ m * m := by
      have := Nat.mul_le_mul_right m (show q.1 + 1 ≤ m from l.1)
      rw [Nat.add_mul, Nat.one_mul] at this
      exact this
    have := l.2.1
    show q.1 * m + q.2 < m * m
    omega)
  rw [List.length_map] at this
  exact this
theorem Bfs.bound (B : Bfs rows m e a b met level d) : met.length ≤ m * m := few_pairs B.nd B.lit
theorem Mid.bound (M : Mid rows m e a b met0 level d met ahead i ev) : met.length ≤ m * m := few_pairs M.nd M.lit
end
/-! the first way that parts -/
theorem codeF_eq : ∀ (p : List Nat) (c : Nat), Wy.codeF c p = c * 8 ^ p.length + Wy.code p
  | [], c => by
    show c = c * 1 + 0
    omega
  | x :: p, c => by
    show Wy.codeF (8 * c + (x + 1)) p = c * 8 ^ (p.length + 1) + Wy.codeF (8 * 0 + (x + 1)) p
    rw [codeF_eq p (8 * c + (x + 1)), codeF_eq p (8 * 0 + (x + 1)), Nat.pow_succ, Nat.add_mul, Nat.mul_zero, Nat.zero_add, Nat.mul_comm 8 c, Nat.mul_assoc, Nat.mul_comm 8 (8 ^ p.length), Nat.add_assoc]
theorem code_cons (x : Nat) (p : List Nat) : Wy.code (x :: p) = (x + 1) * 8 ^ p.length + Wy.code p := by
  show Wy.codeF (8 * 0 + (x + 1)) p = _
  rw [codeF_eq, Nat.mul_zero, Nat.zero_add]
section
variable {rows : List Row} {e a b x : Nat} {q : List Nat}
theorem PartOk.len_le {p : List Nat} (e8 : e ≤ 8) (h : PartOk rows e a b (some p)) {p' : List Nat} (hp' : WayE e p') (hn : endOf rows a p' ≠ endOf rows b p') : p.length ≤ p'.length := by
  by_cases z : p.length ≤ p'.length
  · exact z
  · have h1 := h.2.2 p' hp' hn
    have h2 := Wy.code_len (p := p') (q := p) (by omega) (fun y hy => by have := hp' y hy; omega)
    omega
theorem PartOk.lenOk {p : List Nat} (e8 : e ≤ 8) (h : PartOk rows e a b (some p)) : LenOk rows e a b (p.length : Int) := .inr ⟨p, h.1, h.2.1, rfl, fun _ hp' hn => h.len_le e8 hp' hn⟩
theorem PartOk.lenOk0 (h : PartOk rows e a b none) : LenOk rows e a b (-1) := .inl ⟨rfl, h⟩
theorem PartOk.tail (e8 : e ≤ 8) (h : PartOk rows e a b (some (x :: q))) (hq : q ≠ []) : PartOk rows e (mvAt rows a x).2 (mvAt rows b x).2 (some q) := by
  have hx : x < e := h.1 x (List.mem_cons_self ..)
  refine ⟨fun y hy => h.1 y (List.mem_cons_of_mem _ hy), ?_, fun p' hp' hn => ?_⟩
  · have := h.2.1
    rw [end_cons rows x a hq, end_cons rows x b hq] at this
    exact this
  · by_cases z : p' = []
    · exfalso
      subst z
      rw [end_nil, end_nil] at hn
      have h1 := h.len_le e8 (p' := [x]) (wayE_cons hx fun y hy => by cases hy) (by
        rw [end_one, end_one]
        intro y
        injection y with y _
        exact hn (by rw [y]))
      have h2 : q.length ≠ 0 := fun y => hq (List.eq_nil_of_length_eq_zero y)
      simp at h1
      exact hq h1
    · have hn' : endOf rows a (x :: p') ≠ endOf rows b (x :: p') := by
        rw [end_cons rows x a z, end_cons rows x b z]
        exact hn
      have h1 := h.2.2 (x :: p') (wayE_cons hx hp') hn'
      have h2 := h.len_le e8 (wayE_cons hx hp') hn'
      simp at h2
      by_cases l : q.length = p'.length
      · rw [code_cons, code_cons, l] at h1
        omega
      · exact Nat.le_of_lt (Wy.code_len (by omega) (fun y hy => by have := h.1 y (List.mem_cons_of_mem _ hy); omega))
/-- how long the rest is, where the way starts by ev -/
def RestOk (rows : List Row) (e a b ev : Nat) (l : Int) : Prop := ((mvAt rows a ev).1 ≠ (mvAt rows b ev).1 ∧ l = 0) ∨ ((mvAt rows a ev).1 = (mvAt rows b ev).1 ∧ LenOk rows e (mvAt rows a ev).2 (mvAt rows b ev).2 l)
theorem PartOk.rest (e8 : e ≤ 8) (h : PartOk rows e a b (some (x :: q))) {ev : Nat} (hv : ev ≤ x) {l : Int} (r : RestOk rows e a b ev l) : l = (q.length : Int) ↔ ev = x := by
  have hx : x < e := h.1 x (List.mem_cons_self ..)
  have hq8 : ∀ y ∈ q, y < 8 := fun y hy => by have := h.1 y (List.mem_cons_of_mem _ hy); omega
  have part1 : ∀ v : Nat, v < e → ((mvAt rows a v).1 ≠ (mvAt rows b v).1 ∨ (rowAt rows (mvAt rows a v).2).1 ≠ (rowAt rows (mvAt rows b v).2).1) → endOf rows a [v] ≠ endOf rows b [v] := fun v _ hh => by
    rw [end_one, end_one]
    intro y
    injection y with y1 y2
    rcases hh with hh | hh
    · exact hh y2
    · exact hh y1
  have one : ∀ v : Nat, v < e → WayE e [v] := fun v hv => wayE_cons hv fun y hy => by cases hy
  constructor
  · intro el
    by_cases z : ev = x
    · exact z
    · exfalso
      have lt : ev < x := by omega
      have way : ∃ p' : List Nat, p'.length = q.length ∧ WayE e p' ∧ endOf rows a (ev :: p') ≠ endOf rows b (ev :: p') := by
        rcases r with ⟨r1, r2⟩ | ⟨r1, r2⟩
        · have : q.length = 0 := by omega
          exact ⟨[], by rw [this]; rfl, (fun y hy => by cases hy), part1 ev (by omega) (.inl r1)⟩
        · rcases r2 with ⟨r3, _⟩ | ⟨p', r3, r4, r5, _⟩
          · omega
          · refine ⟨p', by omega, r3, ?_⟩
            by_cases zp : p' = []
            · subst zp
              rw [end_nil, end_nil] at r4
              exact part1 ev (by omega) (.inr fun y => r4 (by rw [y]))
            · rw [end_cons rows ev a zp, end_cons rows ev b zp]
              exact r4
      obtain ⟨p', l1, w1, n1⟩ := way
      have h1 := h.2.2 (ev :: p') (wayE_cons (by omega) w1) n1
      have h2 : Wy.codeF (8 * 0 + (ev + 1)) p' < Wy.codeF (8 * 0 + (x + 1)) q := Wy.codeF_lt p' q _ _ (by omega) l1 (fun y hy => by have := w1 y hy; omega)
      have h3 : Wy.code (ev :: p') = Wy.codeF (8 * 0 + (ev + 1)) p' := rfl
      have h4 : Wy.code (x :: q) = Wy.codeF (8 * 0 + (x + 1)) q := rfl
      omega
  · rintro rfl
    rcases r with ⟨r1, r2⟩ | ⟨r1, r2⟩
    · have h1 := h.len_le e8 (one ev hx) (part1 ev hx (.inl r1))
      simp at h1
      rw [r2, h1]
      rfl
    · by_cases zq : q = []
      · subst zq
        have hn := h.2.1
        rw [end_one, end_one] at hn
        have hl : (rowAt rows (mvAt rows a ev).2).1 ≠ (rowAt rows (mvAt rows b ev).2).1 := fun y => hn (Prod.ext y r1)
        refine r2.uniq (.inr ⟨[], (fun y hy => by cases hy), ?_, rfl, fun _ _ _ => Nat.zero_le _⟩)
        rw [end_nil, end_nil]
        intro y
        injection y with y _
        exact hl y
      · exact r2.uniq ((h.tail e8 zq).lenOk e8)
end
end Tb

namespace Tb
open PySem L2 Mix Gds
/-! the shrunken table as data -/
def fAt (fold : List Nat) (k : Nat) : Nat := fold.getD k 0
structure ShrOk (rows : List Row) (fold : List Nat) (small : List Row) (m e n : Nat) : Prop where
  len : fold.length = m
  lt : ∀ k : Nat, k < m → fAt fold k < n
  onto : ∀ c : Nat, c < n → ∃ k : Nat, k < m ∧ fAt fold k = c
  ord : ∀ k : Nat, k < m → ∀ c : Nat, c < fAt fold k → ∃ j : Nat, j < k ∧ fAt fold j = c
  alike : ∀ a b : Nat, a < m → b < m → (fAt fold a = fAt fold b ↔ ∀ p : List Nat, (∀ x ∈ p, x < e) → endOf rows a p = endOf rows b p)
  tab : TbOk small n e
  row : ∀ k : Nat, k < m → rowAt small (fAt fold k) = ((rowAt rows k).1, (rowAt rows k).2.map fun mv => (mv.1, fAt fold mv.2))
def spShrunk : Sp := fun vs H Q _ => ∃ (pt : Addr) (rv : List V) (rows : List Row) (m e : Nat), vs = [.ref pt] ∧ H pt = some (.lst rv) ∧ Al (RwIn H) rv rows ∧ TbOk rows m e ∧ m ≤ 200 ∧ e ≤ 8 ∧ ∀ (pq pf ps : Addr) (sv : List V) (fold : List Nat) (small : List Row) (n : Nat) (H' : Hp), Same H H' → H pf = none → H ps = none → pf ≠ ps → H' pq = some (.tup [.ref pf, .ref ps]) → H' pf = some (.lst (natsV fold)) → H' ps = some (.lst sv) → Al (RwIn H') sv small → ShrOk rows fold small m e n → Q (.ref pq) H'
theorem first_at : ∀ (os : List Nat) (c k : Nat), k < os.length → fAt os k = c → ∃ (j : Nat) (hj : j < os.length), os[j] = c ∧ ∀ (i : Nat) (hi : i < os.length), i < j → os[i] ≠ c
  | [], _, _, h, _ => by cases h
  | x :: os, c, k, h, e => by
    by_cases z : x = c
    · exact ⟨0, Nat.zero_lt_succ _, z, fun i _ hi => absurd hi (Nat.not_lt_zero _)⟩
    · cases k with
      | zero => exact absurd e z
      | succ k =>
        obtain ⟨j, hj, e1, e2⟩ := first_at os c k (Nat.lt_of_succ_lt_succ h) e
        refine ⟨j + 1, Nat.succ_lt_succ hj, e1, fun i hi lt => ?_⟩
        cases i with
        | zero => exact z
        | succ i => exact e2 i (Nat.lt_of_succ_lt_succ hi) (Nat.lt_of_succ_lt_succ lt)
theorem fAt_get {os : List Nat} {k : Nat} (h : k < os.length) : fAt os k = os[k] := by
  unfold fAt
  rw [List.getD_eq_getElem?_getD, List.getElem?_eq_getElem h]
  rfl
theorem mv_lt {rows : List Row} {m e k x : Nat} (T : TbOk rows m e) (hk : k < m) (hx : x < e) : (mvAt rows k x).2 < m := by
  have ok := (T.at hk).2
  have hl : x < (rowAt rows k).2.length := by rw [ok.2.1]; exact hx
  have e2 : mvAt rows k x = (rowAt rows k).2[x] := by
    unfold mvAt
    rw [List.getD_eq_getElem?_getD, List.getElem?_eq_getElem hl]
    rfl
  rw [e2]
  exact (ok.2.2 _ (List.getElem_mem hl)).2
theorem mv_small {rows small : List Row} {fold : List Nat} {m e n k x : Nat} (T : TbOk rows m e) (S : ShrOk rows fold small m e n) (hk : k < m) (hx : x < e) : mvAt small (fAt fold k) x = ((mvAt rows k x).1, fAt fold (mvAt rows k x).2) := by
  have ok := (T.at hk).2
  have hl : x < (rowAt rows k).2.length := by rw [ok.2.1]; exact hx
  unfold mvAt
  rw [S.row k hk]
  simp only [List.getD_eq_getElem?_getD, List.getElem?_map, List.getElem?_eq_getElem hl, Option.map_some, Option.getD_some]
theorem go_small {rows small : List Row} {fold : List Nat} {m e n : Nat} (T : TbOk rows m e) (S : ShrOk rows fold small m e n) : ∀ (p : List Nat) (k : Nat) (ws : List Str), k < m → (∀ x ∈ p, x < e) → (goF rows p k ws).1 < m ∧ goF small p (fAt fold k) ws = (fAt fold (goF rows p k ws).1, (goF rows p k ws).2)
  | [], k, ws, hk, _ => ⟨hk, rfl⟩
  | x :: p, k, ws, hk, hp => by
    have hx := hp x (List.mem_cons_self ..)
    have ih := go_small T S p (mvAt rows k x).2 (mvAt rows k x).1 (mv_lt T hk hx) (fun y hy => hp y (List.mem_cons_of_mem _ hy))
    refine ⟨ih.1, ?_⟩
    have e1 : goF small (x :: p) (fAt fold k) ws = goF small p (mvAt small (fAt fold k) x).2 (mvAt small (fAt fold k) x).1 := rfl
    rw [e1, mv_small T S hk hx]
    exact ih.2
theorem end_small {rows small : List Row} {fold : List Nat} {m e n : Nat} (T : TbOk rows m e) (S : ShrOk rows fold small m e n) {k : Nat} {p : List Nat} (hk : k < m) (hp : ∀ x ∈ p, x < e) : endOf small (fAt fold k) p = endOf rows k p := by
  have g := go_small T S p k [] hk hp
  unfold endOf
  rw [g.2]
  show ((rowAt small (fAt fold (goF rows p k []).1)).1, _) = _
  rw [S.row _ g.1]
theorem natsV_snoc (os : List Nat) (j : Nat) : natsV os ++ [V.int (j : Int)] = natsV (os ++ [j]) := by
  unfold natsV
  rw [List.map_append]
  rfl
theorem nv_at {os : List Nat} {k : Nat} (h : k < os.length) : atI (natsV os) (k : Int) = some (.int (fAt os k : Int)) := by
  apply atI_nat
  unfold natsV
  rw [List.getElem?_map, List.getElem?_eq_getElem h, fAt_get h]
  rfl
theorem ww_false {a b : List Str × List Str} (h : a ≠ b) : (decide (a.1 = b.1) && decide (a.2 = b.2)) = false := by
  rw [Bool.and_eq_false_iff, decide_eq_false_iff_not, decide_eq_false_iff_not]
  by_cases z : a.1 = b.1
  · exact .inr fun y => h (Prod.ext z y)
  · exact .inl z
theorem ShrOk.fold_eq {rows s1 s2 : List Row} {f1 f2 : List Nat} {m e n1 n2 : Nat} (S1 : ShrOk rows f1 s1 m e n1) (S2 : ShrOk rows f2 s2 m e n2) : ∀ k : Nat, k < m → fAt f1 k = fAt f2 k := by
  intro k
  induction k using Nat.strongRecOn with
  | ind k ih =>
    intro hk
    by_cases ex : ∃ j : Nat, j < k ∧ fAt f1 j = fAt f1 k
    · obtain ⟨j, hj, ej⟩ := ex
      have a2 := (S2.alike j k (by omega) hk).mpr ((S1.alike j k (by omega) hk).mp ej)
      rw [← ej, ih j hj (by omega), a2]
    · rcases Nat.lt_trichotomy (fAt f1 k) (fAt f2 k) with z | z | z
      · obtain ⟨j, hj, ej⟩ := S2.ord k hk _ z
        exact absurd ⟨j, hj, by rw [ih j hj (by omega), ej]⟩ ex
      · exact z
      · obtain ⟨j, hj, ej⟩ := S1.ord k hk _ z
        have a2 : fAt f2 j = fAt f2 k := by rw [← ih j hj (by omega), ej]
        exact absurd ⟨j, hj, (S1.alike j k (by omega) hk).mpr ((S2.alike j k (by omega) hk).mp a2)⟩ ex
theorem ShrOk.uniq {rows s1 s2 : List Row} {f1 f2 : List Nat} {m e n1 n2 : Nat} (S1 : ShrOk rows f1 s1 m e n1) (S2 : ShrOk rows f2 s2 m e n2) : f1 = f2 ∧ s1 = s2 := by
  have fe := S1.fold_eq S2
  have l1 := S1.len
  have l2 := S2.len
  have ef : f1 = f2 := by
    refine List.ext_getElem (by omega) fun k h1 h2 => ?_
    rw [← fAt_get h1, ← fAt_get h2]
    exact fe k (by omega)
  have nn : n1 = n2 := by
    rcases Nat.lt_trichotomy n1 n2 with z | z | z
    · obtain ⟨k, hk, ek⟩ := S2.onto n1 z
      have := S1.lt k hk
      rw [fe k hk] at this
      omega
    · exact z
    · obtain ⟨k, hk, ek⟩ := S1.onto n2 z
      have := S2.lt k hk
      rw [← fe k hk] at this
      omega
  subst ef nn
  refine ⟨rfl, ?_⟩
  have t1 := S1.tab.len
  have t2 := S2.tab.len
  refine List.ext_getElem? fun c => ?_
  by_cases hc : c < n1
  · obtain ⟨k, hk, ek⟩ := S1.onto c hc
    rw [(S1.tab.at hc).1, (S2.tab.at hc).1, ← ek, S1.row k hk, S2.row k hk]
  · rw [List.getElem?_eq_none (by omega), List.getElem?_eq_none (by omega)]
end Tb

namespace Tb
open PySem L2 Mix Gds
/-! the program's numbered: numbers in the order in which looks come first -/
structure NumOk {T : Type} (ks : List T) (fold : List Nat) : Prop where
  len : fold.length = ks.length
  same : ∀ i j : Nat, i < ks.length → j < ks.length → (fAt fold i = fAt fold j ↔ ks[i]? = ks[j]?)
  ord : ∀ i : Nat, i < ks.length → ∀ c : Nat, c < fAt fold i → ∃ j : Nat, j < i ∧ fAt fold j = c
structure Uq {T : Type} (ks : List T) (j : Nat) (us : List T) : Prop where
  nd : us.Nodup
  mem : ∀ k : T, k ∈ us ↔ ∃ i : Nat, i < j ∧ ks[i]? = some k
  ord : ∀ (c c0 : Nat) (u0 : T) (i : Nat), c < c0 → us[c0]? = some u0 → i < j → ks[i]? = some u0 → ∃ (i' : Nat) (u : T), i' < i ∧ us[c]? = some u ∧ ks[i']? = some u
section
variable {T : Type} {ks us : List T} {j : Nat}
theorem Uq.init : Uq ks 0 [] := ⟨List.nodup_nil, fun k => ⟨(fun h => by cases h), fun ⟨_, h, _⟩ => absurd h (Nat.not_lt_zero _)⟩, fun _ _ _ _ _ h => by simp at h⟩
theorem Uq.old (U : Uq ks j us) {k : T} (hk : ks[j]? = some k) (h : k ∈ us) : Uq ks (j + 1) us where
  nd := U.nd
  mem := fun q => by
    rw [U.mem q]
    constructor
    · rintro ⟨i, h1, h2⟩
      exact ⟨i, by omega, h2⟩
    · rintro ⟨i, h1, h2⟩
      by_cases z : i = j
      · subst z
        rw [hk] at h2
        rw [← Option.some.inj h2]
        exact (U.mem k).mp h
      · exact ⟨i, by omega, h2⟩
  ord := fun c c0 u0 i lt h1 h2 h3 => by
    by_cases z : i = j
    · subst z
      rw [hk] at h3
      have e := Option.some.inj h3
      subst e
      obtain ⟨i1, h4, h5⟩ := (U.mem k).mp h
      obtain ⟨i', u, h6, h7, h8⟩ := U.ord c c0 k i1 lt h1 h4 h5
      exact ⟨i', u, by omega, h7, h8⟩
    · exact U.ord c c0 u0 i lt h1 (by omega) h3
theorem Uq.new (U : Uq ks j us) {k : T} (hk : ks[j]? = some k) (h : k ∉ us) : Uq ks (j + 1) (us ++ [k]) where
  nd := List.nodup_append.mpr ⟨U.nd, by simp, fun a ha b hb e => by
    rw [List.mem_singleton.mp hb] at e
    rw [e] at ha
    exact h ha⟩
  mem := fun q => by
    rw [List.mem_append, U.mem q, List.mem_singleton]
    constructor
    · rintro (⟨i, h1, h2⟩ | rfl)
      · exact ⟨i, by omega, h2⟩
      · exact ⟨j, by omega, hk⟩
    · rintro ⟨i, h1, h2⟩
      by_cases z : i = j
      · subst z
        rw [hk] at h2
        exact .inr (Option.some.inj h2).symm
      · exact .inl ⟨i, by omega, h2⟩
  ord := fun c c0 u0 i lt h1 h2 h3 => by
    by_cases z : c0 < us.length
    · rw [List.getElem?_append_left z] at h1
      have zi : i ≠ j := fun e => by
        subst e
        rw [hk] at h3
        have e := Option.some.inj h3
        subst e
        exact h (List.mem_of_getElem? h1)
      obtain ⟨i', u, h6, h7, h8⟩ := U.ord c c0 u0 i lt h1 (by omega) h3
      exact ⟨i', u, h6, by rw [List.getElem?_append_left (by omega)]; exact h7, h8⟩
    · have h0 : c0 < us.length + 1 := by
        have := (List.getElem?_eq_some_iff.mp h1).1
        simpa using this
      have e0 : c0 = us.length := by omega
      subst e0
      have e1 : u0 = k := by
        rw [List.getElem?_append_right (Nat.le_refl _)] at h1
        simpa using h1.symm
      subst e1
      have zi : i = j := Classical.byContradiction fun z => h ((U.mem u0).mpr ⟨i, by omega, h3⟩)
      subst zi
      obtain ⟨i', h4, h5⟩ := (U.mem us[c]).mp (List.getElem_mem lt)
      exact ⟨i', us[c], h4, by rw [List.getElem?_append_left lt, List.getElem?_eq_getElem lt], h5⟩
theorem Uq.num {fold : List Nat} (U : Uq ks ks.length us) (hl : fold.length = ks.length) (h : ∀ (i : Nat) (k : T), ks[i]? = some k → us[fAt fold i]? = some k) : NumOk ks fold where
  len := hl
  same := fun i j hi hj => by
    have ei := List.getElem?_eq_getElem hi
    have ej := List.getElem?_eq_getElem hj
    have h1 := h i _ ei
    have h2 := h j _ ej
    constructor
    · intro e
      rw [e, h2] at h1
      rw [ei, ej, h1]
    · intro e
      rw [ei, ej] at e
      rw [e, ← h2] at h1
      exact (List.getElem?_inj (List.getElem?_eq_some_iff.mp (h i _ ei)).1 U.nd).mp h1
  ord := fun i hi c hc => by
    have ei := List.getElem?_eq_getElem hi
    obtain ⟨i', u, h1, h2, h3⟩ := U.ord c (fAt fold i) _ i hc (h i _ ei) hi ei
    refine ⟨i', h1, ?_⟩
    have h4 := h i' u h3
    exact (List.getElem?_inj (List.getElem?_eq_some_iff.mp h4).1 U.nd).mp (h4.trans h2.symm)
end
def nkv {T : Type} : Nat → List T → List (T × V)
  | _, [] => []
  | i, k :: us => (k, .int (i : Int)) :: nkv (i + 1) us
theorem nkv_len {T : Type} : ∀ (i : Nat) (us : List T), (nkv i us).length = us.length
  | _, [] => rfl
  | i, _ :: us => by rw [nkv, List.length_cons, List.length_cons, nkv_len (i + 1) us]
theorem nkv_snoc {T : Type} (k : T) : ∀ (i : Nat) (us : List T), nkv i (us ++ [k]) = nkv i us ++ [(k, .int ((i + us.length : Nat) : Int))]
  | _, [] => rfl
  | i, u :: us => by
    rw [List.cons_append, nkv, nkv_snoc k (i + 1) us, nkv, List.length_cons, List.cons_append, show i + 1 + us.length = i + (us.length + 1) by omega]
theorem nkv_val {T : Type} [DecidableEq T] {k : T} : ∀ (us : List T) (i : Nat), (k ∉ us ∧ valV (nkv i us) k = none) ∨ ∃ c : Nat, us[c]? = some k ∧ valV (nkv i us) k = some (.int ((i + c : Nat) : Int))
  | [], i => .inl ⟨by simp, rfl⟩
  | u :: us, i => by
    by_cases e : u = k
    · exact .inr ⟨0, by rw [e]; rfl, valV_pos (p := (u, V.int (i : Int))) e⟩
    · have ev : valV (nkv i (u :: us)) k = valV (nkv (i + 1) us) k := valV_neg (p := (u, V.int (i : Int))) e
      rw [ev]
      rcases nkv_val (k := k) us (i + 1) with ⟨h1, h2⟩ | ⟨c, h1, h2⟩
      · refine .inl ⟨fun z => ?_, h2⟩
        rcases List.mem_cons.mp z with z | z
        · exact e z.symm
        · exact h1 z
      · exact .inr ⟨c + 1, h1, by rw [h2, show i + 1 + c = i + (c + 1) by omega]⟩
def spNumbered (P : Program) (w : World) : Sp := fun vs H Q _ => ∃ (T : Type) (inst : DecidableEq T) (d : Nat) (F : @TFam T inst d) (le : d ≤ 8) (pl : Addr) (lv : List V) (ks : List T), vs = [.ref pl] ∧ H pl = some (.lst lv) ∧ Al (fun v k => F.inn 0 H k v ∧ ∃ a : Addr, v = .ref a) lv ks ∧ ks.length ≤ 1000 ∧ ∀ (pq : Addr) (H' : Hp) (fold : List Nat), Same H H' → H pq = none → H' pq = some (.lst (natsV fold)) → NumOk ks fold → Q (.ref pq) H'
section
variable {P : Program} {w : World} {K : PySem.W.Frag} {mg : Str → Option Value} {base : Heap}
theorem sc_numbered : FnScope ["looks", "numbers", "look"] ["looks"] (defScope s_numbered) := ⟨rfl, rfl, rfl, by decide +kernel, rfl, by decide +kernel, by decide +kernel⟩
theorem ok_numbered {f : Addr} {fd : FuncData} (F : Fun K "numbered" "numbered" s_numbered f fd) (m_len : mg "len" = none) : FnOk P w K mg base CX0 1 f fd ["looks"] (spNumbered P w) := by
  refine F.ok sc_numbered (fun vs H Q E h => ?_) (fun cdv A outer s H vs Q E hr h => ?_)
  · obtain ⟨T, inst, d, F, le, pl, lv, ks, rfl, _⟩ := h
    rfl
  obtain ⟨T, inst, d, Fm, le, pl, lv, ks, rfl, hpl, hA, l1000, q⟩ := h
  have hu := hr.units
  refine ⟨_, (pss_cons (ps_set (i := 1) sc_numbered.nd rfl (Or.inr rfl) (pe_nnew Fm le))
    (pss_cut (ps_for PassesOwn.never rfl (pi_list (pv 0)) (pg_name (i := 2) sc_numbered.nd rfl (Or.inl rfl))
      (pss_one (ps_expr (pe_nset hu Fm le (pv 1) (pv 2) (pe_callB (call_lenN Fm le) rfl m_len PySem.boot_len (pa_cons (pv 1) pa_nil)) ⟨rfl, rfl, rfl, rfl⟩))))
    (pss_one (ps_ret (pe_comp (caps := [(1, "numbers")]) rfl (show CompSc (defScope s_numbered) ["looks", "numbers", "look"] _ _ _ from ⟨rfl, rfl, by decide +kernel, by decide +kernel, by decide +kernel, by decide +kernel, by decide +kernel⟩) (pi_list (pv 0)) (fun _ _ _ _ _ _ => pifs_nil) (fun _ _ _ _ _ _ => show PE _ _ (tNGet P w Fm le _ _) from pe_nget hu Fm le (pv 1) (pv 0) (fun _ _ => rfl))))))), ?_⟩
  have llv := hA.length
  intro pn H1 npn eH D1
  have s1 : Same H H1 := by
    rw [eH]
    exact same_new npn _
  clear eH
  refine ⟨fun σ' H' => (∃ us : List T, Same H H' ∧ DN P w Fm le H' pn (nkv 0 us) ∧ Uq ks ks.length us) ∧ ∃ o2 : Option V, σ' = [some (.ref pl), some (.ref pn), o2], ?_, ?_⟩
  · refine ⟨_, rfl, pl, rfl, ⟨_, SqL.of (s1 _ _ hpl)⟩, ?_⟩
    refine for_list (K := K) (a := pl) (xs := lv) (fun i σ' H' => (∃ us : List T, Same H H' ∧ DN P w Fm le H' pn (nkv 0 us) ∧ Uq ks i us ∧ us.length ≤ i) ∧ ∃ o2 : Option V, σ' = [some (.ref pl), some (.ref pn), o2])
      ⟨⟨[], s1, D1, Uq.init, Nat.le_refl _⟩, _, rfl⟩ (fun i σ' H' _ ⟨⟨_, z, _⟩, _⟩ => SqL.of (z _ _ hpl)) ?_ ?_
    · rintro i x σ' H2 hx ⟨⟨us, s2, D2, U, lus⟩, o2, rfl⟩
      have hi : i < ks.length := by
        have := (List.getElem?_eq_some_iff.mp hx).1
        omega
      have hk := List.getElem?_eq_getElem hi
      generalize ks[i] = k at hk
      obtain ⟨v', hv', hinn, b, rfl⟩ := hA.get hk
      rw [hv'] at hx
      obtain rfl := Option.some.inj hx
      have hin2 := Fm.mono hinn (fun c xs g => s2 _ _ g)
      refine ⟨_, rfl, pn, _, rfl, D2, _, rfl, _, rfl, pn, _, rfl, D2, b, _, k, rfl, D2, hin2, (by rw [nkv_len, sizeLine_eq]; omega), fun v' hv => ?_, fun hv o D3 => ?_⟩
      · rcases nkv_val (k := k) us 0 with ⟨_, h2⟩ | ⟨c, h1, _⟩
        · rw [h2] at hv
          cases hv
        · exact ⟨⟨us, s2, D2, U.old hk (List.mem_of_getElem? h1), by omega⟩, _, rfl⟩
      · rcases nkv_val (k := k) us 0 with ⟨h1, _⟩ | ⟨c, _, h2⟩
        · rw [nkv_len, show ((us.length : Nat) : Int) = ((0 + us.length : Nat) : Int) by omega, ← nkv_snoc] at D3
          exact ⟨⟨us ++ [k], same_upd npn s2 _, D3, U.new hk h1, by rw [List.length_append, List.length_singleton]; omega⟩, _, rfl⟩
        · rw [h2] at hv
          cases hv
    · rintro σ' H2 ⟨⟨us, s2, D2, U, _⟩, r⟩
      rw [llv] at U
      exact ⟨⟨us, s2, D2, U⟩, r⟩
  rintro σ' H2 ⟨⟨us, s2, D2, U⟩, o2, rfl⟩
  refine ⟨_, rfl, pl, rfl, ⟨_, SqL.of (s2 _ _ hpl)⟩, ?_⟩
  refine comp_list (K := K) (a := pl) (xs := lv) (fun i acc H' => H' = H2 ∧ ∃ fold : List Nat, acc = natsV fold ∧ fold.length = i ∧ ∀ (j : Nat) (k : T), j < i → ks[j]? = some k → us[fAt fold j]? = some k) ⟨rfl, [], rfl, rfl, fun j k hj => absurd hj (Nat.not_lt_zero _)⟩
    (fun i acc H' ⟨e, _⟩ => by rw [e]; exact SqL.of (s2 _ _ hpl)) ?_ ?_
  · rintro i x acc H' hx ⟨rfl, fold, rfl, lf, hf⟩
    have hi : i < ks.length := by
      have := (List.getElem?_eq_some_iff.mp hx).1
      omega
    have hk := List.getElem?_eq_getElem hi
    generalize ks[i] = k at hk
    obtain ⟨v', hv', hinn, b, rfl⟩ := hA.get hk
    rw [hv'] at hx
    obtain rfl := Option.some.inj hx
    have hin2 := Fm.mono hinn (fun c xs g => s2 _ _ g)
    rcases nkv_val (k := k) us 0 with ⟨h1, _⟩ | ⟨c, h1, h2⟩
    · exact absurd ((U.mem k).mpr ⟨i, hi, hk⟩) h1
    refine ⟨_, rfl, _, rfl, pn, b, _, k, _, rfl, rfl, D2, hin2, h2, (by rw [natsV_len, sizeLine_eq]; omega), rfl, fold ++ [c], ?_, by rw [List.length_append, List.length_singleton, lf], fun j k' hj hk' => ?_⟩
    · unfold natsV
      rw [List.map_append, Nat.zero_add]
      rfl
    · by_cases z : j = i
      · subst z
        rw [hk] at hk'
        rw [← Option.some.inj hk']
        unfold fAt
        rw [List.getD_eq_getElem?_getD, List.getElem?_append_right (by omega), lf, Nat.sub_self]
        exact h1
      · have := hf j k' (by omega) hk'
        unfold fAt at this ⊢
        rw [List.getD_eq_getElem?_getD, List.getElem?_append_left (by omega), ← List.getD_eq_getElem?_getD]
        exact this
  · rintro acc H' ⟨rfl, fold, rfl, lf, hf⟩ pq hpq
    refine q pq _ fold (s2.trans (same_new hpq _)) (s2.free hpq) upd_same (U.num (by omega) fun i k hk => hf i k ?_ hk)
    have := (List.getElem?_eq_some_iff.mp hk).1
    omega
end
end Tb

namespace Tb
open PySem L2 Mix Gds
/-! the program's folded_moves and finer -/
abbrev KW := List Key
abbrev KM := List (KW ⊕ Key)
abbrev KMs := List KM
abbrev KL := List (Key ⊕ KMs)
instance decKM : DecidableEq KM := inferInstanceAs (DecidableEq (List (KW ⊕ Key)))
instance decKMs : DecidableEq KMs := @instDecidableEqList _ decKM
instance decKK : DecidableEq (Key ⊕ KMs) := @instDecidableEqSum _ _ inferInstance decKMs
instance decKL : DecidableEq KL := @instDecidableEqList _ decKK
def wK (ws : List Str) : KW := ws.map Sum.inr
def mK (m : List Str × Nat) : KM := [Sum.inl (wK m.1), Sum.inr (Sum.inl (m.2 : Int))]
def msK (ms : List (List Str × Nat)) : KMs := ms.map mK
def lK (n : Nat) (ms : List (List Str × Nat)) : KL := [Sum.inl (Sum.inl (n : Int)), Sum.inr (msK ms)]
theorem wK_inj : ∀ {a b : List Str}, wK a = wK b → a = b
  | [], [], _ => rfl
  | [], _ :: _, h => by cases h
  | _ :: _, [], h => by cases h
  | x :: a, y :: b, h => by
    have h : (Sum.inr x : Key) :: wK a = Sum.inr y :: wK b := h
    injection h with h1 h2
    injection h1 with h1
    rw [h1, wK_inj h2]
theorem mK_inj {a b : List Str × Nat} (h : mK a = mK b) : a = b := by
  unfold mK at h
  injection h with h1 h2
  injection h1 with h1
  injection h2 with h2 _
  injection h2 with h2
  injection h2 with h2
  exact Prod.ext (wK_inj h1) (by omega)
theorem msK_inj : ∀ {a b : List (List Str × Nat)}, msK a = msK b → a = b
  | [], [], _ => rfl
  | [], _ :: _, h => by cases h
  | _ :: _, [], h => by cases h
  | x :: a, y :: b, h => by
    have h : mK x :: msK a = mK y :: msK b := h
    injection h with h1 h2
    rw [mK_inj h1, msK_inj h2]
theorem lK_inj {n n' : Nat} {a b : List (List Str × Nat)} (h : lK n a = lK n' b) : n = n' ∧ a = b := by
  unfold lK at h
  injection h with h1 h2
  injection h1 with h1
  injection h1 with h1
  injection h2 with h2 _
  injection h2 with h2
  exact ⟨by omega, msK_inj h2⟩
def Tw : TFam KW 1 := TFam.leaf.tup
def Tm : TFam KM 2 := (TFam.two Tw (TFam.leaf.up 1 (by decide))).tup
def Tms : TFam KMs 3 := Tm.tup
def Tl : TFam KL 4 := (TFam.two (TFam.leaf.up 3 (by decide)) Tms).tup
theorem words_inn {H : Hp} : ∀ (ws : List Str) (i : Nat), InnL TFam.leaf H i (wK ws) (ws.map V.str)
  | [], _ => .nil
  | _ :: ws, i => .cons rfl (words_inn ws (i + 1))
theorem wd_inn {H : Hp} {v : V} {ws : List Str} (h : WdIn H v ws) (i : Nat) : Tw.inn i H (wK ws) v := by
  obtain ⟨a, e, h⟩ := h
  exact ⟨a, _, e, h, words_inn ws 0⟩
theorem mv_inn {H : Hp} {v : V} {m : List Str × Nat} (h : MvIn H v m) (i : Nat) : Tm.inn i H (mK m) v := by
  obtain ⟨a, wv, e, h1, h2⟩ := h
  exact ⟨a, _, e, h1, .cons ⟨rfl, wd_inn h2 0⟩ (.cons ⟨by decide, rfl⟩ .nil)⟩
theorem mvs_inn {H : Hp} {mv : List V} {ms : List (List Str × Nat)} (h : Al (MvIn H) mv ms) : ∀ i : Nat, InnL Tm H i (msK ms) mv := by
  induction h with
  | nil => exact fun _ => .nil
  | cons h _ ih => exact fun i => .cons (mv_inn h i) (ih (i + 1))
theorem lk_inn {H : Hp} {a p : Addr} {n : Nat} {mv : List V} {ms : List (List Str × Nat)} (h : H a = some (.tup [.int (n : Int), .ref p])) (hp : H p = some (.tup mv)) (hm : Al (MvIn H) mv ms) : Tl.inn 0 H (lK n ms) (.ref a) :=
  ⟨a, _, rfl, h, .cons ⟨rfl, rfl⟩ (.cons ⟨by decide, p, mv, rfl, hp, mvs_inn hm 0⟩ .nil)⟩
def fmv (rows : List Row) (fold : List Nat) (k : Nat) : List (List Str × Nat) := (rowAt rows k).2.map fun mv => (mv.1, fAt fold mv.2)
structure FinOk (rows : List Row) (fold fold' : List Nat) (m : Nat) : Prop where
  len : fold'.length = m
  same : ∀ a b : Nat, a < m → b < m → (fAt fold' a = fAt fold' b ↔ fAt fold a = fAt fold b ∧ fmv rows fold a = fmv rows fold b)
  ord : ∀ k : Nat, k < m → ∀ c : Nat, c < fAt fold' k → ∃ j : Nat, j < k ∧ fAt fold' j = c
def spFolded : Sp := fun vs H Q _ => ∃ (ar pf al am : Addr) (mv : List V) (ms : List (List Str × Nat)) (fold : List Nat), vs = [.ref ar, .ref pf] ∧ H ar = some (.tup [.ref al, .ref am]) ∧ H am = some (.tup mv) ∧ Al (MvIn H) mv ms ∧ H pf = some (.lst (natsV fold)) ∧ (∀ x ∈ ms, x.2 < fold.length) ∧ ms.length ≤ 1000 ∧ ∀ (p : Addr) (H' : Hp) (mv' : List V), Same H H' → H' p = some (.tup mv') → Al (MvIn H') mv' (ms.map fun x => (x.1, fAt fold x.2)) → Q (.ref p) H'
def spFiner : Sp := fun vs H Q _ => ∃ (pt pf : Addr) (rv : List V) (rows : List Row) (m e : Nat) (fold : List Nat), vs = [.ref pt, .ref pf] ∧ H pt = some (.lst rv) ∧ Al (RwIn H) rv rows ∧ TbOk rows m e ∧ m ≤ 200 ∧ e ≤ 8 ∧ H pf = some (.lst (natsV fold)) ∧ fold.length = m ∧ ∀ (pq : Addr) (H' : Hp) (fold' : List Nat), Same H H' → H pq = none → H' pq = some (.lst (natsV fold')) → FinOk rows fold fold' m → Q (.ref pq) H'
section
variable {P : Program} {w : World} {K : PySem.W.Frag} {mg : Str → Option Value} {base : Heap}
theorem sc_folded_moves : FnScope ["row", "fold"] ["row", "fold"] (defScope s_folded_moves) := ⟨rfl, rfl, rfl, by decide +kernel, rfl, by decide +kernel, by decide +kernel⟩
theorem ok_folded_moves {f : Addr} {fd : FuncData} (F : Fun K "folded_moves" "folded_moves" s_folded_moves f fd) (m_tuple : mg "tuple" = none) : FnOk P w K mg base CX0 1 f fd ["row", "fold"] spFolded := by
  refine F.ok sc_folded_moves (fun vs H Q E h => ?_) (fun cdv A outer s H vs Q E hr h => ?_)
  · obtain ⟨ar, pf, al, am, mv, ms, fold, rfl, _⟩ := h
    rfl
  obtain ⟨ar, pf, al, am, mv, ms, fold, rfl, har, ham, hmv, hpf, hlt, l1000, q⟩ := h
  refine ⟨_, (pss_one (ps_ret (pe_callTy call_tuple_of rfl m_tuple PyProof.Rows.boot_tuple (pa_cons (pe_comp (caps := [(1, "fold")]) rfl (show CompSc (defScope s_folded_moves) ["row", "fold"] _ _ _ from ⟨rfl, rfl, by decide +kernel, by decide +kernel, by decide +kernel, by decide +kernel, by decide +kernel⟩) (pi_tup (pe_ix ix_tup (pv 0) pe_int (fun _ _ => rfl))) (fun _ _ _ _ _ _ => pifs_nil)
    (fun _ _ _ _ _ _ => pe_tup (pa_cons (pe_ix (r := rIxT K) ix_tup (pv 0) pe_int (fun _ _ => rfl)) (pa_cons (pe_ix (r := rIxL K) ix_list (pv 1) (pe_ix (r := rIxT K) ix_tup (pv 0) pe_int (fun _ _ => rfl)) (fun _ _ => rfl)) pa_nil)))) pa_nil)))), ?_⟩
  have lmv := hmv.length
  refine ⟨_, rfl, ar, _, _, _, rfl, rfl, SqT.of har, rfl, am, rfl, ⟨_, SqT.of ham⟩, ?_⟩
  refine comp_tup (K := K) (a := am) (xs := mv) (fun i acc H' => Same H H' ∧ acc.length = i ∧ Al (MvIn H') acc ((ms.take i).map fun x => (x.1, fAt fold x.2))) ⟨Same.refl _, rfl, .nil⟩ (fun i acc H' z => SqT.of (z.1 _ _ ham)) ?_ ?_
  · rintro i x acc H' hx ⟨s1, la, hA⟩
    have hi : i < ms.length := by
      have := (List.getElem?_eq_some_iff.mp hx).1
      omega
    have hk := List.getElem?_eq_getElem hi
    have hm := List.getElem_mem hi
    generalize ms[i] = mm at hk hm
    obtain ⟨v', hv', a, wv, rfl, h1, aw, rfl, hw⟩ := hmv.get hk
    rw [hv'] at hx
    obtain rfl := Option.some.inj hx
    have hto := hlt mm hm
    refine ⟨_, rfl, a, _, _, _, rfl, rfl, SqT.of (s1 _ _ h1), rfl, _, rfl, _, rfl, a, _, _, _, rfl, rfl, SqT.of (s1 _ _ h1), rfl, pf, _, _, _, rfl, rfl, SqL.of (s1 _ _ hpf), nv_at hto, small_le (by show 2 ≤ 1000; decide), fun p hp => ⟨by rw [sizeLine_eq]; omega, s1.trans (same_new hp _), by rw [List.length_append, List.length_singleton, la], ?_⟩⟩
    have u2 := same_new hp (.tup [V.ref aw, V.int (fAt fold mm.2 : Int)])
    rw [List.take_add_one, hk, List.map_append]
    exact Al.snoc (hA.mono fun _ _ z => z.mono (KeepT.of u2)) ⟨p, _, rfl, upd_same, aw, rfl, u2 _ _ (s1 _ _ hw)⟩
  · rintro acc H' ⟨s1, la, hA⟩ pl hpl
    rw [List.take_of_length_le (by omega)] at hA
    have u2 := same_new hpl (.lst acc)
    refine ⟨pl, acc, rfl, .inl ⟨SqL.of upd_same, fun p hp => ?_⟩⟩
    have u3 := same_new hp (.tup acc)
    exact q p _ acc (s1.trans (u2.trans u3)) upd_same (hA.mono fun _ _ z => z.mono (KeepT.of (u2.trans u3)))
theorem sc_finer : FnScope ["rows", "fold"] ["rows", "fold"] (defScope s_finer) := ⟨rfl, rfl, rfl, by decide +kernel, rfl, by decide +kernel, by decide +kernel⟩
theorem ok_finer {n0 : Nat} {f g1 g2 : Addr} {fd dg1 dg2 : FuncData} (F : Fun K "finer" "finer" s_finer f fd)
    (G_numbered : FnOk P w K mg base CX0 n0 g1 dg1 ["looks"] (spNumbered P w)) (b_numbered : Binds K dg1 ["looks"] []) (k_numbered : PySem.W.keepIn K (.ref g1) = true) (m_numbered : mg "numbered" = some (.ref g1))
    (G_folded_moves : FnOk P w K mg base CX0 n0 g2 dg2 ["row", "fold"] spFolded) (b_folded_moves : Binds K dg2 ["row", "fold"] []) (k_folded_moves : PySem.W.keepIn K (.ref g2) = true) (m_folded_moves : mg "folded_moves" = some (.ref g2))
    (m_zip : mg "zip" = none) : FnOk P w K mg base CX0 (n0 + 1) f fd ["rows", "fold"] spFiner := by
  refine F.ok sc_finer (fun vs H Q E h => ?_) (fun cdv A outer s H vs Q E hr h => ?_)
  · obtain ⟨pt, pf, rv, rows, m, e, fold, rfl, _⟩ := h
    rfl
  obtain ⟨pt, pf, rv, rows, m, e, fold, rfl, hpt, hA, T, m200, e8, hpf, lf, q⟩ := h
  refine ⟨_, (pss_one (ps_ret (pe_call G_numbered hr rfl m_numbered k_numbered b_numbered .nil pass0 (pa_cons (pe_comp2 (caps := [(1, "fold")]) rfl (show CompSc2 (defScope s_finer) ["rows", "fold"] _ _ _ _ from ⟨rfl, rfl, rfl, by decide +kernel, by decide +kernel, by decide +kernel, by decide +kernel, by decide +kernel⟩) (pi_zip rfl m_zip (pa_cons (pv 1) (pa_cons (pv 0) pa_nil))) (fun _ _ _ _ _ _ => pifs_nil)
    (fun _ _ _ _ _ _ => pe_tup (pa_cons (pv 0) (pa_cons (pe_call G_folded_moves hr rfl m_folded_moves k_folded_moves b_folded_moves .nil pass0 (pa_cons (pv 1) (pa_cons (pv 2) pa_nil))) pa_nil)))) pa_nil)))), ?_⟩
  have lrv := hA.length
  have lrows := T.len
  have lnf := natsV_len fold
  refine ⟨_, rfl, _, rfl, pf, pt, rfl, ⟨_, SqL.of hpf⟩, ⟨_, SqL.of hpt⟩, ?_⟩
  refine comp2_zip (K := K) (a := pf) (b := pt) (xs := natsV fold) (ys := rv) (fun i acc H' => Same H H' ∧ acc.length = i ∧ Al (fun v k => Tl.inn 0 H' k v ∧ ∃ a : Addr, v = .ref a) acc ((List.range i).map fun k => lK (fAt fold k) (fmv rows fold k))) ⟨Same.refl _, rfl, .nil⟩ (fun i acc H' z => ⟨SqL.of (z.1 _ _ hpf), SqL.of (z.1 _ _ hpt)⟩) (by omega) ?_ ?_
  · rintro i x y acc H' t hx hy ⟨s1, la, hB⟩ ht
    have hi : i < m := by
      have := (List.getElem?_eq_some_iff.mp hx).1
      omega
    have hxv : x = .int (fAt fold i : Int) := by
      have := nv_at (os := fold) (k := i) (by omega)
      rw [atI_nat hx] at this
      exact Option.some.inj this
    subst hxv
    have u2 := same_new ht (.tup [.int (fAt fold i : Int), y])
    generalize upd H' t (.tup [.int (fAt fold i : Int), y]) = H2 at u2 ⊢
    have s2 := s1.trans u2
    obtain ⟨a, am, al, mv, hat, ha, hal, ham, hmv⟩ := row_in (hA.mono fun _ _ z => z.mono (KeepT.of s2)) T hi
    rw [atI_nat hy] at hat
    obtain rfl := Option.some.inj hat
    have okr := (T.at hi).2
    refine ⟨_, rfl, _, rfl, _, rfl, a, pf, al, am, mv, (rowAt rows i).2, fold, rfl, ha, ham, hmv, s2 _ _ hpf, fun z hz => by rw [lf]; exact (okr.2.2 z hz).2, by rw [okr.2.1]; omega, fun p H3 mv' u3 hp3 hmv3 => ?_⟩
    refine ⟨small_le (by show 2 ≤ 1000; decide), fun pl hpl => ⟨by rw [sizeLine_eq]; omega, s2.trans (u3.trans (same_new hpl _)), by rw [List.length_append, List.length_singleton, la], ?_⟩⟩
    have u4 := same_new hpl (.tup [V.int (fAt fold i : Int), V.ref p])
    rw [List.range_succ, List.map_append]
    refine Al.snoc (hB.mono fun _ _ z => ⟨Tl.mono z.1 (fun b xs g => (u2.trans (u3.trans u4)) _ _ g), z.2⟩) ⟨lk_inn upd_same (u4 _ _ hp3) (hmv3.mono fun _ _ z => z.mono (KeepT.of u4)), pl, rfl⟩
  · rintro acc H' ⟨s1, la, hB⟩ pl hpl
    have u2 := same_new hpl (.lst acc)
    rw [natsV_len, lf] at hB
    refine ⟨KL, _, 4, Tl, by decide, pl, acc, _, rfl, upd_same, hB.mono fun _ _ z => ⟨Tl.mono z.1 (fun b xs g => u2 _ _ g), z.2⟩, by rw [List.length_map, List.length_range]; omega, fun pq H2 fold' u3 npq hpq N => ?_⟩
    have nl : ((List.range m).map fun k => lK (fAt fold k) (fmv rows fold k)).length = m := by rw [List.length_map, List.length_range]
    have at' : ∀ k, k < m → ((List.range m).map fun k => lK (fAt fold k) (fmv rows fold k))[k]? = some (lK (fAt fold k) (fmv rows fold k)) := fun k hk => by
      rw [List.getElem?_map, List.getElem?_range hk]
      rfl
    refine q pq H2 fold' (s1.trans (u2.trans u3)) ((s1.trans u2).free npq) hpq ⟨by rw [N.len, nl], fun a b ha hb => ?_, fun k hk => N.ord k (by omega)⟩
    rw [N.same a b (by omega) (by omega), at' a ha, at' b hb]
    constructor
    · intro z
      exact lK_inj (Option.some.inj z)
    · rintro ⟨z1, z2⟩
      rw [z1, z2]
end
end Tb

namespace Tb
open PySem L2 Mix Gds
/-! folds, made finer until they stay: as mathematics -/
theorem fAt_ext {f g : List Nat} {m : Nat} (h1 : f.length = m) (h2 : g.length = m) (h : ∀ k : Nat, k < m → fAt f k = fAt g k) : f = g := by
  refine List.ext_getElem (by omega) fun k a b => ?_
  rw [← fAt_get a, ← fAt_get b]
  exact h k (by omega)
structure Stg (rows : List Row) (fold : List Nat) (m e : Nat) : Prop where
  len : fold.length = m
  ord : ∀ k : Nat, k < m → ∀ c : Nat, c < fAt fold k → ∃ j : Nat, j < k ∧ fAt fold j = c
  lam : ∀ a b : Nat, a < m → b < m → fAt fold a = fAt fold b → (rowAt rows a).1 = (rowAt rows b).1
  alk : ∀ a b : Nat, a < m → b < m → (∀ p : List Nat, (∀ x ∈ p, x < e) → endOf rows a p = endOf rows b p) → fAt fold a = fAt fold b
theorem Stg.first {rows : List Row} {fold : List Nat} {m e : Nat} (N : NumOk ((List.range m).map fun k => wK (rowAt rows k).1) fold) : Stg rows fold m e := by
  have nl : ((List.range m).map fun k => wK (rowAt rows k).1).length = m := by rw [List.length_map, List.length_range]
  have at' : ∀ k, k < m → ((List.range m).map fun k => wK (rowAt rows k).1)[k]? = some (wK (rowAt rows k).1) := fun k hk => by
    rw [List.getElem?_map, List.getElem?_range hk]
    rfl
  refine ⟨by rw [N.len, nl], fun k hk => N.ord k (by omega), fun a b ha hb z => ?_, fun a b ha hb z => ?_⟩
  · have := (N.same a b (by omega) (by omega)).mp z
    rw [at' a ha, at' b hb] at this
    exact wK_inj (Option.some.inj this)
  · refine (N.same a b (by omega) (by omega)).mpr ?_
    rw [at' a ha, at' b hb]
    have := z [] (fun x hx => by cases hx)
    rw [end_nil, end_nil] at this
    injection this with this _
    rw [this]
theorem fmv_get {rows : List Row} {fold : List Nat} {m e k x : Nat} (T : TbOk rows m e) (hk : k < m) (hx : x < e) : (fmv rows fold k)[x]? = some ((mvAt rows k x).1, fAt fold (mvAt rows k x).2) := by
  have ok := (T.at hk).2
  have hl : x < (rowAt rows k).2.length := by rw [ok.2.1]; exact hx
  have e2 : mvAt rows k x = (rowAt rows k).2[x] := by
    unfold mvAt
    rw [List.getD_eq_getElem?_getD, List.getElem?_eq_getElem hl]
    rfl
  unfold fmv
  rw [List.getElem?_map, List.getElem?_eq_getElem hl, e2]
  rfl
theorem fmv_len {rows : List Row} {fold : List Nat} {m e k : Nat} (T : TbOk rows m e) (hk : k < m) : (fmv rows fold k).length = e := by
  unfold fmv
  rw [List.length_map, (T.at hk).2.2.1]
theorem Stg.next {rows : List Row} {fold fold' : List Nat} {m e : Nat} (T : TbOk rows m e) (S : Stg rows fold m e) (F : FinOk rows fold fold' m) : Stg rows fold' m e := by
  refine ⟨F.len, F.ord, fun a b ha hb z => S.lam a b ha hb ((F.same a b ha hb).mp z).1, fun a b ha hb z => (F.same a b ha hb).mpr ⟨S.alk a b ha hb z, ?_⟩⟩
  apply List.ext_getElem?
  intro x
  by_cases hx : x < e
  · rw [fmv_get T ha hx, fmv_get T hb hx]
    have h1 := z [x] (fun y hy => by rw [List.mem_singleton.mp hy]; exact hx)
    rw [end_one, end_one] at h1
    injection h1 with h1 h2
    rw [h2, S.alk _ _ (mv_lt T ha hx) (mv_lt T hb hx) fun p hp => ?_]
    by_cases hp0 : p = []
    · rw [hp0, end_nil, end_nil, h1]
    · have h3 := z (x :: p) (fun y hy => by
        rcases List.mem_cons.mp hy with e1 | e1
        · rw [e1]
          exact hx
        · exact hp y e1)
      rw [end_cons rows x a hp0, end_cons rows x b hp0] at h3
      exact h3
  · have la := fmv_len (fold := fold) T ha
    have lb := fmv_len (fold := fold) T hb
    rw [List.getElem?_eq_none (by omega), List.getElem?_eq_none (by omega)]
theorem Stg.last {rows : List Row} {fold : List Nat} {m e : Nat} (T : TbOk rows m e) (S : Stg rows fold m e) (F : FinOk rows fold fold m) : ∀ (p : List Nat) (a b : Nat), a < m → b < m → fAt fold a = fAt fold b → (∀ x ∈ p, x < e) → endOf rows a p = endOf rows b p
  | [], a, b, ha, hb, z, _ => by rw [end_nil, end_nil, S.lam a b ha hb z]
  | x :: p, a, b, ha, hb, z, hp => by
    have hx := hp x (List.mem_cons_self ..)
    have h1 := ((F.same a b ha hb).mp z).2
    have h2 := fmv_get (fold := fold) T ha hx
    rw [h1, fmv_get T hb hx] at h2
    have h2 := Option.some.inj h2
    injection h2 with h3 h4
    by_cases hp0 : p = []
    · subst hp0
      rw [end_one, end_one, h3, S.lam _ _ (mv_lt T hb hx) (mv_lt T ha hx) h4]
    · rw [end_cons rows x a hp0, end_cons rows x b hp0]
      exact S.last T F p _ _ (mv_lt T ha hx) (mv_lt T hb hx) h4.symm (fun y hy => hp y (List.mem_cons_of_mem _ hy))
theorem Stg.le {rows : List Row} {fold fold' : List Nat} {m e : Nat} (S : Stg rows fold m e) (F : FinOk rows fold fold' m) : ∀ k : Nat, k < m → fAt fold k ≤ fAt fold' k := by
  intro k
  induction k using Nat.strongRecOn with
  | ind k ih =>
    intro hk
    by_cases ex : ∃ j : Nat, j < k ∧ fAt fold' j = fAt fold' k
    · obtain ⟨j, hj, ej⟩ := ex
      have h1 := ih j hj (by omega)
      rw [((F.same j k (by omega) hk).mp ej).1, ej] at h1
      exact h1
    · by_cases z : fAt fold k = 0
      · omega
      · obtain ⟨j, hj, ej⟩ := S.ord k hk (fAt fold k - 1) (by omega)
        have h1 := ih j hj (by omega)
        rcases Nat.lt_trichotomy (fAt fold' j) (fAt fold' k) with y | y | y
        · omega
        · exact absurd ⟨j, hj, y⟩ ex
        · obtain ⟨i, hi, ei⟩ := F.ord j (by omega) _ y
          exact absurd ⟨i, by omega, ei⟩ ex
theorem Stg.small {rows : List Row} {fold : List Nat} {m e : Nat} (S : Stg rows fold m e) : ∀ k : Nat, k < m → fAt fold k ≤ k := by
  intro k
  induction k using Nat.strongRecOn with
  | ind k ih =>
    intro hk
    by_cases z : fAt fold k = 0
    · omega
    · obtain ⟨j, hj, ej⟩ := S.ord k hk (fAt fold k - 1) (by omega)
      have := ih j hj (by omega)
      omega
theorem sum_le : ∀ (f g : List Nat), f.length = g.length → (∀ k : Nat, k < f.length → fAt f k ≤ fAt g k) → f.sum ≤ g.sum ∧ (f.sum = g.sum → f = g)
  | [], [], _, _ => ⟨Nat.le_refl _, fun _ => rfl⟩
  | [], _ :: _, h, _ => by cases h
  | _ :: _, [], h, _ => by cases h
  | x :: f, y :: g, h, k => by
    have h0 : x ≤ y := k 0 (Nat.zero_lt_succ _)
    have ih := sum_le f g (by simpa using h) fun j hj => k (j + 1) (Nat.succ_lt_succ hj)
    rw [List.sum_cons, List.sum_cons]
    refine ⟨by omega, fun e => ?_⟩
    rw [ih.2 (by omega), show x = y by omega]
theorem sum_bound (m : Nat) : ∀ f : List Nat, (∀ x ∈ f, x ≤ m) → f.sum ≤ f.length * m
  | [], _ => by simp
  | x :: f, h => by
    have := sum_bound m f fun y hy => h y (List.mem_cons_of_mem _ hy)
    have := h x (List.mem_cons_self ..)
    rw [List.sum_cons, List.length_cons, Nat.add_mul, Nat.one_mul]
    omega
theorem Stg.bound {rows : List Row} {fold : List Nat} {m e : Nat} (S : Stg rows fold m e) : fold.sum ≤ m * m := by
  have := sum_bound m fold fun x hx => by
    obtain ⟨k, hk, rfl⟩ := List.mem_iff_getElem.mp hx
    have l := S.len
    rw [← fAt_get hk]
    have := S.small k (by omega)
    omega
  rw [S.len] at this
  exact this
theorem Stg.grow {rows : List Row} {fold fold' : List Nat} {m e : Nat} (S : Stg rows fold m e) (F : FinOk rows fold fold' m) (ne : fold' ≠ fold) : fold.sum < fold'.sum := by
  have l1 := S.len
  have l2 := F.len
  have := sum_le fold fold' (by omega) fun k hk => S.le F k (by omega)
  rcases Nat.lt_or_ge fold.sum fold'.sum with z | z
  · exact z
  · exact absurd (this.2 (by omega)).symm ne
structure AlkOk (rows : List Row) (fold : List Nat) (m e : Nat) : Prop where
  len : fold.length = m
  ord : ∀ k : Nat, k < m → ∀ c : Nat, c < fAt fold k → ∃ j : Nat, j < k ∧ fAt fold j = c
  alike : ∀ a b : Nat, a < m → b < m → (fAt fold a = fAt fold b ↔ ∀ p : List Nat, (∀ x ∈ p, x < e) → endOf rows a p = endOf rows b p)
def spAlike : Sp := fun vs H Q _ => ∃ (pt : Addr) (rv : List V) (rows : List Row) (m e : Nat), vs = [.ref pt] ∧ H pt = some (.lst rv) ∧ Al (RwIn H) rv rows ∧ TbOk rows m e ∧ m ≤ 200 ∧ e ≤ 8 ∧ ∀ (pf : Addr) (H' : Hp) (fold : List Nat), Same H H' → H pf = none → H' pf = some (.lst (natsV fold)) → AlkOk rows fold m e → Q (.ref pf) H'
section
variable {P : Program} {w : World} {K : PySem.W.Frag} {mg : Str → Option Value} {base : Heap}
theorem sc_alike : FnScope ["rows", "fold", "further"] ["rows"] (defScope s_alike) := ⟨rfl, rfl, rfl, by decide +kernel, rfl, by decide +kernel, by decide +kernel⟩
theorem ok_alike {n0 : Nat} {f g1 g2 : Addr} {fd dg1 dg2 : FuncData} (F : Fun K "alike" "alike" s_alike f fd)
    (G_numbered : FnOk P w K mg base CX0 n0 g1 dg1 ["looks"] (spNumbered P w)) (b_numbered : Binds K dg1 ["looks"] []) (k_numbered : PySem.W.keepIn K (.ref g1) = true) (m_numbered : mg "numbered" = some (.ref g1))
    (G_finer : FnOk P w K mg base CX0 n0 g2 dg2 ["rows", "fold"] spFiner) (b_finer : Binds K dg2 ["rows", "fold"] []) (k_finer : PySem.W.keepIn K (.ref g2) = true) (m_finer : mg "finer" = some (.ref g2)) : FnOk P w K mg base CX0 (n0 + 1) f fd ["rows"] spAlike := by
  refine F.ok sc_alike (fun vs H Q E h => ?_) (fun cdv A outer s H vs Q E hr h => ?_)
  · obtain ⟨pt, rv, rows, m, e, rfl, _⟩ := h
    rfl
  obtain ⟨pt, rv, rows, m, e, rfl, hpt, hA, T, m200, e8, q⟩ := h
  refine ⟨_, (pss_cons (ps_set (i := 1) sc_alike.nd rfl (Or.inl rfl) (pe_call G_numbered hr rfl m_numbered k_numbered b_numbered .nil pass0 (pa_cons (pe_comp (caps := []) rfl (show CompSc (defScope s_alike) ["rows", "fold", "further"] _ _ _ from ⟨rfl, rfl, by decide +kernel, by decide +kernel, by decide +kernel, by decide +kernel, by decide +kernel⟩) (pi_list (pv 0)) (fun _ _ _ _ _ _ => pifs_nil) (fun _ _ _ _ _ _ => pe_ix (r := rIxT K) ix_tup (pv 0) pe_int (fun _ _ => rfl))) pa_nil)))
    (pss_cons (ps_set (i := 2) sc_alike.nd rfl (Or.inl rfl) (pe_call G_finer hr rfl m_finer k_finer b_finer .nil pass0 (pa_cons (pv 0) (pa_cons (pv 1) pa_nil))))
    (pss_cut (ps_while PassesOwn.never (pt_cmpR (op_neN hr.units) (pv 2) (pv 1) (nomark _))
      (pss_cons (ps_set (i := 1) sc_alike.nd rfl (Or.inl rfl) (pv 2))
      (pss_one (ps_set (i := 2) sc_alike.nd rfl (Or.inl rfl) (pe_call G_finer hr rfl m_finer k_finer b_finer .nil pass0 (pa_cons (pv 0) (pa_cons (pv 1) pa_nil)))))))
    (pss_one (ps_ret (pv 1)))))), ?_⟩
  have lrv := hA.length
  have lrows := T.len
  refine ⟨_, rfl, pt, rfl, ⟨_, SqL.of hpt⟩, ?_⟩
  refine comp_list (K := K) (a := pt) (xs := rv) (fun i acc H' => H' = H ∧ acc.length = i ∧ Al (fun v k => Tw.inn 0 H k v ∧ ∃ a : Addr, v = .ref a) acc ((List.range i).map fun k => wK (rowAt rows k).1)) ⟨rfl, rfl, .nil⟩ (fun i acc H' z => by rw [z.1]; exact SqL.of hpt) ?_ ?_
  · rintro i x acc H' hx ⟨rfl, la, hB⟩
    have hi : i < m := by
      have := (List.getElem?_eq_some_iff.mp hx).1
      omega
    obtain ⟨a, am, al, mv, hat, ha, hal, ham, hmv⟩ := row_in hA T hi
    rw [atI_nat hx] at hat
    obtain rfl := Option.some.inj hat
    refine ⟨_, rfl, a, _, _, _, rfl, rfl, SqT.of ha, rfl, by rw [sizeLine_eq]; omega, rfl, by rw [List.length_append, List.length_singleton, la], ?_⟩
    rw [List.range_succ, List.map_append]
    exact Al.snoc hB ⟨wd_inn ⟨al, rfl, hal⟩ 0, al, rfl⟩
  rintro acc H' ⟨rfl, la, hB⟩ pl hpl
  rw [show rv.length = m by omega] at hB
  have u2 := same_new hpl (.lst acc)
  refine ⟨KW, _, 1, Tw, by decide, pl, acc, _, rfl, upd_same, hB.mono fun _ _ z => ⟨Tw.mono z.1 (fun b xs g => u2 _ _ g), z.2⟩, by rw [List.length_map, List.length_range]; omega, fun pf H2 fold u3 npf hpf N => ?_⟩
  have S0 : Stg rows fold m e := Stg.first N
  have s2 := u2.trans u3
  refine ⟨_, rfl, _, rfl, pt, pf, rv, rows, m, e, fold, rfl, s2 _ _ hpt, hA.mono fun _ _ z => z.mono (KeepT.of s2), T, m200, e8, hpf, S0.len, fun pq H3 fold1 u4 npq hpq F1 => ?_⟩
  have s3 := s2.trans u4
  refine ⟨fun σ' H4 => ∃ (pf : Addr) (fold : List Nat), Same H' H4 ∧ H' pf = none ∧ H4 pf = some (.lst (natsV fold)) ∧ AlkOk rows fold m e ∧ ∃ o2 : Option V, σ' = [some (.ref pt), some (.ref pf), o2], ?_, ?_⟩
  · refine ⟨fun ms σ' H4 => ∃ (pf pq : Addr) (fold fold1 : List Nat), ms = m * m - fold.sum ∧ Same H' H4 ∧ H' pf = none ∧ H' pq = none ∧ H4 pf = some (.lst (natsV fold)) ∧ H4 pq = some (.lst (natsV fold1)) ∧ Stg rows fold m e ∧ FinOk rows fold fold1 m ∧ σ' = [some (.ref pt), some (.ref pf), some (.ref pq)],
      ⟨_, pf, pq, fold, fold1, rfl, s3, u2.free npf, s2.free npq, u4 _ _ hpf, hpq, S0, F1, rfl⟩, ?_⟩
    rintro ms σ' H4 ⟨pf, pq, fold, fold1, rfl, s4, nf, nq, h4f, h4q, S, F1, rfl⟩
    have l1 := S.len
    have l2 := F1.len
    refine ⟨_, rfl, _, rfl, pq, pf, fold1, fold, rfl, rfl, SqL.of h4q, SqL.of h4f, by omega, _, rfl, itB (fun c => ?_) (fun c => ?_)⟩
    · have ne : fold1 ≠ fold := fun z => by
        rw [decide_eq_true z] at c
        cases c
      have gr := S.grow F1 ne
      have S1 := S.next T F1
      have b1 := S1.bound
      refine ⟨fun σ' H5 => ∃ (pq' : Addr) (fold2 : List Nat), Same H' H5 ∧ H' pq' = none ∧ H5 pq = some (.lst (natsV fold1)) ∧ H5 pq' = some (.lst (natsV fold2)) ∧ FinOk rows fold1 fold2 m ∧ σ' = [some (.ref pt), some (.ref pq), some (.ref pq')], ?_, ?_⟩
      · rintro σ' H5 ⟨pq', fold2, z1, z2, z3, z4, z5, z6⟩
        exact ⟨m * m - fold1.sum, by omega, pq, pq', fold1, fold2, rfl, z1, nq, z2, z3, z4, S1, z5, z6⟩
      refine ⟨_, rfl, _, rfl, _, rfl, pt, pq, rv, rows, m, e, fold1, rfl, s4 _ _ hpt, hA.mono fun _ _ z => z.mono (KeepT.of s4), T, m200, e8, h4q, l2, fun pr H5 fold2 u5 npr hpr F2 => ?_⟩
      exact ⟨pr, fold2, s4.trans u5, s4.free npr, u5 _ _ h4q, hpr, F2, rfl⟩
    · have ee : fold1 = fold := by
        by_cases z : fold1 = fold
        · exact z
        · rw [decide_eq_false z] at c
          cases c
      subst ee
      exact ⟨pf, fold1, s4, nf, h4f, ⟨S.len, S.ord, fun a b ha hb => ⟨fun z p hp => S.last T F1 p a b ha hb z hp, fun z => S.alk a b ha hb z⟩⟩, _, rfl⟩
  rintro σ' H4 ⟨pf, fold, s4, nf, h4f, hK, o2, rfl⟩
  exact ⟨_, rfl, q pf H4 fold s4 nf h4f hK⟩
end
end Tb

namespace Tb
open PySem L2 Mix Gds
/-! the program's shrunk -/
structure Frs (fold fs : List Nat) (i : Nat) : Prop where
  own : ∀ (c : Nat) (h : c < fs.length), fs[c] < i ∧ fAt fold fs[c] = c
  low : ∀ k : Nat, k < i → fAt fold k < fs.length
section
variable {rows : List Row} {fold fs : List Nat} {m e i : Nat}
theorem Frs.init : Frs fold [] 0 := ⟨fun c h => absurd h (Nat.not_lt_zero _), fun k h => absurd h (Nat.not_lt_zero _)⟩
theorem Frs.old (F : Frs fold fs i) {j : Nat} (hj : j < i) (e : fAt fold j = fAt fold i) : Frs fold fs (i + 1) := by
  refine ⟨fun c h => ⟨Nat.lt_succ_of_lt (F.own c h).1, (F.own c h).2⟩, fun k hk => ?_⟩
  by_cases z : k = i
  · rw [z, ← e]
    exact F.low j hj
  · exact F.low k (by omega)
theorem Frs.new (A : AlkOk rows fold m e) (F : Frs fold fs i) (hi : i < m) (h : ∀ j : Nat, j < i → fAt fold j ≠ fAt fold i) : Frs fold (fs ++ [i]) (i + 1) := by
  have e1 : fAt fold i = fs.length := by
    rcases Nat.lt_trichotomy (fAt fold i) fs.length with z | z | z
    · have := F.own _ z
      exact absurd this.2 (h _ this.1)
    · exact z
    · obtain ⟨j, hj, ej⟩ := A.ord i hi _ z
      have := F.low j hj
      omega
  refine ⟨fun c hc => ?_, fun k hk => ?_⟩
  · by_cases z : c < fs.length
    · rw [List.getElem_append_left z]
      exact ⟨Nat.lt_succ_of_lt (F.own c z).1, (F.own c z).2⟩
    · have z2 : c = fs.length := by
        rw [List.length_append, List.length_singleton] at hc
        omega
      subst z2
      rw [List.getElem_append_right (Nat.le_refl _)]
      simp
      exact e1
  · rw [List.length_append, List.length_singleton]
    by_cases z : k = i
    · rw [z, e1]
      exact Nat.lt_succ_self _
    · exact Nat.lt_succ_of_lt (F.low k (by omega))
def smallOf (rows : List Row) (fold fs : List Nat) : List Row := fs.map fun k => ((rowAt rows k).1, fmv rows fold k)
theorem Frs.shr (T : TbOk rows m e) (A : AlkOk rows fold m e) (F : Frs fold fs m) : ShrOk rows fold (smallOf rows fold fs) m e fs.length := by
  have at' : ∀ (c : Nat) (h : c < fs.length), rowAt (smallOf rows fold fs) c = ((rowAt rows fs[c]).1, fmv rows fold fs[c]) := fun c h => by
    unfold rowAt smallOf
    rw [List.getD_eq_getElem?_getD, List.getElem?_map, List.getElem?_eq_getElem h]
    rfl
  refine ⟨A.len, fun k hk => F.low k hk, fun c hc => ⟨fs[c], (F.own c hc).1, (F.own c hc).2⟩, A.ord, A.alike, ⟨by unfold smallOf; rw [List.length_map], ?_, fun r hr => ?_⟩, fun k hk => ?_⟩
  · have := F.low 0 T.pos
    omega
  · obtain ⟨k, hk, rfl⟩ := List.mem_map.mp hr
    obtain ⟨c, hc, rfl⟩ := List.mem_iff_getElem.mp hk
    have hlt := (F.own c hc).1
    have ok := (T.at hlt).2
    refine ⟨ok.1, fmv_len T hlt, fun x hx => ?_⟩
    obtain ⟨y, hy, rfl⟩ := List.mem_map.mp hx
    have oky := ok.2.2 y hy
    exact ⟨oky.1, F.low _ oky.2⟩
  · have hlt := F.low k hk
    rw [at' _ hlt]
    have hf := F.own _ hlt
    have al := (A.alike _ k hf.1 hk).mp hf.2
    have e0 := al [] (fun x hx => by cases hx)
    rw [end_nil, end_nil] at e0
    injection e0 with e0 _
    refine Prod.ext e0 ?_
    show fmv rows fold fs[fAt fold k] = fmv rows fold k
    apply List.ext_getElem?
    intro x
    by_cases hx : x < e
    · rw [fmv_get T hf.1 hx, fmv_get T hk hx]
      have h1 := al [x] (fun y hy => by rw [List.mem_singleton.mp hy]; exact hx)
      rw [end_one, end_one] at h1
      injection h1 with h1 h2
      rw [h2, (A.alike _ _ (mv_lt T hf.1 hx) (mv_lt T hk hx)).mpr fun p hp => ?_]
      by_cases hp0 : p = []
      · rw [hp0, end_nil, end_nil, h1]
      · have h3 := al (x :: p) (fun y hy => by
          rcases List.mem_cons.mp hy with e1 | e1
          · rw [e1]
            exact hx
          · exact hp y e1)
        rw [end_cons rows x _ hp0, end_cons rows x k hp0] at h3
        exact h3
    · have la := fmv_len (fold := fold) T hf.1
      have lb := fmv_len (fold := fold) T hk
      rw [List.getElem?_eq_none (by omega), List.getElem?_eq_none (by omega)]
end
section
variable {P : Program} {w : World} {K : PySem.W.Frag} {mg : Str → Option Value} {base : Heap}
theorem sc_shrunk : FnScope ["rows", "fold", "firsts"] ["rows"] (defScope s_shrunk) := ⟨rfl, rfl, rfl, by decide +kernel, rfl, by decide +kernel, by decide +kernel⟩
theorem ok_shrunk {n0 : Nat} {f g1 g2 : Addr} {fd dg1 dg2 : FuncData} (F : Fun K "shrunk" "shrunk" s_shrunk f fd)
    (G_alike : FnOk P w K mg base CX0 n0 g1 dg1 ["rows"] spAlike) (b_alike : Binds K dg1 ["rows"] []) (k_alike : PySem.W.keepIn K (.ref g1) = true) (m_alike : mg "alike" = some (.ref g1))
    (G_folded_moves : FnOk P w K mg base CX0 n0 g2 dg2 ["row", "fold"] spFolded) (b_folded_moves : Binds K dg2 ["row", "fold"] []) (k_folded_moves : PySem.W.keepIn K (.ref g2) = true) (m_folded_moves : mg "folded_moves" = some (.ref g2))
    (m_enumerate : mg "enumerate" = none) : FnOk P w K mg base CX0 (n0 + 1) f fd ["rows"] spShrunk := by
  refine F.ok sc_shrunk (fun vs H Q E h => ?_) (fun cdv A outer s H vs Q E hr h => ?_)
  · obtain ⟨pt, rv, rows, m, e, rfl, _⟩ := h
    rfl
  obtain ⟨pt, rv, rows, m, e, rfl, hpt, hA, T, m200, e8, q⟩ := h
  refine ⟨_, (pss_cons (ps_set (i := 1) sc_shrunk.nd rfl (Or.inr rfl) (pe_call G_alike hr rfl m_alike k_alike b_alike .nil pass0 (pa_cons (pv 0) pa_nil)))
    (pss_cons (ps_setC2 (i := 2) (caps := [(1, "fold")]) rfl sc_shrunk.nd rfl (Or.inl rfl) (show CompSc2 (defScope s_shrunk) ["rows", "fold", "firsts"] _ _ _ _ from ⟨rfl, rfl, rfl, by decide +kernel, by decide +kernel, by decide +kernel, by decide +kernel, by decide +kernel⟩) (pi_enumL rfl m_enumerate (pa_cons (pv 1) pa_nil))
      (fun _ _ _ _ _ _ => pifs_one (pt_cmpR (r := rEq) op_eq (show PE _ _ (tBM K "list" rIdx _ _) from pe_bm PySem.F.plainAttrs_list PySem.F.slot_list_index PySem.F.type_list_index mt_index (pv 2) (pa_cons (pv 1) pa_nil)) (pv 0) (nomark _)))
      (fun _ _ _ _ _ _ => pv 0))
    (pss_one (ps_ret (pe_tup (pa_cons (pv 1) (pa_cons (pe_comp (caps := [(0, "rows"), (1, "fold")]) rfl (show CompSc (defScope s_shrunk) ["rows", "fold", "firsts"] _ _ _ from ⟨rfl, rfl, by decide +kernel, by decide +kernel, by decide +kernel, by decide +kernel, by decide +kernel⟩) (pi_list (pv 2)) (fun _ _ _ _ _ _ => pifs_nil)
      (fun _ _ _ _ _ _ => pe_tup (pa_cons (pe_ix (r := rIxT K) ix_tup (pe_ix (r := rIxL K) ix_list (pv 1) (pv 0) (fun _ _ => rfl)) pe_int (fun _ _ => rfl)) (pa_cons (pe_call G_folded_moves hr rfl m_folded_moves k_folded_moves b_folded_moves .nil pass0 (pa_cons (pe_ix (r := rIxL K) ix_list (pv 1) (pv 0) (fun _ _ => rfl)) (pa_cons (pv 2) pa_nil))) pa_nil)))) pa_nil))))))), ?_⟩
  refine ⟨_, rfl, pt, rv, rows, m, e, rfl, hpt, hA, T, m200, e8, fun pf H1 fold s1 npf h1f AK => ?_⟩
  have lf := AK.len
  refine ⟨_, rfl, pf, rfl, ⟨_, SqL.of h1f⟩, ?_⟩
  refine comp2_enumL (K := K) (a := pf) (xs := natsV fold) (fun i acc H' => ∃ fs : List Nat, Same H H' ∧ H' pf = some (.lst (natsV fold)) ∧ acc = natsV fs ∧ fs.length ≤ i ∧ Frs fold fs i) ⟨[], s1, h1f, rfl, Nat.le_refl _, Frs.init⟩ (fun i acc H' ⟨_, _, z, _⟩ => SqL.of z) ?_ ?_
  · rintro i x acc H' t hx ⟨fs, s2, h2f, rfl, lfs, FR⟩ ht
    obtain ⟨hi, rfl⟩ := nv_get hx
    have u3 := same_new ht (.tup [.int (i : Int), .int ((fold[i] : Nat) : Int)])
    have h3f := u3 _ _ h2f
    generalize upd H' t (.tup [.int (i : Int), .int ((fold[i] : Nat) : Int)]) = H3 at u3 h3f ⊢
    have s3 := s2.trans u3
    obtain ⟨j, hj, ej, hmin⟩ := first_at fold fold[i] i hi (fAt_get hi)
    have hji : j ≤ i := Nat.le_of_not_lt fun z => hmin i hi z rfl
    refine ⟨_, rfl, .inl ⟨rfl, _, SqL.of h3f⟩, _, rfl, pf, fold, _, j, rfl, rfl, h3f, ⟨hj, by rw [ej]⟩, (fun k hk lt z => hmin k hk lt (by omega)), by omega, _, rfl, rfl, _, rfl, itB (fun c => ?_) (fun c => ?_)⟩
    · have e1 : j = i := by
        have := of_decide_eq_true c
        injection this with this
        omega
      subst e1
      have nf : ∀ k : Nat, k < j → fAt fold k ≠ fAt fold j := fun k hk z => by
        rw [fAt_get (by omega), fAt_get hi] at z
        exact hmin k (by omega) hk z
      refine ⟨_, rfl, by rw [natsV_len, sizeLine_eq]; omega, fs ++ [j], s3, h3f, ?_, by rw [List.length_append, List.length_singleton]; omega, FR.new AK (by omega) nf⟩
      unfold natsV
      rw [List.map_append]
      rfl
    · have e1 : j ≠ i := fun z => by
        rw [z, decide_eq_true rfl] at c
        cases c
      exact ⟨fs, s3, h3f, rfl, by omega, FR.old (j := j) (by omega) (by rw [fAt_get hj, fAt_get hi, ej])⟩
  rintro acc H2 ⟨fs, s2, h2f, rfl, lfs, FR⟩ pz hpz
  rw [natsV_len, lf] at FR
  have lfs2 : fs.length ≤ m := by
    rw [natsV_len, lf] at lfs
    exact lfs
  have u3 := same_new hpz (.lst (natsV fs))
  have h3z : upd H2 pz (.lst (natsV fs)) pz = some (.lst (natsV fs)) := upd_same
  generalize upd H2 pz (.lst (natsV fs)) = H3 at u3 h3z ⊢
  have s3 := s2.trans u3
  refine ⟨_, rfl, _, rfl, pz, rfl, ⟨_, SqL.of h3z⟩, ?_⟩
  refine comp_list (K := K) (a := pz) (xs := natsV fs) (fun i acc H' => Same H H' ∧ H' pf = some (.lst (natsV fold)) ∧ H' pz = some (.lst (natsV fs)) ∧ acc.length = i ∧ Al (RwIn H') acc ((fs.take i).map fun k => ((rowAt rows k).1, fmv rows fold k))) ⟨s3, u3 _ _ h2f, h3z, rfl, .nil⟩ (fun i acc H' z => SqL.of z.2.2.1) ?_ ?_
  · rintro i x acc H' hx ⟨s4, h4f, h4z, la, hB⟩
    obtain ⟨hi, rfl⟩ := nv_get hx
    have hlt := (FR.own i hi).1
    have hk := List.getElem?_eq_getElem hi
    generalize fs[i] = k at hlt hk
    obtain ⟨a, am, al, mv, hat, ha, hal, ham, hmv⟩ := row_in (hA.mono fun _ _ z => z.mono (KeepT.of s4)) T hlt
    have okr := (T.at hlt).2
    refine ⟨_, rfl, _, rfl, pt, _, _, _, rfl, rfl, SqL.of (s4 _ _ hpt), hat, a, _, _, _, rfl, rfl, SqT.of ha, rfl, _, rfl, _, rfl, pt, _, _, _, rfl, rfl, SqL.of (s4 _ _ hpt), hat, _, rfl, a, pf, al, am, mv, (rowAt rows k).2, fold, rfl, ha, ham, hmv, h4f, fun z hz => by rw [lf]; exact (okr.2.2 z hz).2, by rw [okr.2.1]; omega, fun p H5 mv' u5 hp5 hmv5 => ?_⟩
    refine ⟨small_le (by show 2 ≤ 1000; decide), fun pl hpl => ?_⟩
    have u6 := same_new hpl (.tup [V.ref al, V.ref p])
    have u56 := u5.trans u6
    refine ⟨by rw [sizeLine_eq]; rw [natsV_len] at *; omega, s4.trans u56, u56 _ _ h4f, u56 _ _ h4z, by rw [List.length_append, List.length_singleton, la], ?_⟩
    rw [List.take_add_one, hk, List.map_append]
    exact Al.snoc (hB.mono fun _ _ z => z.mono (KeepT.of u56)) ⟨pl, p, .ref al, mv', rfl, upd_same, ⟨al, rfl, u56 _ _ hal⟩, u6 _ _ hp5, hmv5.mono fun _ _ z => z.mono (KeepT.of u6)⟩
  · rintro acc H4 ⟨s4, h4f, h4z, la, hB⟩ ps hps
    rw [List.take_of_length_le (by rw [natsV_len]; exact Nat.le_refl _)] at hB
    have u5 := same_new hps (.lst acc)
    have h5s : upd H4 ps (.lst acc) ps = some (.lst acc) := upd_same
    generalize upd H4 ps (.lst acc) = H5 at u5 h5s ⊢
    refine ⟨small_le (by show 2 ≤ 1000; decide), fun pq hpq => ?_⟩
    have u6 := same_new hpq (.tup [V.ref pf, V.ref ps])
    exact q pq pf ps acc fold (smallOf rows fold fs) fs.length _ (s4.trans (u5.trans u6)) npf (s4.free hps) (ne_of_none h4f hps) upd_same (u6 _ _ (u5 _ _ h4f)) (u6 _ _ h5s) (hB.mono fun _ _ z => z.mono (KeepT.of (u5.trans u6))) (FR.shr T AK)
end
end Tb

namespace Tb
/-! the first way that parts, found breadth first over pairs: as mathematics -/
def lo (q : Nat × Nat) : Nat × Nat := (min q.1 q.2, max q.1 q.2)
def stp (rows : List Row) (q : Nat × Nat) (x : Nat) : Nat × Nat := lo ((mvAt rows q.1 x).2, (mvAt rows q.2 x).2)
def ldF (rows : List Row) (s : Nat × Nat) (p : List Nat) : Nat × Nat := p.foldl (stp rows) s
def ptd (rows : List Row) (q : Nat × Nat) (x : Nat) : Prop := (mvAt rows q.1 x).1 ≠ (mvAt rows q.2 x).1 ∨ (rowAt rows (mvAt rows q.1 x).2).1 ≠ (rowAt rows (mvAt rows q.2 x).2).1
def Sw (q r : Nat × Nat) : Prop := q = r ∨ q = (r.2, r.1)
theorem lo_sw (q : Nat × Nat) : Sw (lo q) q := by
  unfold Sw lo
  by_cases h : q.1 ≤ q.2
  · exact .inl (Prod.ext (Nat.min_eq_left h) (Nat.max_eq_right h))
  · exact .inr (Prod.ext (Nat.min_eq_right (by omega)) (Nat.max_eq_left (by omega)))
theorem lo_comm (x y : Nat) : lo (x, y) = lo (y, x) := Prod.ext (Nat.min_comm x y) (Nat.max_comm x y)
theorem ldF_snoc (rows : List Row) (s : Nat × Nat) (p : List Nat) (x : Nat) : ldF rows s (p ++ [x]) = stp rows (ldF rows s p) x := by
  unfold ldF
  rw [List.foldl_append]
  rfl
theorem snocRec {P : List Nat → Prop} (h0 : P []) (h1 : ∀ p x, P p → P (p ++ [x])) : ∀ p, P p := by
  have : ∀ (n : Nat) (p : List Nat), p.length = n → P p := by
    intro n
    induction n with
    | zero =>
      intro p hp
      rw [List.eq_nil_of_length_eq_zero hp]
      exact h0
    | succ n ih =>
      intro p hp
      rcases List.eq_nil_or_concat p with e0 | ⟨q, x, e0⟩
      · rw [e0]
        exact h0
      · rw [List.concat_eq_append] at e0
        subst e0
        exact h1 q x (ih q (by simp at hp; omega))
  exact fun p => this p.length p rfl
theorem stp_sw {rows : List Row} {q r : Nat × Nat} (h : Sw q r) (x : Nat) : stp rows q x = stp rows r x := by
  rcases h with h | h
  · rw [h]
  · rw [h]
    exact lo_comm _ _
theorem ptd_sw {rows : List Row} {q r : Nat × Nat} (h : Sw q r) (x : Nat) : ptd rows q x ↔ ptd rows r x := by
  rcases h with h | h
  · rw [h]
  · rw [h]
    unfold ptd
    constructor
    · rintro (z | z)
      · exact .inl fun y => z y.symm
      · exact .inr fun y => z y.symm
    · rintro (z | z)
      · exact .inl fun y => z y.symm
      · exact .inr fun y => z y.symm
theorem ld_sw (rows : List Row) (a b : Nat) : ∀ p : List Nat, Sw (ldF rows (a, b) p) (wk rows p a, wk rows p b) := by
  refine snocRec (.inl rfl) fun p x ih => ?_
  rw [ldF_snoc, wk_snoc, wk_snoc, stp_sw ih x]
  exact lo_sw _
theorem parts_snoc (rows : List Row) (a b : Nat) (p : List Nat) (x : Nat) : endOf rows a (p ++ [x]) ≠ endOf rows b (p ++ [x]) ↔ ptd rows (ldF rows (a, b) p) x := by
  rw [ptd_sw (ld_sw rows a b p) x, end_snoc, end_snoc]
  unfold ptd
  constructor
  · intro z
    by_cases h : (mvAt rows (wk rows p a) x).1 = (mvAt rows (wk rows p b) x).1
    · exact .inr fun y => z (Prod.ext y h)
    · exact .inl h
  · rintro (z | z) y
    · injection y with _ y
      exact z y
    · injection y with y _
      exact z y
structure Pb (rows : List Row) (m e a b : Nat) (pm : List ((Nat × Nat) × List Nat)) (i x : Nat) : Prop where
  head : pm[0]? = some ((a, b), [])
  nodup : (pm.map (·.1)).Nodup
  rng : ∀ kp ∈ pm, Lit rows m kp.1 ∧ ldF rows (a, b) kp.2 = kp.1 ∧ WayE e kp.2
  srt : pm.Pairwise fun a b => Wy.code a.2 < Wy.code b.2
  len : ∀ (j : Nat) (kp : (Nat × Nat) × List Nat), pm[j]? = some kp → kp.2.length ≤ j
  clo : ∀ (j : Nat) (kp : (Nat × Nat) × List Nat), pm[j]? = some kp → ∀ y, y < e → (j < i ∨ (j = i ∧ y < x)) → ¬ ptd rows kp.1 y ∧ ∃ p', (stp rows kp.1 y, p') ∈ pm ∧ Wy.code p' ≤ 8 * Wy.code kp.2 + (y + 1)
  bnd : ∀ c : (Nat × Nat) × List Nat, pm[i]? = some c → ∀ kp ∈ pm, Wy.code kp.2 ≤ 8 * Wy.code c.2 + x
section
variable {rows : List Row} {m e a b : Nat} {pm : List ((Nat × Nat) × List Nat)} {i x : Nat}
theorem Pb.init (ha : a < m) (hb : b < m) (h : (rowAt rows a).1 = (rowAt rows b).1) : Pb rows m e a b [((a, b), [])] 0 0 where
  head := rfl
  nodup := by simp
  rng := fun kp h' => by
    rw [List.mem_singleton.mp h']
    exact ⟨⟨ha, hb, h⟩, rfl, fun y hy => by cases hy⟩
  srt := List.pairwise_singleton _ _
  len := fun j kp h => by
    cases j with
    | zero =>
      cases h
      exact Nat.le_refl _
    | succ j => simp at h
  clo := fun j kp h y _ z => by omega
  bnd := fun c h kp hk => by
    rw [List.mem_singleton.mp hk]
    exact Nat.zero_le _
theorem Pb.size (B : Pb rows m e a b pm i x) : pm.length ≤ m * m := by
  have := few_pairs (m := m) (rows := rows) B.nodup fun k hk => by
    obtain ⟨kp, h, rfl⟩ := List.mem_map.mp hk
    exact (B.rng kp h).1
  rwa [List.length_map] at this
theorem Pb.hit (B : Pb rows m e a b pm i x) {c : (Nat × Nat) × List Nat} (hc : pm[i]? = some c) (hn : ¬ ptd rows c.1 x) (h : stp rows c.1 x ∈ pm.map (·.1)) : Pb rows m e a b pm i (x + 1) where
  head := B.head
  nodup := B.nodup
  rng := B.rng
  srt := B.srt
  len := B.len
  clo := fun j kp hj y hy z => by
    by_cases w : j = i ∧ y = x
    · obtain ⟨rfl, rfl⟩ := w
      rw [hc] at hj
      cases hj
      obtain ⟨⟨q, p⟩, hp, e0⟩ := List.mem_map.mp h
      have e0 : q = stp rows c.1 y := e0
      subst e0
      have := B.bnd c hc _ hp
      have this : Wy.code p ≤ 8 * Wy.code c.2 + y := this
      exact ⟨hn, p, hp, by omega⟩
    · exact B.clo j kp hj y hy (by omega)
  bnd := fun c hc kp hk => by
    have := B.bnd c hc kp hk
    omega
theorem Lit.step {q : Nat × Nat} (T : TbOk rows m e) (h : Lit rows m q) (hx : x < e) (hn : ¬ ptd rows q x) (mvlt : ∀ k, k < m → (mvAt rows k x).2 < m) : Lit rows m (stp rows q x) := by
  have hl : (rowAt rows (mvAt rows q.1 x).2).1 = (rowAt rows (mvAt rows q.2 x).2).1 := Classical.byContradiction fun z => hn (.inr z)
  have h1 := mvlt _ h.1
  have h2 := mvlt _ h.2.1
  rcases lo_sw ((mvAt rows q.1 x).2, (mvAt rows q.2 x).2) with z | z
  · unfold stp
    rw [z]
    exact ⟨h1, h2, hl⟩
  · unfold stp
    rw [z]
    exact ⟨h2, h1, hl.symm⟩
theorem mv_lt' {k : Nat} (T : TbOk rows m e) (hk : k < m) (hx : x < e) : (mvAt rows k x).2 < m := by
  have ok := (T.at hk).2
  have hl : x < (rowAt rows k).2.length := by rw [ok.2.1]; exact hx
  have e2 : mvAt rows k x = (rowAt rows k).2[x] := by
    unfold mvAt
    rw [List.getD_eq_getElem?_getD, List.getElem?_eq_getElem hl]
    rfl
  rw [e2]
  exact (ok.2.2 _ (List.getElem_mem hl)).2
theorem Pb.new (B : Pb rows m e a b pm i x) {c : (Nat × Nat) × List Nat} (hc : pm[i]? = some c) (hx : x < e) (hn : ¬ ptd rows c.1 x) (hl : Lit rows m (stp rows c.1 x)) (h : stp rows c.1 x ∉ pm.map (·.1)) : Pb rows m e a b (pm ++ [(stp rows c.1 x, c.2 ++ [x])]) i (x + 1) where
  head := by
    rw [List.getElem?_append_left (List.getElem?_eq_some_iff.mp B.head).1]
    exact B.head
  nodup := by
    rw [List.map_append]
    refine List.nodup_append.mpr ⟨B.nodup, by simp, fun a ha b hb => ?_⟩
    rw [List.map_cons, List.map_nil, List.mem_singleton] at hb
    subst hb
    intro z
    subst z
    exact h ha
  rng := fun kp hk => by
    rcases List.mem_append.mp hk with hk | hk
    · exact B.rng kp hk
    · rw [List.mem_singleton.mp hk]
      have hm := List.mem_of_getElem? hc
      obtain ⟨h1, h2, h3⟩ := B.rng c hm
      refine ⟨hl, ?_, wayE_snoc.mpr ⟨h3, hx⟩⟩
      rw [ldF_snoc, h2]
  srt := by
    refine List.pairwise_append.mpr ⟨B.srt, List.pairwise_singleton _ _, fun a ha b hb => ?_⟩
    rw [List.mem_singleton.mp hb]
    have := B.bnd c hc a ha
    show Wy.code a.2 < Wy.code (c.2 ++ [x])
    rw [Wy.code_snoc]
    omega
  len := fun j kp hj => by
    by_cases w : j < pm.length
    · rw [List.getElem?_append_left w] at hj
      exact B.len j kp hj
    · have hi := (List.getElem?_eq_some_iff.mp hc).1
      have l1 := B.len i c hc
      rw [List.getElem?_append_right (by omega)] at hj
      have hj' := (List.getElem?_eq_some_iff.mp hj).1
      have ej : j - pm.length = 0 := by simpa using hj'
      rw [ej] at hj
      cases hj
      show (c.2 ++ [x]).length ≤ j
      rw [List.length_append, List.length_singleton]
      omega
  clo := fun j kp hj y hy z => by
    have hi := (List.getElem?_eq_some_iff.mp hc).1
    have hj2 : j < pm.length := by omega
    rw [List.getElem?_append_left hj2] at hj
    by_cases w : j = i ∧ y = x
    · obtain ⟨rfl, rfl⟩ := w
      rw [hc] at hj
      cases hj
      exact ⟨hn, c.2 ++ [y], List.mem_append_right _ (List.mem_singleton.mpr rfl), by rw [Wy.code_snoc]; exact Nat.le_refl _⟩
    · obtain ⟨h0, p', h1, h2⟩ := B.clo j kp hj y hy (by omega)
      exact ⟨h0, p', List.mem_append_left _ h1, h2⟩
  bnd := fun c' hc' kp hk => by
    have hi := (List.getElem?_eq_some_iff.mp hc).1
    rw [List.getElem?_append_left hi, hc] at hc'
    cases hc'
    rcases List.mem_append.mp hk with hk | hk
    · have := B.bnd c hc kp hk
      omega
    · rw [List.mem_singleton.mp hk]
      show Wy.code (c.2 ++ [x]) ≤ _
      rw [Wy.code_snoc]
      omega
theorem Pb.next (B : Pb rows m e a b pm i e) (he : e ≤ 8) {c : (Nat × Nat) × List Nat} (hc : pm[i]? = some c) : Pb rows m e a b pm (i + 1) 0 where
  head := B.head
  nodup := B.nodup
  rng := B.rng
  srt := B.srt
  len := B.len
  clo := fun j kp hj y hy z => B.clo j kp hj y hy (by omega)
  bnd := fun c' hc' kp hk => by
    have h1 := B.bnd c hc kp hk
    obtain ⟨hi, e1⟩ := List.getElem?_eq_some_iff.mp hc
    obtain ⟨hi', e2⟩ := List.getElem?_eq_some_iff.mp hc'
    have h2 := List.pairwise_iff_getElem.mp B.srt i (i + 1) hi hi' (Nat.lt_succ_self _)
    rw [e1, e2] at h2
    omega
theorem Pb.step (B : Pb rows m e a b pm i x) (hx : x ≤ 8) {q : Nat × Nat} {p : List Nat} {y c : Nat} (h : (q, p) ∈ pm) (hy : y < e) (hc : Wy.code p ≤ c) : (¬ ptd rows q y ∧ ∃ p', (stp rows q y, p') ∈ pm ∧ Wy.code p' ≤ 8 * c + (y + 1)) ∨ ∃ d, pm[i]? = some d ∧ 8 * Wy.code d.2 + x < 8 * c + (y + 1) := by
  obtain ⟨j, hj⟩ := List.getElem?_of_mem h
  by_cases w : j < i ∨ (j = i ∧ y < x)
  · obtain ⟨h0, p', h1, h2⟩ := B.clo j _ hj y hy w
    have h2 : Wy.code p' ≤ 8 * Wy.code p + (y + 1) := h2
    exact .inl ⟨h0, p', h1, by omega⟩
  · have hjl := (List.getElem?_eq_some_iff.mp hj).1
    have hi : i < pm.length := by omega
    have hd := List.getElem?_eq_getElem hi
    refine .inr ⟨_, hd, ?_⟩
    by_cases z : j = i
    · subst z
      rw [hj] at hd
      have hd := Option.some.inj hd
      rw [← hd]
      show 8 * Wy.code p + x < _
      omega
    · have h2 := List.pairwise_iff_getElem.mp B.srt i j hi hjl (by omega)
      rw [(List.getElem?_eq_some_iff.mp hj).2] at h2
      have h2 : Wy.code pm[i].2 < Wy.code p := h2
      omega
theorem Pb.reach (B : Pb rows m e a b pm i x) (hx : x ≤ 8) : ∀ r : List Nat, WayE e r → (∃ p', (ldF rows (a, b) r, p') ∈ pm ∧ Wy.code p' ≤ Wy.code r) ∨ ∃ d, pm[i]? = some d ∧ 8 * Wy.code d.2 + x < Wy.code r := by
  refine snocRec (fun _ => .inl ⟨[], List.mem_of_getElem? B.head, Nat.le_refl _⟩) fun r y ih hr => ?_
  obtain ⟨h1, h2⟩ := wayE_snoc.mp hr
  rw [ldF_snoc, Wy.code_snoc]
  rcases ih h1 with ⟨p', h3, h4⟩ | ⟨d, h3, h4⟩
  · rcases B.step hx h3 h2 h4 with ⟨_, z⟩ | z
    · exact .inl z
    · exact .inr z
  · exact .inr ⟨d, h3, by omega⟩
theorem Pb.few (B : Pb rows m e a b pm i x) (hx : x ≤ 8) (lit : (rowAt rows a).1 = (rowAt rows b).1) (p : List Nat) (hp : WayE e p) (hn : endOf rows a p ≠ endOf rows b p) : ∃ d, pm[i]? = some d ∧ 8 * Wy.code d.2 + x < Wy.code p := by
  rcases List.eq_nil_or_concat p with e0 | ⟨r, y, e0⟩
  · subst e0
    rw [end_nil, end_nil, lit] at hn
    exact absurd rfl hn
  · rw [List.concat_eq_append] at e0
    subst e0
    obtain ⟨h1, h2⟩ := wayE_snoc.mp hp
    rw [parts_snoc] at hn
    rw [Wy.code_snoc]
    rcases B.reach hx r h1 with ⟨p', h3, h4⟩ | ⟨d, h3, h4⟩
    · rcases B.step hx h3 h2 h4 with ⟨z, _⟩ | z
      · exact absurd hn z
      · exact z
    · exact ⟨d, h3, by omega⟩
theorem Pb.first (B : Pb rows m e a b pm i x) (e8 : e ≤ 8) (lit : (rowAt rows a).1 = (rowAt rows b).1) {c : (Nat × Nat) × List Nat} (hc : pm[i]? = some c) (hx : x < e) (h : ptd rows c.1 x) : PartOk rows e a b (some (c.2 ++ [x])) := by
  obtain ⟨h1, h2, h3⟩ := B.rng c (List.mem_of_getElem? hc)
  refine ⟨wayE_snoc.mpr ⟨h3, hx⟩, (parts_snoc rows a b c.2 x).mpr (by rw [h2]; exact h), fun p' hp' hn => ?_⟩
  obtain ⟨d, hd, lt⟩ := B.few (by omega) lit p' hp' hn
  rw [hc] at hd
  have hd := Option.some.inj hd
  rw [Wy.code_snoc, hd]
  omega
theorem Pb.done (B : Pb rows m e a b pm i 0) (lit : (rowAt rows a).1 = (rowAt rows b).1) (hi : pm.length ≤ i) : PartOk rows e a b none := fun p hp => by
  refine Classical.byContradiction fun hn => ?_
  obtain ⟨d, hd, _⟩ := B.few (by omega) lit p hp hn
  have := (List.getElem?_eq_some_iff.mp hd).1
  omega
end
end Tb

namespace Tb
open PySem L2 Mix Gds
/-! pairs of rows as keys -/
def kp (q : Nat × Nat) : List Key := [Sum.inl (q.1 : Int), Sum.inl (q.2 : Int)]
theorem kp_inj {q r : Nat × Nat} (h : kp q = kp r) : q = r := by
  unfold kp at h
  injection h with h1 h2
  injection h2 with h2 _
  injection h1 with h1
  injection h2 with h2
  exact Prod.ext (by omega) (by omega)
def PrIn (H : Hp) (v : V) (q : Nat × Nat) : Prop := ∃ a : Addr, v = .ref a ∧ H a = some (.tup [.int (q.1 : Int), .int (q.2 : Int)])
theorem PrIn.mono {H H' : Hp} {v : V} {q : Nat × Nat} (x : PrIn H v q) (k : KeepT H H') : PrIn H' v q := by
  obtain ⟨a, e, h⟩ := x
  exact ⟨a, e, k _ _ h⟩
theorem KeepT.dt {H : Hp} {p : Addr} {xs : List (List Key × V)} (h : H p = some (.dT xs)) (o : HO) : KeepT H (upd H p o) := fun b ys e => by
  rw [upd_ne]
  · exact e
  · intro z
    rw [z, h] at e
    cases e
end Tb

namespace Tb
open PySem L2 Mix Gds
/-! the program's parting -/
def spIsParted : Sp := fun vs H Q _ => ∃ (pt pp : Addr) (rv : List V) (rows : List Row) (m e : Nat) (q : Nat × Nat) (x : Nat) (ix : Int), vs = [.ref pt, .ref pp, .int ix] ∧ ix = (x : Int) ∧ H pt = some (.lst rv) ∧ Al (RwIn H) rv rows ∧ TbOk rows m e ∧ H pp = some (.tup [.int (q.1 : Int), .int (q.2 : Int)]) ∧ q.1 < m ∧ q.2 < m ∧ x < e ∧ ∀ c : Bool, (c = true ↔ ptd rows q x) → Q (.bl c) H
def spBehind : Sp := fun vs H Q _ => ∃ (pt pp : Addr) (rv : List V) (rows : List Row) (m e : Nat) (q : Nat × Nat) (x : Nat) (ix : Int), vs = [.ref pt, .ref pp, .int ix] ∧ ix = (x : Int) ∧ H pt = some (.lst rv) ∧ Al (RwIn H) rv rows ∧ TbOk rows m e ∧ H pp = some (.tup [.int (q.1 : Int), .int (q.2 : Int)]) ∧ q.1 < m ∧ q.2 < m ∧ x < e ∧ ∀ (p : Addr) (H' : Hp), Same H H' → H' p = some (.tup [.int ((stp rows q x).1 : Int), .int ((stp rows q x).2 : Int)]) → Q (.ref p) H'
abbrev Pmt := List ((Nat × Nat) × List Nat)
def OrIn (H : Hp) (pm : Pmt) (v : V) (p : List Nat) : Prop := (p = [] ∧ v = .non) ∨ ∃ (p' : List Nat) (y : Nat) (q' : Nat × Nat) (ao aq : Addr), p = p' ++ [y] ∧ v = .ref ao ∧ H ao = some (.tup [.ref aq, .int (y : Int)]) ∧ H aq = some (.tup [.int (q'.1 : Int), .int (q'.2 : Int)]) ∧ (q', p') ∈ pm
theorem OrIn.mono {H H' : Hp} {pm pm' : Pmt} {v : V} {p : List Nat} (x : OrIn H pm v p) (k : KeepT H H') (s : ∀ z ∈ pm, z ∈ pm') : OrIn H' pm' v p := by
  rcases x with x | ⟨p', y, q', ao, aq, h1, h2, h3, h4, h5⟩
  · exact .inl x
  · exact .inr ⟨p', y, q', ao, aq, h1, h2, k _ _ h3, k _ _ h4, s _ h5⟩
inductive OrD (H : Hp) (pm0 : Pmt) : List (List Key × V) → Pmt → Prop where
  | nil : OrD H pm0 [] []
  | cons {q : Nat × Nat} {p : List Nat} {v : V} {kvs : List (List Key × V)} {pm : Pmt} : OrIn H pm0 v p → OrD H pm0 kvs pm → OrD H pm0 ((kp q, v) :: kvs) ((q, p) :: pm)
theorem OrD.mono {H H' : Hp} {pm0 pm0' : Pmt} {kvs : List (List Key × V)} {pm : Pmt} (x : OrD H pm0 kvs pm) (k : KeepT H H') (s : ∀ z ∈ pm0, z ∈ pm0') : OrD H' pm0' kvs pm := by
  induction x with
  | nil => exact .nil
  | cons h _ ih => exact .cons (h.mono k s) ih
theorem OrD.length {H : Hp} {pm0 : Pmt} {kvs : List (List Key × V)} {pm : Pmt} (x : OrD H pm0 kvs pm) : kvs.length = pm.length := by
  induction x with
  | nil => rfl
  | cons _ _ ih => rw [List.length_cons, List.length_cons, ih]
theorem OrD.snoc {H : Hp} {pm0 : Pmt} {kvs : List (List Key × V)} {pm : Pmt} {q : Nat × Nat} {p : List Nat} {v : V} (x : OrD H pm0 kvs pm) (h : OrIn H pm0 v p) : OrD H pm0 (kvs ++ [(kp q, v)]) (pm ++ [(q, p)]) := by
  induction x with
  | nil => exact .cons h .nil
  | cons h' _ ih => exact .cons h' ih
theorem OrD.none {H : Hp} {pm0 : Pmt} {kvs : List (List Key × V)} {pm : Pmt} (x : OrD H pm0 kvs pm) {q : Nat × Nat} (h : q ∉ pm.map (·.1)) : valV kvs (kp q) = none := by
  induction x with
  | nil => rfl
  | @cons q' p v kvs pm _ _ ih =>
    rw [List.map_cons, List.mem_cons] at h
    rw [valV_neg (fun z => h (.inl (kp_inj z).symm))]
    exact ih fun z => h (.inr z)
theorem OrD.get {H : Hp} {pm0 : Pmt} {kvs : List (List Key × V)} {pm : Pmt} (x : OrD H pm0 kvs pm) (nd : (pm.map (·.1)).Nodup) {q : Nat × Nat} {p : List Nat} (h : (q, p) ∈ pm) : ∃ v, valV kvs (kp q) = some v ∧ OrIn H pm0 v p := by
  induction x with
  | nil => cases h
  | @cons q' p' v kvs pm h' _ ih =>
    rw [List.map_cons, List.nodup_cons] at nd
    rcases List.mem_cons.mp h with z | z
    · cases z
      exact ⟨v, valV_pos rfl, h'⟩
    · obtain ⟨v', e, o⟩ := ih nd.2 z
      refine ⟨v', ?_, o⟩
      rw [valV_neg]
      · exact e
      · intro y
        have := kp_inj y
        subst this
        exact nd.1 (List.mem_map.mpr ⟨_, z, rfl⟩)
theorem OrD.some {H : Hp} {pm0 : Pmt} {kvs : List (List Key × V)} {pm : Pmt} (x : OrD H pm0 kvs pm) (nd : (pm.map (·.1)).Nodup) (q : Nat × Nat) : (valV kvs (kp q)).isSome = decide (q ∈ pm.map (·.1)) := by
  by_cases h : q ∈ pm.map (·.1)
  · obtain ⟨⟨q', p⟩, h1, rfl⟩ := List.mem_map.mp h
    obtain ⟨v, e, _⟩ := x.get nd h1
    rw [decide_eq_true h]
    show (valV kvs (kp q')).isSome = true
    rw [e]
    rfl
  · rw [x.none h, decide_eq_false h]
    rfl
def spWayTo : Sp := fun vs H Q _ => ∃ (pd pp : Addr) (kvs : List (List Key × V)) (pm : Pmt) (q : Nat × Nat) (p : List Nat), vs = [.ref pd, .ref pp] ∧ H pd = some (.dT kvs) ∧ OrD H pm kvs pm ∧ (pm.map (·.1)).Nodup ∧ H pp = some (.tup [.int (q.1 : Int), .int (q.2 : Int)]) ∧ (q, p) ∈ pm ∧ p.length < 90000 ∧ ∀ (pw : Addr) (H' : Hp), Same H H' → H' pw = some (.tup (natsV p)) → Q (.ref pw) H'
section
variable {P : Program} {w : World} {K : PySem.W.Frag} {mg : Str → Option Value} {base : Heap}
theorem sc_is_parted : FnScope ["rows", "pair", "event", "one", "other"] ["rows", "pair", "event"] (defScope s_is_parted) := ⟨rfl, rfl, rfl, by decide +kernel, rfl, by decide +kernel, by decide +kernel⟩
theorem ok_is_parted {f : Addr} {fd : FuncData} (F : Fun K "is_parted" "is_parted" s_is_parted f fd) : FnOk P w K mg base CX0 1 f fd ["rows", "pair", "event"] spIsParted := by
  refine F.ok sc_is_parted (fun vs H Q E h => ?_) (fun cdv A outer s H vs Q E hr h => ?_)
  · obtain ⟨pt, pp, rv, rows, m, e, q, x, ix, rfl, _⟩ := h
    rfl
  obtain ⟨pt, pp, rv, rows, m, e, qq, x, ix, rfl, rfl, hpt, hA, T, hpp, l1, l2, hx, q⟩ := h
  refine ⟨_, (pss_cons (ps_set (i := 3) sc_is_parted.nd rfl (Or.inl rfl) (pe_ix ix_tup (pe_ix ix_tup (pe_ix ix_list (pv 0) (pe_ix ix_tup (pv 1) pe_int (fun _ _ => rfl)) (fun _ _ => rfl)) pe_int (fun _ _ => rfl)) (pv 2) (fun _ _ => rfl)))
    (pss_cons (ps_set (i := 4) sc_is_parted.nd rfl (Or.inl rfl) (pe_ix ix_tup (pe_ix ix_tup (pe_ix ix_list (pv 0) (pe_ix ix_tup (pv 1) pe_int (fun _ _ => rfl)) (fun _ _ => rfl)) pe_int (fun _ _ => rfl)) (pv 2) (fun _ _ => rfl)))
    (pss_one (ps_ret (pe_or (pe_cmpR (op_neW hr.units) (pe_ix ix_tup (pv 3) pe_int (fun _ _ => rfl)) (pe_ix ix_tup (pv 4) pe_int (fun _ _ => rfl)) (nomark _)) (pe_one (pe_cmpR (op_neW hr.units) (pe_ix ix_tup (pe_ix ix_list (pv 0) (pe_ix ix_tup (pv 3) pe_int (fun _ _ => rfl)) (fun _ _ => rfl)) pe_int (fun _ _ => rfl)) (pe_ix ix_tup (pe_ix ix_list (pv 0) (pe_ix ix_tup (pv 4) pe_int (fun _ _ => rfl)) (fun _ _ => rfl)) pe_int (fun _ _ => rfl)) (nomark _)))))))), ?_⟩
  obtain ⟨cr, cmv, cl, mvc, hatc, hcr, _, hcm, hmvc⟩ := row_in hA T l1
  obtain ⟨lc2, c2, cw, hatc2, hc2, hcw⟩ := mv_in T l1 hx hmvc
  obtain ⟨dr, dmv, dl, mvd, hatd, hdr, _, hdm, hmvd⟩ := row_in hA T l2
  obtain ⟨ld2, d2, dw, hatd2, hd2, hdw⟩ := mv_in T l2 hx hmvd
  obtain ⟨xr, xmv, xl, mvx, hatx, hxr, hxl, _, _⟩ := row_in hA T lc2
  obtain ⟨yr, ymv, yl, mvy, haty, hyr, hyl, _, _⟩ := row_in hA T ld2
  refine ⟨_, rfl, _, rfl, pp, _, _, _, rfl, rfl, SqT.of hpp, rfl, pt, _, _, _, rfl, rfl, SqL.of hpt, hatc, cr, _, _, _, rfl, rfl, SqT.of hcr, rfl, _, rfl, cmv, _, _, _, rfl, rfl, SqT.of hcm, hatc2, ?_⟩
  refine ⟨_, rfl, _, rfl, pp, _, _, _, rfl, rfl, SqT.of hpp, rfl, pt, _, _, _, rfl, rfl, SqL.of hpt, hatd, dr, _, _, _, rfl, rfl, SqT.of hdr, rfl, _, rfl, dmv, _, _, _, rfl, rfl, SqT.of hdm, hatd2, ?_⟩
  refine ⟨_, rfl, c2, _, _, _, rfl, rfl, SqT.of hc2, rfl, _, rfl, d2, _, _, _, rfl, rfl, SqT.of hd2, rfl, cw, dw, _, _, rfl, rfl, SqT.of hcw, SqT.of hdw, _, rfl, itB (fun c => ?_) (fun c => ?_)⟩
  · refine q true ⟨fun _ => .inl fun z => ?_, fun _ => rfl⟩
    rw [decide_eq_true z] at c
    cases c
  · have we : (mvAt rows qq.1 x).1 = (mvAt rows qq.2 x).1 := by
      by_cases z : (mvAt rows qq.1 x).1 = (mvAt rows qq.2 x).1
      · exact z
      · rw [decide_eq_false z] at c
        cases c
    refine ⟨_, rfl, _, rfl, c2, _, _, _, rfl, rfl, SqT.of hc2, rfl, pt, _, _, _, rfl, rfl, SqL.of hpt, hatx, xr, _, _, _, rfl, rfl, SqT.of hxr, rfl, _, rfl, _, rfl, d2, _, _, _, rfl, rfl, SqT.of hd2, rfl, pt, _, _, _, rfl, rfl, SqL.of hpt, haty, yr, _, _, _, rfl, rfl, SqT.of hyr, rfl, xl, yl, _, _, rfl, rfl, SqT.of hxl, SqT.of hyl, q _ ⟨fun z => .inr fun y => ?_, fun z => ?_⟩⟩
    · rw [decide_eq_true y] at z
      cases z
    · rcases z with z | z
      · exact absurd we z
      · rw [decide_eq_false z]
        rfl
theorem sc_pair_behind : FnScope ["rows", "pair", "event", "one", "other"] ["rows", "pair", "event"] (defScope s_pair_behind) := ⟨rfl, rfl, rfl, by decide +kernel, rfl, by decide +kernel, by decide +kernel⟩
theorem ok_pair_behind {f : Addr} {fd : FuncData} (F : Fun K "pair_behind" "pair_behind" s_pair_behind f fd) (m_min : mg "min" = none) (m_max : mg "max" = none) : FnOk P w K mg base CX0 1 f fd ["rows", "pair", "event"] spBehind := by
  refine F.ok sc_pair_behind (fun vs H Q E h => ?_) (fun cdv A outer s H vs Q E hr h => ?_)
  · obtain ⟨pt, pp, rv, rows, m, e, q, x, ix, rfl, _⟩ := h
    rfl
  obtain ⟨pt, pp, rv, rows, m, e, qq, x, ix, rfl, rfl, hpt, hA, T, hpp, l1, l2, hx, q⟩ := h
  refine ⟨_, (pss_cons (ps_set (i := 3) sc_pair_behind.nd rfl (Or.inl rfl) (pe_ix ix_tup (pe_ix ix_tup (pe_ix ix_tup (pe_ix ix_list (pv 0) (pe_ix ix_tup (pv 1) pe_int (fun _ _ => rfl)) (fun _ _ => rfl)) pe_int (fun _ _ => rfl)) (pv 2) (fun _ _ => rfl)) pe_int (fun _ _ => rfl)))
    (pss_cons (ps_set (i := 4) sc_pair_behind.nd rfl (Or.inl rfl) (pe_ix ix_tup (pe_ix ix_tup (pe_ix ix_tup (pe_ix ix_list (pv 0) (pe_ix ix_tup (pv 1) pe_int (fun _ _ => rfl)) (fun _ _ => rfl)) pe_int (fun _ _ => rfl)) (pv 2) (fun _ _ => rfl)) pe_int (fun _ _ => rfl)))
    (pss_one (ps_ret (pe_tup (pa_cons (pe_callB (call_min2 rfl) rfl m_min PyProof.Rows.boot_min (pa_cons (pv 3) (pa_cons (pv 4) pa_nil))) (pa_cons (pe_callB (call_max2 rfl) rfl m_max PyProof.Rows.boot_max (pa_cons (pv 3) (pa_cons (pv 4) pa_nil))) pa_nil))))))), ?_⟩
  obtain ⟨cr, cmv, cl, mvc, hatc, hcr, _, hcm, hmvc⟩ := row_in hA T l1
  obtain ⟨lc2, c2, cw, hatc2, hc2, hcw⟩ := mv_in T l1 hx hmvc
  obtain ⟨dr, dmv, dl, mvd, hatd, hdr, _, hdm, hmvd⟩ := row_in hA T l2
  obtain ⟨ld2, d2, dw, hatd2, hd2, hdw⟩ := mv_in T l2 hx hmvd
  refine ⟨_, rfl, _, rfl, pp, _, _, _, rfl, rfl, SqT.of hpp, rfl, pt, _, _, _, rfl, rfl, SqL.of hpt, hatc, cr, _, _, _, rfl, rfl, SqT.of hcr, rfl, _, rfl, cmv, _, _, _, rfl, rfl, SqT.of hcm, hatc2, c2, _, _, _, rfl, rfl, SqT.of hc2, rfl, ?_⟩
  refine ⟨_, rfl, _, rfl, pp, _, _, _, rfl, rfl, SqT.of hpp, rfl, pt, _, _, _, rfl, rfl, SqL.of hpt, hatd, dr, _, _, _, rfl, rfl, SqT.of hdr, rfl, _, rfl, dmv, _, _, _, rfl, rfl, SqT.of hdm, hatd2, d2, _, _, _, rfl, rfl, SqT.of hd2, rfl, ?_⟩
  refine ⟨_, rfl, _, rfl, _, _, rfl, _, rfl, _, rfl, _, _, rfl, small_le (by show 2 ≤ 1000; decide), fun p hp => q p _ (same_new hp _) ?_⟩
  rw [upd_same]
  have e1 : (if ((mvAt rows qq.2 x).2 : Int) < ((mvAt rows qq.1 x).2 : Int) then ((mvAt rows qq.2 x).2 : Int) else ((mvAt rows qq.1 x).2 : Int)) = ((stp rows qq x).1 : Int) := by
    show _ = ((min (mvAt rows qq.1 x).2 (mvAt rows qq.2 x).2 : Nat) : Int)
    split <;> omega
  have e2 : (if ((mvAt rows qq.2 x).2 : Int) > ((mvAt rows qq.1 x).2 : Int) then ((mvAt rows qq.2 x).2 : Int) else ((mvAt rows qq.1 x).2 : Int)) = ((stp rows qq x).2 : Int) := by
    show _ = ((max (mvAt rows qq.1 x).2 (mvAt rows qq.2 x).2 : Nat) : Int)
    split <;> omega
  rw [← e1, ← e2]
theorem sc_way_to : FnScope ["origins", "pair", "events", "origin"] ["origins", "pair"] (defScope s_way_to) := ⟨rfl, rfl, rfl, by decide +kernel, rfl, by decide +kernel, by decide +kernel⟩
theorem ok_way_to {f : Addr} {fd : FuncData} (F : Fun K "way_to" "way_to" s_way_to f fd) (m_tuple : mg "tuple" = none) (m_reversed : mg "reversed" = none) : FnOk P w K mg base CX0 1 f fd ["origins", "pair"] spWayTo := by
  refine F.ok sc_way_to (fun vs H Q E h => ?_) (fun cdv A outer s H vs Q E hr h => ?_)
  · obtain ⟨pd, pp, kvs, pm, q, p, rfl, _⟩ := h
    rfl
  obtain ⟨pd, pp, kvs, pm, qq, p, rfl, hpd, hD, nd, hpp, hin, lp, q⟩ := h
  have hu := Nat.lt_of_le_of_lt (Nat.add_le_add_left (show 1 ≤ 64 by decide) _) hr.units
  refine ⟨_, (pss_cons (ps_set (i := 2) sc_way_to.nd rfl (Or.inl rfl) (pe_lst pa_nil))
    (pss_cons (ps_set (i := 3) sc_way_to.nd rfl (Or.inl rfl) (pe_dget hu (pv 0) (pv 1) (fun _ _ => rfl)))
    (pss_cut (ps_while PassesOwn.never (pt_cmpR op_notN (pv 3) pe_non (nomark _))
      (pss_cons (ps_expr (pe_bm PySem.F.plainAttrs_list PySem.F.slot_list_append PySem.F.type_list_append mt_append (pv 2) (pa_cons (pe_ix ix_tup (pv 3) pe_int (fun _ _ => rfl)) pa_nil)))
      (pss_one (ps_set (i := 3) sc_way_to.nd rfl (Or.inl rfl) (pe_dget hu (pv 0) (pe_ix ix_tup (pv 3) pe_int (fun _ _ => rfl)) (fun _ _ => rfl))))))
    (pss_one (ps_ret (pe_tupleRev rfl rfl m_tuple rfl m_reversed (pa_cons (pv 2) pa_nil))))))), ?_⟩
  refine ⟨Nat.zero_le _, fun pe hpe => ?_⟩
  have u1 := same_new hpe (.lst [])
  have h1e : upd H pe (.lst []) pe = some (.lst (natsV [])) := upd_same
  generalize upd H pe (.lst []) = H1 at u1 h1e ⊢
  have hpd1 := u1 _ _ hpd
  have hD1 := hD.mono (KeepT.of u1) (fun _ h => h)
  obtain ⟨v0, e0, o0⟩ := hD1.get nd hin
  have g0 := DGet.t (k := kp qq) hpd1 (u1 _ _ hpp)
  rw [e0] at g0
  refine ⟨_, rfl, _, rfl, pd, v0, rfl, g0, ?_⟩
  refine ⟨fun σ' H' => Same H H' ∧ (∃ evs : List Nat, H' pe = some (.lst (natsV evs)) ∧ p = evs.reverse) ∧ ∃ o3 : Option V, σ' = [some (.ref pd), some (.ref pp), some (.ref pe), o3], ?_, ?_⟩
  · refine ⟨fun k σ' H' => ∃ (evs p' : List Nat) (v : V), k = p'.length ∧ Same H H' ∧ KeepT H1 H' ∧ H' pe = some (.lst (natsV evs)) ∧ p = p' ++ evs.reverse ∧ OrIn H' pm v p' ∧ σ' = [some (.ref pd), some (.ref pp), some (.ref pe), some v], ⟨_, [], p, v0, rfl, u1, KeepT.refl _, h1e, by simp, o0, rfl⟩, ?_⟩
    rintro k σ' H2 ⟨evs, p', v, rfl, s2, k2, h2e, ep, o2, rfl⟩
    rcases o2 with ⟨rfl, rfl⟩ | ⟨p1, y, q1, ao, aq, rfl, rfl, hao, haq, h5⟩
    · exact ⟨_, rfl, rfl, _, rfl, ifF rfl ⟨s2, ⟨evs, h2e, by rw [ep, List.nil_append]⟩, _, rfl⟩⟩
    · have l2 : evs.length < 90000 := by
        rw [ep] at lp
        simp at lp
        omega
      have kl := KeepT.lst h2e (.lst (natsV evs ++ [.int (y : Int)]))
      have s3 := same_upd hpe s2 (.lst (natsV evs ++ [.int (y : Int)]))
      have h3e : upd H2 pe (.lst (natsV evs ++ [.int (y : Int)])) pe = some (.lst (natsV (evs ++ [y]))) := by
        rw [upd_same]
        unfold natsV
        rw [List.map_append]
        rfl
      refine ⟨_, rfl, rfl, _, rfl, ifT rfl ⟨fun σ' H' => ∃ (evs : List Nat) (v : V), Same H H' ∧ KeepT H1 H' ∧ H' pe = some (.lst (natsV evs)) ∧ p = p1 ++ evs.reverse ∧ OrIn H' pm v p1 ∧ σ' = [some (.ref pd), some (.ref pp), some (.ref pe), some v], ?_, ?_⟩⟩
      · rintro σ' H' ⟨evs, v, z1, z2, z3, z4, z5, z6⟩
        exact ⟨p1.length, by simp, evs, p1, v, rfl, z1, z2, z3, z4, z5, z6⟩
      refine ⟨_, rfl, .inl ⟨rfl, _, SqL.of h2e⟩, _, rfl, ao, _, _, _, rfl, rfl, SqT.of hao, rfl, pe, _, _, rfl, rfl, h2e, (by rw [sizeLine_eq, natsV_len]; omega), ?_⟩
      generalize upd H2 pe (.lst (natsV evs ++ [.int (y : Int)])) = H3 at kl s3 h3e ⊢
      have hD3 := hD.mono (KeepT.of s3) (fun _ h => h)
      obtain ⟨v3, e3, o3⟩ := hD3.get nd h5
      have g3 := DGet.t (k := kp q1) (s3 _ _ hpd) (kl _ _ haq)
      rw [e3] at g3
      refine ⟨_, rfl, _, rfl, ao, _, _, _, rfl, rfl, SqT.of (kl _ _ hao), rfl, pd, v3, rfl, g3, ?_⟩
      refine ⟨evs ++ [y], v3, s3, k2.trans kl, h3e, ?_, o3, rfl⟩
      rw [ep, List.reverse_append, List.append_assoc]
      rfl
  rintro σ' H2 ⟨s2, ⟨evs, h2e, ep⟩, o3, rfl⟩
  refine ⟨_, rfl, pe, _, rfl, SqL.of h2e, fun pq hpq => q pq _ (s2.trans (same_new hpq _)) ?_⟩
  rw [upd_same, ep]
  unfold natsV
  rw [List.map_reverse]
end
end Tb

namespace Tb
open PySem L2 Mix Gds
/-! the program's parting, whole -/
section
variable {P : Program} {w : World} {K : PySem.W.Frag} {mg : Str → Option Value} {base : Heap}
theorem putK_newT {kvs : List (List Key × V)} {k : List Key} (v : V) (h : valV kvs k = none) : putK kvs k v = kvs ++ [(k, v)] := by
  exact putK_new _ h
theorem sc_parting : FnScope ["rows", "one", "other", "found", "origins", "place", "pair", "event", "behind"] ["rows", "one", "other"] (defScope s_parting) := ⟨rfl, rfl, rfl, by decide +kernel, rfl, by decide +kernel, by decide +kernel⟩
theorem ok_parting {n0 : Nat} {f g1 g2 g3 : Addr} {fd dg1 dg2 dg3 : FuncData} (F : Fun K "parting" "parting" s_parting f fd)
    (G_is_parted : FnOk P w K mg base CX0 n0 g1 dg1 ["rows", "pair", "event"] spIsParted) (b_is_parted : Binds K dg1 ["rows", "pair", "event"] []) (k_is_parted : PySem.W.keepIn K (.ref g1) = true) (m_is_parted : mg "is_parted" = some (.ref g1))
    (G_pair_behind : FnOk P w K mg base CX0 n0 g2 dg2 ["rows", "pair", "event"] spBehind) (b_pair_behind : Binds K dg2 ["rows", "pair", "event"] []) (k_pair_behind : PySem.W.keepIn K (.ref g2) = true) (m_pair_behind : mg "pair_behind" = some (.ref g2))
    (G_way_to : FnOk P w K mg base CX0 n0 g3 dg3 ["origins", "pair"] spWayTo) (b_way_to : Binds K dg3 ["origins", "pair"] []) (k_way_to : PySem.W.keepIn K (.ref g3) = true) (m_way_to : mg "way_to" = some (.ref g3))
    (m_len : mg "len" = none) (m_range : mg "range" = none) : FnOk P w K mg base CX0 (n0 + 1) f fd ["rows", "one", "other"] spParting := by
  refine F.ok sc_parting (fun vs H Q E h => ?_) (fun cdv A outer s H vs Q E hr h => ?_)
  · obtain ⟨pt, rv, rows, m, e, a, b, ia, ib, rfl, _⟩ := h
    rfl
  obtain ⟨pt, rv, rows, m, e, a, b, ia, ib, rfl, rfl, rfl, hpt, hA, T, m200, e8, la, lb, q⟩ := h
  have hu := Nat.lt_of_le_of_lt (Nat.add_le_add_left (show 1 ≤ 64 by decide) _) hr.units
  refine ⟨_, (pss_cons (ps_if (pt_cmpR (op_neW hr.units) (pe_ix ix_tup (pe_ix ix_list (pv 0) (pv 1) (fun _ _ => rfl)) pe_int (fun _ _ => rfl)) (pe_ix ix_tup (pe_ix ix_list (pv 0) (pv 2) (fun _ _ => rfl)) pe_int (fun _ _ => rfl)) (nomark _))
      (pss_one (ps_ret (pe_tup pa_nil)))
      pss_nil)
    (pss_cons (ps_set (i := 3) sc_parting.nd rfl (Or.inl rfl) (pe_lst (pa_cons (pe_tup (pa_cons (pv 1) (pa_cons (pv 2) pa_nil))) pa_nil)))
    (pss_cons (ps_set (i := 4) sc_parting.nd rfl (Or.inl rfl) (pe_dispT hu (pe_tup (pa_cons (pv 1) (pa_cons (pv 2) pa_nil))) pe_non))
    (pss_cons (ps_set (i := 5) sc_parting.nd rfl (Or.inl rfl) pe_int)
    (pss_cut (ps_while PassesOwn.never (pt_cmpR op_lt (pv 5) (pe_callB call_len_seq rfl m_len PySem.boot_len (pa_cons (pv 3) pa_nil)) (nomark _))
      (pss_cons (ps_set (i := 6) sc_parting.nd rfl (Or.inl rfl) (pe_ix ix_list (pv 3) (pv 5) (fun _ _ => rfl)))
      (pss_cut (ps_for PassesOwn.never rfl (pi_range1 rfl m_range (pa_cons (pe_callB call_len_seq rfl m_len PySem.boot_len (pa_cons (pe_ix ix_tup (pe_ix ix_list (pv 0) (pv 1) (fun _ _ => rfl)) pe_int (fun _ _ => rfl)) pa_nil)) pa_nil)) (pg_name (i := 7) sc_parting.nd rfl (Or.inl rfl))
        (pss_cons (ps_if (pt_val (pe_call G_is_parted hr rfl m_is_parted k_is_parted b_is_parted .nil pass0 (pa_cons (pv 0) (pa_cons (pv 6) (pa_cons (pv 7) pa_nil)))))
          (pss_one (ps_ret (pe_op (OpR.or op_catT op_catT0) (pe_call G_way_to hr rfl m_way_to k_way_to b_way_to .nil pass0 (pa_cons (pv 4) (pa_cons (pv 6) pa_nil))) (pe_tup (pa_cons (pv 7) pa_nil)))))
          pss_nil)
        (pss_cons (ps_set (i := 8) sc_parting.nd rfl (Or.inl rfl) (pe_call G_pair_behind hr rfl m_pair_behind k_pair_behind b_pair_behind .nil pass0 (pa_cons (pv 0) (pa_cons (pv 6) (pa_cons (pv 7) pa_nil)))))
        (pss_one (ps_if (pt_cmp (pc_dnotin hu (pv 8) (pv 4)))
          (pss_cons (ps_dput hu (pv 4) (pv 8) (pe_tup (pa_cons (pv 6) (pa_cons (pv 7) pa_nil))) rfl)
          (pss_one (ps_expr (pe_bm PySem.F.plainAttrs_list PySem.F.slot_list_append PySem.F.type_list_append mt_append (pv 3) (pa_cons (pv 8) pa_nil)))))
          pss_nil)))))
      (pss_one (ps_aug (i := 5) sc_parting.nd rfl (Or.inl rfl) pe_int ip_add)))))
    (pss_one (ps_ret pe_non))))))), ?_⟩
  have mm : m * m ≤ 40000 := Nat.le_trans (Nat.mul_le_mul m200 m200) (by decide)
  obtain ⟨ar, amv, al, mva, hata, har, hal, ham, hmva⟩ := row_in hA T la
  obtain ⟨br, bmv, bl, mvb, hatb, hbr, hbl, hbm, hmvb⟩ := row_in hA T lb
  have lmva := hmva.length
  rw [(T.at la).2.2.1] at lmva
  refine ⟨_, rfl, _, rfl, pt, _, _, _, rfl, rfl, SqL.of hpt, hata, ar, _, _, _, rfl, rfl, SqT.of har, rfl, _, rfl, _, rfl, pt, _, _, _, rfl, rfl, SqL.of hpt, hatb, br, _, _, _, rfl, rfl, SqT.of hbr, rfl, al, bl, _, _, rfl, rfl, SqT.of hal, SqT.of hbl, _, rfl, itB (fun c => ?_) (fun c => ?_)⟩
  · have ne : (rowAt rows a).1 ≠ (rowAt rows b).1 := fun z => by
      rw [decide_eq_true z] at c
      cases c
    refine ⟨Nat.zero_le _, fun p0 hp0 => q _ (some []) _ (same_new hp0 _) ⟨p0, rfl, upd_same⟩ ⟨(fun x hx => by cases hx), ?_, fun _ _ _ => Nat.zero_le _⟩⟩
    rw [end_nil, end_nil]
    intro z
    injection z with z _
    exact ne z
  have lit : (rowAt rows a).1 = (rowAt rows b).1 := by
    by_cases z : (rowAt rows a).1 = (rowAt rows b).1
    · exact z
    · rw [decide_eq_false z] at c
      cases c
  clear c
  refine ⟨_, rfl, _, rfl, small_le (by show 2 ≤ 1000; decide), fun p1 hp1 => ⟨small_le (by show 1 ≤ 1000; decide), fun pf hpf => ?_⟩⟩
  have s1 := same_new hp1 (.tup [.int (a : Int), .int (b : Int)])
  have h11 : upd H p1 (.tup [.int (a : Int), .int (b : Int)]) p1 = some (.tup [.int (a : Int), .int (b : Int)]) := upd_same
  generalize upd H p1 (.tup [.int (a : Int), .int (b : Int)]) = H1 at s1 h11 hpf ⊢
  have npf : H pf = none := s1.free hpf
  have u2 := same_new hpf (.lst [.ref p1])
  have h2f : upd H1 pf (.lst [.ref p1]) pf = some (.lst [.ref p1]) := upd_same
  generalize upd H1 pf (.lst [.ref p1]) = H2 at u2 h2f ⊢
  have s2 := s1.trans u2
  refine fun pd npd2 => ⟨_, rfl, _, rfl, small_le (by show 2 ≤ 1000; decide), fun p0 hp0 => ?_⟩
  have npd : H pd = none := s2.free npd2
  have ne0 : p0 ≠ pd := fun z => by rw [z, upd_same] at hp0; cases hp0
  have nfd : pf ≠ pd := ne_of_none h2f npd2
  refine ⟨p0, kp (a, b), rfl, (by rw [upd_ne ne0.symm, upd_same]), upd_same, ?_⟩
  have u3 : Same H2 (upd (upd (upd H2 pd (.dT [])) p0 (.tup [.int (a : Int), .int (b : Int)])) pd (.dT (putK [] (kp (a, b)) .non))) := same_upd npd2 ((same_new npd2 _).trans (same_new hp0 _)) _
  have h3d : upd (upd (upd H2 pd (.dT [])) p0 (.tup [.int (a : Int), .int (b : Int)])) pd (.dT (putK [] (kp (a, b)) .non)) pd = some (.dT [(kp (a, b), V.non)]) := upd_same
  generalize upd (upd (upd H2 pd (.dT [])) p0 (.tup [.int (a : Int), .int (b : Int)])) pd (.dT (putK [] (kp (a, b)) .non)) = H3 at u3 h3d ⊢
  refine ⟨fun σ' H' => Same H H' ∧ PartOk rows e a b none, ?_, ?_⟩
  · refine ⟨fun ms σ' H' => ∃ (i : Nat) (pm : Pmt) (kvs : List (List Key × V)) (fv : List V), ms = m * m - i ∧ Same H H' ∧ H' pd = some (.dT kvs) ∧ H' pf = some (.lst fv) ∧ OrD H' pm kvs pm ∧ Al (PrIn H') fv (pm.map (·.1)) ∧ Pb rows m e a b pm i 0 ∧ ∃ o6 o7 o8 : Option V, σ' = [some (.ref pt), some (.int (a : Int)), some (.int (b : Int)), some (.ref pf), some (.ref pd), some (.int (i : Int)), o6, o7, o8],
      ⟨_, 0, [((a, b), [])], _, [.ref p1], rfl, s2.trans u3, h3d, u3 _ _ h2f, .cons (.inl ⟨rfl, rfl⟩) .nil, .cons ⟨p1, rfl, u3 _ _ (u2 _ _ h11)⟩ .nil, Pb.init la lb lit, _, _, _, rfl⟩, ?_⟩
    rintro ms σ' H4 ⟨i, pm, kvs, fv, rfl, s4, h4d, h4f, hD, hfv, B, o6, o7, o8, rfl⟩
    have bnd := B.size
    have lfv := hfv.length
    rw [List.length_map] at lfv
    refine ⟨_, rfl, _, rfl, pf, _, rfl, .inl (SqL.of h4f), _, _, rfl, rfl, _, rfl, ite2 (fun c => ?_) (fun c => ?_)⟩
    · have c' : (i : Int) < ((fv.length : Nat) : Int) := of_decide_eq_true c
      have hi : i < pm.length := by omega
      have hc := List.getElem?_eq_getElem hi
      generalize pm[i] = cc at hc
      obtain ⟨hlit, hld, hwe⟩ := B.rng cc (List.mem_of_getElem? hc)
      have lcc := B.len i cc hc
      obtain ⟨v', hv', pp, rfl, hpp⟩ := hfv.get (k := i) (r := cc.1) (by rw [List.getElem?_map, hc]; rfl)
      refine ⟨fun σ' H' => ∃ (pm : Pmt) (kvs : List (List Key × V)) (fv : List V), Same H H' ∧ H' pd = some (.dT kvs) ∧ H' pf = some (.lst fv) ∧ OrD H' pm kvs pm ∧ Al (PrIn H') fv (pm.map (·.1)) ∧ Pb rows m e a b pm (i + 1) 0 ∧ ∃ o6 o7 o8 : Option V, σ' = [some (.ref pt), some (.int (a : Int)), some (.int (b : Int)), some (.ref pf), some (.ref pd), some (.int ((i + 1 : Nat) : Int)), o6, o7, o8], ?_, ?_⟩
      · rintro σ' H' ⟨pm', kvs', fv', z1, z2, z3, z4, z5, z6, z7⟩
        exact ⟨m * m - (i + 1), by omega, i + 1, pm', kvs', fv', rfl, z1, z2, z3, z4, z5, z6, z7⟩
      refine ⟨_, rfl, _, rfl, pf, _, _, _, rfl, rfl, SqL.of h4f, atI_nat hv', ?_⟩
      have s4A := hA.mono fun _ _ z => z.mono (KeepT.of s4)
      refine ⟨fun σ' H' => ∃ (pm : Pmt) (kvs : List (List Key × V)) (fv : List V), Same H H' ∧ H' pd = some (.dT kvs) ∧ H' pf = some (.lst fv) ∧ OrD H' pm kvs pm ∧ Al (PrIn H') fv (pm.map (·.1)) ∧ Pb rows m e a b pm i e ∧ pm[i]? = some cc ∧ ∃ o7 o8 : Option V, σ' = [some (.ref pt), some (.int (a : Int)), some (.int (b : Int)), some (.ref pf), some (.ref pd), some (.int (i : Int)), some (.ref pp), o7, o8], ?_, ?_⟩
      · refine ⟨_, rfl, _, rfl, pt, _, _, _, rfl, rfl, SqL.of (s4 _ _ hpt), hata, ar, _, _, _, rfl, rfl, SqT.of (s4 _ _ har), rfl, amv, _, rfl, .inr (SqT.of (s4 _ _ ham)), _, rfl, by omega, by omega, ?_⟩
        refine for_range (fun x σ' H' => ∃ (pm : Pmt) (kvs : List (List Key × V)) (fv : List V), Same H H' ∧ KeepT H4 H' ∧ H' pd = some (.dT kvs) ∧ H' pf = some (.lst fv) ∧ OrD H' pm kvs pm ∧ Al (PrIn H') fv (pm.map (·.1)) ∧ Pb rows m e a b pm i x ∧ pm[i]? = some cc ∧ ∃ o7 o8 : Option V, σ' = [some (.ref pt), some (.int (a : Int)), some (.int (b : Int)), some (.ref pf), some (.ref pd), some (.int (i : Int)), some (.ref pp), o7, o8])
          ⟨pm, kvs, fv, s4, KeepT.refl _, h4d, h4f, hD, hfv, B, hc, _, _, rfl⟩ ?_ ?_
        · rintro x σ' H5 hx ⟨pm, kvs, fv, s5, k5, h5d, h5f, hD, hfv, B, hc, o7, o8, rfl⟩
          have hx' : x < e := by
            simp only [Int.toNat_natCast] at hx
            omega
          have hA5 := hA.mono fun _ _ z => z.mono (KeepT.of s5)
          have hpt5 := s5 _ _ hpt
          have hpp5 := k5 _ _ hpp
          have bnd := B.size
          have lfv := hfv.length
          rw [List.length_map] at lfv
          have hi := (List.getElem?_eq_some_iff.mp hc).1
          refine ⟨_, rfl, _, rfl, _, rfl, pt, pp, rv, rows, m, e, cc.1, x, _, rfl, Int.zero_add _, hpt5, hA5, T, hpp5, hlit.1, hlit.2.1, hx', fun c hcp => ⟨_, rfl, itB (fun z => ?_) (fun z => ?_)⟩⟩
          · have hP := B.first e8 lit hc hx' (hcp.mp z)
            refine ⟨_, rfl, _, rfl, pd, pp, kvs, pm, cc.1, cc.2, rfl, h5d, hD, B.nodup, hpp5, List.mem_of_getElem? hc, by omega, fun pw H6 s6 hpw => ⟨_, rfl, small_le (by show 1 ≤ 1000; decide), fun p3 hp3 => ?_⟩⟩
            have u8 := same_new hp3 (.tup [V.int (0 + (x : Int))])
            have h83 : upd H6 p3 (.tup [V.int (0 + (x : Int))]) p3 = some (.tup (natsV [x])) := by
              rw [upd_same, Int.zero_add]
              rfl
            generalize upd H6 p3 (.tup [V.int (0 + (x : Int))]) = H8 at u8 h83 ⊢
            by_cases zz : cc.2 = []
            · refine .inr ⟨pw, p3, _, rfl, rfl, SqT.of (by rw [u8 _ _ hpw, zz]; rfl), SqT.of h83, q _ (some (cc.2 ++ [x])) _ (s5.trans (s6.trans u8)) ⟨p3, rfl, ?_⟩ hP⟩
              rw [zz]
              exact h83
            · refine .inl ⟨pw, p3, natsV cc.2, natsV [x], rfl, rfl, SqT.of (u8 _ _ hpw), SqT.of h83, ?_, ?_, ?_, ?_⟩
              · intro y
                exact zz (List.map_eq_nil_iff.mp y)
              · rw [natsV_len, sizeLine_eq]
                show cc.2.length + 1 ≤ _
                omega
              · intro y
                cases y
              · intro _ p4 hp4
                refine q _ (some (cc.2 ++ [x])) _ (s5.trans (s6.trans (u8.trans (same_new hp4 _)))) ⟨p4, rfl, ?_⟩ hP
                rw [upd_same]
                unfold natsV
                rw [List.map_append]
          · have hn : ¬ ptd rows cc.1 x := fun y => by
              rw [hcp.mpr y] at z
              cases z
            refine ⟨_, rfl, _, rfl, _, rfl, pt, pp, rv, rows, m, e, cc.1, x, _, rfl, Int.zero_add _, hpt5, hA5, T, hpp5, hlit.1, hlit.2.1, hx', fun pb H6 u6 hpb => ?_⟩
            have hk6 := KeepT.of u6
            have h6d := u6 _ _ h5d
            have h6f := u6 _ _ h5f
            have hD6 := hD.mono hk6 (fun _ h => h)
            have hfv6 := hfv.mono fun _ _ z => z.mono hk6
            refine ⟨_, rfl, _, rfl, pd, _, rfl, DGet.t (k := kp (stp rows cc.1 x)) h6d hpb, _, rfl, itB (fun c => ?_) (fun c => ?_)⟩
            · rw [hD6.some B.nodup] at c
              have nin : stp rows cc.1 x ∉ pm.map (·.1) := by simpa using c
              have hl2 := Lit.step T hlit hx' hn fun k hk => mv_lt' T hk hx'
              have B2 := B.new hc hx' hn hl2 nin
              have bnd2 := B2.size
              refine ⟨_, rfl, _, rfl, small_le (by show 2 ≤ 1000; decide), fun po hpo => ?_⟩
              have u7 := same_new hpo (.tup [.ref pp, .int (0 + (x : Int))])
              have h7o : upd H6 po (.tup [.ref pp, .int (0 + (x : Int))]) po = some (.tup [.ref pp, .int (x : Int)]) := by rw [upd_same, Int.zero_add]
              generalize upd H6 po (.tup [.ref pp, .int (0 + (x : Int))]) = H7 at u7 h7o ⊢
              have lkv := hD.length
              refine ⟨_, rfl, _, rfl, pd, _, rfl, DPut.t (k := kp (stp rows cc.1 x)) (u7 _ _ h6d) (u7 _ _ hpb) (by rw [sizeLine_eq]; omega), ?_⟩
              rw [putK_newT _ (hD6.none nin)]
              have kd := KeepT.dt (u7 _ _ h6d) (.dT (kvs ++ [(kp (stp rows cc.1 x), V.ref po)]))
              have s8 := same_upd npd (s5.trans (u6.trans u7)) (.dT (kvs ++ [(kp (stp rows cc.1 x), V.ref po)]))
              have h8d : upd H7 pd (.dT (kvs ++ [(kp (stp rows cc.1 x), V.ref po)])) pd = some (.dT (kvs ++ [(kp (stp rows cc.1 x), V.ref po)])) := upd_same
              have h8f : upd H7 pd (.dT (kvs ++ [(kp (stp rows cc.1 x), V.ref po)])) pf = some (.lst fv) := by
                rw [upd_ne nfd]
                exact u7 _ _ h6f
              generalize upd H7 pd (.dT (kvs ++ [(kp (stp rows cc.1 x), V.ref po)])) = H8 at kd s8 h8d h8f ⊢
              have k58 := hk6.trans ((KeepT.of u7).trans kd)
              have kl := KeepT.lst h8f (.lst (fv ++ [.ref pb]))
              refine ⟨_, rfl, .inl ⟨rfl, _, SqL.of h8f⟩, _, rfl, pf, _, _, rfl, rfl, h8f, (by rw [sizeLine_eq]; omega), ?_⟩
              have k59 := k58.trans kl
              have up : ∀ z ∈ pm, z ∈ pm ++ [(stp rows cc.1 x, cc.2 ++ [x])] := fun z hz => List.mem_append_left _ hz
              refine ⟨_, kvs ++ [(kp (stp rows cc.1 x), V.ref po)], fv ++ [.ref pb], same_upd npf s8 _, k5.trans k59, ?_, upd_same, (hD.mono k59 up).snoc (.inr ⟨cc.2, x, cc.1, po, pp, rfl, rfl, (kd.trans kl) _ _ h7o, k59 _ _ hpp5, up _ (List.mem_of_getElem? hc)⟩), ?_, B2, ?_, _, _, rfl⟩
              · rw [upd_ne nfd.symm]
                exact h8d
              · rw [List.map_append]
                exact Al.snoc (hfv.mono fun _ _ z => z.mono k59) ⟨pb, rfl, ((KeepT.of u7).trans (kd.trans kl)) _ _ hpb⟩
              · rw [List.getElem?_append_left hi]
                exact hc
            · rw [hD6.some B.nodup] at c
              have inn : stp rows cc.1 x ∈ pm.map (·.1) := by simpa using c
              exact ⟨pm, kvs, fv, s5.trans u6, k5.trans hk6, h6d, h6f, hD6, hfv6, B.hit hc hn inn, hc, _, _, rfl⟩
        · rintro σ' H5 ⟨pm, kvs, fv, s5, k5, h5d, h5f, hD, hfv, B, hc, r⟩
          have ee : ((mva.length : Nat) : Int).toNat = e := by
            rw [Int.toNat_natCast]
            exact lmva
          rw [ee] at B
          exact ⟨pm, kvs, fv, s5, h5d, h5f, hD, hfv, B, hc, r⟩
      rintro σ6 H6 ⟨pm, kvs, fv, s6, h6d, h6f, hD, hfv, B, hc, o7', o8', rfl⟩
      exact ⟨_, rfl, _, _, rfl, rfl, pm, kvs, fv, s6, h6d, h6f, hD, hfv, B.next e8 hc, _, _, _, rfl⟩
    · have c' : ¬ (i : Int) < ((fv.length : Nat) : Int) := fun z => c (decide_eq_true z)
      exact ⟨s4, B.done lit (by omega)⟩
  rintro σ' H5 ⟨s5, hP⟩
  exact q _ none _ s5 rfl hP
end
end Tb

namespace Tb
open PySem L2 Mix Gds
/-! the law's end, is_way (k36, k38, k53) -/
section
variable {P : Program} {w : World} {K : PySem.W.Frag} {mg : Str → Option Value} {base : Heap}
theorem sc_law_end : FnScope ["_law_rows", "_law_at", "_law_way", "_law_words_here", "_law_e"] ["_law_rows", "_law_at", "_law_way"] (defScope s_L_end) := ⟨rfl, rfl, rfl, by decide +kernel, rfl, by decide +kernel, by decide +kernel⟩
theorem ok_lend {f : Addr} {fd : FuncData} (F : Fun K "_law_end" "_law_end" s_L_end f fd) : FnOk P w K mg base CX0 1 f fd ["_law_rows", "_law_at", "_law_way"] spEnd := by
  refine F.ok sc_law_end (fun vs H Q E h => ?_) (fun cdv A outer s H vs Q E hr h => ?_)
  · obtain ⟨pt, pw, rv, rows, m, e, a, ia, p, rfl, _⟩ := h
    rfl
  obtain ⟨pt, pw, rv, rows, m, e, a, ia, p, rfl, rfl, hpt, hA, T, am, hpw, hp, q⟩ := h
  refine ⟨_, (pss_cons (ps_set (i := 3) sc_law_end.nd rfl (Or.inl rfl) (pe_tup pa_nil))
    (pss_cut (ps_for PassesOwn.never rfl (pi_tup (pv 2)) (pg_name (i := 4) sc_law_end.nd rfl (Or.inl rfl))
      (pss_cons (ps_set (i := 3) sc_law_end.nd rfl (Or.inl rfl) (pe_ix ix_tup (pe_ix ix_tup (pe_ix ix_tup (pe_ix ix_list (pv 0) (pv 1) (fun _ _ => rfl)) pe_int (fun _ _ => rfl)) (pv 4) (fun _ _ => rfl)) pe_int (fun _ _ => rfl)))
      (pss_one (ps_set (i := 1) sc_law_end.nd rfl (Or.inl rfl) (pe_ix ix_tup (pe_ix ix_tup (pe_ix ix_tup (pe_ix ix_list (pv 0) (pv 1) (fun _ _ => rfl)) pe_int (fun _ _ => rfl)) (pv 4) (fun _ _ => rfl)) pe_int (fun _ _ => rfl))))))
    (pss_one (ps_ret (pe_tup (pa_cons (pe_ix ix_tup (pe_ix ix_list (pv 0) (pv 1) (fun _ _ => rfl)) pe_int (fun _ _ => rfl)) (pa_cons (pv 3) pa_nil))))))), ?_⟩
  refine ⟨Nat.zero_le _, fun p0 hp0 => ?_⟩
  have s1 := same_new hp0 (.tup ([] : List V))
  have h1 : upd H p0 (.tup ([] : List V)) p0 = some (.tup (([] : List Str).map V.str)) := upd_same
  generalize upd H p0 (.tup ([] : List V)) = H1 at s1 h1 ⊢
  have hA1 := hA.mono fun _ _ z => z.mono (KeepT.of s1)
  have hpt1 := s1 _ _ hpt
  have hpw1 := s1 _ _ hpw
  refine ⟨fun σ' H' => H' = H1 ∧ (goF rows p a []).1 < m ∧ ∃ (aw : Addr) (o4 : Option V), H1 aw = some (.tup ((goF rows p a []).2.map V.str)) ∧ σ' = [some (.ref pt), some (.int ((goF rows p a []).1 : Int)), some (.ref pw), some (.ref aw), o4], ?_, ?_⟩
  · refine ⟨_, rfl, pw, rfl, ⟨_, SqT.of hpw1⟩, ?_⟩
    refine for_tup (K := K) (a := pw) (xs := natsV p) (fun i σ' H' => H' = H1 ∧ (goF rows (p.take i) a []).1 < m ∧ ∃ (aw : Addr) (o4 : Option V), H1 aw = some (.tup ((goF rows (p.take i) a []).2.map V.str)) ∧ σ' = [some (.ref pt), some (.int ((goF rows (p.take i) a []).1 : Int)), some (.ref pw), some (.ref aw), o4]) ⟨rfl, am, p0, _, h1, rfl⟩ (fun i σ' H' _ ⟨e, _⟩ => by rw [e]; exact SqT.of hpw1) ?_ ?_
    · rintro i y σ' H' hy ⟨rfl, lt, aw, o4, haw, rfl⟩
      obtain ⟨hi, rfl⟩ := nv_get hy
      have hx := hp _ (List.getElem_mem hi)
      have eg : goF rows (p.take (i + 1)) a [] = ((mvAt rows (goF rows (p.take i) a []).1 p[i]).2, (mvAt rows (goF rows (p.take i) a []).1 p[i]).1) := by
        rw [List.take_add_one, List.getElem?_eq_getElem hi]
        unfold goF
        rw [List.foldl_append]
        rfl
      rw [eg]
      generalize p[i] = x at hx
      generalize goF rows (p.take i) a [] = g at lt haw
      obtain ⟨ar, amv, al, mv, hat, har, _, hamv, hmv⟩ := row_in hA1 T lt
      obtain ⟨lt2, a2, aw2, hat2, ha2, haw2⟩ := mv_in T lt hx hmv
      refine ⟨_, rfl, _, rfl, pt, _, _, _, rfl, rfl, SqL.of hpt1, hat, ar, _, _, _, rfl, rfl, SqT.of har, rfl, _, rfl, amv, _, _, _, rfl, rfl, SqT.of hamv, hat2, a2, _, _, _, rfl, rfl, SqT.of ha2, rfl, ?_⟩
      exact ⟨_, rfl, _, rfl, pt, _, _, _, rfl, rfl, SqL.of hpt1, hat, ar, _, _, _, rfl, rfl, SqT.of har, rfl, _, rfl, amv, _, _, _, rfl, rfl, SqT.of hamv, hat2, a2, _, _, _, rfl, rfl, SqT.of ha2, rfl, rfl, lt2, aw2, _, haw2, rfl⟩
    · rintro σ' H' ⟨rfl, lt, aw, o4, haw, rfl⟩
      rw [natsV_len, List.take_of_length_le (Nat.le_refl _)] at lt haw ⊢
      exact ⟨rfl, lt, aw, o4, haw, rfl⟩
  rintro σ2 H2 ⟨rfl, lt, aw, o4, haw, rfl⟩
  obtain ⟨ar, amv, al, mv, hat, har, hal, _, _⟩ := row_in hA1 T lt
  refine ⟨_, rfl, _, rfl, pt, _, _, _, rfl, rfl, SqL.of hpt1, hat, ar, _, _, _, rfl, rfl, SqT.of har, rfl, _, rfl, small_le (by show 2 ≤ 1000; decide), fun p3 hp3 => ?_⟩
  have u3 := same_new hp3 (.tup [.ref al, .ref aw])
  exact q p3 al aw _ (s1.trans u3) upd_same (u3 _ _ hal) (u3 _ _ haw)
theorem sc_law_is_way : FnScope ["_law_found", "_law_events", "_law_e"] ["_law_found", "_law_events"] (defScope s_L_is_way) := ⟨rfl, rfl, rfl, by decide +kernel, rfl, by decide +kernel, by decide +kernel⟩
theorem ok_is_way {f : Addr} {fd : FuncData} (F : Fun K "_law_is_way" "_law_is_way" s_L_is_way f fd) (m_isinstance : mg "isinstance" = none) (m_tuple : mg "tuple" = none) (m_int : mg "int" = none) (m_bool : mg "bool" = none) : FnOk P w K mg base CX0 1 f fd ["_law_found", "_law_events"] spIsWay := by
  refine F.ok sc_law_is_way (fun vs H Q E h => ?_) (fun cdv A outer s H vs Q E hr h => ?_)
  · obtain ⟨a, p, ev, rfl, _⟩ := h
    rfl
  obtain ⟨a, p, ev, rfl, ha, hp, q⟩ := h
  refine ⟨_, (pss_cons (ps_if (pt_not (pt_val (pe_callB call_isinst rfl m_isinstance PyProof.Rows.boot_isinstance (pa_cons (pv 0) (pa_cons (pe_bltn (v := .ty "tuple") rfl m_tuple PyProof.Rows.boot_tuple rfl) pa_nil)))))
      (pss_one (ps_ret pe_bl))
      pss_nil)
    (pss_cut (ps_for PassesOwn.never rfl (pi_tup (pv 0)) (pg_name (i := 2) sc_law_is_way.nd rfl (Or.inl rfl))
      (pss_one (ps_if (pt_cut (PW.pt (pw_or (pt_not (pt_val (pe_callB call_isinst rfl m_isinstance PyProof.Rows.boot_isinstance (pa_cons (pv 2) (pa_cons (pe_bltn (v := .ty "int") rfl m_int PyProof.Rows.boot_int rfl) pa_nil))))) (pw_or (pt_val (pe_callB call_isinst rfl m_isinstance PyProof.Rows.boot_isinstance (pa_cons (pv 2) (pa_cons (pe_bltn (v := .ty "bool") rfl m_bool PyProof.Rows.boot_bool rfl) pa_nil)))) (pw_or (pt_cmpR op_lt (pv 2) pe_int (nomark _)) (pw_or1 (pt_cmpR op_ge (pv 2) (pv 1) (nomark _))))))))
        (pss_one (ps_ret pe_bl))
        pss_nil)))
    (pss_one (ps_ret pe_bl)))), ?_⟩
  refine ⟨_, rfl, _, "tuple", _, true, rfl, .tup ha, kit_tt' K, _, rfl, ifF rfl ?_⟩
  refine ⟨fun σ' H' => H' = H, ?_, ?_⟩
  · refine ⟨_, rfl, a, rfl, ⟨_, SqT.of ha⟩, ?_⟩
    refine for_tup (K := K) (a := a) (xs := natsV p) (fun i σ' H' => H' = H ∧ ∃ o2 : Option V, σ' = [some (.ref a), some (.int (ev : Int)), o2]) ⟨rfl, _, rfl⟩ (fun i σ' H' _ ⟨e, _⟩ => by rw [e]; exact SqT.of ha) ?_ (fun σ' H' ⟨e, _⟩ => e)
    rintro i y σ' H' hy ⟨rfl, o2, rfl⟩
    obtain ⟨hi, rfl⟩ := nv_get hy
    have hx := hp _ (List.getElem_mem hi)
    generalize p[i] = x at hx
    refine ⟨fun c H2 => c = false ∧ H2 = H', ?_, ?_⟩
    · refine ⟨_, rfl, _, "int", _, true, rfl, .int _, kit_ii K, _, rfl, ifF rfl ⟨_, rfl, _, "bool", _, false, rfl, .int _, kit_ib K, _, rfl, ifF rfl ⟨_, rfl, _, _, rfl, rfl, _, rfl, ifF (decide_eq_false (by omega)) ⟨_, rfl, _, rfl, _, _, rfl, rfl, _, rfl, decide_eq_false (by omega), rfl⟩⟩⟩⟩
    rintro c H2 ⟨rfl, rfl⟩
    exact ifF rfl ⟨rfl, _, rfl⟩
  rintro σ' H' rfl
  exact q
end
end Tb

namespace Tb
open PySem L2 Mix Gds
/-! k38: the law -/
section
variable {P : Program} {w : World} {K : PySem.W.Frag} {mg : Str → Option Value} {base : Heap}
abbrev lawSc : Scope := ⟨.function, [("_law_script", .local), ("_law_rows", .local), ("_law_events", .local), ("_law_found", .local), ("_law_fold", .cell), ("_law_small", .local), ("_law_k", .local), ("_law_first", .local), ("_law_drawn", .local), ("_law_j", .local), ("_law_way", .local), ("_law_last", .local), ("_law_table", .globalImplicit), ("len", .globalImplicit), ("shrunk", .globalImplicit), ("list", .globalImplicit), ("range", .globalImplicit), ("_law_mixed", .globalImplicit), ("parting", .globalImplicit), ("_law_is_way", .globalImplicit), ("_law_end", .globalImplicit)], false, false, (defScope sLawF).more⟩
theorem lawSc_eq : defScope sLawF = lawSc := by rfl
theorem sc_law : FnScope ["_law_script", "_law_rows", "_law_events", "_law_found", "_law_fold", "_law_small", "_law_k", "_law_first", "_law_drawn", "_law_j", "_law_way", "_law_last"] ["_law_script"] lawSc := ⟨rfl, rfl, rfl, by decide +kernel, rfl, by decide +kernel, by decide +kernel⟩
theorem ok_law {n0 : Nat} {f g1 g2 g3 g4 g5 g6 : Addr} {fd dg1 dg2 dg3 dg4 dg5 dg6 : FuncData} (F : Fun K "law" "law" sLawF f fd)
    (G_law_table : FnOk P w K mg base CX0 n0 g1 dg1 ["_law_script"] (spTable K)) (b_law_table : Binds K dg1 ["_law_script"] []) (k_law_table : PySem.W.keepIn K (.ref g1) = true) (m_law_table : mg "_law_table" = some (.ref g1))
    (G_law_mixed : FnOk P w K mg base CX0 n0 g2 dg2 ["_law_script", "_law_k", "_law_salt"] (spMixed K)) (b_law_mixed : Binds K dg2 ["_law_script", "_law_k", "_law_salt"] []) (k_law_mixed : PySem.W.keepIn K (.ref g2) = true) (m_law_mixed : mg "_law_mixed" = some (.ref g2))
    (G_parting : FnOk P w K mg base CX0 n0 g3 dg3 ["rows", "one", "other"] spParting) (b_parting : Binds K dg3 ["rows", "one", "other"] []) (k_parting : PySem.W.keepIn K (.ref g3) = true) (m_parting : mg "parting" = some (.ref g3))
    (G_shrunk : FnOk P w K mg base CX0 n0 g6 dg6 ["rows"] spShrunk) (b_shrunk : Binds K dg6 ["rows"] []) (k_shrunk : PySem.W.keepIn K (.ref g6) = true) (m_shrunk : mg "shrunk" = some (.ref g6))
    (G_law_is_way : FnOk P w K mg base CX0 n0 g4 dg4 ["_law_found", "_law_events"] spIsWay) (b_law_is_way : Binds K dg4 ["_law_found", "_law_events"] []) (k_law_is_way : PySem.W.keepIn K (.ref g4) = true) (m_law_is_way : mg "_law_is_way" = some (.ref g4))
    (G_law_end : FnOk P w K mg base CX0 n0 g5 dg5 ["_law_rows", "_law_at", "_law_way"] spEnd) (b_law_end : Binds K dg5 ["_law_rows", "_law_at", "_law_way"] []) (k_law_end : PySem.W.keepIn K (.ref g5) = true) (m_law_end : mg "_law_end" = some (.ref g5))
    (m_len : mg "len" = none) (m_list : mg "list" = none) (m_range : mg "range" = none) : FnOk P w K mg base CX0 (n0 + 1) f fd ["_law_script"] (spLaw K) := by
  refine okS lawSc lawSc_eq F sc_law (fun vs H Q E h => ?_) (fun cdv A outer s H vs Q E hr h => ?_)
  · obtain ⟨a, ns, rfl, _⟩ := h
    rfl
  obtain ⟨a, ns, rfl, hS, h63, q⟩ := h
  refine ⟨_, (pss_cons (ps_set (i := 1) sc_law.nd rfl (Or.inl rfl) (pe_call G_law_table hr rfl m_law_table k_law_table b_law_table .nil pass0 (pa_cons (pv 0) pa_nil)))
    (pss_cons (ps_set (i := 2) sc_law.nd rfl (Or.inl rfl) (pe_callB call_len_seq rfl m_len PySem.boot_len (pa_cons (pe_ix ix_tup (pe_ix ix_list (pv 1) pe_int (fun _ _ => rfl)) pe_int (fun _ _ => rfl)) pa_nil)))
    (pss_cons (ps_set (i := 3) sc_law.nd rfl (Or.inl rfl) (pe_call G_shrunk hr rfl m_shrunk k_shrunk b_shrunk .nil pass0 (pa_cons (pe_callTy call_list_of rfl m_list PyProof.Rows.boot_list (pa_cons (pv 1) pa_nil)) pa_nil)))
    (pss_cons (ps_set (i := 4) sc_law.nd rfl (Or.inr rfl) (pe_ix ix_tup (pv 3) pe_int (fun _ _ => rfl)))
    (pss_cons (ps_set (i := 5) sc_law.nd rfl (Or.inl rfl) (pe_ix ix_tup (pv 3) pe_int (fun _ _ => rfl)))
    (pss_cons (ps_setC (i := 7) (caps := [(4, "_law_fold")]) rfl sc_law.nd rfl (Or.inl rfl) (show CompSc lawSc ["_law_script", "_law_rows", "_law_events", "_law_found", "_law_fold", "_law_small", "_law_k", "_law_first", "_law_drawn", "_law_j", "_law_way", "_law_last"] _ _ _ from ⟨rfl, rfl, by decide +kernel, by decide +kernel, by decide +kernel, by decide +kernel, by decide +kernel⟩) (pi_range1 rfl m_range (pa_cons (pe_callB call_len_seq rfl m_len PySem.boot_len (pa_cons (pv 5) pa_nil)) pa_nil)) (fun _ _ _ _ _ _ => pifs_nil) (fun _ _ _ _ _ _ => (show PE _ _ (tBM K "list" rIdx _ _) from pe_bm PySem.F.plainAttrs_list PySem.F.slot_list_index PySem.F.type_list_index mt_index (pv 1) (pa_cons (pv 0) pa_nil))))
    (pss_cons (ps_set (i := 8) sc_law.nd rfl (Or.inl rfl) (pe_op op_mod (pe_call G_law_mixed hr rfl m_law_mixed k_law_mixed b_law_mixed .nil pass0 (pa_cons (pv 0) (pa_cons pe_int (pa_cons pe_int pa_nil)))) (pe_callB call_len_seq rfl m_len PySem.boot_len (pa_cons (pv 5) pa_nil))))
    (pss_cut (ps_for PassesOwn.never rfl (pi_range1 rfl m_range (pa_cons (pe_callB call_len_seq rfl m_len PySem.boot_len (pa_cons (pv 5) pa_nil)) pa_nil)) (pg_name (i := 6) sc_law.nd rfl (Or.inl rfl))
      (pss_one (ps_for PassesOwn.never rfl (pi_list (pe_lst (pa_cons (pe_op op_mod (pe_op op_add (pv 6) pe_int) (pe_callB call_len_seq rfl m_len PySem.boot_len (pa_cons (pv 5) pa_nil))) (pa_cons (pv 8) pa_nil)))) (pg_name (i := 9) sc_law.nd rfl (Or.inl rfl))
        (pss_cons (ps_set (i := 10) sc_law.nd rfl (Or.inl rfl) (pe_call G_parting hr rfl m_parting k_parting b_parting .nil pass0 (pa_cons (pe_callTy call_list_of rfl m_list PyProof.Rows.boot_list (pa_cons (pv 5) pa_nil)) (pa_cons (pv 6) (pa_cons (pv 9) pa_nil)))))
        (pss_one (ps_if (pt_cmpR op_eq (pv 6) (pv 9) (nomark _))
          (pss_one (ps_if (pt_cmpR op_notN (pv 10) pe_non (nomark _))
            (pss_one (ps_ret pe_bl))
            pss_nil))
          (pss_one (ps_if (pt_not (pt_val (pe_call G_law_is_way hr rfl m_law_is_way k_law_is_way b_law_is_way .nil pass0 (pa_cons (pv 10) (pa_cons (pv 2) pa_nil)))))
            (pss_one (ps_ret pe_bl))
            (pss_one (ps_if (pt_cmpR (op_eqWW hr.units) (pe_call G_law_end hr rfl m_law_end k_law_end b_law_end .nil pass0 (pa_cons (pv 5) (pa_cons (pv 6) (pa_cons (pv 10) pa_nil)))) (pe_call G_law_end hr rfl m_law_end k_law_end b_law_end .nil pass0 (pa_cons (pv 5) (pa_cons (pv 9) (pa_cons (pv 10) pa_nil)))) (nomark _))
              (pss_one (ps_ret pe_bl))
              (pss_one (ps_if (pt_cmpR (op_eqWW hr.units) (pe_call G_law_end hr rfl m_law_end k_law_end b_law_end .nil pass0 (pa_cons (pv 1) (pa_cons (pe_ix ix_list (pv 7) (pv 6) (fun _ _ => rfl)) (pa_cons (pv 10) pa_nil)))) (pe_call G_law_end hr rfl m_law_end k_law_end b_law_end .nil pass0 (pa_cons (pv 1) (pa_cons (pe_ix ix_list (pv 7) (pv 9) (fun _ _ => rfl)) (pa_cons (pv 10) pa_nil)))) (nomark _))
                (pss_one (ps_ret pe_bl))
                pss_nil))))))))))))
    (pss_cons (ps_set (i := 11) sc_law.nd rfl (Or.inl rfl) (pe_op op_sub (pe_callB call_len_seq rfl m_len PySem.boot_len (pa_cons (pv 1) pa_nil)) pe_int))
    (pss_one (ps_ret (pe_cmpR op_isN (pe_call G_parting hr rfl m_parting k_parting b_parting .nil pass0 (pa_cons (pe_callTy call_list_of rfl m_list PyProof.Rows.boot_list (pa_cons (pv 1) pa_nil)) (pa_cons (pv 11) (pa_cons (pe_ix ix_list (pv 7) (pe_ix ix_list (pv 4) (pv 11) (fun _ _ => rfl)) (fun _ _ => rfl)) pa_nil)))) pe_non (nomark _))))))))))))), ?_⟩
  refine ⟨_, rfl, a, ns, rfl, hS, h63, fun pt rv rows m e H1 s1 npt hpt hA T m200 e8 => ?_⟩
  have lrv := hA.length
  have ltb := T.len
  have mp := T.pos
  obtain ⟨r0, m0, l0, mv0, hat0, hr0, _, hm0, hmv0⟩ := row_in hA T (k := 0) (by omega)
  have l0e := hmv0.length
  rw [(T.at (k := 0) (by omega)).2.2.1] at l0e
  refine ⟨_, rfl, pt, _, _, _, rfl, rfl, SqL.of hpt, hat0, r0, _, _, _, rfl, rfl, SqT.of hr0, rfl, m0, _, rfl, .inr (SqT.of hm0), ?_⟩
  refine ⟨_, rfl, pt, _, rfl, .inl (SqL.of hpt), fun ph hph => ?_⟩
  have u2 := same_new hph (.lst rv)
  have h2 : upd H1 ph (.lst rv) ph = some (.lst rv) := upd_same
  generalize upd H1 ph (.lst rv) = H2 at u2 h2 ⊢
  refine ⟨ph, rv, rows, m, e, rfl, h2, hA.mono (fun _ _ z => z.mono (KeepT.of u2)), T, m200, e8, fun pq pf ps sv fold small n H3 s3 npf nps nfs hpq hpf hps hB S => ?_⟩
  have s13 := u2.trans s3
  have hpt3 := s13 _ _ hpt
  have hA3 := hA.mono fun _ _ z => z.mono (KeepT.of s13)
  have hS3 := (s1.trans s13).seq hS
  have T2 := S.tab
  have lsv := hB.length
  have lsm := T2.len
  have np := T2.pos
  have lf := S.len
  have nm : n ≤ m := by
    obtain ⟨k, hk, ek⟩ := S.onto (n - 1) (by omega)
    by_cases z : n ≤ m
    · exact z
    · exfalso
      have key : ∀ (k c : Nat), k < m → fAt fold k = c → c ≤ k := by
        intro k
        induction k using Nat.strongRecOn with
        | ind k ih =>
          intro c hk e
          cases c with
          | zero => exact Nat.zero_le _
          | succ c =>
            obtain ⟨j, hj, ej⟩ := S.ord k hk c (by omega)
            have := ih j hj c (by omega) ej
            omega
      have := key k (n - 1) hk ek
      omega
  refine ⟨_, rfl, pq, _, _, _, rfl, rfl, SqT.of hpq, rfl, ?_⟩
  refine ⟨_, rfl, pq, _, _, _, rfl, rfl, SqT.of hpq, rfl, ?_⟩
  refine ⟨_, rfl, ps, _, rfl, .inl (SqL.of hps), _, rfl, by omega, by omega, ?_⟩
  refine comp_range (fun i acc H' => H' = H3 ∧ ∃ fs : List Nat, acc = natsV fs ∧ fs.length = i ∧ ∀ c : Nat, c < i → fAt fs c < m ∧ fAt fold (fAt fs c) = c) ⟨rfl, [], rfl, rfl, fun c z => absurd z (Nat.not_lt_zero _)⟩ (fun i acc H' hi ⟨e1, fs, e2, e3, e4⟩ => ?_) (fun acc H' ⟨e1, fs, e2, e3, e4⟩ p2 hp2 => ?_)
  · subst e1 e2
    obtain ⟨k, hk, ek⟩ := S.onto i (by omega)
    obtain ⟨j, hj, ej, en⟩ := first_at fold i k (by omega) ek
    refine ⟨_, rfl, .inl ⟨rfl, _, SqL.of hpf⟩, _, rfl, pf, fold, _, j, rfl, rfl, hpf, ⟨hj, by rw [ej]; omega⟩, (fun x hx lt z => en x hx lt (by omega)), by omega, small1000 (by rw [natsV_len]; omega), rfl, fs ++ [j], natsV_snoc fs j, by simp; omega, fun c hc => ?_⟩
    by_cases z : c < i
    · have : fAt (fs ++ [j]) c = fAt fs c := by
        unfold fAt
        rw [List.getD_eq_getElem?_getD, List.getD_eq_getElem?_getD, List.getElem?_append_left (by omega)]
      rw [this]
      exact e4 c z
    · have ci : c = i := by omega
      subst ci
      have : fAt (fs ++ [j]) c = j := by
        unfold fAt
        rw [List.getD_eq_getElem?_getD, List.getElem?_append_right (by omega), e3, Nat.sub_self]
        rfl
      rw [this, fAt_get hj, ej]
      exact ⟨by omega, rfl⟩
  subst e1 e2
  have s6 := same_new hp2 (.lst (natsV fs))
  have h6 : upd H' p2 (.lst (natsV fs)) p2 = some (.lst (natsV fs)) := upd_same
  generalize upd H' p2 (.lst (natsV fs)) = H6 at s6 h6 ⊢
  have hpt6 := s6 _ _ hpt3
  have hA6 := hA3.mono fun _ _ z => z.mono (KeepT.of s6)
  have hps6 := s6 _ _ hps
  have hpf6 := s6 _ _ hpf
  have hB6 := hB.mono fun _ _ z => z.mono (KeepT.of s6)
  have lfs : fs.length = n := by omega
  have e4' : ∀ c : Nat, c < n → fAt fs c < m ∧ fAt fold (fAt fs c) = c := fun c hc => e4 c (by omega)
  have lp : (0 : Int) < ((sv.length : Nat) : Int) := by omega
  refine ⟨_, rfl, a, ns, _, _, rfl, s6.seq hS3, h63, ⟨by decide, by decide⟩, ⟨by decide, by decide⟩, fun x x0 x1 => ⟨_, rfl, ps, _, rfl, .inl (SqL.of hps6), _, _, rfl, rfl, lp, ?_⟩⟩
  obtain ⟨dr, edr, ldr⟩ : ∃ k : Nat, x % ((sv.length : Nat) : Int) = (k : Int) ∧ k < n := ⟨(x % ((sv.length : Nat) : Int)).toNat, by have := Int.emod_nonneg x (show ((sv.length : Nat) : Int) ≠ 0 by omega); omega, by have := Int.emod_lt_of_pos x lp; have := Int.emod_nonneg x (show ((sv.length : Nat) : Int) ≠ 0 by omega); omega⟩
  simp only [edr]
  refine ⟨fun σ' H' => Same H6 H' ∧ ∃ o8 o9 o10 : Option V, σ' = [some (.ref a), some (.ref pt), some (.int ((mv0.length : Nat) : Int)), some (.ref pq), some (.ref pf), some (.ref ps), o8, some (.ref p2), some (.int (dr : Int)), o9, o10, none], ?_, ?_⟩
  · refine ⟨_, rfl, ps, _, rfl, .inl (SqL.of hps6), _, rfl, by omega, by omega, ?_⟩
    refine for_range (fun i σ' H' => Same H6 H' ∧ ∃ o8 o9 o10 : Option V, σ' = [some (.ref a), some (.ref pt), some (.int ((mv0.length : Nat) : Int)), some (.ref pq), some (.ref pf), some (.ref ps), o8, some (.ref p2), some (.int (dr : Int)), o9, o10, none]) ⟨Same.refl _, _, _, _, rfl⟩ ?_ (fun σ' H' h => h)
    rintro i σ' H7 hi ⟨s7, o8, o9, o10, rfl⟩
    have hin : i < n := by omega
    obtain ⟨j1, ej1, lj1⟩ : ∃ k : Nat, (0 + (i : Int) + 1) % ((sv.length : Nat) : Int) = (k : Int) ∧ k < n := ⟨((0 + (i : Int) + 1) % ((sv.length : Nat) : Int)).toNat, by have := Int.emod_nonneg (0 + (i : Int) + 1) (show ((sv.length : Nat) : Int) ≠ 0 by omega); omega, by have := Int.emod_lt_of_pos (0 + (i : Int) + 1) lp; have := Int.emod_nonneg (0 + (i : Int) + 1) (show ((sv.length : Nat) : Int) ≠ 0 by omega); omega⟩
    refine ⟨_, rfl, _, _, rfl, rfl, _, rfl, ps, _, rfl, .inl (SqL.of (s7 _ _ hps6)), _, _, rfl, rfl, lp, _, rfl, small_le (by show 2 ≤ 1000; decide), fun p8 hp8 => ?_⟩
    have h8 : upd H7 p8 (.lst [V.int ((0 + (i : Int) + 1) % ((sv.length : Nat) : Int)), V.int (dr : Int)]) p8 = some (.lst (natsV [j1, dr])) := by
      rw [upd_same, ej1]
      rfl
    refine ⟨p8, rfl, ⟨_, SqL.of h8⟩, ?_⟩
    refine for_list (K := K) (a := p8) (xs := natsV [j1, dr]) (fun i2 σ' H' => Same H7 H' ∧ H' p8 = some (.lst (natsV [j1, dr])) ∧ ∃ o9 o10 : Option V, σ' = [some (.ref a), some (.ref pt), some (.int ((mv0.length : Nat) : Int)), some (.ref pq), some (.ref pf), some (.ref ps), some (.int (0 + (i : Int))), some (.ref p2), some (.int (dr : Int)), o9, o10, none]) ⟨same_new hp8 _, h8, _, _, rfl⟩ (fun i2 σ' H' _ ⟨_, z, _⟩ => SqL.of z) ?_ (fun σ' H' ⟨z, _, o9, o10, ez⟩ => ⟨s7.trans z, _, _, _, ez⟩)
    clear h8
    rintro i2 y σ' H9 hy ⟨s9, h9, o9, o10, rfl⟩
    obtain ⟨hi2, rfl⟩ := nv_get hy
    have lj : [j1, dr][i2] < n := by
      have hm := List.getElem_mem hi2
      simp only [List.mem_cons, List.not_mem_nil, or_false] at hm
      rcases hm with z | z <;> rw [z] <;> assumption
    generalize [j1, dr][i2] = j at lj
    have s69 := s7.trans s9
    have hps9 := s69 _ _ hps6
    refine ⟨_, rfl, ps, _, rfl, .inl (SqL.of hps9), fun p10 hp10 => ?_⟩
    have s10 := same_new hp10 (.lst sv)
    have h10 : upd H9 p10 (.lst sv) p10 = some (.lst sv) := upd_same
    generalize upd H9 p10 (.lst sv) = H10 at s10 h10 ⊢
    have s610 := s69.trans s10
    refine ⟨_, rfl, _, rfl, p10, sv, small, n, e, i, j, _, _, rfl, Int.zero_add _, rfl, h10, hB6.mono (fun _ _ z => z.mono (KeepT.of s610)), T2, by omega, e8, hin, lj, fun v o H11 s11 ho hP => ?_⟩
    have s711 := s9.trans (s10.trans s11)
    have h11 := s11 _ _ (s10 _ _ h9)
    have s611 := s610.trans s11
    refine ⟨_, rfl, _, rfl, rfl, _, rfl, itB (fun c => ?_) (fun c => ?_)⟩
    · have c' := of_decide_eq_true c
      have eij : i = j := by
        injection c' with c'
        omega
      subst eij
      cases o with
      | none =>
        have hv : v = .non := ho
        subst hv
        exact ⟨_, rfl, rfl, _, rfl, ifF rfl ⟨s711, h11, _, _, rfl⟩⟩
      | some p => exact absurd rfl hP.2.1
    · have c' := of_decide_eq_false c
      have nij : i ≠ j := fun z => c' (by rw [z, Int.zero_add])
      obtain ⟨fi1, fi2⟩ := e4' i hin
      obtain ⟨fj1, fj2⟩ := e4' j lj
      have endi : ∀ p : List Nat, (∀ x ∈ p, x < e) → endOf small i p = endOf rows (fAt fs i) p := fun p hp => by
        have z := end_small T S fi1 hp
        rw [fi2] at z
        exact z
      have endj : ∀ p : List Nat, (∀ x ∈ p, x < e) → endOf small j p = endOf rows (fAt fs j) p := fun p hp => by
        have z := end_small T S fj1 hp
        rw [fj2] at z
        exact z
      cases o with
      | none =>
        exfalso
        have z := (S.alike (fAt fs i) (fAt fs j) fi1 fj1).mpr (fun p hp => by rw [← endi p hp, ← endj p hp]; exact hP p hp)
        rw [fi2, fj2] at z
        exact nij z
      | some p =>
        obtain ⟨ap, rfl, hap⟩ := ho
        obtain ⟨hp, hne, _⟩ := hP
        refine ⟨_, rfl, _, rfl, ap, p, e, (by rw [l0e]; rfl), hap, hp, _, rfl, ifF rfl ?_⟩
        refine ⟨_, rfl, _, rfl, _, rfl, ps, ap, sv, small, n, e, i, _, p, rfl, Int.zero_add _, s611 _ _ hps6, hB6.mono (fun _ _ z => z.mono (KeepT.of s611)), T2, hin, hap, hp, fun q1 q2 q3 H12 s12 hq1 hq2 hq3 => ?_⟩
        have s612 := s611.trans s12
        refine ⟨_, rfl, _, rfl, _, rfl, ps, ap, sv, small, n, e, j, _, p, rfl, rfl, s612 _ _ hps6, hB6.mono (fun _ _ z => z.mono (KeepT.of s612)), T2, lj, s12 _ _ hap, hp, fun t1 t2 t3 H13 s13 ht1 ht2 ht3 => ?_⟩
        have s613 := s612.trans s13
        have hap13 := s13 _ _ (s12 _ _ hap)
        refine ⟨q1, t1, q2, q3, t2, t3, _, _, _, _, rfl, rfl, s13 _ _ hq1, ht1, s13 _ _ hq2, s13 _ _ hq3, ht2, ht3, _, rfl, ifF (ww_false hne) ?_⟩
        have hfi : atI (natsV fs) (0 + (i : Int)) = some (.int (fAt fs i : Int)) := by
          rw [Int.zero_add]
          exact nv_at (by omega)
        refine ⟨_, rfl, _, rfl, _, rfl, p2, _, _, _, rfl, rfl, SqL.of (s613 _ _ h6), hfi, _, rfl, ?_⟩
        refine ⟨pt, ap, rv, rows, m, e, fAt fs i, _, p, rfl, rfl, s613 _ _ hpt6, hA6.mono (fun _ _ z => z.mono (KeepT.of s613)), T, fi1, hap13, hp, fun q1 q2 q3 H14 s14 hq1 hq2 hq3 => ?_⟩
        have s614 := s613.trans s14
        refine ⟨_, rfl, _, rfl, _, rfl, p2, _, _, _, rfl, rfl, SqL.of (s614 _ _ h6), nv_at (by omega), _, rfl, ?_⟩
        refine ⟨pt, ap, rv, rows, m, e, fAt fs j, _, p, rfl, rfl, s614 _ _ hpt6, hA6.mono (fun _ _ z => z.mono (KeepT.of s614)), T, fj1, s14 _ _ hap13, hp, fun t1 t2 t3 H15 s15 ht1 ht2 ht3 => ?_⟩
        have hne2 : endOf rows (fAt fs i) p ≠ endOf rows (fAt fs j) p := by
          rw [← endi p hp, ← endj p hp]
          exact hne
        refine ⟨q1, t1, q2, q3, t2, t3, _, _, _, _, rfl, rfl, s15 _ _ hq1, ht1, s15 _ _ hq2, s15 _ _ hq3, ht2, ht3, _, rfl, ifF (ww_false hne2) ?_⟩
        have s1115 := s12.trans (s13.trans (s14.trans s15))
        exact ⟨s711.trans s1115, s1115 _ _ h11, _, _, rfl⟩
  rintro σ7 H7 ⟨s7, o8, o9, o10, rfl⟩
  have hpt7 := s7 _ _ hpt6
  refine ⟨_, rfl, pt, _, rfl, .inl (SqL.of hpt7), _, _, rfl, rfl, ?_⟩
  have el : ((rv.length : Nat) : Int) - 1 = ((m - 1 : Nat) : Int) := by omega
  simp only [el]
  refine ⟨_, rfl, pt, _, rfl, .inl (SqL.of hpt7), fun p8 hp8 => ?_⟩
  have s8 := same_new hp8 (.lst rv)
  have h8 : upd H7 p8 (.lst rv) p8 = some (.lst rv) := upd_same
  generalize upd H7 p8 (.lst rv) = H8 at s8 h8 ⊢
  have s68 := s7.trans s8
  have fl := S.lt (m - 1) (by omega)
  obtain ⟨g1, g2⟩ := e4' _ fl
  refine ⟨_, rfl, _, rfl, _, rfl, _, rfl, pf, _, _, _, rfl, rfl, SqL.of (s68 _ _ hpf6), nv_at (by omega), p2, _, _, _, rfl, rfl, SqL.of (s68 _ _ h6), nv_at (by omega), ?_⟩
  refine ⟨p8, rv, rows, m, e, m - 1, fAt fs (fAt fold (m - 1)), _, _, rfl, rfl, rfl, h8, hA6.mono (fun _ _ z => z.mono (KeepT.of s68)), T, m200, e8, by omega, g1, fun v o H9 s9 ho hP => ?_⟩
  cases o with
  | none =>
    have hv : v = .non := ho
    subst hv
    exact ⟨rfl, q H9⟩
  | some p =>
    exact absurd ((S.alike (m - 1) _ (by omega) g1).mp g2.symm p hP.1) hP.2.1
end
end Tb

namespace Tb
open PySem L2 Mix Gds
/-! the top -/
theorem all_mk {l : PySem.W.OpenLaw} {w : World} {K : PySem.W.Frag} {h : Heap} {mg : Str → Option Value} {fa f1 f2 f3 f4 f5 f6 f7 f8 f9 f10 f11 f12 f13 f14 f15 f16 f17 f18 f19 f20 : Addr} (X : K.In h) (G : h.Ns mainGlobals mg) (hfa : mg "law" = some (.ref fa))
    {od1 an1 od2 an2 od3 an3 od4 an4 od5 an5 od6 an6 od7 an7 od8 an8 od9 an9 od10 an10 od11 an11 od12 an12 od13 an13 od14 an14 od15 an15 od16 an16 od17 an17 od18 an18 od19 an19 od20 an20 : Option Addr} {sl1 sl2 sl3 sl4 sl5 sl6 sl7 sl8 sl9 sl10 sl11 sl12 sl13 sl14 sl15 sl16 sl17 sl18 sl19 sl20 : Array (Option Value)} {oc1 kV1 dc1 pm1 cd1 ct1 oc2 kV2 dc2 pm2 cd2 ct2 oc3 kV3 dc3 pm3 cd3 ct3 oc4 kV4 dc4 pm4 cd4 ct4 oc5 kV5 dc5 pm5 cd5 ct5 oc6 kV6 dc6 pm6 cd6 ct6 oc7 kV7 dc7 pm7 cd7 ct7 oc8 kV8 dc8 pm8 cd8 ct8 oc9 kV9 dc9 pm9 cd9 ct9 oc10 kV10 dc10 pm10 cd10 ct10 oc11 kV11 dc11 pm11 cd11 ct11 oc12 kV12 dc12 pm12 cd12 ct12 oc13 kV13 dc13 pm13 cd13 ct13 oc14 kV14 dc14 pm14 cd14 ct14 oc15 kV15 dc15 pm15 cd15 ct15 oc16 kV16 dc16 pm16 cd16 ct16 oc17 kV17 dc17 pm17 cd17 ct17 oc18 kV18 dc18 pm18 cd18 ct18 oc19 kV19 dc19 pm19 cd19 ct19 oc20 kV20 dc20 pm20 cd20 ct20 : Value}
    (a1 : PySem.W.nsIn K mainGlobals "is_parted" = some (some (.ref f1))) (l1 : K.lookup f1 = some ⟨oc1, od1, .func (PySem.W.fnOf "is_parted" "is_parted" (defArgs s_is_parted) (defBody s_is_parted) (defScope s_is_parted) .none kV1 dc1 pm1 an1 cd1 ct1), sl1⟩) (c1 : PySem.W.codeIn K cd1 "is_parted" = true) (k1 : PySem.W.keepIn K (.ref f1) = true)
    (a2 : PySem.W.nsIn K mainGlobals "pair_behind" = some (some (.ref f2))) (l2 : K.lookup f2 = some ⟨oc2, od2, .func (PySem.W.fnOf "pair_behind" "pair_behind" (defArgs s_pair_behind) (defBody s_pair_behind) (defScope s_pair_behind) .none kV2 dc2 pm2 an2 cd2 ct2), sl2⟩) (c2 : PySem.W.codeIn K cd2 "pair_behind" = true) (k2 : PySem.W.keepIn K (.ref f2) = true)
    (a3 : PySem.W.nsIn K mainGlobals "way_to" = some (some (.ref f3))) (l3 : K.lookup f3 = some ⟨oc3, od3, .func (PySem.W.fnOf "way_to" "way_to" (defArgs s_way_to) (defBody s_way_to) (defScope s_way_to) .none kV3 dc3 pm3 an3 cd3 ct3), sl3⟩) (c3 : PySem.W.codeIn K cd3 "way_to" = true) (k3 : PySem.W.keepIn K (.ref f3) = true)
    (a4 : PySem.W.nsIn K mainGlobals "parting" = some (some (.ref f4))) (l4 : K.lookup f4 = some ⟨oc4, od4, .func (PySem.W.fnOf "parting" "parting" (defArgs s_parting) (defBody s_parting) (defScope s_parting) .none kV4 dc4 pm4 an4 cd4 ct4), sl4⟩) (c4 : PySem.W.codeIn K cd4 "parting" = true) (k4 : PySem.W.keepIn K (.ref f4) = true)
    (a5 : PySem.W.nsIn K mainGlobals "numbered" = some (some (.ref f5))) (l5 : K.lookup f5 = some ⟨oc5, od5, .func (PySem.W.fnOf "numbered" "numbered" (defArgs s_numbered) (defBody s_numbered) (defScope s_numbered) .none kV5 dc5 pm5 an5 cd5 ct5), sl5⟩) (c5 : PySem.W.codeIn K cd5 "numbered" = true) (k5 : PySem.W.keepIn K (.ref f5) = true)
    (a6 : PySem.W.nsIn K mainGlobals "folded_moves" = some (some (.ref f6))) (l6 : K.lookup f6 = some ⟨oc6, od6, .func (PySem.W.fnOf "folded_moves" "folded_moves" (defArgs s_folded_moves) (defBody s_folded_moves) (defScope s_folded_moves) .none kV6 dc6 pm6 an6 cd6 ct6), sl6⟩) (c6 : PySem.W.codeIn K cd6 "folded_moves" = true) (k6 : PySem.W.keepIn K (.ref f6) = true)
    (a7 : PySem.W.nsIn K mainGlobals "finer" = some (some (.ref f7))) (l7 : K.lookup f7 = some ⟨oc7, od7, .func (PySem.W.fnOf "finer" "finer" (defArgs s_finer) (defBody s_finer) (defScope s_finer) .none kV7 dc7 pm7 an7 cd7 ct7), sl7⟩) (c7 : PySem.W.codeIn K cd7 "finer" = true) (k7 : PySem.W.keepIn K (.ref f7) = true)
    (a8 : PySem.W.nsIn K mainGlobals "alike" = some (some (.ref f8))) (l8 : K.lookup f8 = some ⟨oc8, od8, .func (PySem.W.fnOf "alike" "alike" (defArgs s_alike) (defBody s_alike) (defScope s_alike) .none kV8 dc8 pm8 an8 cd8 ct8), sl8⟩) (c8 : PySem.W.codeIn K cd8 "alike" = true) (k8 : PySem.W.keepIn K (.ref f8) = true)
    (a9 : PySem.W.nsIn K mainGlobals "shrunk" = some (some (.ref f9))) (l9 : K.lookup f9 = some ⟨oc9, od9, .func (PySem.W.fnOf "shrunk" "shrunk" (defArgs s_shrunk) (defBody s_shrunk) (defScope s_shrunk) .none kV9 dc9 pm9 an9 cd9 ct9), sl9⟩) (c9 : PySem.W.codeIn K cd9 "shrunk" = true) (k9 : PySem.W.keepIn K (.ref f9) = true)
    (a10 : PySem.W.nsIn K mainGlobals "_law_cell_at" = some (some (.ref f10))) (l10 : K.lookup f10 = some ⟨oc10, od10, .func (PySem.W.fnOf "_law_cell_at" "_law_cell_at" (defArgs sCell) (defBody sCell) (defScope sCell) .none kV10 dc10 pm10 an10 cd10 ct10), sl10⟩) (c10 : PySem.W.codeIn K cd10 "_law_cell_at" = true) (k10 : PySem.W.keepIn K (.ref f10) = true)
    (a11 : PySem.W.nsIn K mainGlobals "_law_mixed" = some (some (.ref f11))) (l11 : K.lookup f11 = some ⟨oc11, od11, .func (PySem.W.fnOf "_law_mixed" "_law_mixed" (defArgs sMixed) (defBody sMixed) (defScope sMixed) .none kV11 dc11 pm11 an11 cd11 ct11), sl11⟩) (c11 : PySem.W.codeIn K cd11 "_law_mixed" = true) (k11 : PySem.W.keepIn K (.ref f11) = true)
    (a12 : PySem.W.nsIn K mainGlobals "_law_word" = some (some (.ref f12))) (l12 : K.lookup f12 = some ⟨oc12, od12, .func (PySem.W.fnOf "_law_word" "_law_word" (defArgs s_L_word) (defBody s_L_word) (defScope s_L_word) .none kV12 dc12 pm12 an12 cd12 ct12), sl12⟩) (c12 : PySem.W.codeIn K cd12 "_law_word" = true) (k12 : PySem.W.keepIn K (.ref f12) = true)
    (a13 : PySem.W.nsIn K mainGlobals "_law_some" = some (some (.ref f13))) (l13 : K.lookup f13 = some ⟨oc13, od13, .func (PySem.W.fnOf "_law_some" "_law_some" (defArgs s_L_some) (defBody s_L_some) (defScope s_L_some) .none kV13 dc13 pm13 an13 cd13 ct13), sl13⟩) (c13 : PySem.W.codeIn K cd13 "_law_some" = true) (k13 : PySem.W.keepIn K (.ref f13) = true)
    (a14 : PySem.W.nsIn K mainGlobals "_law_words" = some (some (.ref f14))) (l14 : K.lookup f14 = some ⟨oc14, od14, .func (PySem.W.fnOf "_law_words" "_law_words" (defArgs s_L_words) (defBody s_L_words) (defScope s_L_words) .none kV14 dc14 pm14 an14 cd14 ct14), sl14⟩) (c14 : PySem.W.codeIn K cd14 "_law_words" = true) (k14 : PySem.W.keepIn K (.ref f14) = true)
    (a15 : PySem.W.nsIn K mainGlobals "_law_row" = some (some (.ref f15))) (l15 : K.lookup f15 = some ⟨oc15, od15, .func (PySem.W.fnOf "_law_row" "_law_row" (defArgs sRow) (defBody sRow) (defScope sRow) .none kV15 dc15 pm15 an15 cd15 ct15), sl15⟩) (c15 : PySem.W.codeIn K cd15 "_law_row" = true) (k15 : PySem.W.keepIn K (.ref f15) = true)
    (a16 : PySem.W.nsIn K mainGlobals "_law_line" = some (some (.ref f16))) (l16 : K.lookup f16 = some ⟨oc16, od16, .func (PySem.W.fnOf "_law_line" "_law_line" (defArgs s_L_line) (defBody s_L_line) (defScope s_L_line) .none kV16 dc16 pm16 an16 cd16 ct16), sl16⟩) (c16 : PySem.W.codeIn K cd16 "_law_line" = true) (k16 : PySem.W.keepIn K (.ref f16) = true)
    (a17 : PySem.W.nsIn K mainGlobals "_law_table" = some (some (.ref f17))) (l17 : K.lookup f17 = some ⟨oc17, od17, .func (PySem.W.fnOf "_law_table" "_law_table" (defArgs s_L_table) (defBody s_L_table) (defScope s_L_table) .none kV17 dc17 pm17 an17 cd17 ct17), sl17⟩) (c17 : PySem.W.codeIn K cd17 "_law_table" = true) (k17 : PySem.W.keepIn K (.ref f17) = true)
    (a18 : PySem.W.nsIn K mainGlobals "_law_end" = some (some (.ref f18))) (l18 : K.lookup f18 = some ⟨oc18, od18, .func (PySem.W.fnOf "_law_end" "_law_end" (defArgs s_L_end) (defBody s_L_end) (defScope s_L_end) .none kV18 dc18 pm18 an18 cd18 ct18), sl18⟩) (c18 : PySem.W.codeIn K cd18 "_law_end" = true) (k18 : PySem.W.keepIn K (.ref f18) = true)
    (a19 : PySem.W.nsIn K mainGlobals "_law_is_way" = some (some (.ref f19))) (l19 : K.lookup f19 = some ⟨oc19, od19, .func (PySem.W.fnOf "_law_is_way" "_law_is_way" (defArgs s_L_is_way) (defBody s_L_is_way) (defScope s_L_is_way) .none kV19 dc19 pm19 an19 cd19 ct19), sl19⟩) (c19 : PySem.W.codeIn K cd19 "_law_is_way" = true) (k19 : PySem.W.keepIn K (.ref f19) = true)
    (a20 : PySem.W.nsIn K mainGlobals "law" = some (some (.ref f20))) (l20 : K.lookup f20 = some ⟨oc20, od20, .func (PySem.W.fnOf "law" "law" (defArgs sLawF) (defBody sLawF) (defScope sLawF) .none kV20 dc20 pm20 an20 cd20 ct20), sl20⟩) (c20 : PySem.W.codeIn K cd20 "law" = true) (k20 : PySem.W.keepIn K (.ref f20) = true)
    (z1 : PySem.W.nsIn K mainGlobals "len" = some none) (z2 : PySem.W.nsIn K mainGlobals "list" = some none) (z3 : PySem.W.nsIn K mainGlobals "max" = some none) (z4 : PySem.W.nsIn K mainGlobals "min" = some none) (z5 : PySem.W.nsIn K mainGlobals "range" = some none) (z6 : PySem.W.nsIn K mainGlobals "tuple" = some none) (z7 : PySem.W.nsIn K mainGlobals "isinstance" = some none) (z8 : PySem.W.nsIn K mainGlobals "int" = some none) (z9 : PySem.W.nsIn K mainGlobals "bool" = some none) (z10 : PySem.W.nsIn K mainGlobals "reversed" = some none) (z11 : PySem.W.nsIn K mainGlobals "zip" = some none) (z12 : PySem.W.nsIn K mainGlobals "enumerate" = some none) (z13 : PySem.W.nsIn K mainGlobals "str" = some none) :
    ∃ fd : FuncData, (∀ (s : Shared) (v : Value), BindsTo s fd ⟨[v], []⟩ [("_law_script", v)]) ∧ ∀ base : Heap, K.In base → base.Ns mainGlobals mg → FnOk l.prog w K mg base CX0 7 fa fd ["_law_script"] (spLaw K) := by
  have e := hfa.symm.trans (PySem.W.mg_of X G a20)
  cases e
  have F1 := fun_mk (st := s_is_parted) l1 c1 k1
  have F2 := fun_mk (st := s_pair_behind) l2 c2 k2
  have F3 := fun_mk (st := s_way_to) l3 c3 k3
  have F4 := fun_mk (st := s_parting) l4 c4 k4
  have F5 := fun_mk (st := s_numbered) l5 c5 k5
  have F6 := fun_mk (st := s_folded_moves) l6 c6 k6
  have F7 := fun_mk (st := s_finer) l7 c7 k7
  have F8 := fun_mk (st := s_alike) l8 c8 k8
  have F9 := fun_mk (st := s_shrunk) l9 c9 k9
  have F10 := fun_mk (st := sCell) l10 c10 k10
  have F11 := fun_mk (st := sMixed) l11 c11 k11
  have F12 := fun_mk (st := s_L_word) l12 c12 k12
  have F13 := fun_mk (st := s_L_some) l13 c13 k13
  have F14 := fun_mk (st := s_L_words) l14 c14 k14
  have F15 := fun_mk (st := sRow) l15 c15 k15
  have F16 := fun_mk (st := s_L_line) l16 c16 k16
  have F17 := fun_mk (st := s_L_table) l17 c17 k17
  have F18 := fun_mk (st := s_L_end) l18 c18 k18
  have F19 := fun_mk (st := s_L_is_way) l19 c19 k19
  have F20 := fun_mk (st := sLawF) l20 c20 k20
  have b1 := F1.binds (ps := ["rows", "pair", "event"]) fun _ _ _ _ _ _ us hl => match us, hl with | [_, _, _], _ => rfl
  have m1 := PySem.W.mg_of X G a1
  have b2 := F2.binds (ps := ["rows", "pair", "event"]) fun _ _ _ _ _ _ us hl => match us, hl with | [_, _, _], _ => rfl
  have m2 := PySem.W.mg_of X G a2
  have b3 := F3.binds (ps := ["origins", "pair"]) fun _ _ _ _ _ _ us hl => match us, hl with | [_, _], _ => rfl
  have m3 := PySem.W.mg_of X G a3
  have b4 := F4.binds (ps := ["rows", "one", "other"]) fun _ _ _ _ _ _ us hl => match us, hl with | [_, _, _], _ => rfl
  have m4 := PySem.W.mg_of X G a4
  have b5 := F5.binds (ps := ["looks"]) fun _ _ _ _ _ _ us hl => match us, hl with | [_], _ => rfl
  have m5 := PySem.W.mg_of X G a5
  have b6 := F6.binds (ps := ["row", "fold"]) fun _ _ _ _ _ _ us hl => match us, hl with | [_, _], _ => rfl
  have m6 := PySem.W.mg_of X G a6
  have b7 := F7.binds (ps := ["rows", "fold"]) fun _ _ _ _ _ _ us hl => match us, hl with | [_, _], _ => rfl
  have m7 := PySem.W.mg_of X G a7
  have b8 := F8.binds (ps := ["rows"]) fun _ _ _ _ _ _ us hl => match us, hl with | [_], _ => rfl
  have m8 := PySem.W.mg_of X G a8
  have b9 := F9.binds (ps := ["rows"]) fun _ _ _ _ _ _ us hl => match us, hl with | [_], _ => rfl
  have m9 := PySem.W.mg_of X G a9
  have b10 := F10.binds (ps := ["_law_script", "_law_k"]) fun _ _ _ _ _ _ us hl => match us, hl with | [_, _], _ => rfl
  have m10 := PySem.W.mg_of X G a10
  have b11 := F11.binds (ps := ["_law_script", "_law_k", "_law_salt"]) fun _ _ _ _ _ _ us hl => match us, hl with | [_, _, _], _ => rfl
  have m11 := PySem.W.mg_of X G a11
  have b12 := F12.binds (ps := ["_law_number", "_law_letter"]) fun _ _ _ _ _ _ us hl => match us, hl with | [_, _], _ => rfl
  have m12 := PySem.W.mg_of X G a12
  have b13 := F13.binds (ps := ["_law_script", "_law_number"]) fun _ _ _ _ _ _ us hl => match us, hl with | [_, _], _ => rfl
  have m13 := PySem.W.mg_of X G a13
  have b14 := F14.binds (ps := ["_law_script", "_law_k", "_law_salt"]) fun _ _ _ _ _ _ us hl => match us, hl with | [_, _, _], _ => rfl
  have m14 := PySem.W.mg_of X G a14
  have b15 := F15.binds (ps := ["_law_script", "_law_k", "_law_base", "_law_many", "_law_events"]) fun _ _ _ _ _ _ us hl => match us, hl with | [_, _, _, _, _], _ => rfl
  have m15 := PySem.W.mg_of X G a15
  have b16 := F16.binds (ps := ["_law_script", "_law_many", "_law_events"]) fun _ _ _ _ _ _ us hl => match us, hl with | [_, _, _], _ => rfl
  have m16 := PySem.W.mg_of X G a16
  have b17 := F17.binds (ps := ["_law_script"]) fun _ _ _ _ _ _ us hl => match us, hl with | [_], _ => rfl
  have m17 := PySem.W.mg_of X G a17
  have b18 := F18.binds (ps := ["_law_rows", "_law_at", "_law_way"]) fun _ _ _ _ _ _ us hl => match us, hl with | [_, _, _], _ => rfl
  have m18 := PySem.W.mg_of X G a18
  have b19 := F19.binds (ps := ["_law_found", "_law_events"]) fun _ _ _ _ _ _ us hl => match us, hl with | [_, _], _ => rfl
  have m19 := PySem.W.mg_of X G a19
  have n_len := PySem.W.mg_none_of X G z1
  have n_list := PySem.W.mg_none_of X G z2
  have n_max := PySem.W.mg_none_of X G z3
  have n_min := PySem.W.mg_none_of X G z4
  have n_range := PySem.W.mg_none_of X G z5
  have n_tuple := PySem.W.mg_none_of X G z6
  have n_isinstance := PySem.W.mg_none_of X G z7
  have n_int := PySem.W.mg_none_of X G z8
  have n_bool := PySem.W.mg_none_of X G z9
  have n_reversed := PySem.W.mg_none_of X G z10
  have n_zip := PySem.W.mg_none_of X G z11
  have n_enumerate := PySem.W.mg_none_of X G z12
  have n_str := PySem.W.mg_none_of X G z13
  refine ⟨PySem.W.fnOf "law" "law" (defArgs sLawF) (defBody sLawF) (defScope sLawF) .none kV20 dc20 pm20 an20 cd20 ct20, fun s v => .of_eq rfl, fun base _ _ => ?_⟩
  have G1 := ok_is_parted (P := l.prog) (w := w) (base := base) (mg := mg) F1
  have G2 := ok_pair_behind (P := l.prog) (w := w) (base := base) (mg := mg) F2 n_min n_max
  have G3 := ok_way_to (P := l.prog) (w := w) (base := base) (mg := mg) F3 n_tuple n_reversed
  have G4 := ok_parting (P := l.prog) (w := w) (base := base) (mg := mg) F4 G1 b1 k1 m1 G2 b2 k2 m2 G3 b3 k3 m3 n_len n_range
  have G5 := ok_numbered (P := l.prog) (w := w) (base := base) (mg := mg) F5 n_len
  have G6 := ok_folded_moves (P := l.prog) (w := w) (base := base) (mg := mg) F6 n_tuple
  have G7 := ok_finer (P := l.prog) (w := w) (base := base) (mg := mg) F7 G5 b5 k5 m5 G6 b6 k6 m6 n_zip
  have G8 := ok_alike (P := l.prog) (w := w) (base := base) (mg := mg) F8 (G5.mono (show 1 ≤ 2 by decide)) b5 k5 m5 G7 b7 k7 m7
  have G9 := ok_shrunk (P := l.prog) (w := w) (base := base) (mg := mg) F9 G8 b8 k8 m8 (G6.mono (show 1 ≤ 3 by decide)) b6 k6 m6 n_enumerate
  have G10 := ok_cell (P := l.prog) (w := w) (base := base) (mg := mg) F10 n_len
  have G11 := ok_mixed (P := l.prog) (w := w) (base := base) (mg := mg) F11 G10 b10 k10 m10 n_len n_max
  have G12 := ok_word (P := l.prog) (w := w) (base := base) (mg := mg) F12 n_len
  have G13 := ok_some (P := l.prog) (w := w) (base := base) (mg := mg) F13 G11 b11 k11 m11 (G12.mono (show 1 ≤ 2 by decide)) b12 k12 m12 n_len
  have G14 := ok_words (P := l.prog) (w := w) (base := base) (mg := mg) F14 (G11.mono (show 2 ≤ 3 by decide)) b11 k11 m11 G13 b13 k13 m13
  have G15 := ok_row (P := l.prog) (w := w) (base := base) (mg := mg) F15 (G11.mono (show 2 ≤ 4 by decide)) b11 k11 m11 G14 b14 k14 m14 n_range n_tuple
  have G16 := ok_line (P := l.prog) (w := w) (base := base) (mg := mg) F16 (G11.mono (show 2 ≤ 3 by decide)) b11 k11 m11 G13 b13 k13 m13 n_range n_tuple
  have G17 := ok_table (P := l.prog) (w := w) (base := base) (mg := mg) F17 (G11.mono (show 2 ≤ 5 by decide)) b11 k11 m11 G15 b15 k15 m15 (G16.mono (show 4 ≤ 5 by decide)) b16 k16 m16 n_range
  have G18 := ok_lend (P := l.prog) (w := w) (base := base) (mg := mg) F18
  have G19 := ok_is_way (P := l.prog) (w := w) (base := base) (mg := mg) F19 n_isinstance n_tuple n_int n_bool
  exact ok_law (n0 := 6) F20 G17 b17 k17 m17 (G11.mono (show 2 ≤ 6 by decide)) b11 k11 m11 (G4.mono (show 2 ≤ 6 by decide)) b4 k4 m4 (G9.mono (show 4 ≤ 6 by decide)) b9 k9 m9 (G19.mono (show 1 ≤ 6 by decide)) b19 k19 m19 (G18.mono (show 1 ≤ 6 by decide)) b18 k18 m18 n_len n_list n_range
theorem walk {l : PySem.W.OpenLaw} {q : Program} {loose : List Str} {XP : (Str → Option Value) → Heap → Prop} {YP : World → Heap → Prop} {d : DefRec} {K : Params → PySem.W.Frag} (hn : l.most = some 63) (hdf : d.params.defaults = []) (hY : ∀ (w : World) (h : Heap), YP w h → (K w.params).In h)
    (F : ∀ (w : World) (mg : Str → Option Value) (fa : Addr) (h : Heap), (K w.params).In h → h.Ns mainGlobals mg → mg d.name = some (.ref fa) → ∃ fd : FuncData, (∀ (s : Shared) (u : Value), BindsTo s fd ⟨[u], []⟩ [("_law_script", u)]) ∧ ∀ base : Heap, (K w.params).In base → base.Ns mainGlobals mg → FnOk l.prog w (K w.params) mg base CX0 7 fa fd ["_law_script"] (spLaw (K w.params))) :
    PySem.W.WalkO q loose XP YP l.row.toRowW d [] (fun f vs => PySem.call f vs) :=
  L2.walk_of (n := 63) (k := 7) (x := "_law_script") (CX := fun _ => CX0) (sp := fun w => spLaw (K w.params)) hn (by decide) hdf ⟨rfl, by decide, by decide⟩ hY F (fun _ _ a ns hl _ hS => ⟨a, ns, rfl, hS, hl, fun _ => rfl⟩) fun _ _ _ _ _ z => z
end Tb
open PySem PySem.W PyProof.Rows
set_option maxRecDepth 100000 in
set_option maxHeartbeats 0 in
theorem PySem.Challenge.cw_nesthall_k38_small_rows_are_parted_holds : PySem.Challenge.rw_nesthall_k38_small_rows_are_parted.Holds := by
  w_on; o_law; k_head; (case hw => w_witness2)
  k_fill
  refine Tb.walk (l := PySem.Challenge.rw_nesthall_k38_small_rows_are_parted) rfl rfl (fun w h Y => PySem.W.kIn_of Y) ?F
  case F =>
    intro w mg fa h KX G hmg
    refine' Tb.all_mk KX G hmg ?a1 ?l1 ?c1 ?k1 ?a2 ?l2 ?c2 ?k2 ?a3 ?l3 ?c3 ?k3 ?a4 ?l4 ?c4 ?k4 ?a5 ?l5 ?c5 ?k5 ?a6 ?l6 ?c6 ?k6 ?a7 ?l7 ?c7 ?k7 ?a8 ?l8 ?c8 ?k8 ?a9 ?l9 ?c9 ?k9 ?a10 ?l10 ?c10 ?k10 ?a11 ?l11 ?c11 ?k11 ?a12 ?l12 ?c12 ?k12 ?a13 ?l13 ?c13 ?k13 ?a14 ?l14 ?c14 ?k14 ?a15 ?l15 ?c15 ?k15 ?a16 ?l16 ?c16 ?k16 ?a17 ?l17 ?c17 ?k17 ?a18 ?l18 ?c18 ?k18 ?a19 ?l19 ?c19 ?k19 ?a20 ?l20 ?c20 ?k20 ?z1 ?z2 ?z3 ?z4 ?z5 ?z6 ?z7 ?z8 ?z9 ?z10 ?z11 ?z12 ?z13
    (case a1 => k_is)
    (case l1 => k_is)
    (case c1 => k_is)
    (case k1 => k_is)
    (case a2 => k_is)
    (case l2 => k_is)
    (case c2 => k_is)
    (case k2 => k_is)
    (case a3 => k_is)
    (case l3 => k_is)
    (case c3 => k_is)
    (case k3 => k_is)
    (case a4 => k_is)
    (case l4 => k_is)
    (case c4 => k_is)
    (case k4 => k_is)
    (case a5 => k_is)
    (case l5 => k_is)
    (case c5 => k_is)
    (case k5 => k_is)
    (case a6 => k_is)
    (case l6 => k_is)
    (case c6 => k_is)
    (case k6 => k_is)
    (case a7 => k_is)
    (case l7 => k_is)
    (case c7 => k_is)
    (case k7 => k_is)
    (case a8 => k_is)
    (case l8 => k_is)
    (case c8 => k_is)
    (case k8 => k_is)
    (case a9 => k_is)
    (case l9 => k_is)
    (case c9 => k_is)
    (case k9 => k_is)
    (case a10 => k_is)
    (case l10 => k_is)
    (case c10 => k_is)
    (case k10 => k_is)
    (case a11 => k_is)
    (case l11 => k_is)
    (case c11 => k_is)
    (case k11 => k_is)
    (case a12 => k_is)
    (case l12 => k_is)
    (case c12 => k_is)
    (case k12 => k_is)
    (case a13 => k_is)
    (case l13 => k_is)
    (case c13 => k_is)
    (case k13 => k_is)
    (case a14 => k_is)
    (case l14 => k_is)
    (case c14 => k_is)
    (case k14 => k_is)
    (case a15 => k_is)
    (case l15 => k_is)
    (case c15 => k_is)
    (case k15 => k_is)
    (case a16 => k_is)
    (case l16 => k_is)
    (case c16 => k_is)
    (case k16 => k_is)
    (case a17 => k_is)
    (case l17 => k_is)
    (case c17 => k_is)
    (case k17 => k_is)
    (case a18 => k_is)
    (case l18 => k_is)
    (case c18 => k_is)
    (case k18 => k_is)
    (case a19 => k_is)
    (case l19 => k_is)
    (case c19 => k_is)
    (case k19 => k_is)
    (case a20 => k_is)
    (case l20 => k_is)
    (case c20 => k_is)
    (case k20 => k_is)
    (case z1 => k_is)
    (case z2 => k_is)
    (case z3 => k_is)
    (case z4 => k_is)
    (case z5 => k_is)
    (case z6 => k_is)
    (case z7 => k_is)
    (case z8 => k_is)
    (case z9 => k_is)
    (case z10 => k_is)
    (case z11 => k_is)
    (case z12 => k_is)
    (case z13 => k_is)
