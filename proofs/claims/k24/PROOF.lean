import PyProof.Rows.All
import Wide.All
import OpenK.AllK
import Wide.FinOn
import Lean
import PyProof.EqAt
import PyProof.EqKinds
import PyProof.TupleCall
import PySem.Challenge.RW_nesthall_k24_a_door_closes_what_it_opene
set_option Elab.async false
set_option linter.all false
set_option maxRecDepth 100000
abbrev zl0 := @List.length_map
abbrev zl1 := @List.getElem?_eq_getElem
abbrev zl2 := @List.length_append
abbrev zl3 := @Nat.le_refl
abbrev zl4 := @List.getElem?_eq_some_iff
abbrev zl5 := @List.size_toArray
abbrev zl6 := @Bool.false_ne_true
abbrev zl7 := @Option.some.inj
abbrev zl8 := @List.map_append
abbrev zl9 := @List.take_of_length_le
abbrev zl10 := @List.mem_singleton
abbrev zl11 := @List.getD_eq_getElem?_getD
abbrev zl12 := @List.length_cons
abbrev zl13 := @List.length_take
abbrev zl14 := @List.take_add_one
abbrev zl15 := @List.length_singleton
abbrev zl16 := @List.mem_cons
abbrev zl17 := @List.append_nil
abbrev zl18 := @List.mem_append
abbrev zl19 := @List.mem_map
abbrev zl20 := @List.getElem?_map
abbrev zl21 := @List.length_filter_le
abbrev zl22 := @List.getElem_mem
abbrev zl23 := @List.mem_filter
abbrev zl24 := @Int.toNat_natCast
abbrev KI (K : PySem.W.Frag) (a : PySem.Addr) : Prop := PySem.W.keepIn K (.ref a) = true
namespace L2
open PySem PySem.Spec PyProof.Rows
abbrev Key := Sum Int Str
def keyIs : Key -> Value -> Bool
  | .inl k, v => Value.isInt k v
  | .inr x, v => Value.isStrOf x v
def keyH (w : World) : Key -> Int
  | .inl k => hashInt k
  | .inr x => hashStr w x
theorem keyIs_shape : ∀ {k : Key} {v : Value}, keyIs k v = true -> (∃ i t, k = Sum.inl i /\ v = Value.int i t) ∨ (∃ x t, k = Sum.inr x /\ v = Value.str x t)
  | .inl i, v, h => by
    obtain ⟨t, e⟩ := Value.isInt_shape (k := i) (v := v) h
    exact .inl ⟨i, t, rfl, e⟩
  | .inr x, v, h => by
    obtain ⟨t, e⟩ := Value.isStrOf_shape (x := x) (v := v) h
    exact .inr ⟨x, t, rfl, e⟩
theorem key_ll (a b : Int) : decide ((Sum.inl a : Key) = Sum.inl b) = (a == b) := by
  by_cases e : a = b
  · subst e; simp
  · have h : ¬ (Sum.inl a : Key) = Sum.inl b := fun q => e (Sum.inl.inj q)
    rw [decide_eq_false h]
    exact (beq_eq_false_iff_ne.mpr e).symm
theorem key_rr (a b : Str) : decide ((Sum.inr a : Key) = Sum.inr b) = decide (a = b) := by
  by_cases e : a = b
  · subst e; simp
  · have h : ¬ (Sum.inr a : Key) = Sum.inr b := fun q => e (Sum.inr.inj q)
    rw [decide_eq_false h, decide_eq_false e]
theorem key_lr (a : Int) (b : Str) : decide ((Sum.inl a : Key) = Sum.inr b) = false := decide_eq_false (fun q => nomatch q)
theorem key_rl (a : Str) (b : Int) : decide ((Sum.inr a : Key) = Sum.inl b) = false := decide_eq_false (fun q => nomatch q)
def mixKind (prog : Program) (w : World) : PySem.KeyKind prog w Key where
  is := keyIs
  hash := keyH w
  inj := fun v a b ha hb => by
    rcases keyIs_shape ha with ⟨i, t, rfl, rfl⟩ | ⟨x, t, rfl, rfl⟩
    · rcases keyIs_shape hb with ⟨j, u, rfl, e⟩ | ⟨y, u, rfl, e⟩
      · injection e with e1 _; rw [e1]
      · exact nomatch e
    · rcases keyIs_shape hb with ⟨j, u, rfl, e⟩ | ⟨y, u, rfl, e⟩
      · exact nomatch e
      · injection e with e1 _; rw [e1]
  byValue := fun k v h => by
    rcases keyIs_shape h with ⟨i, t, rfl, rfl⟩ | ⟨x, t, rfl, rfl⟩ <;> rfl
  pyHash := fun hv h => by
    rcases keyIs_shape hv with ⟨i, t, rfl, rfl⟩ | ⟨x, t, rfl, rfl⟩
    · exact wpAny_pyHash_int h
    · exact wpAny_pyHash_str h
  eqBool := fun hu hv h => by
    rcases keyIs_shape hu with ⟨i, t, rfl, rfl⟩ | ⟨x, t, rfl, rfl⟩
    · rcases keyIs_shape hv with ⟨j, u, rfl, rfl⟩ | ⟨y, u, rfl, rfl⟩
      · rw [key_ll] at h; exact wpAny_eqBool_int h
      · rw [key_lr] at h; exact SeqAt.EqAt.int_str i t y u _ _ _ _ h
    · rcases keyIs_shape hv with ⟨j, u, rfl, rfl⟩ | ⟨y, u, rfl, rfl⟩
      · rw [key_rl] at h; exact SeqAt.EqAt.str_int x t j u _ _ _ _ h
      · rw [key_rr] at h; exact wpAny_eqBool_str h
  «strs» := fun k x t v h => by
    rcases keyIs_shape h with ⟨i, u, rfl, e⟩ | ⟨y, u, rfl, e⟩
    · exact nomatch e
    · injection e with e1 _
      subst e1
      cases v <;> rfl
end L2
namespace L2
open PySem PySem.Spec PyProof.Rows
inductive V where
  | non | bl (b : Bool) | int (i : Int) | str (x : Str) | byt (b : Array UInt8) | flt (b : UInt64) | ref (a : Addr) | ty (n : String)
  deriving DecidableEq
def RelV : V -> Value -> Prop
  | .non, u => u = Value.none
  | .bl b, u => u = Value.bool b
  | .int i, u => ∃ t, u = Value.int i t
  | .str x, u => ∃ t, u = Value.str x t
  | .byt b, u => ∃ t, u = Value.bytes b t
  | .flt b, u => ∃ t, u = Value.float b t
  | .ref a, u => u = Value.ref a
  | .ty n, u => u = Value.type n
abbrev Vals : List V -> List Value -> Prop := Paired RelV
theorem Vals.length {xs : List V} {us : List Value} (r : Vals xs us) : xs.length = us.length := Paired.length r
theorem Vals.get : ∀ {xs : List V} {us : List Value} {i : Nat} {x : V}, Vals xs us -> xs[i]? = some x -> ∃ u, us[i]? = some u /\ RelV x u
  | _, _, _, _, .nil, e => by simp at e
  | _, _, 0, _, .cons r _, e => by simp at e; subst e; exact ⟨_, rfl, r⟩
  | _, _, i + 1, x, .cons _ t, e => by
    obtain ⟨u, h1, h2⟩ := Vals.get (i := i) (x := x) t (by simpa using e)
    exact ⟨u, by simpa using h1, h2⟩
theorem Vals.set {x : V} {u : Value} (r : RelV x u) : ∀ {xs : List V} {us : List Value} (i : Nat), Vals xs us -> Vals (xs.set i x) (us.set i u)
  | _, _, _, .nil => .nil
  | _, _, 0, .cons _ t => .cons r t
  | _, _, i + 1, .cons q t => .cons q (Vals.set r i t)
theorem Vals.append : ∀ {xs ys : List V} {us ws : List Value}, Vals xs us -> Vals ys ws -> Vals (xs ++ ys) (us ++ ws)
  | _, _, _, _, .nil, s => s
  | _, _, _, _, .cons r t, s => .cons r (Vals.append t s)
theorem Vals.take : ∀ {xs : List V} {us : List Value} (n : Nat), Vals xs us -> Vals (xs.take n) (us.take n)
  | _, _, 0, _ => .nil
  | _, _, _ + 1, .nil => .nil
  | _, _, n + 1, .cons r t => .cons r (Vals.take n t)
theorem Vals.drop : ∀ {xs : List V} {us : List Value} (n : Nat), Vals xs us -> Vals (xs.drop n) (us.drop n)
  | _, _, 0, r => r
  | _, _, _ + 1, .nil => .nil
  | _, _, n + 1, .cons _ t => Vals.drop n t
def RelO : Option V -> Option Value -> Prop
  | some v, some u => RelV v u
  | none, none => True
  | _, _ => False
def KV {κ : Type} : List (κ × V) -> List (κ × Value) -> Prop := Paired fun (p : κ × V) (q : κ × Value) => p.1 = q.1 /\ RelV p.2 q.2
def kV : Key -> V
  | .inl i => .int i
  | .inr x => .str x
inductive HO where
    | lst (xs : List V)
    | tup (xs : List V)
    | dK (kvs : List (Key × V)) | dT (kvs : List (List Key × V))
    | set (S : Int -> Bool) (n : Nat)
    | ins (C dx : Addr) (fs : List (Str × V))
    | own (x : Addr)
    | xd (fs : List (Str × V))
    | met (f x : Addr)
    | rng (lo hi : Int)
    | frz (o : Obj) (u : HO)
    | tbl (ps : Array Value)
    | ext (φ : Heap -> Prop)
abbrev Hp := Addr -> Option HO
def upd (H : Hp) (a : Addr) (o : HO) : Hp := fun b => if b = a then some o else H b
theorem zC {H : Hp} {a : Addr} {o : HO} : upd H a o a = some o := by unfold upd; rw [if_pos rfl]
theorem zQ {H : Hp} {a b : Addr} {o : HO} (h : b ≠ a) : upd H a o b = H b := by unfold upd; rw [if_neg h]
theorem ne_of {H : Hp} {a b : Addr} {o u : HO} (h : H a = some o) (h' : H b = some u) (d : o ≠ u) : a ≠ b := by
  intro e; subst e; rw [h] at h'; exact d (zl7 h')
theorem zM {H : Hp} {a b : Addr} {o : HO} (h : H a = some o) (h' : H b = none) : a ≠ b := by
  intro e; subst e; rw [h] at h'; cases h'
section
variable (P : Program) (w : World)
def ObjOk (H : Hp) (h : Heap) (a : Addr) : HO -> Prop
  | .lst xs => xs.length <= sizeLine /\ ∃ (its : List Value) (n : Nat), Vals xs its /\ h.get? a = some { cls := .type "list", data := .seq its.toArray n }
  | .tup xs => xs.length <= sizeLine /\ ∃ its : List Value, Vals xs its /\ IsTup h a its.toArray
  | .dK kvs => kvs.length <= sizeLine /\ (a == sysModules) = false /\ ∃ vs, KV kvs vs /\ h.DictOf (mixKind P w) a vs
  | .dT kvs => kvs.length <= sizeLine /\ (a == sysModules) = false /\ ∃ xs : List (List Key × Addr × Value),
      Paired (fun (p : List Key × V) (q : List Key × Addr × Value) => p.1 = q.1 /\ H q.2.1 = some (.tup (p.1.map kV)) /\ RelV p.2 q.2.2) kvs xs ∧
      ∃ o es ep, h.get? a = some o /\ o.ExactDict /\ o.data = .dict es ep /\ es.toList = xs.map (entryOfKey (tupleKind (mixKind P w))) /\ (xs.map (·.1)).Nodup
  | .set S n => h.SetOf (intKind P w) a S n
  | .ins C dx fs => H dx = some (.own a) /\ fs.length <= 1000 /\ dx ≠ a /\ h.get? a = some (PySem.W.instObj C dx) ∧
      ∃ mA, h.Ns1 dx mA /\ (∀ f, RelO (fs.lookup f) (mA f)) /\ PySem.Within mA (fs.map (·.1))
  | .own _ => ∃ o, h.get? a = some o
  | .xd fs => ∃ mA, h.Ns1 a mA /\ ∀ f, RelO (fs.lookup f) (mA f)
  | .rng lo hi => ∃ t u v, h.get? a = some { cls := .type "range", data := .fields #[.int lo t, .int hi u, .int 1 v] }
  | .frz o u => h.get? a = some o /\ ObjOk H h a u
  | .tbl ps => h.get? a = some { cls := .none, data := .fields ps }
  | .met f x => h.get? a = some (PySem.W.methodObj (.ref f) (.ref x))
  | .ext φ => φ h /\ (∃ o, h.get? a = some o) /\ ∀ h1 h2 : Heap, φ h1 -> (∀ o, h1.get? a = some o -> h2.get? a = some o) -> φ h2
def HOk (H : Hp) (h : Heap) : Prop := ∀ a o, H a = some o -> ObjOk P w H h a o
end
section
variable {P : Program} {w : World} {H H' : Hp} {h h' : Heap} {a : Addr} {o : HO}
theorem ObjOk.lt (x : ObjOk P w H h a o) : a < h.objs.size := by
  cases o with
  | lst xs => obtain ⟨_, _, _, _, e⟩ := x; exact Heap.lt_size e
  | tup xs => obtain ⟨_, _, _, p⟩ := x; exact p.lt
  | dK kvs => obtain ⟨_, _, _, _, o, _, _, e, _⟩ := x; exact Heap.lt_size e
  | dT kvs => obtain ⟨_, _, _, _, o, _, _, e, _⟩ := x; exact Heap.lt_size e
  | set S n => obtain ⟨o, _, _, _, e, _⟩ := x; exact Heap.lt_size e
  | ins C dx fs => obtain ⟨_, _, _, e, _⟩ := x; exact Heap.lt_size e
  | own y => obtain ⟨_, e⟩ := x; exact Heap.lt_size e
  | xd fs => obtain ⟨_, ⟨_, _, _, e, _⟩, _⟩ := x; exact Heap.lt_size e
  | rng lo hi => obtain ⟨_, _, _, e⟩ := x; exact Heap.lt_size e
  | frz ob u => obtain ⟨e, _⟩ := x; exact Heap.lt_size e
  | tbl ps => exact Heap.lt_size (show h.get? a = some _ from x)
  | met f y => exact Heap.lt_size (show h.get? a = some _ from x)
  | ext φ => obtain ⟨_, ⟨_, e⟩, _⟩ := x; exact Heap.lt_size e
theorem Paired.mapP {α β : Type} {F G : α -> β -> Prop} : ∀ {l₁ : List α} {l₂ : List β}, Paired F l₁ l₂ -> (∀ a b, F a b -> G a b) -> Paired G l₁ l₂
  | _, _, .nil, _ => .nil
  | _, _, .cons r t, f => .cons (f _ _ r) (Paired.mapP t f)
theorem ObjOk.stay (x : ObjOk P w H h a o) (k : ∀ b u, (b = a ∨ H b = some (.own a)) -> h.get? b = some u -> h'.get? b = some u)
    (ho : ∀ b, H b = some (.own a) -> H' b = some (.own a)) (ht : ∀ b xs, H b = some (.tup xs) -> H' b = some (.tup xs)) : ObjOk P w H' h' a o := by
  induction o with
  | lst xs => obtain ⟨z, its, n, r, e⟩ := x; exact ⟨z, its, n, r, k _ _ (.inl rfl) e⟩
  | tup xs => obtain ⟨z, its, r, ob, e, c⟩ := x; exact ⟨z, its, r, ob, k _ _ (.inl rfl) e, c⟩
  | dK kvs => obtain ⟨z, y, vs, r, ob, es, ep, e, c⟩ := x; exact ⟨z, y, vs, r, ob, es, ep, k _ _ (.inl rfl) e, c⟩
  | dT kvs =>
    obtain ⟨z, y, xs, r, ob, es, ep, e, c⟩ := x
    exact ⟨z, y, xs, Paired.mapP r fun p q z => ⟨z.1, ht _ _ z.2.1, z.2.2⟩, ob, es, ep, k _ _ (.inl rfl) e, c⟩
  | set S n => obtain ⟨ob, es, ep, t, e, c⟩ := x; exact ⟨ob, es, ep, t, k _ _ (.inl rfl) e, c⟩
  | ins C dx fs =>
    obtain ⟨d, z, ne, e, mA, ⟨od, es, ep, e2, c⟩, r⟩ := x
    exact ⟨ho _ d, z, ne, k _ _ (.inl rfl) e, mA, ⟨od, es, ep, k _ _ (.inr d) e2, c⟩, r⟩
  | own y => obtain ⟨ob, e⟩ := x; exact ⟨ob, k _ _ (.inl rfl) e⟩
  | xd fs => obtain ⟨mA, ⟨od, es, ep, e, c⟩, r⟩ := x; exact ⟨mA, ⟨od, es, ep, k _ _ (.inl rfl) e, c⟩, r⟩
  | rng lo hi => obtain ⟨t, u, v, e⟩ := x; exact ⟨t, u, v, k _ _ (.inl rfl) e⟩
  | frz ob u ih => obtain ⟨e, q⟩ := x; exact ⟨k _ _ (.inl rfl) e, ih q⟩
  | tbl ps =>
    have e : h.get? a = some { cls := .none, data := .fields ps } := x
    show h'.get? a = some { cls := .none, data := .fields ps }
    exact k a _ (.inl rfl) e
  | met f y =>
    have e : h.get? a = some (PySem.W.methodObj (.ref f) (.ref y)) := x
    show h'.get? a = some (PySem.W.methodObj (.ref f) (.ref y))
    exact k a _ (.inl rfl) e
  | ext φ => obtain ⟨p, ⟨o, e⟩, st⟩ := x; exact ⟨st _ _ p fun o q => k _ _ (.inl rfl) q, ⟨o, k _ _ (.inl rfl) e⟩, st⟩
theorem HOk.lt (x : HOk P w H h) (e : H a = some o) : a < h.objs.size := (x a o e).lt
theorem HOk.fresh (x : HOk P w H h) (e : h.objs.size <= a) : H a = none := by
  cases q : H a with
  | none => rfl
  | some u => exact absurd (Nat.lt_of_lt_of_le (x.lt q) e) (Nat.lt_irrefl _)
theorem HOk.kept (x : HOk P w H h) (k : ∀ b u, h.get? b = some u -> h'.get? b = some u) : HOk P w H h' := fun a o e =>
  (x a o e).stay (fun b u _ q => k b u q) (fun _ q => q) fun _ _ q => q
theorem HOk.laid (x : HOk P w H h) (k : ∀ b u, h.get? b = some u -> h'.get? b = some u) (hp : h.objs.size <= a) (new : ObjOk P w (upd H a o) h' a o) : HOk P w (upd H a o) h' := fun b u e => by
  have hn := x.fresh hp
  by_cases hb : b = a
  · subst hb; rw [zC] at e; cases e; exact new
  · rw [zQ hb] at e
    exact (x b u e).stay (fun c v _ q => k c v q) (fun c q => by rw [zQ (zM q hn)]; exact q) fun c xs q => by rw [zQ (zM q hn)]; exact q
end
def Rd (H : Hp) (a : Addr) (u : HO) : Prop := H a = some u ∨ ∃ o, H a = some (.frz o u)
theorem Rd.ok {P : Program} {w : World} {H : Hp} {h : Heap} {a : Addr} {u : HO} (r : Rd H a u) (x : HOk P w H h) : ObjOk P w H h a u := by
  rcases r with r | ⟨o, r⟩
  · exact x a u r
  · obtain ⟨_, q⟩ := x a _ r
    exact q
def Mut : Option HO -> Prop
  | some (.lst _) => True
  | some (.dK _) => True
  | some (.dT _) => True
  | some (.set _ _) => True
  | some (.ins _ _ _) => True
  | some (.ext _) => True
  | _ => False
section
variable {P : Program} {w : World} {H : Hp} {h h' : Heap} {x e : Addr} {o' : HO}
theorem HOk.write (ok : HOk P w H h) (mu : Mut (H x)) (he : e = x ∨ H e = some (.own x)) (k : ∀ b u, b ≠ e -> h.get? b = some u -> h'.get? b = some u) (heo : ∃ u, h'.get? e = some u)
    (new : ObjOk P w (upd H x o') h' x o') : HOk P w (upd H x o') h' := fun b u q => by
  have nown : ∀ c y, H c = some (.own y) -> c ≠ x := fun c y r z => by subst z; rw [r] at mu; exact mu
  have ntup : ∀ c xs, H c = some (.tup xs) -> c ≠ x := fun c xs r z => by subst z; rw [r] at mu; exact mu
  by_cases hb : b = x
  · subst hb; rw [zC] at q; cases q; exact new
  · rw [zQ hb] at q
    by_cases hbe : b = e
    · have q' : H b = some (.own x) := by
        rcases he with z | z
        · exact absurd (hbe.trans z) hb
        · rw [hbe]; exact z
      rw [q] at q'; cases q'
      obtain ⟨v, hv⟩ := heo
      exact ⟨v, by rw [hbe]; exact hv⟩
    · refine (ok b u q).stay (fun c v hc r => k c v ?_ r) (fun c r => by rw [zQ (nown c b r)]; exact r) fun c xs r => by rw [zQ (ntup c xs r)]; exact r
      rcases hc with rfl | hc
      · exact hbe
      · rintro rfl
        rcases he with z | z
        · exact nown c b hc z
        · rw [hc] at z; cases z; exact hb rfl
end
structure Un (fs ex : List Addr) (H H' : Hp) (h h' : Heap) : Prop where
  keep : ∀ b o, h.get? b = some o -> H b = none -> b ∉ fs -> b ∉ ex -> h'.get? b = some o
  slot : ∀ b o, h.get? b = some o -> H b = none -> b ∈ fs -> b ∉ ex -> ∃ sl, h'.get? b = some { o with slots := sl }
  free : ∀ b o, h.get? b = some o -> H b = none -> b ∉ ex -> H' b = none
  there : ∀ b o, h.get? b = some o -> b ∉ ex -> ∃ o', h'.get? b = some o'
  tups : ∀ b xs, H b = some (.tup xs) -> H' b = some (.tup xs)
  frzs : ∀ b o u, H b = some (.frz o u) -> H' b = some (.frz o u)
  tbls : ∀ b ps, H b = some (.tbl ps) -> ∃ more, H' b = some (.tbl (ps ++ more))
section
variable {fs fs' ex ex' : List Addr} {H H1 H2 : Hp} {h h1 h2 h' : Heap} {a x e : Addr} {o : HO}
theorem Un.any (u : Un fs ex H H1 h h1) {b : Addr} {ob : Obj} (q : h.get? b = some ob) (n : H b = none) (hx : b ∉ ex) : ∃ sl, h1.get? b = some { ob with slots := sl } := by
  by_cases hb : b ∈ fs
  · exact u.slot b ob q n hb hx
  · exact ⟨ob.slots, u.keep b ob q n hb hx⟩
theorem Un.kept (k : ∀ b u, h.get? b = some u -> h'.get? b = some u) : Un fs ex H H h h' :=
  ⟨fun b ob q _ _ _ => k b ob q, fun b ob q _ _ _ => ⟨ob.slots, k b ob q⟩, fun _ _ _ n _ => n, fun b ob q _ => ⟨ob, k b ob q⟩, fun _ _ q => q, fun _ _ _ q => q, fun _ ps q => ⟨#[], by rw [q]; simp⟩⟩
theorem Un.refl : Un fs ex H H h h := Un.kept fun _ _ q => q
theorem Un.laid (k : ∀ b u, h.get? b = some u -> h'.get? b = some u) (hp : h.objs.size <= a) (hn : H a = none) : Un fs ex H (upd H a o) h h' where
  keep := fun b u q _ _ _ => k b u q
  slot := fun b u q _ _ _ => ⟨u.slots, k b u q⟩
  free := fun b u q n _ => by rw [zQ (Nat.ne_of_lt (Nat.lt_of_lt_of_le (Heap.lt_size q) hp))]; exact n
  there := fun b u q _ => ⟨u, k b u q⟩
  tups := fun b xs q => by rw [zQ (zM q hn)]; exact q
  frzs := fun b u xs q => by rw [zQ (zM q hn)]; exact q
  tbls := fun b ps q => ⟨#[], by rw [zQ (zM q hn), q]; simp⟩
theorem Un.write (mu : Mut (H x)) (he : e = x ∨ H e = some (.own x)) (k : ∀ b u, b ≠ e -> h.get? b = some u -> h'.get? b = some u) (heo : ∃ u, h'.get? e = some u) : Un fs ex H (upd H x o) h h' := by
  have hx : ∀ b, H b = none -> b ≠ x := fun b n z => by subst z; rw [n] at mu; exact mu
  have hb : ∀ b, H b = none -> b ≠ e := fun b n z => by
    subst z
    rcases he with r | r
    · exact hx b n r
    · rw [n] at r; cases r
  have hm : ∀ b u, H b = some u -> ¬ Mut (some u) -> b ≠ x := fun b u q nm z => by subst z; rw [q] at mu; exact nm mu
  refine ⟨fun b u q n _ _ => k b u (hb b n) q, fun b u q n _ _ => ⟨u.slots, k b u (hb b n) q⟩, fun b u q n _ => by rw [zQ (hx b n)]; exact n, fun b u q _ => ?_,
    fun b xs q => by rw [zQ (hm b _ q fun z => z)]; exact q, fun b u xs q => by rw [zQ (hm b _ q fun z => z)]; exact q, fun b ps q => ⟨#[], by rw [zQ (hm b _ q fun z => z), q]; simp⟩⟩
  by_cases hbe : b = e
  · subst hbe; exact heo
  · exact ⟨u, k b u hbe q⟩
end
def trk (h : Heap) (H : Hp) : List Addr := (List.range h.objs.size).filter fun a => (H a).isSome
def hidT (h : Heap) (H : Hp) : Heap := PySem.W.hideAll h (trk h H)
theorem hidT_size (h : Heap) (H : Hp) : (hidT h H).objs.size = h.objs.size := PySem.W.hideAll_size _ _
theorem hidT_get {h : Heap} {H : Hp} {b : Addr} {o : Obj} (e : h.get? b = some o) (n : H b = none) : (hidT h H).get? b = some o :=
  PySem.W.hideAll_get _ e fun hm => by
    have q : (H b).isSome = true := (zl23.mp hm).2
    rw [n] at q; simp at q
theorem of_hidT {h : Heap} {H : Hp} {b : Addr} {o : Obj} (e : (hidT h H).get? b = some o) : h.get? b = some o /\ H b = none := by
  have e' : h.get? b = some o := PySem.W.of_hideAll (trk h H) e
  refine ⟨e', ?_⟩
  cases q : H b with
  | none => rfl
  | some x =>
    have hm : b ∈ trk h H := List.mem_filter.mpr ⟨List.mem_range.mpr (Heap.lt_size e'), by simp [q]⟩
    have z : (hidT h H).get? b = none := PySem.W.hideAll_none (trk h H) hm
    rw [z] at e; cases e
def allNews (g h : Heap) (L : Addr) : List (Addr × Obj) := (List.range h.objs.size).filterMap fun a => if a = L ∨ (g.get? a).isSome = true then none else (h.get? a).map fun o => (a, o)
def rest (g h : Heap) (L d : Addr) : List (Addr × Obj) := (allNews g h L).filter fun p => decide (p.1 ≠ d)
end L2
namespace L2
open PySem PySem.Spec PyProof.Rows
structure Mod (K : PySem.W.Frag) (mg : Str -> Option Value) (base : Heap) : Prop where
  kin : K.In base
  glob : base.Ns mainGlobals mg
  blt : ∃ mb, base.Ns builtinsNs mb /\ ∀ x : Str, x ≠ "__name__" -> mb x = bootBuiltins x
  nolimit : base.NoLimit
structure Cx where
  prog : Program
  w : World
  K : PySem.W.Frag
  mg : Str -> Option Value
  base : Heap
  A : Around
  N : List Str
  s₀ : Shared
  H₀ : Hp
  env : Env
  outer : List Env
  stack : List Env
  ex : List Addr
  fn : Str -> Bool
  calm : Bool
  pn : List (Addr × Obj)
  xe : Value -> Shared -> Prop
def frs (l : List Env) : List Addr := l.filterMap (·.frame)
abbrev Cx.fs (X : Cx) : List Addr := frs X.outer
def Vis (sc : Scope) (x : Str) : Prop := sc.names.lookup x = some .local ∨ sc.names.lookup x = some .cell ∨ sc.names.lookup x = some .free
def Loc (sc : Scope) (x : Str) : Prop := sc.names.lookup x = some .local ∨ sc.names.lookup x = some .cell
def Look (env : Env) (h : Heap) (m : Str -> Option Value) (x : Str) (u : Value) : Prop :=
  (env.kindOf x = some .local /\ m x = some u) ∨ ((env.kindOf x = some .cell ∨ env.kindOf x = some .free) /\ ∃ c, env.cells.lookup x = some c /\ h.IsCell c (some u))
structure Cx.Ok (X : Cx) : Prop where
  mod : Mod X.K X.mg X.base
  kind : X.env.scope.kind = .function
  glob : X.env.globals = mainGlobals
  blt : X.env.builtins = builtinsNs
  above : X.s₀.heap.objs.size <= X.env.locals
  inj : ∀ x y c, X.env.cells.lookup x = some c -> X.env.cells.lookup y = some c -> x = y
  has : ∀ x, (X.env.kindOf x = some .cell ∨ X.env.kindOf x = some .free) -> ∃ c, X.env.cells.lookup x = some c
  cab : ∀ x c, X.fn x = true -> X.env.cells.lookup x = some c -> X.s₀.heap.objs.size <= c
  hd : X.calm = true -> X.A.handled = none
  frames : X.A.frames = some X.stack
  stk : X.stack = X.outer ∨ (X.stack = X.env :: X.outer /\ X.env.frame = some X.env.locals)
  exf : ∀ b ∈ X.ex, b ≠ X.env.locals /\ ∀ x c, X.env.cells.lookup x = some c -> c ≠ b
  bs : ∀ b o, X.base.get? b = some o -> X.s₀.heap.get? b = some o /\ X.H₀ b = none
  bsz : X.base.objs.size <= X.s₀.heap.objs.size
  noex : ∀ b o, X.base.get? b = some o -> b ∉ X.ex
  exfs : ∀ b ∈ X.ex, b ∉ X.fs
  funs : X.s₀.heap.FunFrames X.base X.outer
  frf : ∀ b ∈ X.fs, X.H₀ b = none
structure Inv (X : Cx) (pins : List (Addr × Obj)) (σ : List (Option V)) (H : Hp) (s : Shared) : Prop where
  ok : X.Ok
  os : s.os = X.s₀.os
  bare : AllBare s.gens
  base : Un X.fs X.ex X.H₀ H X.s₀.heap s.heap
  loc : ∃ m, s.heap.Ns X.env.locals m /\ ∀ (i : Nat) (x : Str) (v : V), X.N[i]? = some x -> σ[i]? = some (some v) -> Vis X.env.scope x -> ∃ u, RelV v u /\ Look X.env s.heap m x u
  cell : ∀ x c, X.env.cells.lookup x = some c -> ∃ v, s.heap.IsCell c v
  free : H X.env.locals = none
  freeC : ∀ x c, X.env.cells.lookup x = some c -> H c = none
  pin : ∀ p ∈ X.pn ++ pins, s.heap.get? p.1 = some p.2 /\ H p.1 = none /\ p.1 ≠ X.env.locals /\ p.1 ∉ X.fs /\ ∀ v, p.2.data ≠ .cell v
  hok : HOk X.prog X.w H s.heap
  len : σ.length = X.N.length
section
variable {X : Cx} {pins : List (Addr × Obj)} {σ : List (Option V)} {H H' : Hp} {s : Shared} {h' : Heap}
theorem Cx.Ok.nofr (ok : X.Ok) {b : Addr} {o : Obj} (e : X.base.get? b = some o) : b ∉ X.fs := fun hb => by
  have := (ok.funs.mem hb).1
  rw [e] at this; cases this
theorem Inv.bs (I : Inv X pins σ H s) : ∀ b o, X.base.get? b = some o -> s.heap.get? b = some o /\ H b = none := fun b o e =>
  ⟨I.base.keep b o (I.ok.bs b o e).1 (I.ok.bs b o e).2 (I.ok.nofr e) (I.ok.noex b o e), I.base.free b o (I.ok.bs b o e).1 (I.ok.bs b o e).2 (I.ok.noex b o e)⟩
theorem Inv.bk (I : Inv X pins σ H s) : ∀ b o, X.base.get? b = some o -> s.heap.get? b = some o := fun b o e => (I.bs b o e).1
theorem Inv.mod (I : Inv X pins σ H s) : Mod X.K X.mg X.base := I.ok.mod
theorem Inv.kIn (I : Inv X pins σ H s) : X.K.In s.heap := I.ok.mod.kin.keeps I.bk
theorem Inv.lt (I : Inv X pins σ H s) : X.env.locals < s.heap.objs.size := let ⟨_, hn, _⟩ := I.loc; hn.lt
theorem Inv.sz (I : Inv X pins σ H s) : X.s₀.heap.objs.size <= s.heap.objs.size := Nat.le_trans I.ok.above (Nat.le_of_lt I.lt)
theorem Inv.nofs (I : Inv X pins σ H s) {a : Addr} (h : s.heap.objs.size <= a) : a ∉ X.fs := fun hb => by
  obtain ⟨_, o, ho, _⟩ := I.ok.funs.mem hb
  exact absurd (Nat.lt_of_lt_of_le (Heap.lt_size ho) (Nat.le_trans I.sz h)) (Nat.lt_irrefl _)
theorem Inv.cne (I : Inv X pins σ H s) : ∀ x c, X.env.cells.lookup x = some c -> c ≠ X.env.locals := fun x c e z => by
  obtain ⟨v, o, ho, hd⟩ := I.cell x c e
  obtain ⟨m, ⟨o', es, ep, ho', hd', _⟩, _⟩ := I.loc
  rw [z, ho'] at ho; cases ho; rw [hd'] at hd; cases hd
theorem Inv.funs (I : Inv X pins σ H s) : s.heap.FunFrames X.base X.outer := by
  have all : ∀ (l : List Env), (∀ b ∈ frs l, b ∈ X.fs) -> X.s₀.heap.FunFrames X.base l -> s.heap.FunFrames X.base l := by
    intro l
    induction l with
    | nil => intro _ _; trivial
    | cons env r ih =>
      intro hs hl
      obtain ⟨hk, ⟨L, o, hf, hn, ho, hd⟩, hr⟩ := hl
      have hL : L ∈ X.fs := hs L (by unfold frs; rw [List.filterMap_cons, hf]; exact List.mem_cons_self)
      obtain ⟨sl, e⟩ := I.base.slot L o ho (I.ok.frf L hL) hL fun z => I.ok.exfs L z hL
      exact ⟨hk, ⟨L, _, hf, hn, e, hd⟩, ih (fun b hb => hs b (by unfold frs; rw [List.filterMap_cons, hf]; exact List.mem_cons_of_mem _ hb)) hr⟩
  exact all X.outer (fun _ hb => hb) I.ok.funs
theorem Inv.stack (I : Inv X pins σ H s) : s.heap.FunFrames X.base X.stack := by
  rcases I.ok.stk with e | ⟨e, hf⟩
  · rw [e]; exact I.funs
  · rw [e]
    obtain ⟨m, hn, _⟩ := I.loc
    refine .cons (by rw [I.ok.kind]; decide) hf hn ?_ I.funs
    exact Heap.get?_none_of_le (Nat.le_trans I.ok.bsz I.ok.above)
theorem Inv.stkSub (I : Inv X pins σ H s) : ∀ b ∈ frs X.stack, b ∈ X.env.locals :: X.fs := fun b hb => by
  rcases I.ok.stk with e | ⟨e, hf⟩
  · rw [e] at hb; exact List.mem_cons_of_mem _ hb
  · rw [e] at hb
    unfold frs at hb
    rw [List.filterMap_cons, hf] at hb
    exact hb
theorem Inv.stkFree (I : Inv X pins σ H s) : ∀ b ∈ frs X.stack, H b = none := fun b hb => by
  rcases zl16.mp (I.stkSub b hb) with e | hb
  · rw [e]; exact I.free
  · obtain ⟨_, o, ho, _⟩ := I.ok.funs.mem hb
    exact I.base.free b o ho (I.ok.frf b hb) fun z => I.ok.exfs b z hb
theorem Inv.step {g' : Array GenState} {t' : Nat} {d' : Drawn} {ch : List Addr} (I : Inv X pins σ H s)
    (hch : ∀ b ∈ ch, (b ∈ X.ex ∨ X.s₀.heap.objs.size <= b) /\ b ≠ X.env.locals /\ (∀ x c, X.env.cells.lookup x = some c -> c ≠ b) /\ ∀ p ∈ X.pn ++ pins, p.1 ≠ b)
    (keep : ∀ b o, b ≠ X.env.locals -> b ∉ X.fs -> b ∉ ch -> s.heap.get? b = some o -> H b = none -> h'.get? b = some o)
    (slot : ∀ b o, b ≠ X.env.locals -> b ∈ X.fs -> b ∉ ch -> s.heap.get? b = some o -> H b = none -> ∃ sl, h'.get? b = some { o with slots := sl }) (free : ∀ b o, b ∉ ch -> s.heap.get? b = some o -> H b = none -> H' b = none)
    (there : ∀ b o, b ∉ ch -> s.heap.get? b = some o -> ∃ o', h'.get? b = some o')
    (tups : ∀ b xs, H b = some (.tup xs) -> H' b = some (.tup xs)) (frzs : ∀ b o u, H b = some (.frz o u) -> H' b = some (.frz o u)) (tbls : ∀ b ps, H b = some (.tbl ps) -> ∃ more, H' b = some (.tbl (ps ++ more)))
    (ns : ∀ m, s.heap.Ns X.env.locals m -> h'.Ns X.env.locals m) (hok : HOk X.prog X.w H' h') (hg : AllBare g') :
    Inv X pins σ H' { s with heap := h', gens := g', drawn := d', toks := t' } := by
  have neL : ∀ b o, X.s₀.heap.get? b = some o -> b ≠ X.env.locals := fun b o e => Nat.ne_of_lt (Nat.lt_of_lt_of_le (Heap.lt_size e) I.ok.above)
  have neC : ∀ b o, X.s₀.heap.get? b = some o -> b ∉ X.ex -> b ∉ ch := fun b o e hx hb => by
    rcases (hch b hb).1 with z | z
    · exact hx z
    · exact absurd (Nat.lt_of_lt_of_le (Heap.lt_size e) z) (Nat.lt_irrefl _)
  have cellK : ∀ x c, X.env.cells.lookup x = some c -> ∀ v, s.heap.IsCell c v -> h'.IsCell c v := fun x c e v ⟨o, ho, hd⟩ => by
    have nch : c ∉ ch := fun z => (hch c z).2.2.1 x c e rfl
    by_cases hc : c ∈ X.fs
    · obtain ⟨sl, q⟩ := slot c o (I.cne x c e) hc nch ho (I.freeC x c e)
      exact ⟨_, q, hd⟩
    · exact ⟨o, keep c o (I.cne x c e) hc nch ho (I.freeC x c e), hd⟩
  refine ⟨I.ok, I.os, hg, ⟨fun b o e n hb hx => ?_, fun b o e n hb hx => ?_, fun b o e n hx => ?_, fun b o e hx => ?_, fun b xs e => tups b xs (I.base.tups b xs e), fun b o xs e => frzs b o xs (I.base.frzs b o xs e), fun b ps e => ?_⟩, ?_, fun x c e => ?_, ?_, fun x c e => ?_, fun p hp => ?_, hok, I.len⟩
  · exact keep b o (neL b o e) hb (neC b o e hx) (I.base.keep b o e n hb hx) (I.base.free b o e n hx)
  · obtain ⟨sl, e1⟩ := I.base.slot b o e n hb hx
    obtain ⟨sl', e2⟩ := slot b _ (neL b o e) hb (neC b o e hx) e1 (I.base.free b o e n hx)
    exact ⟨sl', e2⟩
  · obtain ⟨o', e1⟩ := I.base.there b o e hx
    exact free b o' (neC b o e hx) e1 (I.base.free b o e n hx)
  · obtain ⟨o', e1⟩ := I.base.there b o e hx
    exact there b o' (neC b o e hx) e1
  · obtain ⟨m1, e1⟩ := I.base.tbls b ps e
    obtain ⟨m2, e2⟩ := tbls b _ e1
    exact ⟨m1 ++ m2, by rw [e2, Array.append_assoc]⟩
  · obtain ⟨m, hn, hl⟩ := I.loc
    refine ⟨m, ns m hn, fun i x v e1 e2 e3 => ?_⟩
    obtain ⟨u, r, l⟩ := hl i x v e1 e2 e3
    refine ⟨u, r, ?_⟩
    rcases l with l | ⟨k, c, e, z⟩
    · exact .inl l
    · exact .inr ⟨k, c, e, cellK x c e _ z⟩
  · obtain ⟨v, z⟩ := I.cell x c e
    exact ⟨v, cellK x c e v z⟩
  · obtain ⟨m, ⟨o, _, _, ho, _⟩, _⟩ := I.loc
    exact free _ o (fun z => (hch _ z).2.1 rfl) ho I.free
  · obtain ⟨v, o, ho, hd⟩ := I.cell x c e
    exact free c o (fun z => (hch c z).2.2.1 x c e rfl) ho (I.freeC x c e)
  · obtain ⟨e, n, ne, nf, d⟩ := I.pin p hp
    have nch : p.1 ∉ ch := fun z => (hch p.1 z).2.2.2 p hp rfl
    exact ⟨keep p.1 p.2 ne nf nch e n, free p.1 p.2 nch e n, ne, nf, d⟩
theorem Inv.un {t' : Nat} (I : Inv X pins σ H s) (u : Un X.fs [] H H' s.heap h') (hok : HOk X.prog X.w H' h') : Inv X pins σ H' { s with heap := h', toks := t' } := by
  obtain ⟨m, ⟨o, es, ep, ho, r⟩, _⟩ := id I.loc
  obtain ⟨sl, hL⟩ := u.any ho I.free (by simp)
  exact I.step (g' := s.gens) (d' := s.drawn) (ch := []) (fun _ z => nomatch z) (fun b o _ hb _ e n => u.keep b o e n hb (by simp)) (fun b o _ hb _ e n => u.slot b o e n hb (by simp)) (fun b o _ e n => u.free b o e n (by simp)) (fun b o _ e => u.there b o e (by simp)) u.tups u.frzs u.tbls (fun m' hm => by
    obtain ⟨o', es', ep', ho', r'⟩ := hm
    rw [ho] at ho'; cases ho'
    exact ⟨_, es', ep', hL, r'⟩) hok I.bare
theorem Inv.call {g' : Array GenState} {t' : Nat} {d' : Drawn} {ch : List Addr} (I : Inv X pins σ H s) (u : Un (frs X.stack) ch H H' s.heap h') (hok : HOk X.prog X.w H' h') (hg : AllBare g')
    (hch : ∀ b ∈ ch, (b ∈ X.ex ∨ X.s₀.heap.objs.size <= b) /\ b ≠ X.env.locals /\ (∀ x c, X.env.cells.lookup x = some c -> c ≠ b) /\ ∀ p ∈ X.pn ++ pins, p.1 ≠ b) :
    Inv X pins σ H' { s with heap := h', gens := g', drawn := d', toks := t' } := by
  obtain ⟨m, ⟨o, es, ep, ho, r⟩, _⟩ := id I.loc
  obtain ⟨sl, hL⟩ := u.any ho I.free fun z => (hch _ z).2.1 rfl
  exact I.step (ch := ch) hch (fun b o hL hb hc e n => u.keep b o e n (fun z => (zl16.mp (I.stkSub b z)).elim hL hb) hc) (fun b o _ _ hc e n => u.any e n hc) (fun b o hc e n => u.free b o e n hc) (fun b o hc e => u.there b o e hc) u.tups u.frzs u.tbls (fun m' hm => by
    obtain ⟨o', es', ep', ho', r'⟩ := hm
    rw [ho] at ho'; cases ho'
    exact ⟨_, es', ep', hL, r'⟩) hok hg
theorem Inv.turned {t' : Nat} {it : Addr} (I : Inv X pins σ H s) (k : ∀ b o, b ≠ it -> s.heap.get? b = some o -> h'.get? b = some o) (hn : H it = none) (hL : it ≠ X.env.locals)
    (h1 : it ∈ X.ex ∨ X.s₀.heap.objs.size <= it) (h2 : ∀ x c, X.env.cells.lookup x = some c -> c ≠ it) (h3 : ∀ p ∈ X.pn ++ pins, p.1 ≠ it) : Inv X pins σ H { s with heap := h', toks := t' } := by
  have nit : ∀ b u, H b = some u -> b ≠ it := fun b u e z => by rw [z, hn] at e; cases e
  refine I.step (g' := s.gens) (d' := s.drawn) (ch := [it]) (fun b hb => ?_) (fun b o _ _ hc e _ => k b o (fun z => hc (by simp [z])) e) (fun b o _ _ hc e _ => ⟨o.slots, k b o (fun z => hc (by simp [z])) e⟩) (fun _ _ _ _ n => n)
    (fun b o hc e => ⟨o, k b o (fun z => hc (by simp [z])) e⟩) (fun _ _ e => e) (fun _ _ _ e => e) (fun b ps e => ⟨#[], by rw [e]; simp⟩) (fun m hm => ?_) (fun b u e => ?_) I.bare
  · have e : b = it := by simpa using hb
    subst e
    exact ⟨h1, hL, h2, h3⟩
  · obtain ⟨o, es, ep, ho, r⟩ := hm
    exact ⟨o, es, ep, k _ o (Ne.symm hL) ho, r⟩
  · refine (I.hok b u e).stay (fun c v hc q => k c v ?_ q) (fun _ q => q) fun _ _ q => q
    rcases hc with z | z
    · rw [z]; exact nit b u e
    · exact nit c _ z
theorem Inv.tok (I : Inv X pins σ H s) (t : Nat) : Inv X pins σ H { s with toks := t } := I.un (h' := s.heap) (t' := t) Un.refl I.hok
theorem Inv.kept {t' : Nat} (I : Inv X pins σ H s) (k : ∀ b u, s.heap.get? b = some u -> h'.get? b = some u) : Inv X pins σ H { s with heap := h', toks := t' } := I.un (Un.kept k) (I.hok.kept k)
theorem Inv.laid {a : Addr} {o : HO} {t' : Nat} (I : Inv X pins σ H s) (k : ∀ b u, s.heap.get? b = some u -> h'.get? b = some u) (hp : s.heap.objs.size <= a) (new : ObjOk X.prog X.w (upd H a o) h' a o) :
    Inv X pins σ (upd H a o) { s with heap := h', toks := t' } := I.un (Un.laid k hp (I.hok.fresh hp)) (I.hok.laid k hp new)
theorem Inv.write {x e : Addr} {o : HO} {t' : Nat} (I : Inv X pins σ H s) (mu : Mut (H x)) (he : e = x ∨ H e = some (.own x)) (k : ∀ b u, b ≠ e -> s.heap.get? b = some u -> h'.get? b = some u) (heo : ∃ u, h'.get? e = some u)
    (new : ObjOk X.prog X.w (upd H x o) h' x o) : Inv X pins σ (upd H x o) { s with heap := h', toks := t' } := I.un (Un.write mu he k heo) (I.hok.write mu he k heo new)
theorem Inv.pins_of {pins' : List (Addr × Obj)} (I : Inv X pins σ H s) (h : ∀ p ∈ pins', s.heap.get? p.1 = some p.2 /\ H p.1 = none /\ p.1 ≠ X.env.locals /\ p.1 ∉ X.fs /\ ∀ v, p.2.data ≠ .cell v) : Inv X pins' σ H s :=
  ⟨I.ok, I.os, I.bare, I.base, I.loc, I.cell, I.free, I.freeC, fun p hp => (zl18.mp hp).elim (fun z => I.pin p (List.mem_append_left _ z)) (h p), I.hok, I.len⟩
theorem nodup_ix {N : List Str} (hN : N.Nodup) {i j : Nat} {x : Str} (a : N[i]? = some x) (b : N[j]? = some x) : i = j := by
  obtain ⟨h1, e1⟩ := zl4.mp a
  obtain ⟨h2, e2⟩ := zl4.mp b
  exact (List.getElem_inj hN).mp (e1.trans e2.symm)
theorem store_ok2 {M : Model} {A : Around} {E : Value -> Shared -> Prop} {i : Nat} {x : Str} {v : V} {u : Value} {Q : Unit -> Shared -> Prop} (I : Inv X pins σ H s) (hN : X.N.Nodup) (hi : X.N[i]? = some x) (hx : Loc X.env.scope x) (r : RelV v u)
    (h : ∀ s', Inv X pins (σ.set i (some v)) H s' -> (∃ a, Heap.SameBut a s.heap s'.heap /\ (a = X.env.locals ∨ X.env.cells.lookup x = some a)) -> Q () s') (hf : X.fn x = true ∨ X.env.scope.names.lookup x = some .local := by first | exact .inl rfl | exact .inr rfl | assumption) : wpAny M A (storeName X.env x u) Q E s := by
  obtain ⟨m, hn, hl⟩ := id I.loc
  have hcls : (X.env.scope.kind == .class || (X.env.scope.kind == .module && X.env.locals != X.env.globals)) = false := by rw [I.ok.kind]; rfl
  have hiσ : i < σ.length := by rw [I.len]; exact (zl4.mp hi).1
  have cne := I.cne
  have tracked : ∀ {a : Addr} {h' : Heap}, (∃ o, s.heap.get? a = some o /\ H a = none) -> Heap.SameBut a s.heap h' -> HOk X.prog X.w H h' := fun {a h'} ha hs b ob e => by
    obtain ⟨_, _, hfree⟩ := ha
    refine (I.hok b ob e).stay (fun c w' hc q => (hs.2 c ?_).trans q) (fun _ q => q) fun _ _ q => q
    rintro rfl
    rcases hc with rfl | hc
    · rw [hfree] at e; cases e
    · rw [hfree] at hc; cases hc
  rcases hx with hk | hk
  · refine wpAny_storeName_local hk hn (fun h' hn' hs => ?_) hcls
    obtain ⟨oL, _, _, hoL, _⟩ := id hn
    refine h _ ⟨I.ok, I.os, I.bare, ⟨fun b o e n hb hx => ?_, fun b o e n hb hx => ?_, I.base.free, fun b o e hx => ?_, I.base.tups, I.base.frzs, I.base.tbls⟩, ⟨_, hn', fun j y v' e1 e2 e3 => ?_⟩, fun y c e => ?_, I.free, I.freeC, fun p hp => ?_, tracked ⟨oL, hoL, I.free⟩ hs, by simpa using I.len⟩ ⟨_, hs, .inl rfl⟩
    · exact (hs.2 b (Nat.ne_of_lt (Nat.lt_of_lt_of_le (Heap.lt_size e) I.ok.above))).trans (I.base.keep b o e n hb hx)
    · obtain ⟨sl, e1⟩ := I.base.slot b o e n hb hx
      exact ⟨sl, (hs.2 b (Nat.ne_of_lt (Nat.lt_of_lt_of_le (Heap.lt_size e) I.ok.above))).trans e1⟩
    · obtain ⟨o', e1⟩ := I.base.there b o e hx
      exact ⟨o', (hs.2 b (Nat.ne_of_lt (Nat.lt_of_lt_of_le (Heap.lt_size e) I.ok.above))).trans e1⟩
    · by_cases hj : j = i
      · subst hj
        rw [hi] at e1; cases e1
        rw [List.getElem?_set_self hiσ] at e2
        cases e2
        exact ⟨u, r, .inl ⟨hk, by simp⟩⟩
      · rw [List.getElem?_set_ne (Ne.symm hj)] at e2
        obtain ⟨u', r', q⟩ := hl j y v' e1 e2 e3
        refine ⟨u', r', ?_⟩
        rcases q with ⟨k, e⟩ | ⟨k, c, e, z⟩
        · refine .inl ⟨k, ?_⟩
          have : y ≠ x := fun e => hj (nodup_ix hN e1 (e ▸ hi))
          simp [this, e]
        · exact .inr ⟨k, c, e, z.sameBut hs (cne y c e)⟩
    · obtain ⟨w', z⟩ := I.cell y c e
      exact ⟨w', z.sameBut hs (cne y c e)⟩
    · obtain ⟨e, n, ne, nf, d⟩ := I.pin p hp
      exact ⟨(hs.2 p.1 ne).trans e, n, ne, nf, d⟩
  · have hfn : X.fn x = true := by
      rcases hf with z | z
      · exact z
      · rw [z] at hk; cases hk
    obtain ⟨c, hc⟩ := I.ok.has x (.inl hk)
    obtain ⟨w', z⟩ := I.cell x c hc
    refine wpAny_storeName_cell I.ok.kind hk hc z (fun h' hc' hs => ?_)
    obtain ⟨oc, hoc, hocd⟩ := id z
    refine h { s with heap := h' } ⟨I.ok, I.os, I.bare, ⟨fun b o e n hb hx => ?_, fun b o e n hb hx => ?_, I.base.free, fun b o e hx => ?_, I.base.tups, I.base.frzs, I.base.tbls⟩, ⟨m, hn.sameBut hs (Ne.symm (cne x c hc)), fun j y v' e1 e2 e3 => ?_⟩, fun y c' e => ?_, I.free, I.freeC, fun p hp => ?_, tracked ⟨oc, hoc, I.freeC x c hc⟩ hs, by simpa using I.len⟩ ⟨c, hs, .inr hc⟩
    · exact (hs.2 b (Nat.ne_of_lt (Nat.lt_of_lt_of_le (Heap.lt_size e) (I.ok.cab x c hfn hc)))).trans (I.base.keep b o e n hb hx)
    · obtain ⟨sl, e1⟩ := I.base.slot b o e n hb hx
      exact ⟨sl, (hs.2 b (Nat.ne_of_lt (Nat.lt_of_lt_of_le (Heap.lt_size e) (I.ok.cab x c hfn hc)))).trans e1⟩
    · obtain ⟨o', e1⟩ := I.base.there b o e hx
      exact ⟨o', (hs.2 b (Nat.ne_of_lt (Nat.lt_of_lt_of_le (Heap.lt_size e) (I.ok.cab x c hfn hc)))).trans e1⟩
    · by_cases hj : j = i
      · subst hj
        rw [hi] at e1; cases e1
        rw [List.getElem?_set_self hiσ] at e2
        cases e2
        exact ⟨u, r, .inr ⟨.inl hk, c, hc, hc'⟩⟩
      · rw [List.getElem?_set_ne (Ne.symm hj)] at e2
        obtain ⟨u', r', q⟩ := hl j y v' e1 e2 e3
        refine ⟨u', r', ?_⟩
        rcases q with q | ⟨k, c', e, z'⟩
        · exact .inl q
        · refine .inr ⟨k, c', e, z'.sameBut hs ?_⟩
          rintro rfl
          exact hj (nodup_ix hN e1 (I.ok.inj _ _ _ e hc ▸ hi))
    · by_cases hcc : c' = c
      · subst hcc; exact ⟨_, hc'⟩
      · obtain ⟨w2, z2⟩ := I.cell y c' e
        exact ⟨w2, z2.sameBut hs hcc⟩
    · obtain ⟨e, n, ne, nf, d⟩ := I.pin p hp
      refine ⟨(hs.2 p.1 ?_).trans e, n, ne, nf, d⟩
      intro q
      rw [q, hoc] at e
      have q' : oc = p.2 := zl7 e
      exact d w' (by rw [<- q']; exact hocd)
theorem store_ok {M : Model} {A : Around} {E : Value -> Shared -> Prop} {i : Nat} {x : Str} {v : V} {u : Value} {Q : Unit -> Shared -> Prop} (I : Inv X pins σ H s) (hN : X.N.Nodup) (hi : X.N[i]? = some x) (hx : Loc X.env.scope x) (r : RelV v u)
    (h : ∀ s', Inv X pins (σ.set i (some v)) H s' -> Q () s') (hf : X.fn x = true ∨ X.env.scope.names.lookup x = some .local := by first | exact .inl rfl | exact .inr rfl | assumption) : wpAny M A (storeName X.env x u) Q E s :=
  store_ok2 I hN hi hx r (fun s' I' _ => h s' I') hf
theorem Inv.call' {s' : Shared} {ch : List Addr} (I : Inv X pins σ H s) (ho : s'.os = s.os) (u : Un (frs X.stack) ch H H' s.heap s'.heap) (hok : HOk X.prog X.w H' s'.heap) (hg : AllBare s'.gens)
    (hch : ∀ b ∈ ch, (b ∈ X.ex ∨ X.s₀.heap.objs.size <= b) /\ b ≠ X.env.locals /\ (∀ x c, X.env.cells.lookup x = some c -> c ≠ b) /\ ∀ p ∈ X.pn ++ pins, p.1 ≠ b) : Inv X pins σ H' s' := by
  obtain ⟨h', g', d', t', o'⟩ := s'
  have e : o' = s.os := ho
  subst e
  exact I.call (g' := g') (t' := t') (d' := d') u hok hg hch
end
abbrev XK := Value -> Option Addr -> Hp -> Prop
abbrev St := List (Option V)
abbrev VK := V -> Hp -> Prop
abbrev TE := St -> Hp -> VK -> Prop
abbrev TT := St -> Hp -> (Bool -> Hp -> Prop) -> Prop
abbrev TA := St -> Hp -> (List V -> Hp -> Prop) -> Prop
structure Ends where
  nx : St -> Hp -> Prop
  rt : VK
  bk : St -> Hp -> Prop := fun _ _ => False
  ct : St -> Hp -> Prop := fun _ _ => False
abbrev TS := Ends -> St -> Hp -> Prop
def EP (X : Cx) (pins : List (Addr × Obj)) (σ : St) (Q : VK) (u : Value) (s' : Shared) : Prop := ∃ v H', Inv X pins σ H' s' /\ RelV v u /\ Q v H'
def TP (X : Cx) (pins : List (Addr × Obj)) (σ : St) (Q : Bool -> Hp -> Prop) (b : Bool) (s' : Shared) : Prop := ∃ H', Inv X pins σ H' s' /\ Q b H'
def AP (X : Cx) (pins : List (Addr × Obj)) (σ : St) (Q : List V -> Hp -> Prop) (us : List Value) (s' : Shared) : Prop := ∃ vs H', Inv X pins σ H' s' /\ Vals vs us /\ Q vs H'
def SP (X : Cx) (pins : List (Addr × Obj)) (D : Ends) (f : Flow) (s' : Shared) : Prop :=
  match f with
  | .next => ∃ σ' H', Inv X pins σ' H' s' /\ D.nx σ' H'
  | .brk => ∃ σ' H', Inv X pins σ' H' s' /\ D.bk σ' H'
  | .cont => ∃ σ' H', Inv X pins σ' H' s' /\ D.ct σ' H'
  | .ret u => ∃ v σ' H', Inv X pins σ' H' s' /\ RelV v u /\ D.rt v H'
def PE (X : Cx) (e : Expr) (t : TE) : Prop :=
  ∀ (pins : List (Addr × Obj)) (s : Shared) (σ : St) (H : Hp) (Q : VK), Inv X pins σ H s -> t σ H Q -> wpAny (model X.prog X.w) X.A (eval e X.env) (EP X pins σ Q) X.xe s
def PT (X : Cx) (e : Expr) (t : TT) : Prop :=
  ∀ (pins : List (Addr × Obj)) (s : Shared) (σ : St) (H : Hp) (Q : Bool -> Hp -> Prop), Inv X pins σ H s -> t σ H Q -> wpAny (model X.prog X.w) X.A (isTrue e X.env (eval e X.env)) (TP X pins σ Q) X.xe s
def PW (X : Cx) (e : Expr) (t : TT) : Prop :=
  ∀ (whole : Sem Value) (pins : List (Addr × Obj)) (s : Shared) (σ : St) (H : Hp) (Q : Bool -> Hp -> Prop), Inv X pins σ H s -> t σ H Q -> wpAny (model X.prog X.w) X.A (isTrue e X.env whole) (TP X pins σ Q) X.xe s
theorem PW.pt {X : Cx} {e : Expr} {t : TT} (h : PW X e t) : PT X e t := h _
def PA (X : Cx) (es : List Expr) (t : TA) : Prop :=
  ∀ (pos : Pos) (pins : List (Addr × Obj)) (s : Shared) (σ : St) (H : Hp) (Q : List V -> Hp -> Prop), Inv X pins σ H s -> t σ H Q -> wpAny (model X.prog X.w) X.A (spliced (backTo pos (starEach es X.env))) (AP X pins σ Q) X.xe s
def PS (X : Cx) (st : Stmt) (t : TS) : Prop :=
  ∀ (pins : List (Addr × Obj)) (s : Shared) (σ : St) (H : Hp) (D : Ends), Inv X pins σ H s -> t D σ H -> wpAny (model X.prog X.w) X.A (exec st X.env) (SP X pins D) X.xe s
def PSs (X : Cx) (st : List Stmt) (t : TS) : Prop :=
  ∀ (pins : List (Addr × Obj)) (s : Shared) (σ : St) (H : Hp) (D : Ends), Inv X pins σ H s -> t D σ H -> wpAny (model X.prog X.w) X.A (execs st X.env) (SP X pins D) X.xe s
theorem thn {α : Type} {t : Sem α} {Q Q' : α -> Shared -> Prop} {M : Model} {A : Around} {E : Value -> Shared -> Prop} {s : Shared} (h : wpAny M A t Q E s) (hQ : ∀ a s, Q a s -> Q' a s) : wpAny M A t Q' E s := wpAny_mono h hQ fun _ _ x => x
end L2
namespace L2
open PySem PySem.Spec PyProof.Rows
section
variable {X : Cx}
def tVar (i : Nat) : TE := fun σ H Q => ∃ v, σ[i]? = some (some v) /\ Q v H
def tC (v : V) : TE := fun _ H Q => Q v H
theorem pe_var {i : Nat} {x : Str} {pos : Pos} (hN : X.N[i]? = some x) (hv : Vis X.env.scope x) (hd : (x == ("__debug__" : Str)) = false := by decide) (hcd : (x == ("__classdict__" : Str)) = false := by decide) : PE X (.Name x pos) (tVar i) := by
  intro pins s σ H Q I h
  obtain ⟨v, e, h⟩ := h
  obtain ⟨m, hn, hl⟩ := I.loc
  obtain ⟨u, r, l⟩ := hl i x v hN e hv
  have fin : EP X pins σ Q u s := ⟨v, H, I, r, h⟩
  rcases l with ⟨hk, hm⟩ | ⟨hk, c, hc, hcell⟩
  · exact wpAny_Name (wpAny_loadName_local I.ok.kind hk hn hm fin) hd
  · rcases hk with hk | hk
    · exact wpAny_Name (wpAny_loadName_cell I.ok.kind hk hc hcell fin) hd
    · exact wpAny_Name (wpAny_loadName_free I.ok.kind hk hc hcell fin hcd) hd
theorem zB {i j pos} : PE X (.Constant (.int i) j pos) (tC (.int i)) := fun _ _ _ H _ I h => wpAny_Constant_int ⟨.int i, H, I.tok _, ⟨_, rfl⟩, h⟩
theorem pe_bl {b j pos} : PE X (.Constant (.bool b) j pos) (tC (.bl b)) := fun _ _ _ H _ I h => Constant_bool ⟨.bl b, H, I, rfl, h⟩
theorem pe_non {j pos} : PE X (.Constant .none j pos) (tC .non) := fun _ _ _ H _ I h => Constant_none ⟨.non, H, I, rfl, h⟩
theorem zP {x j pos} : PE X (.Constant (.str x) j pos) (tC (.str x)) := fun _ _ _ H _ I h => Calls.Constant_str ⟨.str x, H, I.tok _, ⟨_, rfl⟩, h⟩
def Gl (X : Cx) (x : Str) : Prop := X.env.kindOf x = some .globalImplicit
theorem ld_glob {E : Value -> Shared -> Prop} {pins : List (Addr × Obj)} {s : Shared} {σ : St} {H : Hp} {x : Str} {u : Value} {pos : Pos} {Q : Value -> Shared -> Prop} (I : Inv X pins σ H s) (hg : Gl X x) (hm : X.mg x = some u) (h : Q u s)
    (hd : (x == ("__debug__" : Str)) = false := by decide) : wpAny (model X.prog X.w) X.A (eval (.Name x pos) X.env) Q E s :=
  Calls.Name_function_global I.ok.kind hg (Calls.loadGlobal_global (by rw [I.ok.glob]; exact I.mod.glob.keeps I.bk) hm h) hd
theorem ld_blt {E : Value -> Shared -> Prop} {pins : List (Addr × Obj)} {s : Shared} {σ : St} {H : Hp} {x : Str} {u : Value} {pos : Pos} {Q : Value -> Shared -> Prop} (I : Inv X pins σ H s) (hg : Gl X x) (hm : X.mg x = none) (hv : bootBuiltins x = some u) (h : Q u s)
    (hn : x ≠ "__name__" := by decide) (hd : (x == ("__debug__" : Str)) = false := by decide) : wpAny (model X.prog X.w) X.A (eval (.Name x pos) X.env) Q E s := by
  obtain ⟨mb, h1, h2⟩ := I.mod.blt
  exact Calls.Name_function_global I.ok.kind hg (Calls.loadGlobal_builtin (by rw [I.ok.glob]; exact I.mod.glob.keeps I.bk) hm (by rw [I.ok.blt]; exact h1.keeps I.bk) ((h2 x hn).trans hv) h) hd
theorem pe_bltn {x : Str} {v : V} {u : Value} {pos : Pos} (hg : Gl X x) (hm : X.mg x = none) (hv : bootBuiltins x = some u) (r : RelV v u) (hn : x ≠ "__name__" := by decide) (hd : (x == ("__debug__" : Str)) = false := by decide) : PE X (.Name x pos) (tC v) :=
  fun _ _ _ H _ I h => ld_blt I hg hm hv ⟨v, H, I, r, h⟩ hn hd
variable {a b : Expr} {ta tb : TE} {pos : Pos}
def tB (t : TE) : TT := fun σ H Q => t σ H fun x H1 => ∃ c, x = .bl c /\ Q c H1
theorem pt_val {e : Expr} {t : TE} (h : PE X e t) (he : ∀ whole, isTrue e X.env whole = (do let v ← whole; standAt e.pos; holding [v] (truthy v)) := by intro _; rfl) : PT X e (tB t) := by
  intro pins s σ H Q I hw
  refine isTrue_plain (thn (h pins s σ H _ I hw) fun v s1 ⟨x, H1, I1, r1, q1⟩ => ?_) (he _)
  obtain ⟨d, rfl, q⟩ := q1
  cases r1
  exact wpAny_truthy_bool ⟨H1, I1, q⟩
variable {tA tB' : TT} {rest : List Expr}
def tAnd (t u : TT) : TT := fun σ H Q => t σ H fun c H1 => if c = true then u σ H1 Q else Q false H1
def tOr (t u : TT) : TT := fun σ H Q => t σ H fun c H1 => if c = true then Q true H1 else u σ H1 Q
def tNot (t : TT) : TT := fun σ H Q => t σ H fun c H1 => Q (!c) H1
theorem yP (ha : PT X a tA) : PW X (.BoolOp .And [a] pos) tA := by
  intro wh pins s σ H Q I h
  refine isTrue_and (thn (ha pins s σ H Q I h) fun c s1 e => ?_)
  cases c with
  | true => exact isTrue_and_nil e
  | false => exact e
theorem pw_or1 (ha : PT X a tA) : PW X (.BoolOp .Or [a] pos) tA := by
  intro wh pins s σ H Q I h
  refine isTrue_or (thn (ha pins s σ H Q I h) fun c s1 e => ?_)
  cases c with
  | false => exact isTrue_or_nil e
  | true => exact e
theorem pw_and (ha : PT X a tA) (hb : PW X (.BoolOp .And (b :: rest) pos) tB') : PW X (.BoolOp .And (a :: b :: rest) pos) (tAnd tA tB') := by
  intro wh pins s σ H Q I h
  refine isTrue_and (thn (ha pins s σ H _ I h) fun c s1 ⟨H1, I1, q1⟩ => ?_)
  cases c with
  | true => exact hb wh pins s1 σ H1 Q I1 q1
  | false => exact ⟨H1, I1, q1⟩
theorem pw_or (ha : PT X a tA) (hb : PW X (.BoolOp .Or (b :: rest) pos) tB') : PW X (.BoolOp .Or (a :: b :: rest) pos) (tOr tA tB') := by
  intro wh pins s σ H Q I h
  refine isTrue_or (thn (ha pins s σ H _ I h) fun c s1 ⟨H1, I1, q1⟩ => ?_)
  cases c with
  | true => exact ⟨H1, I1, q1⟩
  | false => exact hb wh pins s1 σ H1 Q I1 q1
theorem pt_not (ha : PT X a tA) : PT X (.UnaryOp .Not a pos) (tNot tA) := by
  intro pins s σ H Q I h
  exact isTrue_not (ha pins s σ H (fun c H1 => Q (!c) H1) I h)
def tAndV (ta tb : TE) : TE := fun σ H Q => ta σ H fun x H1 => ∃ c, x = .bl c /\ if c = true then tb σ H1 Q else Q (.bl false) H1
def tNotV (ta : TE) : TE := fun σ H Q => ta σ H fun x H1 => ∃ c, x = .bl c /\ Q (.bl (!c)) H1
theorem pe_one {op} {t : TE} (h : PE X a t) : PE X (.BoolOp op [a] pos) t := fun pins s σ H Q I hw => BoolOp_one (h pins s σ H Q I hw)
theorem pe_and (ha : PE X a ta) (hb : PE X (.BoolOp .And (b :: rest) pos) tb) : PE X (.BoolOp .And (a :: b :: rest) pos) (tAndV ta tb) := by
  intro pins s σ H Q I h
  refine BoolOp_and (thn (ha pins s σ H _ I h) fun v s1 ⟨x, H1, I1, r1, q1⟩ => ?_)
  obtain ⟨c, rfl, q1⟩ := q1
  cases r1
  refine wpAny_truthy_bool ?_
  cases c with
  | true => exact hb pins s1 σ H1 Q I1 q1
  | false => exact ⟨.bl false, H1, I1, rfl, q1⟩
theorem pe_not (ha : PE X a ta) : PE X (.UnaryOp .Not a pos) (tNotV ta) := by
  intro pins s σ H Q I h
  refine UnaryOp_ (thn (ha pins s σ H _ I h) fun v s1 ⟨x, H1, I1, r1, q1⟩ => ?_)
  obtain ⟨c, rfl, q1⟩ := q1
  cases r1
  exact not_of (wpAny_truthy_bool ⟨.bl (!c), H1, I1, rfl, q1⟩)
def tIf (t : TT) (ta tb : TE) : TE := fun σ H Q => t σ H fun c H1 => if c = true then ta σ H1 Q else tb σ H1 Q
theorem pe_ifExp {c : Expr} (hc : PT X c tA) (ha : PE X a ta) (hb : PE X b tb) : PE X (.IfExp c a b pos) (tIf tA ta tb) := by
  intro pins s σ H Q I h
  refine wpAny_IfExp (thn (hc pins s σ H _ I h) fun d s1 ⟨H1, I1, q1⟩ => ?_)
  cases d with
  | true => exact ha pins s1 σ H1 Q I1 q1
  | false => exact hb pins s1 σ H1 Q I1 q1
end
end L2
namespace L2
open PySem PySem.Spec PyProof.Rows
def SqL (K : PySem.W.Frag) (H : Hp) (a : Addr) (xs : List V) : Prop :=
  Rd H a (.lst xs) ∨
    ∃ (o : Obj) (its : Array Value) (n : Nat), K.lookup a = some o /\ o.cls = .type "list" /\ o.dict = none /\ o.data = .seq its n /\ its.size <= sizeLine /\ Vals xs its.toList
def SqT (K : PySem.W.Frag) (H : Hp) (a : Addr) (xs : List V) : Prop :=
  Rd H a (.tup xs) ∨
    ∃ (o : Obj) (its : Array Value) (n : Nat), K.lookup a = some o /\ o.cls = .type "tuple" /\ o.data = .seq its n /\ its.size <= sizeLine /\ Vals xs its.toList
def absV : Value -> Option V
  | .none => some .non
  | .bool b => some (.bl b)
  | .int i _ => some (.int i)
  | .str x _ => some (.str x)
  | .bytes b _ => some (.byt b)
  | .float b _ => some (.flt b)
  | .ref a => some (.ref a)
  | .type n => some (.ty n)
  | _ => none
theorem RelV.abs {x : V} {u : Value} (r : RelV x u) : absV u = some x := by
  cases x with
  | non => cases r; rfl
  | bl _ => cases r; rfl
  | int _ => obtain ⟨t, rfl⟩ := r; rfl
  | str _ => obtain ⟨t, rfl⟩ := r; rfl
  | byt _ => obtain ⟨t, rfl⟩ := r; rfl
  | flt _ => obtain ⟨t, rfl⟩ := r; rfl
  | ref _ => cases r; rfl
  | ty _ => cases r; rfl
theorem RelV.inj {x y : V} {u : Value} (r : RelV x u) (q : RelV y u) : x = y := zl7 (r.abs.symm.trans q.abs)
theorem Vals.inj : ∀ {xs ys : List V} {us : List Value}, Vals xs us -> Vals ys us -> xs = ys
  | _, _, _, .nil, .nil => rfl
  | _, _, _, .cons r t, .cons r' t' => by rw [r.inj r', Vals.inj t t']
section
variable {X : Cx} {pins : List (Addr × Obj)} {σ : St} {H : Hp} {s : Shared} {a : Addr} {xs ys : List V}
theorem SqL.of {K : PySem.W.Frag} (h : H a = some (.lst xs)) : SqL K H a xs := .inl (.inl h)
theorem SqT.of {K : PySem.W.Frag} (h : H a = some (.tup xs)) : SqT K H a xs := .inl (.inl h)
theorem Inv.list (I : Inv X pins σ H s) (h : SqL X.K H a xs) : ∃ its : List Value, Vals xs its /\ PlainL s.heap a its.toArray /\ xs.length <= sizeLine := by
  rcases h with h | ⟨o, its, n, hk, hc, hd, hs, hz, r⟩
  · obtain ⟨z, its, n, r, e⟩ := h.ok I.hok
    exact ⟨its, r, ⟨_, n, e, rfl, rfl, rfl⟩, z⟩
  · refine ⟨its.toList, r, ⟨o, n, I.kIn a o hk, hc, hd, by simpa using hs⟩, ?_⟩
    have e := r.length
    simp only [Array.length_toList] at e
    omega
theorem Inv.tuple (I : Inv X pins σ H s) (h : SqT X.K H a xs) : ∃ its : List Value, Vals xs its /\ IsTup s.heap a its.toArray /\ xs.length <= sizeLine := by
  rcases h with h | ⟨o, its, n, hk, hc, hs, hz, r⟩
  · obtain ⟨z, its, r, p⟩ := h.ok I.hok
    exact ⟨its, r, p, z⟩
  · refine ⟨its.toList, r, ⟨o, I.kIn a o hk, hc, n, by simpa using hs⟩, ?_⟩
    have e := r.length
    simp only [Array.length_toList] at e
    omega
theorem Inv.list_inj (I : Inv X pins σ H s) (h : SqL X.K H a xs) (h' : SqL X.K H a ys) : xs = ys := by
  obtain ⟨its, r, ⟨o, n, e, _, _, d⟩, _⟩ := I.list h
  obtain ⟨its', r', ⟨o', n', e', _, _, d'⟩, _⟩ := I.list h'
  rw [e] at e'; cases e'
  rw [d] at d'
  injection d' with d1 _
  have : its = its' := by simpa using congrArg Array.toList d1
  subst this
  exact r.inj r'
theorem Inv.tuple_inj (I : Inv X pins σ H s) (h : SqT X.K H a xs) (h' : SqT X.K H a ys) : xs = ys := by
  obtain ⟨its, r, ⟨o, e, _, n, d⟩, _⟩ := I.tuple h
  obtain ⟨its', r', ⟨o', e', _, n', d'⟩, _⟩ := I.tuple h'
  rw [e] at e'; cases e'
  rw [d] at d'
  injection d' with d1 _
  have : its = its' := by simpa using congrArg Array.toList d1
  subst this
  exact r.inj r'
end
abbrev Cx.wish (X : Cx) (E : Value -> Shared -> Prop) : Cx := { X with xe := E }
abbrev Cx.nox (X : Cx) : Cx := X.wish fun _ _ => False
theorem Cx.Ok.wish {X : Cx} (ok : X.Ok) (E : Value -> Shared -> Prop) : (X.wish E).Ok :=
  ⟨ok.mod, ok.kind, ok.glob, ok.blt, ok.above, ok.inj, ok.has, ok.cab, ok.hd, ok.frames, ok.stk, ok.exf, ok.bs, ok.bsz, ok.noex, ok.exfs, ok.funs, ok.frf⟩
theorem Cx.Ok.unwish {X : Cx} {E : Value -> Shared -> Prop} (ok : (X.wish E).Ok) : X.Ok :=
  ⟨ok.mod, ok.kind, ok.glob, ok.blt, ok.above, ok.inj, ok.has, ok.cab, ok.hd, ok.frames, ok.stk, ok.exf, ok.bs, ok.bsz, ok.noex, ok.exfs, ok.funs, ok.frf⟩
section
variable {X : Cx} {pins : List (Addr × Obj)} {σ : St} {H : Hp} {s : Shared} {E : Value -> Shared -> Prop}
theorem Inv.wish (I : Inv X pins σ H s) (E : Value -> Shared -> Prop) : Inv (X.wish E) pins σ H s := ⟨I.ok.wish E, I.os, I.bare, I.base, I.loc, I.cell, I.free, I.freeC, I.pin, I.hok, I.len⟩
theorem Inv.unwish (I : Inv (X.wish E) pins σ H s) : Inv X pins σ H s := ⟨I.ok.unwish, I.os, I.bare, I.base, I.loc, I.cell, I.free, I.freeC, I.pin, I.hok, I.len⟩
theorem SP.unwish {D : Ends} {f : Flow} {s' : Shared} (h : SP (X.wish E) pins D f s') : SP X pins D f s' := by
  cases f with
  | next => obtain ⟨σ', H', I, q⟩ := h; exact ⟨σ', H', I.unwish, q⟩
  | brk => obtain ⟨σ', H', I, q⟩ := h; exact ⟨σ', H', I.unwish, q⟩
  | cont => obtain ⟨σ', H', I, q⟩ := h; exact ⟨σ', H', I.unwish, q⟩
  | ret u => obtain ⟨v, σ', H', I, r, q⟩ := h; exact ⟨v, σ', H', I.unwish, r, q⟩
theorem PSs.nox {st : List Stmt} {t : TS} (h : PSs X.nox st t) : PSs X st t := fun pins s σ H D I hw =>
  wpAny_mono (h pins s σ H D (I.wish _) hw) (fun _ _ q => q.unwish) fun _ _ z => False.elim z
end
section
variable {X : Cx} {st : Stmt} {rest : List Stmt} {t u : TS} {e : Expr} {te : TE} {pos : Pos}
def tNext : TS := fun D σ H => D.nx σ H
def tSeq (t u : TS) : TS := fun D σ H => t { D with nx := u D } σ H
theorem zT : PSs X [] tNext := fun _ _ σ H _ I h => wpAny_execs_nil ⟨σ, H, I, h⟩
theorem zE (h1 : PS X st t) (h2 : PSs X rest u) : PSs X (st :: rest) (tSeq t u) := by
  intro pins s σ H D I h
  refine wpAny_execs_cons (thn (h1 pins s σ H { D with nx := u D } I h) fun f s1 q => ?_)
  cases f with
  | next =>
    obtain ⟨σ', H', I', q⟩ := q
    exact h2 pins s1 σ' H' D I' q
  | ret v => exact q
  | brk => exact q
  | cont => exact q
theorem zG (h1 : PS X st t) : PSs X [st] t := by
  intro pins s σ H D I h
  refine wpAny_execs_cons (thn (h1 pins s σ H D I h) fun f s1 q => ?_)
  cases f with
  | next => exact wpAny_execs_nil q
  | ret v => exact q
  | brk => exact q
  | cont => exact q
def tCont : TS := fun D σ H => D.ct σ H
theorem ps_continue : PS X (.Continue pos) tCont := fun _ _ σ H _ I h => wpAny_Continue ⟨σ, H, I, h⟩
theorem Inv.quiet {pins : List (Addr × Obj)} {σ : St} {H : Hp} {s : Shared} (I : Inv X pins σ H s) : interactive X.env = false := by simp [interactive, I.ok.kind]
def tDrop (te : TE) : TS := fun D σ H => te σ H fun _ H1 => D.nx σ H1
theorem yI (he : PE X e te) (hs : swapsWith e none pos.line X.env = pure false := by rfl) : PS X (.Expr e pos) (tDrop te) := by
  intro pins s σ H D I h
  exact wpAny_Expr_any (thn (he pins s σ H _ I h) fun v s1 ⟨x, H1, I1, r1, q1⟩ => ⟨σ, H1, I1, q1⟩) I.quiet hs
def tRet (te : TE) : TS := fun D σ H => te σ H D.rt
theorem zO (he : PE X e te) : PS X (.Return (some e) pos) (tRet te) := by
  intro pins s σ H D I h
  exact wpAny_Return_some (thn (he pins s σ H _ I h) fun v s1 ⟨x, H1, I1, r1, q1⟩ => ⟨x, σ, H1, I1, r1, q1⟩)
def tIfS (c : TT) (t u : TS) : TS := fun D σ H => c σ H fun b H1 => if b = true then t D σ H1 else u D σ H1
theorem yD {c : Expr} {a b : List Stmt} {tc : TT} (hc : PT X c tc) (ha : PSs X a t) (hb : PSs X b u) : PS X (.If c a b pos) (tIfS tc t u) := by
  intro pins s σ H D I h
  refine wpAny_If (thn (hc pins s σ H _ I h) fun d s1 ⟨H1, I1, q1⟩ => ?_)
  cases d with
  | true => exact ha pins s1 σ H1 D I1 q1
  | false => exact hb pins s1 σ H1 D I1 q1
end
abbrev TG := V -> St -> Hp -> (St -> Hp -> Prop) -> Prop
abbrev TGs := List V -> St -> Hp -> (St -> Hp -> Prop) -> Prop
def PG (X : Cx) (target : Expr) (t : TG) : Prop :=
  ∀ (pins : List (Addr × Obj)) (s : Shared) (σ : St) (H : Hp) (v : V) (u : Value) (Q : St -> Hp -> Prop), Inv X pins σ H s -> RelV v u -> t v σ H Q →
    wpAny (model X.prog X.w) X.A (assign target X.env u) (fun _ s' => ∃ σ' H', Inv X pins σ' H' s' /\ Q σ' H') X.xe s
def PGs (X : Cx) (ts : List Expr) (t : TGs) : Prop :=
  ∀ (pins : List (Addr × Obj)) (s : Shared) (σ : St) (H : Hp) (vs : List V) (us : List Value) (Q : St -> Hp -> Prop), Inv X pins σ H s -> Vals vs us -> t vs σ H Q →
    wpAny (model X.prog X.w) X.A (assignInOrder ((assignEach ts X.env).map (·.2)) us) (fun _ s' => ∃ σ' H', Inv X pins σ' H' s' /\ Q σ' H') X.xe s
abbrev TSet := V -> V -> V -> Hp -> (Hp -> Prop) -> Prop
def PSet (X : Cx) (t : TSet) : Prop :=
  ∀ (pins : List (Addr × Obj)) (s : Shared) (σ : St) (H : Hp) (o i v : V) (ov iv u : Value) (Q : Hp -> Prop), Inv X pins σ H s -> RelV o ov -> RelV i iv -> RelV v u -> t o i v H Q →
    wpAny (model X.prog X.w) X.A (setItem ov iv u) (fun _ s' => ∃ H', Inv X pins σ H' s' /\ Q H') X.xe s
section
variable {X : Cx} {pos : Pos}
def gName (i : Nat) : TG := fun v σ H Q => Q (σ.set i (some v)) H
theorem yJ {i : Nat} {x : Str} (hN : X.N.Nodup) (hi : X.N[i]? = some x) (hx : Loc X.env.scope x) (hf : X.fn x = true ∨ X.env.scope.names.lookup x = some .local := by first | exact .inl rfl | exact .inr rfl | assumption) : PG X (.Name x pos) (gName i) := by
  intro pins s σ H v u Q I r h
  exact wpAny_assign_Name (store_ok I hN hi hx r (fun s' I' => ⟨_, H, I', h⟩) hf)
def gNil : TGs := fun vs σ H Q => vs = [] /\ Q σ H
def gCons (t : TG) (u : TGs) : TGs := fun vs σ H Q => ∃ v r, vs = v :: r /\ t v σ H fun σ' H' => u r σ' H' Q
theorem pgs_nil : PGs X [] gNil := by
  intro pins s σ H vs us Q I r h
  obtain ⟨e, h⟩ := h
  subst e
  cases r
  exact assignInOrder_nil ⟨σ, H, I, h⟩
theorem pgs_cons {e : Expr} {es : List Expr} {t : TG} {u : TGs} (h1 : PG X e t) (h2 : PGs X es u)
    (hs : (assignEach (e :: es) X.env).map (·.2) = assign e X.env :: (assignEach es X.env).map (·.2) := by rfl) : PGs X (e :: es) (gCons t u) := by
  intro pins s σ H vs us Q I r h
  obtain ⟨v, vr, e1, h⟩ := h
  subst e1
  cases r with
  | cons r rr =>
    rw [hs]
    refine assignInOrder_cons (thn (h1 pins s σ H _ _ _ I r h) fun _ s1 ⟨σ1, H1, I1, q1⟩ => ?_)
    exact h2 pins s1 σ1 H1 _ _ Q I1 rr q1
def gTup (K : PySem.W.Frag) (n : Nat) (t : TGs) : TG := fun v σ H Q => ∃ a xs, v = .ref a /\ SqT K H a xs /\ xs.length = n /\ t xs σ H Q
theorem pg_tup {es : List Expr} {k : Nat} {t : TGs} {n : Nat} (hc : X.calm = true) (h : PGs X es t)
    (hn : (assignEach es X.env).length = n := by rfl) (hst : (assignEach es X.env).findIdx? (·.1) = none := by rfl) : PG X (.Tuple es k pos) (gTup X.K n t) := by
  intro pins s σ H v u Q I r hw
  obtain ⟨a, xs, e1, hq, hl, hw⟩ := hw
  subst e1
  cases r
  obtain ⟨its, rv, ht, hz⟩ := I.tuple hq
  refine assign_Tuple_tuple (I.ok.hd hc) ht (by simp [hn, <- hl, rv.length]) hst fun h' hx => ?_
  have I1 : Inv X pins σ H { s with heap := h' } := I.kept (t' := s.toks) fun b o e => hx b o (Nat.ne_of_lt (Heap.lt_size e)) e
  exact h pins _ σ H xs _ Q I1 (by simpa using rv) hw
def gSub (to ti : TE) (t : TSet) : TG := fun v σ H Q => to σ H fun o H1 => ti σ H1 fun i H2 => t o i v H2 fun H3 => Q σ H3
theorem pg_sub {o i : Expr} {to ti : TE} {t : TSet} (ho : PE X o to) (hi : PE X i ti) (hs : PSet X t)
    (ha : ∀ v, assign (.Subscript o i pos) X.env v = (do
      let ov ← holding [v] (eval o X.env)
      let iv ← holding [v, ov] (eval i X.env)
      standAt pos
      holding [v, ov, iv] (setItem ov iv v)
      release [v, ov, iv] []) := by intro _; rfl) : PG X (.Subscript o i pos) (gSub to ti t) := by
  intro pins s σ H v u Q I r h
  rw [ha]
  refine wpAny_bind (wpAny_holding (thn (ho pins s σ H _ I h) fun ov s1 ⟨x, H1, I1, r1, q1⟩ => ?_))
  refine wpAny_bind (wpAny_holding (thn (hi pins s1 σ H1 _ I1 q1) fun iv s2 ⟨y, H2, I2, r2, q2⟩ => ?_))
  refine wpAny_bind (wpAny_standAt (wpAny_bind (wpAny_holding (thn (hs pins s2 σ H2 x y v ov iv u _ I2 r1 r2 r q2) fun _ s3 ⟨H3, I3, q3⟩ => ?_))))
  exact wpAny_release ⟨σ, H3, I3, q3⟩
def tAsg (te : TE) (g : TG) : TS := fun D σ H => te σ H fun x H1 => g x σ H1 D.nx
theorem ps_asg {tg e : Expr} {te : TE} {g : TG} (he : PE X e te) (hg : PG X tg g) (hs : swapsWithSole [tg] e pos.line X.env = pure false := by rfl) (hw : swappedStores [tg] e X.env = pure none := by rfl)
    (h1 : (assignEach [tg] X.env).map (·.2) = [assign tg X.env] := by rfl) : PS X (.Assign [tg] e pos) (tAsg te g) := by
  intro pins s σ H D I h
  refine wpAny_Assign_stores (thn (he pins s σ H _ I h) fun v s1 ⟨x, H1, I1, r1, q1⟩ => ?_) hs hw
  rw [h1]
  exact thn (hg pins s1 σ H1 x v _ I1 r1 q1) fun _ s2 q => q
theorem zK {i : Nat} {x : Str} {e : Expr} {te : TE} {pos' : Pos} (hN : X.N.Nodup) (hi : X.N[i]? = some x) (hx : Loc X.env.scope x) (he : PE X e te) (hs : swapsWith e (some (.Name x pos')) pos.line X.env = pure false := by rfl) (hf : X.fn x = true ∨ X.env.scope.names.lookup x = some .local := by first | exact .inl rfl | exact .inr rfl | assumption) :
    PS X (.Assign [.Name x pos'] e pos) (tAsg te (gName i)) := by
  intro pins s σ H D I h
  refine wpAny_Assign_Name (thn (he pins s σ H _ I h) fun v s1 ⟨y, H1, I1, r1, q1⟩ => ?_) hs
  exact store_ok I1 hN hi hx r1 (fun s2 I2 => ⟨_, H1, I2, q1⟩) hf
end
section
variable {X : Cx} {pos : Pos}
def tWhile (c : TT) (tb : TS) : TS := fun D σ H => ∃ W : Nat -> St -> Hp -> Prop, (∃ m, W m σ H) /\ ∀ m σ H, W m σ H →
  c σ H fun b H1 => if b = true then ∃ N : St -> Hp -> Prop, (∀ σ' H', N σ' H' -> ∃ m', m' < m /\ W m' σ' H') /\ tb { D with nx := N, ct := N, bk := D.nx } σ H1 else D.nx σ H1
theorem ps_while {c : Expr} {body : List Stmt} {tc : TT} {tb : TS} (hp : PassesOwn (model X.prog X.w) X.A X.env X.xe) (hc : PT X c tc) (hb : PSs X body tb) : PS X (.While c body [] pos) (tWhile tc tb) := by
  intro pins s σ H D I h
  obtain ⟨W, ⟨m0, w0⟩, turn⟩ := h
  refine wpAny_While (codeAny_whileLoop (fun n s' => ∃ σ' H', Inv X pins σ' H' s' /\ W n σ' H') ?_ m0 ⟨σ, H, I, w0⟩)
  rintro n s1 ⟨σ1, H1, I1, w1⟩
  refine wpAny_passesOwn hp (thn (hc pins s1 σ1 H1 _ I1 (turn n σ1 H1 w1)) fun b s2 ⟨H2, I2, q2⟩ => ?_)
  cases b with
  | true =>
    obtain ⟨N, hN, q2⟩ := q2
    rw [if_pos rfl]
    refine wpAny_passesOwn hp (thn (hb pins s2 σ1 H2 _ I2 q2) fun f s3 q3 => ?_)
    cases f with
    | next =>
      obtain ⟨σ3, H3, I3, n3⟩ := q3
      obtain ⟨m', hm, w3⟩ := hN σ3 H3 n3
      exact ⟨m', hm, σ3, H3, I3, w3⟩
    | cont =>
      obtain ⟨σ3, H3, I3, n3⟩ := q3
      obtain ⟨m', hm, w3⟩ := hN σ3 H3 n3
      exact ⟨m', hm, σ3, H3, I3, w3⟩
    | brk => exact q3
    | ret v => exact q3
  | false =>
    rw [if_neg zl6]
    exact wpAny_execs_nil ⟨σ1, H2, I2, q2⟩
end
structure It where
  go : Nat -> Hp -> Prop
  yld : Nat -> Hp -> V -> Hp -> Prop
  stop : Nat -> Hp -> Prop
def FpOk (X : Cx) (pins : List (Addr × Obj)) (H : Hp) (b : Addr) : Prop :=
  H b = none /\ b ≠ X.env.locals /\ b ∉ X.fs /\ (b ∈ X.ex ∨ X.s₀.heap.objs.size <= b) /\ (∀ x c, X.env.cells.lookup x = some c -> c ≠ b) /\ ∀ p ∈ X.pn ++ pins, p.1 ≠ b
theorem Inv.fpOk {X : Cx} {pins : List (Addr × Obj)} {σ : St} {H H' : Hp} {s : Shared} {b : Addr} (I : Inv X pins σ H s) (hb : s.heap.objs.size <= b) (hn : H' b = none) : FpOk X pins H' b := by
  refine ⟨hn, Nat.ne_of_gt (Nat.lt_of_lt_of_le I.lt hb), I.nofs hb, .inr (Nat.le_trans I.sz hb), fun x c e z => ?_, fun p hp z => ?_⟩
  · obtain ⟨v, q⟩ := I.cell x c e
    exact absurd (Nat.lt_of_lt_of_le q.lt (by rw [z]; exact hb)) (Nat.lt_irrefl _)
  · exact absurd (Nat.lt_of_lt_of_le (Heap.lt_size (I.pin p hp).1) (by rw [z]; exact hb)) (Nat.lt_irrefl _)
structure Turn (P : Program) (w : World) (K : PySem.W.Frag) (tg : Expr) (J : It) (fp : List Addr) (it : Addr) (tn : Nat -> Heap -> Prop) : Prop where
  mem : it ∈ fp
  obj : ∀ i h, tn i h -> ∀ b ∈ fp, ∃ o, h.get? b = some o /\ ∀ v, o.data ≠ .cell v
  keep : ∀ i h h', tn i h -> (∀ b ∈ fp, ∀ o, h.get? b = some o -> h'.get? b = some o) -> tn i h'
  item : ∀ (X : Cx), X.prog = P -> X.w = w -> X.K = K -> X.calm = true -> ∀ (i : Nat) (pins : List (Addr × Obj)) (s : Shared) (σ : St) (H : Hp) (E : Value -> Shared -> Prop), Inv X pins σ H s -> (∀ b ∈ fp, FpOk X pins H b) -> tn i s.heap -> J.go i H →
    wpAny (model P w) X.A (pyNext (.ref it)) (fun r s1 => ∃ u, r = some u ∧
      wpAny (model P w) X.A (letOwnedTupleGo tg (.ref it) u) (fun _ s2 => ∃ x H', Inv X pins σ H' s2 /\ RelV x u /\ J.yld i H x H' /\ tn (i + 1) s2.heap /\ ∀ b ∈ fp, H' b = none) E s1) E s
  done : ∀ (X : Cx), X.prog = P -> X.w = w -> X.K = K -> X.calm = true -> ∀ (i : Nat) (pins : List (Addr × Obj)) (s : Shared) (σ : St) (H : Hp) (E : Value -> Shared -> Prop), Inv X pins σ H s -> (∀ b ∈ fp, FpOk X pins H b) -> tn i s.heap -> J.stop i H →
    wpAny (model P w) X.A (pyNext (.ref it)) (fun r s1 => r = none /\ Inv X pins σ H s1) E s
  self : ∀ (A : Around) (i : Nat) (s : Shared) (Q : Value -> Shared -> Prop) (E : Value -> Shared -> Prop), tn i s.heap -> Q (.ref it) s -> wpAny (model P w) A (pyIter (.ref it)) Q E s
abbrev TI := St -> Hp -> (It -> Hp -> Prop) -> Prop
def PIE (X : Cx) (pins : List (Addr × Obj)) (σ : St) (tg : Expr) (R : It -> Hp -> Prop) (itv : Value) (s2 : Shared) : Prop :=
  ∃ (it : Addr) (fp : List Addr) (tn : Nat -> Heap -> Prop) (J : It) (H' : Hp), itv = .ref it /\ Inv X pins σ H' s2 /\ Turn X.prog X.w X.K tg J fp it tn /\ tn 0 s2.heap /\ (∀ b ∈ fp, FpOk X pins H' b) /\ R J H'
def PI (X : Cx) (tg iter : Expr) (wi : TI) : Prop :=
  ∀ (pins : List (Addr × Obj)) (s : Shared) (σ : St) (H : Hp) (R : It -> Hp -> Prop), Inv X pins σ H s -> wi σ H R →
    wpAny (model X.prog X.w) X.A (eval iter X.env) (fun v s1 => wpAny (model X.prog X.w) X.A (pyIter v) (PIE X pins σ tg R) X.xe s1) X.xe s
theorem go_of {M : Model} {A : Around} {E : Value -> Shared -> Prop} {s : Shared} {tg : Expr} {it : Addr} {u : Value} {o : Obj} {n : String} {vs : Array Value} {Q : Unit -> Shared -> Prop} (ho : s.heap.get? it = some o) (hc : o.cls = .type n) (hd : o.data = .fields vs)
    (hn : ["enumerate", "zip", "dict_itemiterator", "dict_reverseitemiterator", "odict_iterator", "itertools.zip_longest", "itertools.pairwise"].contains n = false) (hQ : Q () s) : wpAny M A (letOwnedTupleGo tg (.ref it) u) Q E s := by
  unfold letOwnedTupleGo
  cases tg <;> first
    | exact wpAny_pure hQ
    | (cases u <;> first
        | exact wpAny_pure hQ
        | (refine wpAny_bind (wpAny_load ho ?_)
           rw [hc, hd]
           show wpAny M A (if (["enumerate", "zip", "dict_itemiterator", "dict_reverseitemiterator", "odict_iterator", "itertools.zip_longest", "itertools.pairwise"].contains n && vs[0]? == some (rawInt _)) = true then _ else _) Q E s
           rw [if_neg (by intro h; rw [hn, Bool.false_and] at h; cases h)]
           exact wpAny_pure hQ))
def Itl (K : PySem.W.Frag) (a : Addr) : It :=
  ⟨fun i H => ∃ xs x, SqL K H a xs /\ xs[i]? = some x, fun i H x H' => H' = H /\ ∀ xs, SqL K H a xs -> xs[i]? = some x, fun i H => ∃ xs, SqL K H a xs /\ xs.length <= i⟩
def Itt (K : PySem.W.Frag) (a : Addr) : It :=
  ⟨fun i H => ∃ xs x, SqT K H a xs /\ xs[i]? = some x, fun i H x H' => H' = H /\ ∀ xs, SqT K H a xs -> xs[i]? = some x, fun i H => ∃ xs, SqT K H a xs /\ xs.length <= i⟩
def Itr (lo : Int) (n : Nat) : It := ⟨fun i _ => i < n, fun i H x H' => H' = H /\ x = .int (lo + i), fun i _ => n <= i⟩
theorem turn_list {P : Program} {w : World} {K : PySem.W.Frag} {tg : Expr} (a it : Addr) : Turn P w K tg (Itl K a) [it] it (fun i h => h.IsListIter it a i) where
  mem := by simp
  obj := fun i h st b hb => by
    have e : b = it := by simpa using hb
    subst e
    obtain ⟨o, e, c, d⟩ := st
    exact ⟨o, e, fun v z => by rw [d] at z; cases z⟩
  keep := fun i h h' st k => st.at fun o e => k it (by simp) o e
  item := by
    intro X hP hw hK hc i pins s σ H E I hf st hg
    subst hP hw hK
    obtain ⟨xs, x, hq, hx⟩ := hg
    obtain ⟨its, rv, p, hz⟩ := I.list hq
    obtain ⟨u, hu, ru⟩ := rv.get hx
    obtain ⟨f0, f1, f2, f3, f4, f5⟩ := hf it (by simp)
    refine wpAny_pyNext_list_item st p.isList (x := u) (by simpa using hu) fun h' st' sb => ?_
    have I1 : Inv X pins σ H { s with heap := h' } := I.turned (t' := s.toks) (fun b o hb e => (sb.2 b hb).trans e) f0 f1 f3 f4 f5
    obtain ⟨o, e, c, d⟩ := id st'
    exact ⟨u, rfl, go_of (s := { s with heap := h' }) e c d (by decide) ⟨x, H, I1, ru, ⟨rfl, fun ys hy => by rw [I.list_inj hy hq]; exact hx⟩, st', fun b hb => (hf b hb).1⟩⟩
  done := by
    intro X hP hw hK hc i pins s σ H E I hf st hg
    subst hP hw hK
    obtain ⟨xs, hq, hx⟩ := hg
    obtain ⟨its, rv, p, hz⟩ := I.list hq
    obtain ⟨f0, f1, f2, f3, f4, f5⟩ := hf it (by simp)
    have hl := rv.length
    exact wpAny_pyNext_list_end (I.ok.hd hc) st p.isList (by simp; omega) fun h' eb => ⟨rfl, I.turned (t' := s.toks) (fun b o hb e => eb b o hb e) f0 f1 f3 f4 f5⟩
  self := fun _ _ _ _ _ st h => wpAny_pyIter_listiter st h
theorem turn_tuple {P : Program} {w : World} {K : PySem.W.Frag} {tg : Expr} (a it : Addr) : Turn P w K tg (Itt K a) [it] it (fun i h => h.IsTupleIter it a i) where
  mem := by simp
  obj := fun i h st b hb => by
    have e : b = it := by simpa using hb
    subst e
    obtain ⟨o, e, c, d⟩ := st
    exact ⟨o, e, fun v z => by rw [d] at z; cases z⟩
  keep := fun i h h' st k => st.at fun o e => k it (by simp) o e
  item := by
    intro X hP hw hK hc i pins s σ H E I hf st hg
    subst hP hw hK
    obtain ⟨xs, x, hq, hx⟩ := hg
    obtain ⟨its, rv, p, hz⟩ := I.tuple hq
    obtain ⟨u, hu, ru⟩ := rv.get hx
    obtain ⟨f0, f1, f2, f3, f4, f5⟩ := hf it (by simp)
    refine wpAny_pyNext_tuple_item st (show s.heap.IsTuple a its.toArray from p) (x := u) (by simpa using hu) fun h' st' sb => ?_
    have I1 : Inv X pins σ H { s with heap := h' } := I.turned (t' := s.toks) (fun b o hb e => (sb.2 b hb).trans e) f0 f1 f3 f4 f5
    obtain ⟨o, e, c, d⟩ := id st'
    exact ⟨u, rfl, go_of (s := { s with heap := h' }) e c d (by decide) ⟨x, H, I1, ru, ⟨rfl, fun ys hy => by rw [I.tuple_inj hy hq]; exact hx⟩, st', fun b hb => (hf b hb).1⟩⟩
  done := by
    intro X hP hw hK hc i pins s σ H E I hf st hg
    subst hP hw hK
    obtain ⟨xs, hq, hx⟩ := hg
    obtain ⟨its, rv, p, hz⟩ := I.tuple hq
    obtain ⟨f0, f1, f2, f3, f4, f5⟩ := hf it (by simp)
    have hl := rv.length
    exact wpAny_pyNext_tuple_end (I.ok.hd hc) st (show s.heap.IsTuple a its.toArray from p) (by simp; omega) fun h' eb => ⟨rfl, I.turned (t' := s.toks) (fun b o hb e => eb b o hb e) f0 f1 f3 f4 f5⟩
  self := fun _ _ _ _ _ st h => wpAny_pyIter_tupleiter st h
theorem turn_range {P : Program} {w : World} {K : PySem.W.Frag} {tg : Expr} (it : Addr) (lo : Int) (n : Nat) : Turn P w K tg (Itr lo n) [it] it (fun i h => IsRangeIter h it (lo + (i : Nat) * 1) ((n : Int) - (i : Nat)) 1) where
  mem := by simp
  obj := fun i h st b hb => by
    have e : b = it := by simpa using hb
    subst e
    exact ⟨_, st, fun v z => by
      have z' : Data.fields _ = Data.cell v := z
      cases z'⟩
  keep := fun i h h' st k => k it (by simp) _ st
  item := by
    intro X hP hw hK hc i pins s σ H E I hf st hg
    subst hP hw hK
    obtain ⟨f0, f1, f2, f3, f4, f5⟩ := hf it (by simp)
    have W := Walks.range (prog := X.prog) (w := X.w) (I.ok.hd hc) it lo 1 n
    refine W.item i s _ _ hg st fun v h' tk hv st' kk => ?_
    obtain ⟨t, rfl⟩ := hv
    have I1 : Inv X pins σ H { s with heap := h', toks := tk } := I.turned (fun b o hb e => kk b o (by simpa using hb) e) f0 f1 f3 f4 f5
    refine ⟨_, rfl, go_of (s := { s with heap := h', toks := tk }) (n := "range_iterator") st' rfl rfl (by decide) ⟨.int (lo + i), H, I1, ⟨t, ?_⟩, ⟨rfl, rfl⟩, st', fun b hb => (hf b hb).1⟩⟩
    rw [Int.mul_one]
  done := by
    intro X hP hw hK hc i pins s σ H E I hf st hg
    subst hP hw hK
    obtain ⟨f0, f1, f2, f3, f4, f5⟩ := hf it (by simp)
    exact wpAny_pyNext_range_end (I.ok.hd hc) st (by have : n <= i := hg; omega) fun h' eb => ⟨rfl, I.turned (t' := s.toks) (fun b o hb e => eb b o hb e) f0 f1 f3 f4 f5⟩
  self := fun _ _ _ _ _ st h => wpAny_pyIter_rangeiter st h
end L2
namespace L2
open PySem PySem.Spec PyProof.Rows
section
variable {X : Cx} {tg : Expr}
def iList (K : PySem.W.Frag) (tl : TE) : TI := fun σ H R => tl σ H fun x H1 => ∃ a, x = .ref a /\ (∃ xs, SqL K H1 a xs) /\ R (Itl K a) H1
def iTup (K : PySem.W.Frag) (tl : TE) : TI := fun σ H R => tl σ H fun x H1 => ∃ a, x = .ref a /\ (∃ xs, SqT K H1 a xs) /\ R (Itt K a) H1
theorem yM {l : Expr} {tl : TE} (hl : PE X l tl) : PI X tg l (iList X.K tl) := by
  intro pins s σ H R I h
  refine thn (hl pins s σ H _ I h) fun v s1 ⟨x, H1, I1, r1, q1⟩ => ?_
  obtain ⟨a, e, ⟨xs, hq⟩, q⟩ := q1
  subst e
  cases r1
  obtain ⟨its, rv, p, hz⟩ := I1.list hq
  refine wpAny_pyIter_list p.isList ?_
  refine ⟨s1.heap.objs.size, [s1.heap.objs.size], _, _, H1, rfl, I1.kept (t' := s1.toks) fun b o e => Heap.get?_push_of_some _ e, turn_list a _, ⟨_, Heap.get?_push_size _ rfl, rfl, rfl⟩, fun b hb => ?_, q⟩
  have e : b = s1.heap.objs.size := by simpa using hb
  subst e
  exact I1.fpOk (zl3 _) (I1.hok.fresh (zl3 _))
theorem pi_tup {l : Expr} {tl : TE} (hl : PE X l tl) : PI X tg l (iTup X.K tl) := by
  intro pins s σ H R I h
  refine thn (hl pins s σ H _ I h) fun v s1 ⟨x, H1, I1, r1, q1⟩ => ?_
  obtain ⟨a, e, ⟨xs, hq⟩, q⟩ := q1
  subst e
  cases r1
  obtain ⟨its, rv, p, hz⟩ := I1.tuple hq
  refine wpAny_pyIter_tuple (show s1.heap.IsTuple a its.toArray from p) ?_
  refine ⟨s1.heap.objs.size, [s1.heap.objs.size], _, _, H1, rfl, I1.kept (t' := s1.toks) fun b o e => Heap.get?_push_of_some _ e, turn_tuple a _, ⟨_, Heap.get?_push_size _ rfl, rfl, rfl⟩, fun b hb => ?_, q⟩
  have e : b = s1.heap.objs.size := by simpa using hb
  subst e
  exact I1.fpOk (zl3 _) (I1.hok.fresh (zl3 _))
theorem range_it {pins : List (Addr × Obj)} {σ : St} {H : Hp} {s : Shared} {R : It -> Hp -> Prop} {E : Value -> Shared -> Prop} {lo hi : Int} {t u v : Tok} {tk : Nat} (I : Inv X pins σ H s) (h1 : -(2 ^ 62) <= lo) (h2 : lo < 2 ^ 62) (h3 : -(2 ^ 62) <= hi) (h4 : hi < 2 ^ 62)
    (q : R (Itr lo (hi - lo).toNat) H) : wpAny (model X.prog X.w) X.A (pyIter (.ref s.heap.objs.size)) (PIE X pins σ tg R) E { s with heap := s.heap.push { cls := .type "range", data := .fields #[.int lo t, .int hi u, .int 1 v] }, toks := tk } := by
  refine wpAny_pyIter_range (IsRange.new ..) (small_one h1 h2 h3 h4) ?_
  have I1 : Inv X pins σ H { s with heap := s.heap.push { cls := .type "range", data := .fields #[.int lo t, .int hi u, .int 1 v] }, toks := tk } := I.kept fun b o e => Heap.get?_push_of_some _ e
  refine ⟨(s.heap.push { cls := .type "range", data := .fields #[.int lo t, .int hi u, .int 1 v] }).objs.size, [(s.heap.push { cls := .type "range", data := .fields #[.int lo t, .int hi u, .int 1 v] }).objs.size], _, _, H, rfl,
    I1.kept (t' := tk) fun b o e => Heap.get?_push_of_some _ e, turn_range _ lo (hi - lo).toNat, ?_, fun b hb => ?_, q⟩
  · have e1 : lo + ((0 : Nat) : Int) * 1 = lo := by simp
    have e2 : (((hi - lo).toNat : Nat) : Int) - ((0 : Nat) : Int) = Builtin.Range.rangeSize lo hi 1 := by rw [rangeSize_one]; split <;> omega
    show IsRangeIter _ _ (lo + ((0 : Nat) : Int) * 1) ((((hi - lo).toNat : Nat) : Int) - ((0 : Nat) : Int)) 1
    rw [e1, e2]
    exact Heap.get?_push_size _ rfl
  · have e : b = (s.heap.push { cls := .type "range", data := .fields #[.int lo t, .int hi u, .int 1 v] }).objs.size := by simpa using hb
    subst e
    exact I1.fpOk (zl3 _) (I1.hok.fresh (zl3 _))
def iRng1 (ta : TA) : TI := fun σ H R => ta σ H fun vs H1 => ∃ j : Int, vs = [.int j] /\ -(2 ^ 62) <= j /\ j < 2 ^ 62 /\ R (Itr 0 j.toNat) H1
def iRng2 (ta : TA) : TI := fun σ H R => ta σ H fun vs H1 => ∃ i j : Int, vs = [.int i, .int j] /\ (-(2 ^ 62) <= i /\ i < 2 ^ 62 /\ -(2 ^ 62) <= j /\ j < 2 ^ 62) /\ R (Itr i (j - i).toNat) H1
theorem pi_range1 {a : Expr} {ta : TA} {p pos : Pos} (hg : Gl X "range") (hm : X.mg "range" = none) (ha : PA X [a] ta) (hs : starEach [a] X.env = [(false, eval a X.env)] := by rfl) : PI X tg (.Call (.Name "range" p) [a] [] pos) (iRng1 ta) := by
  intro pins s σ H R I h
  refine Call_ (ld_blt I hg hm boot_range (PyProof.Rows.callWith_type1 (thn (ha pos pins s σ H _ I h) fun us s1 ⟨vs, H1, I1, r1, q1⟩ => ?_) hs rfl))
  obtain ⟨j, e, q1, q2, q⟩ := q1
  subst e
  cases r1 with
  | cons r rr =>
    cases rr
    obtain ⟨t, rfl⟩ := r
    exact call_range_1 (range_it I1 (by omega) (by omega) q1 q2 (by simpa using q))
theorem pi_range2 {a b : Expr} {ta : TA} {p pos : Pos} (hg : Gl X "range") (hm : X.mg "range" = none) (ha : PA X [a, b] ta) (hs : starEach [a, b] X.env = [(false, eval a X.env), (false, eval b X.env)] := by rfl) (hs2 : starEach [b] X.env = [(false, eval b X.env)] := by rfl) :
    PI X tg (.Call (.Name "range" p) [a, b] [] pos) (iRng2 ta) := by
  intro pins s σ H R I h
  refine Call_ (ld_blt I hg hm boot_range (PyProof.Rows.callWith_type1 (thn (ha pos pins s σ H _ I h) fun us s1 ⟨vs, H1, I1, r1, q1⟩ => ?_) (by rw [hs, hs2]) (by rw [hs2]; rfl)))
  obtain ⟨i, j, e, ⟨q1, q2, q3, q4⟩, q⟩ := q1
  subst e
  cases r1 with
  | cons r rr =>
    cases rr with
    | cons r' rr =>
      cases rr
      obtain ⟨t, rfl⟩ := r
      obtain ⟨t', rfl⟩ := r'
      exact call_range_2 (range_it I1 q1 q2 q3 q4 q)
def tFor (wi : TI) (g : TG) (tb : TS) : TS := fun D σ H => wi σ H fun J H1 => ∃ W : Nat -> Nat -> St -> Hp -> Prop, (∃ m, W 0 m σ H1) /\ ∀ i m σ H, W i m σ H →
  (J.stop i H /\ D.nx σ H) ∨ (J.go i H /\ ∃ N : St -> Hp -> Prop, (∀ σ' H', N σ' H' -> ∃ m', m' < m /\ W (i + 1) m' σ' H') /\ ∀ x H', J.yld i H x H' -> g x σ H' fun σ2 H2 => tb { D with nx := N, ct := N, bk := D.nx } σ2 H2)
def pinsAt (fp : List Addr) (h : Heap) : List (Addr × Obj) := fp.filterMap fun b => (h.get? b).map fun o => (b, o)
theorem mem_pinsAt {fp : List Addr} {h : Heap} {b : Addr} {o : Obj} (hb : b ∈ fp) (e : h.get? b = some o) : (b, o) ∈ pinsAt fp h := List.mem_filterMap.mpr ⟨b, hb, by rw [e]; rfl⟩
theorem of_pinsAt {fp : List Addr} {h : Heap} {p : Addr × Obj} (hp : p ∈ pinsAt fp h) : p.1 ∈ fp /\ h.get? p.1 = some p.2 := by
  obtain ⟨b, hb, e⟩ := List.mem_filterMap.mp hp
  cases q : h.get? b with
  | none => rw [q] at e; cases e
  | some o =>
    rw [q] at e
    have e' : (b, o) = p := zl7 e
    subst e'
    exact ⟨hb, q⟩
theorem Inv.pinned {pins : List (Addr × Obj)} {σ : St} {H : Hp} {s : Shared} {fp : List Addr} (I : Inv X pins σ H s) (hf : ∀ b ∈ fp, FpOk X pins H b) (ho : ∀ b ∈ fp, ∃ o, s.heap.get? b = some o /\ ∀ v, o.data ≠ .cell v) : Inv X (pins ++ pinsAt fp s.heap) σ H s :=
  I.pins_of fun p hp => (zl18.mp hp).elim (fun z => I.pin p (List.mem_append_right _ z)) fun z => by
    obtain ⟨hb, e⟩ := of_pinsAt z
    obtain ⟨f0, f1, f2, _⟩ := hf p.1 hb
    obtain ⟨o, e', d⟩ := ho p.1 hb
    rw [e] at e'; cases e'
    exact ⟨e, f0, f1, f2, d⟩
theorem Inv.unpinned {pins pl : List (Addr × Obj)} {σ : St} {H : Hp} {s : Shared} (I : Inv X (pins ++ pl) σ H s) : Inv X pins σ H s := I.pins_of fun p hp => I.pin p (List.mem_append_right _ (List.mem_append_left _ hp))
theorem ps_for {iter : Expr} {body : List Stmt} {wi : TI} {g : TG} {tb : TS} {pos : Pos} (hp : PassesOwn (model X.prog X.w) X.A X.env X.xe) (hc : X.calm = true) (hi : PI X tg iter wi) (hg : PG X tg g) (hb : PSs X body tb)
    (hs : ∀ x, foldedSetIterable iter X.env x = pure x := by intro _; rfl) : PS X (.For tg iter body [] pos) (tFor wi g tb) := by
  intro pins s σ H D I h
  refine wpAny_For (thn (hi pins s σ H _ I h) fun v s1 h1 => thn h1 fun itv s2 h2 => ?_) hs
  obtain ⟨it, fp, tn, J, H2, e, I2, T, st2, f2, W, ⟨m0, w0⟩, turn⟩ := h2
  subst e
  -- what stays true of the iterator's objects through the loop
  have stat : ∀ {H' : Hp}, (∀ b ∈ fp, H' b = none) -> ∀ b ∈ fp, FpOk X pins H' b := fun hn b hb => ⟨hn b hb, (f2 b hb).2⟩
  refine codeAny_forLoop_any (fun n s' => ∃ i σ' H', Inv X pins σ' H' s' /\ tn i s'.heap /\ (∀ b ∈ fp, H' b = none) /\ W i n σ' H') ?_ m0 ⟨0, σ, H2, I2, st2, fun b hb => (f2 b hb).1, w0⟩
  rintro n s3 ⟨i, σ3, H3, I3, st3, fr3, w3⟩
  rcases turn i n σ3 H3 w3 with ⟨stop, qn⟩ | ⟨go, N, hN, step⟩
  · refine wpAny_passesOwn hp (thn (T.done X rfl rfl rfl hc i pins s3 σ3 H3 X.xe I3 (stat fr3) st3 stop) fun r s4 ⟨hr, I4⟩ => ?_)
    subst hr
    exact wpAny_execs_nil ⟨σ3, H3, I4, qn⟩
  · refine wpAny_passesOwn hp (thn (T.item X rfl rfl rfl hc i pins s3 σ3 H3 X.xe I3 (stat fr3) st3 go) fun r s4 ⟨u, hr, h4⟩ => ?_)
    subst hr
    refine wpAny_passesOwn hp (thn h4 fun _ s5 ⟨x, H5, I5, r5, y5, st5, fr5⟩ => ?_)
    have I5' := I5.pinned (stat fr5) (T.obj _ _ st5)
    refine wpAny_passesOwn hp (thn (hg _ s5 σ3 H5 x u _ I5' r5 (step x H5 y5)) fun _ s6 ⟨σ6, H6, I6, q6⟩ => ?_)
    refine wpAny_passesOwn hp (thn (hb _ s6 σ6 H6 _ I6 q6) fun f s7 q7 => ?_)
    have again : ∀ {σ7 : St} {H7 : Hp}, Inv X (pins ++ pinsAt fp s5.heap) σ7 H7 s7 -> N σ7 H7 -> ∃ m, m < n /\ ∃ i σ' H', Inv X pins σ' H' s7 /\ tn i s7.heap /\ (∀ b ∈ fp, H' b = none) /\ W i m σ' H' := fun {σ7 H7} I7 n7 => by
      obtain ⟨m', hm, w7⟩ := hN σ7 H7 n7
      refine ⟨m', hm, i + 1, σ7, H7, I7.unpinned, T.keep _ _ _ st5 fun b hb o e => (I7.pin (b, o) (List.mem_append_right _ (List.mem_append_right _ (mem_pinsAt hb e)))).1, fun b hb => ?_, w7⟩
      obtain ⟨o, e, d⟩ := T.obj _ _ st5 b hb
      exact (I7.pin (b, o) (List.mem_append_right _ (List.mem_append_right _ (mem_pinsAt hb e)))).2.1
    cases f with
    | next => obtain ⟨σ7, H7, I7, n7⟩ := q7; exact again I7 n7
    | cont => obtain ⟨σ7, H7, I7, n7⟩ := q7; exact again I7 n7
    | brk => obtain ⟨σ7, H7, I7, q7⟩ := q7; exact ⟨σ7, H7, I7.unpinned, q7⟩
    | ret v => obtain ⟨x7, σ7, H7, I7, r7, q7⟩ := q7; exact ⟨x7, σ7, H7, I7.unpinned, r7, q7⟩
end
theorem for_list {K : PySem.W.Frag} {a : Addr} {xs : List V} {g : TG} {tb : TS} {D : Ends} {σ : St} {H : Hp} (Pv : Nat -> St -> Hp -> Prop) (h0 : Pv 0 σ H) (hl : ∀ i σ H, i <= xs.length -> Pv i σ H -> SqL K H a xs)
    (hs : ∀ i x σ H, xs[i]? = some x -> Pv i σ H -> g x σ H fun σ2 H2 => tb { D with nx := Pv (i + 1), ct := Pv (i + 1), bk := D.nx } σ2 H2) (hd : ∀ σ H, Pv xs.length σ H -> D.nx σ H) :
    ∃ W : Nat -> Nat -> St -> Hp -> Prop, (∃ m, W 0 m σ H) /\ ∀ i m σ H, W i m σ H →
      ((Itl K a).stop i H /\ D.nx σ H) ∨ ((Itl K a).go i H /\ ∃ N : St -> Hp -> Prop, (∀ σ' H', N σ' H' -> ∃ m', m' < m /\ W (i + 1) m' σ' H') /\ ∀ x H', (Itl K a).yld i H x H' -> g x σ H' fun σ2 H2 => tb { D with nx := N, ct := N, bk := D.nx } σ2 H2) := by
  refine ⟨fun i m σ H => m = xs.length - i /\ i <= xs.length /\ Pv i σ H, ⟨xs.length, by simp, Nat.zero_le _, h0⟩, ?_⟩
  rintro i m σ H ⟨rfl, hi, p⟩
  have q := hl i σ H hi p
  by_cases hlt : i < xs.length
  · refine .inr ⟨⟨xs, xs[i], q, by simp [hlt]⟩, Pv (i + 1), fun σ' H' p' => ⟨xs.length - (i + 1), by omega, rfl, hlt, p'⟩, fun x H' y => ?_⟩
    obtain ⟨e, y⟩ := y
    subst e
    exact hs i x σ _ (y xs q) p
  · have e : i = xs.length := by omega
    subst e
    exact .inl ⟨⟨xs, q, zl3 _⟩, hd σ H p⟩
theorem for_tup {K : PySem.W.Frag} {a : Addr} {xs : List V} {g : TG} {tb : TS} {D : Ends} {σ : St} {H : Hp} (Pv : Nat -> St -> Hp -> Prop) (h0 : Pv 0 σ H) (hl : ∀ i σ H, i <= xs.length -> Pv i σ H -> SqT K H a xs)
    (hs : ∀ i x σ H, xs[i]? = some x -> Pv i σ H -> g x σ H fun σ2 H2 => tb { D with nx := Pv (i + 1), ct := Pv (i + 1), bk := D.nx } σ2 H2) (hd : ∀ σ H, Pv xs.length σ H -> D.nx σ H) :
    ∃ W : Nat -> Nat -> St -> Hp -> Prop, (∃ m, W 0 m σ H) /\ ∀ i m σ H, W i m σ H →
      ((Itt K a).stop i H /\ D.nx σ H) ∨ ((Itt K a).go i H /\ ∃ N : St -> Hp -> Prop, (∀ σ' H', N σ' H' -> ∃ m', m' < m /\ W (i + 1) m' σ' H') /\ ∀ x H', (Itt K a).yld i H x H' -> g x σ H' fun σ2 H2 => tb { D with nx := N, ct := N, bk := D.nx } σ2 H2) := by
  refine ⟨fun i m σ H => m = xs.length - i /\ i <= xs.length /\ Pv i σ H, ⟨xs.length, by simp, Nat.zero_le _, h0⟩, ?_⟩
  rintro i m σ H ⟨rfl, hi, p⟩
  have q := hl i σ H hi p
  by_cases hlt : i < xs.length
  · refine .inr ⟨⟨xs, xs[i], q, by simp [hlt]⟩, Pv (i + 1), fun σ' H' p' => ⟨xs.length - (i + 1), by omega, rfl, hlt, p'⟩, fun x H' y => ?_⟩
    obtain ⟨e, y⟩ := y
    subst e
    exact hs i x σ _ (y xs q) p
  · have e : i = xs.length := by omega
    subst e
    exact .inl ⟨⟨xs, q, zl3 _⟩, hd σ H p⟩
theorem for_range {lo : Int} {n : Nat} {g : TG} {tb : TS} {D : Ends} {σ : St} {H : Hp} (Pv : Nat -> St -> Hp -> Prop) (h0 : Pv 0 σ H)
    (hs : ∀ i σ H, i < n -> Pv i σ H -> g (.int (lo + i)) σ H fun σ2 H2 => tb { D with nx := Pv (i + 1), ct := Pv (i + 1), bk := D.nx } σ2 H2) (hd : ∀ σ H, Pv n σ H -> D.nx σ H) :
    ∃ W : Nat -> Nat -> St -> Hp -> Prop, (∃ m, W 0 m σ H) /\ ∀ i m σ H, W i m σ H →
      ((Itr lo n).stop i H /\ D.nx σ H) ∨ ((Itr lo n).go i H /\ ∃ N : St -> Hp -> Prop, (∀ σ' H', N σ' H' -> ∃ m', m' < m /\ W (i + 1) m' σ' H') /\ ∀ x H', (Itr lo n).yld i H x H' -> g x σ H' fun σ2 H2 => tb { D with nx := N, ct := N, bk := D.nx } σ2 H2) := by
  refine ⟨fun i m σ H => m = n - i /\ i <= n /\ Pv i σ H, ⟨n, by simp, Nat.zero_le _, h0⟩, ?_⟩
  rintro i m σ H ⟨rfl, hi, p⟩
  by_cases hlt : i < n
  · refine .inr ⟨hlt, Pv (i + 1), fun σ' H' p' => ⟨n - (i + 1), by omega, rfl, hlt, p'⟩, fun x H' y => ?_⟩
    obtain ⟨e, y⟩ := y
    subst e y
    exact hs i σ _ hlt p
  · have e : i = n := by omega
    subst e
    exact .inl ⟨zl3 _, hd σ H p⟩
end L2
namespace L2
open PySem PySem.Spec PyProof.Rows
abbrev R2 := V -> V -> Hp -> VK -> Prop
def OpR (X : Cx) (f : Value -> Value -> Sem Value) (r : R2) : Prop :=
  ∀ (pins : List (Addr × Obj)) (s : Shared) (σ : St) (H : Hp) (x y : V) (v u : Value) (Q : VK), Inv X pins σ H s -> RelV x v -> RelV y u -> r x y H Q →
    wpAny (model X.prog X.w) X.A (f v u) (EP X pins σ Q) X.xe s
def UnR (X : Cx) (f : Value -> Sem Value) (r : V -> Hp -> VK -> Prop) : Prop :=
  ∀ (pins : List (Addr × Obj)) (s : Shared) (σ : St) (H : Hp) (x : V) (v : Value) (Q : VK), Inv X pins σ H s -> RelV x v -> r x H Q →
    wpAny (model X.prog X.w) X.A (f v) (EP X pins σ Q) X.xe s
def CallR (X : Cx) (f : Value) (r : List V -> Hp -> VK -> Prop) : Prop :=
  ∀ (pins : List (Addr × Obj)) (s : Shared) (σ : St) (H : Hp) (xs : List V) (us : List Value) (Q : VK), Inv X pins σ H s -> Vals xs us -> r xs H Q →
    wpAny (model X.prog X.w) X.A (call f us) (EP X pins σ Q) X.xe s
def tOp (r : R2) (ta tb : TE) : TE := fun σ H Q => ta σ H fun x H1 => tb σ H1 fun y H2 => r x y H2 Q
def tUn (r : V -> Hp -> VK -> Prop) (ta : TE) : TE := fun σ H Q => ta σ H fun x H1 => r x H1 Q
def rI (C : Int -> Int -> Prop) (g : Int -> Int -> V) : R2 := fun x y H Q => ∃ i j, x = .int i /\ y = .int j /\ C i j /\ Q (g i j) H
def rI0 (g : Int -> Int -> V) : R2 := fun x y H Q => ∃ i j, x = .int i /\ y = .int j /\ Q (g i j) H
def rU (g : Int -> V) : V -> Hp -> VK -> Prop := fun x H Q => ∃ i, x = .int i /\ Q (g i) H
section
variable {X : Cx} {a b c : Expr} {ta tb tc : TE} {pos : Pos}
theorem binT (ha : PE X a ta) (hb : PE X b tb) {pins : List (Addr × Obj)} {s : Shared} {σ : St} {H : Hp} {R : V -> V -> Hp -> Prop} (I : Inv X pins σ H s)
    (h : ta σ H fun x H1 => tb σ H1 fun y H2 => R x y H2) {Q : Value -> Shared -> Prop} {f : Value -> Value -> Sem Value}
    (hf : ∀ v u s2 x y H2, Inv X pins σ H2 s2 -> RelV x v -> RelV y u -> R x y H2 -> wpAny (model X.prog X.w) X.A (f v u) Q X.xe s2) :
    wpAny (model X.prog X.w) X.A (eval a X.env) (fun v s₁ => wpAny (model X.prog X.w) X.A (eval b X.env) (fun u s₂ => wpAny (model X.prog X.w) X.A (f v u) Q X.xe s₂) X.xe s₁) X.xe s := by
  refine thn (ha pins s σ H _ I h) fun v s1 ⟨x, H1, I1, r1, q1⟩ => ?_
  refine thn (hb pins s1 σ H1 _ I1 q1) fun u s2 ⟨y, H2, I2, r2, q2⟩ => ?_
  exact hf v u s2 x y H2 I2 r1 r2 q2
theorem yC {op : Operator} {r : R2} (ho : OpR X (binaryOp op) r) (ha : PE X a ta) (hb : PE X b tb) : PE X (.BinOp a op b pos) (tOp r ta tb) := by
  intro pins s σ H Q I h
  exact wpAny_BinOp (binT ha hb I h fun v u s2 x y H2 I2 rx ry q => ho pins s2 σ H2 x y v u Q I2 rx ry q)
theorem pe_un {op : UnaryOp} {r : V -> Hp -> VK -> Prop} (ho : UnR X (unaryOp op) r) (ha : PE X a ta) : PE X (.UnaryOp op a pos) (tUn r ta) := by
  intro pins s σ H Q I h
  exact UnaryOp_ (thn (ha pins s σ H _ I h) fun v s1 ⟨x, H1, I1, r1, q1⟩ => ho pins s1 σ H1 x v Q I1 r1 q1)
theorem opI {f : Value -> Value -> Sem Value} {C : Int -> Int -> Prop} {g : Int -> Int -> Int}
    (rule : ∀ (i j : Int) (t u : Tok) (s : Shared) (Q : Value -> Shared -> Prop) (E : Value -> Shared -> Prop), C i j -> Q (.int (g i j) s.toks) { s with toks := s.toks + 1 } -> wpAny (model X.prog X.w) X.A (f (.int i t) (.int j u)) Q E s) :
    OpR X f (rI C fun i j => .int (g i j)) := by
  intro pins s σ H x y v u Q I rx ry h
  obtain ⟨i, j, rfl, rfl, hc, q⟩ := h
  obtain ⟨t, rfl⟩ := rx
  obtain ⟨t', rfl⟩ := ry
  exact rule i j t t' s _ _ hc ⟨.int (g i j), H, I.tok _, ⟨_, rfl⟩, q⟩
theorem opI0 {f : Value -> Value -> Sem Value} {g : Int -> Int -> Int}
    (rule : ∀ (i j : Int) (t u : Tok) (s : Shared) (Q : Value -> Shared -> Prop) (E : Value -> Shared -> Prop), Q (.int (g i j) s.toks) { s with toks := s.toks + 1 } -> wpAny (model X.prog X.w) X.A (f (.int i t) (.int j u)) Q E s) :
    OpR X f (rI0 fun i j => .int (g i j)) := by
  intro pins s σ H x y v u Q I rx ry h
  obtain ⟨i, j, rfl, rfl, q⟩ := h
  obtain ⟨t, rfl⟩ := rx
  obtain ⟨t', rfl⟩ := ry
  exact rule i j t t' s _ _ ⟨.int (g i j), H, I.tok _, ⟨_, rfl⟩, q⟩
theorem opB0 {f : Value -> Value -> Sem Value} {g : Int -> Int -> Bool}
    (rule : ∀ (i j : Int) (t u : Tok) (s : Shared) (Q : Value -> Shared -> Prop) (E : Value -> Shared -> Prop), Q (.bool (g i j)) s -> wpAny (model X.prog X.w) X.A (f (.int i t) (.int j u)) Q E s) :
    OpR X f (rI0 fun i j => .bl (g i j)) := by
  intro pins s σ H x y v u Q I rx ry h
  obtain ⟨i, j, rfl, rfl, q⟩ := h
  obtain ⟨t, rfl⟩ := rx
  obtain ⟨t', rfl⟩ := ry
  exact rule i j t t' s _ _ ⟨.bl (g i j), H, I, rfl, q⟩
def CDiv (i j : Int) : Prop := 0 < j /\ j < 1073741824
def CPow (i j : Int) : Prop := 0 <= j /\ j <= 1000000 /\ i.natAbs < 2 ^ 64
def CMul (i j : Int) : Prop := (-(2 ^ 64) < i /\ i < 2 ^ 64) ∨ (-(2 ^ 64) < j /\ j < 2 ^ 64)
theorem CMul.ok {i j : Int} (h : CMul i j) : IntMulOk i j := by
  rcases h with ⟨h1, h2⟩ | ⟨h1, h2⟩
  · exact .of_left (intBits_le_64 h1 h2)
  · exact .of_right (intBits_le_64 h1 h2)
theorem two_pow_nn (k : Nat) : (0 : Int) <= 2 ^ k := by
  rw [two_pow_cast]
  exact Int.natCast_nonneg _
theorem yF : OpR X (binaryOp .Add) (rI0 fun i j => .int (i + j)) := opI0 fun _ _ _ _ _ _ _ q => add_int q
theorem op_sub : OpR X (binaryOp .Sub) (rI0 fun i j => .int (i - j)) := opI0 fun _ _ _ _ _ _ _ q => sub_int q
theorem op_mul : OpR X (binaryOp .Mult) (rI CMul fun i j => .int (i * j)) := opI fun _ _ _ _ _ _ _ hc q => mul_int q hc.ok
theorem yL : OpR X (binaryOp .FloorDiv) (rI CDiv fun i j => .int (i / j)) := opI fun i j _ _ _ _ _ hc q => by
  have h1 : (0 : Int) < j := hc.1
  have h2 : j < 1073741824 := hc.2
  exact floordiv_int (by omega) (by rw [Int.fdiv_eq_ediv_of_nonneg i (by omega)]; exact q) (.inl (PyProof.noPylong_small (by omega)))
theorem zY : OpR X (binaryOp .Mod) (rI (fun _ j => 0 < j) fun i j => .int (i % j)) := opI fun i j _ _ _ _ _ hc q => by
  have h1 : (0 : Int) < j := hc
  exact mod_int' (by omega) (by rw [Int.fmod_eq_emod_of_nonneg i (by omega)]; exact q)
theorem op_pow : OpR X (binaryOp .Pow) (rI CPow fun i j => .int (i ^ j.toNat)) := opI fun _ _ _ _ _ _ _ hc q => pow_int_small hc.1 hc.2.1 hc.2.2 q
theorem op_shr : OpR X (binaryOp .RShift) (rI (fun _ j => 0 <= j) fun i j => .int (i / 2 ^ j.toNat)) := opI fun i j _ _ _ _ _ hc q =>
  rshift_int hc (by rw [Int.fdiv_eq_ediv_of_nonneg i (two_pow_nn _)]; exact q)
theorem op_and : OpR X (binaryOp .BitAnd) (rI0 fun i j => .int (Builtin.bitAnd i j)) := opI0 fun _ _ _ _ _ _ _ q => and_int q
theorem unI {f : Value -> Sem Value} {g : Int -> Int}
    (rule : ∀ (i : Int) (t : Tok) (s : Shared) (Q : Value -> Shared -> Prop) (E : Value -> Shared -> Prop), Q (.int (g i) s.toks) { s with toks := s.toks + 1 } -> wpAny (model X.prog X.w) X.A (f (.int i t)) Q E s) :
    UnR X f (rU fun i => .int (g i)) := by
  intro pins s σ H x v Q I rx h
  obtain ⟨i, rfl, q⟩ := h
  obtain ⟨t, rfl⟩ := rx
  exact rule i t s _ _ ⟨.int (g i), H, I.tok _, ⟨_, rfl⟩, q⟩
theorem un_neg : UnR X (unaryOp .USub) (rU fun i => .int (-i)) := unI fun _ _ _ _ _ q => neg_int q
end
def scal : V -> V -> Bool
  | .non, .non => true | .non, .int _ => true | .int _, .non => true | .non, .bl _ => true | .bl _, .non => true | .non, .str _ => true | .str _, .non => true
  | .int _, .int _ => true | .bl _, .bl _ => true | .str _, .str _ => true | .byt _, .byt _ => true
  | .int _, .str _ => true | .str _, .int _ => true | .bl _, .str _ => true | .str _, .bl _ => true
  | _, _ => false
def rEq : R2 := fun x y H Q => scal x y = true /\ Q (.bl (decide (x = y))) H
def rNe : R2 := fun x y H Q => scal x y = true /\ Q (.bl (!decide (x = y))) H
theorem dec_int {i j : Int} : decide (V.int i = V.int j) = (i == j) := by
  rw [Bool.eq_iff_iff]
  simp
theorem dec_bl {i j : Bool} : decide (V.bl i = V.bl j) = (i == j) := by
  rw [Bool.eq_iff_iff]
  simp
theorem dec_str {i j : Str} : decide (V.str i = V.str j) = (i == j) := by
  rw [Bool.eq_iff_iff]
  simp
theorem dec_byt {i j : Array UInt8} : decide (V.byt i = V.byt j) = (i.toList == j.toList) := by
  rw [Bool.eq_iff_iff]
  cases i
  cases j
  simp
section
variable {X : Cx} {a b c : Expr} {ta tb tc : TE} {pos : Pos}
theorem fin_bl {pins : List (Addr × Obj)} {σ : St} {H : Hp} {s : Shared} {Q : VK} {k k' : Bool} (I : Inv X pins σ H s) (q : Q (.bl k) H) (e : k = k') : EP X pins σ Q (.bool k') s := by
  subst e
  exact ⟨.bl k, H, I, rfl, q⟩
theorem yG : OpR X (compareOp .Eq) rEq := by
  intro pins s σ H x y v u Q I rx ry h
  obtain ⟨hs, q⟩ := h
  cases x with
  | non =>
    cases rx
    cases y with
    | non => cases ry; exact PySem.EqNone.eq_none_none (fin_bl I q (by simp))
    | bl j => cases ry; exact PySem.EqNone.eq_none_bool (fin_bl I q (by simp))
    | int j => obtain ⟨t', rfl⟩ := ry; exact PySem.EqNone.eq_none_int (fin_bl I q (by simp))
    | str j => obtain ⟨t', rfl⟩ := ry; exact PySem.EqNone.eq_none_str (fin_bl I q (by simp))
    | _ => exact absurd (show false = true from hs) zl6
  | bl i =>
    cases rx
    cases y with
    | non => cases ry; exact PySem.EqNone.eq_bool_none (fin_bl I q (by simp))
    | bl j => cases ry; exact eq_bool (fin_bl I q dec_bl)
    | str j => obtain ⟨t', rfl⟩ := ry; exact PySem.EqMixed.eq_bool_str (fin_bl I q (by simp))
    | _ => exact absurd (show false = true from hs) zl6
  | int i =>
    obtain ⟨t, rfl⟩ := rx
    cases y with
    | non => cases ry; exact PySem.EqNone.eq_int_none (fin_bl I q (by simp))
    | int j => obtain ⟨t', rfl⟩ := ry; exact eq_int (fin_bl I q dec_int)
    | str j => obtain ⟨t', rfl⟩ := ry; exact PySem.EqMixed.eq_int_str (fin_bl I q (by simp))
    | _ => exact absurd (show false = true from hs) zl6
  | str i =>
    obtain ⟨t, rfl⟩ := rx
    cases y with
    | non => cases ry; exact PySem.EqNone.eq_str_none (fin_bl I q (by simp))
    | bl j => cases ry; exact PySem.EqMixed.eq_str_bool (fin_bl I q (by simp))
    | int j => obtain ⟨t', rfl⟩ := ry; exact PySem.EqMixed.eq_str_int (fin_bl I q (by simp))
    | str j => obtain ⟨t', rfl⟩ := ry; exact eq_str (fin_bl I q dec_str)
    | _ => exact absurd (show false = true from hs) zl6
  | byt i =>
    obtain ⟨t, rfl⟩ := rx
    cases y with
    | byt j => obtain ⟨t', rfl⟩ := ry; exact PySem.W.eq_bytes (fin_bl I q dec_byt)
    | _ => exact absurd (show false = true from hs) zl6
  | _ => cases y <;> exact absurd (show false = true from hs) zl6
theorem op_ne : OpR X (compareOp .NotEq) rNe := by
  intro pins s σ H x y v u Q I rx ry h
  obtain ⟨hs, q⟩ := h
  cases x with
  | non =>
    cases rx
    cases y with
    | non => cases ry; exact PySem.EqNone.ne_none_none (fin_bl I q (by simp))
    | bl j => cases ry; exact PySem.EqNone.ne_none_bool (fin_bl I q (by simp))
    | int j => obtain ⟨t', rfl⟩ := ry; exact PySem.EqNone.ne_none_int (fin_bl I q (by simp))
    | str j => obtain ⟨t', rfl⟩ := ry; exact PySem.EqNone.ne_none_str (fin_bl I q (by simp))
    | _ => exact absurd (show false = true from hs) zl6
  | bl i =>
    cases rx
    cases y with
    | non => cases ry; exact PySem.EqNone.ne_bool_none (fin_bl I q (by simp))
    | bl j => cases ry; exact ne_bool (fin_bl I q (congrArg not dec_bl))
    | str j => obtain ⟨t', rfl⟩ := ry; exact PySem.EqMixed.ne_bool_str (fin_bl I q (by simp))
    | _ => exact absurd (show false = true from hs) zl6
  | int i =>
    obtain ⟨t, rfl⟩ := rx
    cases y with
    | non => cases ry; exact PySem.EqNone.ne_int_none (fin_bl I q (by simp))
    | int j => obtain ⟨t', rfl⟩ := ry; exact ne_int (fin_bl I q (congrArg not dec_int))
    | str j => obtain ⟨t', rfl⟩ := ry; exact PySem.EqMixed.ne_int_str (fin_bl I q (by simp))
    | _ => exact absurd (show false = true from hs) zl6
  | str i =>
    obtain ⟨t, rfl⟩ := rx
    cases y with
    | non => cases ry; exact PySem.EqNone.ne_str_none (fin_bl I q (by simp))
    | bl j => cases ry; exact PySem.EqMixed.ne_str_bool (fin_bl I q (by simp))
    | int j => obtain ⟨t', rfl⟩ := ry; exact PySem.EqMixed.ne_str_int (fin_bl I q (by simp))
    | str j => obtain ⟨t', rfl⟩ := ry; exact ne_str (fin_bl I q (congrArg not dec_str))
    | _ => exact absurd (show false = true from hs) zl6
  | byt i =>
    obtain ⟨t, rfl⟩ := rx
    cases y with
    | byt j => obtain ⟨t', rfl⟩ := ry; exact PySem.W.ne_bytes (fin_bl I q (congrArg not dec_byt))
    | _ => exact absurd (show false = true from hs) zl6
  | _ => cases y <;> exact absurd (show false = true from hs) zl6
theorem op_lt : OpR X (compareOp .Lt) (rI0 fun i j => .bl (decide (i < j))) := opB0 fun _ _ _ _ _ _ _ q => lt_int q
theorem op_le : OpR X (compareOp .LtE) (rI0 fun i j => .bl (decide (i <= j))) := opB0 fun _ _ _ _ _ _ _ q => le_int q
theorem op_gt : OpR X (compareOp .Gt) (rI0 fun i j => .bl (decide (j < i))) := opB0 fun _ _ _ _ _ _ _ q => gt_int q
theorem op_ge : OpR X (compareOp .GtE) (rI0 fun i j => .bl (decide (j <= i))) := opB0 fun _ _ _ _ _ _ _ q => ge_int q
theorem op_isN : OpR X (compareOp .Is) (fun x y H Q => y = .non /\ Q (.bl (decide (x = .non))) H) := by
  intro pins s σ H x y v u Q I rx ry h
  obtain ⟨rfl, q⟩ := h
  cases ry
  refine is_none_gen (fin_bl I q ?_)
  cases x <;> first
    | (cases rx; rfl)
    | (obtain ⟨t, rfl⟩ := rx; rfl)
theorem op_notN : OpR X (compareOp .IsNot) (fun x y H Q => y = .non /\ Q (.bl (!decide (x = .non))) H) := by
  intro pins s σ H x y v u Q I rx ry h
  obtain ⟨rfl, q⟩ := h
  cases ry
  refine isnot_none_gen (fin_bl I q ?_)
  cases x <;> first
    | (cases rx; rfl)
    | (obtain ⟨t, rfl⟩ := rx; rfl)
theorem OpR.or {f : Value -> Value -> Sem Value} {r r' : R2} (h : OpR X f r) (h' : OpR X f r') : OpR X f (fun x y H Q => r x y H Q ∨ r' x y H Q) := by
  intro pins s σ H x y v u Q I rx ry q
  rcases q with q | q
  · exact h pins s σ H x y v u Q I rx ry q
  · exact h' pins s σ H x y v u Q I rx ry q
theorem zR (b : Expr) {op : CmpOp} (h : op ≠ .In := by decide) (h2 : op ≠ .NotIn := by decide) : behindInMarks op b = false := by
  have e1 : (op == CmpOp.In) = false := by cases op <;> first | rfl | exact absurd rfl h
  have e2 : (op == CmpOp.NotIn) = false := by cases op <;> first | rfl | exact absurd rfl h2
  cases b <;> simp [behindInMarks, e1, e2]
theorem pe_cmpR {op : CmpOp} {r : R2} (ho : OpR X (compareOp op) r) (ha : PE X a ta) (hb : PE X b tb) (hm : behindInMarks op b = false) : PE X (.Compare a [op] [b] pos) (tOp r ta tb) := by
  intro pins s σ H Q I h
  exact wpAny_Compare1 (binT ha hb I h fun v u s2 x y H2 I2 rx ry q => ho pins s2 σ H2 x y v u Q I2 rx ry q) hm
def tTest (t : TE) : TT := fun σ H Q => t σ H fun x H' => ∃ k, x = .bl k /\ Q k H'
theorem zL {op : CmpOp} {r : R2} (ho : OpR X (compareOp op) r) (ha : PE X a ta) (hb : PE X b tb) (hm : behindInMarks op b = false) : PT X (.Compare a [op] [b] pos) (tTest (tOp r ta tb)) := by
  intro pins s σ H Q I h
  refine wpAny_isTrue_Compare1 (thn (ha pins s σ H _ I h) fun v s1 ⟨x, H1, I1, r1, q1⟩ => thn (hb pins s1 σ H1 _ I1 q1) fun u s2 ⟨y, H2, I2, r2, q2⟩ =>
    thn (ho pins s2 σ H2 x y v u _ I2 r1 r2 q2) fun c s3 ⟨z, H3, I3, r3, k, e, q3⟩ => ?_) hm
  subst e
  cases r3
  exact wpAny_truthy_bool ⟨H3, I3, q3⟩
def tChain (r r' : R2) (ta tb tc : TE) : TE := fun σ H Q => ta σ H fun x H1 => tb σ H1 fun y H2 => r x y H2 fun z H3 => ∃ k, z = .bl k ∧
  (if k = true then tc σ H3 fun w' H4 => r' y w' H4 Q else Q (.bl false) H3)
theorem pe_chain {op op' : CmpOp} {r r' : R2} (ho : OpR X (compareOp op) r) (ho' : OpR X (compareOp op') r') (ha : PE X a ta) (hb : PE X b tb) (hc : PE X c tc)
    (hm : lastMarks [op, op'] [b, c] = false := by with_unfolding_all rfl) : PE X (.Compare a [op, op'] [b, c] pos) (tChain r r' ta tb tc) := by
  intro pins s σ H Q I h
  refine Compare_chain (thn (ha pins s σ H _ I h) fun v s1 ⟨x, H1, I1, r1, q1⟩ => chain_link (thn (hb pins s1 σ H1 _ I1 q1) fun u s2 ⟨y, H2, I2, r2, q2⟩ =>
    thn (ho pins s2 σ H2 x y v u _ I2 r1 r2 q2) fun d s3 ⟨z, H3, I3, r3, k, e, q3⟩ => ?_)) hm
  subst e
  cases r3
  refine wpAny_truthy_bool ?_
  cases k with
  | false => exact ite_ff ⟨.bl false, H3, I3, rfl, q3⟩
  | true => exact ite_tt (chain_last (thn (hc pins s3 σ H3 _ I3 q3) fun w' s4 ⟨z', H4, I4, r4, q4⟩ => ho' pins s4 σ H4 y z' u w' Q I4 r2 r4 q4))
theorem line63 : (sizeLine : Nat) < 2 ^ 63 := by rw [sizeLine_eq]; decide
theorem op_add_str : OpR X (binaryOp .Add) (fun x y H Q => ∃ i j, x = .str i /\ y = .str j /\ i.length + j.length <= sizeLine /\ Q (.str (i ++ j)) H) := by
  intro pins s σ H x y v u Q I rx ry h
  obtain ⟨i, j, rfl, rfl, hz, q⟩ := h
  obtain ⟨t, rfl⟩ := rx
  obtain ⟨t', rfl⟩ := ry
  exact add_str (fun t' tk => ⟨.str (i ++ j), H, I.tok _, ⟨_, rfl⟩, q⟩) hz
theorem vals1 {x : V} {us : List Value} (r : Vals [x] us) : ∃ u, us = [u] /\ RelV x u := by
  cases r with
  | cons r1 r2 => cases r2; exact ⟨_, rfl, r1⟩
theorem vals2 {x y : V} {us : List Value} (r : Vals [x, y] us) : ∃ u w', us = [u, w'] /\ RelV x u /\ RelV y w' := by
  cases r with
  | cons r1 r2 =>
    cases r2 with
    | cons r3 r4 => cases r4; exact ⟨_, _, rfl, r1, r3⟩
theorem call_max2 (hc : X.calm = true) : CallR X (.builtin "max") (fun xs H Q => ∃ i j, xs = [.int i, .int j] /\ Q (.int (if j > i then j else i)) H) := by
  intro pins s σ H xs us Q I r h
  obtain ⟨i, j, rfl, q⟩ := h
  obtain ⟨u, w', rfl, ⟨t, rfl⟩, ⟨t', rfl⟩⟩ := vals2 r
  refine max_two_ints (I.ok.hd hc) fun h' tk k => ⟨_, H, I.kept k, ?_, q⟩
  by_cases hj : j > i
  · rw [if_pos hj, if_pos hj]; exact ⟨_, rfl⟩
  · rw [if_neg hj, if_neg hj]; exact ⟨_, rfl⟩
theorem call_min2 (hc : X.calm = true) : CallR X (.builtin "min") (fun xs H Q => ∃ i j, xs = [.int i, .int j] /\ Q (.int (if j < i then j else i)) H) := by
  intro pins s σ H xs us Q I r h
  obtain ⟨i, j, rfl, q⟩ := h
  obtain ⟨u, w', rfl, ⟨t, rfl⟩, ⟨t', rfl⟩⟩ := vals2 r
  refine min_two_ints (I.ok.hd hc) fun h' tk k => ⟨_, H, I.kept k, ?_, q⟩
  by_cases hj : j < i
  · rw [if_pos hj, if_pos hj]; exact ⟨_, rfl⟩
  · rw [if_neg hj, if_neg hj]; exact ⟨_, rfl⟩
theorem call_int1 : CallR X (.type "int") (fun xs H Q => (∃ i, xs = [.int i] /\ Q (.int i) H) ∨ ∃ k, xs = [.bl k] /\ Q (.int (if k then 1 else 0)) H) := by
  intro pins s σ H xs us Q I r h
  rcases h with ⟨i, rfl, q⟩ | ⟨k, rfl, q⟩
  · obtain ⟨u, rfl, t, rfl⟩ := vals1 r
    exact call_int_int ⟨.int i, H, I, ⟨_, rfl⟩, q⟩
  · obtain ⟨u, rfl, r1⟩ := vals1 r
    cases r1
    exact call_int_bool ⟨.int (if k then 1 else 0), H, I.tok _, ⟨_, rfl⟩, q⟩
end
end L2
namespace L2
open PySem PySem.Spec PyProof.Rows
structure ObjM (h : Heap) (x dx C : Addr) (mA : Str -> Option Value) : Prop where
  obj : h.get? x = some (PySem.W.instObj C dx)
  ns : h.Ns1 dx mA
  ne : dx ≠ x
theorem lookIn_ns {h : Heap} {dx : Addr} {mA : Str -> Option Value} (n : h.Ns1 dx mA) : ∃ od, h.get? dx = some od /\ ∀ name, PySem.W.lookIn name od = some (mA name) := by
  obtain ⟨o, es, ep, ho, hd, hk, _, hm⟩ := n
  refine ⟨o, ho, fun name => ?_⟩
  have e := hm name
  unfold nsFind findBy at e
  rw [<- Array.find?_toList] at e
  unfold PySem.W.lookIn
  rw [hd]
  dsimp only
  split
  · rename_i y q
    rw [q] at e
    exact congrArg some e
  · rename_i q
    rw [q] at e
    have a : es.toList.any (·.refKey) = false := by
      rw [List.any_eq_false]
      intro y hy
      obtain ⟨z, t, hkey⟩ := hk y (Array.mem_toList_iff.mp hy)
      simp [DictEntry.refKey, hkey]
    have a' : ¬ es.toList.any (·.refKey) = true := by rw [a]; exact zl6
    rw [if_neg a']
    exact congrArg some e
theorem ObjM.look {h : Heap} {x dx C : Addr} {mA : Str -> Option Value} (I : ObjM h x dx C mA) : ∃ od, PySem.W.InstAt h x (PySem.W.instObj C dx) C (some od) /\ ∀ name, PySem.W.lookIn name od = some (mA name) :=
  let ⟨od, ho, hl⟩ := lookIn_ns I.ns
  ⟨od, ⟨I.obj, rfl, rfl, ho⟩, hl⟩
section
variable {prog : Program} {w : World} {A : Around} {E : Value -> Shared -> Prop} {s : Shared} {K : PySem.W.Frag} {x dx C f : Addr} {mA : Str -> Option Value} {name : Str} {v : Value}
theorem get_map {expr : Bool} {Q : Value -> Shared -> Prop} (X : K.In s.heap) (I : ObjM s.heap x dx C mA) (hg : PySem.W.plainGet K C name = true) (hh : PySem.W.hasDictIn K C = true)
    (ha : PySem.W.findIn K (.ref C) name = some none) (hv : mA name = some v) (hv' : PySem.W.handedIn v = true) (h : Q v { s with toks := s.toks + 1 }) :
    wpAny (model prog w) A (getAttr (.ref x) name expr) Q E s := by
  obtain ⟨od, J, hl⟩ := I.look
  exact PySem.W.get_value X J (PySem.W.plainGet_of hg).1 (PySem.W.findObj_own hh ha rfl (by rw [hl, hv])) hv' h
theorem get_meth {pl : Sem Bool} {Q : Value × List Value -> Shared -> Prop} (X : K.In s.heap) (I : ObjM s.heap x dx C mA) (hg : PySem.W.plainGet K C name = true)
    (hf : PySem.W.findIn K (.ref C) name = some (some (.ref f))) (ht : PySem.W.isFn K (.ref f) = true) (hv : mA name = none) (h : Q (.ref f, [.ref x]) s) :
    wpAny (model prog w) A (getMethod (.ref x) name pl) Q E s := by
  obtain ⟨od, J, hl⟩ := I.look
  exact PySem.W.method_fn X J (PySem.W.plainGet_of hg).1 (PySem.W.plainGet_of hg).2 hf (beq_iff_eq.mp ht) (by show (PySem.W.lookIn name od).map (·.isSome) = some false; rw [hl, hv]; rfl) h
theorem set_map {ns : List Str} {Q : Unit -> Shared -> Prop} (X : K.In s.heap) (I : ObjM s.heap x dx C mA)
    (hs : PySem.W.findIn K (.ref C) "__setattr__" = some (some (.builtin "object.__setattr__"))) (hp : PySem.W.plainOver K C = true) (ht : PySem.W.takerIn K C name = some none) (hh : PySem.W.hasDictIn K C = true)
    (hw : PySem.Within mA ns) (hsz : ns.length <= sizeLine)
    (h : ∀ h', ObjM h' x dx C (fun y => if y = name then some v else mA y) -> Heap.SameBut dx s.heap h' -> Q () { s with heap := h', toks := s.toks + 2 }) :
    wpAny (model prog w) A (setAttr (.ref x) name v) Q E s := by
  obtain ⟨od, J, hl⟩ := I.look
  refine PySem.W.set_plain X J hs (PySem.W.osa_open (s := { s with toks := s.toks + 1 }) (r := none) X J hp ht fun b => ?_)
  obtain ⟨cd, hc, hd'⟩ := PySem.W.any_some hh
  have hx : s.heap.get? x = some ⟨.ref C, some dx, .plain, #[]⟩ := I.obj
  refine wpAny_bind (wpAny_pure (wpAny_bind (wpAny_bind (wpAny_loadPart hx (wpAny_bind (PySem.W.Looks.here (s := { s with toks := s.toks + 1 }) (PySem.W.looks_clsIn X hc) ?_))))))
  rw [hd']
  refine wpAny_pure (a := some dx) (wpAny_bind (wpAny_pure (wpAny_bind ?_)))
  refine wpAny_nsSet1 (s := { s with toks := s.toks + 1 }) I.ns fun h' hn2 hs2 => ?_
  obtain ⟨oD, esD, epD, hoD, hdD, hcD⟩ := hn2.count (PySem.Within.cons name v hw)
  refine wpAny_bind (wpAny_lookBehind hoD (by rw [hdD]; exact pastItsLine_dict (Nat.le_trans hcD (by rw [zl12]; omega))) ?_)
  exact wpAny_pure (h _ ⟨(hs2.2 _ (Ne.symm I.ne)).trans I.obj, hn2, I.ne⟩ hs2)
theorem make_map {R : Result -> Shared -> Prop} {vs : List Value} {kw : List (Str × Value)} (X : K.In s.heap) (hm : PySem.W.makesIn K C = true)
    (hi : PySem.W.findIn K (.ref C) "__init__" = some (some (.ref f))) (hf : PySem.W.typeIn K (.ref f) = some (.type "function"))
    (h : codeAny (model prog w) (A.under (.builtin "type.__call__" ⟨.ref C :: vs, kw⟩)) (.call (.ref f) ⟨.ref (s.heap.objs.size + 1) :: vs, kw⟩) (PySem.W.InitBack (s.heap.objs.size + 1) R)
      { s with heap := (s.heap.push PySem.W.emptyDict).push (PySem.W.instObj C s.heap.objs.size) }) :
    codeAny (model prog w) A (.call (.ref C) ⟨vs, kw⟩) R s := by
  obtain ⟨hh, g, d, t, os⟩ := s
  exact PySem.W.make_core (PySem.W.makes_of X hm) (PySem.W.looks_findIn X hi) (fun self => PySem.W.bind_fn X self hf) (.inl rfl) h
end
def putF (f : Str) (v : V) : List (Str × V) -> List (Str × V)
  | [] => [(f, v)]
  | (g, x) :: r => if g = f then (g, v) :: r else (g, x) :: putF f v r
theorem lookup_putF (f g : Str) (v : V) : ∀ fs : List (Str × V), (putF f v fs).lookup g = if g = f then some v else fs.lookup g
  | [] => by
    show List.lookup g [(f, v)] = _
    by_cases h : g = f
    · have hb : (g == f) = true := beq_iff_eq.mpr h
      simp only [List.lookup, hb, if_pos h]
    · have hb : (g == f) = false := beq_eq_false_iff_ne.mpr h
      simp only [List.lookup, hb, if_neg h]
  | (k, x) :: r => by
    have ih := lookup_putF f g v r
    rw [show putF f v ((k, x) :: r) = (if k = f then (k, v) :: r else (k, x) :: putF f v r) from rfl]
    by_cases hk : k = f
    · rw [if_pos hk]
      by_cases h : g = k
      · have hb : (g == k) = true := beq_iff_eq.mpr h
        simp only [List.lookup, hb, if_pos (h.trans hk)]
      · have hb : (g == k) = false := beq_eq_false_iff_ne.mpr h
        simp only [List.lookup, hb, if_neg (fun e : g = f => h (e.trans hk.symm))]
    · rw [if_neg hk]
      by_cases h : g = k
      · have hb : (g == k) = true := beq_iff_eq.mpr h
        simp only [List.lookup, hb, if_neg (fun e : g = f => hk (h.symm.trans e))]
      · have hb : (g == k) = false := beq_eq_false_iff_ne.mpr h
        simp only [List.lookup, hb]
        exact ih
theorem keys_putF (f : Str) (v : V) : ∀ fs : List (Str × V), f ∈ (putF f v fs).map (·.1) /\ ∀ g, g ∈ fs.map (·.1) -> g ∈ (putF f v fs).map (·.1)
  | [] => ⟨by simp [putF], fun g h => by simp at h⟩
  | (k, x) :: r => by
    obtain ⟨i1, i2⟩ := keys_putF f v r
    rw [show putF f v ((k, x) :: r) = (if k = f then (k, v) :: r else (k, x) :: putF f v r) from rfl]
    by_cases hk : k = f
    · rw [if_pos hk]
      subst hk
      exact ⟨by simp, fun g h => by simpa using h⟩
    · rw [if_neg hk]
      refine ⟨?_, fun g h => ?_⟩
      · rw [List.map_cons]
        exact List.mem_cons_of_mem _ i1
      · rw [List.map_cons] at h ⊢
        rcases zl16.mp h with e | e
        · exact zl16.mpr (.inl e)
        · exact List.mem_cons_of_mem _ (i2 g e)
theorem length_putF (f : Str) (v : V) : ∀ fs : List (Str × V), (putF f v fs).length <= fs.length + 1
  | [] => by simp [putF]
  | (k, x) :: r => by
    have ih := length_putF f v r
    rw [show putF f v ((k, x) :: r) = (if k = f then (k, v) :: r else (k, x) :: putF f v r) from rfl]
    by_cases hk : k = f
    · rw [if_pos hk, zl12, zl12]; omega
    · rw [if_neg hk, zl12, zl12]; omega
theorem RelO.some_of {v : V} {o : Option Value} (r : RelO (some v) o) : ∃ u, o = some u /\ RelV v u := by
  cases o with
  | none => exact (show False from r).elim
  | some u => exact ⟨u, rfl, r⟩
theorem RelO.none_of {o : Option Value} (r : RelO none o) : o = none := by
  cases o with
  | none => rfl
  | some u => exact (show False from r).elim
theorem handed_of {v : V} {u : Value} (r : RelV v u) : PySem.W.handedIn u = true := by
  cases v with
  | non => cases (show u = Value.none from r); rfl
  | bl b => cases (show u = Value.bool b from r); rfl
  | int i => obtain ⟨t, e⟩ := (show ∃ t, u = Value.int i t from r); cases e; rfl
  | str x => obtain ⟨t, e⟩ := (show ∃ t, u = Value.str x t from r); cases e; rfl
  | byt b => obtain ⟨t, e⟩ := (show ∃ t, u = Value.bytes b t from r); cases e; rfl
  | flt b => obtain ⟨t, e⟩ := (show ∃ t, u = Value.float b t from r); cases e; rfl
  | ref a => cases (show u = Value.ref a from r); rfl
  | ty n => cases (show u = Value.type n from r); rfl
section
variable {P : Program} {w : World} {H H' : Hp} {h h' : Heap} {a C dx : Addr} {fs fs' : List (Str × V)}
theorem ins_get (hok : HOk P w H h) (e : H a = some (.ins C dx fs)) : ∃ mA, ObjM h a dx C mA /\ (∀ f, RelO (fs.lookup f) (mA f)) /\ PySem.Within mA (fs.map (·.1)) /\ fs.length <= 1000 /\ H dx = some (.own a) := by
  obtain ⟨d, z, ne, ob, mA, n, r, q⟩ := (show ObjOk P w H h a (.ins C dx fs) from hok a _ e)
  exact ⟨mA, ⟨ob, n, ne⟩, r, q, z, d⟩
end
structure Cls (K : PySem.W.Frag) (C : Addr) : Prop where
  pg : PySem.W.plainGet K C Str.empty = true
  hd : PySem.W.hasDictIn K C = true
  po : PySem.W.plainOver K C = true
  sa : PySem.W.findIn K (.ref C) "__setattr__" = some (some (.builtin "object.__setattr__"))
theorem Cls.get {K : PySem.W.Frag} {C : Addr} (c : Cls K C) (f : Str) : PySem.W.plainGet K C f = true := c.pg
def NoAttr (K : PySem.W.Frag) (C : Addr) (f : Str) : Prop := PySem.W.findIn K (.ref C) f = some none
theorem NoAttr.taker {K : PySem.W.Frag} {C : Addr} {f : Str} (n : NoAttr K C f) : PySem.W.takerIn K C f = some none := by
  unfold PySem.W.takerIn
  rw [show PySem.W.findIn K (.ref C) f = some none from n]
  rfl
structure Con (K : PySem.W.Frag) (C : Addr) (f : Str) (v : V) (u : Value) : Prop where
  at_ : PySem.W.findIn K (.ref C) f = some (some u)
  rel : RelV v u
  get : PySem.W.specialIn K u "__get__" = some none
  cp : PySem.W.copiedNames.contains f = false
structure Meth (K : PySem.W.Frag) (C : Addr) (m : Str) (f : Addr) : Prop where
  at_ : PySem.W.findIn K (.ref C) m = some (some (.ref f))
  fn : PySem.W.isFn K (.ref f) = true
  kp : KI K f
section
variable {X : Cx} {pins : List (Addr × Obj)} {σ : St} {H : Hp} {s : Shared} {a C dx : Addr} {fs : List (Str × V)} {f : Str} {v : V} {A : Around} {E : Value -> Shared -> Prop}
theorem getattr_ok {b : Bool} {Q : Value -> Shared -> Prop} (I : Inv X pins σ H s) (e : H a = some (.ins C dx fs)) (c : Cls X.K C) (n : NoAttr X.K C f) (l : fs.lookup f = some v)
    (h : ∀ u s', Inv X pins σ H s' -> RelV v u -> Q u s') : wpAny (model X.prog X.w) A (getAttr (.ref a) f b) Q E s := by
  obtain ⟨mA, O, r, _, _, _⟩ := ins_get I.hok e
  obtain ⟨u, hu, ru⟩ := RelO.some_of (v := v) (o := mA f) (by rw [<- l]; exact r f)
  exact get_map I.kIn O (c.get f) c.hd n hu (handed_of ru) (h u _ (I.tok _) ru)
theorem getmeth_ok {m : Str} {g : Addr} {pl : Sem Bool} {Q : Value × List Value -> Shared -> Prop} (I : Inv X pins σ H s) (e : H a = some (.ins C dx fs)) (c : Cls X.K C) (k : Meth X.K C m g) (l : fs.lookup m = none)
    (h : Q (.ref g, [.ref a]) s) : wpAny (model X.prog X.w) A (getMethod (.ref a) m pl) Q E s := by
  obtain ⟨mA, O, r, _, _, _⟩ := ins_get I.hok e
  have hn : mA m = none := RelO.none_of (by rw [<- l]; exact r m)
  exact get_meth I.kIn O (c.get m) k.at_ k.fn hn h
theorem setattr_ok {y : V} {u : Value} {Q : Unit -> Shared -> Prop} (I : Inv X pins σ H s) (e : H a = some (.ins C dx fs)) (c : Cls X.K C) (n : NoAttr X.K C f) (hl : fs.length < 1000) (ry : RelV y u)
    (h : ∀ s', Inv X pins σ (upd H a (.ins C dx (putF f y fs))) s' -> Q () s') : wpAny (model X.prog X.w) A (setAttr (.ref a) f u) Q E s := by
  obtain ⟨mA, O, r, wi, _, ho⟩ := ins_get I.hok e
  have hz : (fs.map (·.1)).length <= sizeLine := by rw [zl0, sizeLine_eq]; omega
  refine set_map I.kIn O c.sa c.po n.taker c.hd wi hz fun h' O' sb => h _ ?_
  have hd : ∃ o, h'.get? dx = some o := let ⟨o, _, _, e', _⟩ := O'.ns; ⟨o, e'⟩
  refine I.write (x := a) (e := dx) (by rw [e]; exact True.intro) (.inr ho) (fun b q hb z => (sb.2 b hb).trans z) hd ?_
  refine ⟨by rw [zQ O.ne]; exact ho, ?_, O.ne, O'.obj, _, O'.ns, fun g => ?_, fun g hg => ?_⟩
  · have := length_putF f y fs; omega
  · show RelO ((putF f y fs).lookup g) (if g = f then some u else mA g)
    rw [lookup_putF]
    by_cases q : g = f
    · rw [if_pos q, if_pos q]; exact ry
    · rw [if_neg q, if_neg q]; exact r g
  · by_cases q : g = f
    · rw [q]; exact (keys_putF f y fs).1
    · refine (keys_putF f y fs).2 g (wi g fun z => hg ?_)
      show (if g = f then some u else mA g) = none
      rw [if_neg q]; exact z
theorem Inv.made (I : Inv X pins σ H s) : Inv X pins σ (upd (upd H s.heap.objs.size (.own (s.heap.objs.size + 1))) (s.heap.objs.size + 1) (.ins C s.heap.objs.size []))
    { s with heap := (s.heap.push PySem.W.emptyDict).push (PySem.W.instObj C s.heap.objs.size) } := by
  have e1 : (s.heap.push PySem.W.emptyDict).get? s.heap.objs.size = some PySem.W.emptyDict := Heap.get?_push_size s.heap rfl
  have e2 : ((s.heap.push PySem.W.emptyDict).push (PySem.W.instObj C s.heap.objs.size)).get? (s.heap.objs.size + 1) = some (PySem.W.instObj C s.heap.objs.size) := by
    have := Heap.get?_push_size (s.heap.push PySem.W.emptyDict) (o := PySem.W.instObj C s.heap.objs.size) rfl
    rwa [Heap.size_push] at this
  have e3 : (s.heap.push PySem.W.emptyDict).Ns s.heap.objs.size (fun _ => none) := ⟨PySem.W.emptyDict, #[], _, e1, rfl, (fun e he => absurd he (by simp)), fun _ => rfl⟩
  have I1 := I.laid (a := s.heap.objs.size) (o := .own (s.heap.objs.size + 1)) (h' := s.heap.push PySem.W.emptyDict) (t' := s.toks) (fun b u q => Heap.get?_push_of_some _ q) (zl3 _) ⟨_, e1⟩
  refine I1.laid (a := s.heap.objs.size + 1) (o := .ins C s.heap.objs.size []) (t' := s.toks) (fun b u q => Heap.get?_push_of_some _ q) (Nat.le_of_eq (Heap.size_push _ _)) ?_
  have ne : s.heap.objs.size ≠ s.heap.objs.size + 1 := Nat.ne_of_lt (Nat.lt_succ_self _)
  refine ⟨by rw [zQ ne, zC], Nat.zero_le _, ne, e2, fun _ => none, (Heap.Ns1.of_empty e3).at fun o q => Heap.get?_push_of_some _ q, fun _ => True.intro, fun y hy => absurd rfl hy⟩
theorem attr_of {prog : Program} {w : World} {env : Env} {e : Expr} {f : Str} {pos : Pos} {s : Shared} {Q : Value -> Shared -> Prop} (hb : attributeBase e f env (eval e env) = eval e env)
    (h : wpAny (model prog w) A (eval e env) (fun o s₁ => wpAny (model prog w) A (getAttr o f true) Q E s₁) E s) : wpAny (model prog w) A (eval (.Attribute e f pos) env) Q E s :=
  Attribute_any_ h (by rw [arm_eval_Attribute, hb])
end
def tFld (K : PySem.W.Frag) (ta : TE) (f : Str) : TE := fun σ H Q => ta σ H fun x H1 => ∃ a C dx fs v, x = .ref a /\ H1 a = some (.ins C dx fs) /\ Cls K C /\ NoAttr K C f /\ fs.lookup f = some v /\ Q v H1
def sFld (K : PySem.W.Frag) (ta tv : TE) (f : Str) : TS := fun D σ H => tv σ H fun y H1 => ta σ H1 fun x H2 => ∃ a C dx fs, x = .ref a /\ H2 a = some (.ins C dx fs) /\ Cls K C /\ NoAttr K C f /\ fs.length < 1000 ∧
  D.nx σ (upd H2 a (.ins C dx (putF f y fs)))
section
variable {X : Cx} {o e value : Expr} {f : Str} {pos pos' tpos : Pos} {ta tv : TE}
theorem pe_fld (he : PE X e ta) (hb : attributeBase e f X.env (eval e X.env) = eval e X.env) : PE X (.Attribute e f pos) (tFld X.K ta f) := by
  intro pins s σ H Q I h
  refine attr_of hb (thn (he pins s σ H _ I h) fun u s1 ⟨x, H1, I1, rx, a, C, dx, fs, v, ex, ea, c, n, l, q⟩ => ?_)
  subst ex
  obtain rfl : u = Value.ref a := rx
  exact getattr_ok I1 ea c n l fun u' s2 I2 ru => ⟨v, H1, I2, ru, q⟩
theorem ps_fld (ha : PE X o ta) (hv : PE X value tv) (hs : swapsWith value (some (.Attribute o f pos')) pos.line X.env = pure false) : PS X (.Assign [.Attribute o f pos'] value pos) (sFld X.K ta tv f) := by
  intro pins s σ H D I h
  refine plainObj_wpAny_Assign_Attribute (thn (hv pins s σ H _ I h) fun u s1 ⟨y, H1, I1, ry, q⟩ => thn (ha pins s1 σ H1 _ I1 q) fun ov s2 ⟨x, H2, I2, rx, a, C, dx, fs, ex, ea, c, n, l, q2⟩ => ?_) hs
  subst ex
  obtain rfl : ov = Value.ref a := rx
  exact setattr_ok I2 ea c n l ry fun s3 I3 => ⟨σ, _, I3, q2⟩
end
section
variable {X : Cx} {pins : List (Addr × Obj)} {σ : St} {H : Hp} {s : Shared} {A : Around} {E : Value -> Shared -> Prop} {Q : Value -> Shared -> Prop} {c : Value} {b : Bool}
inductive TyOf (K : PySem.W.Frag) (H : Hp) : V -> Value -> Prop where
  | non : TyOf K H .non (.type "NoneType")
  | bl (x : Bool) : TyOf K H (.bl x) (.type "bool")
  | int (i : Int) : TyOf K H (.int i) (.type "int")
  | str (x : Str) : TyOf K H (.str x) (.type "str")
  | flt (x : UInt64) : TyOf K H (.flt x) (.type "float")
  | lst {a : Addr} {xs : List V} (e : H a = some (.lst xs)) : TyOf K H (.ref a) (.type "list")
  | frz {a : Addr} {o : Obj} {xs : List V} (e : H a = some (.frz o (.lst xs))) : TyOf K H (.ref a) (.type "list")
  | tup {a : Addr} {xs : List V} (e : H a = some (.tup xs)) : TyOf K H (.ref a) (.type "tuple")
  | dK {a : Addr} {kvs : List (Key × V)} (e : H a = some (.dK kvs)) : TyOf K H (.ref a) (.type "dict")
  | dT {a : Addr} {kvs : List (List Key × V)} (e : H a = some (.dT kvs)) : TyOf K H (.ref a) (.type "dict")
  | ins {a C dx : Addr} {fs : List (Str × V)} (e : H a = some (.ins C dx fs)) (cl : Cls K C) (ha : PySem.W.findIn K (.ref C) "__class__" = some (some (.builtin "object.__class__")))
      (hn : PySem.W.specialIn K (.builtin "object.__class__") "__get__" = some (some (.builtin "getset_descriptor.__get__"))) (htk : PySem.W.takesIn K (.builtin "object.__class__") = some true)
      (hm : PySem.W.mroIn K C (.type "object") = some true) : TyOf K H (.ref a) (.ref C)
theorem isinst_ok {x : V} {u t : Value} (I : Inv X pins σ H s) (rx : RelV x u) (ty : TyOf X.K H x t) (e : PySem.W.kitOne X.K t c = some b) (h : ∀ tk, Q (.bool b) { s with toks := tk }) :
    wpAny (model X.prog X.w) A (call (.builtin "isinstance") [u, c]) Q E s := by
  cases ty with
  | non => cases (show u = Value.none from rx); exact PySem.W.kia_one PySem.W.kitx_none I.kIn True.intro e (fun z => nomatch z) h
  | bl y => cases (show u = Value.bool y from rx); exact PySem.W.kia_one PySem.W.kitx_bool I.kIn True.intro e (fun z => nomatch z) h
  | int i => obtain ⟨t, q⟩ := (show ∃ t, u = Value.int i t from rx); cases q; exact PySem.W.kia_one PySem.W.kitx_int I.kIn True.intro e (fun z => nomatch z) h
  | str y => obtain ⟨t, q⟩ := (show ∃ t, u = Value.str y t from rx); cases q; exact PySem.W.kia_one PySem.W.kitx_str I.kIn True.intro e (fun z => nomatch z) h
  | flt y => obtain ⟨t, q⟩ := (show ∃ t, u = Value.float y t from rx); cases q; exact PySem.W.kia_one PySem.W.kitx_float I.kIn True.intro e (fun z => nomatch z) h
  | @lst a xs ea =>
    cases (show u = Value.ref a from rx)
    obtain ⟨_, _, n, _, h1⟩ := (show ObjOk X.prog X.w H s.heap a (.lst xs) from I.hok a _ ea)
    exact PySem.W.kia_one PySem.W.kitx_list I.kIn ⟨_, h1, rfl⟩ e (fun z => nomatch z) h
  | @frz a ob xs ea =>
    cases (show u = Value.ref a from rx)
    obtain ⟨_, _, _, n, _, h1⟩ := (show ObjOk X.prog X.w H s.heap a (.frz ob (.lst xs)) from I.hok a _ ea)
    exact PySem.W.kia_one PySem.W.kitx_list I.kIn ⟨_, h1, rfl⟩ e (fun z => nomatch z) h
  | @tup a xs ea =>
    cases (show u = Value.ref a from rx)
    obtain ⟨_, _, _, p⟩ := (show ObjOk X.prog X.w H s.heap a (.tup xs) from I.hok a _ ea)
    obtain ⟨o, h1, h2, _⟩ := p
    exact PySem.W.kia_one PySem.W.kitx_tuple I.kIn ⟨o, h1, h2⟩ e (fun z => nomatch z) h
  | @dK a kvs ea =>
    cases (show u = Value.ref a from rx)
    obtain ⟨_, _, vs, _, p⟩ := (show ObjOk X.prog X.w H s.heap a (.dK kvs) from I.hok a _ ea)
    obtain ⟨o, es, ep, h1, h2, _⟩ := p
    exact PySem.W.kia_one PySem.W.kitx_dict I.kIn ⟨o, h1, h2.1⟩ e (fun z => nomatch z) h
  | @dT a kvs ea =>
    cases (show u = Value.ref a from rx)
    obtain ⟨_, _, xs, _, o, es, ep, h1, h2, _⟩ := (show ObjOk X.prog X.w H s.heap a (.dT kvs) from I.hok a _ ea)
    exact PySem.W.kia_one PySem.W.kitx_dict I.kIn ⟨o, h1, h2.1⟩ e (fun z => nomatch z) h
  | @ins a C dx fs ea cl ha hn htk hm =>
    cases (show u = Value.ref a from rx)
    obtain ⟨mA, O, _⟩ := ins_get I.hok ea
    obtain ⟨od, J, _⟩ := O.look
    exact PySem.W.kia_one (PySem.W.kitx_own (cl.get _) cl.hd ha hn htk hm) I.kIn J e (fun z => nomatch z) h
end
end L2
namespace L2
open PySem PySem.Spec PyProof.Rows
structure Room (k : Nat) (A : Around) : Prop where
  hd : A.handled = none
  dp : A.depth + 3 * k + 5 < recursionLimit
  un : A.units + 16 * k + 200 < cLine
theorem Room.mono {j k : Nat} {A : Around} (r : Room k A) (h : j <= k) : Room j A := ⟨r.hd, by have := r.dp; omega, by have := r.un; omega⟩
theorem Room.deeper {k : Nat} {A : Around} (r : Room (k + 1) A) (env : Env) : Room k (A.deeper env) :=
  ⟨r.hd, by have := r.dp; show A.depth + 1 + 3 * k + 5 < _; omega, by have := r.un; show A.units + 3 + 16 * k + 200 < _; omega⟩
theorem make_depth {A : Around} {C : Addr} {us : List Value} {kw : List (Str × Value)} : (A.under (.builtin "type.__call__" ⟨.ref C :: us, kw⟩)).depth = A.depth + 1 := by
  first | rfl | simp [Around.under, Code.weight, Code.isCreation, Code.isGuard, Code.isCaller, Code.frames, Code.isFrame, guardIds]
theorem make_units {A : Around} {C : Addr} {us : List Value} {kw : List (Str × Value)} : (A.under (.builtin "type.__call__" ⟨.ref C :: us, kw⟩)).units = A.units + 1 := by
  first | rfl | simp [Around.under, Code.cUnits, Code.frames, Code.isFrame]
theorem Room.make {k : Nat} {A : Around} (r : Room (k + 1) A) (C : Addr) (us : List Value) (kw : List (Str × Value)) : Room k (A.under (.builtin "type.__call__" ⟨.ref C :: us, kw⟩)) :=
  ⟨r.hd, by have := r.dp; rw [make_depth]; omega, by have := r.un; rw [make_units]; omega⟩
theorem Room.depth {k : Nat} {A : Around} (r : Room k A) : A.depth < recursionLimit := by have := r.dp; omega
theorem Room.units0 {k : Nat} {A : Around} (r : Room k A) : A.units < cLine := by have := r.un; omega
def tNil : TA := fun _ H Q => Q [] H
def tCons (ta : TE) (tr : TA) : TA := fun σ H Q => ta σ H fun x H1 => tr σ H1 fun xs H2 => Q (x :: xs) H2
section
variable {X : Cx} {e : Expr} {es : List Expr} {te : TE} {t : TA} {pos : Pos}
theorem zD : PA X [] tNil := fun _ _ _ _ H Q I h => Calls.spliced_nil ⟨[], H, I, .nil, h⟩
theorem zA (ha : PE X e te) (hr : PA X es t) (hs : starEach (e :: es) X.env = (false, eval e X.env) :: starEach es X.env := by rfl) : PA X (e :: es) (tCons te t) := by
  intro pos pins s σ H Q I h
  rw [hs]
  show wpAny _ _ (spliced ((false, eval e X.env) :: backTo pos (starEach es X.env))) _ _ s
  refine Calls.spliced_cons (thn (ha pins s σ H _ I h) fun u s1 ⟨x, H1, I1, r1, q1⟩ => ?_)
  exact thn (hr pos pins s1 σ H1 _ I1 q1) fun us s2 ⟨xs, H2, I2, r2, q2⟩ => ⟨x :: xs, H2, I2, .cons r1 r2, q2⟩
def tTup (t : TA) : TE := fun σ H Q => t σ H fun xs H1 => xs.length <= sizeLine /\ ∀ p, H1 p = none -> Q (.ref p) (upd H1 p (.tup xs))
def tLst (t : TA) : TE := fun σ H Q => t σ H fun xs H1 => xs.length <= sizeLine /\ ∀ p, H1 p = none -> Q (.ref p) (upd H1 p (.lst xs))
theorem zW {x1} (h : PA X es t) : PE X (.Tuple es x1 pos) (tTup t) := by
  intro pins s σ H Q I hq
  refine wpAny_Tuple_spliced (thn (h pos pins s σ H _ I hq) fun us s1 ⟨xs, H1, I1, r, z, q⟩ => ⟨by rw [<- r.length]; exact z, ?_⟩)
  have hf : H1 s1.heap.objs.size = none := I1.hok.fresh (zl3 _)
  refine ⟨.ref s1.heap.objs.size, upd H1 s1.heap.objs.size (.tup xs), I1.laid (t' := s1.toks) (fun b u e => Heap.get?_push_of_some _ e) (zl3 _) ?_, rfl, q _ hf⟩
  exact ⟨z, us, r, ⟨_, Heap.get?_push_size _ rfl, rfl, _, rfl⟩⟩
theorem yK (h : PA X es t) : PE X (.List es pos) (tLst t) := by
  intro pins s σ H Q I hq
  refine wpAny_List_spliced (thn (h pos pins s σ H _ I hq) fun us s1 ⟨xs, H1, I1, r, z, q⟩ => ⟨by rw [<- r.length]; exact z, ?_⟩)
  have hf : H1 s1.heap.objs.size = none := I1.hok.fresh (zl3 _)
  refine ⟨.ref s1.heap.objs.size, upd H1 s1.heap.objs.size (.lst xs), I1.laid (t' := s1.toks) (fun b u e => Heap.get?_push_of_some _ e) (zl3 _) ?_, rfl, q _ hf⟩
  exact ⟨z, us, 0, r, Heap.get?_push_size _ rfl⟩
end
abbrev Sp := List V -> Hp -> VK -> XK -> Prop
abbrev CXT := List Env -> Hp -> Shared -> XK -> Value -> Shared -> Prop
structure Env0 (P : Program) (w : World) (K : PySem.W.Frag) (mg : Str -> Option Value) (base : Heap) (A : Around) (outer : List Env) (s : Shared) (H : Hp) : Prop where
  frames : A.frames = some outer
  mod : Mod K mg base
  bs : ∀ b o, base.get? b = some o -> s.heap.get? b = some o /\ H b = none
  bsz : base.objs.size <= s.heap.objs.size
  funs : s.heap.FunFrames base outer
  frf : ∀ b ∈ frs outer, H b = none
  hok : HOk P w H s.heap
  bare : AllBare s.gens
def CE (outer : List Env) (P : Program) (w : World) (H : Hp) (s : Shared) (Q : VK) (u : Value) (s' : Shared) : Prop :=
  ∃ v H', s'.os = s.os /\ AllBare s'.gens /\ Un (frs outer) [] H H' s.heap s'.heap /\ HOk P w H' s'.heap /\ RelV v u /\ Q v H'
def CR (CX : CXT) (outer : List Env) (P : Program) (w : World) (H : Hp) (s : Shared) (Q : VK) (E : XK) (r : Result) (s' : Shared) : Prop :=
  match r with
  | .ok (.ret u) => CE outer P w H s Q u s'
  | .ok _ => False
  | .error e => CX outer H s E e s'
structure FnOk (P : Program) (w : World) (K : PySem.W.Frag) (mg : Str -> Option Value) (base : Heap) (CX : CXT) (k : Nat) (f : Addr) (fd : FuncData) (ps : List Str) (sp : Sp) : Prop where
  len : ∀ vs H Q E, sp vs H Q E -> vs.length = ps.length
  run : ∀ (A : Around) (outer : List Env) (s : Shared) (H : Hp) (args : Args) (us : List Value) (vs : List V) (Q : VK) (E : XK), Room k A -> Env0 P w K mg base A outer s H -> BindsTo s fd args (ps.zip us) -> Vals vs us -> sp vs H Q E →
    codeAny (model P w) A (.call (.ref f) args) (CR CX outer P w H s Q E) s
theorem FnOk.mono {P : Program} {w : World} {K : PySem.W.Frag} {mg : Str -> Option Value} {base : Heap} {CX : CXT} {j k : Nat} {f : Addr} {fd : FuncData} {ps : List Str} {sp : Sp} (F : FnOk P w K mg base CX j f fd ps sp) (h : j <= k) :
    FnOk P w K mg base CX k f fd ps sp := ⟨F.len, fun A outer s H args us vs Q E hr => F.run A outer s H args us vs Q E (hr.mono h)⟩
theorem Env0.make {P : Program} {w : World} {K : PySem.W.Frag} {mg : Str -> Option Value} {base : Heap} {A : Around} {outer : List Env} {s : Shared} {H : Hp} (e : Env0 P w K mg base A outer s H) (C : Addr) (us : List Value) (kw : List (Str × Value)) :
    Env0 P w K mg base (A.under (.builtin "type.__call__" ⟨.ref C :: us, kw⟩)) outer s H := ⟨by first | exact e.frames | (simpa [Around.under, Code.envs, Code.isFrame, pushEnvs] using e.frames), e.mod, e.bs, e.bsz, e.funs, e.frf, e.hok, e.bare⟩
section
variable {X : Cx} {pins : List (Addr × Obj)} {σ : St} {H : Hp} {s s' : Shared}
theorem Inv.env0 (I : Inv X pins σ H s) : Env0 X.prog X.w X.K X.mg X.base X.A X.stack s H :=
  ⟨I.ok.frames, I.ok.mod, I.bs, Nat.le_trans I.ok.bsz I.sz, I.stack, I.stkFree, I.hok, I.bare⟩
theorem Inv.after {Q : VK} {u : Value} (I : Inv X pins σ H s) (h : CE X.stack X.prog X.w H s Q u s') : EP X pins σ Q u s' := by
  obtain ⟨v, H', os, bare, un, hok, r, q⟩ := h
  obtain ⟨hh, g, d, t, os'⟩ := s'
  obtain rfl : os' = s.os := os
  exact ⟨v, H', I.call (h' := hh) (g' := g) (d' := d) (t' := t) (ch := []) un hok bare (fun b z => absurd z (by simp)), r, q⟩
end
def tCall (sp : Sp) (dvs : List V) (E : XK) (t : TA) : TE := fun σ H Q => t σ H fun vs H1 => sp (vs ++ dvs) H1 Q E
def tMeth (C : Addr) (m : Str) (sp : Sp) (dvs : List V) (E : XK) (ta : TE) (t : TA) : TE := fun σ H Q => ta σ H fun x H1 => ∃ a dx fs, x = .ref a /\ H1 a = some (.ins C dx fs) /\ fs.lookup m = none ∧
  t σ H1 fun vs H2 => sp (x :: (vs ++ dvs)) H2 Q E
def tMake (C : Addr) (sp : Sp) (dvs : List V) (E : XK) (t : TA) : TE := fun σ H Q => t σ H fun vs H1 => ∀ x dx, H1 x = none -> H1 dx = none -> dx ≠ x →
  sp (.ref x :: (vs ++ dvs)) (upd (upd H1 dx (.own x)) x (.ins C dx [])) (fun v H2 => v = .non /\ Q (.ref x) H2) E
def Binds (K : PySem.W.Frag) (fd : FuncData) (ps : List Str) (ds : List Value) : Prop :=
  ∀ (s : Shared) (us : List Value), K.In s.heap -> (us ++ ds).length = ps.length -> BindsTo s fd ⟨us, []⟩ (ps.zip (us ++ ds))
theorem Binds.all {K : PySem.W.Frag} {fd : FuncData} {ps : List Str} (h : ∀ us : List Value, us.length = ps.length -> bindArgs fd ⟨us, []⟩ = pure (ps.zip us)) : Binds K fd ps [] := fun s us _ hl => by
  rw [zl17] at hl ⊢
  exact .of_eq (h us hl)
def Passes (CX : CXT) (X : Cx) (E : XK) : Prop := ∀ (pins : List (Addr × Obj)) (σ : St) (H : Hp) (s : Shared) (e : Value) (s' : Shared), Inv X pins σ H s -> CX X.stack H s E e s' -> X.xe e s'
section
variable {X : Cx} {CX : CXT} {k : Nat} {f C : Addr} {fd : FuncData} {ps : List Str} {sp : Sp} {dvs : List V} {ds : List Value} {E : XK} {x m : Str} {p pos apos : Pos} {e o : Expr} {es : List Expr} {ta : TE} {t : TA}
theorem run_fn {pins : List (Addr × Obj)} {σ : St} {H : Hp} {s : Shared} {Q : VK} {us : List Value} {vs : List V} (F : FnOk X.prog X.w X.K X.mg X.base CX k f fd ps sp) (hr : Room k X.A) (hb : Binds X.K fd ps ds) (hd : Vals dvs ds) (hx : Passes CX X E)
    (I : Inv X pins σ H s) (r : Vals vs us) (h : sp (vs ++ dvs) H Q E) : wpAny (model X.prog X.w) X.A (call (.ref f) us) (EP X pins σ Q) X.xe s := by
  have r2 : Vals (vs ++ dvs) (us ++ ds) := r.append hd
  have hl : (us ++ ds).length = ps.length := by rw [<- r2.length]; exact F.len _ _ _ _ h
  refine wpAny_call (codeAny_mono (F.run X.A X.stack s H ⟨us, []⟩ (us ++ ds) (vs ++ dvs) Q E hr I.env0 (hb s us I.kIn hl) r2 h) fun r s' hq => ?_)
  cases r with
  | error e => exact hx pins σ H s e s' I hq
  | ok fl =>
    cases fl with
    | ret u => exact I.after hq
    | next => exact False.elim hq
    | brk => exact False.elim hq
    | cont => exact False.elim hq
theorem zJ (F : FnOk X.prog X.w X.K X.mg X.base CX k f fd ps sp) (hr : Room k X.A) (hg : Gl X x) (hm : X.mg x = some (.ref f)) (hk : PySem.W.keepIn X.K (.ref f) = true) (hb : Binds X.K fd ps ds) (hd : Vals dvs ds) (hx : Passes CX X E)
    (ha : PA X (e :: es) t) (hdb : (x == ("__debug__" : Str)) = false := by decide) (he : starEach (e :: es) X.env = (false, eval e X.env) :: starEach es X.env := by rfl) (hpl : (backTo pos (starEach es X.env)).any (·.1) = false := by rfl) :
    PE X (.Call (.Name x p) (e :: es) [] pos) (tCall sp dvs E t) := by
  intro pins s σ H Q I h
  refine wpAny_Call_Name_kw (ld_glob I hg hm ?_ hdb)
  refine PySem.W.callWith_K (h₀ := X.base) I.ok.mod.kin hk (thn (ha pos pins s σ H _ I h) fun us s1 ⟨vs, H1, I1, r, q⟩ => ⟨I1.kIn, ?_⟩) he hpl
  exact run_fn F hr hb hd hx I1 r q
theorem pe_meth {pl : Sem Bool} (he : PE X o ta) (c : Cls X.K C) (hm : Meth X.K C m f) (F : FnOk X.prog X.w X.K X.mg X.base CX k f fd ps sp) (hr : Room k X.A) (hb : Binds X.K fd ps ds) (hd : Vals dvs ds) (hx : Passes CX X E) (ha : PA X (e :: es) t)
    (hst : starEach (e :: es) X.env = (false, eval e X.env) :: starEach es X.env := by rfl) (hpl : (backTo pos (starEach es X.env)).any (·.1) = false := by rfl)
    (ht : eval (.Call (.Attribute o m apos) (e :: es) [] pos) X.env = (do
      let ov ← eval o X.env
      standAt apos.atName
      let (f, first) ← holding [ov] (getMethod ov m pl)
      callWith pos f first (backTo pos (starEach (e :: es) X.env)) (backToKw pos (keywordEach [] X.env))) := by rfl) :
    PE X (.Call (.Attribute o m apos) (e :: es) [] pos) (tMeth C m sp dvs E ta t) := by
  intro pins s σ H Q I h
  refine PySem.W.methodCall_KW (pl := pl) (thn (he pins s σ H _ I h) fun u s1 ⟨x, H1, I1, rx, a, dx, fs, ex, ea, l, q⟩ => ?_) ht
  subst ex
  obtain rfl : u = Value.ref a := rx
  refine getmeth_ok I1 ea c hm l ?_
  refine PySem.W.callWith_K (first := [.ref a]) (h₀ := X.base) I.ok.mod.kin hm.kp (thn (ha pos pins s1 σ H1 _ I1 q) fun us s2 ⟨vs, H2, I2, r, q2⟩ => ⟨I2.kIn, ?_⟩) hst hpl
  exact run_fn (us := .ref a :: us) (vs := .ref a :: vs) F hr hb hd hx I2 (.cons rfl r) q2
structure Mk (K : PySem.W.Frag) (C f : Addr) : Prop where
  makes : PySem.W.makesIn K C = true
  init : PySem.W.findIn K (.ref C) "__init__" = some (some (.ref f))
  fn : PySem.W.isFn K (.ref f) = true
  kp : KI K C
theorem run_make {pins : List (Addr × Obj)} {σ : St} {H : Hp} {s : Shared} {Q : VK} {us : List Value} {vs : List V} (M : Mk X.K C f) (F : FnOk X.prog X.w X.K X.mg X.base CX k f fd ps sp) (hr : Room (k + 1) X.A) (hb : Binds X.K fd ps ds) (hd : Vals dvs ds)
    (hx : Passes CX X E) (I : Inv X pins σ H s) (r : Vals vs us)
    (h : ∀ x dx, H x = none -> H dx = none -> dx ≠ x -> sp (.ref x :: (vs ++ dvs)) (upd (upd H dx (.own x)) x (.ins C dx [])) (fun v H2 => v = .non /\ Q (.ref x) H2) E) :
    wpAny (model X.prog X.w) X.A (call (.ref C) us) (EP X pins σ Q) X.xe s := by
  have hq := h (s.heap.objs.size + 1) s.heap.objs.size (I.hok.fresh (Nat.le_succ _)) (I.hok.fresh (zl3 _)) (Nat.ne_of_lt (Nat.lt_succ_self _))
  have I2 := Inv.made (C := C) I
  have r2 : Vals (V.ref (s.heap.objs.size + 1) :: (vs ++ dvs)) (Value.ref (s.heap.objs.size + 1) :: (us ++ ds)) := .cons rfl (r.append hd)
  have hl : (Value.ref (s.heap.objs.size + 1) :: us ++ ds).length = ps.length := by
    have e := r2.length
    rw [F.len _ _ _ _ hq] at e
    exact e.symm
  refine wpAny_call (make_map (f := f) I.kIn M.makes M.init (beq_iff_eq.mp M.fn) (codeAny_mono (F.run _ X.stack _ _ ⟨Value.ref (s.heap.objs.size + 1) :: us, []⟩ (Value.ref (s.heap.objs.size + 1) :: (us ++ ds)) _ _ E (hr.make C us [])
    (I2.env0.make C us []) (hb _ (Value.ref (s.heap.objs.size + 1) :: us) I2.kIn hl) r2 hq) fun r s' hq' => ?_))
  cases r with
  | error e => exact hx pins σ _ _ e s' I2 hq'
  | ok fl =>
    cases fl with
    | ret u =>
      obtain ⟨v, H', I3, rv, ev, q3⟩ := I2.after hq'
      subst ev
      exact ⟨rv, ⟨V.ref (s.heap.objs.size + 1), H', I3, rfl, q3⟩⟩
    | next => exact False.elim hq'
    | brk => exact False.elim hq'
    | cont => exact False.elim hq'
theorem pe_make (M : Mk X.K C f) (F : FnOk X.prog X.w X.K X.mg X.base CX k f fd ps sp) (hr : Room (k + 1) X.A) (hg : Gl X x) (hm : X.mg x = some (.ref C)) (hb : Binds X.K fd ps ds) (hd : Vals dvs ds) (hx : Passes CX X E)
    (ha : PA X (e :: es) t) (hdb : (x == ("__debug__" : Str)) = false := by decide) (he : starEach (e :: es) X.env = (false, eval e X.env) :: starEach es X.env := by rfl) (hpl : (backTo pos (starEach es X.env)).any (·.1) = false := by rfl) :
    PE X (.Call (.Name x p) (e :: es) [] pos) (tMake C sp dvs E t) := by
  intro pins s σ H Q I h
  refine wpAny_Call_Name_kw (ld_glob I hg hm ?_ hdb)
  refine PySem.W.callWith_K (h₀ := X.base) I.ok.mod.kin M.kp (thn (ha pos pins s σ H _ I h) fun us s1 ⟨vs, H1, I1, r, q⟩ => ⟨I1.kIn, ?_⟩) he hpl
  exact run_make M F hr hb hd hx I1 r q
end
section
variable {X : Cx} {CX : CXT} {k : Nat} {f C : Addr} {fd : FuncData} {ps ks : List Str} {sp : Sp} {E : XK} {x m : Str} {p pos apos kpos : Pos} {e o : Expr} {es : List Expr} {kws : List Keyword} {te ta : TE} {t tk : TA} {nm : Option Str}
structure KBinds (K : PySem.W.Frag) (fd : FuncData) (ps ks : List Str) (g : List Value -> List Value -> List Value) (gV : List V -> List V -> List V) : Prop where
  to : ∀ (s : Shared) (us ws : List Value), K.In s.heap -> (g us ws).length = ps.length -> BindsTo s fd ⟨us, ks.zip ws⟩ (ps.zip (g us ws))
  rel : ∀ {vs : List V} {us : List Value} {zs : List V} {ws : List Value}, Vals vs us -> Vals zs ws -> Vals (gV vs zs) (g us ws)
variable {g : List Value -> List Value -> List Value} {gV : List V -> List V -> List V}
end
structure FnScope (N P : List Str) (sc : Scope) : Prop where
  kind : sc.kind = .function
  co : sc.isCoroutine = false
  gen : sc.isGenerator = false
  nd : N.Nodup
  pre : N.take P.length = P
  par : ∀ x ∈ P, sc.names.lookup x = some .local ∨ sc.names.lookup x = some .cell
  nofree : ∀ y ∈ sc.names, y.2 ≠ .free
theorem bindL_out {kindOf : Str -> Option NameKind} {x : Str} : ∀ {binds : List (Str × Value)} {m : Str -> Option Value}, (∀ v, (x, v) ∉ binds) -> bindL kindOf binds m x = m x
  | [], _, _ => rfl
  | (n, v) :: r, m, h => by
    unfold bindL
    rw [bindL_out fun w hw => h w (List.mem_cons_of_mem _ hw)]
    split
    · have : x ≠ n := by rintro rfl; exact h v List.mem_cons_self
      simp [this]
    · rfl
theorem bindC_out {kindOf : Str -> Option NameKind} {x : Str} : ∀ {binds : List (Str × Value)} {m : Str -> Option Value}, (∀ v, (x, v) ∉ binds) -> bindC kindOf binds m x = m x
  | [], _, _ => rfl
  | (n, v) :: r, m, h => by
    unfold bindC
    rw [bindC_out fun w hw => h w (List.mem_cons_of_mem _ hw)]
    split
    · rfl
    · have : x ≠ n := by rintro rfl; exact h v List.mem_cons_self
      simp [this]
theorem bindL_get {kindOf : Str -> Option NameKind} {x : Str} {v : Value} : ∀ {P : List Str} {vs : List Value} {i : Nat} {m : Str -> Option Value}, P.Nodup -> P[i]? = some x -> vs[i]? = some v -> kindOf x = some .local →
    bindL kindOf (P.zip vs) m x = some v
  | [], _, _, _, _, h, _, _ => by simp at h
  | _ :: _, [], _, _, _, _, h, _ => by simp at h
  | p :: P, w :: vs, 0, m, nd, h1, h2, hk => by
    simp at h1 h2; subst h1; subst h2
    show bindL kindOf ((p, w) :: P.zip vs) m p = _
    unfold bindL
    rw [bindL_out fun v hv => (List.nodup_cons.mp nd).1 (List.of_mem_zip hv).1, if_pos hk]
    simp
  | p :: P, w :: vs, i + 1, m, nd, h1, h2, hk => by
    show bindL kindOf ((p, w) :: P.zip vs) m x = _
    unfold bindL
    exact bindL_get (i := i) (List.nodup_cons.mp nd).2 (by simpa using h1) (by simpa using h2) hk
theorem bindC_get {kindOf : Str -> Option NameKind} {x : Str} {v : Value} : ∀ {P : List Str} {vs : List Value} {i : Nat} {m : Str -> Option Value}, P.Nodup -> P[i]? = some x -> vs[i]? = some v -> kindOf x ≠ some .local →
    bindC kindOf (P.zip vs) m x = some v
  | [], _, _, _, _, h, _, _ => by simp at h
  | _ :: _, [], _, _, _, _, h, _ => by simp at h
  | p :: P, w :: vs, 0, m, nd, h1, h2, hk => by
    simp at h1 h2; subst h1; subst h2
    show bindC kindOf ((p, w) :: P.zip vs) m p = _
    unfold bindC
    rw [bindC_out fun v hv => (List.nodup_cons.mp nd).1 (List.of_mem_zip hv).1, if_neg hk]
    simp
  | p :: P, w :: vs, i + 1, m, nd, h1, h2, hk => by
    show bindC kindOf ((p, w) :: P.zip vs) m x = _
    unfold bindC
    exact bindC_get (i := i) (List.nodup_cons.mp nd).2 (by simpa using h1) (by simpa using h2) hk
def start (N : List Str) (vs : List V) : St := vs.map some ++ List.replicate (N.length - vs.length) none
def cxOf (CX : CXT) (P : Program) (w : World) (K : PySem.W.Frag) (mg : Str -> Option Value) (base : Heap) (N : List Str) (qual : Str) (scope : Scope) (f : Addr) (cd : Value) (A : Around) (outer : List Env) (s : Shared) (H : Hp) (E : XK) : Cx where
  prog := P
  w := w
  K := K
  mg := mg
  base := base
  A := A.deeper (envOfC qual scope s.heap.objs.size f cd)
  N := N
  s₀ := s
  H₀ := H
  env := envOfC qual scope s.heap.objs.size f cd
  outer := outer
  stack := envOfC qual scope s.heap.objs.size f cd :: outer
  ex := []
  calm := true
  fn := fun _ => true
  pn := []
  xe := fun e s' => wpAny (model P w) (A.deeper (envOfC qual scope s.heap.objs.size f cd)) (leaving (envOfC qual scope s.heap.objs.size f cd) e) (fun _ s'' => CX outer H s E e s'') (fun e' s'' => CX outer H s E e' s'') s'
theorem cell_has {sc : Scope} {n : Nat} {x : Str} (h : sc.names.lookup x = some .cell) : ∃ c, (cellsFrom n sc.names []).lookup x = some c := by
  have q := PySem.W.cellsFrom_some sc.names n [] (.inl h)
  exact Option.isSome_iff_exists.mp q
theorem inv_start {CX : CXT} {P : Program} {w : World} {K : PySem.W.Frag} {mg : Str -> Option Value} {base : Heap} {N ps : List Str} {qual : Str} {scope : Scope} {f : Addr} {cd : Value} {A : Around} {outer : List Env} {s s1 : Shared} {H : Hp} {E : XK} {us : List Value} {vs : List V}
    (S : FnScope N ps scope) (hd : A.handled = none) (e0 : Env0 P w K mg base A outer s H) (hl : vs.length = ps.length) (r : Vals vs us)
    (x : InCallC s s.heap.objs.size (bindL (envOfC qual scope s.heap.objs.size f cd).kindOf (ps.zip us) fun _ => none) (cellsFrom (s.heap.objs.size + 1) scope.names []) (bindC (envOfC qual scope s.heap.objs.size f cd).kindOf (ps.zip us) fun _ => none) s1) :
    Inv (cxOf CX P w K mg base N qual scope f cd A outer s H E) [] (start N vs) H s1 := by
  have hpl : ps.length <= N.length := by have := congrArg List.length S.pre; rw [zl13] at this; omega
  obtain ⟨h1, tk, rfl, hk⟩ := x.done
  have noA : ∀ b : Addr, b ∉ (cxOf CX P w K mg base N qual scope f cd A outer s H E).ex := fun b z => absurd (show b ∈ ([] : List Addr) from z) (by simp)
  refine ⟨⟨e0.mod, S.kind, rfl, rfl, zl3 _, fun y z c h1 h2 => ?_, fun y hy => ?_, fun y c _ h => ?_, fun _ => hd, Around.frames_deeper e0.frames, .inr ⟨rfl, rfl⟩, fun b z => absurd z (noA b), e0.bs, e0.bsz, fun b _ _ => noA b, fun b z => absurd z (noA b), e0.funs, e0.frf⟩,
    rfl, e0.bare, Un.kept hk, ⟨_, x.toInCall.ns, fun i y v h1 h2 h3 => ?_⟩, fun y c h => ⟨_, x.cell y c h⟩, e0.hok.fresh (Nat.le_refl _), fun y c h => ?_, fun p hp => absurd (show p ∈ ([] : List (Addr × Obj)) from hp) (by simp), e0.hok.kept hk, ?_⟩
  · exact name_of_addr x.apart (PySem.mem_of_lookup h1) (PySem.mem_of_lookup h2)
  · have hy : scope.names.lookup y = some .cell ∨ scope.names.lookup y = some .free := hy
    rcases hy with hy | hy
    · exact cell_has hy
    · exact absurd rfl (S.nofree _ (PySem.mem_of_lookup hy))
  · exact Nat.le_of_lt (x.above y c (PySem.mem_of_lookup h))
  · have hi : i < vs.length := by
      unfold start at h2
      by_cases hi : i < vs.length
      · exact hi
      · rw [List.getElem?_append_right (by simpa using hi)] at h2
        rw [List.getElem?_replicate] at h2
        split at h2 <;> cases h2
    have ha : vs[i]? = some v := by
      unfold start at h2
      rw [List.getElem?_append_left (by simpa using hi), List.getElem?_map] at h2
      cases e : vs[i]? with
      | none => rw [e] at h2; cases h2
      | some a => rw [e] at h2; cases h2; rfl
    obtain ⟨u, hu, rv⟩ := r.get ha
    have hp : ps[i]? = some y := by
      rw [<- S.pre, List.getElem?_take_of_lt (by omega)]; exact h1
    have ndP : ps.Nodup := by rw [<- S.pre]; exact S.nd.sublist (List.take_sublist _ _)
    refine ⟨u, rv, ?_⟩
    rcases S.par y (List.mem_of_getElem? hp) with k | k
    · exact .inl ⟨k, bindL_get ndP hp hu k⟩
    · obtain ⟨c, e⟩ := cell_has (n := s.heap.objs.size + 1) k
      refine .inr ⟨.inl k, c, e, ?_⟩
      have q := x.cell y c e
      rw [bindC_get ndP hp hu (by show scope.names.lookup y ≠ _; rw [k]; decide)] at q
      exact q
  · exact e0.hok.fresh (Nat.le_of_lt (x.above y c (PySem.mem_of_lookup h)))
  · unfold start
    show _ = N.length
    rw [zl2, zl0, List.length_replicate]
    omega
theorem fn_of {CX : CXT} {P : Program} {w : World} {K : PySem.W.Frag} {mg : Str -> Option Value} {base : Heap} {k : Nat} {f : Addr} {name qual : Str} {params : Arguments} {body : List Stmt} {scope : Scope} {dV kV doc pm cdv ct oc : Value} {an od : Option Addr}
    {osl : Array (Option Value)} {N ps : List Str} {sp : Sp} (lk : K.lookup f = some ⟨oc, od, .func (PySem.W.fnOf name qual params body scope dV kV doc pm an cdv ct), osl⟩) (hcd : PySem.W.codeIn K cdv qual = true) (S : FnScope N ps scope)
    (len : ∀ vs H Q E, sp vs H Q E -> vs.length = ps.length)
    (hbody : ∀ (A : Around) (outer : List Env) (s : Shared) (H : Hp) (vs : List V) (Q : VK) (E : XK), Room k (A.deeper (envOfC qual scope s.heap.objs.size f cdv)) -> sp vs H Q E →
      ∃ t, PSs (cxOf CX P w K mg base N qual scope f cdv A outer s H E) body t /\ t { nx := fun _ H' => Q .non H', rt := Q } (start N vs) H) :
    FnOk P w K mg base CX (k + 1) f (PySem.W.fnOf name qual params body scope dV kV doc pm an cdv ct) ps sp := by
  refine ⟨len, fun A outer s H args us vs Q E hr e0 hb r hsp => ?_⟩
  have hl := len _ _ _ _ hsp
  have KX : K.In s.heap := e0.mod.kin.keeps fun b o e => (e0.bs b o e).1
  have lim : s.heap.NoLimit := e0.mod.nolimit.keeps fun b o e => (e0.bs b o e).1
  have hkind : ∀ y ∈ ps.zip us, scope.names.lookup y.1 = some .local ∨ (scope.names.lookup y.1 = some .cell /\ ((cellsFrom (s.heap.objs.size + 1) scope.names []).lookup y.1).isSome = true) := fun ⟨n, v⟩ hy => by
    rcases S.par n (List.of_mem_zip hy).1 with q | q
    · exact .inl q
    · exact .inr ⟨q, PySem.W.cellsFrom_some _ _ _ (.inl q)⟩
  refine codeAny_call_function hr.depth (KX _ _ lk) rfl S.co S.gen rfl (PySem.W.codeRec_of KX hcd) (hb _ _ _ _ ?_)
  refine wpAny_newFunctionEnv_cells S.kind hkind fun env he s1 x => ?_
  subst he
  refine ⟨lim.keeps x.toInCall.keep, codeAny_func ?_⟩
  obtain ⟨t, ht, hq⟩ := hbody A outer s H vs Q E (hr.deeper _) hsp
  have I : Inv (cxOf CX P w K mg base N qual scope f cdv A outer s H E) [] (start N vs) H s1 := inv_start S hr.hd e0 hl r x
  refine wpAny_mono (ht [] s1 (start N vs) H _ I hq) (fun fl s' hs => ?_) fun e s' hs => hs
  have fin : ∀ {σ' : St} {H' : Hp} {v : V} {u : Value}, Inv (cxOf CX P w K mg base N qual scope f cdv A outer s H E) [] σ' H' s' -> RelV v u -> Q v H' -> CE outer P w H s Q u s' :=
    fun {σ' H' v u} J rv q => ⟨v, H', J.os, J.bare, J.base, J.hok, rv, q⟩
  cases fl with
  | ret u =>
    obtain ⟨v, σ', H', J, rv, q⟩ := hs
    exact fin J rv q
  | next =>
    obtain ⟨σ', H', J, q⟩ := hs
    exact fin (v := V.non) (u := Value.none) J rfl q
  | brk =>
    obtain ⟨_, _, _, q⟩ := hs
    exact False.elim q
  | cont =>
    obtain ⟨_, _, _, q⟩ := hs
    exact False.elim q
end L2
namespace L2
open PySem PySem.Spec PyProof.Rows
section
variable {X : Cx} {x : Str} {p pos : Pos} {e : Expr} {es : List Expr} {t : TA} {id T : String} {r : List V -> Hp -> VK -> Prop}
def tCB (r : List V -> Hp -> VK -> Prop) (t : TA) : TE := fun σ H Q => t σ H fun vs H1 => r vs H1 Q
theorem zS (hc : CallR X (.builtin id) r) (hg : Gl X x) (hm : X.mg x = none) (hv : bootBuiltins x = some (.builtin id)) (ha : PA X (e :: es) t) (hn : x ≠ "__name__" := by decide) (hdb : (x == ("__debug__" : Str)) = false := by decide)
    (he : starEach (e :: es) X.env = (false, eval e X.env) :: starEach es X.env := by rfl) (hpl : (backTo pos (starEach es X.env)).any (·.1) = false := by rfl) : PE X (.Call (.Name x p) (e :: es) [] pos) (tCB r t) := by
  intro pins s σ H Q I h
  refine wpAny_Call_Name_kw (ld_blt I hg hm hv ?_ hn hdb)
  exact PyProof.Rows.callWith_builtin1 (thn (ha pos pins s σ H _ I h) fun us s1 ⟨vs, H1, I1, r1, q1⟩ => hc pins s1 σ H1 vs us Q I1 r1 q1) he hpl
theorem yA (hc : CallR X (.type T) r) (hg : Gl X x) (hm : X.mg x = none) (hv : bootBuiltins x = some (.type T)) (ha : PA X (e :: es) t) (hn : x ≠ "__name__" := by decide) (hdb : (x == ("__debug__" : Str)) = false := by decide)
    (he : starEach (e :: es) X.env = (false, eval e X.env) :: starEach es X.env := by rfl) (hpl : (backTo pos (starEach es X.env)).any (·.1) = false := by rfl) : PE X (.Call (.Name x p) (e :: es) [] pos) (tCB r t) := by
  intro pins s σ H Q I h
  refine wpAny_Call_Name_kw (ld_blt I hg hm hv ?_ hn hdb)
  exact PyProof.Rows.callWith_type1 (thn (ha pos pins s σ H _ I h) fun us s1 ⟨vs, H1, I1, r1, q1⟩ => hc pins s1 σ H1 vs us Q I1 r1 q1) he hpl
end
end L2
namespace HT
open PySem PyProof.Rows
section
open PySem.SeqAt
open PySem.AutoSeq1 (wpAny_loadPart')
open PySem.MeetsSeq PySem.MeetsSeq2 PySem.MeetsSeq3
end
section
variable {prog : Program} {w : World} {A : Around} {E : Value -> Shared -> Prop} {s : Shared}
theorem cat_tup {t b : Addr} {vs ws : List Value} {Q : Value -> Shared -> Prop} (ht : IsTup s.heap t vs.toArray) (hb : IsTup s.heap b ws.toArray) (hv : vs ≠ [])
    (h1 : ws = [] -> Q (.ref t) s) (h2 : ws ≠ [] -> Q (.ref s.heap.objs.size) { s with heap := s.heap.push { cls := .type "tuple", data := .seq (vs ++ ws).toArray } })
    (hsz : vs.length + ws.length <= sizeLine) : wpAny (model prog w) A (binaryOp .Add (.ref t) (.ref b)) Q E s := by
  obtain ⟨⟨cls, dd, data, sl⟩, ho, hc, n, hd⟩ := id ht
  obtain ⟨⟨cls2, dd2, data2, sl2⟩, ho2, hc2, n2, hd2⟩ := id hb
  simp only at hc hd hc2 hd2
  subst hc hd hc2 hd2
  have e : vs.toArray ++ ws.toArray = (vs ++ ws).toArray := by simp
  by_cases hw : ws = []
  · exact concat_meets ⟨_, ho, rfl⟩ ⟨_, ho2, rfl⟩ noFill_tuple_add seq_tuple_add PySem.F.slot_tuple_add PySem.F.entry_tuple_add (PySem.F.args_tuple_add_2 _ _)
      (tuple_addW1 t b vs.toArray ws.toArray n n2 dd dd2 sl sl2 (by simpa using hv) (by simp [hw])) ⟨ho, ho2, h1 hw⟩
  · refine concat_meets ⟨_, ho, rfl⟩ ⟨_, ho2, rfl⟩ noFill_tuple_add seq_tuple_add PySem.F.slot_tuple_add PySem.F.entry_tuple_add (PySem.F.args_tuple_add_2 _ _)
      (tuple_addW2 t b vs.toArray ws.toArray n n2 dd dd2 sl sl2 (by simpa using hv) (by simpa using hw) (by rw [List.size_toArray, List.size_toArray]; exact hsz)) ⟨ho, ho2, ?_⟩
    rw [e]
    exact h2 hw
def sIx (n d : Nat) : Option Int -> Nat
  | none => d
  | some v => if v < 0 then (v + (n : Int)).toNat else min v.toNat n
theorem sIx_none (n d : Nat) : sIx n d none = d := rfl
theorem sIx_nat (n d k : Nat) : sIx n d (some (k : Int)) = min k n := by
  show (if (k : Int) < 0 then ((k : Int) + (n : Int)).toNat else min (k : Int).toNat n) = min k n
  rw [if_neg (by omega), zl24]
theorem sIx_le (n d : Nat) (hd : d <= n) (o : Option Int) : sIx n d o <= n := by
  cases o with
  | none => exact hd
  | some v =>
    show (if v < 0 then (v + (n : Int)).toNat else min v.toNat n) <= n
    by_cases hv : v < 0
    · rw [if_pos hv]; omega
    · rw [if_neg hv]; exact Nat.min_le_right _ _
theorem clip_eq (v : Int) (n d : Nat) : (if v < 0 then max (v + (n : Int)) 0 else min v (n : Int)) = ((sIx n d (some v) : Nat) : Int) := by
  show (if v < 0 then max (v + (n : Int)) 0 else min v (n : Int)) = (((if v < 0 then (v + (n : Int)).toNat else min v.toNat n) : Nat) : Int)
  by_cases hv : v < 0
  · simp only [if_pos hv]; omega
  · simp only [if_neg hv]; omega
theorem adjust_gen (lo hi : Option Int) (n : Nat) : Builtin.Slice.sliceAdjust lo hi 1 (n : Int) = (((sIx n 0 lo : Nat) : Int), ((sIx n n hi : Nat) : Int)) := by
  have h1 : ¬ ((1 : Int) < 0) := by omega
  unfold Builtin.Slice.sliceAdjust
  simp only [h1, if_false]
  refine Prod.ext ?_ ?_
  · cases lo with
    | none => rfl
    | some v => exact clip_eq v n 0
  · cases hi with
    | none => rfl
    | some v => exact clip_eq v n n
theorem places_gen (i j : Nat) : Builtin.Slice.slicePlaces (i : Int) (j : Int) 1 = j - i := by
  unfold Builtin.Slice.slicePlaces
  have h1 : (1 : Int) > 0 := by omega
  simp only [h1, if_true, Int.ediv_one]
  split <;> omega
theorem slicePart_ {v : Value} {o : Option Int} {Q : Option Int -> Shared -> Prop} (p : IsPart v o) (h : Q o s) : wpAny (model prog w) A (Builtin.Slice.slicePartIndex v) Q E s := by
  cases p with
  | none => exact slicePart_none h
  | int i t => exact slicePart_int h
theorem sliceApplied_gen {sl : Addr} {vl vu : Value} {lo hi : Option Int} {n : Nat} {Q : Int × Int × Nat -> Shared -> Prop} (hs : s.heap.IsSliceOf sl vl vu .none) (pl : IsPart vl lo) (pu : IsPart vu hi)
    (h : Q (((sIx n 0 lo : Nat) : Int), 1, sIx n n hi - sIx n 0 lo) s) : wpAny (model prog w) A (Builtin.Slice.sliceApplied (.ref sl) (pure (n : Int))) Q E s := by
  obtain ⟨os, hos, hcs, hds⟩ := id hs
  unfold Builtin.Slice.sliceApplied Builtin.Slice.sliceFields
  refine wpAny_bind (wpAny_bind (wpAny_field hos hds (x := vl) rfl (wpAny_bind (wpAny_field hos hds (x := vu) rfl (wpAny_bind (wpAny_field hos hds (x := .none) rfl (wpAny_pure ?_)))))))
  refine wpAny_bind (slicePart_none ?_)
  show wpAny _ _ (if ((1 : Int) == 0) = true then _ else _) _ _ s
  rw [if_neg (by decide)]
  refine wpAny_bind (slicePart_ pl (wpAny_bind (slicePart_ pu (wpAny_bind (wpAny_pure ?_)))))
  show wpAny _ _ (match Builtin.Slice.sliceAdjust lo hi 1 (n : Int) with | (lo, hi) => pure (lo, (1 : Int), Builtin.Slice.slicePlaces lo hi 1)) _ _ s
  rw [adjust_gen lo hi n]
  show wpAny _ _ (pure (((sIx n 0 lo : Nat) : Int), (1 : Int), Builtin.Slice.slicePlaces ((sIx n 0 lo : Nat) : Int) ((sIx n n hi : Nat) : Int) 1)) _ _ s
  rw [places_gen]
  exact wpAny_pure h
theorem pick_gen (xs : Array Value) (i k : Nat) : ((List.range k).filterMap fun (m : Nat) => xs[((i : Int) + (m : Int) * 1).toNat]?).toArray = ((xs.toList.drop i).take k).toArray := by
  have e : (fun (m : Nat) => xs[((i : Int) + (m : Int) * 1).toNat]?) = fun m => xs[i + m]? := by
    funext m
    have : ((i : Int) + (m : Int) * 1).toNat = i + m := by omega
    rw [this]
  rw [e]
  have := pick_run xs i k
  rw [List.filterMap_map] at this
  have e2 : ((fun x => xs[x]?) ∘ fun x => i + x) = fun m => xs[i + m]? := rfl
  rw [e2] at this
  rw [this]
theorem getItem_tuple_cut {t sl : Addr} {items : Array Value} {vl vu : Value} {lo hi : Option Int} {Q : Value -> Shared -> Prop} (ht : IsTup s.heap t items) (hs : s.heap.IsSliceOf sl vl vu .none) (pl : IsPart vl lo) (pu : IsPart vu hi)
    (hw : ¬ (sIx items.size 0 lo = 0 /\ sIx items.size items.size hi = items.size))
    (h : Q (.ref s.heap.objs.size) { s with heap := s.heap.push { cls := .type "tuple", data := .seq ((items.toList.drop (sIx items.size 0 lo)).take (sIx items.size items.size hi - sIx items.size 0 lo)).toArray } })
    (hsz : items.size <= sizeLine) : wpAny (model prog w) A (getItem (.ref t) (.ref sl)) Q E s := by
  have htake : sizeOk (.seq ((items.toList.drop (sIx items.size 0 lo)).take (sIx items.size items.size hi - sIx items.size 0 lo)).toArray) := by
    show ((items.toList.drop (sIx items.size 0 lo)).take (sIx items.size items.size hi - sIx items.size 0 lo)).toArray.size <= sizeLine
    rw [zl5, zl13, List.length_drop, Array.length_toList]
    omega
  have hj : sIx items.size items.size hi <= items.size := sIx_le _ _ (zl3 _) hi
  obtain ⟨os, hos, hcs, hds⟩ := id hs
  have hTs : s.TypeIs (.ref sl) "slice" := ⟨os, hos, hcs⟩
  unfold getItem
  try with_reducible refine wpAny_holding ?_
  first | refine wpAny_bind (wpAny_pure ?_) | skip
  refine wpAny_bind (wpAny_sequenceKey ht.typeIs (by decide) ?_)
  refine wpAny_bind (wpAny_callSpecial?_slot (name := Str.ofString "__getitem__") ht.typeIs PyProof.Rows.slot_tuple_getitem
    (wpAny_call_entry PyProof.Rows.slot_tuple_getitem ht.typeIs entry_tuple_getitem ?_ (args_tuple_getitem _ _)))
  show wpAny _ _ (Builtin.Tuple.tupleItemsOf (.ref t) >>= _) _ _ s
  refine wpAny_bind (tupleItemsOf_ ht ?_)
  refine wpAny_bind (wpAny_typeOf hTs ?_)
  rw [if_pos (by decide)]
  refine wpAny_bind (sliceApplied_gen hs pl pu ?_)
  have hno : ¬ ((((sIx items.size 0 lo : Nat) : Int) == 0 && (1 : Int) == 1 && (sIx items.size items.size hi - sIx items.size 0 lo) == items.size) = true) := by
    intro q
    rw [Bool.and_eq_true, Bool.and_eq_true] at q
    have q1 : ((sIx items.size 0 lo : Nat) : Int) = 0 := eq_of_beq q.1.1
    have q2 : sIx items.size items.size hi - sIx items.size 0 lo = items.size := eq_of_beq q.2
    exact hw ⟨by omega, by omega⟩
  show wpAny _ _ (if (((sIx items.size 0 lo : Nat) : Int) == 0 && (1 : Int) == 1 && (sIx items.size items.size hi - sIx items.size 0 lo) == items.size) = true then _ else _) _ _ s
  rw [if_neg hno, pick_gen]
  first
    | exact wpAny_bind (m := Builtin.Tuple.tupleExact _) (wpAny_newObj_type (wpAny_pure ⟨_, rfl, wpAny_pure h⟩) htake)
    | exact wpAny_bind (m := Builtin.Tuple.tupleExact _) (wpAny_newObj_type (wpAny_bind (wpAny_pure (wpAny_pure ⟨_, rfl, wpAny_pure h⟩))) htake)
    | exact wpAny_bind (wpAny_bind (m := Builtin.Tuple.tupleExact _) (wpAny_newObj_type (wpAny_pure (wpAny_pure ⟨_, rfl, wpAny_pure h⟩)) htake))
    | exact wpAny_bind (wpAny_bind (m := Builtin.Tuple.tupleExact _) (wpAny_newObj_type (wpAny_pure ⟨_, rfl, wpAny_pure h⟩) htake))
end
end HT
namespace L2
open PySem PySem.Spec PyProof.Rows
abbrev TO := St -> Hp -> (Option Int -> Hp -> Prop) -> Prop
def PO (X : Cx) (e : Option Expr) (t : TO) : Prop :=
  ∀ (pins : List (Addr × Obj)) (s : Shared) (σ : St) (H : Hp) (Q : Option Int -> Hp -> Prop), Inv X pins σ H s -> t σ H Q →
    wpAny (model X.prog X.w) X.A (evalPart e X.env) (fun u s' => ∃ o H', Inv X pins σ H' s' /\ IsPart u o /\ Q o H') X.xe s
def tNoPart : TO := fun _ H Q => Q none H
def tPart (t : TE) : TO := fun σ H Q => t σ H fun x H1 => ∃ i, x = .int i /\ Q (some i) H1
theorem intsAre_of {ns : List Int} : ∀ {us : List Value}, Vals (ns.map V.int) us -> IntsAre us ns := by
  induction ns with
  | nil => intro us r; rw [List.map_nil] at r; cases r; exact .nil
  | cons n ns ih =>
    intro us r
    rw [List.map_cons] at r
    cases r with
    | cons r1 r2 =>
      obtain ⟨t, e⟩ := r1
      subst e
      exact .cons n t (ih r2)
section
variable {X : Cx} {e : Expr} {te : TE} {lo hi : Option Expr} {tl th : TO} {pos p2 : Pos}
theorem po_none : PO X none tNoPart := by
  intro pins s σ H Q I h
  rw [evalPart_none]
  exact wpAny_pure ⟨none, H, I, .none, h⟩
theorem po_some (h : PE X e te) : PO X (some e) (tPart te) := by
  intro pins s σ H Q I hw
  rw [evalPart_some]
  refine thn (h pins s σ H _ I hw) fun u s1 ⟨x, H1, I1, r1, q1⟩ => ?_
  obtain ⟨i, rfl, q⟩ := q1
  obtain ⟨t, rfl⟩ := r1
  exact ⟨some i, H1, I1, .int i t, q⟩
def SlR (X : Cx) (r : V -> Option Int -> Option Int -> Hp -> VK -> Prop) : Prop :=
  ∀ (pins : List (Addr × Obj)) (s : Shared) (σ : St) (H : Hp) (x : V) (v vl vu : Value) (lo hi : Option Int) (sl : Addr) (Q : VK), Inv X pins σ H s -> RelV x v -> s.heap.IsSliceOf sl vl vu .none -> IsPart vl lo -> IsPart vu hi -> r x lo hi H Q →
    ∃ T id, typeLookup (.type T) "__getitem__" = pure (some (.builtin id)) /\ s.TypeIs v T /\ wpAny (model X.prog X.w) X.A (getItem v (.ref sl)) (EP X pins σ Q) X.xe s
def tSl (r : V -> Option Int -> Option Int -> Hp -> VK -> Prop) (te : TE) (tl th : TO) : TE := fun σ H Q => te σ H fun x H1 => tl σ H1 fun l H2 => th σ H2 fun u H3 => r x l u H3 Q
theorem pe_slice {r : V -> Option Int -> Option Int -> Hp -> VK -> Prop} (hr : SlR X r) (he : PE X e te) (hl : PO X lo tl) (hu : PO X hi th) : PE X (.Subscript e (.Slice lo hi none p2) pos) (tSl r te tl th) := by
  intro pins s σ H Q I h
  refine Subscript_ (thn (he pins s σ H _ I h) fun v s1 ⟨x, H1, I1, r1, q1⟩ => ?_)
  refine wpAny_Slice (thn (hl pins s1 σ H1 _ I1 q1) fun vl s2 ⟨l, H2, I2, pl, q2⟩ => thn (hu pins s2 σ H2 _ I2 q2) fun vu s3 ⟨u, H3, I3, pu, q3⟩ => ?_)
  rw [evalPart_none]
  refine wpAny_pure ?_
  have I4 : Inv X pins σ H3 { s3 with heap := s3.heap.push { cls := .type "slice", data := .fields #[vl, vu, .none] } } := I3.kept (t' := s3.toks) fun b ob q => Heap.get?_push_of_some _ q
  obtain ⟨T, id, hT, ht, hg⟩ := hr pins { s3 with heap := s3.heap.push { cls := .type "slice", data := .fields #[vl, vu, .none] } } σ H3 x v vl vu l u s3.heap.objs.size Q I4 r1 (Heap.IsSliceOf.new ..) pl pu q3
  show wpAny (model X.prog X.w) X.A (subscriptTail e (.Slice lo hi none p2) v (.ref s3.heap.objs.size)) (EP X pins σ Q) X.xe { s3 with heap := s3.heap.push { cls := .type "slice", data := .fields #[vl, vu, .none] } }
  exact tail_any (ops := [.ref s3.heap.objs.size, v]) ht hT hg (by with_unfolding_all rfl)
def cutV (xs : List V) (lo hi : Option Int) : List V := (xs.drop (HT.sIx xs.length 0 lo)).take (HT.sIx xs.length xs.length hi - HT.sIx xs.length 0 lo)
theorem cutV_length (xs : List V) (lo hi : Option Int) : (cutV xs lo hi).length <= xs.length := by
  unfold cutV
  rw [zl13, List.length_drop]
  omega
def rSlT (K : PySem.W.Frag) : V -> Option Int -> Option Int -> Hp -> VK -> Prop := fun x lo hi H Q => ∃ a xs, x = .ref a /\ SqT K H a xs ∧
  ¬ (HT.sIx xs.length 0 lo = 0 /\ HT.sIx xs.length xs.length hi = xs.length) /\ ∀ p, H p = none -> Q (.ref p) (upd H p (.tup (cutV xs lo hi)))
theorem sl_tup : SlR X (rSlT X.K) := by
  intro pins s σ H x v vl vu lo hi sl Q I rx hs pl pu h
  obtain ⟨a, xs, rfl, hx, hw, q⟩ := h
  cases rx
  obtain ⟨its, r, ht, hz⟩ := I.tuple hx
  have hlen : its.toArray.size = xs.length := by rw [zl5]; exact r.length.symm
  refine ⟨"tuple", _, PyProof.Rows.slot_tuple_getitem.lookup, ht.typeIs, ?_⟩
  refine HT.getItem_tuple_cut ht hs pl pu (by rw [hlen]; exact hw) ?_ (by rw [hlen]; exact hz)
  rw [hlen]
  refine ⟨.ref s.heap.objs.size, _, I.laid (t' := s.toks) (o := .tup (cutV xs lo hi)) (fun b ob q => Heap.get?_push_of_some _ q) (zl3 _) ?_, rfl, q _ (I.hok.fresh (zl3 _))⟩
  exact ⟨Nat.le_trans (cutV_length xs lo hi) hz, _, (r.drop (HT.sIx xs.length 0 lo)).take (HT.sIx xs.length xs.length hi - HT.sIx xs.length 0 lo), IsTup.new _ _⟩
def rCatT (K : PySem.W.Frag) : R2 := fun x y H Q => ∃ a b xs ys, x = .ref a /\ y = .ref b /\ SqT K H a xs /\ SqT K H b ys /\ xs ≠ [] /\ xs.length + ys.length <= sizeLine ∧
  (ys = [] -> Q (.ref a) H) /\ (ys ≠ [] -> ∀ p, H p = none -> Q (.ref p) (upd H p (.tup (xs ++ ys))))
theorem Vals.nil_iff {xs : List V} {us : List Value} (r : Vals xs us) : us = [] ↔ xs = [] := by
  cases r with
  | nil => simp
  | cons _ _ => simp
theorem op_catT : OpR X (binaryOp .Add) (rCatT X.K) := by
  intro pins s σ H x y v u Q I rx ry h
  obtain ⟨a, b, xs, ys, rfl, rfl, ha, hb, hx, hz, q1, q2⟩ := h
  cases rx
  cases ry
  obtain ⟨its, r1, p1, _⟩ := I.tuple ha
  obtain ⟨its2, r2, p2, _⟩ := I.tuple hb
  refine HT.cat_tup p1 p2 (fun z => hx (r1.nil_iff.mp z)) (fun z => ⟨.ref a, H, I, rfl, q1 (r2.nil_iff.mp z)⟩) (fun z => ?_) (by rw [<- r1.length, <- r2.length]; exact hz)
  refine ⟨.ref s.heap.objs.size, _, I.laid (t' := s.toks) (o := .tup (xs ++ ys)) (fun b ob q => Heap.get?_push_of_some _ q) (zl3 _) ?_, rfl, q2 (fun w => z (r2.nil_iff.mpr w)) _ (I.hok.fresh (zl3 _))⟩
  exact ⟨by rw [zl2]; exact hz, _, r1.append r2, IsTup.new _ _⟩
end
end L2
namespace L2
open PySem PySem.Spec PyProof.Rows
def ixN (n : Nat) (i : Int) : Option Nat := if 0 <= i then (if i < n then some i.toNat else none) else if -(n : Int) <= i then some (i + n).toNat else none
def atI {α : Type} (xs : List α) (i : Int) : Option α := (ixN xs.length i).bind fun j => xs[j]?
theorem ixN_seq {n : Nat} {i : Int} {j : Nat} (h : ixN n i = some j) : seqIndex? i n = some j /\ j < n /\ -(n : Int) <= i /\ i < n := by
  unfold ixN at h
  by_cases h0 : 0 <= i
  · rw [if_pos h0] at h
    by_cases h1 : i < n
    · rw [if_pos h1] at h
      have e : i.toNat = j := zl7 h
      exact ⟨by rw [seqIndex_of h0 h1, e], by omega, by omega, h1⟩
    · rw [if_neg h1] at h; cases h
  · rw [if_neg h0] at h
    by_cases h1 : -(n : Int) <= i
    · rw [if_pos h1] at h
      have e : (i + n).toNat = j := zl7 h
      exact ⟨by rw [seqIndex_neg (by omega) h1, e], by omega, h1, by omega⟩
    · rw [if_neg h1] at h; cases h
theorem atI_get {α : Type} {xs : List α} {i : Int} {v : α} (h : atI xs i = some v) : ∃ j, seqIndex? i xs.length = some j /\ xs[j]? = some v /\ j < xs.length /\ -(xs.length : Int) <= i /\ i < xs.length := by
  unfold atI at h
  cases e : ixN xs.length i with
  | none => rw [e] at h; cases h
  | some j =>
    rw [e] at h
    obtain ⟨h1, h2, h3, h4⟩ := ixN_seq e
    exact ⟨j, h1, h, h2, h3, h4⟩
theorem yQ {α : Type} {xs : List α} {j : Nat} {v : α} (h : xs[j]? = some v) : atI xs (j : Int) = some v := by
  have hj : j < xs.length := (zl4.mp h).1
  have e : ixN xs.length (j : Int) = some j := by
    unfold ixN
    rw [if_pos (by omega), if_pos (by omega)]; simp
  unfold atI; rw [e]; exact h
def PlainIx (b : Expr) : Prop := ∀ o i, subscripted b false o i = operate [o, i] (getItem o i)
def IxR (X : Cx) (r : R2) : Prop :=
  ∀ (value slice : Expr) (pins : List (Addr × Obj)) (s : Shared) (σ : St) (H : Hp) (x y : V) (v u : Value) (Q : VK), Inv X pins σ H s -> RelV x v -> RelV y u -> r x y H Q →
    subscripted slice false v u = operate [v, u] (getItem v u) -> wpAny (model X.prog X.w) X.A (subscriptTail value slice v u) (EP X pins σ Q) X.xe s
def MtR (X : Cx) (id : String) (r : V -> List V -> Hp -> VK -> Prop) : Prop :=
  ∀ (pins : List (Addr × Obj)) (s : Shared) (σ : St) (H : Hp) (x : V) (xs : List V) (v : Value) (us : List Value) (Q : VK), Inv X pins σ H s -> RelV x v -> Vals xs us -> r x xs H Q →
    wpAny (model X.prog X.w) X.A (call (.builtin id) (v :: us)) (EP X pins σ Q) X.xe s
section
variable {X : Cx} {a b : Expr} {ta tb : TE} {pos : Pos}
theorem yB {r : R2} (hr : IxR X r) (ha : PE X a ta) (hb : PE X b tb) (hs : PlainIx b) : PE X (.Subscript a b pos) (tOp r ta tb) := by
  intro pins s σ H Q I h
  exact Subscript_ (binT ha hb I h fun v u s2 x y H2 I2 rx ry q => hr a b pins s2 σ H2 x y v u Q I2 rx ry q (hs _ _))
def rIxL (K : PySem.W.Frag) : R2 := fun x y H Q => ∃ p xs i v, x = .ref p /\ y = .int i /\ SqL K H p xs /\ atI xs i = some v /\ Q v H
def rIxT (K : PySem.W.Frag) : R2 := fun x y H Q => ∃ p xs i v, x = .ref p /\ y = .int i /\ SqT K H p xs /\ atI xs i = some v /\ Q v H
def rIxS : R2 := fun x y H Q => ∃ z i c, x = .str z /\ y = .int i /\ z.length <= sizeLine /\ atI z.cps.toList i = some c /\ Q (.str ⟨#[c]⟩) H
theorem yU : IxR X (rIxL X.K) := by
  intro value slice pins s σ H x y v u Q I rx ry h hs
  obtain ⟨p, xs, i, z, rfl, rfl, hq, he, q⟩ := h
  cases rx
  obtain ⟨t, rfl⟩ := ry
  obtain ⟨its, r, pl, hz⟩ := I.list hq
  obtain ⟨j, h1, h2, h3, h4, h5⟩ := atI_get he
  obtain ⟨w, ew, rw'⟩ := r.get h2
  have hl := r.length
  have hn := line63
  have fin : EP X pins σ Q w s := ⟨z, H, I, rw', q⟩
  by_cases h0 : 0 <= i
  · have hj : i.toNat = j := by
      rw [seqIndex_of h0 h5] at h1
      exact zl7 h1
    exact item_listR pl.isList h0 (by omega) (by rw [hj]; simpa using ew) fin hs
  · have hj : (i + (its.toArray.size : Int)).toNat = j := by
      rw [seqIndex_neg (by omega) h4] at h1
      rw [zl5, <- hl]
      exact zl7 h1
    exact subscriptTail_builtinR (x := w) pl.isList.typeIs slot_list_getitem.lookup
      (wpAny_getItem_list_neg (Q := fun r s' => r = w /\ EP X pins σ Q r s') pl.isList (by omega) (by rw [List.size_toArray] <;> omega) (by omega) (by rw [hj]; simpa using ew) ⟨rfl, fin⟩) hs
theorem zH : IxR X (rIxT X.K) := by
  intro value slice pins s σ H x y v u Q I rx ry h hs
  obtain ⟨p, xs, i, z, rfl, rfl, hq, he, q⟩ := h
  cases rx
  obtain ⟨t, rfl⟩ := ry
  obtain ⟨its, r, pl, hz⟩ := I.tuple hq
  obtain ⟨j, h1, h2, h3, h4, h5⟩ := atI_get he
  obtain ⟨w, ew, rw'⟩ := r.get h2
  have hl := r.length
  have hn := line63
  have fin : EP X pins σ Q w s := ⟨z, H, I, rw', q⟩
  exact subscriptTail_builtinR (x := w) pl.typeIs slot_tuple_getitem.lookup
    (getItem_tuple (j := j) (Q := fun r s' => r = w /\ EP X pins σ Q r s') pl (by omega) (by omega) (by rw [List.size_toArray, <- hl]; exact h1) (by simpa using ew) ⟨rfl, fin⟩) hs
theorem ix_str : IxR X rIxS := by
  intro value slice pins s σ H x y v u Q I rx ry h hs
  obtain ⟨z, i, c, rfl, rfl, hz, he, q⟩ := h
  obtain ⟨t, rfl⟩ := rx
  obtain ⟨t', rfl⟩ := ry
  obtain ⟨j, h1, h2, h3, h4, h5⟩ := atI_get he
  have hl : z.cps.toList.length = z.length := by simp [Str.length]
  rw [hl] at h1 h4 h5
  have hn := line63
  exact tail_any (typeIs_str s z t) slot_str_getitem.lookup (getItem_str (c := c) (by
    have e1 : decide (i < -(2 ^ 63 : Int)) = false := decide_eq_false (by omega)
    have e2 : decide (i ≥ 2 ^ 63) = false := decide_eq_false (by omega)
    rw [e1, e2, Bool.or_false]) (by rw [h1]; simpa using h2) ⟨.str ⟨#[c]⟩, H, I.tok _, ⟨_, rfl⟩, q⟩) hs
theorem mapSeq_set (its : List Value) (n j : Nat) (u : Value) : Obj.mapSeq (·.setIfInBounds j u) { cls := .type "list", data := .seq its.toArray n } = { cls := .type "list", data := .seq (its.set j u).toArray n } := by
  simp [Obj.mapSeq]
theorem Inv.lst {pins : List (Addr × Obj)} {σ : St} {H : Hp} {s : Shared} {p : Addr} {xs : List V} (I : Inv X pins σ H s) (h : H p = some (.lst xs)) :
    ∃ (its : List Value) (n : Nat), Vals xs its /\ s.heap.get? p = some { cls := .type "list", data := .seq its.toArray n } /\ xs.length <= sizeLine := by
  obtain ⟨z, its, n, r, e⟩ := I.hok p _ h
  exact ⟨its, n, r, e, z⟩
theorem Inv.lstUpd {pins : List (Addr × Obj)} {σ : St} {H : Hp} {s : Shared} {p : Addr} {xs ys : List V} {its its' : List Value} {n n' : Nat} {f : Obj -> Obj} (I : Inv X pins σ H s) (h : H p = some (.lst xs))
    (ho : s.heap.get? p = some { cls := .type "list", data := .seq its.toArray n }) (hf : f { cls := .type "list", data := .seq its.toArray n } = { cls := .type "list", data := .seq its'.toArray n' }) (r : Vals ys its') (hz : ys.length <= sizeLine) (t : Nat) :
    Inv X pins σ (upd H p (.lst ys)) { s with heap := s.heap.update p f, toks := t } := by
  have e : (s.heap.update p f).get? p = some { cls := .type "list", data := .seq its'.toArray n' } := by
    rw [Heap.get?_update_self f ho (by rw [hf] <;> rfl), hf]
  refine I.write (x := p) (e := p) (by rw [h]; trivial) (.inl rfl) (fun b u hb q => (Heap.get?_update_other _ _ (Ne.symm hb)).trans q) ⟨_, e⟩ ?_
  exact ⟨hz, its', n', r, e⟩
def rSetL : V -> V -> V -> Hp -> (Hp -> Prop) -> Prop := fun o i v H Q => ∃ p xs k j, o = .ref p /\ i = .int k /\ H p = some (.lst xs) /\ ixN xs.length k = some j /\ Q (upd H p (.lst (xs.set j v)))
theorem set_list : PSet X rSetL := by
  intro pins s σ H o i v ov iv u Q I ro ri rv h
  obtain ⟨p, xs, k, j, rfl, rfl, hp, hj, q⟩ := h
  cases ro
  obtain ⟨t, rfl⟩ := ri
  obtain ⟨its, n, r, ho, hz⟩ := I.lst hp
  obtain ⟨h1, h2, h3, h4⟩ := ixN_seq hj
  have hl := r.length
  have hn := line63
  have I' : Inv X pins σ (upd H p (.lst (xs.set j v))) { s with heap := s.heap.update p (Obj.mapSeq (·.setIfInBounds j u)) } :=
    I.lstUpd hp ho (mapSeq_set its n j u) (r.set rv j) (by rw [List.length_set]; exact hz) s.toks
  by_cases h0 : 0 <= k
  · have hk : k.toNat = j := by
      rw [seqIndex_of h0 h4] at h1
      exact zl7 h1
    exact PySem.W.ki_setAt ho h0 (by omega) (by rw [zl5, <- hl]; exact h4) (by rw [hk]; exact ⟨_, I', q⟩)
  · have hk : (k + (its.toArray.size : Int)).toNat = j := by
      rw [seqIndex_neg (by omega) h3] at h1
      rw [zl5, <- hl]
      exact zl7 h1
    exact PySem.W.ki_setBack ho (by omega) (by rw [zl5, <- hl]; exact h3) (by omega) (by rw [hk]; exact ⟨_, I', q⟩)
theorem slice_bounds (lo hi : Option Int) (n : Nat) : (sliceBounds lo hi none n).1 = ((HT.sIx n 0 lo : Nat) : Int) /\ (sliceBounds lo hi none n).2.1 = ((HT.sIx n n hi : Nat) : Int) /\ (sliceBounds lo hi none n).2.2 = 1 := by
  refine ⟨?_, ?_, rfl⟩
  · cases lo with
    | none => simp [sliceBounds, HT.sIx]
    | some i =>
      simp only [sliceBounds, HT.sIx, Option.getD_none, show (1 : Int) > 0 by decide, if_true]
      by_cases h : i < 0
      · simp only [h, if_true] <;> omega
      · simp only [h, if_false] <;> omega
  · cases hi with
    | none => simp [sliceBounds, HT.sIx]
    | some i =>
      simp only [sliceBounds, HT.sIx, Option.getD_none, show (1 : Int) > 0 by decide, if_true]
      by_cases h : i < 0
      · simp only [h, if_true] <;> omega
      · simp only [h, if_false] <;> omega
theorem slicePick_cut (its : List Value) (lo hi : Option Int) : slicePick its.toArray lo hi none = ((its.drop (HT.sIx its.length 0 lo)).take (HT.sIx its.length its.length hi - HT.sIx its.length 0 lo)).toArray := by
  obtain ⟨h1, h2, h3⟩ := slice_bounds lo hi its.toArray.size
  unfold slicePick
  rw [h1, h2, h3]
  simp only [sliceRange_one, pick_run, List.size_toArray] <;> rfl
def rSlL (K : PySem.W.Frag) : V -> Option Int -> Option Int -> Hp -> VK -> Prop := fun x lo hi H Q => ∃ a xs, x = .ref a /\ SqL K H a xs /\ ∀ p, H p = none -> Q (.ref p) (upd H p (.lst (cutV xs lo hi)))
theorem sl_list : SlR X (rSlL X.K) := by
  intro pins s σ H x v vl vu lo hi sl Q I rx hs pl pu h
  obtain ⟨a, xs, rfl, hx, q⟩ := h
  cases rx
  obtain ⟨its, r, ht, hz⟩ := I.list hx
  have hlen := r.length
  refine ⟨"list", _, slot_list_getitem.lookup, ht.isList.typeIs, ?_⟩
  refine wpAny_getItem_list_slice ht.isList hs pl pu .none (by simp) ?_ (by rw [List.size_toArray] <;> omega)
  rw [slicePick_cut, <- hlen]
  refine ⟨.ref s.heap.objs.size, _, I.laid (t' := s.toks) (o := .lst (cutV xs lo hi)) (fun b ob q => Heap.get?_push_of_some _ q) (zl3 _) ?_, rfl, q _ (I.hok.fresh (zl3 _))⟩
  exact ⟨Nat.le_trans (cutV_length xs lo hi) hz, _, 0, (r.drop (HT.sIx xs.length 0 lo)).take (HT.sIx xs.length xs.length hi - HT.sIx xs.length 0 lo), Heap.get?_push_size _ rfl⟩
def flatV : V -> Bool
  | .non => true
  | .bl _ => true
  | .int _ => true
  | .str _ => true
  | _ => false
def eqV : V -> V -> Bool
  | .non, .non => true
  | .bl a, .bl b => a == b
  | .bl a, .int b => (if a then 1 else 0) == b
  | .int a, .bl b => a == (if b then 1 else 0)
  | .int a, .int b => a == b
  | .str a, .str b => a == b
  | _, _ => false
theorem eqAt_V {A : Around} {s : Shared} {y x : V} {u v : Value} (ry : RelV y u) (rx : RelV x v) (fy : flatV y = true) (fx : flatV x = true) : SeqAt.EqAt A s u v (eqV y x) := by
  cases y with
  | non =>
    cases ry
    cases x with
    | non => cases rx; exact SeqAt.EqAt.same _
    | bl b => cases rx; exact SeqAt.EqAt.none_bool b
    | int b => obtain ⟨t, rfl⟩ := rx; exact SeqAt.EqAt.none_int b t
    | str b => obtain ⟨t, rfl⟩ := rx; exact SeqAt.EqAt.none_str b t
    | _ => exact absurd (show false = true from fx) zl6
  | bl a =>
    cases ry
    cases x with
    | non => cases rx; exact SeqAt.EqAt.bool_none a
    | bl b => cases rx; exact SeqAt.EqAt.bool_bool a b
    | int b => obtain ⟨t, rfl⟩ := rx; exact SeqAt.EqAt.bool_int a b t
    | str b => obtain ⟨t, rfl⟩ := rx; exact SeqAt.EqAt.bool_str a b t
    | _ => exact absurd (show false = true from fx) zl6
  | int a =>
    obtain ⟨t', rfl⟩ := ry
    cases x with
    | non => cases rx; exact SeqAt.EqAt.int_none a t'
    | bl b => cases rx; exact SeqAt.EqAt.int_bool a t' b
    | int b => obtain ⟨t, rfl⟩ := rx; exact SeqAt.EqAt.int_int a t' b t
    | str b => obtain ⟨t, rfl⟩ := rx; exact SeqAt.EqAt.int_str a t' b t
    | _ => exact absurd (show false = true from fx) zl6
  | str a =>
    obtain ⟨t', rfl⟩ := ry
    cases x with
    | non => cases rx; exact SeqAt.EqAt.str_none a t'
    | bl b => cases rx; exact SeqAt.EqAt.str_bool a t' b
    | int b => obtain ⟨t, rfl⟩ := rx; exact SeqAt.EqAt.str_int a t' b t
    | str b => obtain ⟨t, rfl⟩ := rx; exact SeqAt.EqAt.str_str a t' b t
    | _ => exact absurd (show false = true from fx) zl6
  | _ => exact absurd (show false = true from fy) zl6
def eqU (x : V) (u : Value) : Bool := match u with
  | .none => eqV .non x
  | .bool b => eqV (.bl b) x
  | .int i _ => eqV (.int i) x
  | .str z _ => eqV (.str z) x
  | _ => false
theorem eqU_of {x y : V} {u : Value} (r : RelV y u) (f : flatV y = true) : eqU x u = eqV y x := by
  cases y with
  | non => cases r; rfl
  | bl b => cases r; rfl
  | int i => obtain ⟨t, rfl⟩ := r; rfl
  | str z => obtain ⟨t, rfl⟩ := r; rfl
  | _ => exact absurd (show false = true from f) zl6
theorem any_eqU {x : V} : ∀ {xs : List V} {us : List Value}, Vals xs us -> xs.all flatV = true -> us.any (eqU x) = xs.any fun y => eqV y x
  | _, _, .nil, _ => rfl
  | y :: xs, u :: us, .cons r t, f => by
    rw [List.all_cons, Bool.and_eq_true] at f
    rw [List.any_cons, List.any_cons, eqU_of r f.1, any_eqU t f.2]
theorem mem_eqAt {A : Around} {s : Shared} {x : V} {v : Value} (rx : RelV x v) (fx : flatV x = true) : ∀ {xs : List V} {us : List Value}, Vals xs us -> xs.all flatV = true -> ∀ u ∈ us, SeqAt.EqAt A s u v (eqU x u)
  | _, _, .nil, _ => fun u hu => by cases hu
  | y :: xs, u :: us, .cons r t, f => fun u' hu => by
    rw [List.all_cons, Bool.and_eq_true] at f
    rcases zl16.mp hu with rfl | hu
    · rw [eqU_of r f.1]; exact eqAt_V r rx f.1 fx
    · exact mem_eqAt rx fx t f.2 u' hu
def inV (x : V) (xs : List V) : Bool := xs.any fun y => eqV y x
def rIn (K : PySem.W.Frag) (neg : Bool) : R2 := fun x y H Q => ∃ p xs, y = .ref p /\ (SqL K H p xs ∨ SqT K H p xs) /\ flatV x = true /\ xs.all flatV = true /\ Q (.bl (if neg then !inV x xs else inV x xs)) H
theorem op_in_seq : OpR X (compareOp .In) (rIn X.K false) := by
  intro pins s σ H x y v u Q I rx ry h
  obtain ⟨p, xs, rfl, hq, fx, fs, q⟩ := h
  cases ry
  rcases hq with hq | hq
  · obtain ⟨its, r, pl, hz⟩ := I.list hq
    refine SeqAt.in_listAt (eqU x) pl.isList (fun w hw => mem_eqAt rx fx r fs w (by simpa using hw)) ⟨.bl _, H, I, rfl, ?_⟩
    rw [show its.toArray.any (eqU x) = its.any (eqU x) by simp, any_eqU r fs]
    exact q
  · obtain ⟨its, r, pl, hz⟩ := I.tuple hq
    refine SeqAt.in_tupleAt (eqU x) pl (fun w hw => mem_eqAt rx fx r fs w (by simpa using hw)) ⟨.bl _, H, I, rfl, ?_⟩
    rw [show its.toArray.any (eqU x) = its.any (eqU x) by simp, any_eqU r fs]
    exact q
theorem op_notIn_seq : OpR X (compareOp .NotIn) (rIn X.K true) := by
  intro pins s σ H x y v u Q I rx ry h
  obtain ⟨p, xs, rfl, hq, fx, fs, q⟩ := h
  cases ry
  rcases hq with hq | hq
  · obtain ⟨its, r, pl, hz⟩ := I.list hq
    refine SeqAt.notIn_listAt (eqU x) pl.isList (fun w hw => mem_eqAt rx fx r fs w (by simpa using hw)) ⟨.bl _, H, I, rfl, ?_⟩
    rw [show its.toArray.any (eqU x) = its.any (eqU x) by simp, any_eqU r fs]
    exact q
  · obtain ⟨its, r, pl, hz⟩ := I.tuple hq
    refine SeqAt.notIn_tupleAt (eqU x) pl (fun w hw => mem_eqAt rx fx r fs w (by simpa using hw)) ⟨.bl _, H, I, rfl, ?_⟩
    rw [show its.toArray.any (eqU x) = its.any (eqU x) by simp, any_eqU r fs]
    exact q
theorem zN : CallR X (.builtin "len") (fun xs H Q => ∃ p ys, xs = [.ref p] /\ (SqL X.K H p ys ∨ SqT X.K H p ys) /\ Q (.int ys.length) H) := by
  intro pins s σ H xs us Q I r h
  obtain ⟨p, ys, rfl, hq, q⟩ := h
  obtain ⟨u, rfl, rx⟩ := vals1 r
  cases rx
  have hn := line63
  rcases hq with hq | hq
  · obtain ⟨its, r', pl, hz⟩ := I.list hq
    have hlen := r'.length
    exact Calls.call_len_list pl.isList (by simp only [List.size_toArray] <;> omega) ⟨.int ys.length, H, I.tok _, ⟨s.toks + 1, by rw [List.size_toArray, hlen]⟩, q⟩
  · obtain ⟨its, r', pl, hz⟩ := I.tuple hq
    have hlen := r'.length
    exact len_tuple pl (by simp only [List.size_toArray] <;> omega) ⟨.int ys.length, H, I.tok _, ⟨s.toks + 1, by rw [List.size_toArray, hlen]⟩, q⟩
theorem call_len_str : CallR X (.builtin "len") (fun xs H Q => ∃ z, xs = [.str z] /\ z.length <= sizeLine /\ Q (.int z.length) H) := by
  intro pins s σ H xs us Q I r h
  obtain ⟨z, rfl, hz, q⟩ := h
  obtain ⟨u, rfl, t, rfl⟩ := vals1 r
  have hn := line63
  exact len_str (by omega) ⟨.int z.length, H, I.tok _, ⟨_, rfl⟩, q⟩
theorem call_list_of : CallR X (.type "list") (fun xs H Q => ∃ p ys, xs = [.ref p] /\ (SqL X.K H p ys ∨ SqT X.K H p ys) /\ ∀ l, H l = none -> Q (.ref l) (upd H l (.lst ys))) := by
  intro pins s σ H xs us Q I r h
  obtain ⟨p, ys, rfl, hq, q⟩ := h
  obtain ⟨u, rfl, rx⟩ := vals1 r
  cases rx
  have fin : ∀ (its : List Value), Vals ys its -> ys.length <= sizeLine -> ∀ (h' : Heap) (c' : Nat), (∀ b o', s.heap.get? b = some o' -> h'.get? b = some o') →
      h'.get? s.heap.objs.size = some { cls := .type "list", dict := none, data := .seq its.toArray c', slots := #[] } -> EP X pins σ Q (.ref s.heap.objs.size) { s with heap := h' } := fun its r' hz h' c' kp e =>
    ⟨.ref s.heap.objs.size, _, I.laid (t' := s.toks) kp (zl3 _) (show ObjOk X.prog X.w _ h' _ (.lst ys) from ⟨hz, its, c', r', e⟩), rfl, q _ (I.hok.fresh (zl3 _))⟩
  rcases hq with hq | hq
  · obtain ⟨its, r', pl, hz⟩ := I.list hq
    have hlen := r'.length
    obtain ⟨o, ho, hc, n, hd⟩ := pl.isList
    exact call_list_seq p (.inl rfl) ho hc hd (fun h' c' kp e => fin its r' hz h' c' kp e) (by simp only [List.size_toArray] <;> omega)
  · obtain ⟨its, r', pl, hz⟩ := I.tuple hq
    have hlen := r'.length
    obtain ⟨o, ho, hc, n, hd⟩ := pl
    exact call_list_seq p (.inr rfl) ho hc hd (fun h' c' kp e => fin its r' hz h' c' kp e) (by simp only [List.size_toArray] <;> omega)
theorem zX : CallR X (.type "tuple") (fun xs H Q => ∃ p ys, xs = [.ref p] /\ ((SqL X.K H p ys /\ ∀ l, H l = none -> Q (.ref l) (upd H l (.tup ys))) ∨ (SqT X.K H p ys /\ Q (.ref p) H))) := by
  intro pins s σ H xs us Q I r h
  obtain ⟨p, ys, rfl, h⟩ := h
  obtain ⟨u, rfl, rx⟩ := vals1 r
  cases rx
  rcases h with ⟨hq, q⟩ | ⟨hq, q⟩
  · obtain ⟨its, r', pl, hz⟩ := I.list hq
    have hlen := r'.length
    refine call_tuple_list pl.isList (fun h' kp => ?_) (by simp only [List.size_toArray] <;> omega)
    have I1 : Inv X pins σ H { s with heap := h' } := I.kept (t' := s.toks) kp
    have I2 : Inv X pins σ (upd H h'.objs.size (.tup ys)) { s with heap := h'.push { cls := .type "tuple", data := .seq its.toArray } } :=
      I1.laid (t' := s.toks) (fun b o e => Heap.get?_push_of_some _ e) (zl3 _) (show ObjOk X.prog X.w _ _ _ (.tup ys) from ⟨hz, its, r', IsTup.new _ _⟩)
    exact ⟨.ref h'.objs.size, _, I2, rfl, q _ (I1.hok.fresh (zl3 _))⟩
  · obtain ⟨its, r', pl, hz⟩ := I.tuple hq
    exact call_tuple_same pl ⟨.ref p, H, I, rfl, q⟩
def tyV (K : PySem.W.Frag) (T : String) (x : V) (H : Hp) : Prop := match x with
  | .str _ => T = "str"
  | .int _ => T = "int"
  | .ref p => (T = "list" /\ ∃ xs, SqL K H p xs) ∨ (T = "tuple" /\ ∃ o, K.lookup p = some o /\ o.cls = .type "tuple" /\ o.dict = none) ∨
      (T = "dict" /\ ((∃ kvs, H p = some (.dK kvs)) ∨ ∃ kvs, H p = some (.dT kvs))) ∨ (T = "set" /\ ∃ S n, H p = some (.set S n))
  | _ => False
theorem tyV_is {pins : List (Addr × Obj)} {σ : St} {H : Hp} {s : Shared} {T : String} {x : V} {v : Value} (I : Inv X pins σ H s) (r : RelV x v) (ty : tyV X.K T x H) :
    s.TypeIs v T /\ ∀ a, v = .ref a -> ∃ ob, s.heap.get? a = some ob /\ ob.dict = none := by
  cases x with
  | str z =>
    obtain ⟨t, rfl⟩ := r
    cases (show T = "str" from ty)
    exact ⟨typeIs_str s z t, fun _ e => nomatch e⟩
  | int i =>
    obtain ⟨t, rfl⟩ := r
    cases (show T = "int" from ty)
    exact ⟨typeIs_int s i t, fun _ e => nomatch e⟩
  | ref p =>
    cases r
    rcases ty with ⟨rfl, xs, hq⟩ | ⟨rfl, o, hk, hc, hd⟩ | ⟨rfl, hk⟩ | ⟨rfl, S, n, hk⟩
    · obtain ⟨its, _, pl, _⟩ := I.list hq
      refine ⟨pl.isList.typeIs, fun a e => ?_⟩
      cases e
      obtain ⟨o, n, e, c, hd, _⟩ := pl
      exact ⟨o, e, hd⟩
    · refine ⟨⟨o, I.kIn p o hk, hc⟩, fun a e => ?_⟩
      cases e
      exact ⟨o, I.kIn _ o hk, hd⟩
    · have z : ∃ o, s.heap.get? p = some o /\ o.ExactDict := by
        rcases hk with ⟨kvs, hk⟩ | ⟨kvs, hk⟩
        · obtain ⟨_, _, _, _, o, _, _, e, ex, _⟩ := I.hok p _ hk
          exact ⟨o, e, ex⟩
        · obtain ⟨_, _, _, _, o, _, _, e, ex, _⟩ := I.hok p _ hk
          exact ⟨o, e, ex⟩
      obtain ⟨o, e, ex⟩ := z
      refine ⟨⟨o, e, ex.1⟩, fun a e2 => ?_⟩
      cases e2
      exact ⟨o, e, ex.2.1⟩
    · obtain ⟨o, _, _, _, e, ex, _⟩ := I.hok p _ hk
      refine ⟨⟨o, e, ex.1⟩, fun a e2 => ?_⟩
      cases e2
      exact ⟨o, e, ex.2.1⟩
  | _ => exact False.elim ty
def tBM0 (K : PySem.W.Frag) (T : String) (r : V -> List V -> Hp -> VK -> Prop) (to : TE) : TE := fun σ H Q => to σ H fun x H1 => tyV K T x H1 /\ r x [] H1 Q
def tBM (K : PySem.W.Frag) (T : String) (r : V -> List V -> Hp -> VK -> Prop) (to : TE) (t : TA) : TE := fun σ H Q => to σ H fun x H1 => tyV K T x H1 /\ t σ H1 fun xs H2 => r x xs H2 Q
variable {o e : Expr} {es : List Expr} {to : TE} {t : TA} {name : Str} {apos cpos : Pos} {T id : String} {r : V -> List V -> Hp -> VK -> Prop}
theorem pe_bm0 (pa : PlainAttrs T) (slot : Slot T name id) (hty : typeOf (.builtin id) = pure (.type "method_descriptor")) (hm : MtR X id r) (ho : PE X o to)
    (hbase : attributeBase o name X.env (eval o X.env) = eval o X.env := by rfl) (hline : (apos.endLine == cpos.line) = true := by rfl) : PE X (.Call (.Attribute o name apos) [] [] cpos) (tBM0 X.K T r to) := by
  intro pins s σ H Q I h
  refine wpAny_Call_method0_late hbase hline (thn (ho pins s σ H _ I h) fun v s1 ⟨x, H1, I1, r1, ty, q1⟩ => ?_)
  obtain ⟨h1, h2⟩ := tyV_is I1 r1 ty
  exact ⟨T, id, pa, slot, hty, h1, h2, Calls.callWith_builtin rfl (PySem.evalArgs_none (hm pins s1 σ H1 x [] v [] Q I1 r1 .nil q1))⟩
theorem pe_bm (pa : PlainAttrs T) (slot : Slot T name id) (hty : typeOf (.builtin id) = pure (.type "method_descriptor")) (hm : MtR X id r) (ho : PE X o to) (ha : PA X (e :: es) t)
    (hbase : attributeBase o name X.env (eval o X.env) = eval o X.env := by rfl)
    (hfew : ((backTo cpos (starEach (e :: es) X.env)).all (fun x => !x.1) && (backToKw cpos (keywordEach [] X.env)).all (fun x => x.1.isSome)
      && decide ((e :: es).length + ([] : List Keyword).length + (if ([] : List Keyword).isEmpty then 0 else 1) < 30)) = true := by rfl)
    (hline : (apos.endLine == cpos.line) = true := by rfl) (hs : starEach (e :: es) X.env = (false, eval e X.env) :: starEach es X.env := by rfl) (hplain : (backTo cpos (starEach es X.env)).any (·.1) = false := by rfl) :
    PE X (.Call (.Attribute o name apos) (e :: es) [] cpos) (tBM X.K T r to t) := by
  intro pins s σ H Q I h
  refine wpAny_Call_method_late hbase hfew hline rfl (thn (ho pins s σ H _ I h) fun v s1 ⟨x, H1, I1, r1, ty, q1⟩ => ?_)
  obtain ⟨h1, h2⟩ := tyV_is I1 r1 ty
  refine ⟨T, id, pa, slot, hty, h1, h2, ?_⟩
  have hA := ha cpos pins s1 σ H1 _ I1 q1
  rw [hs] at hA ⊢
  refine Calls.callWith_builtin (by show (false || (backTo cpos (starEach es X.env)).any (·.1)) = false; rw [hplain] <;> rfl) (Calls.evalArgs_plain ?_)
  exact thn hA fun us s2 ⟨vs, H2, I2, r2, q2⟩ => hm pins s2 σ H2 x vs v us Q I2 r1 r2 q2
end
end L2
namespace L2
open PySem PySem.Spec PyProof.Rows
def MtM (X : Cx) (id : String) (r : V -> List V -> Hp -> VK -> Prop) : Prop :=
  ∀ (pins : List (Addr × Obj)) (s : Shared) (σ : St) (H : Hp) (x : V) (xs : List V) (v : Value) (us : List Value) (Q : VK), Inv X pins σ H s -> RelV x v -> Vals xs us -> r x xs H Q →
    wpAny (model X.prog X.w) X.A (call (.builtin id) (v :: us)) (EP X pins σ Q) X.xe s
theorem Vals.one : ∀ {x : V} {us : List Value}, Vals [x] us -> ∃ u, us = [u] /\ RelV x u
  | _, _, .cons r .nil => ⟨_, rfl, r⟩
theorem Vals.zero : ∀ {us : List Value}, Vals [] us -> us = []
  | _, .nil => rfl
theorem Vals.dropLast {xs : List V} {us : List Value} (h : Vals xs us) : Vals xs.dropLast us.dropLast := by
  induction h with
  | nil => exact .nil
  | cons r t ih =>
    cases t with
    | nil => exact .nil
    | cons q t' => exact .cons r ih
theorem erase_last {α : Type} (l : List α) : l.eraseIdx (l.length - 1) = l.dropLast := by
  induction l with
  | nil => rfl
  | cons a r ih =>
    cases r with
    | nil => rfl
    | cons b r =>
      have e : (a :: b :: r).length - 1 = ((b :: r).length - 1) + 1 := by
        have h1 : (a :: b :: r).length = r.length + 2 := rfl
        have h2 : (b :: r).length = r.length + 1 := rfl
        omega
      rw [e, List.eraseIdx_cons_succ, ih]
      all_goals rfl
section
variable {X : Cx} {pins : List (Addr × Obj)} {σ : St} {H : Hp} {s : Shared} {l b : Addr} {xs ys zs : List V}
theorem Inv.lset {its its' : List Value} {n : Nat} {f : Array Value -> Array Value} {t' : Nat} (I : Inv X pins σ H s) (hH : H l = some (.lst xs))
    (e : s.heap.get? l = some { cls := .type "list", data := .seq its.toArray n }) (hf : f its.toArray = its'.toArray) (hv : Vals ys its') (hz : ys.length <= sizeLine) :
    Inv X pins σ (upd H l (.lst ys)) { s with heap := s.heap.update l (Obj.mapSeq f), toks := t' } := by
  have q := PySem.IsL.update e f
  rw [hf] at q
  refine I.write (x := l) (e := l) (by rw [hH]; exact trivial) (.inl rfl) (fun b' u hb hu => (Heap.get?_update_other s.heap (Obj.mapSeq f) (Ne.symm hb)).trans hu) ⟨_, q⟩ ?_
  exact ⟨hz, its', _, hv, q⟩
theorem Inv.lnew {its : List Value} {t' : Nat} (I : Inv X pins σ H s) (hv : Vals ys its) (hz : ys.length <= sizeLine) :
    Inv X pins σ (upd H s.heap.objs.size (.lst ys)) { s with heap := s.heap.push { cls := .type "list", data := .seq its.toArray }, toks := t' } :=
  I.laid (fun _ _ q => Heap.get?_push_of_some _ q) (zl3 _) ⟨hz, its, 0, hv, Heap.get?_push_size _ rfl⟩
theorem Inv.fresh (I : Inv X pins σ H s) : H s.heap.objs.size = none := I.hok.fresh (zl3 _)
theorem Inv.lstM (I : Inv X pins σ H s) (hH : H l = some (.lst xs)) : xs.length <= sizeLine /\ ∃ (its : List Value) (n : Nat), Vals xs its /\ xs.length = its.length /\ s.heap.get? l = some { cls := .type "list", data := .seq its.toArray n } := by
  obtain ⟨z, its, n, r, e⟩ := I.hok l _ hH
  exact ⟨z, its, n, r, r.length, e⟩
theorem notLongL {n : Nat} (h : n <= sizeLine) : Builtin.List.listTooLong n = false := by
  unfold Builtin.List.listTooLong
  exact decide_eq_false (by omega)
end
section
variable {X : Cx}
def rAppend : V -> List V -> Hp -> VK -> Prop := fun x vs H Q => ∃ l xs y, x = .ref l /\ vs = [y] /\ H l = some (.lst xs) /\ xs.length < sizeLine /\ Q .non (upd H l (.lst (xs ++ [y])))
theorem yH : MtM X "list.append" rAppend := by
  intro pins s σ H x vs v us Q I rx rv h
  obtain ⟨l, xs, y, rfl, rfl, hH, hz, q⟩ := h
  cases rx
  obtain ⟨u, rfl, ru⟩ := rv.one
  obtain ⟨z, its, n, r, hl, e⟩ := I.lstM hH
  refine call_meets F.slot_list_append ⟨_, e, rfl⟩ F.entry_list_append (F.args_list_append_2 _ _) (PySem.list_append l its.toArray n u (by rw [zl5]; omega)) ⟨e, ?_⟩
  refine ⟨.non, _, I.lset (its' := its ++ [u]) hH e (by simp) (r.append (.cons ru .nil)) ?_, rfl, q⟩
  rw [zl2, zl15]
  omega
def rExtend : V -> List V -> Hp -> VK -> Prop := fun x vs H Q => ∃ l b xs zs, x = .ref l /\ vs = [.ref b] /\ H l = some (.lst xs) /\ H b = some (.lst zs) /\ xs.length + zs.length <= sizeLine /\ Q .non (upd H l (.lst (xs ++ zs)))
theorem mt_extend : MtM X "list.extend" rExtend := by
  intro pins s σ H x vs v us Q I rx rv h
  obtain ⟨l, b, xs, zs, rfl, rfl, hH, hB, hz, q⟩ := h
  cases rx
  obtain ⟨u, rfl, ru⟩ := rv.one
  cases ru
  obtain ⟨z, its, n, r, hl, e⟩ := I.lstM hH
  obtain ⟨z2, its2, n2, r2, hl2, e2⟩ := I.lstM hB
  have hsz : its.toArray.size + its2.toArray.size <= sizeLine := by rw [zl5, zl5]; omega
  have hlong : ¬ (!its.toArray.isEmpty && Builtin.List.listTooLong (its.toArray.size + its2.toArray.size)) = true := by
    rw [notLongL hsz, Bool.and_false]
    exact zl6
  refine call_meets F.slot_list_extend ⟨_, e, rfl⟩ F.entry_list_extend (F.args_list_extend_2 _ _)
    (AutoSeq1.list_extend_list_list_0 l its.toArray n b its2.toArray n2 hlong (by rw [zl5]; omega) (by omega)) ⟨e, e2, ?_⟩
  refine ⟨.non, _, I.lset (its' := its ++ its2) hH e (by simp) (r.append r2) ?_, rfl, q⟩
  rw [zl2]
  omega
def rPop : V -> List V -> Hp -> VK -> Prop := fun x vs H Q => ∃ l xs y, x = .ref l /\ vs = [] /\ H l = some (.lst xs) /\ xs[xs.length - 1]? = some y /\ Q y (upd H l (.lst xs.dropLast))
theorem mt_pop : MtM X "list.pop" rPop := by
  intro pins s σ H x vs v us Q I rx rv h
  obtain ⟨l, xs, y, rfl, rfl, hH, hy, q⟩ := h
  cases rx
  have hus := rv.zero
  subst hus
  obtain ⟨z, its, n, r, hl, e⟩ := I.lstM hH
  obtain ⟨u, hu, ru⟩ := r.get hy
  have hy' : its.toArray[its.toArray.size - 1]? = some u := by
    show its.toArray[its.length - 1]? = some u
    rw [<- Array.getElem?_toList, <- hl]
    exact hu
  refine call_meets F.slot_list_pop ⟨_, e, rfl⟩ F.entry_list_pop (F.args_list_pop_1 _) (MeetsSeq.list_pop_last l its.toArray n u hy' (by rw [zl5]; omega)) ⟨e, ?_⟩
  refine ⟨y, _, I.lset (its' := its.dropLast) hH e ?_ r.dropLast ?_, ru, q⟩
  · show its.toArray.eraseIdxIfInBounds (its.toArray.size - 1) = its.dropLast.toArray
    rw [zl5, List.eraseIdxIfInBounds_toArray, erase_last]
  · rw [List.length_dropLast]
    omega
def rCat : R2 := fun x y H Q => ∃ l b xs zs, x = .ref l /\ y = .ref b /\ H l = some (.lst xs) /\ H b = some (.lst zs) /\ xs.length + zs.length <= sizeLine /\ ∀ p, H p = none -> Q (.ref p) (upd H p (.lst (xs ++ zs)))
theorem op_cat : OpR X (binaryOp .Add) rCat := by
  intro pins s σ H x y v u Q I rx ry h
  obtain ⟨l, b, xs, zs, rfl, rfl, hH, hB, hz, q⟩ := h
  cases rx
  cases ry
  obtain ⟨z, its, n, r, hl, e⟩ := I.lstM hH
  obtain ⟨z2, its2, n2, r2, hl2, e2⟩ := I.lstM hB
  refine PySem.P.add_list e e2 ?_ (by rw [zl5, zl5]; omega)
  have ea : its.toArray ++ its2.toArray = (its ++ its2).toArray := by simp
  rw [ea]
  exact ⟨.ref _, _, I.lnew (t' := s.toks) (r.append r2) (by rw [zl2]; omega), rfl, q _ I.fresh⟩
end
section
variable {prog : Program} {w : World} {A : Around} {E : Value -> Shared -> Prop} {s : Shared}
end
section
variable {X : Cx}
end
end L2
namespace Att
open PySem PySem.W PySem.Calls PyProof.Rows
theorem ints_of_wellAll {P : Params} {h : Heap} : ∀ (ns : List Int) (vs : List Value), WellAll P h vs (ns.map WData.int) -> IntsAre vs ns := by
  intro ns
  induction ns with
  | nil =>
    intro vs w
    rw [List.map_nil] at w
    cases w
    exact .nil
  | cons n ns ih =>
    intro vs w
    rw [List.map_cons] at w
    cases w with
    | cons a b =>
      cases a
      exact .cons _ _ (ih _ b)
theorem script_of {l : OpenLaw} {n : Nat} (hn : l.most = some n) {P : Params} {h : Heap} {args : List WData} {vals : List Value}
    (hpre : l.row.toRowW.claim.pre args = true) (hwl : WellAll P h vals args) :
    ∃ a vs ns, vals = [Value.ref a] /\ args = [WData.list (ns.map WData.int)] /\ h.get? a = some { cls := .type "list", data := .seq vs.toArray } /\ IntsAre vs ns /\ ns.length <= n := by
  have hsh : WShape.hasAll [] args [.list .int] = true := (pre_splitW hpre).1
  have hc : l.pre.holds [] { args := args } = true := (pre_splitW hpre).2
  obtain ⟨d, r, rfl, h1, h2⟩ := hasAllW_cons hsh
  obtain rfl := hasAllW_nil h2
  obtain ⟨xs, rfl, h3⟩ := hasW_list h1
  obtain ⟨ns, rfl⟩ := items_int h3
  have hlen : ns.length <= n := by
    unfold OpenLaw.pre at hc
    have h4 : (WTm.not (.lt (.lit (.int (n : Int))) (.len (.arg 0)))).holds [] { args := [.list (ns.map .int)] } = true := by
      have h4 := (holds_andW hc).1
      rw [hn] at h4
      exact h4
    have h5 := condW_of h4 (w_not (w_lt w_lit (w_len_list (w_arg rfl))))
    rw [zl0] at h5
    refine Nat.le_of_not_lt fun q => ?_
    have q' : (n : Int) < ((ns.length : Nat) : Int) := by omega
    first
      | (rw [decide_eq_true q'] at h5; exact absurd h5 (by decide))
      | (simp at h5; omega)
  cases hwl with
  | cons w1 w2 =>
    cases w2
    cases w1 with
    | list ho hall => exact ⟨_, _, ns, rfl, rfl, ho, ints_of_wellAll ns _ hall, hlen⟩
theorem post_true (l : OpenLaw) (args : List WData) : l.row.toRowW.claim.post args (.bool true) args = true :=
  postW_of (r := l.row.toRowW) (X := (true == true))
    (show WShape.has [] (.bool true) .bool = true by first | rfl | decide | simp [WShape.has, WShape.arms, WShape.armsAll])
    (show (WTm.eq .res (.lit (.bool true))).value [] { args := args, res := some (.bool true), after := args } = some (.bool (true == true)) from w_eq_bool (w_res rfl) w_lit) rfl
theorem attach_call {l : OpenLaw} {n : Nat} {q : Program} {loose : List Str} {XP : (Str -> Option Value) -> Heap -> Prop} {YP : World -> Heap -> Prop} {d : DefRec}
    (hn : l.most = some n) (hdf : d.params.defaults = [])
    (call : ∀ (w : World) (s₀ s₁ : Shared) (mg mb : Str -> Option Value) (fa : Addr) (o : Obj) (pm cd doc : Value) (a : Addr) (vs : List Value) (ns : List Int),
      Ground q loose [] XP w s₀ mg mb s₁.heap -> YP w s₁.heap →
      s₁.heap.get? fa = some o -> o.data = .func (docDef d.name d.params d.body d.scope pm cd doc) -> s₁.heap.CodeRec cd d.name -> mg d.name = some (.ref fa) →
      s₁.heap.get? a = some { cls := .type "list", data := .seq vs.toArray } -> IntsAre vs ns -> ns.length <= n -> s₁.gens = #[] →
      codeAny (model l.prog w) callerA (.call (.ref fa) ⟨[.ref a], []⟩) (fun r s' => r = .ok (.ret (.bool true)) /\ OldK s₁.heap s'.heap /\ s'.os = s₁.os /\ AllBare s'.gens) s₁) :
    WalkO q loose XP YP l.row.toRowW d [] (fun f vs => PySem.call f vs) := by
  intro w s₀ s₁ mg mb G Y fa o pm cd doc dV kV ho hd hcd hD hmg hg args vals as hpre hlay hrd hwl hlo
  obtain rfl : dV = .none := Dflts.none hD hdf
  obtain rfl : kV = .none := Dflts.noKw hD
  obtain ⟨a, vs, ns, rfl, rfl, hobj, hints, hlen⟩ := script_of hn hpre hwl
  refine enter_call (codeAny_mono (call w s₀ s₁ mg mb fa o pm cd doc a vs ns G Y ho (fd_plain hd) hcd hmg hobj hints hlen hg) fun r s' hq => ?_)
  obtain ⟨rfl, h2, h3, h4⟩ := hq
  exact ⟨.inl ⟨.bool true, .bool true, [], rfl, fun _ => rfl, .bool true, post_true l _, fun _ => ⟨List.Pairwise.nil, fun _ hm => (nomatch hm)⟩⟩, h2, h3, h4⟩
section
variable {prog : Program} {w : World} {A : Around} {E : Value -> Shared -> Prop} {s : Shared} {K : Frag}
end
end Att
namespace L2
open PySem PySem.Spec PyProof.Rows
theorem vals_ints : ∀ {vs : List Value} {ns : List Int}, IntsAre vs ns -> Vals (ns.map V.int) vs
  | _, _, .nil => .nil
  | _, _, .cons n t h => .cons ⟨t, rfl⟩ (vals_ints h)
def Only (H : Hp) : Prop := ∀ b, H b = none ∨ ∃ o xs, H b = some (.frz o (.lst xs))
theorem law_call {P : Program} {w : World} {K : PySem.W.Frag} {mg mb : Str -> Option Value} {CX : CXT} {k : Nat} {fa a : Addr} {fd : FuncData} {x : Str} {sp : Sp} {s₁ : Shared} {vs : List Value} {ns : List Int}
    (KX : K.In s₁.heap) (hns : s₁.heap.Ns mainGlobals mg) (hb : s₁.heap.Ns builtinsNs mb) (hbb : ∀ x : Str, x ≠ "__name__" -> mb x = bootBuiltins x) (hlim : s₁.heap.NoLimit) (hg : s₁.gens = #[])
    (ha : s₁.heap.get? a = some { cls := .type "list", data := .seq vs.toArray }) (hi : IntsAre vs ns) (hl : ns.length <= sizeLine) (hr : Room k callerA)
    (F : ∀ base : Heap, K.In base -> base.Ns mainGlobals mg -> FnOk P w K mg base CX k fa fd [x] sp) (hbind : ∀ (s : Shared) (u : Value), BindsTo s fd ⟨[u], []⟩ [(x, u)])
    (hsp : ∀ H : Hp, Only H -> SqL K H a (ns.map V.int) -> sp [.ref a] H (fun v _ => v = .bl true) fun _ _ _ => False)
    (hCX : ∀ H e s', CX [] H s₁ (fun _ _ _ => False) e s' -> False) :
    codeAny (model P w) callerA (.call (.ref fa) ⟨[.ref a], []⟩) (fun r s' => r = .ok (.ret (.bool true)) /\ OldK s₁.heap s'.heap /\ s'.os = s₁.os /\ AllBare s'.gens) s₁ := by
  have rv := vals_ints hi
  have lenV := hi.length
  -- from an abstract heap in which nothing but the script may be tracked
  have core : ∀ H : Hp, Only H -> SqL K H a (ns.map V.int) -> HOk P w H s₁.heap -> (∀ b, H b ≠ none -> b = a) -> (H a ≠ none -> K.lookup a = none) →
      codeAny (model P w) callerA (.call (.ref fa) ⟨[.ref a], []⟩) (fun r s' => r = .ok (.ret (.bool true)) /\ OldK s₁.heap s'.heap /\ s'.os = s₁.os /\ AllBare s'.gens) s₁ := by
    intro H hO hS hok hA hK
    have base_of : ∀ {b : Addr} {o : Obj}, s₁.heap.get? b = some o -> H b = none -> (hidT s₁.heap H).get? b = some o := fun e n => hidT_get e n
    have noA : ∀ {b : Addr} {o : Obj} {es : Array DictEntry} {ep : Nat}, s₁.heap.get? b = some o -> o.data = .dict es ep -> H b = none := fun {b o es ep} e d => by
      cases q : H b with
      | none => rfl
      | some u =>
        have e' : b = a := hA b (by rw [q]; simp)
        subst e'
        rw [ha] at e; cases e
        have d' : Data.seq vs.toArray _ = Data.dict es ep := d
        cases d'
    have nsK : ∀ {b : Addr} {m : Str -> Option Value}, s₁.heap.Ns b m -> (hidT s₁.heap H).Ns b m := fun {b m} ⟨o, es, ep, e, d, r⟩ => ⟨o, es, ep, base_of e (noA e d), d, r⟩
    have hKb : K.In (hidT s₁.heap H) := fun b o e => base_of (KX b o e) (by
      cases q : H b with
      | none => rfl
      | some u =>
        have e' : b = a := hA b (by rw [q]; simp)
        subst e'
        rw [hK (by rw [q]; simp)] at e; cases e)
    have hM : Mod K mg (hidT s₁.heap H) := ⟨hKb, nsK hns, ⟨mb, nsK hb, hbb⟩, let ⟨mc, h1, h2⟩ := hlim; ⟨mc, nsK h1, h2⟩⟩
    have e0 : Env0 P w K mg (hidT s₁.heap H) callerA [] s₁ H := ⟨rfl, hM, fun b o e => of_hidT e, Nat.le_of_eq (hidT_size _ _), trivial, fun b hb => absurd (show b ∈ ([] : List Addr) from hb) (by simp), hok, .of_eq hg⟩
    refine codeAny_mono ((F _ hKb (nsK hns)).run callerA [] s₁ H ⟨[.ref a], []⟩ [.ref a] [.ref a] _ _ hr e0 (hbind s₁ (.ref a)) (.cons rfl .nil) (hsp H hO hS)) fun r s' h => ?_
    cases r with
    | error e => exact (hCX H e s' h).elim
    | ok fl =>
      cases fl with
      | next => exact False.elim h
      | brk => exact False.elim h
      | cont => exact False.elim h
      | ret u =>
        obtain ⟨v, H', os, bare, un, hok', r', q⟩ := h
        have q' : v = .bl true := q
        subst q'
        obtain rfl : u = Value.bool true := r'
        refine ⟨rfl, OldK.of_keep fun b o e => ?_, os, bare⟩
        cases q : H b with
        | none => exact un.keep b o e q (by intro z; exact absurd (show b ∈ ([] : List Addr) from z) (by simp)) (by simp)
        | some u =>
          rcases hO b with z | ⟨ob, xs, z⟩
          · rw [q] at z; cases z
          · have z2 := un.frzs b ob _ z
            obtain ⟨e1, _⟩ := hok b _ z
            obtain ⟨e2, _⟩ := hok' b _ z2
            rw [e] at e1; cases e1
            exact e2
  cases hk : K.lookup a with
  | some o =>
    -- the script is one of the module's own objects
    have e := KX a o hk
    rw [ha] at e
    cases e
    refine core (fun _ => none) (fun _ => .inl rfl) (.inr ⟨_, vs.toArray, _, hk, rfl, rfl, rfl, by rw [List.size_toArray, lenV]; exact hl, by simpa using rv⟩) (fun b u z => by have z' : (none : Option HO) = some u := z; cases z') (fun b z => absurd rfl z) fun z => absurd rfl z
  | none =>
    refine core (fun b => if b = a then some (.frz { cls := .type "list", data := .seq vs.toArray } (.lst (ns.map V.int))) else none) (fun b => ?_) (.inl (.inr ⟨{ cls := .type "list", data := .seq vs.toArray }, if_pos rfl⟩)) (fun b u z => ?_) (fun b z => ?_) fun _ => hk
    · by_cases hb : b = a
      · exact .inr ⟨_, _, if_pos hb⟩
      · exact .inl (if_neg hb)
    · by_cases hb : b = a
      · have z' := (if_pos hb).symm.trans z
        cases z'
        subst hb
        exact ⟨ha, by rw [zl0]; exact hl, vs, _, rv, ha⟩
      · have z' := (if_neg hb).symm.trans z
        cases z'
    · by_cases hb : b = a
      · exact hb
      · exact absurd (if_neg hb) z
end L2
namespace L2
open PySem PySem.Spec PyProof.Rows
theorem walk_of {l : PySem.W.OpenLaw} {n k : Nat} {q : Program} {loose : List Str} {XP : (Str -> Option Value) -> Heap -> Prop} {YP : World -> Heap -> Prop} {d : DefRec} {K : Params -> PySem.W.Frag} {CX : World -> CXT} {sp : World -> Sp} {x : Str}
    (hn : l.most = some n) (hn2 : n <= sizeLine) (hdf : d.params.defaults = []) (hr : Room k callerA)
    (hY : ∀ (w : World) (h : Heap), YP w h -> (K w.params).In h)
    (F : ∀ (w : World) (mg : Str -> Option Value) (fa : Addr) (h : Heap), (K w.params).In h -> h.Ns mainGlobals mg -> mg d.name = some (.ref fa) →
      ∃ fd : FuncData, (∀ (s : Shared) (u : Value), BindsTo s fd ⟨[u], []⟩ [(x, u)]) ∧
        ∀ base : Heap, (K w.params).In base -> base.Ns mainGlobals mg -> FnOk l.prog w (K w.params) mg base (CX w) k fa fd [x] (sp w))
    (hsp : ∀ (w : World) (H : Hp) (a : Addr) (ns : List Int), ns.length <= n -> Only H -> SqL (K w.params) H a (ns.map V.int) -> sp w [.ref a] H (fun v _ => v = .bl true) fun _ _ _ => False)
    (hCX : ∀ (w : World) (H : Hp) (s : Shared) (e : Value) (s' : Shared), CX w [] H s (fun _ _ _ => False) e s' -> False) :
    PySem.W.WalkO q loose XP YP l.row.toRowW d [] (fun f vs => PySem.call f vs) := by
  refine Att.attach_call hn hdf fun w s₀ s₁ mg mb fa o pm cd doc a vs ns G Y ho hd hcd hmg hobj hints hlen hg => ?_
  have KX := hY w _ Y
  obtain ⟨fd, hb, hF⟩ := F w mg fa _ KX G.T.g hmg
  exact law_call KX G.T.g G.T.b G.T.builtins G.T.nolimit hg hobj hints (Nat.le_trans hlen hn2) hr hF hb (fun H hO hS => hsp w H a ns hlen hO hS) fun H e s' => hCX w H s₁ e s'
end L2
namespace L2
open PySem PySem.Spec PyProof.Rows
def inClass (s : Stmt) (j : Nat) : Stmt := match s with
  | .ClassDef _ _ _ body _ _ _ _ _ _ _ => body.getD j (.Pass ⟨0, 0, 0, 0⟩)
  | _ => .Pass ⟨0, 0, 0, 0⟩
def defArgs (s : Stmt) : Arguments := match s with
  | .FunctionDef _ a _ _ _ _ _ _ _ _ => a
  | _ => { posonlyargs := [], args := [], vararg := none, kwonlyargs := [], kw_defaults := [], kwarg := none, defaults := [] }
def defBody (s : Stmt) : List Stmt := match s with
  | .FunctionDef _ _ b _ _ _ _ _ _ _ => b
  | _ => []
def defScope (s : Stmt) : Scope := match s with
  | .FunctionDef _ _ _ _ _ _ sc _ _ _ => sc
  | _ => { kind := .function, names := [], isGenerator := false, isCoroutine := false }
abbrev CX0 : CXT := fun _ _ _ _ _ _ => False
abbrev E0 : XK := fun _ _ _ => False
theorem yE {X : Cx} : Passes CX0 X E0 := fun _ _ _ _ _ _ _ h => h.elim
structure Fun (K : PySem.W.Frag) (x qual : Str) (st : Stmt) (f : Addr) (fd : FuncData) : Prop where
  ex : ∃ (oc : Value) (od : Option Addr) (kV doc pm : Value) (an : Option Addr) (cdv ct : Value) (osl : Array (Option Value)),
    fd = PySem.W.fnOf x qual (defArgs st) (defBody st) (defScope st) .none kV doc pm an cdv ct /\ K.lookup f = some ⟨oc, od, .func fd, osl⟩ /\ PySem.W.codeIn K cdv qual = true
  kp : KI K f
section
variable {P : Program} {w : World} {K : PySem.W.Frag} {mg : Str -> Option Value} {base : Heap}
theorem Fun.ok {x qual : Str} {st : Stmt} {f : Addr} {fd : FuncData} {N ps : List Str} {k : Nat} {sp : Sp} (F : Fun K x qual st f fd) (S : FnScope N ps (defScope st)) (len : ∀ vs H Q E, sp vs H Q E -> vs.length = ps.length)
    (hbody : ∀ (cdv : Value) (A : Around) (outer : List Env) (s : Shared) (H : Hp) (vs : List V) (Q : VK) (E : XK), Room k (A.deeper (envOfC qual (defScope st) s.heap.objs.size f cdv)) -> sp vs H Q E →
      ∃ t, PSs (cxOf CX0 P w K mg base N qual (defScope st) f cdv A outer s H E).nox (defBody st) t /\ t { nx := fun _ H' => Q .non H', rt := Q } (start N vs) H) : FnOk P w K mg base CX0 (k + 1) f fd ps sp := by
  obtain ⟨oc, od, kV, doc, pm, an, cdv, ct, osl, rfl, lk, hcd⟩ := F.ex
  refine fn_of lk hcd S len fun A outer s H vs Q E hr hsp => ?_
  obtain ⟨t, h, q⟩ := hbody cdv A outer s H vs Q E hr hsp
  exact ⟨t, h.nox, q⟩
theorem Fun.binds {x qual : Str} {st : Stmt} {f : Addr} {fd : FuncData} {ps : List Str} (F : Fun K x qual st f fd)
    (h : ∀ (kV doc pm : Value) (an : Option Addr) (cdv ct : Value) (us : List Value), us.length = ps.length -> bindArgs (PySem.W.fnOf x qual (defArgs st) (defBody st) (defScope st) .none kV doc pm an cdv ct) ⟨us, []⟩ = pure (ps.zip us)) : Binds K fd ps [] := by
  obtain ⟨oc, od, kV, doc, pm, an, cdv, ct, osl, rfl, lk, hcd⟩ := F.ex
  exact .all (h kV doc pm an cdv ct)
theorem fun_mk {x qual : Str} {st : Stmt} {f : Addr} {oc : Value} {od an : Option Addr} {osl : Array (Option Value)} {kV doc pm cdv ct : Value} (l : K.lookup f = some ⟨oc, od, .func (PySem.W.fnOf x qual (defArgs st) (defBody st) (defScope st) .none kV doc pm an cdv ct), osl⟩)
    (c : PySem.W.codeIn K cdv qual = true) (k : KI K f) : Fun K x qual st f (PySem.W.fnOf x qual (defArgs st) (defBody st) (defScope st) .none kV doc pm an cdv ct) := ⟨⟨oc, od, kV, doc, pm, an, cdv, ct, osl, rfl, l, c⟩, k⟩
end
theorem zV {n : Nat} (h : n <= 1000) : n < sizeLine := Nat.lt_of_le_of_lt h (by decide)
section
variable {X : Cx}
theorem pv (i : Nat) {x : Str} {pos : Pos} (hN : X.N[i]? = some x := by rfl) (hv : Vis X.env.scope x := by first | exact Or.inl rfl | exact Or.inr (Or.inl rfl) | exact Or.inr (Or.inr rfl)) (hd : (x == ("__debug__" : Str)) = false := by decide)
    (hcd : (x == ("__classdict__" : Str)) = false := by decide) : PE X (.Name x pos) (tVar i) := pe_var hN hv hd hcd
end
theorem iteF {A B : Prop} (h : B) : if false = true then A else B := by
  rw [if_neg zl6]
  exact h
theorem iteT {A B : Prop} (h : A) : if true = true then A else B := by
  rw [if_pos rfl]
  exact h
theorem ite2 {c A B : Prop} [Decidable c] (h1 : c -> A) (h2 : ¬ c -> B) : if c then A else B := by
  by_cases h : c
  · rw [if_pos h]
    exact h1 h
  · rw [if_neg h]
    exact h2 h
def Same (H H' : Hp) : Prop := ∀ b o, H b = some o -> H' b = some o
theorem Same.refl (H : Hp) : Same H H := fun _ _ h => h
theorem Same.trans {H H1 H2 : Hp} (a : Same H H1) (b : Same H1 H2) : Same H H2 := fun c o h => b c o (a c o h)
theorem Same.free {H H' : Hp} (e : Same H H') {l : Addr} (h : H' l = Option.none) : H l = Option.none := by
  cases q : H l with
  | none => rfl
  | some o =>
    rw [e l o q] at h
    cases h
theorem Same.seq {K : PySem.W.Frag} {H H' : Hp} {a : Addr} {xs : List V} (e : Same H H') (h : SqL K H a xs) : SqL K H' a xs := by
  rcases h with (h | ⟨o, h⟩) | h
  · exact .inl (.inl (e _ _ h))
  · exact .inl (.inr ⟨o, e _ _ h⟩)
  · exact .inr h
end L2
set_option maxHeartbeats 4000000
namespace L2
open PySem PyProof.Rows
theorem okS {P : Program} {w : World} {K : PySem.W.Frag} {mg : Str -> Option Value} {base : Heap} {x qual : Str} {st : Stmt} {f : Addr} {fd : FuncData} {N ps : List Str} {k : Nat} {sp : Sp} (sc : Scope) (hsc : defScope st = sc) (F : Fun K x qual st f fd) (S : FnScope N ps sc) (len : ∀ vs H Q E, sp vs H Q E -> vs.length = ps.length)
    (hbody : ∀ (cdv : Value) (A : Around) (outer : List Env) (s : Shared) (H : Hp) (vs : List V) (Q : VK) (E : XK), Room k (A.deeper (envOfC qual sc s.heap.objs.size f cdv)) -> sp vs H Q E →
      ∃ t, PSs (cxOf CX0 P w K mg base N qual sc f cdv A outer s H E).nox (defBody st) t /\ t { nx := fun _ H' => Q .non H', rt := Q } (start N vs) H) : FnOk P w K mg base CX0 (k + 1) f fd ps sp := by
  subst hsc
  exact F.ok S len hbody
end L2
namespace L2
open PySem PySem.Spec PyProof.Rows
section
variable {X : Cx} {pins : List (Addr × Obj)} {σ : St} {H : Hp} {s : Shared} {a : Addr} {o : HO}
theorem HOk.adopt {P : Program} {w : World} {h : Heap} (x : HOk P w H h) (hn : H a = none) (new : ObjOk P w (upd H a o) h a o) : HOk P w (upd H a o) h := fun b u e => by
  by_cases hb : b = a
  · subst hb; rw [zC] at e; cases e; exact new
  · rw [zQ hb] at e
    exact (x b u e).stay (fun c v _ q => q) (fun c q => by rw [zQ (zM q hn)]; exact q) fun c xs q => by rw [zQ (zM q hn)]; exact q
theorem Inv.adopt (I : Inv X pins σ H s) (f : FpOk X pins H a) (new : ObjOk X.prog X.w (upd H a o) s.heap a o) : Inv X pins σ (upd H a o) s := by
  obtain ⟨hn, hL, hfs, hex, hc, hp⟩ := f
  refine ⟨I.ok, I.os, I.bare, ⟨I.base.keep, I.base.slot, fun b ob e n hx => ?_, I.base.there, fun b xs e => ?_, fun b ob u e => ?_, fun b ps e => ?_⟩, I.loc, I.cell, by rw [zQ (Ne.symm hL)]; exact I.free, fun x c e => by rw [zQ (hc x c e)]; exact I.freeC x c e, fun p q => ?_, HOk.adopt I.hok hn new, I.len⟩
  · have nb : b ≠ a := fun z => by
      rcases hex with z' | z'
      · exact hx (z ▸ z')
      · exact absurd (Heap.lt_size e) (by rw [z]; exact Nat.not_lt.mpr z')
    rw [zQ nb]
    exact I.base.free b ob e n hx
  · have q := I.base.tups b xs e
    rw [zQ (zM q hn)]
    exact q
  · have q := I.base.frzs b ob u e
    rw [zQ (zM q hn)]
    exact q
  · obtain ⟨m, q⟩ := I.base.tbls b ps e
    exact ⟨m, by rw [zQ (zM q hn)]; exact q⟩
  · obtain ⟨e, n, r⟩ := I.pin p q
    exact ⟨e, by rw [zQ (hp p q)]; exact n, r⟩
end
theorem forIn_yield_fold {α β : Type} {f : α -> β -> Sem (ForInStep β)} {g : α -> β -> β} : ∀ (l : List α) (c : β), (∀ x ∈ l, ∀ c, f x c = pure (.yield (g x c))) -> forIn l c f = pure (l.foldl (fun c x => g x c) c)
  | [], _, _ => rfl
  | x :: l, c, h => by
    rw [List.forIn_cons, h x List.mem_cons_self, pure_bind]
    exact forIn_yield_fold l (g x c) fun y hy => h y (List.mem_cons_of_mem _ hy)
def clG (env : Env) (x : Str × NameKind) (c : List (Str × Addr)) : List (Str × Addr) := if (x.2 == NameKind.free) = true then (x.1, (env.cells.lookup x.1).getD 0) :: c else c
def clOf (env : Env) (scope : Scope) : List (Str × Addr) := scope.names.foldl (fun c x => clG env x c) []
theorem closure_eq {env : Env} {scope : Scope} (h : ∀ y ∈ scope.names, y.2 = .free -> ∃ c, env.cells.lookup y.1 = some c) : closureFor scope env = pure (clOf env scope) := by
  simp only [closureFor]
  rw [forIn_yield_fold (g := clG env) scope.names [] (fun x hx c => by
    obtain ⟨n, k⟩ := x
    unfold clG
    by_cases hk : (k == NameKind.free) = true
    · obtain ⟨a, ha⟩ := h _ hx (by simpa using hk)
      have ha' : env.cells.lookup n = some a := ha
      simp only [hk, if_true, cellOf, ha', pure_bind, Option.getD_some]
    · have hk' : (k == NameKind.free) = false := Bool.eq_false_iff.mpr hk
      simp only [hk', Bool.false_eq_true, if_false])]
  rfl
theorem clG_look {env : Env} : ∀ (l : List (Str × NameKind)) (cs : List (Str × Addr)), (∀ y ∈ l, y.2 = .free -> ∃ c, env.cells.lookup y.1 = some c) -> (∀ y c, cs.lookup y = some c -> env.cells.lookup y = some c) →
    (∀ y c, (l.foldl (fun c x => clG env x c) cs).lookup y = some c -> env.cells.lookup y = some c) /\ ∀ y, ((cs.lookup y).isSome = true ∨ (y, NameKind.free) ∈ l) -> ((l.foldl (fun c x => clG env x c) cs).lookup y).isSome = true
  | [], cs, _, h => ⟨h, fun y hy => hy.elim id fun z => absurd z (by simp)⟩
  | (n, k) :: l, cs, hf, h => by
    have hf' : ∀ y ∈ l, y.2 = .free -> ∃ c, env.cells.lookup y.1 = some c := fun y hy => hf y (List.mem_cons_of_mem _ hy)
    rw [List.foldl_cons]
    by_cases hk : k = .free
    · subst hk
      obtain ⟨a, ha⟩ := hf (n, .free) List.mem_cons_self rfl
      have ha' : env.cells.lookup n = some a := ha
      have e : clG env (n, .free) cs = (n, a) :: cs := by
        unfold clG
        rw [if_pos (by rfl)]
        show (n, (env.cells.lookup n).getD 0) :: cs = _
        rw [ha']
        rfl
      rw [e]
      have ih := clG_look l ((n, a) :: cs) hf' (fun y c hy => by
        rw [List.lookup_cons] at hy
        cases hb : y == n with
        | true =>
          rw [hb] at hy
          rw [eq_of_beq hb]
          exact ha'.trans hy
        | false =>
          rw [hb] at hy
          exact h y c hy)
      refine ⟨ih.1, fun y hy => ih.2 y ?_⟩
      rcases hy with hy | hy
      · left
        rw [List.lookup_cons]
        cases y == n with
        | true => rfl
        | false => exact hy
      · rcases zl16.mp hy with hy | hy
        · left
          rw [(Prod.mk.inj hy).1, List.lookup_cons]
          simp
        · exact .inr hy
    · have e : clG env (n, k) cs = cs := by
        unfold clG
        rw [if_neg (by simpa using hk)]
      rw [e]
      have ih := clG_look l cs hf' h
      refine ⟨ih.1, fun y hy => ih.2 y ?_⟩
      rcases hy with hy | hy
      · exact .inl hy
      · rcases zl16.mp hy with hy | hy
        · exact absurd (Prod.mk.inj hy).2.symm hk
        · exact .inr hy
theorem lookup_relabel_free {env : Env} : ∀ {names : List (Str × NameKind)} {x : Str}, names.lookup x = some .free →
    (names.map fun (n, k) => if (k == NameKind.free && env.scope.kind == .function && env.kindOf n == some .cell) then (n, NameKind.cell) else (n, k)).lookup x ≠ some .local
  | [], _, h => by simp at h
  | (n, k) :: r, x, h => by
    have ih := @lookup_relabel_free env r x
    show List.lookup x ((if (k == NameKind.free && env.scope.kind == .function && env.kindOf n == some .cell) = true then (n, NameKind.cell) else (n, k)) :: _) ≠ _
    cases hx : x == n with
    | true =>
      simp only [List.lookup_cons, hx] at h
      cases h
      split
      · simp [List.lookup_cons, hx]
      · simp [List.lookup_cons, hx]
    | false =>
      simp only [List.lookup_cons, hx] at h
      by_cases hc : (k == NameKind.free && env.scope.kind == .function && env.kindOf n == some .cell) = true
      · rw [if_pos hc]; simp only [List.lookup_cons, hx]; exact ih h
      · rw [if_neg hc]; simp only [List.lookup_cons, hx]; exact ih h
theorem free_of_relabel {env : Env} {scope : Scope} {y : Str} (nc : ∀ z ∈ scope.names, z.2 ≠ .cell) (h : (relabel scope env).names.lookup y = some .cell ∨ (relabel scope env).names.lookup y = some .free) : (y, NameKind.free) ∈ scope.names := by
  have go : ∀ k, (k = NameKind.cell ∨ k = NameKind.free) -> (relabel scope env).names.lookup y = some k -> (y, NameKind.free) ∈ scope.names := fun k hk e => by
    have m := PySem.mem_of_lookup e
    obtain ⟨⟨n, k'⟩, hm, e'⟩ := zl19.mp m
    by_cases hc : (k' == NameKind.free && env.scope.kind == .function && env.kindOf n == some .cell) = true
    · have e2 : (n, NameKind.cell) = (y, k) := by
        rw [<- e']
        show _ = (if (k' == NameKind.free && env.scope.kind == .function && env.kindOf n == some .cell) = true then (n, NameKind.cell) else (n, k'))
        rw [if_pos hc]
      have hk' : k' = .free := by
        simp only [Bool.and_eq_true, beq_iff_eq] at hc
        exact hc.1.1
      rw [<- (Prod.mk.inj e2).1, <- hk']
      exact hm
    · have e2 : (n, k') = (y, k) := by
        rw [<- e']
        show _ = (if (k' == NameKind.free && env.scope.kind == .function && env.kindOf n == some .cell) = true then (n, NameKind.cell) else (n, k'))
        rw [if_neg hc]
      rcases hk with hk | hk
      · exact absurd ((Prod.mk.inj e2).2.trans hk) (nc _ hm)
      · rw [<- (Prod.mk.inj e2).1, <- hk, <- (Prod.mk.inj e2).2]
        exact hm
  rcases h with h | h
  · exact go _ (.inl rfl) h
  · exact go _ (.inr rfl) h
def cxComp (X : Cx) (N : List Str) (scope : Scope) (C : Addr) (s : Shared) (H : Hp) (ex : List Addr) (pn : List (Addr × Obj)) (E : Value -> Shared -> Prop) : Cx where
  prog := X.prog
  w := X.w
  K := X.K
  mg := X.mg
  base := X.base
  A := X.A
  N := N
  s₀ := s
  H₀ := H
  env := compEnvC scope (clOf X.env scope) C X.env
  outer := X.stack
  stack := X.stack
  ex := ex
  fn := fun _ => false
  calm := X.calm
  pn := pn
  xe := E
structure CompSc (osc : Scope) (N : List Str) (scope : Scope) (x : Str) (caps : List (Nat × Str)) : Prop where
  kind : scope.kind = .function
  hx : scope.names.lookup x = some .local
  ncell : ∀ y ∈ scope.names, y.2 ≠ .cell
  nloc : ∀ y ∈ scope.names, y.2 = .local -> scope.names.lookup y.1 = some .local
  free : ∀ y ∈ scope.names, y.2 = .free -> osc.names.lookup y.1 = some .cell ∨ osc.names.lookup y.1 = some .free
  cap : ∀ p ∈ caps, N[p.1]? = some p.2 /\ scope.names.lookup p.2 = some .free
  nd : (x :: caps.map (·.2)).Nodup
def capS (caps : List (Nat × Str)) (σ : St) : St := caps.map fun p => (σ[p.1]?).getD none
def PIfs (X : Cx) (ifs : List Expr) (tc : TT) : Prop :=
  ∀ (pins : List (Addr × Obj)) (s : Shared) (σ : St) (H : Hp) (Q : Bool -> Hp -> Prop), Inv X pins σ H s -> tc σ H Q →
    wpAny (model X.prog X.w) X.A (forIn ifs true fun c r => if r = true then do let ok ← isTrue c X.env (eval c X.env); pure (ForInStep.yield ok) else pure (ForInStep.yield r)) (TP X pins σ Q) X.xe s
def tYes : TT := fun _ H Q => Q true H
theorem pifs_nil {X : Cx} : PIfs X [] tYes := fun _ _ _ H _ I h => by
  simp only [List.forIn_nil]
  exact wpAny_pure ⟨H, I, h⟩
theorem pifs_one {X : Cx} {c : Expr} {tc : TT} (h : PT X c tc) : PIfs X [c] tc := by
  intro pins s σ H Q I hq
  simp only [List.forIn_cons, List.forIn_nil, if_true]
  exact wpAny_bind (wpAny_bind (wpAny_mono (h pins s σ H Q I hq) (fun b s' hb => wpAny_pure (wpAny_pure hb)) fun _ _ x => x))
def tCompW (J : It) (cs : St) (tc : TT) (te : TE) (H1 : Hp) (Z : List V -> Hp -> Prop) : Prop :=
  ∃ W : Nat -> Nat -> List V -> Hp -> Prop, (∃ m, W 0 m [] H1) /\ ∀ i m acc H, W i m acc H →
    (J.stop i H /\ Z acc H) ∨ (J.go i H /\ ∃ N : List V -> Hp -> Prop, (∀ a H', N a H' -> ∃ m', m' < m /\ W (i + 1) m' a H') ∧
      ∀ x H', J.yld i H x H' -> tc (some x :: cs) H' fun b H2 => if b = true then te (some x :: cs) H2 fun v H3 => acc.length < sizeLine /\ N (acc ++ [v]) H3 else N acc H2)
def tComp (wi : TI) (caps : List (Nat × Str)) (tc : TT) (te : TE) : TE := fun σ H Q => wi σ H fun J H1 => tCompW J (capS caps σ) tc te H1 fun acc H2 => ∀ p, H2 p = none -> Q (.ref p) (upd H2 p (.lst acc))
theorem comp_loop {X : Cx} {elt iter : Expr} {x : Str} {ns : List Str} {px pos : Pos} {ifs : List Expr} {scope : Scope} {it D : Addr} {fp : List Addr} {tn : Nat -> Heap -> Prop} {J : It} {tc : TT} {te : TE} {Z : List V -> Hp -> Prop} {R : Result -> Shared -> Prop}
    {cs : St} {o : Option V} {H : Hp} {s : Shared} (hc : X.calm = true) (hN : X.N = x :: ns) (nd : X.N.Nodup) (hx : X.env.scope.names.lookup x = some .local) (I : Inv X [] (o :: cs) H s) (T : Turn X.prog X.w X.K (.Name x px) J fp it tn) (st : tn 0 s.heap) (hf : ∀ b ∈ fp, FpOk X [] H b)
    (hD : FpOk X [] H D) (hDf : D ∉ fp) (pl : s.heap.PlainList D #[]) (hifs : PIfs X ifs tc) (helt : PE X elt te) (hW : tCompW J cs tc te H Z) (hxe : X.xe = notedBy (model X.prog X.w) X.A X.env fun e s' => R (.error e) s')
    (hR : ∀ (s' : Shared) (H' : Hp) (acc : List V) (its : List Value) (o' : Option V), Inv X [] (o' :: cs) H' s' -> s'.heap.PlainList D its.toArray -> Vals acc its -> acc.length <= sizeLine -> H' D = none -> Z acc H' -> R (.ok .next) s') :
    codeAny (model X.prog X.w) X.A (.compLoop (.ListComp elt [⟨.Name x px, iter, ifs, 0⟩] scope pos) 0 (.ref it) (.ref D) X.env) R s := by
  obtain ⟨W, ⟨m0, w0⟩, turn⟩ := hW
  refine codeAny_compLoop_tests (fun n s' => ∃ (i : Nat) (acc : List V) (its : List Value) (H' : Hp) (o' : Option V), Inv X [] (o' :: cs) H' s' /\ tn i s'.heap /\ (∀ b ∈ fp, H' b = none) /\ H' D = none /\ s'.heap.PlainList D its.toArray /\ Vals acc its /\ acc.length <= sizeLine /\ W i n acc H') ?_ m0
    ⟨0, [], [], H, o, I, st, fun b hb => (hf b hb).1, hD.1, pl, .nil, Nat.zero_le _, w0⟩
  rintro n s3 ⟨i, acc, its, H3, o3, I3, st3, fr3, hD3, ⟨nD, gD⟩, va, hl, w3⟩
  rw [<- hxe]
  -- the list is pinned through the turn
  have I4 : Inv X [(D, { cls := .type "list", data := .seq its.toArray nD })] (o3 :: cs) H3 s3 := I3.pins_of fun p hp => by
    obtain rfl : p = (D, { cls := .type "list", data := .seq its.toArray nD }) := by simpa using hp
    exact ⟨gD, hD3, hD.2.1, hD.2.2.1, fun v z => by cases (show Data.seq its.toArray nD = Data.cell v from z)⟩
  have stat : ∀ {H' : Hp}, (∀ b ∈ fp, H' b = none) -> ∀ b ∈ fp, FpOk X [(D, { cls := .type "list", data := .seq its.toArray nD })] H' b := fun hn b hb => by
    obtain ⟨_, f1, f2, f3, f4, f5⟩ := hf b hb
    refine ⟨hn b hb, f1, f2, f3, f4, fun p hp => ?_⟩
    rcases zl18.mp hp with z | z
    · exact f5 p (List.mem_append_left _ z)
    · obtain rfl : p = (D, { cls := .type "list", data := .seq its.toArray nD }) := by simpa using z
      exact fun e => hDf (by rw [show D = b from e]; exact hb)
  rcases turn i n acc H3 w3 with ⟨stop, z⟩ | ⟨go, N, hNn, step⟩
  · refine thn (T.done X rfl rfl rfl hc i _ s3 (o3 :: cs) H3 X.xe I4 (stat fr3) st3 stop) fun r s4 ⟨hr, I5⟩ => ?_
    subst hr
    exact hR s4 H3 acc its o3 (I5.pins_of fun p hp => absurd hp (by simp)) ⟨nD, (I5.pin _ (List.mem_append_right _ (List.mem_singleton.mpr rfl))).1⟩ va hl hD3 z
  · refine thn (T.item X rfl rfl rfl hc i _ s3 (o3 :: cs) H3 X.xe I4 (stat fr3) st3 go) fun r s4 ⟨u, hr, h4⟩ => ?_
    subst hr
    have e0 : (letOwnedTupleGo (.Name x px) (.ref it) u >>= fun _ => assign (.Name x px) X.env u) = assign (.Name x px) X.env u := rfl
    show wpAny _ _ (assign (.Name x px) X.env u) _ _ s4
    rw [<- e0]
    refine wpAny_bind (thn h4 fun _ s5 ⟨xv, H5, I5, r5, y5, st5, fr5⟩ => ?_)
    have I5' := I5.pinned (stat fr5) (T.obj _ _ st5)
    refine wpAny_assign_Name (store_ok (i := 0) I5' nd (by rw [hN] <;> rfl) (.inl hx) r5 (fun s6 I6 => ?_) (.inr hx))
    have I6' : Inv X ([(D, { cls := .type "list", data := .seq its.toArray nD })] ++ pinsAt fp s5.heap) (some xv :: cs) H5 s6 := I6
    -- what stays of the iterator and of the list, at any later state of the turn
    have later : ∀ {σ' : St} {H' : Hp} {s' : Shared}, Inv X ([(D, { cls := .type "list", data := .seq its.toArray nD })] ++ pinsAt fp s5.heap) σ' H' s' →
        Inv X [] σ' H' s' /\ tn (i + 1) s'.heap /\ (∀ b ∈ fp, H' b = none) /\ H' D = none /\ s'.heap.get? D = some { cls := .type "list", data := .seq its.toArray nD } := fun {σ' H' s'} J' => by
      have pD := J'.pin (D, { cls := .type "list", data := .seq its.toArray nD }) (List.mem_append_right _ (List.mem_append_left _ (zl10.mpr rfl)))
      refine ⟨J'.pins_of fun p hp => absurd hp (by simp), T.keep _ _ _ st5 fun b hb ob e => (J'.pin (b, ob) (List.mem_append_right _ (List.mem_append_right _ (mem_pinsAt hb e)))).1, fun b hb => ?_, pD.2.1, pD.1⟩
      obtain ⟨ob, e, _⟩ := T.obj _ _ st5 b hb
      exact (J'.pin (b, ob) (List.mem_append_right _ (List.mem_append_right _ (mem_pinsAt hb e)))).2.1
    refine thn (hifs _ s6 (some xv :: cs) H5 _ I6' (step xv H5 y5)) fun b s7 ⟨H7, I7, q7⟩ => ?_
    cases b with
    | false =>
      obtain ⟨m', hm, w7⟩ : ∃ m', m' < n /\ W (i + 1) m' acc H7 := hNn acc H7 q7
      obtain ⟨l1, l2, l3, l4, l5⟩ := later I7
      exact ⟨m', hm, i + 1, acc, its, H7, some xv, l1, l2, l3, l4, ⟨nD, l5⟩, va, hl, w7⟩
    | true =>
      have q7' : te (some xv :: cs) H7 fun v H3 => acc.length < sizeLine /\ N (acc ++ [v]) H3 := q7
      show wpAny _ _ (eval elt X.env) _ _ s7
      refine thn (helt _ s7 (some xv :: cs) H7 _ I7 q7') fun u8 s8 ⟨v, H8, I8, r8, hlt, n8⟩ => ?_
      obtain ⟨m', hm, w8⟩ := hNn _ _ n8
      obtain ⟨l1, l2, l3, l4, l5⟩ := later I8
      have hlen := va.length
      refine wpAny_list_append_plain (hsz := by simp only [List.size_toArray]; omega) ⟨nD, l5⟩ fun h9 pl9 sb9 => ?_
      refine ⟨m', hm, i + 1, acc ++ [v], its ++ [u8], H8, some xv, l1.turned (t' := s8.toks) (fun b ob hb e => (sb9.2 b hb).trans e) l4 hD.2.1 hD.2.2.2.1 hD.2.2.2.2.1 hD.2.2.2.2.2, ?_, l3, l4, by simpa using pl9, va.append (.cons r8 .nil), ?_, w8⟩
      · exact T.keep _ _ _ l2 fun b hb ob e => (sb9.2 b (fun z => hDf (z ▸ hb))).trans e
      · rw [zl2, zl15]
        omega
section
variable {X : Cx} {elt iter : Expr} {x : Str} {px pos : Pos} {ifs : List Expr} {scope : Scope} {caps : List (Nat × Str)} {wi : TI} {tc : TT} {te : TE}
theorem Inv.stkNo {pins : List (Addr × Obj)} {σ : St} {H : Hp} {s : Shared} {b : Addr} (I : Inv X pins σ H s) (h1 : b ≠ X.env.locals) (h2 : b ∉ X.fs) : b ∉ frs X.stack := fun z => (zl16.mp (I.stkSub b z)).elim h1 h2
theorem comp_block {pins : List (Addr × Obj)} {σ : St} {H : Hp} {s : Shared} {E : Value -> Shared -> Prop} {it : Addr} {fp : List Addr} {tn : Nat -> Heap -> Prop} {J : It} {Z : List V -> Hp -> Prop} {RR : Value -> Addr -> Result -> Shared -> Prop}
    (hc : X.calm = true) (S : CompSc X.env.scope X.N scope x caps) (I : Inv X pins σ H s) (T : Turn X.prog X.w X.K (.Name x px) J fp it tn) (st : tn 0 s.heap) (hf : ∀ b ∈ fp, FpOk X pins H b)
    (hifs : ∀ C s H ex pn E, PIfs (cxComp X (x :: caps.map (·.2)) scope C s H ex pn E) ifs tc) (helt : ∀ C s H ex pn E, PE (cxComp X (x :: caps.map (·.2)) scope C s H ex pn E) elt te)
    (hW : tCompW J (capS caps σ) tc te H Z)
    (hRR : ∀ (s' : Shared) (H' : Hp) (acc : List V) (its : List Value) (D C : Addr) (m : Str -> Option Value), Inv X pins σ H' s' -> s'.heap.PlainList D its.toArray -> Vals acc its -> acc.length <= sizeLine -> FpOk X pins H' D -> FpOk X pins H' C -> D ≠ C -> s'.heap.Ns C m -> Z acc H' -> RR (.ref D) C (.ok .next) s') :
    wpAny (model X.prog X.w) X.A (newList []) (fun acc s₃ => wpAny (model X.prog X.w) X.A (newFunctionEnv scope X.env.globals (clOf X.env scope) [] X.env.qual none .none (some X.env)) (fun cenv s₄ =>
      codeAny (model X.prog X.w) X.A (.compStart (.ListComp elt [⟨.Name x px, iter, ifs, 0⟩] scope pos) 0 (.ref it) acc { cenv with scope := relabel scope X.env }) (RR acc cenv.locals) s₄) E s₃) E s := by
  refine wpAny_newObj_type (wpAny_newFunctionEnv S.ncell (by intro y hy; simp at hy) (fun h₁ hns₁ hsb₁ => ?_) S.kind)
  dsimp only at hns₁ hsb₁ ⊢
  have hI3 : Inv X pins σ H { s with heap := s.heap.push { cls := .type "list", dict := none, data := .seq ([] : List Value).toArray } } := I.kept (t' := s.toks) fun b u e => Heap.get?_push_of_some _ e
  have gD3 : (s.heap.push { cls := .type "list", dict := none, data := .seq ([] : List Value).toArray }).get? s.heap.objs.size = some { cls := .type "list", dict := none, data := .seq ([] : List Value).toArray } := Heap.get?_push_size _ rfl
  have hz3 : (s.heap.push { cls := .type "list", dict := none, data := .seq ([] : List Value).toArray }).objs.size = s.heap.objs.size + 1 := Heap.size_push _ _
  generalize hH3 : s.heap.push { cls := .type "list", dict := none, data := .seq ([] : List Value).toArray } = h3 at hns₁ hsb₁ hI3 gD3 hz3 ⊢
  have k3 : ∀ b u, s.heap.get? b = some u -> h3.get? b = some u := fun b u e => hH3 ▸ Heap.get?_push_of_some _ e
  have k31 : ∀ b u, h3.get? b = some u -> h₁.get? b = some u := fun b u e => (hsb₁.2 b (Nat.ne_of_lt (Heap.lt_size e))).trans (Heap.get?_push_of_some _ e)
  have k1 : ∀ b u, s.heap.get? b = some u -> h₁.get? b = some u := fun b u e => k31 b u (k3 b u e)
  have hDC : s.heap.objs.size ≠ h3.objs.size := by rw [hz3]; exact Nat.ne_of_lt (Nat.lt_succ_self _)
  have fD : FpOk X pins H s.heap.objs.size := I.fpOk (zl3 _) (I.hok.fresh (zl3 _))
  have fC : FpOk X pins H h3.objs.size := I.fpOk (by rw [hz3]; exact Nat.le_succ _) (I.hok.fresh (by rw [hz3]; exact Nat.le_succ _))
  have lfp : ∀ b ∈ fp, b < s.heap.objs.size := fun b hb => let ⟨_, e, _⟩ := T.obj _ _ st b hb; Heap.lt_size e
  have hDf : s.heap.objs.size ∉ fp := fun z => Nat.lt_irrefl _ (lfp _ z)
  -- the closure's cells are cells around
  have hfree : ∀ y ∈ scope.names, y.2 = .free -> ∃ c, X.env.cells.lookup y.1 = some c := fun y hy e => I.ok.has y.1 (S.free y hy e)
  obtain ⟨sub, has⟩ := clG_look scope.names [] hfree (fun y c e => by simp at e)
  have sub' : ∀ y c, (clOf X.env scope).lookup y = some c -> X.env.cells.lookup y = some c := sub
  have has' : ∀ y, (y, NameKind.free) ∈ scope.names -> ∃ c, (clOf X.env scope).lookup y = some c := fun y hy => Option.isSome_iff_exists.mp (has y (.inr hy))
  have inj : ∀ b ∈ s.heap.objs.size :: fp, FpOk X pins H b := fun b hb => (zl16.mp hb).elim (fun z => z ▸ fD) (hf b)
  have ltC : ∀ b ∈ s.heap.objs.size :: fp, b ≠ h3.objs.size := fun b hb => (zl16.mp hb).elim (fun z => z ▸ hDC) fun z => Nat.ne_of_lt (by rw [hz3]; exact Nat.lt_succ_of_lt (lfp b z))
  have I1 : Inv (cxComp X (x :: caps.map (·.2)) scope h3.objs.size { s with heap := h3 } H (s.heap.objs.size :: fp) (X.pn ++ pins)
      (notedBy (model X.prog X.w) X.A (compEnvC scope (clOf X.env scope) h3.objs.size X.env) fun e s' => RR (.ref s.heap.objs.size) h3.objs.size (.error e) s')) [] (none :: capS caps σ) H { s with heap := h₁, toks := s.toks + ([] : List (Str × Value)).length } := by
    refine ⟨⟨I.ok.mod, S.kind, I.ok.glob, I.ok.blt, zl3 _, fun y z c e1 e2 => I.ok.inj y z c (sub' _ _ e1) (sub' _ _ e2), fun y hy => has' y (free_of_relabel S.ncell hy), fun y c e => (nomatch e), I.ok.hd, I.ok.frames, .inl rfl, fun b hb => ⟨ltC b hb, fun y c e => (inj b hb).2.2.2.2.1 y c (sub' y c e)⟩,
        fun b ob e => ⟨k3 b ob (I.bs b ob e).1, (I.bs b ob e).2⟩, ?_, fun b ob e z => ?_, fun b hb => I.stkNo (inj b hb).2.1 (inj b hb).2.2.1, ?_, I.stkFree⟩,
      rfl, I.bare, Un.kept k31, ⟨_, hns₁, fun i y v e1 e2 e3 => ?_⟩, fun y c e => ?_, fC.1, fun y c e => I.freeC y c (sub' y c e), fun p hp => ?_, I.hok.kept k1, ?_⟩
    · exact Nat.le_trans I.ok.bsz (Nat.le_trans I.sz (by show s.heap.objs.size <= h3.objs.size; rw [hz3]; exact Nat.le_succ _))
    · rcases (inj b z).2.2.2.1 with w1 | w1
      · exact I.ok.noex b ob e w1
      · exact absurd (Nat.lt_of_lt_of_le (Heap.lt_size e) I.ok.bsz) (Nat.not_lt.mpr w1)
    · exact Heap.FunFrames.of_keeps (fun b ob e _ => ⟨ob, k3 b ob e, rfl⟩) I.stack
    · cases i with
      | zero => cases e2
      | succ i =>
        have e1' : (caps.map (·.2))[i]? = some y := e1
        have e2' : (capS caps σ)[i]? = some (some v) := e2
        unfold capS at e2'
        rw [zl20] at e1' e2'
        cases ep : caps[i]? with
        | none => rw [ep] at e1'; cases e1'
        | some p =>
          rw [ep] at e1' e2'
          obtain rfl : p.2 = y := zl7 e1'
          have e2'' : (σ[p.1]?).getD none = some v := zl7 e2'
          have hσ : σ[p.1]? = some (some v) := by
            cases es : σ[p.1]? with
            | none => rw [es] at e2''; cases e2''
            | some w1 => rw [es] at e2''; exact congrArg some e2''
          obtain ⟨cN, cF⟩ := S.cap p (List.mem_of_getElem? ep)
          have mF : (p.2, NameKind.free) ∈ scope.names := PySem.mem_of_lookup cF
          have oF := S.free _ mF rfl
          obtain ⟨m, hn, hlook⟩ := I.loc
          obtain ⟨u, ru, lk⟩ := hlook p.1 p.2 v cN hσ (.inr oF)
          refine ⟨u, ru, .inr ⟨?_, ?_⟩⟩
          · rcases e3 with z | z
            · exact absurd z (lookup_relabel_free cF)
            · exact z
          · obtain ⟨c, ec⟩ := has' p.2 mF
            refine ⟨c, ec, ?_⟩
            rcases lk with ⟨z, _⟩ | ⟨_, c', ec', ob, ho, hd⟩
            · have z' : X.env.scope.names.lookup p.2 = some .local := z
              rw [z'] at oF
              rcases oF with q | q <;> cases q
            · have ee := (sub' _ _ ec).symm.trans ec'
              cases ee
              exact ⟨ob, k1 _ _ ho, hd⟩
    · obtain ⟨v, ob, ho, hd⟩ := I.cell y c (sub' y c e)
      exact ⟨v, ob, k1 _ _ ho, hd⟩
    · have hp' : p ∈ X.pn ++ pins := by
        rcases zl18.mp hp with z | z
        · exact z
        · exact absurd z (by simp)
      obtain ⟨e, n, ne, nf, d⟩ := I.pin p hp'
      refine ⟨k1 _ _ e, n, Nat.ne_of_lt ?_, I.stkNo ne nf, d⟩
      show p.1 < h3.objs.size
      rw [hz3]
      exact Nat.lt_succ_of_lt (Heap.lt_size e)
    · show (none :: capS caps σ).length = (x :: caps.map (·.2)).length
      simp [capS]
  have hf1 : ∀ b ∈ s.heap.objs.size :: fp, FpOk (cxComp X (x :: caps.map (·.2)) scope h3.objs.size { s with heap := h3 } H (s.heap.objs.size :: fp) (X.pn ++ pins)
      (notedBy (model X.prog X.w) X.A (compEnvC scope (clOf X.env scope) h3.objs.size X.env) fun e s' => RR (.ref s.heap.objs.size) h3.objs.size (.error e) s')) [] H b := fun b hb => by
    obtain ⟨f0, f1, f2, f3, f4, f5⟩ := inj b hb
    refine ⟨f0, ltC b hb, I.stkNo f1 f2, .inl hb, fun y c e => f4 y c (sub' y c e), fun p hp => f5 p ?_⟩
    rcases zl18.mp hp with z | z
    · exact z
    · exact absurd z (by simp)
  have st1 : tn 0 h₁ := T.keep _ _ _ st fun b _ ob e => k1 b ob e
  have loop : codeAny (model X.prog X.w) X.A (.compLoop (.ListComp elt [⟨.Name x px, iter, ifs, 0⟩] scope pos) 0 (.ref it) (.ref s.heap.objs.size) (compEnvC scope (clOf X.env scope) h3.objs.size X.env)) (RR (.ref s.heap.objs.size) h3.objs.size) { s with heap := h₁, toks := s.toks + ([] : List (Str × Value)).length } := by
    refine comp_loop (X := cxComp X (x :: caps.map (·.2)) scope h3.objs.size { s with heap := h3 } H (s.heap.objs.size :: fp) (X.pn ++ pins) (notedBy (model X.prog X.w) X.A (compEnvC scope (clOf X.env scope) h3.objs.size X.env) fun e s' => RR (.ref s.heap.objs.size) h3.objs.size (.error e) s'))
      hc rfl S.nd (lookup_relabel_local S.hx) I1 T st1 (fun b hb => hf1 b (List.mem_cons_of_mem _ hb)) (hf1 _ List.mem_cons_self) hDf ⟨0, k31 _ _ gD3⟩ (hifs _ _ _ _ _ _) (helt _ _ _ _ _ _) hW rfl ?_
    intro s' H' acc its o' J1 plD va hlen nD z
    have u1 : Un (frs X.stack) (s.heap.objs.size :: fp) H H' h3 s'.heap := J1.base
    have J2 : Inv X pins σ H' s' := Inv.call' (s := { s with heap := h3 }) hI3 J1.os u1 J1.hok J1.bare fun b hb => by
      obtain ⟨_, f1, _, f3, f4, f5⟩ := inj b hb
      exact ⟨f3, f1, f4, f5⟩
    obtain ⟨m, hn, _⟩ := J1.loc
    exact hRR s' H' acc its _ _ m J2 plD va hlen ⟨nD, fD.2⟩ ⟨J1.free, fC.2⟩ hDC hn z
  exact codeAny_compStart_list loop (T.self _ 0 _ _ _ st1 loop)
theorem yT (hc : X.calm = true) (S : CompSc X.env.scope X.N scope x caps) (hi : PI X (.Name x px) iter wi)
    (hifs : ∀ C s H ex pn E, PIfs (cxComp X (x :: caps.map (·.2)) scope C s H ex pn E) ifs tc) (helt : ∀ C s H ex pn E, PE (cxComp X (x :: caps.map (·.2)) scope C s H ex pn E) elt te)
    (hs : ∀ x, foldedSetIterable iter X.env x = pure x := by intro _; rfl) : PE X (.ListComp elt [⟨.Name x px, iter, ifs, 0⟩] scope pos) (tComp wi caps tc te) := by
  intro pins s σ H Q I h
  have hfree : ∀ y ∈ scope.names, y.2 = .free -> ∃ c, X.env.cells.lookup y.1 = some c := fun y hy e => I.ok.has y.1 (S.free y hy e)
  rw [eval_ListComp]
  refine wpAny_comprehension_free (use := none) rfl hs (closure_eq hfree) S.kind S.nloc (thn (hi pins s σ H _ I h) fun v s1 h1 => thn h1 fun itv s2 h2 => ?_)
  obtain ⟨it, fp, tn, J, H2, e, I2, T, st2, f2, hW⟩ := h2
  subst e
  refine comp_block (RR := fun acc C => compPost (model X.prog X.w) X.A X.xe none (EP X pins σ Q) acc C) hc S I2 T st2 f2 hifs helt hW ?_
  intro s' H' acc its D C m J2 plD va hlen fD fC hDC hn z
  obtain ⟨nD, gD⟩ := plD
  refine ⟨m, hn, fun h'' sb => ?_⟩
  have J3 : Inv X pins σ H' { s' with heap := h'' } := J2.turned (t' := s'.toks) (fun b ob hb e => (sb.2 b hb).trans e) fC.1 fC.2.1 fC.2.2.2.1 fC.2.2.2.2.1 fC.2.2.2.2.2
  exact ⟨.ref D, upd H' D (.lst acc), J3.adopt fD ⟨hlen, its, nD, va, (sb.2 D hDC).trans gD⟩, rfl, z D fD.1⟩
theorem ps_setC {i : Nat} {y : Str} {py spos : Pos} (hc : X.calm = true) (hN : X.N.Nodup) (hi' : X.N[i]? = some y) (hy : Loc X.env.scope y) (S : CompSc X.env.scope X.N scope x caps) (hi : PI X (.Name x px) iter wi)
    (hifs : ∀ C s H ex pn E, PIfs (cxComp X (x :: caps.map (·.2)) scope C s H ex pn E) ifs tc) (helt : ∀ C s H ex pn E, PE (cxComp X (x :: caps.map (·.2)) scope C s H ex pn E) elt te)
    (hsw : swapsWith (.ListComp elt [⟨.Name x px, iter, ifs, 0⟩] scope pos) (some (.Name y py)) spos.line X.env = pure true := by rfl) (hs : ∀ x, foldedSetIterable iter X.env x = pure x := by intro _; rfl)
    (hfn : X.fn y = true ∨ X.env.scope.names.lookup y = some .local := by first | exact .inl rfl | exact .inr rfl | assumption) : PS X (.Assign [.Name y py] (.ListComp elt [⟨.Name x px, iter, ifs, 0⟩] scope pos) spos) (tAsg (tComp wi caps tc te) (gName i)) := by
  intro pins s σ H D0 I h
  have hfree : ∀ y ∈ scope.names, y.2 = .free -> ∃ c, X.env.cells.lookup y.1 = some c := fun y hy e => I.ok.has y.1 (S.free y hy e)
  rw [exec_Assign_Name_used _ _ _ _ hsw]
  refine wpAny_bind (wpAny_standAt (wpAny_bind ?_))
  show wpAny _ _ (do let _ ← comprehension (.ListComp elt [⟨.Name x px, iter, ifs, 0⟩] scope pos) scope X.env _ (newList []) false (eval iter X.env) (some (assign (.Name y py) X.env))) _ _ s
  refine wpAny_bind (wpAny_mono (wpAny_comprehension_free (use := some (assign (.Name y py) X.env)) (Q := fun _ s' => SP X pins D0 .next s') rfl hs (closure_eq hfree) S.kind S.nloc
    (thn (hi pins s σ H _ I h) fun v s1 h1 => thn h1 fun itv s2 h2 => ?_)) (fun _ s' hq => wpAny_pure (wpAny_pure hq)) fun _ _ e => e)
  obtain ⟨it, fp, tn, J, H2, e, I2, T, st2, f2, hW⟩ := h2
  subst e
  refine comp_block (RR := fun acc C => compPost (model X.prog X.w) X.A X.xe (some (assign (.Name y py) X.env)) (fun _ s' => SP X pins D0 .next s') acc C) hc S I2 T st2 f2 hifs helt hW ?_
  intro s' H' acc its D C m J2 plD va hlen fD fC hDC hn z
  obtain ⟨nD, gD⟩ := plD
  have J3 : Inv X pins σ (upd H' D (.lst acc)) s' := J2.adopt fD ⟨hlen, its, nD, va, gD⟩
  show wpAny _ _ (assign (.Name y py) X.env (.ref D)) _ _ s'
  refine wpAny_assign_Name (store_ok2 J3 hN hi' hy (show RelV (.ref D) (.ref D) from rfl) (fun s4 J4 ⟨a, sa, ha⟩ => ?_) hfn)
  have hCa : C ≠ a := by
    rcases ha with q | q
    · rw [q]; exact fC.2.1
    · exact (fC.2.2.2.2.1 y a q).symm
  refine ⟨m, hn.sameBut sa hCa, fun h'' sb => ?_⟩
  exact ⟨_, _, J4.turned (t' := s4.toks) (fun b ob hb e => (sb.2 b hb).trans e) (by rw [zQ (Ne.symm hDC)]; exact fC.1) fC.2.1 fC.2.2.2.1 fC.2.2.2.2.1 fC.2.2.2.2.2, z D fD.1⟩
end
end L2
namespace L2
open PySem PySem.Spec PyProof.Rows
theorem comp_of {J : It} {cs : St} {tc : TT} {te : TE} {H1 : Hp} {Z : List V -> Hp -> Prop} (n : Nat) (Pv : Nat -> List V -> Hp -> Prop) (h0 : Pv 0 [] H1) (hd : ∀ acc H, Pv n acc H -> J.stop n H /\ Z acc H)
    (hs : ∀ i acc H, i < n -> Pv i acc H -> J.go i H /\ ∀ x H', J.yld i H x H' -> tc (some x :: cs) H' fun b H2 => if b = true then te (some x :: cs) H2 fun v H3 => acc.length < sizeLine /\ Pv (i + 1) (acc ++ [v]) H3 else Pv (i + 1) acc H2) :
    tCompW J cs tc te H1 Z := by
  refine ⟨fun i m acc H => m = n - i /\ i <= n /\ Pv i acc H, ⟨n, by simp, Nat.zero_le _, h0⟩, ?_⟩
  rintro i m acc H ⟨rfl, hi, p⟩
  by_cases hlt : i < n
  · obtain ⟨g, y⟩ := hs i acc H hlt p
    exact .inr ⟨g, Pv (i + 1), fun a H' q => ⟨n - (i + 1), by omega, rfl, hlt, q⟩, y⟩
  · have e : i = n := by omega
    subst e
    exact .inl (hd acc H p)
theorem comp_range {lo : Int} {n : Nat} {cs : St} {tc : TT} {te : TE} {H1 : Hp} {Z : List V -> Hp -> Prop} (Pv : Nat -> List V -> Hp -> Prop) (h0 : Pv 0 [] H1)
    (hs : ∀ i acc H, i < n -> Pv i acc H -> tc (some (.int (lo + i)) :: cs) H fun b H2 => if b = true then te (some (.int (lo + i)) :: cs) H2 fun v H3 => acc.length < sizeLine /\ Pv (i + 1) (acc ++ [v]) H3 else Pv (i + 1) acc H2)
    (hd : ∀ acc H, Pv n acc H -> Z acc H) : tCompW (Itr lo n) cs tc te H1 Z :=
  comp_of n Pv h0 (fun acc H p => ⟨zl3 _, hd acc H p⟩) fun i acc H hi p => ⟨hi, fun x H' y => by
    obtain ⟨e, y⟩ := y
    subst e y
    exact hs i acc _ hi p⟩
theorem yS {K : PySem.W.Frag} {a : Addr} {xs : List V} {cs : St} {tc : TT} {te : TE} {H1 : Hp} {Z : List V -> Hp -> Prop} (Pv : Nat -> List V -> Hp -> Prop) (h0 : Pv 0 [] H1) (hl : ∀ i acc H, Pv i acc H -> SqL K H a xs)
    (hs : ∀ i x acc H, xs[i]? = some x -> Pv i acc H -> tc (some x :: cs) H fun b H2 => if b = true then te (some x :: cs) H2 fun v H3 => acc.length < sizeLine /\ Pv (i + 1) (acc ++ [v]) H3 else Pv (i + 1) acc H2)
    (hd : ∀ acc H, Pv xs.length acc H -> Z acc H) : tCompW (Itl K a) cs tc te H1 Z :=
  comp_of xs.length Pv h0 (fun acc H p => ⟨⟨xs, hl _ _ _ p, Nat.le_refl _⟩, hd acc H p⟩) fun i acc H hi p => ⟨⟨xs, xs[i], hl _ _ _ p, by simp [hi]⟩, fun x H' y => by
    obtain ⟨e, y⟩ := y
    subst e
    exact hs i x acc _ (y xs (hl _ _ _ p)) p⟩
theorem comp_tup {K : PySem.W.Frag} {a : Addr} {xs : List V} {cs : St} {tc : TT} {te : TE} {H1 : Hp} {Z : List V -> Hp -> Prop} (Pv : Nat -> List V -> Hp -> Prop) (h0 : Pv 0 [] H1) (hl : ∀ i acc H, Pv i acc H -> SqT K H a xs)
    (hs : ∀ i x acc H, xs[i]? = some x -> Pv i acc H -> tc (some x :: cs) H fun b H2 => if b = true then te (some x :: cs) H2 fun v H3 => acc.length < sizeLine /\ Pv (i + 1) (acc ++ [v]) H3 else Pv (i + 1) acc H2)
    (hd : ∀ acc H, Pv xs.length acc H -> Z acc H) : tCompW (Itt K a) cs tc te H1 Z :=
  comp_of xs.length Pv h0 (fun acc H p => ⟨⟨xs, hl _ _ _ p, Nat.le_refl _⟩, hd acc H p⟩) fun i acc H hi p => ⟨⟨xs, xs[i], hl _ _ _ p, by simp [hi]⟩, fun x H' y => by
    obtain ⟨e, y⟩ := y
    subst e
    exact hs i x acc _ (y xs (hl _ _ _ p)) p⟩
section
variable {X : Cx} {tg : Expr}
end
section
variable {X : Cx}
theorem sl_str : SlR X (fun x lo hi H Q => ∃ z, x = .str z /\ z.length <= sizeLine /\ Q (.str (Txt.slice z lo hi)) H) := by
  intro pins s σ H x v vl vu lo hi sl Q I rx hs pl pu h
  obtain ⟨z, rfl, hz, q⟩ := h
  obtain ⟨t, rfl⟩ := rx
  have fin : ∀ (l u : Option (Int × Tok)), s.heap.IsSlice sl l u none -> l.map (·.1) = lo -> u.map (·.1) = hi -> wpAny (model X.prog X.w) X.A (getItem (.str z t) (.ref sl)) (EP X pins σ Q) X.xe s := fun l u h1 h2 h3 => by
    subst h2 h3
    exact wpAny_getItem_str_slice (l := l) (u := u) (st := none) h1 rfl (post_val_or_str ⟨Nat.le_trans (Txt.slice_le z _ _) hz, fun t' k => ⟨.str _, H, I.tok _, ⟨_, rfl⟩, q⟩⟩)
  refine ⟨"str", _, F.slot_str_getitem.lookup, typeIs_str _ _ _, ?_⟩
  cases pl with
  | none =>
    cases pu with
    | none => exact fin none none hs rfl rfl
    | int j uj => exact fin none (some (j, uj)) hs rfl rfl
  | int i ui =>
    cases pu with
    | none => exact fin (some (i, ui)) none hs rfl rfl
    | int j uj => exact fin (some (i, ui)) (some (j, uj)) hs rfl rfl
end
end L2
namespace L2
open PySem PySem.Spec PyProof.Rows
section
variable {X : Cx} {a b c : Expr} {ta tb : TE} {pos : Pos}
end
theorem atI_some {α : Type} {xs : List α} {i : Int} (h0 : 0 <= i) (h1 : i < (xs.length : Int)) : ∃ v ∈ xs, atI xs i = some v := by
  have hk : i.toNat < xs.length := by omega
  have e : xs[i.toNat]? = some xs[i.toNat] := zl1 hk
  refine ⟨xs[i.toNat], zl22 hk, ?_⟩
  have q := yQ e
  rw [Int.toNat_of_nonneg h0] at q
  exact q
theorem atI_int {ns : List Int} {i : Int} (h0 : 0 <= i) (h1 : i < (ns.length : Int)) : ∃ v : Int, atI (ns.map V.int) i = some (.int v) := by
  obtain ⟨v, hv, e⟩ := atI_some (xs := ns.map V.int) h0 (by rw [zl0]; exact h1)
  obtain ⟨n, _, rfl⟩ := zl19.mp hv
  exact ⟨n, e⟩
theorem zI {n : Nat} (h : n <= 1000) : n <= sizeLine := Nat.le_of_lt (zV h)
theorem mask31 (x : Int) : Builtin.bitAnd x 2147483647 = x % 2147483648 := PySem.W.kbt_mask x 31
theorem maskB (x : Int) : 0 <= Builtin.bitAnd x 2147483647 /\ Builtin.bitAnd x 2147483647 < 2147483648 := by
  rw [mask31]
  omega
end L2
namespace L2
open PySem PySem.Spec PyProof.Rows
section
variable {X : Cx} {st : Stmt} {rest : List Stmt} {t u : TS}
def tCut (t u : TS) : TS := fun D σ H => ∃ M : St -> Hp -> Prop, t { D with nx := M } σ H /\ ∀ σ' H', M σ' H' -> u D σ' H'
theorem zZ (h1 : PS X st t) (h2 : PSs X rest u) : PSs X (st :: rest) (tCut t u) := by
  intro pins s σ H D I h
  obtain ⟨M, h, hM⟩ := h
  refine wpAny_execs_cons (thn (h1 pins s σ H { D with nx := M } I h) fun f s1 q => ?_)
  cases f with
  | next =>
    obtain ⟨σ', H', I', q⟩ := q
    exact h2 pins s1 σ' H' D I' (hM σ' H' q)
  | ret v => exact q
  | brk => exact q
  | cont => exact q
end
theorem zF {H : Hp} {p : Addr} (h : H p = none) (o : HO) : Same H (upd H p o) := fun b u q => by rw [zQ (zM q h)]; exact q
end L2
namespace L2
open PySem PySem.Spec PyProof.Rows
def tCutE (t : TE) : TE := fun σ H Q => ∃ M : VK, t σ H M /\ ∀ v H', M v H' -> Q v H'
theorem pe_cut {X : Cx} {e : Expr} {t : TE} (h : PE X e t) : PE X e (tCutE t) := by
  intro pins s σ H Q I ⟨M, hM, hQ⟩
  exact thn (h pins s σ H M I hM) fun u s' ⟨v, H', I', r, m⟩ => ⟨v, H', I', r, hQ v H' m⟩
def tCutT (t : TT) : TT := fun σ H Q => ∃ M : Bool -> Hp -> Prop, t σ H M /\ ∀ b H', M b H' -> Q b H'
theorem pt_cut {X : Cx} {e : Expr} {t : TT} (h : PT X e t) : PT X e (tCutT t) := by
  intro pins s σ H Q I ⟨M, hM, hQ⟩
  exact thn (h pins s σ H M I hM) fun b s' ⟨H', I', m⟩ => ⟨H', I', hQ b H' m⟩
end L2
namespace HT
open PySem PySem.Spec PyProof.Rows
section
variable {prog : Program} {w : World} {A : Around} {E : Value -> Shared -> Prop} {s : Shared}
end
end HT
namespace L2
open PySem PySem.Spec PyProof.Rows
section
variable {X : Cx}
end
end L2
namespace L2
open PySem PySem.Spec PyProof.Rows
section
variable {κ : Type} [DecidableEq κ]
end
section
variable {P : Program} {w : World} {H : Hp} {h : Heap} {a : Addr}
end
section
variable {X : Cx} {pins : List (Addr × Obj)} {σ : St} {H : Hp} {s : Shared} {a : Addr} {y v : V} {u r : Value} {o : Option V} {A : Around} {E : Value -> Shared -> Prop}
end
section
variable {X : Cx} {pins : List (Addr × Obj)} {σ : St} {H : Hp} {s : Shared} {a : Addr} {kvs : List (Key × V)} {k : Key} {u : Value} {A : Around} {E : Value -> Shared -> Prop}
end
section
variable {X : Cx} {o i e value : Expr} {pos pos' tpos : Pos} {td ty tv : TE}
end
section
variable {X : Cx} {pos : Pos}
end
structure M1 (X : Cx) (o : Expr) (m : Str) (apos : Pos) (e : Expr) (cpos : Pos) : Prop where
  base : attributeBase o m X.env (eval o X.env) = eval o X.env
  few : ((backTo cpos (starEach [e] X.env)).all (fun x => !x.1) && (backToKw cpos (keywordEach [] X.env)).all (fun x => x.1.isSome)
    && decide (([e] : List Expr).length + ([] : List Keyword).length + (if ([] : List Keyword).isEmpty then 0 else 1) < 30)) = true
  line : (apos.endLine == cpos.line) = true
  trees : backTo cpos (starEach [e] X.env) = [(false, eval e X.env)]
structure M2 (X : Cx) (o : Expr) (m : Str) (apos : Pos) (e f : Expr) (cpos : Pos) : Prop where
  base : attributeBase o m X.env (eval o X.env) = eval o X.env
  few : ((backTo cpos (starEach [e, f] X.env)).all (fun x => !x.1) && (backToKw cpos (keywordEach [] X.env)).all (fun x => x.1.isSome)
    && decide (([e, f] : List Expr).length + ([] : List Keyword).length + (if ([] : List Keyword).isEmpty then 0 else 1) < 30)) = true
  line : (apos.endLine == cpos.line) = true
  trees : backTo cpos (starEach [e, f] X.env) = [(false, eval e X.env), (false, eval f X.env)]
section
variable {X : Cx} {pins : List (Addr × Obj)} {σ : St} {H : Hp} {s : Shared} {a : Addr} {y d : V} {u r : Value} {o : Option V} {A : Around} {E : Value -> Shared -> Prop}
end
section
variable {X : Cx} {o e f : Expr} {apos cpos : Pos} {td ty tx : TE}
end
section
variable {X : Cx} {pins : List (Addr × Obj)} {σ : St} {H : Hp} {s : Shared} {a : Addr} {kvs : List (Key × V)} {A : Around} {E : Value -> Shared -> Prop}
end
section
variable {X : Cx} {pins : List (Addr × Obj)} {σ : St} {H : Hp} {s : Shared} {a : Addr} {y : V} {u : Value} {A : Around} {E : Value -> Shared -> Prop}
end
end L2
namespace So
open PySem PyProof.Rows
set_option maxRecDepth 100000
section
variable {prog : Program} {w : World} {A : Around} {E : Value -> Shared -> Prop} {s : Shared}
theorem sorted_seq {T : String} {o : Obj} {p : Addr} {its : List Value} {ns : List Int} {n : Nat} {Q : Value -> Shared -> Prop} (hT : T = "list" ∨ T = "tuple") (ho : s.heap.get? p = some o) (hc : o.cls = .type T) (hd : o.data = .seq its.toArray n) (hI : IntsAre its ns) (h64 : its.length < 64)
    (fin : ∀ (h1 h' : Heap) (q : Addr) (out : Array Value) (rs : List Int) (e : Nat), IntsAre out.toList rs -> rs.Perm ns -> rs.Pairwise (· <= ·) -> h1.objs.size <= q -> h'.get? q = some (seqObj "list" out e) -> (∀ b o, s.heap.get? b = some o -> h1.get? b = some o) -> (∀ b o, h1.get? b = some o -> h'.get? b = some o) -> Q (.ref q) { s with heap := h' }) :
    wpAny (model prog w) A (call (.builtin "sorted") [.ref p]) Q E s := by
  refine Calls.call_function_entry kind_sorted plain_sorted entry_sorted (args_sorted1 _) ?_
  unfold Builtin.«sorted»
  refine wpAny_bind (m := checkCount "sorted" 1 1 _) (wpAny_pure ?_)
  refine wpAny_bind (wpAny_collect_seq p hT ho hc hd (fun h1 k1 => ?_) (by rw [zl5, sizeLine_eq]; omega))
  refine wpAny_bind (wpAny_newList ?_ (by show its.length <= _; rw [sizeLine_eq]; omega))
  have g1 : (h1.push (seqObj "list" its.toArray 0)).get? h1.objs.size = some (seqObj "list" its.toArray 0) := Heap.get?_push_size _ rfl
  refine wpAny_bind (wpAny_holding (wpAny_call_entry slot_list_sort ⟨_, g1, rfl⟩ entry_list_sort (list_sort_tree (s := { s with heap := h1.push (seqObj "list" its.toArray 0) }) g1 hI h64 fun out ns' a1 a2 a3 => ⟨_, rfl, ?_⟩) (args_list_sort _)))
  obtain ⟨e, he⟩ := sortedHeap_at (out := out) g1
  refine wpAny_pure ⟨_, rfl, fin h1 _ h1.objs.size out ns' e a1 a2 a3 (zl3 _) he k1 fun b ob hb => ?_⟩
  have lb : b < h1.objs.size := Heap.lt_size hb
  rw [sortedHeap_old (Nat.ne_of_lt lb) (by rw [Heap.size_push]; exact Nat.lt_succ_of_lt lb)]
  exact Heap.get?_push_of_some _ hb
theorem sorted_seq_rev {T : String} {o : Obj} {p : Addr} {its : List Value} {ns : List Int} {n : Nat} {Q : Value -> Shared -> Prop} (hT : T = "list" ∨ T = "tuple") (ho : s.heap.get? p = some o) (hc : o.cls = .type T) (hd : o.data = .seq its.toArray n) (hI : IntsAre its ns) (h64 : its.length < 64)
    (fin : ∀ (h1 h' : Heap) (q : Addr) (out : Array Value) (rs : List Int) (e : Nat), IntsAre out.toList rs -> rs.Perm ns -> rs.Pairwise (· ≥ ·) -> h1.objs.size <= q -> h'.get? q = some (seqObj "list" out e) -> (∀ b o, s.heap.get? b = some o -> h1.get? b = some o) -> (∀ b o, h1.get? b = some o -> h'.get? b = some o) -> Q (.ref q) { s with heap := h' }) :
    wpAny (model prog w) A (call (.builtin "sorted") [.ref p] [(Str.ofString "reverse", .bool true)]) Q E s := by
  refine call_function_entry_kw kind_sorted plain_sorted entry_sorted (args_sorted_rev _ _) ?_
  unfold Builtin.«sorted»
  refine wpAny_bind (m := checkCount "sorted" 1 1 _) (wpAny_pure ?_)
  refine wpAny_bind (wpAny_collect_seq p hT ho hc hd (fun h1 k1 => ?_) (by rw [zl5, sizeLine_eq]; omega))
  refine wpAny_bind (wpAny_newList ?_ (by show its.length <= _; rw [sizeLine_eq]; omega))
  have g1 : (h1.push (seqObj "list" its.toArray 0)).get? h1.objs.size = some (seqObj "list" its.toArray 0) := Heap.get?_push_size _ rfl
  refine wpAny_bind (wpAny_holding (wpAny_call_entry_kw slot_list_sort ⟨_, g1, rfl⟩ entry_list_sort (list_sort_tree_rev (b := true) (s := { s with heap := h1.push (seqObj "list" its.toArray 0) }) g1 hI h64 fun out ns' a1 a2 a3 => ⟨_, rfl, ?_⟩) (args_list_sort_rev _ _)))
  obtain ⟨e, he⟩ := sortedHeap_at (out := out) g1
  refine wpAny_pure ⟨_, rfl, fin h1 _ h1.objs.size out ns' e a1 a2 a3 (zl3 _) he k1 fun b ob hb => ?_⟩
  have lb : b < h1.objs.size := Heap.lt_size hb
  rw [sortedHeap_old (Nat.ne_of_lt lb) (by rw [Heap.size_push]; exact Nat.lt_succ_of_lt lb)]
  exact Heap.get?_push_of_some _ hb
end
end So
namespace L2
open PySem PySem.Spec PyProof.Rows
section
variable {X : Cx}
def rSorted (K : PySem.W.Frag) (le : Int -> Int -> Prop) : List V -> Hp -> VK -> Prop := fun xs H Q => ∃ (p : Addr) (ns : List Int), xs = [.ref p] /\ (SqL K H p (ns.map V.int) ∨ SqT K H p (ns.map V.int)) /\ ns.length < 64 /\ ∀ (q : Addr) (rs : List Int), H q = none -> rs.Perm ns -> rs.Pairwise le -> Q (.ref q) (upd H q (.lst (rs.map V.int)))
theorem Inv.seq_of {pins : List (Addr × Obj)} {σ : St} {H : Hp} {s : Shared} {p : Addr} {ns : List Int} (I : Inv X pins σ H s) (h : SqL X.K H p (ns.map V.int) ∨ SqT X.K H p (ns.map V.int)) :
    ∃ (T : String) (o : Obj) (its : List Value) (n : Nat), (T = "list" ∨ T = "tuple") /\ s.heap.get? p = some o /\ o.cls = .type T /\ o.data = .seq its.toArray n /\ IntsAre its ns := by
  rcases h with h | h
  · obtain ⟨its, r, pl, _⟩ := I.list h
    obtain ⟨o, ho, hc, n, hd⟩ := pl.isList
    exact ⟨"list", o, its, n, .inl rfl, ho, hc, hd, intsAre_of r⟩
  · obtain ⟨its, r, pl, _⟩ := I.tuple h
    obtain ⟨o, ho, hc, n, hd⟩ := pl
    exact ⟨"tuple", o, its, n, .inr rfl, ho, hc, hd, intsAre_of r⟩
theorem call_sorted : CallR X (.builtin "sorted") (rSorted X.K (· <= ·)) := by
  intro pins s σ H xs us Q I r h
  obtain ⟨p, ns, rfl, hq, h64, q⟩ := h
  obtain ⟨u, rfl, rx⟩ := vals1 r
  cases rx
  obtain ⟨T, o, its, n, hT, ho, hc, hd, hI⟩ := I.seq_of hq
  have hl := hI.length
  refine So.sorted_seq hT ho hc hd hI (by omega) fun h1 h' q' out rs e i1 i2 i3 i4 i5 i6 i7 => ?_
  have J : Inv X pins σ H { s with heap := h1 } := I.kept (t' := s.toks) i6
  have lr := i2.length_eq
  have i5' : h'.get? q' = some { cls := .type "list", data := .seq out.toList.toArray e } := by
    rw [i5]
  exact ⟨.ref q', _, J.laid (h' := h') (t' := s.toks) (o := .lst (rs.map V.int)) i7 i4 ⟨by rw [zl0]; exact zI (by omega), out.toList, e, vals_ints i1, i5'⟩, rfl, q q' rs (J.hok.fresh i4) i2 i3⟩
def tSortR (K : PySem.W.Frag) (t : TA) : TE := fun σ H Q => t σ H fun vs H1 => rSorted K (· ≥ ·) vs H1 Q
theorem pe_sortedR {a : Expr} {t : TA} {p1 pos kp pd : Pos} {j : Nat} (hg : Gl X "sorted") (hm : X.mg "sorted" = none) (ha : PA X [a] t) (he : starEach [a] X.env = [(false, eval a X.env)] := by rfl) :
    PE X (.Call (.Name "sorted" p1) [a] [⟨some "reverse", .Constant (.bool true) j pd, kp⟩] pos) (tSortR X.K t) := by
  intro pins s σ H Q I h
  refine wpAny_Call_Name_kw (ld_blt I hg hm PyProof.Rows.boot_sorted ?_)
  refine PyProof.Rows.callWith_kw (thn (ha pos pins s σ H _ I h) fun us s1 ⟨vs, H1, I1, r1, q1⟩ => ?_) (by rw [he]; rfl) (by rw [he]; rfl) rfl rfl
  refine PyProof.Rows.kws_cons (wpAny_Constant_bool (PyProof.Rows.kws_nil ?_))
  obtain ⟨p, ns, rfl, hq, h64, q⟩ := q1
  obtain ⟨u, rfl, rx⟩ := vals1 r1
  cases rx
  obtain ⟨T, o, its, n, hT, ho, hc, hd, hI⟩ := I1.seq_of hq
  have hl := hI.length
  refine So.sorted_seq_rev hT ho hc hd hI (by omega) fun h1 h' q' out rs e i1 i2 i3 i4 i5 i6 i7 => ?_
  have J : Inv X pins σ H1 { s1 with heap := h1 } := I1.kept (t' := s1.toks) i6
  have lr := i2.length_eq
  have i5' : h'.get? q' = some { cls := .type "list", data := .seq out.toList.toArray e } := by
    rw [i5]
  exact ⟨.ref q', _, J.laid (h' := h') (t' := s1.toks) (o := .lst (rs.map V.int)) i7 i4 ⟨by rw [zl0]; exact zI (by omega), out.toList, e, vals_ints i1, i5'⟩, rfl, q q' rs (J.hok.fresh i4) i2 i3⟩
end
theorem rise_unique : ∀ (a b : List Nat), a.Pairwise (· < ·) -> b.Pairwise (· < ·) -> (∀ k, k ∈ a ↔ k ∈ b) -> a = b
  | [], [], _, _, _ => rfl
  | [], y :: b, _, _, h => absurd ((h y).mpr List.mem_cons_self) (by simp)
  | x :: a, [], _, _, h => absurd ((h x).mp List.mem_cons_self) (by simp)
  | x :: a, y :: b, ha, hb, h => by
    obtain ⟨a1, a2⟩ := List.pairwise_cons.mp ha
    obtain ⟨b1, b2⟩ := List.pairwise_cons.mp hb
    have e : x = y := by
      have h1 := (h x).mp List.mem_cons_self
      have h2 := (h y).mpr List.mem_cons_self
      rcases zl16.mp h1 with e | h1
      · exact e
      · rcases zl16.mp h2 with e | h2
        · exact e.symm
        · have := a1 y h2
          have := b1 x h1
          omega
    subst e
    congr 1
    refine rise_unique a b a2 b2 fun k => ?_
    have hk := h k
    rw [zl16, zl16] at hk
    constructor
    · intro z
      rcases hk.mp (.inr z) with e | z'
      · subst e
        have := a1 k z
        omega
      · exact z'
    · intro z
      rcases hk.mpr (.inr z) with e | z'
      · subst e
        have := b1 k z
        omega
      · exact z'
theorem map_toNat : ∀ os : List Nat, os.map (Int.toNat ∘ fun j : Nat => (j : Int)) = os
  | [] => rfl
  | x :: l => by
    rw [List.map_cons, map_toNat l]
    rfl
theorem perm_nats {rs : List Int} {os : List Nat} (h : rs.Perm (os.map fun j : Nat => (j : Int))) : ∃ ms : List Nat, rs = ms.map (fun j : Nat => (j : Int)) /\ ms.Perm os := by
  refine ⟨rs.map Int.toNat, ?_, ?_⟩
  · rw [List.map_map]
    have : ∀ x ∈ rs, ((fun j : Nat => (j : Int)) ∘ Int.toNat) x = x := fun x hx => by
      obtain ⟨o, _, rfl⟩ := zl19.mp (h.mem_iff.mp hx)
      rfl
    rw [List.map_congr_left this, List.map_id']
  · have := h.map Int.toNat
    rw [List.map_map] at this
    rw [map_toNat] at this
    exact this
theorem nats_ints (os : List Nat) : (os.map fun j : Nat => V.int (j : Int)) = (os.map fun j : Nat => (j : Int)).map V.int := by
  rw [List.map_map]
  rfl
theorem sorted_rise {rs : List Int} {os : List Nat} (h : rs.Perm (os.map fun j : Nat => (j : Int))) (hs : rs.Pairwise (· <= ·)) (hn : os.Nodup) : ∃ ms : List Nat, rs = ms.map (fun j : Nat => (j : Int)) /\ ms.Pairwise (· < ·) /\ ms.Perm os := by
  obtain ⟨ms, rfl, hp⟩ := perm_nats h
  refine ⟨ms, rfl, ?_, hp⟩
  have nd : ms.Nodup := hp.nodup_iff.mpr hn
  rw [List.pairwise_map] at hs
  exact (hs.and nd).imp fun ⟨h1, h2⟩ => by omega
theorem sorted_fall {rs : List Int} {os : List Nat} (h : rs.Perm (os.map fun j : Nat => (j : Int))) (hs : rs.Pairwise (· ≥ ·)) (hn : os.Pairwise (· < ·)) : rs = os.reverse.map (fun j : Nat => (j : Int)) := by
  obtain ⟨ms, rfl, hp⟩ := perm_nats h
  congr 1
  have nd : ms.Nodup := hp.nodup_iff.mpr (hn.imp fun z => Nat.ne_of_lt z)
  rw [List.pairwise_map] at hs
  have hm : ms.reverse.Pairwise (· < ·) := by
    rw [List.pairwise_reverse]
    exact (hs.and nd).imp fun ⟨h1, h2⟩ => by omega
  have e := rise_unique ms.reverse os hm hn fun k => by rw [List.mem_reverse]; exact hp.mem_iff
  rw [<- e, List.reverse_reverse]
end L2
namespace So
open PySem PyProof.Rows
set_option maxRecDepth 100000
section
variable {prog : Program} {w : World} {A : Around} {E : Value -> Shared -> Prop} {s : Shared} {a : Addr}
end
end So
namespace L2
open PySem PySem.Spec PyProof.Rows
section
variable {X : Cx}
end
end L2
namespace PySem
open Sem (wp)
open AutoSeq1 (wpAny_loadPart')
set_option maxRecDepth 100000
section
variable {prog : Program} {w : World} {A : Around} {E : Value -> Shared -> Prop} {s : Shared}
end
end PySem
namespace L2
open PySem PySem.Spec PyProof.Rows
section
variable {X : Cx} {pins : List (Addr × Obj)} {σ : St} {H : Hp} {s : Shared} {h' : Heap}
end
section
variable {X : Cx} {es : List Expr} {k : Nat} {tpos : Pos}
end
end L2
namespace L2
open PySem
def conE : Expr -> Option V
  | .Constant (.int i) _ _ => some (.int i)
  | .Constant (.str z) _ _ => some (.str z)
  | .UnaryOp .USub (.Constant (.int i) _ _) _ => some (.int (-i))
  | _ => none
def conEs : List Expr -> Option (List V)
  | [] => some []
  | e :: es => match conE e, conEs es with
    | some v, some vs => some (v :: vs)
    | _, _ => none
section
variable {X : Cx}
theorem con_ok {e : Expr} {v : V} (h : conE e = some v) : PE X e (fun _ H Q => Q v H) /\ ∀ es, starEach (e :: es) X.env = (false, eval e X.env) :: starEach es X.env := by
  unfold conE at h
  split at h
  · cases h
    exact ⟨zB, fun _ => rfl⟩
  · cases h
    exact ⟨zP, fun _ => rfl⟩
  · cases h
    refine ⟨fun pins s σ H Q I h => ?_, fun _ => rfl⟩
    exact (pe_un un_neg zB) pins s σ H Q I ⟨_, rfl, h⟩
  · cases h
theorem pa_consts : ∀ {es : List Expr} {vs : List V}, conEs es = some vs -> PA X es (fun _ H Q => Q vs H)
  | [], vs, h => by
    cases h
    exact zD
  | e :: es, vs, h => by
    unfold conEs at h
    split at h
    · rename_i v vs' h1 h2
      cases h
      obtain ⟨a, b⟩ := con_ok (X := X) h1
      exact zA a (pa_consts h2) (b es)
    · cases h
end
structure RE (X : Cx) (e : Expr) (t : TE) : Prop where
  p : PE X e t
structure RS (X : Cx) (st : Stmt) (t : TS) : Prop where
  p : PS X st t
structure RSs (X : Cx) (st : List Stmt) (t : TS) : Prop where
  p : PSs X st t
structure RA (X : Cx) (es : List Expr) (t : TA) : Prop where
  p : PA X es t
section
variable {X : Cx} {e a b c : Expr} {es : List Expr} {te ta tb : TE} {tc : TT} {tr : TA} {pos : Pos} {st : Stmt} {ss rest : List Stmt} {t u : TS}
theorem r_one (h : RS X st t) : RSs X [st] t := ⟨zG h.p⟩
theorem r_cons (h : RS X st t) (h2 : RSs X rest u) : RSs X (st :: rest) (tSeq t u) := ⟨zE h.p h2.p⟩
theorem r_cut (h : RS X st t) (h2 : RSs X rest u) : RSs X (st :: rest) (tCut t u) := ⟨zZ h.p h2.p⟩
theorem r_st (h : PS X st t) : RS X st t := ⟨h⟩
theorem r_set {i : Nat} {x : Str} {pos' : Pos} (hN : X.N.Nodup) (hi : X.N[i]? = some x) (hx : Loc X.env.scope x) (he : RE X e te) (hs : swapsWith e (some (.Name x pos')) pos.line X.env = pure false := by rfl) (hf : X.fn x = true ∨ X.env.scope.names.lookup x = some .local := by first | exact .inl rfl | exact .inr rfl | assumption) : RS X (.Assign [.Name x pos'] e pos) (tAsg te (gName i)) := ⟨zK hN hi hx he.p hs hf⟩
theorem r_ixL (ha : RE X a ta) (hb : PE X b tb) (hs : PlainIx b) : RE X (.Subscript a b pos) (tOp (rIxL X.K) ta tb) := ⟨yB yU ha.p hb hs⟩
theorem r_lst (h : RA X es tr) : RE X (.List es pos) (tLst tr) := ⟨yK h.p⟩
theorem ra_con {vs : List V} (h : conEs es = some vs) : RA X es (fun _ H Q => Q vs H) := ⟨pa_consts h⟩
end
end L2
namespace L2
open PySem PySem.Spec PyProof.Rows
section
variable {X : Cx}
theorem range_any (n : Nat) (f : Nat -> Bool) (bs : List Bool) (hl : bs.length = n) (hf : ∀ i b, bs[i]? = some b -> f i = b) : (List.range n).any f = bs.any id := by
  rw [Bool.eq_iff_iff, List.any_eq_true, List.any_eq_true]
  constructor
  · rintro ⟨i, hi, h⟩
    have hi' : i < bs.length := by rw [hl]; exact List.mem_range.mp hi
    rw [hf i _ (zl1 hi')] at h
    exact ⟨_, zl22 hi', h⟩
  · rintro ⟨b, hb, h⟩
    obtain ⟨i, e⟩ := List.mem_iff_getElem?.mp hb
    have hi := (zl4.mp e).1
    exact ⟨i, List.mem_range.mpr (by omega), by rw [hf i b e]; exact h⟩
theorem call_anyB (hc : X.calm = true) : CallR X (.builtin "any") (fun xs H Q => ∃ (p : Addr) (bs : List Bool), xs = [.ref p] /\ SqL X.K H p (bs.map V.bl) /\ Q (.bl (bs.any id)) H) := by
  intro pins s σ H xs us Q I r h
  obtain ⟨p, bs, rfl, hq, q⟩ := h
  obtain ⟨u, rfl, rx⟩ := vals1 r
  cases rx
  obtain ⟨its, rv, pl, hz⟩ := I.list hq
  have hlen := rv.length
  rw [zl0] at hlen
  have hlt : p < s.heap.objs.size := by
    obtain ⟨o, ho, _⟩ := pl.isList
    exact Heap.lt_size ho
  refine call_any_walk (wpAny_pyIter_list pl.isList ?_)
  refine ⟨s.heap.objs.size, [s.heap.objs.size, p], [s.heap.objs.size], its.toArray.size, fun i v => its.toArray[i]? = some v, fun i h => h.IsListIter s.heap.objs.size p i /\ h.IsList p its.toArray, fun i => (bs[i]?).getD true, rfl,
    Walks.list (A := X.A.in1) (I.ok.hd hc) _ _ (Nat.ne_of_lt hlt) _, ⟨⟨_, Heap.get?_push_size _ rfl, rfl, rfl⟩, pl.isList.at fun o e => Heap.get?_push_of_some _ e⟩, ?_, ?_⟩
  · intro i v s' Q' E' hv hQ'
    have hi : i < bs.length := by
      have := (Array.getElem?_eq_some_iff.mp hv).1
      simp only [List.size_toArray] at this
      omega
    have e : bs[i]? = some bs[i] := zl1 hi
    obtain ⟨u, hu, ru⟩ := rv.get (i := i) (x := V.bl bs[i]) (by rw [zl20, e]; rfl)
    have hv' : its[i]? = some v := by simpa using hv
    rw [hu] at hv'
    cases hv'
    cases ru
    have hQ2 : Q' ((bs[i]?).getD true) s' := hQ'
    rw [e] at hQ2
    exact wpAny_truthy_bool hQ2
  · intro h' tk k
    refine ⟨.bl (bs.any id), H, I.kept (t' := tk) (h' := h') fun b u e => k b u (fun z => ?_) (Heap.get?_push_of_some _ e), ?_, q⟩
    · have z' : b = s.heap.objs.size := by simpa using z
      exact absurd (Heap.lt_size e) (by rw [z']; exact Nat.lt_irrefl _)
    · show Value.bool _ = Value.bool _
      rw [range_any its.toArray.size _ bs (by simp only [List.size_toArray]; exact hlen) fun i b e => by rw [e]; rfl]
end
end L2
namespace L2
open PySem PySem.Spec PyProof.Rows
section
variable {X : Cx}
end
end L2
namespace L2
open PySem PySem.Spec PyProof.Rows
def Itd (top : Int) (n : Nat) : It := ⟨fun i _ => i < n, fun i H x H' => H' = H /\ x = .int (top - i), fun i _ => n <= i⟩
theorem turn_down {P : Program} {w : World} {K : PySem.W.Frag} {tg : Expr} (it : Addr) (top : Int) (n : Nat) : Turn P w K tg (Itd top n) [it] it (fun i h => IsRangeIter h it (top + (i : Nat) * (-1)) ((n : Int) - (i : Nat)) (-1)) where
  mem := by simp
  obj := fun i h st b hb => by
    obtain rfl : b = it := by simpa using hb
    refine ⟨_, st, fun v z => ?_⟩
    have z2 : Data.fields _ = Data.cell v := z
    cases z2
  keep := fun i h h' st k => k it (by simp) _ st
  item := by
    intro X hP hw hK hc i pins s σ H E I hf st hg
    subst hP hw hK
    obtain ⟨f0, f1, _, f3, f4, f5⟩ := hf it (by simp)
    refine (Walks.range (prog := X.prog) (w := X.w) (I.ok.hd hc) it top (-1) n).item i s _ _ hg st fun v h' tk hv st' kk => ?_
    obtain ⟨t, rfl⟩ := hv
    have I1 : Inv X pins σ H { s with heap := h', toks := tk } := I.turned (fun b o hb e => kk b o (by simpa using hb) e) f0 f1 f3 f4 f5
    have ev : top + (i : Int) * (-1) = top - i := by omega
    refine ⟨_, rfl, go_of (s := { s with heap := h', toks := tk }) (n := "range_iterator") st' rfl rfl (by decide) ⟨.int (top - i), H, I1, ⟨t, by rw [<- ev]⟩, ⟨rfl, rfl⟩, st', fun b hb => (hf b hb).1⟩⟩
  done := by
    intro X hP hw hK hc i pins s σ H E I hf st hg
    subst hP hw hK
    obtain ⟨f0, f1, _, f3, f4, f5⟩ := hf it (by simp)
    have hn : n <= i := hg
    exact wpAny_pyNext_range_end (I.ok.hd hc) st (by omega) fun h' eb => ⟨rfl, I.turned (t' := s.toks) (fun b o hb e => eb b o hb e) f0 f1 f3 f4 f5⟩
  self := fun _ _ _ _ _ st h => wpAny_pyIter_rangeiter st h
section
variable {X : Cx} {tg : Expr}
theorem down_it {pins : List (Addr × Obj)} {σ : St} {H : Hp} {s : Shared} {R : It -> Hp -> Prop} {E : Value -> Shared -> Prop} {x y : Int} {t u v : Tok} {tk : Nat} (I : Inv X pins σ H s) (h1 : -(2 ^ 62) <= x) (h2 : x < 2 ^ 62) (h3 : -(2 ^ 62) <= y) (h4 : y < 2 ^ 62)
    (q : R (Itd x (x - y).toNat) H) : wpAny (model X.prog X.w) X.A (pyIter (.ref s.heap.objs.size)) (PIE X pins σ tg R) E { s with heap := s.heap.push { cls := .type "range", data := .fields #[.int x t, .int y u, .int (-1) v] }, toks := tk } := by
  refine wpAny_pyIter_range (IsRange.new ..) (PySem.W.small_down h1 h2 h3 h4) ?_
  have I1 : Inv X pins σ H { s with heap := s.heap.push { cls := .type "range", data := .fields #[.int x t, .int y u, .int (-1) v] }, toks := tk } := I.kept fun b o e => Heap.get?_push_of_some _ e
  refine ⟨(s.heap.push { cls := .type "range", data := .fields #[.int x t, .int y u, .int (-1) v] }).objs.size, [(s.heap.push { cls := .type "range", data := .fields #[.int x t, .int y u, .int (-1) v] }).objs.size], _, _, H, rfl,
    I1.kept (t' := tk) fun b o e => Heap.get?_push_of_some _ e, turn_down _ x (x - y).toNat, ?_, fun b hb => ?_, q⟩
  · have e1 : x + ((0 : Nat) : Int) * (-1) = x := by simp
    have e2 : (((x - y).toNat : Nat) : Int) - ((0 : Nat) : Int) = Builtin.Range.rangeSize x y (-1) := by rw [PySem.W.rangeSize_downNat]; simp
    show IsRangeIter _ _ (x + ((0 : Nat) : Int) * (-1)) ((((x - y).toNat : Nat) : Int) - ((0 : Nat) : Int)) (-1)
    rw [e1, e2]
    exact Heap.get?_push_size _ rfl
  · obtain rfl : b = (s.heap.push { cls := .type "range", data := .fields #[.int x t, .int y u, .int (-1) v] }).objs.size := by simpa using hb
    exact I1.fpOk (zl3 _) (I1.hok.fresh (zl3 _))
def iDown (ta : TA) : TI := fun σ H R => ta σ H fun vs H1 => ∃ i : Int, vs = [.int i, .int (-1), .int (-1)] /\ -1 <= i /\ i < 2 ^ 62 /\ R (Itd i (i - (-1)).toNat) H1
theorem pi_down {a b c : Expr} {ta : TA} {p pos : Pos} (hg : Gl X "range") (hm : X.mg "range" = none) (ha : PA X [a, b, c] ta) (hs : starEach [a, b, c] X.env = [(false, eval a X.env), (false, eval b X.env), (false, eval c X.env)] := by rfl) (hs2 : starEach [b, c] X.env = [(false, eval b X.env), (false, eval c X.env)] := by rfl) :
    PI X tg (.Call (.Name "range" p) [a, b, c] [] pos) (iDown ta) := by
  intro pins s σ H R I h
  refine Call_ (ld_blt I hg hm boot_range (PyProof.Rows.callWith_type1 (thn (ha pos pins s σ H _ I h) fun us s1 ⟨vs, H1, I1, r1, q1⟩ => ?_) (by rw [hs, hs2]) (by rw [hs2]; rfl)))
  obtain ⟨i, e, q1, q2, q⟩ := q1
  subst e
  cases r1 with
  | cons r rr =>
    cases rr with
    | cons r' rr =>
      cases rr with
      | cons r2 rr =>
        cases rr
        obtain ⟨t, rfl⟩ := r
        obtain ⟨t', rfl⟩ := r'
        obtain ⟨t2, rfl⟩ := r2
        exact call_range_3 (by decide) (down_it I1 (by omega) q2 (by decide) (by decide) q) (.inl (PyProof.noPylong_small (by decide)))
end
theorem for_down {top : Int} {n : Nat} {g : TG} {tb : TS} {D : Ends} {σ : St} {H : Hp} (Pv : Nat -> St -> Hp -> Prop) (h0 : Pv 0 σ H)
    (hs : ∀ i σ H, i < n -> Pv i σ H -> g (.int (top - i)) σ H fun σ2 H2 => tb { D with nx := Pv (i + 1), ct := Pv (i + 1), bk := D.nx } σ2 H2) (hd : ∀ σ H, Pv n σ H -> D.nx σ H) :
    ∃ W : Nat -> Nat -> St -> Hp -> Prop, (∃ m, W 0 m σ H) /\ ∀ i m σ H, W i m σ H →
      ((Itd top n).stop i H /\ D.nx σ H) ∨ ((Itd top n).go i H /\ ∃ N : St -> Hp -> Prop, (∀ σ' H', N σ' H' -> ∃ m', m' < m /\ W (i + 1) m' σ' H') /\ ∀ x H', (Itd top n).yld i H x H' -> g x σ H' fun σ2 H2 => tb { D with nx := N, ct := N, bk := D.nx } σ2 H2) := by
  refine ⟨fun i m σ H => m + i = n /\ Pv i σ H, ⟨n, rfl, h0⟩, ?_⟩
  rintro i m σ H ⟨hm, p⟩
  by_cases hlt : i < n
  · refine .inr ⟨hlt, Pv (i + 1), fun σ' H' p' => ⟨m - 1, by omega, by omega, p'⟩, fun x H' y => ?_⟩
    obtain ⟨rfl, rfl⟩ := y
    exact hs i σ _ hlt p
  · obtain rfl : i = n := by omega
    exact .inl ⟨zl3 _, hd σ H p⟩
end L2
namespace L2
open PySem PySem.Spec PyProof.Rows
section
variable {X : Cx}
end
end L2
namespace L2
open PySem PySem.Spec PyProof.Rows
theorem best_asc {ns : List Int} (h : ns.Pairwise (· < ·)) : ∀ k, k < ns.length -> argBest (fun i j => decide (ns.getD i 0 > ns.getD j 0)) k = k
  | 0, _ => rfl
  | k + 1, hk => by
    have ih := best_asc h k (by omega)
    show (if decide (ns.getD (k + 1) 0 > ns.getD (argBest _ k) 0) = true then k + 1 else argBest _ k) = k + 1
    rw [ih]
    have q := List.pairwise_iff_getElem.mp h k (k + 1) (by omega) hk (by omega)
    rw [if_pos]
    rw [zl11, zl11, zl1 hk, zl1 (show k < ns.length by omega)]
    simp only [Option.getD_some, decide_eq_true_iff]
    omega
section
variable {X : Cx}
theorem call_maxR (hc : X.calm = true) : CallR X (.builtin "max") (fun xs H Q => ∃ (p : Addr) (ns : List Int), xs = [.ref p] /\ SqL X.K H p (ns.map V.int) /\ ns ≠ [] /\ ns.Pairwise (· < ·) /\ Q (.int (ns.getD (ns.length - 1) 0)) H) := by
  intro pins s σ H xs us Q I r h
  obtain ⟨p, ns, rfl, hq, hne, hdesc, q⟩ := h
  obtain ⟨u, rfl, rx⟩ := vals1 r
  cases rx
  obtain ⟨its, rv, pl, _⟩ := I.list hq
  have hI : IntsAre its.toArray.toList ns := intsAre_of rv
  have hl : its.toArray.size = ns.length := by
    have := hI.length
    simpa using this
  have h0 : 0 < ns.length := by
    cases ns with
    | nil => exact absurd rfl hne
    | cons _ _ => simp
  have hlt : p < s.heap.objs.size := by
    obtain ⟨o, ho, _⟩ := pl.isList
    exact Heap.lt_size ho
  have vals : ∀ (i : Nat) (v : Value), its.toArray[i]? = some v -> ∃ t, v = .int (ns.getD i 0) t := fun i v hv => IntsAre.int_at hI i v (by rw [Array.getElem?_toList]; exact hv)
  refine call_max_walk (wpAny_pyIter_list pl.isList ?_)
  refine ⟨s.heap.objs.size, [s.heap.objs.size, p], [s.heap.objs.size], its.toArray.size, fun i v => its.toArray[i]? = some v, fun i h => h.IsListIter s.heap.objs.size p i /\ h.IsList p its.toArray, fun i j => decide (ns.getD i 0 > ns.getD j 0), rfl, Walks.list (A := X.A.in1) (I.ok.hd hc) _ _ (Nat.ne_of_lt hlt) _,
    ⟨⟨_, Heap.get?_push_size _ rfl, rfl, rfl⟩, pl.isList.push _⟩, fun b hb => ?_, by omega, CmpOf.ints_gt (fun i => ns.getD i 0) vals, fun v h' tk hP k => ?_⟩
  · show b < (s.heap.push _).objs.size
    rw [Heap.size_push]
    rcases zl16.mp hb with rfl | hb
    · exact Nat.lt_succ_self _
    · rw [zl10.mp hb]
      exact Nat.lt_succ_of_lt hlt
  · rw [hl, best_asc hdesc _ (by omega)] at hP
    obtain ⟨t, rfl⟩ := vals (ns.length - 1) v hP
    refine ⟨.int (ns.getD (ns.length - 1) 0), H, I.kept (t' := tk) (h' := h') fun b o e => k b o (fun z => ?_) (Heap.get?_push_of_some _ e), ⟨t, rfl⟩, q⟩
    have z' : b = s.heap.objs.size := by simpa using z
    exact absurd (Heap.lt_size e) (by rw [z']; exact Nat.lt_irrefl _)
end
end L2
namespace PySem
open Sem (wp)
namespace Rv
section
variable {prog : Program} {w : World} {A : Around} {E : Value -> Shared -> Prop} {s : Shared} {I : Addr} {fp wr : List Addr} {G : Array GenState -> Array GenState -> Prop} {n : Nat} {P : Nat -> Value -> Prop} {St : Nat -> Shared -> Prop}
end
end Rv
end PySem
namespace L2
open PySem PySem.Spec PyProof.Rows
section
variable {X : Cx}
theorem op_catT0 : OpR X (binaryOp .Add) (fun x y H Q => ∃ (a b : Addr) (ys : List V), x = .ref a /\ y = .ref b /\ SqT X.K H a [] /\ SqT X.K H b ys /\ Q (.ref b) H) := by
  intro pins s σ H x y v u Q I rx ry h
  obtain ⟨a, b, ys, rfl, rfl, ha, hb, q⟩ := h
  cases rx
  cases ry
  obtain ⟨its, r1, p1, _⟩ := I.tuple ha
  obtain ⟨its2, r2, p2, _⟩ := I.tuple hb
  have e0 : its = [] := r1.nil_iff.mpr rfl
  subst e0
  obtain ⟨⟨cls, dd, data, sl⟩, ho, hc, n, hd⟩ := id p1
  obtain ⟨⟨cls2, dd2, data2, sl2⟩, ho2, hc2, n2, hd2⟩ := id p2
  simp only at hc hd hc2 hd2
  subst hc hd hc2 hd2
  exact concat_meets ⟨_, ho, rfl⟩ ⟨_, ho2, rfl⟩ noFill_tuple_add seq_tuple_add PySem.F.slot_tuple_add PySem.F.entry_tuple_add (PySem.F.args_tuple_add_2 _ _) (tuple_addW0 a b _ _ n n2 dd dd2 sl sl2 (by simp)) ⟨ho, ho2, ⟨.ref b, H, I, rfl, q⟩⟩
end
end L2
namespace PySem
open Sem (wp)
open AutoSeq1 (wpAny_loadPart')
namespace Rt
set_option maxRecDepth 100000
theorem look_next : typeLookup (.type "reversed") (Str.ofString "__next__") = pure (some (.builtin "reversed.__next__")) := by
  rw [typeLookup_type, builtinLookup_eq_fast]; kernel_rfl
theorem slot_next : Slot "reversed" (Str.ofString "__next__") "reversed.__next__" :=
  Slot.of (owner := "reversed") (n := "__next__") look_next (by decide +kernel) (by decide +kernel) (by decide +kernel) (Or.inl (by decide +kernel)) F.sub_reversed_self
theorem slot_init : Slot "reversed" (Str.ofString "__init__") "object.__init__" :=
  Slot.of (owner := "object") (n := "__init__") (by rw [typeLookup_type, builtinLookup_eq_fast]; kernel_rfl) (by decide +kernel) (by decide +kernel) (by decide +kernel) (Or.inl (by decide +kernel)) (by rw [isSubtype_type]; kernel_rfl)
theorem called : TypeCalled "reversed" "reversed.__new__" "object.__init__" := ⟨by decide, F.create_reversed, ⟨_, _, F.mro_reversed⟩, F.made_reversed, F.plain_reversed_new, F.sub_reversed_self, slot_init⟩
theorem no_rev : typeLookup (.type "tuple") (Str.ofString "__reversed__") = pure none := by
  rw [typeLookup_type, builtinLookup_eq_fast]; kernel_rfl
theorem entry_next : entryFor table "reversed.__next__" = some Builtin.«reversed.__next__» := entryFor_of_tree (by kernel_rfl)
def IsRT (h : Heap) (it t : Addr) (i : Int) : Prop := ∃ o, h.get? it = some o /\ o.cls = .type "reversed" /\ o.data = .fields #[.ref t, rawInt i]
theorem IsRT.typeIs {s : Shared} {it t : Addr} {i : Int} (h : IsRT s.heap it t i) : s.TypeIs (.ref it) "reversed" := by
  obtain ⟨o, a, b, _⟩ := h
  exact ⟨o, a, b⟩
theorem owner_rev : List.lookup (String.ofList ['d', 'e', 's', 'r', 'e', 'v', 'e', 'r'].reverse) Manifest.owners = some Manifest.sig_reversed := by kernel_rfl
theorem args_next (a : Value) : argsOk "reversed.__next__" { pos := [a] } := by
  unfold argsOk
  rw [signature?_of (n := ['_', '_', 't', 'x', 'e', 'n', '_', '_']) (o := ['d', 'e', 's', 'r', 'e', 'v', 'e', 'r']) (by kernel_rfl) owner_rev]
  kernel_rfl
section
variable {prog : Program} {w : World} {A : Around} {E : Value -> Shared -> Prop} {s : Shared}
theorem next_item {it t : Addr} {i : Nat} {items : Array Value} {x : Value} {Q : Option Value -> Shared -> Prop} (hi : IsRT s.heap it t (i : Int)) (ht : s.heap.IsTuple t items) (hT : PyProof.Rows.IsTup s.heap t items) (hx : items[i]? = some x) (h63 : (i : Int) < 2 ^ 63) (hs : seqIndex? (i : Int) items.size = some i)
    (hQ : ∀ h', IsRT h' it t ((i : Int) - 1) -> Heap.SameBut it s.heap h' -> Q (some x) { s with heap := h', toks := s.toks + 1 }) : wpAny (model prog w) A (pyNext (.ref it)) Q E s := by
  have hty := hi.typeIs
  obtain ⟨o, ho, hc, hd⟩ := id hi
  obtain ⟨ot, got, gct, nt, gdt⟩ := id ht
  unfold pyNext
  refine wpAny_bind (wpAny_attempt (wpAny_callSpecial?_slot (name := Str.ofString "__next__") hty slot_next (wpAny_call_entry slot_next hty entry_next ?_ (args_next _))))
  unfold Builtin.«reversed.__next__»
  refine wpAny_bind (wpAny_of_eq rfl ?_)
  show wpAny _ _ (field (.ref it) 0 >>= _) _ _ s
  refine wpAny_bind (wpAny_field ho hd (x := .ref t) rfl ?_)
  refine wpAny_bind (wpAny_field ho hd (x := rawInt (i : Int)) rfl ?_)
  show wpAny _ _ (if (i : Int) < 0 then _ else _) _ _ s
  rw [if_neg (by omega)]
  refine wpAny_bind (wpAny_specialOf (T := "tuple") ⟨ot, got, gct⟩ F.slot_tuple_getitem.lookup ?_)
  show wpAny _ _ (if (some (Value.builtin "tuple.__getitem__")).isNone = true then _ else _) _ _ s
  rw [if_neg (by decide)]
  refine wpAny_bind (wpAny_mkInt ?_)
  refine wpAny_bind (wpAny_attempt (PyProof.Rows.getItem_tuple (s := { s with toks := s.toks + 1 }) hT (by omega) h63 hs hx ?_))
  show wpAny _ _ (field (.ref it) 1 >>= _) _ _ _
  refine wpAny_bind (wpAny_field (s := { s with toks := s.toks + 1 }) ho hd (x := rawInt (i : Int)) rfl ?_)
  refine wpAny_bind (wpAny_setField (s := { s with toks := s.toks + 1 }) ho hd (by simp) (wpAny_pure ⟨x, rfl, wpAny_pure (hQ _ ?_ (Heap.SameBut.update ..))⟩))
  exact ⟨_, Heap.get?_update_self _ ho (Obj.isFreed_of_fields (Obj.data_mapFields hd _)), (Obj.cls_mapFields ..).trans hc, by rw [Obj.data_mapFields hd]; simp [rawInt]⟩
theorem next_end {it t : Addr} {Q : Option Value -> Shared -> Prop} (hh : A.handled = none) (hi : IsRT s.heap it t (-1)) (hQ : ∀ h', Heap.ExtBut it s.heap h' -> Q none { s with heap := h' }) : wpAny (model prog w) A (pyNext (.ref it)) Q E s := by
  have hty := hi.typeIs
  obtain ⟨o, ho, hc, hd⟩ := id hi
  unfold pyNext
  refine wpAny_bind (wpAny_attempt (wpAny_callSpecial?_slot (name := Str.ofString "__next__") hty slot_next (wpAny_call_entry slot_next hty entry_next ?_ (args_next _))))
  unfold Builtin.«reversed.__next__»
  refine wpAny_bind (wpAny_of_eq rfl ?_)
  show wpAny _ _ (field (.ref it) 0 >>= _) _ _ s
  refine wpAny_bind (wpAny_field ho hd (x := .ref t) rfl ?_)
  refine wpAny_bind (wpAny_field ho hd (x := rawInt (-1)) rfl ?_)
  show wpAny _ _ (if (-1 : Int) < 0 then _ else _) _ _ s
  rw [if_pos (by decide)]
  refine wpAny_bind (wpAny_rule ?_)
  refine wpAny_bind ?_
  show wpAny _ _ (setField (.ref it) 1 (rawInt (-1)) >>= fun _ => setField (.ref it) 0 .none) _ _ _
  refine wpAny_bind (wpAny_setField ho hd (by simp) ?_)
  refine wpAny_setField (Heap.get?_update_self _ ho (Obj.isFreed_of_fields (Obj.data_mapFields hd _))) (Obj.data_mapFields hd _) (by simp) ?_
  refine wpAny_bind ?_
  unfold Builtin.SmallTypes.stopIteration
  show wpAny _ _ (newExc (.type "StopIteration") [] >>= _) _ _ _
  refine wpAny_bind ?_
  simp only [newExc, newTuple]
  refine (wpAny_bind (wpAny_newObj_type ?_ (by size_fits)))
  refine (wpAny_bind (m := firstArgMember _ _) (wpAny_of_eq (a := Value.none) (by first | rfl | (simp only [firstArgMember]; rfl)) ?_))
  refine (wpAny_newObj_type ?_ (by size_fits))
  simp only [raiseNew]
  refine wpAny_bind (wpAny_handled ?_)
  (first | rw [show A.in1.handled = none from hh] | rw [hh])
  refine (wpAny_bind (wpAny_pure (wpAny_throw ?_)))
  refine wpAny_bind (wpAny_isInstance (T := "StopIteration") (b := true) ⟨_, Heap.get?_push_size _ rfl, rfl⟩ isSubtype_stop ?_)
  refine wpAny_pure (hQ _ fun b o hb e => ?_)
  exact (((Heap.SameBut.update ..).extBut.push _).push _) b o hb ((Heap.SameBut.update ..).extBut b o hb e)
def rtObj (t : Addr) (i : Int) : Obj := { cls := .type "reversed", data := .fields #[.ref t, rawInt i] }
theorem code_new {t : Addr} {items : Array Value} {Q₁ : Value -> Shared -> Prop} (ht : s.heap.IsTuple t items) (hT : PyProof.Rows.IsTup s.heap t items) (hz : (items.size : Int) < 2 ^ 63)
    (hq : Q₁ (.ref s.heap.objs.size) { s with heap := s.heap.push (rtObj t ((items.size : Int) - 1)), toks := s.toks + 1 + 1 }) :
    codeAny (model prog w) A (.call (.builtin "reversed.__new__") ⟨[.type "reversed", .ref t], []⟩) (wants Q₁ E) s := by
  obtain ⟨ot, got, gct, nt, gdt⟩ := id ht
  have hty : s.TypeIs (.ref t) "tuple" := ⟨ot, got, gct⟩
  refine codeAny_of_tree ?_
  show wpAny _ A.in1 (do checkBuiltinCall "reversed.__new__" ⟨[.type "reversed", .ref t], []⟩; again (.builtin "reversed.__new__" ⟨[.type "reversed", .ref t], []⟩)) _ _ s
  refine wpAny_bind (wpAny_of_eq (F.newCall_reversed_1 _) (wpAny_pure ⟨plainId_quiet F.plain_reversed_new _, codeAny_builtin F.entry_reversed_new ?_⟩)); rw [Around.under_plainId F.plain_reversed_new _]
  have a1 := F.sub_reversed_self
  wp_walk using wpAny_specialOf hty no_rev
  refine wpAny_of_eq (a := false) (by rw [isSubtype_type]; kernel_rfl) ?_
  rw [if_neg (by decide)]
  refine wpAny_bind (wpAny_specialOf hty F.slot_tuple_getitem.lookup ?_)
  show wpAny _ _ (if (["tuple.__getitem__", "str.__getitem__", "bytes.__getitem__", "bytearray.__getitem__", "memoryview.__getitem__", "numpy.ndarray.__getitem__", "sqlite3.Row.__getitem__"].contains "tuple.__getitem__") = true then _ else _) _ _ s
  rw [if_pos (by decide)]
  refine wpAny_pure ?_
  show wpAny _ _ (if (!true) = true then _ else _) _ _ s
  rw [if_neg (by decide)]
  refine wpAny_bind (PyProof.Rows.len_tuple hT hz ?_)
  refine wpAny_bind (wpAny_of_eq rfl ?_)
  show wpAny _ _ (newObj (.type "reversed") (.fields #[.ref t, rawInt ((items.size : Int) - 1)]) >>= _) _ _ _
  refine wpAny_bind (wpAny_newObj_type ?_)
  exact wpAny_pure hq
theorem call_rev {t : Addr} {items : Array Value} {Q : Value -> Shared -> Prop} (ht : s.heap.IsTuple t items) (hT : PyProof.Rows.IsTup s.heap t items) (hz : (items.size : Int) < 2 ^ 63)
    (hQ : Q (.ref s.heap.objs.size) { s with heap := s.heap.push (rtObj t ((items.size : Int) - 1)), toks := s.toks + 1 + 1 }) : wpAny (model prog w) A (call (.type "reversed") [.ref t]) Q E s := by
  refine callType_codes (Q₁ := fun obj s₁ => s₁.TypeIs obj "reversed" /\ Q obj s₁) called (F.typeCall_reversed_1 _) F.entry_object_init (code_new ht hT hz ⟨⟨_, Heap.get?_push_size _ rfl, rfl⟩, hQ⟩) fun obj s₁ h₁ => ?_
  exact ⟨h₁.1, F.args_object_init_2 obj _, object_init_meets called.init.lookup called.made (by decide) prog w A.in1 _ s₁ ⟨h₁.1, rfl, h₁.2⟩⟩
theorem slot_iter : Slot "reversed" (Str.ofString "__iter__") "reversed.__iter__" :=
  Slot.of (owner := "reversed") (n := "__iter__") (by rw [typeLookup_type, builtinLookup_eq_fast]; kernel_rfl) (by decide +kernel) (by decide +kernel) (by decide +kernel) (Or.inl (by decide +kernel)) F.sub_reversed_self
theorem entry_iter : entryFor table "reversed.__iter__" = some Builtin.«dict_keyiterator.__iter__» :=
  entryFor_alias (id' := "dict_keyiterator.__iter__") (by kernel_rfl) (by kernel_rfl) (by decide +kernel) (by kernel_rfl)
theorem args_iter (a : Value) : argsOk "reversed.__iter__" { pos := [a] } := by
  unfold argsOk
  rw [signature?_of (n := ['_', '_', 'r', 'e', 't', 'i', '_', '_']) (o := ['d', 'e', 's', 'r', 'e', 'v', 'e', 'r']) (by kernel_rfl) owner_rev]
  kernel_rfl
theorem self_iter {it t : Addr} {i : Int} {Q : Value -> Shared -> Prop} (h : IsRT s.heap it t i) (q : Q (.ref it) s) : wpAny (model prog w) A (pyIter (.ref it)) Q E s :=
  wpAny_pyIter_slot h.typeIs slot_iter (wpAny_call_entry slot_iter h.typeIs entry_iter (wpAny_pure ⟨_, rfl, _, _, h.typeIs, look_next, q⟩) (args_iter _))
end
end Rt
end PySem
namespace L2
open PySem PySem.Spec PyProof.Rows
def Itv (K : PySem.W.Frag) (a : Addr) (n : Nat) : It :=
  ⟨fun i H => ∃ xs, SqT K H a xs /\ xs.length = n /\ i < n, fun i H v H' => H' = H /\ ∀ xs, SqT K H a xs -> xs[n - 1 - i]? = some v, fun i H => n <= i⟩
theorem turn_rev {P : Program} {w : World} {K : PySem.W.Frag} {tg : Expr} (a it : Addr) (n : Nat) : Turn P w K tg (Itv K a n) [it] it (fun i h => i <= n /\ Rt.IsRT h it a ((n : Int) - 1 - (i : Int))) where
  mem := by simp
  obj := fun i h st b hb => by
    have e : b = it := by simpa using hb
    subst e
    obtain ⟨_, o, e, c, d⟩ := st
    exact ⟨o, e, fun v z => by rw [d] at z; cases z⟩
  keep := fun i h h' st k => by
    obtain ⟨l, o, e, c, d⟩ := st
    exact ⟨l, o, k it (by simp) o e, c, d⟩
  item := by
    intro X hP hw hK hc i pins s σ H E I hf st hg
    subst hP hw hK
    obtain ⟨xs, hq, hl, hi⟩ := hg
    obtain ⟨its, rv, p, hz⟩ := I.tuple hq
    have hlen := rv.length
    have hx := zl1 (show n - 1 - i < xs.length by omega)
    obtain ⟨u, hu, ru⟩ := rv.get hx
    obtain ⟨f0, f1, f2, f3, f4, f5⟩ := hf it (by simp)
    have ei : ((n : Int) - 1 - (i : Int)) = ((n - 1 - i : Nat) : Int) := by omega
    have st2 := st.2
    rw [ei] at st2
    have h63 := line63
    refine Rt.next_item st2 (show s.heap.IsTuple a its.toArray from p) p (x := u) (by simpa using hu) (by omega) ?_ fun h' st' sb => ?_
    · have hz2 : its.toArray.size = n := by simp only [List.size_toArray]; omega
      rw [hz2]
      unfold seqIndex?
      simp
      omega
    have I1 : Inv X pins σ H { s with heap := h', toks := s.toks + 1 } := I.turned (t' := s.toks + 1) (fun b o hb e => (sb.2 b hb).trans e) f0 f1 f3 f4 f5
    obtain ⟨o, e, c, d⟩ := id st'
    refine ⟨u, rfl, go_of (s := { s with heap := h', toks := s.toks + 1 }) e c d (by decide) ⟨_, H, I1, ru, ⟨rfl, fun ys hy => by rw [I.tuple_inj hy hq]; exact hx⟩, ⟨by omega, ?_⟩, fun b hb => (hf b hb).1⟩⟩
    rw [show (n : Int) - 1 - ((i + 1 : Nat) : Int) = ((n - 1 - i : Nat) : Int) - 1 by omega]
    exact st'
  done := by
    intro X hP hw hK hc i pins s σ H E I hf st hg
    subst hP hw hK
    have hg : n <= i := hg
    obtain ⟨f0, f1, f2, f3, f4, f5⟩ := hf it (by simp)
    have st2 := st.2
    have st1 := st.1
    rw [show (n : Int) - 1 - (i : Int) = -1 by omega] at st2
    exact Rt.next_end (I.ok.hd hc) st2 fun h' eb => ⟨rfl, I.turned (t' := s.toks) (fun b o hb e => eb b o hb e) f0 f1 f3 f4 f5⟩
  self := fun _ _ _ _ _ st h => Rt.self_iter st.2 h
section
variable {X : Cx} {tg : Expr}
def iRev (K : PySem.W.Frag) (ta : TA) : TI := fun σ H R => ta σ H fun vs H1 => ∃ (a : Addr) (xs : List V), vs = [.ref a] /\ SqT K H1 a xs /\ R (Itv K a xs.length) H1
theorem pi_rev {l : Expr} {ta : TA} {p pos : Pos} (hg : Gl X "reversed") (hm : X.mg "reversed" = none) (ha : PA X [l] ta) (hs : starEach [l] X.env = [(false, eval l X.env)] := by rfl) : PI X tg (.Call (.Name "reversed" p) [l] [] pos) (iRev X.K ta) := by
  intro pins s σ H R I h
  refine Call_ (ld_blt I hg hm PyProof.Rows.boot_reversed (PyProof.Rows.callWith_type1 (thn (ha pos pins s σ H _ I h) fun us s1 ⟨vs, H1, I1, r1, q1⟩ => ?_) hs rfl))
  obtain ⟨a, xs, e, hq, q⟩ := q1
  subst e
  cases r1 with
  | cons r rr =>
    cases rr
    cases r
    obtain ⟨its, rv, p, hz⟩ := I1.tuple hq
    have hl := rv.length
    have h63 := line63
    refine Rt.call_rev (show s1.heap.IsTuple a its.toArray from p) p (by simp only [List.size_toArray]; omega) ?_
    have st : Rt.IsRT (s1.heap.push (Rt.rtObj a ((its.toArray.size : Int) - 1))) s1.heap.objs.size a ((its.toArray.size : Int) - 1) := ⟨_, Heap.get?_push_size _ rfl, rfl, rfl⟩
    refine Rt.self_iter (s := { s1 with heap := s1.heap.push (Rt.rtObj a ((its.toArray.size : Int) - 1)), toks := s1.toks + 1 + 1 }) st ?_
    have I2 : Inv X pins σ H1 { s1 with heap := s1.heap.push (Rt.rtObj a ((its.toArray.size : Int) - 1)), toks := s1.toks + 1 + 1 } := I1.kept (t' := s1.toks + 1 + 1) fun b o e => Heap.get?_push_of_some _ e
    refine ⟨s1.heap.objs.size, [s1.heap.objs.size], _, _, H1, rfl, I2, turn_rev a _ xs.length, ⟨Nat.zero_le _, ?_⟩, fun b hb => ?_, q⟩
    · have e : ((its.toArray.size : Int) - 1) = (xs.length : Int) - 1 - ((0 : Nat) : Int) := by simp only [List.size_toArray]; omega
      rw [<- e]
      exact st
    · rw [zl10.mp hb]
      exact I1.fpOk (zl3 _) (I1.hok.fresh (zl3 _))
end
end L2
namespace L2
open PySem
section
variable {X : Cx}
theorem eqV_self {x : V} (h : flatV x = true) : eqV x x = true := by
  cases x with
  | non => rfl
  | bl b => exact beq_self_eq_true b
  | int b => exact beq_self_eq_true b
  | str b => exact beq_self_eq_true b
  | _ => exact absurd (show false = true from h) zl6
theorem eqAt_two {A : Around} {s : Shared} : ∀ {xs : List V} {us vs : List Value}, Vals xs us -> Vals xs vs -> xs.all flatV = true -> ∀ (j : Nat) (h1 : j < us.length) (h2 : j < vs.length), SeqAt.EqAt A s us[j] vs[j] true
  | _, _, _, .nil, .nil, _, j, h1, _ => absurd h1 (Nat.not_lt_zero _)
  | x :: xs, u :: us, v :: vs, .cons r t, .cons r' t', f, j, h1, h2 => by
    rw [List.all_cons, Bool.and_eq_true] at f
    cases j with
    | zero =>
      have := eqAt_V (A := A) (s := s) r r' f.1 f.1
      rw [eqV_self f.1] at this
      exact this
    | succ j => exact eqAt_two t t' f.2 j (Nat.lt_of_succ_lt_succ h1) (Nat.lt_of_succ_lt_succ h2)
theorem op_neT (hu : X.A.units < cLine) : OpR X (compareOp .NotEq) (fun x y H Q => ∃ a b xs, x = .ref a /\ y = .ref b /\ SqT X.K H a xs /\ SqT X.K H b xs /\ xs.all flatV = true /\ Q (.bl false) H) := by
  intro pins s σ H x y v u Q I rx ry h
  obtain ⟨a, b, xs, rfl, rfl, ha, hb, f, q⟩ := h
  cases rx
  cases ry
  obtain ⟨its, r1, p1, _⟩ := I.tuple ha
  obtain ⟨its2, r2, p2, _⟩ := I.tuple hb
  have l1 := r1.length
  have l2 := r2.length
  refine SeqAt.RcNeAt.tuples (e := fun _ => true) p1 p2 hu (fun j h1 h2 => ?_) X.prog X.w X.xe _ ?_
  · have := eqAt_two (A := X.A.in1) (s := s) r1 r2 f j (by simpa using h1) (by simpa using h2)
    simpa using this
  · have e : (!((List.range (min its.toArray.size its2.toArray.size)).all (fun _ => true) && its.toArray.size == its2.toArray.size)) = false := by
      rw [zl5, zl5, <- l1, <- l2]
      simp
    rw [e]
    exact ⟨.bl false, H, I, rfl, q⟩
end
end L2
namespace L2
open PySem
section
variable {X : Cx}
theorem op_neL (hu : X.A.units < cLine) : OpR X (compareOp .NotEq) (fun x y H Q => ∃ a b xs, x = .ref a /\ y = .ref b /\ SqL X.K H a xs /\ SqL X.K H b xs /\ xs.all flatV = true /\ Q (.bl false) H) := by
  intro pins s σ H x y v u Q I rx ry h
  obtain ⟨a, b, xs, rfl, rfl, ha, hb, f, q⟩ := h
  cases rx
  cases ry
  obtain ⟨its, r1, p1, _⟩ := I.list ha
  obtain ⟨its2, r2, p2, _⟩ := I.list hb
  have l1 := r1.length
  have l2 := r2.length
  refine SeqAt.RcNeAt.lists (e := fun _ => true) p1.isList p2.isList (by rw [zl5, zl5, <- l1, <- l2]) hu (fun j h1 h2 => ?_) X.prog X.w X.xe _ ?_
  · have := eqAt_two (A := X.A.in1) (s := s) r1 r2 f j (by simpa using h1) (by simpa using h2)
    simpa using this
  · have e : (!(List.range its.toArray.size).all (fun _ => true)) = false := by simp
    rw [e]
    exact ⟨.bl false, H, I, rfl, q⟩
end
end L2
namespace L2
open PySem
section
variable {X : Cx}
theorem op_eqL (hu : X.A.units < cLine) : OpR X (compareOp .Eq) (fun x y H Q => ∃ a b xs, x = .ref a /\ y = .ref b /\ SqL X.K H a xs /\ SqL X.K H b xs /\ xs.all flatV = true /\ Q (.bl true) H) := by
  intro pins s σ H x y v u Q I rx ry h
  obtain ⟨a, b, xs, rfl, rfl, ha, hb, f, q⟩ := h
  cases rx
  cases ry
  obtain ⟨its, r1, p1, _⟩ := I.list ha
  obtain ⟨its2, r2, p2, _⟩ := I.list hb
  have l1 := r1.length
  have l2 := r2.length
  refine SeqAt.RcAt.lists (e := fun _ => true) p1.isList p2.isList (by rw [zl5, zl5, <- l1, <- l2]) hu (fun j h1 h2 => ?_) X.prog X.w X.xe _ ?_
  · have := eqAt_two (A := X.A.in1) (s := s) r1 r2 f j (by simpa using h1) (by simpa using h2)
    simpa using this
  · have e : (List.range its.toArray.size).all (fun _ => true) = true := by simp
    rw [e]
    exact ⟨.bl true, H, I, rfl, q⟩
end
end L2
namespace Tr
def parGo (ds : List Int) (d : Int) : Nat -> Option Nat
  | 0 => none
  | j + 1 => if ds.getD j 0 < d then some j else parGo ds d j
def par (ds : List Int) (k : Nat) : Option Nat := parGo ds (ds.getD k 0) k
theorem parGo_some {ds : List Int} {d : Int} : ∀ {k j : Nat}, j < k -> ds.getD j 0 < d -> (∀ i, j < i -> i < k -> d <= ds.getD i 0) -> parGo ds d k = some j
  | 0, j, h, _, _ => by omega
  | k + 1, j, h, hd, ha => by
    unfold parGo
    by_cases e : j = k
    · subst e
      rw [if_pos hd]
    · have := ha k (by omega) (by omega)
      rw [if_neg (by omega)]
      exact parGo_some (by omega) hd fun i h1 h2 => ha i h1 (by omega)
theorem parGo_none {ds : List Int} {d : Int} : ∀ {k : Nat}, (∀ i, i < k -> d <= ds.getD i 0) -> parGo ds d k = none
  | 0, _ => rfl
  | k + 1, h => by
    unfold parGo
    have := h k (by omega)
    rw [if_neg (by omega)]
    exact parGo_none fun i hi => h i (by omega)
theorem parGo_lt {ds : List Int} {d : Int} : ∀ {k j : Nat}, parGo ds d k = some j -> j < k /\ ds.getD j 0 < d /\ ∀ i, j < i -> i < k -> d <= ds.getD i 0
  | 0, j, h => by cases h
  | k + 1, j, h => by
    unfold parGo at h
    split at h
    · cases h
      exact ⟨by omega, by assumption, fun i h1 h2 => by omega⟩
    · rename_i hn
      obtain ⟨a, b, c⟩ := parGo_lt h
      refine ⟨by omega, b, fun i h1 h2 => ?_⟩
      by_cases e : i = k
      · subst e
        omega
      · exact c i h1 (by omega)
theorem par_lt {ds : List Int} {k j : Nat} (h : par ds k = some j) : j < k := (parGo_lt h).1
structure Good (ds : List Int) : Prop where
  pos : 0 < ds.length
  first : ds.getD 0 0 = 0
  next : ∀ k, k + 1 < ds.length -> 1 <= ds.getD (k + 1) 0 /\ ds.getD (k + 1) 0 <= ds.getD k 0 + 1
theorem Good.nonneg {ds : List Int} (g : Good ds) : ∀ k, k < ds.length -> 0 <= ds.getD k 0
  | 0, _ => by rw [g.first]; exact Int.le_refl _
  | k + 1, h => by have := g.next k h; omega
theorem Good.snoc {ds : List Int} {v : Int} (g : Good ds) (h1 : 1 <= v) (h2 : v <= ds.getD (ds.length - 1) 0 + 1) : Good (ds ++ [v]) := by
  have hp := g.pos
  have old : ∀ k, k < ds.length -> (ds ++ [v]).getD k 0 = ds.getD k 0 := fun k hk => by
    rw [zl11, zl11, List.getElem?_append_left hk]
  have new : (ds ++ [v]).getD ds.length 0 = v := by
    rw [zl11, List.getElem?_append_right (zl3 _)]
    simp
  refine ⟨by simp, by rw [old 0 hp]; exact g.first, fun k hk => ?_⟩
  rw [zl2, zl15] at hk
  by_cases e : k + 1 < ds.length
  · rw [old _ e, old k (by omega)]
    exact g.next k e
  · have e' : k + 1 = ds.length := by omega
    rw [old k (by omega), e', new, show k = ds.length - 1 by omega]
    exact ⟨h1, h2⟩
theorem Good.one : Good [0] := ⟨by decide, rfl, fun k h => by simp at h⟩
structure Above (ds : List Int) (k : Nat) (s : List Nat) : Prop where
  len : (s.length : Int) = ds.getD k 0 + 1
  top : s[(ds.getD k 0).toNat]? = some k
  le : ∀ (i v : Nat), s[i]? = some v -> v <= k /\ ds.getD v 0 = (i : Int) /\ ∀ j, v < j -> j <= k -> (i : Int) < ds.getD j 0
def kidsTo (ds : List Int) (r n : Nat) : List Nat := (List.range n).filter fun j => par ds j == some r
def kids (ds : List Int) (r : Nat) : List Nat := kidsTo ds r ds.length
theorem kidsTo_succ (ds : List Int) (r n : Nat) : kidsTo ds r (n + 1) = kidsTo ds r n ++ if par ds n == some r then [n] else [] := by
  unfold kidsTo
  rw [List.range_succ, List.filter_append]
  congr 1
  rw [List.filter_cons]
  simp
theorem kidsTo_len (ds : List Int) (r n : Nat) : (kidsTo ds r n).length <= n := by
  unfold kidsTo
  refine Nat.le_trans (zl21 _ _) ?_
  simp
def upF (ds : List Int) : Nat -> Nat -> List Nat
  | 0, _ => []
  | f + 1, k => match par ds k with
    | none => []
    | some j => j :: upF ds f j
def ups (ds : List Int) (k : Nat) : List Nat := upF ds k k
theorem upF_more (ds : List Int) : ∀ (f k : Nat), k <= f -> upF ds f k = upF ds k k
  | f, 0, _ => by
    cases f with
    | zero => rfl
    | succ f => rfl
  | 0, k + 1, h => by omega
  | f + 1, k + 1, h => by
    show (match par ds (k + 1) with | none => [] | some j => j :: upF ds f j) = (match par ds (k + 1) with | none => [] | some j => j :: upF ds k j)
    cases e : par ds (k + 1) with
    | none => rfl
    | some j =>
      have hj := par_lt e
      show j :: upF ds f j = j :: upF ds k j
      rw [upF_more ds f j (by omega), upF_more ds k j (by omega)]
theorem ups_none {ds : List Int} {k : Nat} (h : par ds k = none) : ups ds k = [] := by
  unfold ups
  cases k with
  | zero => rfl
  | succ k =>
    show (match par ds (k + 1) with | none => [] | some j => j :: upF ds k j) = []
    rw [h]
theorem ups_some {ds : List Int} {k j : Nat} (h : par ds k = some j) : ups ds k = j :: ups ds j := by
  have hj := par_lt h
  unfold ups
  cases k with
  | zero => omega
  | succ k =>
    show (match par ds (k + 1) with | none => [] | some j => j :: upF ds k j) = _
    rw [h]
    show j :: upF ds k j = _
    rw [upF_more ds k j (by omega)]
theorem ups_lt {ds : List Int} : ∀ {k v : Nat}, v ∈ ups ds k -> v < k := by
  intro k
  induction k using Nat.strongRecOn with
  | ind k ih =>
    intro v hv
    cases e : par ds k with
    | none =>
      rw [ups_none e] at hv
      cases hv
    | some j =>
      have hj := par_lt e
      rw [ups_some e] at hv
      rcases zl16.mp hv with rfl | h
      · exact hj
      · have := ih j hj h
        omega
theorem ups_desc (ds : List Int) : ∀ k : Nat, (ups ds k).Pairwise (· > ·) := by
  intro k
  induction k using Nat.strongRecOn with
  | ind k ih =>
    cases e : par ds k with
    | none =>
      rw [ups_none e]
      exact .nil
    | some j =>
      rw [ups_some e]
      exact List.pairwise_cons.mpr ⟨fun v hv => ups_lt hv, ih j (par_lt e)⟩
def hall (ds : List Int) (isOne : Nat -> Bool) (a b : Nat) : Option Nat := (ups ds a).find? fun x => (ups ds b).contains x && isOne x
def liesIn (ds : List Int) (a b : Nat) : Bool := (ups ds a).contains b
theorem liesIn_none {ds : List Int} {a b : Nat} (h : par ds a = none) : liesIn ds a b = false := by
  unfold liesIn
  rw [ups_none h]
  rfl
theorem liesIn_some {ds : List Int} {a b j : Nat} (h : par ds a = some j) : liesIn ds a b = (j == b || liesIn ds j b) := by
  unfold liesIn
  rw [ups_some h, List.contains_cons]
  congr 1
  exact Bool.eq_iff_iff.mpr ⟨fun z => by simpa using (eq_of_beq z).symm, fun z => by simpa using (eq_of_beq z).symm⟩
end Tr
namespace Tr
structure EndOf (ds : List Int) (k e : Nat) : Prop where
  lt : k < e
  le : e <= ds.length
  ins : ∀ j, k < j -> j < e -> ds.getD k 0 < ds.getD j 0
  out : e < ds.length -> ds.getD e 0 <= ds.getD k 0
theorem parGo_no {ds : List Int} {d : Int} : ∀ {k : Nat}, parGo ds d k = none -> ∀ i, i < k -> d <= ds.getD i 0
  | 0, _, i, h => by omega
  | k + 1, e, i, h => by
    unfold parGo at e
    split at e
    · cases e
    · rename_i hn
      by_cases q : i = k
      · subst q
        omega
      · exact parGo_no e i (by omega)
theorem par_iff {ds : List Int} {k j : Nat} : par ds j = some k ↔ k < j /\ ds.getD k 0 < ds.getD j 0 /\ ∀ i, k < i -> i < j -> ds.getD j 0 <= ds.getD i 0 :=
  ⟨fun h => parGo_lt h, fun ⟨a, b, c⟩ => parGo_some a b c⟩
theorem mem_ups {ds : List Int} : ∀ (a b : Nat), b ∈ ups ds a ↔ b < a /\ ∀ j, b < j -> j <= a -> ds.getD b 0 < ds.getD j 0 := by
  intro a
  induction a using Nat.strongRecOn with
  | ind a ih =>
    intro b
    cases e : par ds a with
    | none =>
      rw [ups_none e]
      refine ⟨fun z => (by cases z), fun ⟨h1, h2⟩ => ?_⟩
      have := parGo_no e b h1
      have := h2 a h1 (zl3 _)
      omega
    | some p =>
      obtain ⟨hp, hd, ha⟩ := par_iff.mp e
      rw [ups_some e, zl16, ih p hp b]
      constructor
      · rintro (rfl | ⟨h1, h2⟩)
        · refine ⟨hp, fun j j1 j2 => ?_⟩
          by_cases q : j = a
          · rw [q]
            exact hd
          · have := ha j j1 (by omega)
            omega
        · refine ⟨by omega, fun j j1 j2 => ?_⟩
          by_cases q : j <= p
          · exact h2 j j1 q
          · have z := h2 p h1 (zl3 _)
            by_cases q2 : j = a
            · rw [q2]
              omega
            · have := ha j (by omega) (by omega)
              omega
      · rintro ⟨h1, h2⟩
        by_cases q : b = p
        · exact .inl q
        · right
          have z := h2 a h1 (zl3 _)
          by_cases q2 : p < b
          · have := ha b q2 h1
            omega
          · exact ⟨by omega, fun j j1 j2 => h2 j j1 (by omega)⟩
theorem lies_end {ds : List Int} {a b e : Nat} (h : EndOf ds b e) (ha : a < ds.length) : liesIn ds a b = (decide (b < a) && decide (a < e)) := by
  unfold liesIn
  rw [Bool.eq_iff_iff, List.contains_iff_mem, mem_ups, Bool.and_eq_true, decide_eq_true_iff, decide_eq_true_iff]
  constructor
  · rintro ⟨h1, h2⟩
    refine ⟨h1, ?_⟩
    by_cases q : a < e
    · exact q
    · have := h2 e h.lt (by omega)
      have := h.out (by omega)
      omega
  · rintro ⟨h1, h2⟩
    exact ⟨h1, fun j j1 j2 => h.ins j j1 (by omega)⟩
theorem par_end {ds : List Int} (g : Good ds) {j k e : Nat} (h : EndOf ds k e) (hj : j < ds.length) : (par ds j = some k) ↔ (k < j /\ j < e /\ ds.getD j 0 = ds.getD k 0 + 1) := by
  rw [par_iff]
  constructor
  · rintro ⟨h1, h2, h3⟩
    refine ⟨h1, ?_, ?_⟩
    · by_cases q : j < e
      · exact q
      · have := h.out (by have := h.lt; omega)
        by_cases q2 : j = e
        · subst q2
          omega
        · have := h3 e h.lt (by omega)
          omega
    · have n := g.next k (by omega)
      by_cases q : j = k + 1
      · subst q
        omega
      · have := h3 (k + 1) (by omega) (by omega)
        omega
  · rintro ⟨h1, h2, h3⟩
    refine ⟨h1, by omega, fun i i1 i2 => ?_⟩
    have := h.ins i i1 (by omega)
    omega
theorem kidsTo_low (ds : List Int) (k : Nat) : ∀ n, n <= k + 1 -> kidsTo ds k n = []
  | 0, _ => rfl
  | n + 1, h => by
    rw [kidsTo_succ, kidsTo_low ds k n (by omega), if_neg]
    · rfl
    · intro z
      have := par_lt (eq_of_beq z)
      omega
theorem kidsTo_high {ds : List Int} (g : Good ds) {k e : Nat} (h : EndOf ds k e) : ∀ n, e + n <= ds.length -> kidsTo ds k (e + n) = kidsTo ds k e
  | 0, _ => rfl
  | n + 1, hn => by
    rw [show e + (n + 1) = (e + n) + 1 by omega, kidsTo_succ, kidsTo_high g h n (by omega), if_neg, zl17]
    intro z
    have := (par_end g h (by omega)).mp (eq_of_beq z)
    omega
theorem kids_end {ds : List Int} (g : Good ds) {k e : Nat} (h : EndOf ds k e) : kids ds k = kidsTo ds k e := by
  have q := kidsTo_high g h (ds.length - e) (by have := h.le; omega)
  rw [show e + (ds.length - e) = ds.length by have := h.le; omega] at q
  exact q
end Tr
namespace Tr
def bears (ds : List Int) (gs : List Nat) (k : Nat) : Bool := gs.any fun g => g == k || liesIn ds g k
def next (ds : List Int) (al : Nat -> Bool) (gs : List Nat) (p : Nat) : List Nat :=
  if al p = true then kids ds p else match (kids ds p).find? (bears ds gs) with
    | some k => [k]
    | none => (kids ds p).take 1
inductive Gone (ds : List Int) (al : Nat -> Bool) (gs : List Nat) (un : Option Nat) : Nat -> Prop where
  | top : un = none -> Gone ds al gs un 0
  | root {p k : Nat} : k ∈ next ds al gs p -> un = some p -> Gone ds al gs un k
  | low {p k : Nat} : k ∈ next ds al gs p -> Gone ds al gs un p -> Gone ds al gs un k
theorem Gone.kid {ds : List Int} {al : Nat -> Bool} {gs : List Nat} {un : Option Nat} {p k : Nat} (h : k ∈ next ds al gs p) (h' : un = some p ∨ Gone ds al gs un p) : Gone ds al gs un k := by
  rcases h' with e | g
  · exact .root h e
  · exact .low h g
theorem mem_kids {ds : List Int} {r k : Nat} : k ∈ kids ds r ↔ k < ds.length /\ par ds k = some r := by
  unfold kids kidsTo
  rw [zl23, List.mem_range]
  exact ⟨fun ⟨a, b⟩ => ⟨a, eq_of_beq b⟩, fun ⟨a, b⟩ => ⟨a, by rw [b]; exact beq_self_eq_true _⟩⟩
theorem kids_rise (ds : List Int) (p : Nat) : (kids ds p).Pairwise (· < ·) := by
  unfold kids kidsTo
  exact List.pairwise_lt_range.filter _
theorem next_sub {ds : List Int} {al : Nat -> Bool} {gs : List Nat} {p k : Nat} (h : k ∈ next ds al gs p) : k ∈ kids ds p := by
  unfold next at h
  split at h
  · exact h
  · split at h
    · rename_i k' e
      rw [zl10.mp h]
      exact List.mem_of_find?_eq_some e
    · exact List.mem_of_mem_take h
theorem next_par {ds : List Int} {al : Nat -> Bool} {gs : List Nat} {p k : Nat} (h : k ∈ next ds al gs p) : par ds k = some p := (mem_kids.mp (next_sub h)).2
theorem next_lt {ds : List Int} {al : Nat -> Bool} {gs : List Nat} {p k : Nat} (h : k ∈ next ds al gs p) : k < ds.length := (mem_kids.mp (next_sub h)).1
theorem next_rise (ds : List Int) (al : Nat -> Bool) (gs : List Nat) (p : Nat) : (next ds al gs p).Pairwise (· < ·) := by
  unfold next
  split
  · exact kids_rise ds p
  · split
    · exact List.pairwise_singleton _ _
    · exact (kids_rise ds p).sublist (List.take_sublist _ _)
theorem Gone.lt {ds : List Int} {al : Nat -> Bool} {gs : List Nat} {un : Option Nat} {k : Nat} (pos : 0 < ds.length) (h : Gone ds al gs un k) : k < ds.length := by
  cases h with
  | top => exact pos
  | root h _ => exact next_lt h
  | low h _ => exact next_lt h
theorem Gone.over {ds : List Int} {al : Nat -> Bool} {gs : List Nat} {un : Option Nat} {k : Nat} (h : Gone ds al gs un k) : ∀ u, un = some u -> u < k := by
  induction h with
  | top e => intro u e'; rw [e] at e'; cases e'
  | root h hp =>
    intro u e
    rw [e] at hp
    cases hp
    exact par_lt (next_par h)
  | low h _ ih =>
    intro u e
    have := par_lt (next_par h)
    have := ih u e
    omega
theorem Gone.iff {ds : List Int} {al : Nat -> Bool} {gs : List Nat} {un : Option Nat} {k p : Nat} (h : par ds k = some p) : Gone ds al gs un k ↔ k ∈ next ds al gs p /\ (un = some p ∨ Gone ds al gs un p) := by
  constructor
  · intro g
    cases g with
    | top => cases h
    | root hk hp =>
      have e := next_par hk
      rw [h] at e
      cases e
      exact ⟨hk, .inl hp⟩
    | low hk hp =>
      have e := next_par hk
      rw [h] at e
      cases e
      exact ⟨hk, .inr hp⟩
  · rintro ⟨a, b⟩
    exact .kid a b
theorem Gone.zero {ds : List Int} {al : Nat -> Bool} {gs : List Nat} {un : Option Nat} : Gone ds al gs un 0 ↔ un = none := by
  constructor
  · intro g
    cases un with
    | none => rfl
    | some u => exact absurd (g.over u rfl) (Nat.not_lt_zero _)
  · exact .top
theorem Good.par_some {ds : List Int} (g : Good ds) {k : Nat} (h0 : 0 < k) (h : k < ds.length) : ∃ p, par ds k = some p := by
  cases e : par ds k with
  | some p => exact ⟨p, rfl⟩
  | none =>
    have a := parGo_no e 0 h0
    rw [g.first] at a
    have b := g.next (k - 1) (by omega)
    rw [show k - 1 + 1 = k by omega] at b
    omega
structure Work (ds : List Int) (al : Nat -> Bool) (gs : List Nat) (un : Option Nat) (gone ahead : List Nat) : Prop where
  nd : (gone ++ ahead).Nodup
  ok : ∀ x ∈ gone ++ ahead, Gone ds al gs un x
  fr : ∀ x ∈ gone ++ ahead, par ds x = un ∨ ∃ g ∈ gone, par ds x = some g
  st : un = none -> 0 ∈ gone ++ ahead
  su : ∀ u, un = some u -> ∀ x ∈ next ds al gs u, x ∈ gone ++ ahead
  cl : ∀ g ∈ gone, ∀ x ∈ next ds al gs g, x ∈ gone ++ ahead
theorem nodup_rise {l : List Nat} (h : l.Pairwise (· < ·)) : l.Nodup := h.imp fun z => Nat.ne_of_lt z
theorem Work.none (ds : List Int) (al : Nat -> Bool) (gs : List Nat) : Work ds al gs none [] [0] :=
  ⟨by simp, fun x hx => by rw [List.mem_singleton.mp hx]; exact .top rfl, fun x hx => by rw [List.mem_singleton.mp hx]; exact .inl rfl, fun _ => List.mem_singleton.mpr rfl, fun u e => (by cases e), fun g hg => (by cases hg)⟩
theorem Work.some (ds : List Int) (al : Nat -> Bool) (gs : List Nat) (u : Nat) : Work ds al gs (some u) [] (next ds al gs u) :=
  ⟨nodup_rise (next_rise ds al gs u), fun x hx => .kid hx (.inl rfl), fun x hx => .inl (next_par hx), fun e => (by cases e), fun v e x hx => by cases e; exact hx, fun g hg => (by cases hg)⟩
theorem Work.step {ds : List Int} {al : Nat -> Bool} {gs : List Nat} {un : Option Nat} {gone a : List Nat} {r : Nat} (w : Work ds al gs un gone (a ++ [r])) : Work ds al gs un (gone ++ [r]) (a ++ next ds al gs r) := by
  have gr : Gone ds al gs un r := w.ok r (by simp)
  have sub : ∀ x, x ∈ gone ++ (a ++ [r]) -> x ∈ (gone ++ [r]) ++ (a ++ next ds al gs r) := fun x hx => by
    simp only [List.mem_append, List.mem_singleton] at hx ⊢
    rcases hx with h | h | h
    · exact .inl (.inl h)
    · exact .inr (.inl h)
    · exact .inl (.inr h)
  have nr : r ∉ gone := fun z => by
    have := (List.nodup_append.mp w.nd).2.2 r z r (by simp)
    exact this rfl
  have new : ∀ x ∈ next ds al gs r, x ∉ gone ++ (a ++ [r]) := fun x hx z => by
    have e := next_par hx
    rcases w.fr x z with h | ⟨g, hg, h⟩
    · rw [e] at h
      exact absurd (gr.over r h.symm) (Nat.lt_irrefl _)
    · rw [e] at h
      cases h
      exact nr hg
  have p1 : ((gone ++ [r]) ++ (a ++ next ds al gs r)).Perm ((gone ++ (a ++ [r])) ++ next ds al gs r) := by
    rw [List.append_assoc, List.append_assoc]
    refine List.Perm.append_left gone ?_
    rw [<- List.append_assoc]
    refine List.Perm.append_right _ ?_
    exact List.perm_append_comm
  refine ⟨?_, fun x hx => ?_, fun x hx => ?_, fun e => sub _ (w.st e), fun u e x hx => sub _ (w.su u e x hx), fun g hg x hx => ?_⟩
  · refine p1.nodup_iff.mpr (List.nodup_append.mpr ⟨w.nd, nodup_rise (next_rise ds al gs r), fun x hx y hy e => ?_⟩)
    subst e
    exact new x hy hx
  · rcases zl18.mp (p1.mem_iff.mp hx) with h | h
    · exact w.ok x h
    · exact .kid h (.inr gr)
  · rcases zl18.mp (p1.mem_iff.mp hx) with h | h
    · rcases w.fr x h with h | ⟨g, hg, h⟩
      · exact .inl h
      · exact .inr ⟨g, List.mem_append_left _ hg, h⟩
    · exact .inr ⟨r, by simp, next_par h⟩
  · rcases zl18.mp hg with h | h
    · exact sub _ (w.cl g h x hx)
    · rw [zl10.mp h] at hx
      simp [hx]
theorem Work.done {ds : List Int} {al : Nat -> Bool} {gs : List Nat} {un : Option Nat} {gone : List Nat} (w : Work ds al gs un gone []) (k : Nat) : k ∈ gone ↔ Gone ds al gs un k := by
  constructor
  · intro h
    exact w.ok k (by simpa using h)
  · intro h
    induction h with
    | top e => simpa using w.st e
    | root hk hp => simpa using w.su _ hp _ hk
    | low hk _ ih => simpa using w.cl _ ih _ hk
theorem nodup_lt : ∀ (n : Nat) (l : List Nat), l.Nodup -> (∀ k ∈ l, k < n) -> l.length <= n
  | 0, l, _, h => by
    cases l with
    | nil => exact zl3 _
    | cons x l => exact absurd (h x List.mem_cons_self) (Nat.not_lt_zero _)
  | n + 1, l, hd, h => by
    have e := nodup_lt n (l.filter (· ≠ n)) (hd.filter _) fun k hk => by
      obtain ⟨a, b⟩ := zl23.mp hk
      have := h k a
      have : k ≠ n := by simpa using b
      omega
    have : l.length <= (l.filter (· ≠ n)).length + 1 := by
      clear e h
      induction l with
      | nil => exact Nat.zero_le _
      | cons x l ih =>
        obtain ⟨h1, h2⟩ := List.nodup_cons.mp hd
        by_cases c : x = n
        · subst c
          have : l.filter (· ≠ x) = l := by
            rw [List.filter_eq_self]
            intro a ha
            have : a ≠ x := fun z => h1 (z ▸ ha)
            simpa using this
          rw [List.filter_cons, if_neg (by simp), this]
          exact zl3 _
        · rw [List.filter_cons, if_pos (by simpa using c), List.length_cons, List.length_cons]
          have := ih h2
          omega
    omega
theorem Work.len {ds : List Int} {al : Nat -> Bool} {gs : List Nat} {un : Option Nat} {gone ahead : List Nat} (pos : 0 < ds.length) (w : Work ds al gs un gone ahead) : gone.length + ahead.length <= ds.length := by
  rw [<- zl2]
  exact nodup_lt _ _ w.nd fun k hk => (w.ok k hk).lt pos
def Ins (ds : List Int) (al : Nat -> Bool) (gs : List Nat) (un : Option Nat) (os : List Nat) : Prop := os.Pairwise (· < ·) /\ ∀ k, k ∈ os ↔ Gone ds al gs un k
def pick (ds : List Int) (gs : List Nat) (p : Nat) : Nat := match (kids ds p).find? (bears ds gs) with
  | some k => k
  | none => (kids ds p).headD 0
theorem next_one {ds : List Int} {al : Nat -> Bool} {gs : List Nat} {p k : Nat} (h : al p = false) (hk : k ∈ kids ds p) : next ds al gs p = [pick ds gs p] := by
  unfold next pick
  rw [if_neg (by rw [h]; exact zl6)]
  cases e : (kids ds p).find? (bears ds gs) with
  | some j => rfl
  | none =>
    show (kids ds p).take 1 = [(kids ds p).headD 0]
    cases e2 : kids ds p with
    | nil => rw [e2] at hk; cases hk
    | cons x l => rfl
theorem next_all {ds : List Int} {al : Nat -> Bool} {gs : List Nat} {p : Nat} (h : al p = true) : next ds al gs p = kids ds p := by
  unfold next
  rw [if_pos h]
def want (ds : List Int) (on al : Nat -> Bool) (os : List Nat) (r : Nat) : Nat := if (decide (r ∈ os) && al r) = true then (kids ds r).length else if (decide (r ∈ os) && on r) = true then 1 else 0
def openKids (ds : List Int) (os : List Nat) (r : Nat) : List Nat := (kids ds r).filter fun k => decide (k ∈ os)
def FullB (ds : List Int) (on al : Nat -> Bool) (os : List Nat) : Prop := os.Pairwise (· < ·) /\ (∀ r, r < ds.length -> (openKids ds os r).length = want ds on al os r) /\ 0 ∈ os
theorem mem_open {ds : List Int} {os : List Nat} {r k : Nat} : k ∈ openKids ds os r ↔ k ∈ kids ds r /\ k ∈ os := by
  unfold openKids
  rw [zl23, decide_eq_true_iff]
theorem FullB.up {ds : List Int} {on al : Nat -> Bool} {os : List Nat} (f : FullB ds on al os) (lt : ∀ o ∈ os, o < ds.length) {k p : Nat} (hk : k ∈ os) (h : par ds k = some p) : p ∈ os := by
  have hl := lt k hk
  have hp := par_lt h
  have c := f.2.1 p (by omega)
  have m : k ∈ openKids ds os p := mem_open.mpr ⟨mem_kids.mpr ⟨hl, h⟩, hk⟩
  have pos : 0 < (openKids ds os p).length := List.length_pos_of_mem m
  rw [c] at pos
  unfold want at pos
  by_cases q : p ∈ os
  · exact q
  · rw [decide_eq_false q, Bool.false_and, Bool.false_and, if_neg zl6, if_neg zl6] at pos
    exact absurd pos (Nat.lt_irrefl _)
theorem FullB.ups {ds : List Int} {on al : Nat -> Bool} {os : List Nat} (f : FullB ds on al os) (lt : ∀ o ∈ os, o < ds.length) : ∀ (k : Nat), k ∈ os -> ∀ x, x ∈ ups ds k -> x ∈ os := by
  intro k
  induction k using Nat.strongRecOn with
  | ind k ih =>
    intro hk x hx
    cases e : par ds k with
    | none =>
      rw [ups_none e] at hx
      cases hx
    | some p =>
      rw [ups_some e] at hx
      have hp := f.up lt hk e
      rcases zl16.mp hx with rfl | h
      · exact hp
      · exact ih p (par_lt e) hp x h
end Tr
namespace Tr
theorem filter_one : ∀ (l : List Nat) (x : Nat), l.Pairwise (· < ·) -> x ∈ l -> (l.filter fun k => decide (x = k)).length = 1
  | [], x, _, h => (by cases h)
  | y :: l, x, hp, h => by
    obtain ⟨h1, h2⟩ := List.pairwise_cons.mp hp
    rw [List.filter_cons]
    by_cases c : x = y
    · subst c
      rw [if_pos (by simp), List.length_cons, List.filter_eq_nil_iff.mpr fun k hk => by
        have := h1 k hk
        have : x ≠ k := by omega
        simpa using this]
      rfl
    · rw [if_neg (by simpa using c)]
      rcases zl16.mp h with e | e
      · exact absurd e c
      · exact filter_one l x h2 e
def under (ds : List Int) (k : Nat) : Option Nat -> Bool
  | none => true
  | some u => liesIn ds k u
theorem under_kid {ds : List Int} {un : Option Nat} {k p : Nat} (h : par ds k = some p) (hu : un = some p ∨ under ds p un = true) : under ds k un = true := by
  cases un with
  | none => rfl
  | some u =>
    show liesIn ds k u = true
    rw [liesIn_some h, Bool.or_eq_true]
    rcases hu with e | e
    · injection e with e
      left
      rw [e]
      exact beq_self_eq_true _
    · exact .inr e
theorem under_par {ds : List Int} {un : Option Nat} {k p : Nat} (h : par ds k = some p) (hu : under ds k un = true) : un = some p ∨ under ds p un = true := by
  cases un with
  | none => exact .inr rfl
  | some u =>
    have hu' : liesIn ds k u = true := hu
    rw [liesIn_some h, Bool.or_eq_true] at hu'
    rcases hu' with e | e
    · left
      rw [eq_of_beq e]
    · exact .inr e
theorem Gone.under {ds : List Int} {al : Nat -> Bool} {gs : List Nat} {un : Option Nat} {k : Nat} (h : Gone ds al gs un k) : under ds k un = true := by
  induction h with
  | top e =>
    subst e
    rfl
  | root hk hp => exact under_kid (next_par hk) (.inl hp)
  | low hk _ ih => exact under_kid (next_par hk) (.inr ih)
theorem not_under_self {ds : List Int} {u : Nat} : under ds u (some u) = false := by
  show liesIn ds u u = false
  unfold liesIn
  rw [Bool.eq_false_iff]
  intro z
  exact Nat.lt_irrefl _ (ups_lt (List.contains_iff_mem.mp z))
theorem step_full {ds : List Int} (g : Good ds) {on al : Nat -> Bool} {os fs ms gs : List Nat} {un : Option Nat} (f : FullB ds on al os) (lt : ∀ o ∈ os, o < ds.length) (hun : ∀ u, un = some u -> u ∈ os)
    (fit : ∀ k p, k < ds.length -> par ds k = some p -> (al p = true ∨ on p = true)) (hon : ∀ p, on p = true -> kids ds p ≠ []) (ins : Ins ds al gs un fs) (rise : ms.Pairwise (· < ·))
    (hm : ∀ k, k ∈ ms ↔ ((k ∈ os /\ under ds k un = false) ∨ k ∈ fs)) : FullB ds on al ms := by
  refine ⟨rise, fun r hr => ?_, ?_⟩
  · by_cases c : un = some r ∨ under ds r un = true
    · -- r is the room itself or lies in it
      have rm : r ∈ ms ↔ (un = some r ∨ Gone ds al gs un r) := by
        rw [hm r, ins.2 r]
        constructor
        · rintro (⟨h1, h2⟩ | h)
          · rcases c with c | c
            · exact .inl c
            · rw [h2] at c
              cases c
          · exact .inr h
        · rintro (h | h)
          · subst h
            exact .inl ⟨hun r rfl, not_under_self⟩
          · exact .inr h
      have km : ∀ k ∈ kids ds r, (k ∈ ms ↔ (k ∈ Tr.next ds al gs r /\ r ∈ ms)) := fun k hk => by
        have hp := (mem_kids.mp hk).2
        have uk := under_kid hp c
        rw [hm k, ins.2 k, rm, Gone.iff hp]
        constructor
        · rintro (⟨_, h⟩ | h)
          · rw [uk] at h
            cases h
          · exact h
        · intro h
          exact .inr h
      unfold openKids want
      by_cases ro : r ∈ ms
      · have eq : (kids ds r).filter (fun k => decide (k ∈ ms)) = Tr.next ds al gs r := by
          refine L2.rise_unique _ _ ((kids_rise ds r).filter _) (next_rise _ _ _ _) fun k => ?_
          rw [zl23, decide_eq_true_iff]
          exact ⟨fun h => ((km k h.1).mp h.2).1, fun h => ⟨next_sub h, (km k (next_sub h)).mpr ⟨h, ro⟩⟩⟩
        rw [eq, decide_eq_true ro, Bool.true_and, Bool.true_and]
        cases e : al r with
        | true => rw [if_pos rfl, next_all e]
        | false =>
          rw [if_neg zl6]
          cases hk : kids ds r with
          | nil =>
            have nn : Tr.next ds al gs r = [] := by
              cases e2 : Tr.next ds al gs r with
              | nil => rfl
              | cons x l =>
                have : x ∈ kids ds r := next_sub (al := al) (gs := gs) (by rw [e2]; exact List.mem_cons_self)
                rw [hk] at this
                cases this
            rw [nn]
            cases e3 : on r with
            | false => rfl
            | true => exact absurd hk (hon r e3)
          | cons x l =>
            have hx' : x ∈ kids ds r := by rw [hk]; exact List.mem_cons_self
            rw [next_one e hx']
            rcases fit x r (mem_kids.mp hx').1 (mem_kids.mp hx').2 with h | h
            · rw [e] at h
              cases h
            · rw [h]
              rfl
      · rw [decide_eq_false ro, Bool.false_and, Bool.false_and, if_neg zl6, if_neg zl6, List.filter_eq_nil_iff.mpr fun k hk => by
          intro z
          exact ro ((km k hk).mp (of_decide_eq_true z)).2]
        rfl
    · -- elsewhere all is as it was
      have same : ∀ k, (k = r ∨ k ∈ kids ds r) -> (k ∈ ms ↔ k ∈ os) := fun k hk => by
        have uk : under ds k un = false := by
          rw [Bool.eq_false_iff]
          intro z
          rcases hk with e | hk
          · subst e
            exact c (.inr z)
          · exact c (under_par (mem_kids.mp hk).2 z)
        rw [hm k]
        constructor
        · rintro (h | h)
          · exact h.1
          · have := ((ins.2 k).mp h).under
            rw [uk] at this
            cases this
        · intro h
          exact .inl ⟨h, uk⟩
      have q := f.2.1 r hr
      unfold openKids want at q ⊢
      rw [decide_eq_decide.mpr (same r (.inl rfl)), List.filter_congr fun k hk => decide_eq_decide.mpr (same k (.inr hk))]
      exact q
  · rw [hm 0, ins.2 0, Gone.zero]
    cases un with
    | none => exact .inr rfl
    | some u =>
      left
      refine ⟨f.2.2, ?_⟩
      show liesIn ds 0 u = false
      exact liesIn_none rfl
end Tr
namespace Tr
def OutOk (ds : List Int) : List Nat -> List Nat -> Prop
  | _, [] => True
  | cur, r :: g => r ∈ cur /\ openKids ds cur r = [] /\ OutOk ds (cur.erase r) g
def outAll (cur gone : List Nat) : List Nat := gone.foldl (fun c r => c.erase r) cur
theorem open_nil {ds : List Int} {cur : List Nat} {r : Nat} (h : ∀ k ∈ cur, par ds k ≠ some r) : openKids ds cur r = [] := by
  unfold openKids
  rw [List.filter_eq_nil_iff]
  intro k hk z
  exact h k (of_decide_eq_true z) (mem_kids.mp hk).2
theorem out_ok {ds : List Int} : ∀ (L cur : List Nat), L.Pairwise (· > ·) -> cur.Nodup -> (∀ k ∈ L, k ∈ cur) -> (∀ k ∈ cur, ∀ p ∈ L, par ds k = some p -> k ∈ L) -> OutOk ds cur L
  | [], _, _, _, _, _ => trivial
  | r :: g, cur, hp, hn, hs, hc => by
    obtain ⟨h1, h2⟩ := List.pairwise_cons.mp hp
    refine ⟨hs r List.mem_cons_self, open_nil fun k hk e => ?_, ?_⟩
    · have kl := hc k hk r List.mem_cons_self e
      have := par_lt e
      rcases zl16.mp kl with z | z
      · omega
      · have := h1 k z
        omega
    · refine out_ok g (cur.erase r) h2 (hn.erase _) (fun k hk => ?_) fun k hk p hpg e => ?_
      · have := h1 k hk
        exact (hn.mem_erase_iff).mpr ⟨by omega, hs k (List.mem_cons_of_mem _ hk)⟩
      · obtain ⟨a, b⟩ := (hn.mem_erase_iff).mp hk
        rcases zl16.mp (hc k b p (List.mem_cons_of_mem _ hpg) e) with z | z
        · exact absurd z a
        · exact z
theorem out_nodup : ∀ (L cur : List Nat), cur.Nodup -> (outAll cur L).Nodup
  | [], _, h => h
  | r :: g, cur, h => out_nodup g (cur.erase r) (h.erase _)
theorem out_mem : ∀ (L cur : List Nat), cur.Nodup -> ∀ k, k ∈ outAll cur L ↔ (k ∈ cur /\ k ∉ L)
  | [], _, _, k => by
    show k ∈ _ ↔ _
    exact ⟨fun h => ⟨h, fun z => by cases z⟩, fun h => h.1⟩
  | r :: g, cur, hn, k => by
    show k ∈ outAll (cur.erase r) g ↔ _
    rw [out_mem g (cur.erase r) (hn.erase _) k, hn.mem_erase_iff, zl16]
    constructor
    · rintro ⟨⟨a, b⟩, c⟩
      exact ⟨b, fun z => z.elim a c⟩
    · rintro ⟨a, b⟩
      exact ⟨⟨fun z => b (.inl z), a⟩, fun z => b (.inr z)⟩
def InOk (ds : List Int) (on : Nat -> Bool) : List Nat -> List Nat -> Prop
  | _, [] => True
  | cur, r :: g => r ∉ cur /\ (∀ p, par ds r = some p -> p ∈ cur /\ (on p = true -> openKids ds cur p = [])) /\ InOk ds on (cur ++ [r]) g
theorem in_ok {ds : List Int} {on : Nat -> Bool} {base fs : List Nat} (rise : fs.Pairwise (· < ·)) (ha : ∀ r ∈ fs, r ∉ base) (hb : ∀ r ∈ fs, ∀ p, par ds r = some p -> p ∈ base ∨ p ∈ fs)
    (hc : ∀ r ∈ fs, ∀ p, par ds r = some p -> on p = true -> ∀ k ∈ base, par ds k ≠ some p) (hd : ∀ r ∈ fs, ∀ k ∈ fs, ∀ p, par ds r = some p -> par ds k = some p -> on p = true -> k = r) :
    ∀ (g done : List Nat), fs = done ++ g -> InOk ds on (base ++ done) g
  | [], _, _ => trivial
  | r :: g, done, e => by
    have rf : r ∈ fs := by rw [e]; simp
    have rs := rise
    rw [e] at rs
    obtain ⟨_, r2, r3⟩ := List.pairwise_append.mp rs
    have rl := (List.pairwise_cons.mp r2).1
    have nd : r ∉ done := fun z => by
      have := r3 r z r List.mem_cons_self
      omega
    refine ⟨fun z => ?_, fun p hp => ⟨?_, fun ho => open_nil fun k hk ek => ?_⟩, ?_⟩
    · rcases zl18.mp z with z | z
      · exact ha r rf z
      · exact nd z
    · rcases hb r rf p hp with h | h
      · exact List.mem_append_left _ h
      · rw [e] at h
        rcases zl18.mp h with h | h
        · exact List.mem_append_right _ h
        · have := par_lt hp
          rcases zl16.mp h with z | z
          · omega
          · have := rl p z
            omega
    · rcases zl18.mp hk with h | h
      · exact hc r rf p hp ho k h ek
      · have kf : k ∈ fs := by rw [e]; exact List.mem_append_left _ h
        have := hd r rf k kf p hp ek ho
        subst this
        exact nd h
    · rw [List.append_assoc]
      exact in_ok rise ha hb hc hd g (done ++ [r]) (by rw [e]; simp)
theorem round_ok {ds : List Int} {on al : Nat -> Bool} {os fs gs L : List Nat} {un : Option Nat} (f : FullB ds on al os) (lt : ∀ o ∈ os, o < ds.length) (hun : ∀ u, un = some u -> u ∈ os) (hx : ∀ p, on p = true -> al p = false)
    (fall : L.Pairwise (· > ·)) (hL : ∀ k, k ∈ L ↔ (k ∈ os /\ under ds k un = true)) (ins : Ins ds al gs un fs) :
    OutOk ds os L /\ InOk ds on (outAll os L) fs /\ (∀ k, k ∈ outAll os L ++ fs ↔ ((k ∈ os /\ under ds k un = false) ∨ k ∈ fs)) /\ (outAll os L ++ fs).Nodup := by
  have hn : os.Nodup := nodup_rise f.1
  have bm : ∀ k, k ∈ outAll os L ↔ (k ∈ os /\ under ds k un = false) := fun k => by
    rw [out_mem L os hn k, hL k]
    constructor
    · rintro ⟨a, b⟩
      refine ⟨a, ?_⟩
      rw [Bool.eq_false_iff]
      exact fun z => b ⟨a, z⟩
    · rintro ⟨a, b⟩
      refine ⟨a, fun z => ?_⟩
      rw [b] at z
      cases z.2
  have hu : ∀ r ∈ fs, under ds r un = true := fun r hr => ((ins.2 r).mp hr).under
  have pu : ∀ r ∈ fs, ∀ p, par ds r = some p -> (un = some p ∨ under ds p un = true) := fun r hr p hp => under_par hp (hu r hr)
  refine ⟨out_ok L os fall hn (fun k hk => ((hL k).mp hk).1) fun k hk p hp e => ?_, ?_, fun k => ?_, ?_⟩
  · rw [hL]
    exact ⟨hk, under_kid e (.inr ((hL p).mp hp).2)⟩
  · have q := in_ok (ds := ds) (on := on) (base := outAll os L) ins.1 (fun r hr z => ?_) (fun r hr p hp => ?_) (fun r hr p hp _ k hk e => ?_) (fun r hr k hk p hp hp' ho => ?_) fs [] rfl
    · rw [zl17] at q
      exact q
    · have := ((bm r).mp z).2
      rw [hu r hr] at this
      cases this
    · rcases (Gone.iff hp).mp ((ins.2 r).mp hr) with ⟨_, h | h⟩
      · left
        rw [bm]
        subst h
        exact ⟨hun p rfl, not_under_self⟩
      · exact .inr ((ins.2 p).mpr h)
    · have := ((bm k).mp hk).2
      rw [under_kid e (pu r hr p hp)] at this
      cases this
    · have a := ((Gone.iff hp).mp ((ins.2 r).mp hr)).1
      have b := ((Gone.iff hp').mp ((ins.2 k).mp hk)).1
      have nx := next_one (gs := gs) (hx p ho) (next_sub a)
      rw [nx] at a b
      rw [zl10.mp a, zl10.mp b]
  · rw [zl18, bm]
  · refine List.nodup_append.mpr ⟨out_nodup L os hn, nodup_rise ins.1, fun a ha b hb e => ?_⟩
    subst e
    have := ((bm a).mp ha).2
    rw [hu a hb] at this
    cases this
end Tr
namespace Tr
theorem lies_kid {ds : List Int} {r : Nat} : ∀ (x : Nat), liesIn ds x r = true -> ∃ c, par ds c = some r /\ (c = x ∨ c ∈ ups ds x) := by
  intro x
  induction x using Nat.strongRecOn with
  | ind x ih =>
    intro h
    cases e : par ds x with
    | none =>
      rw [liesIn_none e] at h
      cases h
    | some j =>
      rw [liesIn_some e, Bool.or_eq_true] at h
      rcases h with h | h
      · rw [eq_of_beq h] at e
        exact ⟨x, e, .inl rfl⟩
      · obtain ⟨c, hc, hx⟩ := ih j (par_lt e) h
        refine ⟨c, hc, .inr ?_⟩
        rw [ups_some e]
        rcases hx with hx | hx
        · rw [hx]
          exact List.mem_cons_self
        · exact List.mem_cons_of_mem _ hx
theorem near_kept {ds : List Int} {on al : Nat -> Bool} {os : List Nat} {r : Nat} (f : FullB ds on al os) (lt : ∀ o ∈ os, o < ds.length) (ro : r ∈ os) (ho : on r = true) (ha : al r = false) :
    (os.filter fun o => liesIn ds o r).take 1 = os.filter fun o => par ds o == some r := by
  have c := f.2.1 r (lt r ro)
  unfold want at c
  rw [decide_eq_true ro, Bool.true_and, Bool.true_and, ha, if_neg zl6, ho, if_pos rfl] at c
  obtain ⟨k, hk⟩ : ∃ k, openKids ds os r = [k] := by
    match openKids ds os r, c with
    | [x], _ => exact ⟨x, rfl⟩
  have km : ∀ x, (x ∈ os /\ par ds x = some r) ↔ x = k := fun x => by
    have : x ∈ openKids ds os r ↔ x = k := by rw [hk, zl10]
    rw [<- this, mem_open, mem_kids]
    exact ⟨fun ⟨a, b⟩ => ⟨⟨lt x a, b⟩, a⟩, fun ⟨⟨_, b⟩, a⟩ => ⟨a, b⟩⟩
  obtain ⟨ko, kp⟩ := (km k).mpr rfl
  have e1 : (os.filter fun o => par ds o == some r) = [k] := by
    refine L2.rise_unique _ _ (f.1.filter _) (List.pairwise_singleton _ _) fun x => ?_
    rw [zl23, zl10, <- km x]
    exact ⟨fun ⟨a, b⟩ => ⟨a, eq_of_beq b⟩, fun ⟨a, b⟩ => ⟨a, by rw [b]; exact beq_self_eq_true _⟩⟩
  rw [e1]
  have kl : k ∈ os.filter fun o => liesIn ds o r := by
    rw [zl23]
    refine ⟨ko, ?_⟩
    rw [liesIn_some kp, beq_self_eq_true, Bool.true_or]
  have low : ∀ x ∈ os.filter (fun o => liesIn ds o r), k <= x := fun x hx => by
    obtain ⟨xo, xl⟩ := zl23.mp hx
    obtain ⟨c, hc, h⟩ := lies_kid x xl
    rcases h with h | h
    · subst h
      rw [(km c).mp ⟨xo, hc⟩]
      exact zl3 _
    · have := (km c).mp ⟨f.ups lt x xo c h, hc⟩
      have := ups_lt h
      omega
  have rise := f.1.filter fun o => liesIn ds o r
  generalize (os.filter fun o => liesIn ds o r) = L at kl low rise
  cases L with
  | nil => cases kl
  | cons y l =>
    have a := low y List.mem_cons_self
    rcases zl16.mp kl with e | e
    · rw [e]
      rfl
    · have := (List.pairwise_cons.mp rise).1 k e
      omega
end Tr
namespace Tr
theorem ups_trans {ds : List Int} {a b c : Nat} (h1 : b ∈ ups ds a) (h2 : c ∈ ups ds b) : c ∈ ups ds a := by
  rw [mem_ups] at h1 h2 ⊢
  refine ⟨by omega, fun j j1 j2 => ?_⟩
  by_cases q : j <= b
  · exact h2.2 j j1 q
  · have := h1.2 j (by omega) j2
    have := h2.2 b h2.1 (zl3 _)
    omega
theorem lies_iff {ds : List Int} {a b : Nat} : liesIn ds a b = true ↔ b ∈ ups ds a := by
  unfold liesIn
  exact List.contains_iff_mem
theorem lies_par {ds : List Int} {a p : Nat} (h : par ds a = some p) : liesIn ds a p = true := by
  rw [lies_iff, ups_some h]
  exact List.mem_cons_self
theorem lies_trans {ds : List Int} {a b c : Nat} (h1 : liesIn ds a b = true) (h2 : liesIn ds b c = true) : liesIn ds a c = true := by
  rw [lies_iff] at *
  exact ups_trans h1 h2
theorem lies_lt {ds : List Int} {a b : Nat} (h : liesIn ds a b = true) : b < a := ups_lt (lies_iff.mp h)
theorem kid_unique {ds : List Int} {p a c x : Nat} (ha : par ds a = some p) (hc : par ds c = some p) (xa : x = a ∨ liesIn ds x a = true) (xc : x = c ∨ liesIn ds x c = true) : a = c := by
  have aux : ∀ {a c : Nat}, par ds a = some p -> par ds c = some p -> (x = a ∨ liesIn ds x a = true) -> (x = c ∨ liesIn ds x c = true) -> ¬ a < c := by
    intro a c ha hc xa xc lt
    have cx : c <= x := by
      rcases xc with h | h
      · omega
      · have := lies_lt h
        omega
    have al : a ∈ ups ds x := by
      rcases xa with h | h
      · omega
      · exact lies_iff.mp h
    have h1 := (mem_ups x a).mp al
    have h2 := h1.2 c lt cx
    have h3 := (par_iff.mp hc).2.2 a (par_lt ha) lt
    omega
  have h1 := aux ha hc xa xc
  have h2 := aux hc ha xc xa
  omega
end Tr
namespace Tr
theorem near_kid {ds : List Int} {on al : Nat -> Bool} {os : List Nat} {r : Nat} (f : FullB ds on al os) (lt : ∀ o ∈ os, o < ds.length) (ro : r ∈ os) (ho : on r = true) (ha : al r = false) :
    ∃ k ∈ os, par ds k = some r /\ (os.filter fun o => liesIn ds o r).take 1 = [k] /\ ((os.filter fun o => liesIn ds o r).filter fun o => par ds o == some r) = [k] := by
  have nk := near_kept f lt ro ho ha
  have c := f.2.1 r (lt r ro)
  unfold want at c
  rw [decide_eq_true ro, Bool.true_and, Bool.true_and, ha, if_neg zl6, ho, if_pos rfl] at c
  obtain ⟨k, hk⟩ : ∃ k, openKids ds os r = [k] := by
    match openKids ds os r, c with
    | [x], _ => exact ⟨x, rfl⟩
  have km : ∀ x, (x ∈ os /\ par ds x = some r) ↔ x = k := fun x => by
    have : x ∈ openKids ds os r ↔ x = k := by rw [hk, zl10]
    rw [<- this, mem_open, mem_kids]
    exact ⟨fun ⟨a, b⟩ => ⟨⟨lt x a, b⟩, a⟩, fun ⟨⟨_, b⟩, a⟩ => ⟨a, b⟩⟩
  obtain ⟨ko, kp⟩ := (km k).mpr rfl
  have e1 : (os.filter fun o => par ds o == some r) = [k] := by
    refine L2.rise_unique _ _ (f.1.filter _) (List.pairwise_singleton _ _) fun x => ?_
    rw [zl23, zl10, <- km x]
    exact ⟨fun ⟨a, b⟩ => ⟨a, eq_of_beq b⟩, fun ⟨a, b⟩ => ⟨a, by rw [b]; exact beq_self_eq_true _⟩⟩
  refine ⟨k, ko, kp, nk.trans e1, ?_⟩
  rw [List.filter_filter, <- e1]
  refine List.filter_congr fun x _ => ?_
  cases e : par ds x == some r with
  | false => rfl
  | true => rw [Bool.true_and, lies_par (eq_of_beq e)]
end Tr
namespace L2
open PySem PySem.Spec PyProof.Rows
section
variable {X : Cx}
theorem call_isinst : CallR X (.builtin "isinstance") (fun xs H Q => ∃ (x : V) (T : String) (t : Value) (b : Bool), xs = [x, .ty T] /\ TyOf X.K H x t /\ PySem.W.kitOne X.K t (.type T) = some b /\ Q (.bl b) H) := by
  intro pins s σ H xs us Q I r h
  obtain ⟨x, T, t, b, rfl, ty, e, q⟩ := h
  obtain ⟨u, w', rfl, r1, r2⟩ := vals2 r
  cases (show w' = Value.type T from r2)
  exact isinst_ok I r1 ty e fun tk => ⟨.bl b, H, I.tok tk, rfl, q⟩
theorem kit_ii (K : PySem.W.Frag) : PySem.W.kitOne K (.type "int") (.type "int") = some true := by rfl
theorem kit_ib (K : PySem.W.Frag) : PySem.W.kitOne K (.type "int") (.type "bool") = some false := by rfl
end
end L2
namespace L2
open PySem
theorem ifT {c : Bool} {A B : Prop} (h : c = true) (a : A) : if c = true then A else B := by rw [if_pos h]; exact a
theorem ifF {c : Bool} {A B : Prop} (h : c = false) (b : B) : if c = true then A else B := by rw [if_neg (by rw [h]; decide)]; exact b
end L2
namespace Gds
open PySem L2
inductive Gd where
  | yes
  | is (b n : Int)
  | under (b n : Int)
  | inn (r : Int)
  | neg (g : Gd)
  | both (g h : Gd)
  | either (g h : Gd)
def Gd.ht : Gd -> Nat
  | .yes => 1
  | .is _ _ => 1
  | .under _ _ => 1
  | .inn _ => 1
  | .neg g => g.ht + 1
  | .both g h => 1 + max g.ht h.ht
  | .either g h => 1 + max g.ht h.ht
def at0 (bx : List Int) (b : Int) : Int := bx.getD b.toNat 0
def Gd.holds (op bx : List Int) : Gd -> Bool
  | .yes => true
  | .is b n => decide (V.int (at0 bx b) = V.int n)
  | .under b n => decide (at0 bx b < n)
  | .inn r => inV (.int r) (op.map V.int)
  | .neg g => !(g.holds op bx)
  | .both g h => g.holds op bx && h.holds op bx
  | .either g h => g.holds op bx || h.holds op bx
def Gd.ok (nb : Nat) : Gd -> Prop
  | .yes => True
  | .is b _ => 0 <= b /\ b < (nb : Int)
  | .under b _ => 0 <= b /\ b < (nb : Int)
  | .inn _ => True
  | .neg g => g.ok nb
  | .both g h => g.ok nb /\ h.ok nb
  | .either g h => g.ok nb /\ h.ok nb
def KeepT (H H' : Hp) : Prop := ∀ b xs, H b = some (.tup xs) -> H' b = some (.tup xs)
theorem KeepT.trans {H H1 H2 : Hp} (a : KeepT H H1) (b : KeepT H1 H2) : KeepT H H2 := fun c xs h => b c xs (a c xs h)
theorem KeepT.of {H H' : Hp} (s : Same H H') : KeepT H H' := fun b xs h => s b _ h
theorem KeepT.lst {H : Hp} {p : Addr} {xs : List V} (h : H p = some (.lst xs)) (o : HO) : KeepT H (upd H p o) := fun b ys e => by
  rw [zQ (ne_of e h (by intro z; cases z))]
  exact e
theorem KeepT.new {H : Hp} {p : Addr} (h : H p = none) (o : HO) : KeepT H (upd H p o) := .of (zF h o)
theorem same_upd {H H' : Hp} {p : Addr} (hp : H p = none) (s : Same H H') (o : HO) : Same H (upd H' p o) := fun b u e => by
  rw [zQ (zM e hp)]
  exact s b u e
inductive GdIn (H : Hp) : V -> Gd -> Prop where
  | yes {a : Addr} : H a = some (.tup [.str "yes"]) -> GdIn H (.ref a) .yes
  | is {a : Addr} {b n : Int} : H a = some (.tup [.str "is", .int b, .int n]) -> GdIn H (.ref a) (.is b n)
  | under {a : Addr} {b n : Int} : H a = some (.tup [.str "under", .int b, .int n]) -> GdIn H (.ref a) (.under b n)
  | inn {a : Addr} {r : Int} : H a = some (.tup [.str "in", .int r]) -> GdIn H (.ref a) (.inn r)
  | neg {a : Addr} {v : V} {g : Gd} : H a = some (.tup [.str "not", v]) -> GdIn H v g -> GdIn H (.ref a) (.neg g)
  | both {a : Addr} {v u : V} {g h : Gd} : H a = some (.tup [.str "both", v, u]) -> GdIn H v g -> GdIn H u h -> GdIn H (.ref a) (.both g h)
  | either {a : Addr} {v u : V} {g h : Gd} : H a = some (.tup [.str "either", v, u]) -> GdIn H v g -> GdIn H u h -> GdIn H (.ref a) (.either g h)
theorem GdIn.mono {H H' : Hp} {v : V} {g : Gd} (x : GdIn H v g) (k : KeepT H H') : GdIn H' v g := by
  induction x with
  | yes e => exact .yes (k _ _ e)
  | is e => exact .is (k _ _ e)
  | under e => exact .under (k _ _ e)
  | inn e => exact .inn (k _ _ e)
  | neg e _ i => exact .neg (k _ _ e) i
  | both e _ _ i j => exact .both (k _ _ e) i j
  | either e _ _ i j => exact .either (k _ _ e) i j
theorem yN {x y : Str} {A B : Prop} (h : ¬ x = y) (b : B) : if decide (V.str x = V.str y) = true then A else B := by
  rw [if_neg]
  · exact b
  · intro z
    have z' := of_decide_eq_true z
    injection z' with z''
    exact h z''
theorem yO {x : Str} {A B : Prop} (a : A) : if decide (V.str x = V.str x) = true then A else B := by
  rw [if_pos (decide_eq_true rfl)]
  exact a
theorem at0_at {bx : List Int} {b : Int} (h0 : 0 <= b) (h1 : b < (bx.length : Int)) : atI (bx.map V.int) b = some (.int (at0 bx b)) := by
  have hk : b.toNat < bx.length := by omega
  have e : (bx.map V.int)[b.toNat]? = some (.int (at0 bx b)) := by
    rw [zl20, zl1 hk]
    unfold at0
    rw [zl11, zl1 hk]
    rfl
  have q := yQ e
  rw [Int.toNat_of_nonneg h0] at q
  exact q
end Gds
namespace Rms
open PySem L2 Gds
structure Rm where
  nm : Str
  kind : Str
  depth : Int
  keeps : Str
  lamp : Str
  ins : V
  outs : V
def RmIn (H : Hp) (v : V) (r : Rm) : Prop := ∃ a : Addr, v = .ref a /\ H a = some (.tup [.str r.nm, .str r.kind, .int r.depth, .str r.keeps, .str r.lamp, r.ins, r.outs])
inductive RmsIn (H : Hp) : List V -> List Rm -> Prop where
  | nil : RmsIn H [] []
  | cons {v : V} {r : Rm} {vs : List V} {rs : List Rm} : RmIn H v r -> RmsIn H vs rs -> RmsIn H (v :: vs) (r :: rs)
theorem RmIn.mono {H H' : Hp} {v : V} {r : Rm} (x : RmIn H v r) (k : KeepT H H') : RmIn H' v r := by
  obtain ⟨a, e, h⟩ := x
  exact ⟨a, e, k _ _ h⟩
theorem RmsIn.mono {H H' : Hp} {vs : List V} {rs : List Rm} (x : RmsIn H vs rs) (k : KeepT H H') : RmsIn H' vs rs := by
  induction x with
  | nil => exact .nil
  | cons h _ ih => exact .cons (h.mono k) ih
theorem RmsIn.length {H : Hp} {vs : List V} {rs : List Rm} (x : RmsIn H vs rs) : vs.length = rs.length := by
  induction x with
  | nil => rfl
  | cons _ _ ih => rw [zl12, zl12, ih]
theorem RmsIn.snoc {H : Hp} {vs : List V} {rs : List Rm} {v : V} {r : Rm} (x : RmsIn H vs rs) (y : RmIn H v r) : RmsIn H (vs ++ [v]) (rs ++ [r]) := by
  induction x with
  | nil => exact .cons y .nil
  | cons h _ ih => exact .cons h ih
theorem RmsIn.get {H : Hp} {vs : List V} {rs : List Rm} (x : RmsIn H vs rs) : ∀ {k : Nat} {r : Rm}, rs[k]? = some r -> ∃ v, vs[k]? = some v /\ RmIn H v r := by
  induction x with
  | nil => intro k r h; simp at h
  | cons h _ ih =>
    intro k r e
    cases k with
    | zero =>
      simp at e
      subst e
      exact ⟨_, rfl, h⟩
    | succ k => exact ih (by simpa using e)
def Rooms (H : Hp) (t : Addr) (rs : List Rm) : Prop := ∃ vs, H t = some (.tup vs) /\ RmsIn H vs rs
theorem Rooms.mono {H H' : Hp} {t : Addr} {rs : List Rm} (x : Rooms H t rs) (k : KeepT H H') : Rooms H' t rs := by
  obtain ⟨vs, h, r⟩ := x
  exact ⟨vs, k _ _ h, r.mono k⟩
def depths (rs : List Rm) : List Int := rs.map (·.depth)
theorem yV (rs : List Rm) : (depths rs).length = rs.length := zl0 _
theorem depths_at {rs : List Rm} {k : Nat} {r : Rm} (h : rs[k]? = some r) : (depths rs).getD k 0 = r.depth := by
  unfold depths
  rw [zl11, zl20, h]
  rfl
theorem Rooms.at {H : Hp} {t : Addr} {rs : List Rm} (x : Rooms H t rs) {k : Nat} (h : k < rs.length) : ∃ (vs : List V) (a : Addr) (r : Rm), H t = some (.tup vs) /\ vs.length = rs.length /\ rs[k]? = some r /\ atI vs ((k : Nat) : Int) = some (.ref a) /\ H a = some (.tup [.str r.nm, .str r.kind, .int r.depth, .str r.keeps, .str r.lamp, r.ins, r.outs]) := by
  obtain ⟨vs, hv, hr⟩ := x
  have e : rs[k]? = some rs[k] := zl1 h
  obtain ⟨v, h1, a, rfl, h2⟩ := hr.get e
  exact ⟨vs, a, rs[k], hv, hr.length, e, yQ h1, h2⟩
def Fit (rs : List Rm) : Prop := ∀ (k : Nat) (r : Rm), rs[k]? = some r -> if k + 1 < rs.length /\ (depths rs).getD k 0 < (depths rs).getD (k + 1) 0 then (r.kind = "one" ∨ r.kind = "all") else r.kind = "plain"
end Rms
namespace Dds
open PySem L2 Gds
inductive Dd where
  | say (w : Str)
  | set (b n : Int)
  | add (b n : Int)
  | send (e : Int)
inductive DdIn (H : Hp) : V -> Dd -> Prop where
  | say {a : Addr} {w : Str} : H a = some (.tup [.str "say", .str w]) -> DdIn H (.ref a) (.say w)
  | set {a : Addr} {b n : Int} : H a = some (.tup [.str "set", .int b, .int n]) -> DdIn H (.ref a) (.set b n)
  | add {a : Addr} {b n : Int} : H a = some (.tup [.str "add", .int b, .int n]) -> DdIn H (.ref a) (.add b n)
  | send {a : Addr} {e : Int} : H a = some (.tup [.str "send", .int e]) -> DdIn H (.ref a) (.send e)
theorem DdIn.mono {H H' : Hp} {v : V} {d : Dd} (x : DdIn H v d) (k : KeepT H H') : DdIn H' v d := by
  cases x with
  | say e => exact .say (k _ _ e)
  | set e => exact .set (k _ _ e)
  | add e => exact .add (k _ _ e)
  | send e => exact .send (k _ _ e)
def Dd.upd (sz bx : List Int) : Dd -> List Int
  | .set b n => bx.set b.toNat n
  | .add b n => bx.set b.toNat ((at0 bx b + n) % at0 sz b)
  | _ => bx
def Dd.box : Dd -> Option Int
  | .set b _ => some b
  | .add b _ => some b
  | _ => none
def Dd.ok (nb : Nat) (d : Dd) : Prop := ∀ b, d.box = some b -> 0 <= b /\ b < (nb : Int)
theorem Dd.upd_len (sz bx : List Int) (d : Dd) : (d.upd sz bx).length = bx.length := by
  cases d <;> simp [Dd.upd]
theorem at0_mem {xs : List Int} {b : Int} (h0 : 0 <= b) (h1 : b < (xs.length : Int)) : at0 xs b ∈ xs := by
  unfold at0
  have hk : b.toNat < xs.length := by omega
  rw [zl11, zl1 hk]
  exact zl22 hk
def spChanged : Sp := fun vs H Q _ => ∃ (vd : V) (tb ts : Addr) (d : Dd) (bx sz : List Int), vs = [vd, .ref tb, .ref ts] /\ DdIn H vd d /\ H tb = some (.tup (bx.map V.int)) /\ H ts = some (.tup (sz.map V.int)) /\ d.ok bx.length /\ bx.length = sz.length /\ bx.length <= 6 /\ (∀ z ∈ sz, 0 < z) ∧
  ∀ (t : Addr) (H' : Hp), Same H H' -> H' t = some (.tup ((d.upd sz bx).map V.int)) -> Q (.ref t) H'
end Dds
namespace Lts
open PySem L2 Gds
abbrev LA := Hp -> Addr -> List Addr -> Nat -> List Int -> Prop
structure LetOk (C : Addr) (L : LA) : Prop where
  keep : ∀ {H H' : Hp} {p : Addr} {fp : List Addr} {m : Nat} {l : List Int}, L H p fp m l -> (∀ b ∈ fp, ∀ o, H b = some o -> H' b = some o) -> L H' p fp m l
  there : ∀ {H : Hp} {p : Addr} {fp : List Addr} {m : Nat} {l : List Int}, L H p fp m l -> ∀ b ∈ fp, H b ≠ none
  obj : ∀ {H : Hp} {p : Addr} {fp : List Addr} {m : Nat} {l : List Int}, L H p fp m l -> ∃ (dx : Addr) (fs : List (Str × V)), H p = some (.ins C dx fs) /\ fs.lookup ("add" : Str) = none /\ fs.lookup ("taken" : Str) = none /\ fs.lookup ("waiting" : Str) = none
structure Stp (H H' : Hp) (fp fp' : List Addr) : Prop where
  own : ∀ b ∈ fp', b ∈ fp ∨ H b = none
  rest : ∀ b o, H b = some o -> b ∉ fp -> H' b = some o
def added (m : Nat) (l : List Int) (e : Int) : List Int := if l.length < m then l ++ [e] else l
theorem added_len {m : Nat} {l : List Int} {e : Int} (h : l.length <= m) : (added m l e).length <= m := by
  unfold added
  split
  · rw [zl2, zl15]
    omega
  · exact h
def first : List Int -> V
  | [] => .non
  | e :: _ => .int e
def spInit (C : Addr) (L : LA) : Sp := fun vs H Q _ => ∃ (p dx : Addr) (m : Nat), vs = [.ref p, .int (m : Int)] /\ H p = some (.ins C dx []) /\ m <= 12 /\ ∀ (fp : List Addr) (H' : Hp), L H' p fp m [] -> (∀ b ∈ fp, b = p ∨ H b = none) -> (∀ b o, H b = some o -> b ≠ p -> H' b = some o) -> Q .non H'
def spAdd (L : LA) : Sp := fun vs H Q _ => ∃ (p : Addr) (fp : List Addr) (m : Nat) (l : List Int) (e : Int), vs = [.ref p, .int e] /\ L H p fp m l /\ l.length <= m /\ m <= 12 /\ ∀ (fp' : List Addr) (H' : Hp), L H' p fp' m (added m l e) -> Stp H H' fp fp' -> Q (.bl (decide (l.length < m))) H'
end Lts
namespace Dds
open PySem L2 Gds Lts
inductive Rc where
  | say (w : Str)
  | put (b v : Int)
  | send (e : Int)
  | lost (e : Int)
def Rc.row : Rc -> List V
  | .say w => [.str "say", .str w]
  | .put b v => [.str "put", .int b, .int v]
  | .send e => [.str "send", .int e]
  | .lost e => [.str "lost", .int e]
inductive RcsIn (H : Hp) : List V -> List Rc -> Prop where
  | nil : RcsIn H [] []
  | cons {a : Addr} {r : Rc} {vs : List V} {rs : List Rc} : H a = some (.tup r.row) -> RcsIn H vs rs -> RcsIn H (.ref a :: vs) (r :: rs)
theorem RcsIn.mono {H H' : Hp} {vs : List V} {rs : List Rc} (x : RcsIn H vs rs) (k : KeepT H H') : RcsIn H' vs rs := by
  induction x with
  | nil => exact .nil
  | cons h _ ih => exact .cons (k _ _ h) ih
theorem RcsIn.length {H : Hp} {vs : List V} {rs : List Rc} (x : RcsIn H vs rs) : vs.length = rs.length := by
  induction x with
  | nil => rfl
  | cons _ _ ih => rw [zl12, zl12, ih]
theorem RcsIn.snoc {H : Hp} {vs : List V} {rs : List Rc} {a : Addr} {r : Rc} (x : RcsIn H vs rs) (y : H a = some (.tup r.row)) : RcsIn H (vs ++ [.ref a]) (rs ++ [r]) := by
  induction x with
  | nil => exact .cons y .nil
  | cons h _ ih => exact .cons h ih
inductive DdsIn (H : Hp) : List V -> List Dd -> Prop where
  | nil : DdsIn H [] []
  | cons {v : V} {d : Dd} {vs : List V} {ds : List Dd} : DdIn H v d -> DdsIn H vs ds -> DdsIn H (v :: vs) (d :: ds)
theorem DdsIn.mono {H H' : Hp} {vs : List V} {ds : List Dd} (x : DdsIn H vs ds) (k : KeepT H H') : DdsIn H' vs ds := by
  induction x with
  | nil => exact .nil
  | cons h _ ih => exact .cons (h.mono k) ih
theorem DdsIn.length {H : Hp} {vs : List V} {ds : List Dd} (x : DdsIn H vs ds) : vs.length = ds.length := by
  induction x with
  | nil => rfl
  | cons _ _ ih => rw [zl12, zl12, ih]
theorem DdsIn.snoc {H : Hp} {vs : List V} {ds : List Dd} {v : V} {d : Dd} (x : DdsIn H vs ds) (y : DdIn H v d) : DdsIn H (vs ++ [v]) (ds ++ [d]) := by
  induction x with
  | nil => exact .cons y .nil
  | cons h _ ih => exact .cons h ih
theorem DdsIn.get {H : Hp} {vs : List V} {ds : List Dd} (x : DdsIn H vs ds) : ∀ {k : Nat} {v : V}, vs[k]? = some v -> ∃ d, ds[k]? = some d /\ DdIn H v d := by
  induction x with
  | nil => intro k v h; simp at h
  | cons h _ ih =>
    intro k v e
    cases k with
    | zero =>
      simp at e
      subst e
      exact ⟨_, rfl, h⟩
    | succ k => exact ih (by simpa using e)
def Dd.lin (m : Nat) (l : List Int) : Dd -> List Int
  | .send e => added m l e
  | _ => l
def Dd.rc (sz : List Int) (m : Nat) (bx l : List Int) : Dd -> Rc
  | .say w => .say w
  | .set b n => .put b (at0 ((Dd.set b n).upd sz bx) b)
  | .add b n => .put b (at0 ((Dd.add b n).upd sz bx) b)
  | .send e => if l.length < m then .send e else .lost e
def runB (sz : List Int) : List Dd -> List Int -> List Int
  | [], bx => bx
  | d :: ds, bx => runB sz ds (d.upd sz bx)
def runL (m : Nat) : List Dd -> List Int -> List Int
  | [], l => l
  | d :: ds, l => runL m ds (d.lin m l)
def runR (sz : List Int) (m : Nat) : List Dd -> List Int -> List Int -> List Rc
  | [], _, _ => []
  | d :: ds, bx, l => d.rc sz m bx l :: runR sz m ds (d.upd sz bx) (d.lin m l)
theorem runB_snoc (sz : List Int) (d : Dd) : ∀ (ds : List Dd) (bx : List Int), runB sz (ds ++ [d]) bx = d.upd sz (runB sz ds bx)
  | [], bx => rfl
  | x :: ds, bx => runB_snoc sz d ds _
theorem runL_snoc (m : Nat) (d : Dd) : ∀ (ds : List Dd) (l : List Int), runL m (ds ++ [d]) l = d.lin m (runL m ds l)
  | [], l => rfl
  | x :: ds, l => runL_snoc m d ds _
theorem runR_snoc (sz : List Int) (m : Nat) (d : Dd) : ∀ (ds : List Dd) (bx l : List Int), runR sz m (ds ++ [d]) bx l = runR sz m ds bx l ++ [d.rc sz m (runB sz ds bx) (runL m ds l)]
  | [], bx, l => rfl
  | x :: ds, bx, l => by
    show _ :: runR sz m (ds ++ [d]) _ _ = _ :: (runR sz m ds _ _ ++ _)
    rw [runR_snoc sz m d ds]
    rfl
theorem runB_len (sz : List Int) : ∀ (ds : List Dd) (bx : List Int), (runB sz ds bx).length = bx.length
  | [], bx => rfl
  | d :: ds, bx => by
    show (runB sz ds (d.upd sz bx)).length = _
    rw [runB_len sz ds, d.upd_len]
theorem runL_len {m : Nat} : ∀ (ds : List Dd) (l : List Int), l.length <= m -> (runL m ds l).length <= m
  | [], l, h => h
  | d :: ds, l, h => by
    show (runL m ds (d.lin m l)).length <= m
    refine runL_len ds _ ?_
    cases d with
    | send e => exact added_len h
    | _ => exact h
theorem runR_len (sz : List Int) (m : Nat) : ∀ (ds : List Dd) (bx l : List Int), (runR sz m ds bx l).length = ds.length
  | [], _, _ => rfl
  | d :: ds, bx, l => by
    show (runR sz m ds _ _).length + 1 = ds.length + 1
    rw [runR_len sz m ds]
def cutH (fp : List Addr) (H : Hp) : Hp := fun b => if b ∈ fp then none else H b
theorem cutH_some {fp : List Addr} {H : Hp} {b : Addr} {o : HO} (h : cutH fp H b = some o) : H b = some o /\ b ∉ fp := by
  unfold cutH at h
  split at h
  · cases h
  · exact ⟨h, by assumption⟩
theorem cutH_of {fp : List Addr} {H : Hp} {b : Addr} {o : HO} (h : H b = some o) (n : b ∉ fp) : cutH fp H b = some o := by
  unfold cutH
  rw [if_neg n]
  exact h
theorem cutH_in {fp : List Addr} {H : Hp} {b : Addr} (h : b ∈ fp) : cutH fp H b = none := by
  unfold cutH
  rw [if_pos h]
def spDone (L : LA) : Sp := fun vs H Q _ => ∃ (td tb ts p : Addr) (ds : List Dd) (bx sz l : List Int) (dv : List V) (fp : List Addr) (m : Nat) (G : Hp), vs = [.ref td, .ref tb, .ref ts, .ref p] /\ Same G H /\ (∀ b ∈ fp, G b = none) /\ G td = some (.tup dv) /\ DdsIn G dv ds /\ G tb = some (.tup (bx.map V.int)) /\ G ts = some (.tup (sz.map V.int)) /\ L H p fp m l ∧
  (∀ d ∈ ds, d.ok bx.length) /\ ds.length <= 8 /\ bx.length = sz.length /\ bx.length <= 6 /\ (∀ z ∈ sz, 0 < z) /\ l.length <= m /\ m <= 12 ∧
  ∀ (t tb' pr : Addr) (rv : List V) (fp' : List Addr) (H' : Hp), L H' p fp' m (runL m ds l) -> Stp H H' fp fp' -> H' t = some (.tup [.ref tb', .ref pr]) -> H' tb' = some (.tup ((runB sz ds bx).map V.int)) -> tb' ∉ fp' -> H' pr = some (.lst rv) -> H pr = none -> RcsIn H' rv (runR sz m ds bx l) -> Q (.ref t) H'
end Dds
namespace L2
open PySem
section
variable {X : Cx} {es : List Expr} {te : TE} {t : TA}
theorem pa_u {o : UnaryOp} {e : Expr} {p : Pos} (ha : PE X (.UnaryOp o e p) te) (hr : PA X es t) : PA X (.UnaryOp o e p :: es) (tCons te t) := zA ha hr rfl
theorem pa_b {o : Operator} {a b : Expr} {p : Pos} (ha : PE X (.BinOp a o b p) te) (hr : PA X es t) : PA X (.BinOp a o b p :: es) (tCons te t) := zA ha hr rfl
end
end L2
namespace L2
open PySem PySem.Spec PyProof.Rows
section
variable {X : Cx} {a b c : Expr} {ta tb tc : TE} {pos : Pos}
def tChV (p p' : Int -> Int -> Bool) (ta tb tc : TE) : TE := fun σ H Q => ta σ H fun x H1 => tb σ H1 fun y H2 => ∃ i j k, x = .int i /\ y = .int j /\ tc σ H2 (fun z H3 => z = .int k /\ H3 = H2) /\ Q (.bl (p i j && p' j k)) H2
theorem pe_chV {op op' : CmpOp} {p p' : Int -> Int -> Bool} (ho : OpR X (compareOp op) (rI0 fun i j => .bl (p i j))) (ho' : OpR X (compareOp op') (rI0 fun i j => .bl (p' i j))) (ha : PE X a ta) (hb : PE X b tb) (hc : PE X c tc)
    (hm : lastMarks [op, op'] [b, c] = false := by with_unfolding_all rfl) : PE X (.Compare a [op, op'] [b, c] pos) (tChV p p' ta tb tc) := by
  intro pins s σ H Q I h
  refine Compare_chain (thn (ha pins s σ H _ I h) fun v s1 ⟨x, H1, I1, r1, q1⟩ => chain_link (thn (hb pins s1 σ H1 _ I1 q1) fun u s2 ⟨y, H2, I2, r2, q2⟩ => ?_)) hm
  obtain ⟨i, j, k, rfl, rfl, tq, q⟩ := q2
  refine thn (ho pins s2 σ H2 _ _ v u (fun z H3 => z = .bl (p i j) /\ H3 = H2) I2 r1 r2 ⟨i, j, rfl, rfl, rfl, rfl⟩) fun d s3 ⟨z, H3, I3, r3, e1, e2⟩ => ?_
  subst e1 e2
  cases r3
  refine wpAny_truthy_bool ?_
  cases e : p i j with
  | false =>
    rw [e, Bool.false_and] at q
    exact ite_ff ⟨.bl false, _, I3, rfl, q⟩
  | true =>
    rw [e, Bool.true_and] at q
    exact ite_tt (chain_last (thn (hc pins s3 σ _ _ I3 tq) fun w' s4 ⟨z', H4, I4, r4, e3, e4⟩ => by
      subst e3 e4
      exact ho' pins s4 σ _ _ _ u w' Q I4 r2 r4 ⟨j, k, rfl, rfl, q⟩))
theorem pt_chV {op op' : CmpOp} {p p' : Int -> Int -> Bool} (ho : OpR X (compareOp op) (rI0 fun i j => .bl (p i j))) (ho' : OpR X (compareOp op') (rI0 fun i j => .bl (p' i j))) (ha : PE X a ta) (hb : PE X b tb) (hc : PE X c tc)
    (hm : lastMarks [op, op'] [b, c] = false := by with_unfolding_all rfl) : PT X (.Compare a [op, op'] [b, c] pos) (tTest (tChV p p' ta tb tc)) := by
  intro pins s σ H Q I h
  refine isTrue_chain (thn (ha pins s σ H _ I h) fun v s1 ⟨x, H1, I1, r1, q1⟩ => test_link (thn (hb pins s1 σ H1 _ I1 q1) fun u s2 ⟨y, H2, I2, r2, q2⟩ => ?_)) hm
  obtain ⟨i, j, k, rfl, rfl, tq, kk, ek, q⟩ := q2
  cases ek
  refine thn (ho pins s2 σ H2 _ _ v u (fun z H3 => z = .bl (p i j) /\ H3 = H2) I2 r1 r2 ⟨i, j, rfl, rfl, rfl, rfl⟩) fun d s3 ⟨z, H3, I3, r3, e1, e2⟩ => ?_
  subst e1 e2
  cases r3
  refine wpAny_truthy_bool ?_
  cases e : p i j with
  | false =>
    rw [e, Bool.false_and] at q
    exact ite_ff ⟨_, I3, q⟩
  | true =>
    rw [e, Bool.true_and] at q
    refine ite_tt (test_last (thn (hc pins s3 σ _ _ I3 tq) fun w' s4 ⟨z', H4, I4, r4, e3, e4⟩ => ?_))
    subst e3 e4
    refine thn (ho' pins s4 σ _ _ _ u w' (fun z H5 => z = .bl (p' j k) /\ H5 = H4) I4 r2 r4 ⟨j, k, rfl, rfl, rfl, rfl⟩) fun d' s5 ⟨z2, H5, I5, r5, e5, e6⟩ => ?_
    subst e5 e6
    cases r5
    exact wpAny_truthy_bool ⟨_, I5, q⟩
end
theorem itB {c : Bool} {A B : Prop} (h1 : c = true -> A) (h2 : c = false -> B) : if c = true then A else B := by
  cases c with
  | true =>
    rw [if_pos rfl]
    exact h1 rfl
  | false =>
    rw [if_neg zl6]
    exact h2 rfl
end L2
namespace L2
open PySem PySem.Spec PyProof.Rows
section
variable {X : Cx}
end
end L2
namespace Mix
open PySem L2
def top (i : Nat) : Stmt := PySem.Challenge.pw_nesthall_k24_a_door_closes_what_it_opene.main.body.getD i (.Pass ⟨0, 0, 0, 0⟩)
abbrev sChanged : Stmt := top 2
abbrev sRecorded : Stmt := top 3
abbrev sDone : Stmt := top 4
abbrev sParent : Stmt := top 6
abbrev sEndOf : Stmt := top 7
abbrev sKids : Stmt := top 8
abbrev sLiesIn : Stmt := top 9
abbrev sHallOver : Stmt := top 10
abbrev sGoalsOf : Stmt := top 12
abbrev sBears : Stmt := top 14
abbrev sNext : Stmt := top 15
abbrev sIn : Stmt := top 16
abbrev sOut : Stmt := top 17
abbrev sPlain : Stmt := top 19
abbrev sKeptOf : Stmt := top 20
abbrev sKeeping : Stmt := top 21
abbrev s_sizes_of : Stmt := top 23
abbrev s_steps_in : Stmt := top 24
abbrev s_steps_out : Stmt := top 25
abbrev s_stepped : Stmt := top 26
abbrev s_passed : Stmt := top 27
abbrev sCell : Stmt := top 31
abbrev sMixed : Stmt := top 32
abbrev s_L_name : Stmt := top 33
abbrev s_L_deed : Stmt := top 34
abbrev s_L_deeds : Stmt := top 35
abbrev s_L_guard : Stmt := top 36
abbrev s_L_depths : Stmt := top 37
abbrev sRooms : Stmt := top 38
abbrev s_L_doors : Stmt := top 39
abbrev s_L_chart : Stmt := top 40
abbrev s_L_opened : Stmt := top 41
abbrev s_L_stand : Stmt := top 42
abbrev sWhole : Stmt := top 43
abbrev sLies : Stmt := top 44
abbrev s_L_hall : Stmt := top 45
abbrev sParents : Stmt := top 46
abbrev s_L_is_full : Stmt := top 47
abbrev s_L_step : Stmt := top 48
abbrev s_L_walk : Stmt := top 49
abbrev s_L_ways : Stmt := top 50
abbrev sLawF : Stmt := top 51
abbrev sInit : Stmt := inClass (top 29) 0
abbrev sAdd : Stmt := inClass (top 29) 1
abbrev sNear : Str := "_law_near"
end Mix
namespace Mix
open PySem L2
def spCell (K : PySem.W.Frag) : Sp := fun vs H Q _ => ∃ (a : Addr) (ns : List Int) (k : Int), vs = [.ref a, .int k] /\ SqL K H a (ns.map V.int) /\ ns.length <= 63 /\ ∀ v : Int, Q (.int v) H
def spMixed (K : PySem.W.Frag) : Sp := fun vs H Q _ => ∃ (a : Addr) (ns : List Int) (k salt : Int), vs = [.ref a, .int k, .int salt] /\ SqL K H a (ns.map V.int) /\ ns.length <= 63 /\ (0 <= k /\ k <= 1000000) /\ (0 <= salt /\ salt <= 1000) ∧
  ∀ r : Int, 0 <= r -> r < 2147483648 -> Q (.int r) H
section
variable {P : Program} {w : World} {K : PySem.W.Frag} {mg : Str -> Option Value} {base : Heap}
theorem scC : FnScope ["_law_script", "_law_k"] ["_law_script", "_law_k"] (defScope sCell) := ⟨rfl, rfl, rfl, by decide +kernel, rfl, by decide +kernel, by decide +kernel⟩
theorem ok_cell {f : Addr} {fd : FuncData} (F : Fun K "_law_cell_at" "_law_cell_at" sCell f fd) (ml : mg "len" = none) : FnOk P w K mg base CX0 1 f fd ["_law_script", "_law_k"] (spCell K) := by
  refine F.ok scC (fun vs H Q E h => ?_) (fun cdv A outer s H vs Q E hr h => ?_)
  · obtain ⟨a, ns, k, rfl, _⟩ := h
    rfl
  obtain ⟨a, ns, k, rfl, hS, h63, q⟩ := h
  refine ⟨_, zE (yD (zL yG (zS zN rfl ml PySem.boot_len (zA (pv 0) zD)) zB (zR _)) (zG (zO zB)) zT)
   (zG (zO (yB yU (pv 0) (yC zY (pv 1) (zS zN rfl ml PySem.boot_len (zA (pv 0) zD))) (fun _ _ => rfl)))), ?_⟩
  have hl : (ns.map V.int).length = ns.length := zl0 _
  refine ⟨_, rfl, a, _, rfl, .inl hS, rfl, _, rfl, ?_⟩
  refine ite2 (fun c => ?_) (fun c => ?_)
  · exact q 0
  · have c' : ¬ V.int (((ns.map V.int).length : Nat) : Int) = V.int 0 := of_decide_eq_false (Bool.eq_false_iff.mpr c)
    have hp : (0 : Int) < (((ns.map V.int).length : Nat) : Int) := by
      rw [hl] at c' ⊢
      have : ns.length ≠ 0 := fun z => c' (by rw [z]; rfl)
      omega
    obtain ⟨v, hv⟩ := atI_int (ns := ns) (i := k % (((ns.map V.int).length : Nat) : Int)) (Int.emod_nonneg _ (by omega)) (by have := Int.emod_lt_of_pos k hp; rw [hl] at this ⊢; exact this)
    exact ⟨_, rfl, _, rfl, _, rfl, a, _, rfl, .inl hS, _, _, rfl, rfl, hp, a, _, _, _, rfl, rfl, hS, hv, q v⟩
theorem scM : FnScope ["_law_script", "_law_k", "_law_salt", "_law_cell", "_law_lap", sNear] ["_law_script", "_law_k", "_law_salt"] (defScope sMixed) := ⟨rfl, rfl, rfl, by decide +kernel, rfl, by decide +kernel, by decide +kernel⟩
theorem mulIn {i j : Int} (h0 : 0 <= i) (h1 : i < 18446744073709551616) : CMul i j := .inl ⟨by omega, by omega⟩
theorem ok_mixed {f g : Addr} {fd gd : FuncData} (F : Fun K "_law_mixed" "_law_mixed" sMixed f fd) (G : FnOk P w K mg base CX0 1 g gd ["_law_script", "_law_k"] (spCell K)) (bG : Binds K gd ["_law_script", "_law_k"] []) (kG : KI K g) (mG : mg "_law_cell_at" = some (.ref g))
    (ml : mg "len" = none) (mm : mg "max" = none) : FnOk P w K mg base CX0 2 f fd ["_law_script", "_law_k", "_law_salt"] (spMixed K) := by
  refine F.ok scM (fun vs H Q E h => ?_) (fun cdv A outer s H vs Q E hr h => ?_)
  · obtain ⟨a, ns, k, salt, rfl, _⟩ := h
    rfl
  obtain ⟨a, ns, k, salt, rfl, hS, h63, hk, hs, q⟩ := h
  refine ⟨_, zE (zK (i := 3) scM.nd rfl (Or.inl rfl) (zJ G hr rfl mG kG bG .nil yE (zA (pv 0) (zA (pv 1) zD))))
   (zE (zK (i := 4) scM.nd rfl (Or.inl rfl) (yC yL (pv 1) (zS (call_max2 rfl) rfl mm PyProof.Rows.boot_max (zA zB (zA (zS zN rfl ml PySem.boot_len (zA (pv 0) zD)) zD)))))
   (zE (zK (i := 5) scM.nd rfl (Or.inl rfl) (yC yF (yC yF (yC yF (yC op_and (pv 3) zB) (yC op_mul (yC op_mul zB (pv 1)) (pv 1))) (yC op_mul (yC op_mul zB (pv 2)) (pv 2))) zB))
   (zE (zK (i := 5) scM.nd rfl (Or.inl rfl) (yC zY (yC op_mul (pv 5) zB) zB))
   (zE (zK (i := 5) scM.nd rfl (Or.inl rfl) (yC zY (yC op_mul (pv 5) (pv 5)) zB))
   (zG (zO (yC op_and (yC yF (yC op_shr (pv 3) (yC op_mul zB (yC yF (pv 2) (yC op_mul zB (pv 4))))) (pv 5)) zB))))))), ?_⟩
  have hl : (ns.map V.int).length = ns.length := zl0 _
  refine ⟨_, rfl, _, rfl, a, ns, k, rfl, hS, h63, fun v => ?_⟩
  -- lap
  refine ⟨_, rfl, _, rfl, a, _, rfl, .inl hS, _, _, rfl, _, _, rfl, rfl, ?_⟩
  have hM : 0 < (if (((ns.map V.int).length : Nat) : Int) > 1 then (((ns.map V.int).length : Nat) : Int) else 1) /\ (if (((ns.map V.int).length : Nat) : Int) > 1 then (((ns.map V.int).length : Nat) : Int) else 1) < 1073741824 := by
    rw [hl]
    split <;> omega
  refine ⟨hM, ?_⟩
  have hlap : 0 <= k / (if (((ns.map V.int).length : Nat) : Int) > 1 then (((ns.map V.int).length : Nat) : Int) else 1) := Int.ediv_nonneg hk.1 (Int.le_of_lt hM.1)
  -- near
  refine ⟨_, rfl, _, _, rfl, rfl, _, rfl, _, _, rfl, rfl, mulIn (by decide) (by decide), _, rfl, _, _, rfl, rfl, mulIn (by omega) (by omega), _, _, rfl, rfl, _, rfl, _, _, rfl, rfl, mulIn (by decide) (by decide), _, rfl, _, _, rfl, rfl, mulIn (by omega) (by omega), _, _, rfl, rfl, _, _, rfl, rfl, ?_⟩
  refine ⟨_, rfl, _, _, rfl, rfl, .inr ⟨by decide, by decide⟩, _, _, rfl, rfl, (by show (0 : Int) < 2147483647; decide), ?_⟩
  have b1 := Int.emod_nonneg ((Builtin.bitAnd v 2147483647 + 1009 * k * k + 7919 * salt * salt + 12) * 48271) (show (2147483647 : Int) ≠ 0 by decide)
  have b2 := Int.emod_lt_of_pos ((Builtin.bitAnd v 2147483647 + 1009 * k * k + 7919 * salt * salt + 12) * 48271) (show (0 : Int) < 2147483647 by decide)
  refine ⟨_, rfl, _, rfl, _, _, rfl, rfl, mulIn b1 (Int.lt_trans b2 (by decide)), _, _, rfl, rfl, (by show (0 : Int) < 2147483629; decide), ?_⟩
  refine ⟨_, rfl, _, rfl, _, rfl, _, _, rfl, rfl, mulIn (by decide) (by decide), _, _, rfl, rfl, _, _, rfl, rfl, mulIn (by decide) (by decide), _, _, rfl, rfl, ?_, _, rfl, _, _, rfl, rfl, _, _, rfl, rfl, ?_⟩
  · have nn : ∀ lap : Int, 0 <= lap -> 0 <= 31 * (salt + 128 * lap) := fun lap h => by omega
    exact nn _ hlap
  · exact q _ (maskB _).1 (maskB _).2
end
end Mix
namespace Mix
open PySem L2 Gds
def pV : Option Nat -> V
  | none => .non
  | some j => .int (j : Int)
def natsV (s : List Nat) : List V := s.map fun j : Nat => V.int (j : Int)
theorem cut_take (xs : List V) {d : Int} (h : 0 <= d) : cutV xs none (some d) = xs.take d.toNat := by
  show (xs.drop 0).take ((if d < 0 then (d + (xs.length : Int)).toNat else min d.toNat xs.length) - 0) = _
  rw [if_neg (by omega), List.drop_zero, Nat.sub_zero, List.take_eq_take_iff]
  omega
end Mix
namespace Mix
open PySem L2 Gds Rms
theorem nats_flat (os : List Nat) : (natsV os).all flatV = true := by
  rw [List.all_eq_true]
  intro x hx
  obtain ⟨n, _, rfl⟩ := zl19.mp hx
  rfl
theorem nats_in {os : List Nat} {j : Int} (h : inV (.int j) (natsV os) = true) : ∃ o ∈ os, (o : Int) = j := by
  unfold inV natsV at h
  rw [List.any_map, List.any_eq_true] at h
  obtain ⟨o, ho, e⟩ := h
  exact ⟨o, ho, by simpa [eqV] using e⟩
theorem natsV_at {os : List Nat} {i : Int} (h0 : 0 <= i) (h1 : i < (os.length : Int)) : ∃ o ∈ os, atI (natsV os) i = some (.int (o : Int)) := by
  obtain ⟨v, hv, e⟩ := atI_some (xs := natsV os) (i := i) h0 (by unfold natsV; rw [zl0]; exact h1)
  obtain ⟨o, ho, rfl⟩ := zl19.mp hv
  exact ⟨o, ho, e⟩
theorem zU (os : List Nat) : (natsV os).length = os.length := zl0 _
theorem natsV_app (os : List Nat) (k : Nat) : natsV os ++ [.int (k : Int)] = natsV (os ++ [k]) := by
  unfold natsV
  rw [zl8]
  rfl
end Mix
namespace Prg
open PySem L2 Mix Gds Rms
theorem filter_succ {os : List Nat} {f : Nat -> Bool} {i o : Nat} (h : os[i]? = some o) : (os.take (i + 1)).filter f = (os.take i).filter f ++ (if f o = true then [o] else []) := by
  rw [zl14, h, List.filter_append]
  congr 1
  show [o].filter f = _
  rw [List.filter_cons]
  split <;> rfl
theorem yR {os : List Nat} {i : Nat} {x : V} (h : (natsV os)[i]? = some x) : ∃ hi : i < os.length, x = .int ((os[i] : Nat) : Int) := by
  have hi : i < os.length := by
    have := (zl4.mp h).1
    rw [zU] at this
    exact this
  refine ⟨hi, ?_⟩
  unfold natsV at h
  rw [zl20, zl1 hi] at h
  exact (zl7 h).symm
end Prg
namespace Ans
open PySem L2 Mix Gds
inductive Al {α : Type} (R : V -> α -> Prop) : List V -> List α -> Prop where
  | nil : Al R [] []
  | cons {v : V} {r : α} {vs : List V} {rs : List α} : R v r -> Al R vs rs -> Al R (v :: vs) (r :: rs)
theorem Al.mono {α : Type} {R R' : V -> α -> Prop} {vs : List V} {rs : List α} (x : Al R vs rs) (k : ∀ v r, R v r -> R' v r) : Al R' vs rs := by
  induction x with
  | nil => exact .nil
  | cons h _ ih => exact .cons (k _ _ h) ih
theorem Al.length {α : Type} {R : V -> α -> Prop} {vs : List V} {rs : List α} (x : Al R vs rs) : vs.length = rs.length := by
  induction x with
  | nil => rfl
  | cons _ _ ih => rw [zl12, zl12, ih]
theorem Al.snoc {α : Type} {R : V -> α -> Prop} {vs : List V} {rs : List α} {v : V} {r : α} (x : Al R vs rs) (y : R v r) : Al R (vs ++ [v]) (rs ++ [r]) := by
  induction x with
  | nil => exact .cons y .nil
  | cons h _ ih => exact .cons h ih
theorem Al.get {α : Type} {R : V -> α -> Prop} {vs : List V} {rs : List α} (x : Al R vs rs) : ∀ {k : Nat} {r : α}, rs[k]? = some r -> ∃ v, vs[k]? = some v /\ R v r := by
  induction x with
  | nil => intro k r h; simp at h
  | cons h _ ih =>
    intro k r e
    cases k with
    | zero =>
      simp at e
      subst e
      exact ⟨_, rfl, h⟩
    | succ k => exact ih (by simpa using e)
structure Dg where
  room : Int
  ev : Int
  g : Gd
end Ans
namespace Prg
open PySem L2 Mix Gds Rms
def spEnd : Sp := fun vs H Q _ => ∃ (t : Addr) (rs : List Rm) (k : Nat), vs = [.ref t, .int (k : Int)] /\ Rooms H t rs /\ rs.length <= 40 /\ k < rs.length /\ ∀ e : Nat, Tr.EndOf (depths rs) k e -> Q (.int (e : Int)) H
section
variable {P : Program} {w : World} {K : PySem.W.Frag} {mg : Str -> Option Value} {base : Heap}
theorem sc_end_of : FnScope ["rooms", "room", "depth", "other"] ["rooms", "room"] (defScope sEndOf) := ⟨rfl, rfl, rfl, by decide +kernel, rfl, by decide +kernel, by decide +kernel⟩
theorem ok_end {f : Addr} {fd : FuncData} (F : Fun K "end_of" "end_of" sEndOf f fd) (m_range : mg "range" = none) (m_len : mg "len" = none) : FnOk P w K mg base CX0 1 f fd ["rooms", "room"] spEnd := by
  refine F.ok sc_end_of (fun vs H Q E h => ?_) (fun cdv A outer s H vs Q E hr h => ?_)
  · obtain ⟨t, rs, k, rfl, _⟩ := h
    rfl
  obtain ⟨t, rs, k, rfl, hR, h40, hk, q⟩ := h
  refine ⟨_, (zE (zK (i := 2) sc_end_of.nd rfl (Or.inl rfl) (yB zH (yB zH (pv 0) (pv 1) (fun _ _ => rfl)) zB (fun _ _ => rfl)))
   (zZ (ps_for PassesOwn.never rfl (pi_range2 rfl m_range (zA (yC yF (pv 1) zB) (zA (zS zN rfl m_len PySem.boot_len (zA (pv 0) zD)) zD))) (yJ (i := 3) sc_end_of.nd rfl (Or.inl rfl))
   (zG (yD (zL op_le (yB zH (yB zH (pv 0) (pv 3) (fun _ _ => rfl)) zB (fun _ _ => rfl)) (pv 2) (zR _))
   (zG (zO (pv 3)))
   zT)))
   (zG (zO (zS zN rfl m_len PySem.boot_len (zA (pv 0) zD)))))), ?_⟩
  obtain ⟨vs, a, r, ht, hl, hr0, hat, ha⟩ := hR.at hk
  have ed := depths_at hr0
  have dl := yV rs
  refine ⟨_, rfl, _, rfl, t, vs, _, _, rfl, rfl, SqT.of ht, hat, a, _, _, _, rfl, rfl, SqT.of ha, rfl, ?_⟩
  refine ⟨fun σ' H' => H' = H /\ Tr.EndOf (depths rs) k rs.length /\ ∃ o3 : Option V, σ' = [some (.ref t), some (.int (k : Int)), some (.int r.depth), o3], ?_, ?_⟩
  · refine ⟨_, rfl, _, _, rfl, rfl, _, rfl, t, _, rfl, .inr (SqT.of ht), _, _, rfl, ⟨by omega, by omega, by omega, by omega⟩, ?_⟩
    refine for_range (fun i σ' H' => H' = H /\ (∀ j, k < j -> j < k + 1 + i -> (depths rs).getD k 0 < (depths rs).getD j 0) /\ ∃ o3 : Option V, σ' = [some (.ref t), some (.int (k : Int)), some (.int r.depth), o3]) ⟨rfl, fun j j1 j2 => by omega, none, rfl⟩ ?_ ?_
    · rintro i σ' H' hi ⟨rfl, hin, o3, rfl⟩
      have hj : k + 1 + i < rs.length := by omega
      obtain ⟨vs2, a2, r2, ht2, hl2, hr2, hat2, ha2⟩ := hR.at hj
      rw [ht] at ht2
      cases ht2
      have ed2 := depths_at hr2
      have ej : (k : Int) + 1 + (i : Int) = ((k + 1 + i : Nat) : Int) := by omega
      refine ⟨_, rfl, _, rfl, t, vs, _, _, rfl, rfl, SqT.of ht, (by rw [ej]; exact hat2), a2, _, _, _, rfl, rfl, SqT.of ha2, rfl, _, rfl, _, _, rfl, rfl, _, rfl, ?_⟩
      refine ite2 (fun c => ?_) (fun c => ?_)
      · have c' := of_decide_eq_true c
        refine ⟨_, rfl, ?_⟩
        have z := q (k + 1 + i) ⟨by omega, by omega, hin, fun _ => by rw [ed2, ed]; exact c'⟩
        rw [<- ej] at z
        exact z
      · have c' : ¬ r2.depth <= r.depth := fun z => c (decide_eq_true z)
        refine ⟨rfl, fun j j1 j2 => ?_, _, rfl⟩
        by_cases y : j = k + 1 + i
        · rw [y, ed2, ed]
          omega
        · exact hin j j1 (by omega)
    · rintro σ' H' ⟨rfl, hin, o3, rfl⟩
      exact ⟨rfl, ⟨hk, by omega, fun j j1 j2 => hin j j1 (by omega), fun z => by omega⟩, o3, rfl⟩
  rintro σ' H' ⟨rfl, he, o3, rfl⟩
  refine ⟨_, rfl, t, _, rfl, .inr (SqT.of ht), ?_⟩
  have z := q _ he
  rw [<- hl] at z
  exact z
end
end Prg
namespace Prg
open PySem L2 Mix Gds Rms
def spParent : Sp := fun vs H Q _ => ∃ (t : Addr) (rs : List Rm) (k : Nat), vs = [.ref t, .int (k : Int)] /\ Rooms H t rs /\ Tr.Good (depths rs) /\ rs.length <= 40 /\ k < rs.length /\ ∀ H', Same H H' -> Q (pV (Tr.par (depths rs) k)) H'
section
variable {P : Program} {w : World} {K : PySem.W.Frag} {mg : Str -> Option Value} {base : Heap}
theorem sc_parent : FnScope ["rooms", "room", "depth", "other"] ["rooms", "room"] (defScope sParent) := ⟨rfl, rfl, rfl, by decide +kernel, rfl, by decide +kernel, by decide +kernel⟩
theorem ok_parent {f : Addr} {fd : FuncData} (F : Fun K "parent" "parent" sParent f fd) (m_range : mg "range" = none) : FnOk P w K mg base CX0 1 f fd ["rooms", "room"] spParent := by
  refine F.ok sc_parent (fun vs H Q E h => ?_) (fun cdv A outer s H vs Q E hr h => ?_)
  · obtain ⟨t, rs, k, rfl, _⟩ := h
    rfl
  obtain ⟨t, rs, k, rfl, hR, good, h40, hk, q⟩ := h
  refine ⟨_, (zE (zK (i := 2) sc_parent.nd rfl (Or.inl rfl) (yB zH (yB zH (pv 0) (pv 1) (fun _ _ => rfl)) zB (fun _ _ => rfl)))
   (zZ (ps_for PassesOwn.never rfl (pi_down rfl m_range (pa_b (yC op_sub (pv 1) zB) (pa_u (pe_un un_neg zB) (pa_u (pe_un un_neg zB) zD)))) (yJ (i := 3) sc_parent.nd rfl (Or.inl rfl))
   (zG (yD (zL op_lt (yB zH (yB zH (pv 0) (pv 3) (fun _ _ => rfl)) zB (fun _ _ => rfl)) (pv 2) (zR _))
   (zG (zO (pv 3)))
   zT)))
   (zG (zO pe_non)))), ?_⟩
  obtain ⟨vs, a, r, ht, hl, hr0, hat, ha⟩ := hR.at hk
  have ed := depths_at hr0
  refine ⟨_, rfl, _, rfl, t, vs, _, _, rfl, rfl, SqT.of ht, hat, a, _, _, _, rfl, rfl, SqT.of ha, rfl, ?_⟩
  refine ⟨fun σ' H' => H' = H /\ Tr.par (depths rs) k = none, ?_, ?_⟩
  · refine ⟨_, rfl, _, _, rfl, rfl, _, rfl, _, rfl, (k : Int) - 1, rfl, by omega, by omega, ?_⟩
    refine for_down (fun i σ' H' => H' = H /\ (∀ j, k <= j + i -> j < k -> (depths rs).getD k 0 <= (depths rs).getD j 0) /\ ∃ o3 : Option V, σ' = [some (.ref t), some (.int (k : Int)), some (.int r.depth), o3]) ⟨rfl, fun j j1 j2 => by omega, none, rfl⟩ ?_ ?_
    · rintro i σ' H' hi ⟨rfl, hin, o3, rfl⟩
      have hi' : i < k := by omega
      have hj : k - 1 - i < rs.length := by omega
      obtain ⟨vs2, a2, r2, ht2, hl2, hr2, hat2, ha2⟩ := hR.at hj
      rw [ht] at ht2
      cases ht2
      have ed2 := depths_at hr2
      have ej : (k : Int) - 1 - (i : Int) = ((k - 1 - i : Nat) : Int) := by omega
      refine ⟨_, rfl, _, rfl, t, vs, _, _, rfl, rfl, SqT.of ht, (by rw [ej]; exact hat2), a2, _, _, _, rfl, rfl, SqT.of ha2, rfl, _, rfl, _, _, rfl, rfl, _, rfl, ?_⟩
      refine ite2 (fun c => ?_) (fun c => ?_)
      · have c' := of_decide_eq_true c
        refine ⟨_, rfl, ?_⟩
        have e : Tr.par (depths rs) k = some (k - 1 - i) := Tr.parGo_some (by omega) (by rw [ed2, ed]; exact c') fun j j1 j2 => hin j (by omega) j2
        have z := q _ (Same.refl _)
        rw [e] at z
        rw [ej]
        exact z
      · have c' : ¬ r2.depth < r.depth := fun z => c (decide_eq_true z)
        refine ⟨rfl, fun j j1 j2 => ?_, _, rfl⟩
        by_cases y : j = k - 1 - i
        · rw [y, ed2, ed]
          omega
        · exact hin j (by omega) j2
    · rintro σ' H' ⟨rfl, hin, o3, rfl⟩
      exact ⟨rfl, Tr.parGo_none fun j hj => hin j (by omega) hj⟩
  rintro σ' H' ⟨rfl, e⟩
  have z := q _ (Same.refl _)
  rw [e] at z
  exact z
end
end Prg
namespace Prg
open PySem L2 Mix Gds Rms
def spLies : Sp := fun vs H Q _ => ∃ (t : Addr) (rs : List Rm) (one other : Nat), vs = [.ref t, .int (one : Int), .int (other : Int)] /\ Rooms H t rs /\ Tr.Good (depths rs) /\ rs.length <= 40 /\ one < rs.length /\ other < rs.length /\ ∀ H', Same H H' -> Q (.bl (Tr.liesIn (depths rs) one other)) H'
section
variable {P : Program} {w : World} {K : PySem.W.Frag} {mg : Str -> Option Value} {base : Heap}
theorem sc_lies_in : FnScope ["rooms", "one", "other"] ["rooms", "one", "other"] (defScope sLiesIn) := ⟨rfl, rfl, rfl, by decide +kernel, rfl, by decide +kernel, by decide +kernel⟩
theorem ok_lies {n : Nat} {f ge : Addr} {fd de : FuncData} (F : Fun K "lies_in" "lies_in" sLiesIn f fd) (G_end_of : FnOk P w K mg base CX0 n ge de ["rooms", "room"] spEnd) (b_end_of : Binds K de ["rooms", "room"] []) (k_end_of : KI K ge) (m_end_of : mg "end_of" = some (.ref ge)) :
    FnOk P w K mg base CX0 (n + 1) f fd ["rooms", "one", "other"] spLies := by
  refine F.ok sc_lies_in (fun vs H Q E h => ?_) (fun cdv A outer s H vs Q E hr h => ?_)
  · obtain ⟨t, rs, one, other, rfl, _⟩ := h
    rfl
  obtain ⟨t, rs, one, other, rfl, hR, good, h40, h1, h2, q⟩ := h
  have q' := q H (Same.refl _)
  have dl := yV rs
  refine ⟨_, (zG (zO (pe_chain op_lt op_lt (pv 2) (pv 1) (zJ G_end_of hr rfl m_end_of k_end_of b_end_of .nil yE (zA (pv 0) (zA (pv 2) zD)))))), ?_⟩
  refine ⟨_, rfl, _, rfl, _, _, rfl, rfl, _, rfl, ?_⟩
  refine ite2 (fun c => ?_) (fun c => ?_)
  · have c' := of_decide_eq_true c
    refine ⟨_, rfl, _, rfl, t, rs, other, rfl, hR, h40, h2, fun e he => ⟨_, _, rfl, rfl, ?_⟩⟩
    rw [Tr.lies_end he (by omega), decide_eq_true (show other < one by omega), Bool.true_and] at q'
    have e2 : decide (one < e) = decide ((one : Int) < (e : Int)) := decide_eq_decide.mpr (by omega)
    rw [e2] at q'
    exact q'
  · have c' : ¬ (other : Int) < (one : Int) := fun z => c (decide_eq_true z)
    have e1 : Tr.liesIn (depths rs) one other = false := by
      unfold Tr.liesIn
      rw [Bool.eq_false_iff]
      intro z
      have := Tr.ups_lt (List.contains_iff_mem.mp z)
      omega
    rw [e1] at q'
    exact q'
end
end Prg
namespace K09
open PySem L2 Mix Gds Rms
def isOne (rs : List Rm) (x : Nat) : Bool := match rs[x]? with
  | some r => decide (V.str r.kind = V.str "one")
  | none => false
def spHall : Sp := fun vs H Q _ => ∃ (t : Addr) (rs : List Rm) (one other : Nat), vs = [.ref t, .int (one : Int), .int (other : Int)] /\ Rooms H t rs /\ Tr.Good (depths rs) /\ rs.length <= 40 /\ one < rs.length /\ other < rs.length /\ ∀ H', Same H H' -> Q (pV (Tr.hall (depths rs) (isOne rs) one other)) H'
def hgt : Option Nat -> Nat
  | none => 0
  | some j => j + 1
end K09
namespace Prg
open PySem L2 Mix Gds Rms
section
variable {P : Program} {w : World} {K : PySem.W.Frag} {mg : Str -> Option Value} {base : Heap}
theorem hall_step (ds : List Int) (f : Nat -> Bool) (b : Nat) (k : Nat) : Tr.hall ds f k b = match Tr.par ds k with
    | none => none
    | some j => if ((Tr.ups ds b).contains j && f j) = true then some j else Tr.hall ds f j b := by
  unfold Tr.hall
  cases e : Tr.par ds k with
  | none =>
    rw [Tr.ups_none e]
    rfl
  | some j =>
    rw [Tr.ups_some e, List.find?_cons]
    show _ = if ((Tr.ups ds b).contains j && f j) = true then some j else _
    cases h : ((Tr.ups ds b).contains j && f j) with
    | true => rfl
    | false => rfl
theorem sc_hall_over : FnScope ["rooms", "one", "other", "hall"] ["rooms", "one", "other"] (defScope sHallOver) := ⟨rfl, rfl, rfl, by decide +kernel, rfl, by decide +kernel, by decide +kernel⟩
theorem ok_hall {n : Nat} {f gp gl : Addr} {fd dp dl' : FuncData} (F : Fun K "hall_over" "hall_over" sHallOver f fd) (G_parent : FnOk P w K mg base CX0 n gp dp ["rooms", "room"] spParent) (b_parent : Binds K dp ["rooms", "room"] []) (k_parent : KI K gp) (m_parent : mg "parent" = some (.ref gp))
    (G_lies_in : FnOk P w K mg base CX0 n gl dl' ["rooms", "one", "other"] spLies) (b_lies_in : Binds K dl' ["rooms", "one", "other"] []) (k_lies_in : KI K gl) (m_lies_in : mg "lies_in" = some (.ref gl)) :
    FnOk P w K mg base CX0 (n + 1) f fd ["rooms", "one", "other"] K09.spHall := by
  refine F.ok sc_hall_over (fun vs H Q E h => ?_) (fun cdv A outer s H vs Q E hr h => ?_)
  · obtain ⟨t, rs, one, other, rfl, _⟩ := h
    rfl
  obtain ⟨t, rs, one, other, rfl, hR, good, h40, h1, h2, q⟩ := h
  refine ⟨_, (zE (zK (i := 3) sc_hall_over.nd rfl (Or.inl rfl) (zJ G_parent hr rfl m_parent k_parent b_parent .nil yE (zA (pv 0) (zA (pv 1) zD))))
   (zZ (ps_while PassesOwn.never (zL op_notN (pv 3) pe_non (zR _))
   (zE (yD (pt_cut (PW.pt (pw_and (zL yG (yB zH (yB zH (pv 0) (pv 3) (fun _ _ => rfl)) zB (fun _ _ => rfl)) zP (zR _)) (yP (pt_val (zJ G_lies_in hr rfl m_lies_in k_lies_in b_lies_in .nil yE (zA (pv 0) (zA (pv 2) (zA (pv 3) zD)))))))))
   (zG (zO (pv 3)))
   zT)
   (zG (zK (i := 3) sc_hall_over.nd rfl (Or.inl rfl) (zJ G_parent hr rfl m_parent k_parent b_parent .nil yE (zA (pv 0) (zA (pv 3) zD)))))))
   (zG (zO pe_non)))), ?_⟩
  refine ⟨_, rfl, _, rfl, t, rs, one, rfl, hR, good, h40, h1, fun H1 s1 => ?_⟩
  refine ⟨fun σ' H' => Same H H' /\ Tr.hall (depths rs) (K09.isOne rs) one other = none, ?_, ?_⟩
  · refine ⟨fun m σ' H' => ∃ k : Nat, k < rs.length /\ m = K09.hgt (Tr.par (depths rs) k) /\ Same H H' /\ Tr.hall (depths rs) (K09.isOne rs) one other = Tr.hall (depths rs) (K09.isOne rs) k other /\ σ' = [some (.ref t), some (.int (one : Int)), some (.int (other : Int)), some (pV (Tr.par (depths rs) k))], ⟨_, one, h1, rfl, s1, rfl, rfl⟩, ?_⟩
    rintro m σ' H' ⟨k, hk, rfl, s2, hh, rfl⟩
    have hs := hall_step (depths rs) (K09.isOne rs) other k
    cases e : Tr.par (depths rs) k with
    | none =>
      rw [e] at hs
      exact ⟨_, rfl, rfl, _, rfl, ifF rfl ⟨s2, hh.trans hs⟩⟩
    | some j =>
      rw [e] at hs
      have hj : j < rs.length := Nat.lt_trans (Tr.par_lt e) hk
      have hR2 := hR.mono (KeepT.of s2)
      obtain ⟨vs, a, r, ht, hl, hr0, hat, ha⟩ := hR2.at hj
      have io : K09.isOne rs j = decide (V.str r.kind = V.str "one") := by
        unfold K09.isOne
        rw [hr0]
      refine ⟨_, rfl, rfl, _, rfl, ifT rfl ?_⟩
      refine ⟨fun σ' H2 => Same H H2 /\ Tr.hall (depths rs) (K09.isOne rs) one other = Tr.hall (depths rs) (K09.isOne rs) j other /\ σ' = [some (.ref t), some (.int (one : Int)), some (.int (other : Int)), some (pV (Tr.par (depths rs) j))], ?_, ?_⟩
      · rintro σ' H2 ⟨s3, hh2, rfl⟩
        refine ⟨K09.hgt (Tr.par (depths rs) j), ?_, j, hj, rfl, s3, hh2, rfl⟩
        cases e2 : Tr.par (depths rs) j with
        | none => show 0 < j + 1; omega
        | some i => have := Tr.par_lt e2; show i + 1 < j + 1; omega
      · refine ⟨fun b H2 => Same H' H2 /\ b = ((Tr.ups (depths rs) other).contains j && K09.isOne rs j), ?_, ?_⟩
        · refine ⟨_, rfl, _, rfl, t, vs, _, _, rfl, rfl, SqT.of ht, hat, a, _, _, _, rfl, rfl, SqT.of ha, rfl, rfl, _, rfl, ?_⟩
          refine ite2 (fun c => ?_) (fun c => ?_)
          · refine ⟨_, rfl, _, rfl, _, rfl, t, rs, other, j, rfl, hR2, good, h40, h2, hj, fun H2 s3 => ⟨_, rfl, s3, ?_⟩⟩
            rw [io, c, Bool.and_true]
            rfl
          · refine ⟨Same.refl _, ?_⟩
            rw [io, Bool.eq_false_iff.mpr c, Bool.and_false]
        · rintro b H2 ⟨s3, rfl⟩
          refine ite2 (fun c => ?_) (fun c => ?_)
          · refine ⟨_, rfl, ?_⟩
            have z := q H2 (s2.trans s3)
            rw [hh, hs] at z
            simp only [c, if_true] at z
            exact z
          · refine ⟨_, rfl, _, rfl, t, rs, j, rfl, hR.mono (KeepT.of (s2.trans s3)), good, h40, hj, fun H3 s4 => ⟨(s2.trans s3).trans s4, ?_, rfl⟩⟩
            rw [hh, hs]
            simp only [c, if_false]
            rfl
  rintro σ' H' ⟨s2, e⟩
  have z := q _ s2
  rw [e] at z
  exact z
end
end Prg
namespace Prg
open PySem L2 Mix Gds Rms
def spKids : Sp := fun vs H Q _ => ∃ (t : Addr) (rs : List Rm) (k : Nat), vs = [.ref t, .int (k : Int)] /\ Rooms H t rs /\ Tr.Good (depths rs) /\ rs.length <= 40 /\ k < rs.length /\ ∀ (p : Addr) (H' : Hp), Same H H' -> H p = none -> H' p = some (.lst (natsV (Tr.kids (depths rs) k))) -> Q (.ref p) H'
section
variable {P : Program} {w : World} {K : PySem.W.Frag} {mg : Str -> Option Value} {base : Heap}
theorem sc_kids : FnScope ["rooms", "room", "depth"] ["rooms", "room"] (defScope sKids) := ⟨rfl, rfl, rfl, by decide +kernel, rfl, by decide +kernel, by decide +kernel⟩
theorem ok_kids {n : Nat} {f ge : Addr} {fd de : FuncData} (F : Fun K "kids" "kids" sKids f fd) (G_end_of : FnOk P w K mg base CX0 n ge de ["rooms", "room"] spEnd) (b_end_of : Binds K de ["rooms", "room"] []) (k_end_of : KI K ge) (m_end_of : mg "end_of" = some (.ref ge)) (m_range : mg "range" = none) :
    FnOk P w K mg base CX0 (n + 1) f fd ["rooms", "room"] spKids := by
  refine F.ok sc_kids (fun vs H Q E h => ?_) (fun cdv A outer s H vs Q E hr h => ?_)
  · obtain ⟨t, rs, k, rfl, _⟩ := h
    rfl
  obtain ⟨t, rs, k, rfl, hR, good, h40, hk, q⟩ := h
  refine ⟨_, (zE (zK (i := 2) sc_kids.nd rfl (Or.inr rfl) (yC yF (yB zH (yB zH (pv 0) (pv 1) (fun _ _ => rfl)) zB (fun _ _ => rfl)) zB))
   (zG (zO (yT (caps := [(2, "depth"), (0, "rooms")]) rfl (show CompSc (defScope sKids) ["rooms", "room", "depth"] _ _ _ from ⟨rfl, rfl, by decide +kernel, by decide +kernel, by decide +kernel, by decide +kernel, by decide +kernel⟩) (pi_range2 rfl m_range (zA (yC yF (pv 1) zB) (zA (zJ G_end_of hr rfl m_end_of k_end_of b_end_of .nil yE (zA (pv 0) (zA (pv 1) zD))) zD))) (fun _ _ _ _ _ _ => pifs_one (zL yG (yB (r := rIxT K) zH (yB (r := rIxT K) zH (pv 2) (pv 0) (fun _ _ => rfl)) zB (fun _ _ => rfl)) (pv 1) (zR _))) (fun _ _ _ _ _ _ => (pv 0)))))), ?_⟩
  obtain ⟨vs, a, r, ht, hl, hr0, hat, ha⟩ := hR.at hk
  have ed := depths_at hr0
  have dl := yV rs
  refine ⟨_, rfl, _, rfl, t, vs, _, _, rfl, rfl, SqT.of ht, hat, a, _, _, _, rfl, rfl, SqT.of ha, rfl, _, _, rfl, rfl, ?_⟩
  refine ⟨_, rfl, _, _, rfl, rfl, _, rfl, _, rfl, t, rs, k, rfl, hR, h40, hk, fun e he => ?_⟩
  have he1 := he.lt
  have he2 := he.le
  refine ⟨_, _, rfl, ⟨by omega, by omega, by omega, by omega⟩, ?_⟩
  refine comp_range (fun i acc H' => H' = H /\ acc = natsV (Tr.kidsTo (depths rs) k (k + 1 + i))) ⟨rfl, by rw [Tr.kidsTo_low _ _ _ (by omega)]; rfl⟩ (fun i acc H' hi ⟨e1, e2⟩ => ?_) (fun acc H' ⟨e1, e2⟩ p hp => ?_)
  · subst e1 e2
    have hj : k + 1 + i < rs.length := by omega
    obtain ⟨vs2, a2, r2, ht2, hl2, hr2, hat2, ha2⟩ := hR.at hj
    rw [ht] at ht2
    cases ht2
    have ed2 := depths_at hr2
    have ej : (k : Int) + 1 + (i : Int) = ((k + 1 + i : Nat) : Int) := by omega
    have pe := Tr.par_end good he (j := k + 1 + i) (by omega)
    refine ⟨_, rfl, _, rfl, t, vs, _, _, rfl, rfl, SqT.of ht, (by rw [ej]; exact hat2), a2, _, _, _, rfl, rfl, SqT.of ha2, rfl, _, rfl, rfl, _, rfl, ?_⟩
    refine ite2 (fun c => ?_) (fun c => ?_)
    · have c' := of_decide_eq_true c
      injection c' with c'
      refine ⟨_, rfl, ?_, rfl, ?_⟩
      · unfold natsV
        have := Tr.kidsTo_len (depths rs) k (k + 1 + i)
        exact zV (by rw [zl0]; omega)
      · rw [show k + 1 + (i + 1) = (k + 1 + i) + 1 by omega, Tr.kidsTo_succ, if_pos (by rw [pe.mpr ⟨by omega, by omega, by rw [ed2, ed]; exact c'⟩]; simp), ej]
        unfold natsV
        rw [zl8]
        rfl
    · refine ⟨rfl, ?_⟩
      rw [show k + 1 + (i + 1) = (k + 1 + i) + 1 by omega, Tr.kidsTo_succ, if_neg, zl17]
      intro z
      have y := (pe.mp (eq_of_beq z)).2.2
      rw [ed2, ed] at y
      exact c (decide_eq_true (by rw [y]))
  · subst e1 e2
    refine q p _ (zF hp _) hp ?_
    rw [zC, Tr.kids_end good he, show k + 1 + ((e : Int) - ((k : Int) + 1)).toNat = e by omega]
end
end Prg
namespace K14
open PySem L2 Mix Gds Rms
def under (ds : List Int) (o : Nat) : Option Nat -> Bool
  | none => true
  | some u => Tr.liesIn ds o u
def outsOf (ds : List Int) (un : Option Nat) (os : List Nat) : List Nat := (os.filter fun o => under ds o un).reverse
def spOut : Sp := fun vs H Q _ => ∃ (t to' : Addr) (rs : List Rm) (un : Option Nat) (os : List Nat), vs = [.ref t, pV un, .ref to'] /\ Rooms H t rs /\ Tr.Good (depths rs) /\ rs.length <= 40 /\ (∀ u, un = some u -> u < rs.length) /\ H to' = some (.tup (natsV os)) /\ (∀ o ∈ os, o < rs.length) /\ os.length <= 40 /\ os.Pairwise (· < ·) ∧
  ∀ (p : Addr) (H' : Hp), Same H H' -> H p = none -> H' p = some (.lst (natsV (outsOf (depths rs) un os))) -> Q (.ref p) H'
theorem outs_fall (ds : List Int) (un : Option Nat) {os : List Nat} (h : os.Pairwise (· < ·)) : (outsOf ds un os).Pairwise (· > ·) := by
  unfold outsOf
  rw [List.pairwise_reverse]
  exact h.filter _
theorem in_nats (k : Nat) (os : List Nat) : inV (.int (k : Int)) (natsV os) = decide (k ∈ os) := by
  rw [Bool.eq_iff_iff, decide_eq_true_iff]
  constructor
  · intro h
    obtain ⟨o, ho, e⟩ := nats_in h
    rw [show k = o by omega]
    exact ho
  · intro h
    unfold inV natsV
    rw [List.any_map, List.any_eq_true]
    exact ⟨k, h, by simp [eqV]⟩
end K14
namespace Prg
open PySem L2 Mix Gds Rms
section
variable {P : Program} {w : World} {K : PySem.W.Frag} {mg : Str -> Option Value} {base : Heap}
theorem sc_goings_out : FnScope ["rooms", "under", "opening", "end"] ["rooms", "under", "opening"] (defScope sOut) := ⟨rfl, rfl, rfl, by decide +kernel, rfl, by decide +kernel, by decide +kernel⟩
theorem ok_goings_out {n : Nat} {f ge : Addr} {fd de : FuncData} (F : Fun K "goings_out" "goings_out" sOut f fd) (G_end_of : FnOk P w K mg base CX0 n ge de ["rooms", "room"] spEnd) (b_end_of : Binds K de ["rooms", "room"] []) (k_end_of : KI K ge) (m_end_of : mg "end_of" = some (.ref ge)) (m_sorted : mg "sorted" = none) :
    FnOk P w K mg base CX0 (n + 1) f fd ["rooms", "under", "opening"] K14.spOut := by
  refine F.ok sc_goings_out (fun vs H Q E h => ?_) (fun cdv A outer s H vs Q E hr h => ?_)
  · obtain ⟨t, to', rs, un, os, rfl, _⟩ := h
    rfl
  obtain ⟨t, to', rs, un, os, rfl, hR, good, h40, hun, hto, hos, los, inc, q⟩ := h
  refine ⟨_, (zE (yD (zL op_isN (pv 1) pe_non (zR _))
   (zG (zO (pe_sortedR rfl m_sorted (zA (pv 2) zD))))
   zT)
   (zE (zK (i := 3) sc_goings_out.nd rfl (Or.inr rfl) (zJ G_end_of hr rfl m_end_of k_end_of b_end_of .nil yE (zA (pv 0) (zA (pv 1) zD))))
   (zG (zO (pe_sortedR rfl m_sorted (zA (yT (caps := [(1, "under"), (3, "end")]) rfl (show CompSc (defScope sOut) ["rooms", "under", "opening", "end"] _ _ _ from ⟨rfl, rfl, by decide +kernel, by decide +kernel, by decide +kernel, by decide +kernel, by decide +kernel⟩) (pi_tup (pv 2)) (fun _ _ _ _ _ _ => pifs_one (pt_chV op_lt op_lt (pv 1) (pv 0) (pv 2))) (fun _ _ _ _ _ _ => (pv 0))) zD)))))), ?_⟩
  have dl := yV rs
  cases un with
  | none =>
    refine ⟨_, rfl, rfl, _, rfl, ifT rfl ⟨_, rfl, to', _, rfl, .inr (SqT.of (by rw [<- nats_ints]; exact hto)), by rw [zl0]; omega, fun p rs' hp perm srt => ?_⟩⟩
    have e := sorted_fall perm srt inc
    subst e
    refine q p _ (zF hp _) hp ?_
    rw [zC]
    show some (HO.lst _) = some (HO.lst (natsV (K14.outsOf (depths rs) none os)))
    rw [show K14.outsOf (depths rs) none os = os.reverse by
      unfold K14.outsOf
      rw [(List.filter_eq_self (p := fun o => K14.under (depths rs) o none)).mpr fun _ _ => rfl], <- nats_ints]
    rfl
  | some u =>
    have hu := hun u rfl
    refine ⟨_, rfl, rfl, _, rfl, ifF rfl ⟨_, rfl, _, rfl, t, rs, u, rfl, hR, h40, hu, fun e he => ?_⟩⟩
    refine ⟨_, rfl, to', rfl, ⟨_, SqT.of hto⟩, ?_⟩
    refine comp_tup (K := K) (a := to') (xs := natsV os) (fun i acc H' => H' = H /\ acc = natsV ((os.take i).filter fun o => Tr.liesIn (depths rs) o u)) ⟨rfl, rfl⟩ (fun i acc H' ⟨e, _⟩ => by subst e; exact SqT.of hto) (fun i x acc H' hx ⟨e1, e2⟩ => ?_) (fun acc H' ⟨e1, e2⟩ p hp => ?_)
    · subst e1 e2
      obtain ⟨hi, rfl⟩ := yR hx
      have ho := hos _ (zl22 hi)
      have el := Tr.lies_end he (a := os[i]) (by omega)
      refine ⟨_, rfl, _, rfl, _, _, (e : Int), rfl, rfl, ⟨_, rfl, rfl, rfl⟩, _, rfl, ?_⟩
      have ec : (decide ((u : Int) < ((os[i] : Nat) : Int)) && decide (((os[i] : Nat) : Int) < (e : Int))) = Tr.liesIn (depths rs) os[i] u := by
        rw [el]
        congr 1
        · exact decide_eq_decide.mpr (by omega)
        · exact decide_eq_decide.mpr (by omega)
      rw [filter_succ (zl1 hi)]
      have ll := zl21 (fun o => Tr.liesIn (depths rs) o u) (os.take i)
      rw [zl13] at ll
      refine itB (fun c => ?_) (fun c => ?_)
      · have c' : Tr.liesIn (depths rs) os[i] u = true := ec.symm.trans c
        rw [if_pos c', <- natsV_app]
        exact ⟨_, rfl, zV (by rw [zU]; omega), rfl, rfl⟩
      · have c' : Tr.liesIn (depths rs) os[i] u = false := ec.symm.trans c
        rw [if_neg (by rw [c']; exact zl6), zl17]
        exact ⟨rfl, rfl⟩
    subst e1 e2
    rw [zl9 (by rw [zU]; exact zl3 _)]
    have ll := zl21 (fun o => Tr.liesIn (depths rs) o u) os
    refine ⟨p, _, rfl, .inl (SqL.of (by rw [zC]; unfold natsV; rw [nats_ints])), by rw [zl0]; omega, fun p2 rs' hp2 perm srt => ?_⟩
    have e := sorted_fall perm srt (inc.filter _)
    subst e
    refine q p2 _ ((zF hp _).trans (zF hp2 _)) ((zF hp _).free hp2) ?_
    rw [zC, <- nats_ints]
    rfl
end
end Prg
namespace Prg
open PySem L2 Mix Gds Rms
def kindAt (rs : List Rm) (p : Nat) : Str := (rs.map (·.kind)).getD p ("" : Str)
theorem kind_at {rs : List Rm} {p : Nat} {r : Rm} (h : rs[p]? = some r) : kindAt rs p = r.kind := by
  unfold kindAt
  rw [zl11, zl20, h]
  rfl
def alB (rs : List Rm) (p : Nat) : Bool := decide (kindAt rs p = ("all" : Str))
def onB (rs : List Rm) (p : Nat) : Bool := decide (kindAt rs p = ("one" : Str))
theorem up_next {ds : List Int} {j k : Nat} (hj : j < ds.length) (h : Tr.par ds j = some k) : k + 1 < ds.length /\ ds.getD k 0 < ds.getD (k + 1) 0 := by
  obtain ⟨h1, h2, h3⟩ := Tr.par_iff.mp h
  refine ⟨by omega, ?_⟩
  by_cases q : j = k + 1
  · rw [<- q]
    exact h2
  · have := h3 (k + 1) (by omega) (by omega)
    omega
theorem Fit.par {rs : List Rm} (f : Fit rs) {j k : Nat} (hj : j < rs.length) (h : Tr.par (depths rs) j = some k) : alB rs k = true ∨ onB rs k = true := by
  have ld := yV rs
  obtain ⟨a, b⟩ := up_next (by omega) h
  have e := zl1 (show k < rs.length by omega)
  have q := f k _ e
  rw [if_pos ⟨by omega, b⟩] at q
  unfold alB onB
  rw [kind_at e]
  rcases q with q | q
  · exact .inr (decide_eq_true q)
  · exact .inl (decide_eq_true q)
theorem Fit.one {rs : List Rm} (g : Tr.Good (depths rs)) (f : Fit rs) (k : Nat) (h : onB rs k = true) : Tr.kids (depths rs) k ≠ [] := by
  have h' := of_decide_eq_true h
  have ld := yV rs
  by_cases hk : k < rs.length
  · have e := zl1 hk
    rw [kind_at e] at h'
    have q := f k _ e
    by_cases c : k + 1 < rs.length /\ (depths rs).getD k 0 < (depths rs).getD (k + 1) 0
    · have m : k + 1 ∈ Tr.kids (depths rs) k := Tr.mem_kids.mpr ⟨by omega, Tr.par_iff.mpr ⟨by omega, c.2, fun i h1 h2 => by omega⟩⟩
      intro z
      rw [z] at m
      cases m
    · rw [if_neg c, h'] at q
      exact absurd q (by decide)
  · unfold kindAt at h'
    rw [zl11, List.getElem?_eq_none (by rw [zl0]; omega)] at h'
    exact absurd h' (by decide)
def GoalsIn (H : Hp) (pg : Addr) (rs : List Rm) (gs : List Nat) : Prop := H pg = some (.lst (natsV gs)) /\ (∀ g ∈ gs, g < rs.length) /\ gs.length <= 100
theorem GoalsIn.mono {H H' : Hp} {pg : Addr} {rs : List Rm} {gs : List Nat} (h : GoalsIn H pg rs gs) (s : Same H H') : GoalsIn H' pg rs gs := ⟨s _ _ h.1, h.2⟩
def spBears : Sp := fun vs H Q _ => ∃ (t pg : Addr) (rs : List Rm) (k : Nat) (gs : List Nat), vs = [.ref t, .int (k : Int), .ref pg] /\ Rooms H t rs /\ rs.length <= 40 /\ k < rs.length /\ GoalsIn H pg rs gs /\ ∀ H', Same H H' -> Q (.bl (Tr.bears (depths rs) gs k)) H'
def spNext : Sp := fun vs H Q _ => ∃ (t pg : Addr) (rs : List Rm) (k : Nat) (gs : List Nat), vs = [.ref t, .int (k : Int), .ref pg] /\ Rooms H t rs /\ Tr.Good (depths rs) /\ rs.length <= 40 /\ k < rs.length /\ GoalsIn H pg rs gs ∧
  ∀ (p : Addr) (H' : Hp), Same H H' -> H p = none -> H' p = some (.lst (natsV (Tr.next (depths rs) (alB rs) gs k))) -> Q (.ref p) H'
def spIn : Sp := fun vs H Q _ => ∃ (t pg : Addr) (rs : List Rm) (un : Option Nat) (gs : List Nat), vs = [.ref t, pV un, .ref pg] /\ Rooms H t rs /\ Tr.Good (depths rs) /\ rs.length <= 40 /\ (∀ u, un = some u -> u < rs.length) /\ GoalsIn H pg rs gs ∧
  ∀ (p : Addr) (ms : List Nat) (H' : Hp), Same H H' -> H p = none -> H' p = some (.lst (natsV ms)) -> Tr.Ins (depths rs) (alB rs) gs un ms -> Q (.ref p) H'
end Prg
namespace Prg
open PySem L2 Mix Gds Rms
section
variable {P : Program} {w : World} {K : PySem.W.Frag} {mg : Str -> Option Value} {base : Heap}
theorem sc_bears_goal : FnScope ["rooms", "room", "goals", "end"] ["rooms", "room", "goals"] (defScope sBears) := ⟨rfl, rfl, rfl, by decide +kernel, rfl, by decide +kernel, by decide +kernel⟩
theorem ok_bears_goal {n : Nat} {f ge : Addr} {fd de : FuncData} (F : Fun K "bears_goal" "bears_goal" sBears f fd) (G_end_of : FnOk P w K mg base CX0 n ge de ["rooms", "room"] spEnd) (b_end_of : Binds K de ["rooms", "room"] []) (k_end_of : KI K ge) (m_end_of : mg "end_of" = some (.ref ge)) (m_any : mg "any" = none) :
    FnOk P w K mg base CX0 (n + 1) f fd ["rooms", "room", "goals"] spBears := by
  refine F.ok sc_bears_goal (fun vs H Q E h => ?_) (fun cdv A outer s H vs Q E hr h => ?_)
  · obtain ⟨t, pg, rs, k, gs, rfl, _⟩ := h
    rfl
  obtain ⟨t, pg, rs, k, gs, rfl, hR, h40, hk, hG, q⟩ := h
  refine ⟨_, (zE (zK (i := 3) sc_bears_goal.nd rfl (Or.inr rfl) (zJ G_end_of hr rfl m_end_of k_end_of b_end_of .nil yE (zA (pv 0) (zA (pv 1) zD))))
   (zG (zO (zS (call_anyB rfl) rfl m_any PyProof.Rows.boot_any (zA (yT (caps := [(1, "room"), (3, "end")]) rfl (show CompSc (defScope sBears) ["rooms", "room", "goals", "end"] _ _ _ from ⟨rfl, rfl, by decide +kernel, by decide +kernel, by decide +kernel, by decide +kernel, by decide +kernel⟩) (yM (pv 2)) (fun _ _ _ _ _ _ => pifs_nil) (fun _ _ _ _ _ _ => (pe_chV op_le op_lt (pv 1) (pv 0) (pv 2)))) zD))))), ?_⟩
  obtain ⟨hg, hgl, hg100⟩ := hG
  have dl := yV rs
  refine ⟨_, rfl, _, rfl, t, rs, k, rfl, hR, h40, hk, fun e he => ?_⟩
  refine ⟨_, rfl, pg, rfl, ⟨_, SqL.of hg⟩, ?_⟩
  refine yS (K := K) (a := pg) (xs := natsV gs) (fun i acc H' => H' = H /\ acc = ((gs.take i).map fun g : Nat => (decide ((k : Int) <= (g : Int)) && decide ((g : Int) < (e : Int)))).map V.bl) ⟨rfl, rfl⟩ (fun i acc H' ⟨e, _⟩ => by subst e; exact SqL.of hg) (fun i x acc H' hx ⟨e1, e2⟩ => ?_) (fun acc H' ⟨e1, e2⟩ p hp => ?_)
  · subst e1 e2
    obtain ⟨hi, rfl⟩ := yR hx
    refine ⟨_, rfl, _, rfl, _, _, (e : Int), rfl, rfl, ⟨_, rfl, rfl, rfl⟩, zV (by rw [zl0, zl0, zl13]; omega), rfl, ?_⟩
    rw [zl14, zl1 hi, zl8, zl8]
    rfl
  subst e1 e2
  rw [zl9 (by rw [zU]; exact zl3 _)]
  refine ⟨p, _, rfl, SqL.of zC, ?_⟩
  have z := q (upd H' p (.lst ((gs.map fun g : Nat => (decide ((k : Int) <= (g : Int)) && decide ((g : Int) < (e : Int)))).map V.bl))) (zF hp _)
  have ee : (gs.map fun g : Nat => (decide ((k : Int) <= (g : Int)) && decide ((g : Int) < (e : Int)))).any id = Tr.bears (depths rs) gs k := by
    unfold Tr.bears
    rw [List.any_map, Bool.eq_iff_iff, List.any_eq_true, List.any_eq_true]
    have he1 := he.lt
    have pt : ∀ g ∈ gs, ((id ∘ fun g : Nat => (decide ((k : Int) <= (g : Int)) && decide ((g : Int) < (e : Int)))) g = true ↔ (g == k || Tr.liesIn (depths rs) g k) = true) := fun g hg' => by
      have := hgl g hg'
      rw [Tr.lies_end he (by omega)]
      show (decide ((k : Int) <= (g : Int)) && decide ((g : Int) < (e : Int))) = true ↔ _
      rw [Bool.or_eq_true, Bool.and_eq_true, Bool.and_eq_true, decide_eq_true_iff, decide_eq_true_iff, decide_eq_true_iff, decide_eq_true_iff, beq_iff_eq]
      omega
    exact ⟨fun ⟨g, a, b⟩ => ⟨g, a, (pt g a).mp b⟩, fun ⟨g, a, b⟩ => ⟨g, a, (pt g a).mpr b⟩⟩
  rw [ee]
  exact z
theorem sc_next_in : FnScope ["rooms", "room", "goals", "own", "kid"] ["rooms", "room", "goals"] (defScope sNext) := ⟨rfl, rfl, rfl, by decide +kernel, rfl, by decide +kernel, by decide +kernel⟩
theorem ok_next_in {n : Nat} {f gk gb : Addr} {fd dk db : FuncData} (F : Fun K "next_in" "next_in" sNext f fd)
    (G_kids : FnOk P w K mg base CX0 n gk dk ["rooms", "room"] spKids) (b_kids : Binds K dk ["rooms", "room"] []) (k_kids : KI K gk) (m_kids : mg "kids" = some (.ref gk))
    (G_bears_goal : FnOk P w K mg base CX0 n gb db ["rooms", "room", "goals"] spBears) (b_bears_goal : Binds K db ["rooms", "room", "goals"] []) (k_bears_goal : KI K gb) (m_bears_goal : mg "bears_goal" = some (.ref gb)) :
    FnOk P w K mg base CX0 (n + 1) f fd ["rooms", "room", "goals"] spNext := by
  refine F.ok sc_next_in (fun vs H Q E h => ?_) (fun cdv A outer s H vs Q E hr h => ?_)
  · obtain ⟨t, pg, rs, k, gs, rfl, _⟩ := h
    rfl
  obtain ⟨t, pg, rs, k, gs, rfl, hR, good, h40, hk, hG, q⟩ := h
  refine ⟨_, (zE (zK (i := 3) sc_next_in.nd rfl (Or.inl rfl) (zJ G_kids hr rfl m_kids k_kids b_kids .nil yE (zA (pv 0) (zA (pv 1) zD))))
   (zE (yD (zL yG (yB zH (yB zH (pv 0) (pv 1) (fun _ _ => rfl)) zB (fun _ _ => rfl)) zP (zR _))
   (zG (zO (pv 3)))
   zT)
   (zZ (ps_for PassesOwn.never rfl (yM (pv 3)) (yJ (i := 4) sc_next_in.nd rfl (Or.inl rfl))
   (zG (yD (pt_val (zJ G_bears_goal hr rfl m_bears_goal k_bears_goal b_bears_goal .nil yE (zA (pv 0) (zA (pv 4) (zA (pv 2) zD)))))
   (zG (zO (yK (zA (pv 4) zD))))
   zT)))
   (zG (zO (pe_slice sl_list (pv 3) po_none (po_some zB))))))), ?_⟩
  obtain ⟨vs, a, r, ht, hl, hr0, hat, ha⟩ := hR.at hk
  have dl := yV rs
  refine ⟨_, rfl, _, rfl, t, rs, k, rfl, hR, good, h40, hk, fun po H1 s1 npo hpo => ?_⟩
  refine ⟨_, rfl, _, rfl, t, vs, _, _, rfl, rfl, SqT.of (s1 _ _ ht), hat, a, _, _, _, rfl, rfl, SqT.of (s1 _ _ ha), rfl, rfl, _, rfl, ?_⟩
  have eal : alB rs k = decide (V.str r.kind = V.str ("all" : Str)) := by
    unfold alB
    rw [kind_at hr0]
    exact decide_eq_decide.mpr ⟨fun z => by rw [z], fun z => by injection z⟩
  refine itB (fun c => ?_) (fun c => ?_)
  · refine ⟨_, rfl, q po H1 s1 npo ?_⟩
    rw [Tr.next_all (eal.trans c)]
    exact hpo
  have nal : alB rs k = false := eal.trans c
  have kl : ∀ x ∈ Tr.kids (depths rs) k, x < rs.length := fun x hx => by
    have := (Tr.mem_kids.mp hx).1
    omega
  have eN : Tr.next (depths rs) (alB rs) gs k = match (Tr.kids (depths rs) k).find? (Tr.bears (depths rs) gs) with
      | some j => [j]
      | none => (Tr.kids (depths rs) k).take 1 := by
    unfold Tr.next
    rw [if_neg (by rw [nal]; exact zl6)]
    all_goals (cases (Tr.kids (depths rs) k).find? (Tr.bears (depths rs) gs) <;> rfl)
  generalize hks : Tr.kids (depths rs) k = ks at hpo kl eN
  refine ⟨fun σ' H' => Same H1 H' /\ (∀ x ∈ ks, Tr.bears (depths rs) gs x = false) /\ ∃ o4 : Option V, σ' = [some (.ref t), some (.int (k : Int)), some (.ref pg), some (.ref po), o4], ?_, ?_⟩
  · refine ⟨_, rfl, po, rfl, ⟨_, SqL.of hpo⟩, ?_⟩
    refine for_list (K := K) (a := po) (xs := natsV ks) (fun i σ' H' => Same H1 H' /\ (∀ x ∈ ks.take i, Tr.bears (depths rs) gs x = false) /\ ∃ o4 : Option V, σ' = [some (.ref t), some (.int (k : Int)), some (.ref pg), some (.ref po), o4])
      ⟨Same.refl _, fun x hx => (by rw [List.take_zero] at hx; cases hx), _, rfl⟩ (fun i σ' H' _ ⟨s2, _⟩ => SqL.of (s2 _ _ hpo)) ?_ ?_
    · rintro j x σ' H2 hx ⟨s2, hno, o4, rfl⟩
      obtain ⟨hj, rfl⟩ := yR hx
      have hlt := kl _ (zl22 hj)
      refine ⟨_, rfl, _, rfl, _, rfl, t, pg, rs, ks[j], gs, rfl, hR.mono (KeepT.of (s1.trans s2)), h40, hlt, hG.mono (s1.trans s2), fun H3 s3 => ⟨_, rfl, ?_⟩⟩
      refine itB (fun c => ?_) (fun c => ?_)
      · refine ⟨_, rfl, zI (by show 1 <= 1000; decide), fun p hp => q p _ ((s1.trans (s2.trans s3)).trans (zF hp _)) ((s1.trans (s2.trans s3)).free hp) ?_⟩
        have ef : ks.find? (Tr.bears (depths rs) gs) = some ks[j] := by
          rw [List.find?_eq_some_iff_getElem]
          exact ⟨c, j, hj, rfl, fun i hi => by rw [hno _ (by rw [List.mem_take_iff_getElem]; exact ⟨i, by omega, rfl⟩)]; rfl⟩
        rw [zC, eN, ef]
        rfl
      · refine ⟨s2.trans s3, fun x hx => ?_, _, rfl⟩
        rw [zl14, zl1 hj] at hx
        rcases zl18.mp hx with h | h
        · exact hno x h
        · rw [zl10.mp h]
          exact c
    · rintro σ' H2 ⟨s2, hno, o4, rfl⟩
      rw [zl9 (by rw [zU]; exact zl3 _)] at hno
      exact ⟨s2, hno, _, rfl⟩
  rintro σ' H2 ⟨s2, hno, o4, rfl⟩
  refine ⟨_, rfl, _, rfl, po, _, rfl, SqL.of (s2 _ _ hpo), fun p hp => q p _ ((s1.trans s2).trans (zF hp _)) ((s1.trans s2).free hp) ?_⟩
  have ef : ks.find? (Tr.bears (depths rs) gs) = none := by
    rw [List.find?_eq_none]
    intro x hx
    rw [hno x hx]
    exact zl6
  rw [zC, eN, ef, cut_take _ (by decide)]
  show some (HO.lst ((natsV ks).take 1)) = some (HO.lst (natsV (ks.take 1)))
  unfold natsV
  rw [List.map_take]
theorem sc_goings_in : FnScope ["rooms", "under", "goals", "ahead", "gone", "room"] ["rooms", "under", "goals"] (defScope sIn) := ⟨rfl, rfl, rfl, by decide +kernel, rfl, by decide +kernel, by decide +kernel⟩
theorem ok_goings_in {n : Nat} {f gn : Addr} {fd dn : FuncData} (F : Fun K "goings_in" "goings_in" sIn f fd)
    (G_next_in : FnOk P w K mg base CX0 n gn dn ["rooms", "room", "goals"] spNext) (b_next_in : Binds K dn ["rooms", "room", "goals"] []) (k_next_in : KI K gn) (m_next_in : mg "next_in" = some (.ref gn))
    (m_len : mg "len" = none) (m_sorted : mg "sorted" = none) : FnOk P w K mg base CX0 (n + 1) f fd ["rooms", "under", "goals"] spIn := by
  refine F.ok sc_goings_in (fun vs H Q E h => ?_) (fun cdv A outer s H vs Q E hr h => ?_)
  · obtain ⟨t, pg, rs, un, gs, rfl, _⟩ := h
    rfl
  obtain ⟨t, pg, rs, un, gs, rfl, hR, good, h40, hun, hG, q⟩ := h
  refine ⟨_, (zE (zK (i := 3) sc_goings_in.nd rfl (Or.inl rfl) (pe_cut (pe_ifExp (zL op_isN (pv 1) pe_non (zR _)) (yK (zA zB zD)) (zJ G_next_in hr rfl m_next_in k_next_in b_next_in .nil yE (zA (pv 0) (zA (pv 1) (zA (pv 2) zD)))))))
   (zE (zK (i := 4) sc_goings_in.nd rfl (Or.inl rfl) (yK zD))
   (zZ (ps_while PassesOwn.never (zL op_gt (zS zN rfl m_len PySem.boot_len (zA (pv 3) zD)) zB (zR _))
   (zE (zK (i := 5) sc_goings_in.nd rfl (Or.inl rfl) (pe_bm0 PySem.F.plainAttrs_list PySem.F.slot_list_pop PySem.F.type_list_pop mt_pop (pv 3)))
   (zE (yI (pe_bm PySem.F.plainAttrs_list PySem.F.slot_list_append PySem.F.type_list_append yH (pv 4) (zA (pv 5) zD)))
   (zG (yI (pe_bm PySem.F.plainAttrs_list PySem.F.slot_list_extend PySem.F.type_list_extend mt_extend (pv 3) (zA (zJ G_next_in hr rfl m_next_in k_next_in b_next_in .nil yE (zA (pv 0) (zA (pv 5) (zA (pv 2) zD)))) zD)))))))
   (zG (zO (zS call_sorted rfl m_sorted PyProof.Rows.boot_sorted (zA (pv 4) zD))))))), ?_⟩
  have dl := yV rs
  have pos := good.pos
  refine ⟨fun v H' => ∃ (pa : Addr) (ah : List Nat), v = .ref pa /\ Same H H' /\ H pa = none /\ H' pa = some (.lst (natsV ah)) /\ Tr.Work (depths rs) (alB rs) gs un [] ah, ?_, ?_⟩
  · cases un with
    | none => exact ⟨_, rfl, rfl, _, rfl, ifT rfl ⟨zI (by show 1 <= 1000; decide), fun p hp => ⟨p, [0], rfl, zF hp _, hp, zC, Tr.Work.none _ _ _⟩⟩⟩
    | some u => exact ⟨_, rfl, rfl, _, rfl, ifF rfl ⟨_, rfl, _, rfl, _, rfl, t, pg, rs, u, gs, rfl, hR, good, h40, hun u rfl, hG, fun p H1 s1 np hp => ⟨p, _, rfl, s1, np, hp, Tr.Work.some _ _ _ u⟩⟩⟩
  rintro _ H1 ⟨pa, ah, rfl, s1, npa, hpa, wk⟩
  refine ⟨Nat.zero_le _, fun pn hpn => ?_⟩
  have npn : H pn = none := s1.free hpn
  have ne : pn ≠ pa := fun e => by
    rw [e, hpa] at hpn
    cases hpn
  refine ⟨fun σ' H' => ∃ gone : List Nat, Same H H' /\ H' pn = some (.lst (natsV gone)) /\ Tr.Work (depths rs) (alB rs) gs un gone [] /\ ∃ o5 : Option V, σ' = [some (.ref t), some (pV un), some (.ref pg), some (.ref pa), some (.ref pn), o5], ?_, ?_⟩
  · refine ⟨fun m σ' H' => ∃ (gone ahead : List Nat), m = rs.length - gone.length /\ Same H H' /\ H' pa = some (.lst (natsV ahead)) /\ H' pn = some (.lst (natsV gone)) /\ Tr.Work (depths rs) (alB rs) gs un gone ahead /\ ∃ o5 : Option V, σ' = [some (.ref t), some (pV un), some (.ref pg), some (.ref pa), some (.ref pn), o5],
      ⟨_, [], ah, rfl, s1.trans (zF hpn _), (zF hpn _) _ _ hpa, zC, wk, _, rfl⟩, ?_⟩
    rintro m σ' H2 ⟨gone, ahead, rfl, s2, ha2, hn2, wk2, o5, rfl⟩
    refine ⟨_, rfl, pa, _, rfl, .inl (SqL.of ha2), _, _, rfl, rfl, _, rfl, ?_⟩
    refine itB (fun c => ?_) (fun c => ?_)
    · have c' := of_decide_eq_true c
      rw [zU] at c'
      have wl := wk2.len pos
      obtain ⟨a, r, rfl⟩ : ∃ a r, ahead = a ++ [r] := by
        refine ⟨ahead.dropLast, ahead.getLast (fun z => by rw [z] at c'; exact absurd c' (by decide)), (List.dropLast_concat_getLast _).symm⟩
      have hrl : r < rs.length := by
        have := (wk2.ok r (by simp)).lt pos
        omega
      rw [zl2, zl15] at wl
      refine ⟨fun σ' H' => ∃ (gone2 ahead2 : List Nat), gone2.length = gone.length + 1 /\ Same H H' /\ H' pa = some (.lst (natsV ahead2)) /\ H' pn = some (.lst (natsV gone2)) /\ Tr.Work (depths rs) (alB rs) gs un gone2 ahead2 /\ ∃ o5 : Option V, σ' = [some (.ref t), some (pV un), some (.ref pg), some (.ref pa), some (.ref pn), o5], ?_, ?_⟩
      · rintro σ' H3 ⟨g2, a2, hl, rest⟩
        exact ⟨rs.length - g2.length, by omega, g2, a2, rfl, rest⟩
      refine ⟨_, rfl, .inl ⟨rfl, _, SqL.of ha2⟩, pa, _, .int (r : Int), rfl, rfl, ha2, ?_, ?_⟩
      · rw [<- natsV_app, zl2, zl15, Nat.add_sub_cancel, List.getElem?_append_right (zl3 _), Nat.sub_self]
        rfl
      have hn3 : (upd H2 pa (.lst (natsV (a ++ [r])).dropLast)) pn = some (.lst (natsV gone)) := by
        rw [zQ ne]
        exact hn2
      refine ⟨_, rfl, .inl ⟨rfl, _, SqL.of hn3⟩, _, rfl, pn, _, _, rfl, rfl, hn3, zV (by rw [zU]; omega), ?_⟩
      have s3 : Same H (upd (upd H2 pa (.lst (natsV (a ++ [r])).dropLast)) pn (.lst (natsV gone ++ [.int (r : Int)]))) := same_upd npn (same_upd npa s2 _) _
      have ha3 : (upd (upd H2 pa (.lst (natsV (a ++ [r])).dropLast)) pn (.lst (natsV gone ++ [.int (r : Int)]))) pa = some (.lst (natsV a)) := by
        rw [zQ (Ne.symm ne), zC, <- natsV_app, List.dropLast_concat]
      have hn4 : (upd (upd H2 pa (.lst (natsV (a ++ [r])).dropLast)) pn (.lst (natsV gone ++ [.int (r : Int)]))) pn = some (.lst (natsV (gone ++ [r]))) := by
        rw [zC, natsV_app]
      generalize upd (upd H2 pa (.lst (natsV (a ++ [r])).dropLast)) pn (.lst (natsV gone ++ [.int (r : Int)])) = H3 at s3 ha3 hn4 ⊢
      refine ⟨_, rfl, .inl ⟨rfl, _, SqL.of ha3⟩, _, rfl, _, rfl, _, rfl, t, pg, rs, r, gs, rfl, hR.mono (KeepT.of s3), good, h40, hrl, hG.mono s3, fun px H4 s4 npx hpx => ?_⟩
      have wk3 := wk2.step
      have wl3 := wk3.len pos
      rw [zl2] at wl3
      refine ⟨pa, px, _, _, rfl, rfl, s4 _ _ ha3, hpx, zI (by rw [zU, zU]; rw [zl2] at wl3; omega), gone ++ [r], a ++ Tr.next (depths rs) (alB rs) gs r, by rw [zl2]; rfl, same_upd npa (s3.trans s4) _, ?_, ?_, wk3, _, rfl⟩
      · rw [zC]
        unfold natsV
        rw [zl8]
      · rw [zQ ne]
        exact s4 _ _ hn4
    · have c' := of_decide_eq_false c
      rw [zU] at c'
      have e : ahead = [] := List.eq_nil_of_length_eq_zero (by omega)
      subst e
      exact ⟨gone, s2, hn2, wk2, _, rfl⟩
  rintro σ' H2 ⟨gone, s2, hn2, wk2, o5, rfl⟩
  have wl := wk2.len pos
  refine ⟨_, rfl, pn, _, rfl, .inl (SqL.of (by rw [hn2]; unfold natsV; rw [nats_ints])), by rw [zl0]; omega, fun p rs' hp perm srt => ?_⟩
  have nd : gone.Nodup := by
    have := wk2.nd
    rw [zl17] at this
    exact this
  obtain ⟨ms, rfl, rise, hpm⟩ := sorted_rise perm srt nd
  refine q p ms _ (s2.trans (zF hp _)) (s2.free hp) ?_ ⟨rise, fun k => (hpm.mem_iff).trans (wk2.done k)⟩
  rw [zC, <- nats_ints]
  rfl
end
end Prg
namespace Prg
open PySem L2 Mix Gds Rms
def RowIn (H : Hp) (v : V) (k : List Nat) : Prop := ∃ a : Addr, v = .ref a /\ H a = some (.tup (natsV k))
inductive RowsIn (H : Hp) : List V -> List (List Nat) -> Prop where
  | nil : RowsIn H [] []
  | cons {v : V} {k : List Nat} {vs : List V} {ks : List (List Nat)} : RowIn H v k -> RowsIn H vs ks -> RowsIn H (v :: vs) (k :: ks)
theorem RowIn.mono {H H' : Hp} {v : V} {k : List Nat} (x : RowIn H v k) (s : KeepT H H') : RowIn H' v k := by
  obtain ⟨a, e, h⟩ := x
  exact ⟨a, e, s _ _ h⟩
theorem RowsIn.mono {H H' : Hp} {vs : List V} {ks : List (List Nat)} (x : RowsIn H vs ks) (s : KeepT H H') : RowsIn H' vs ks := by
  induction x with
  | nil => exact .nil
  | cons h _ ih => exact .cons (h.mono s) ih
theorem RowsIn.length {H : Hp} {vs : List V} {ks : List (List Nat)} (x : RowsIn H vs ks) : vs.length = ks.length := by
  induction x with
  | nil => rfl
  | cons _ _ ih => rw [zl12, zl12, ih]
theorem RowsIn.get {H : Hp} {vs : List V} {ks : List (List Nat)} (x : RowsIn H vs ks) : ∀ {i : Nat} {k : List Nat}, ks[i]? = some k -> ∃ v, vs[i]? = some v /\ RowIn H v k := by
  induction x with
  | nil => intro i k h; simp at h
  | cons h _ ih =>
    intro i k e
    cases i with
    | zero =>
      simp at e
      subst e
      exact ⟨_, rfl, h⟩
    | succ i => exact ih (by simpa using e)
theorem RowsIn.set {H : Hp} {vs : List V} {ks : List (List Nat)} (x : RowsIn H vs ks) {v : V} {k : List Nat} (h : RowIn H v k) : ∀ i : Nat, RowsIn H (vs.set i v) (ks.set i k) := by
  induction x with
  | nil => intro i; exact .nil
  | cons h' hs ih =>
    intro i
    cases i with
    | zero => exact .cons h hs
    | succ i => exact .cons h' (ih i)
theorem RowsIn.snoc {H : Hp} {vs : List V} {ks : List (List Nat)} {v : V} {k : List Nat} (x : RowsIn H vs ks) (y : RowIn H v k) : RowsIn H (vs ++ [v]) (ks ++ [k]) := by
  induction x with
  | nil => exact .cons y .nil
  | cons h _ ih => exact .cons h ih
def keepsAt (rs : List Rm) (p : Nat) : Str := (rs.map (·.keeps)).getD p ("" : Str)
theorem keeps_at {rs : List Rm} {p : Nat} {r : Rm} (h : rs[p]? = some r) : keepsAt rs p = r.keeps := by
  unfold keepsAt
  rw [zl11, zl20, h]
  rfl
def plB (rs : List Rm) (p : Nat) : Bool := decide (kindAt rs p = ("plain" : Str))
def insideOf (ds : List Int) (os : List Nat) (r : Nat) : List Nat := os.filter fun o => Tr.liesIn ds o r
def keptV (rs : List Rm) (os : List Nat) (r : Nat) : List Nat := if keepsAt rs r = ("near" : Str) then (insideOf (depths rs) os r).take 1 else (insideOf (depths rs) os r).filter (plB rs)
def keptFold (rs : List Rm) (os : List Nat) (ls : List Nat) (ks : List (List Nat)) : List (List Nat) := ls.foldl (fun k r => if keepsAt rs r = ("" : Str) then k else k.set r (keptV rs os r)) ks
theorem keptFold_len (rs : List Rm) (os : List Nat) : ∀ (ls : List Nat) (ks : List (List Nat)), (keptFold rs os ls ks).length = ks.length
  | [], _ => rfl
  | r :: ls, ks => by
    show (keptFold rs os ls (if keepsAt rs r = ("" : Str) then ks else ks.set r (keptV rs os r))).length = _
    rw [keptFold_len rs os ls]
    split
    · rfl
    · rw [List.length_set]
theorem keptFold_snoc (rs : List Rm) (os ls : List Nat) (r : Nat) (ks : List (List Nat)) : keptFold rs os (ls ++ [r]) ks = if keepsAt rs r = ("" : Str) then keptFold rs os ls ks else (keptFold rs os ls ks).set r (keptV rs os r) := by
  unfold keptFold
  rw [List.foldl_append]
  rfl
theorem keptFold_at (rs : List Rm) (os : List Nat) : ∀ (ls : List Nat) (ks : List (List Nat)) (r : Nat), r < ks.length -> (keptFold rs os ls ks)[r]? = if r ∈ ls /\ keepsAt rs r ≠ ("" : Str) then some (keptV rs os r) else ks[r]?
  | [], ks, r, h => by
    rw [if_neg (fun z => by cases z.1)]
    rfl
  | x :: ls, ks, r, h => by
    show (keptFold rs os ls (if keepsAt rs x = ("" : Str) then ks else ks.set x (keptV rs os x)))[r]? = _
    by_cases c : keepsAt rs x = ("" : Str)
    · rw [if_pos c, keptFold_at rs os ls ks r h]
      by_cases e : r = x
      · subst e
        rw [if_neg (fun z => z.2 c), if_neg (fun z => z.2 c)]
      · have : (r ∈ x :: ls) ↔ r ∈ ls := ⟨fun z => (zl16.mp z).elim (fun z => absurd z e) id, List.mem_cons_of_mem _⟩
        by_cases m : r ∈ ls /\ keepsAt rs r ≠ ("" : Str)
        · rw [if_pos m, if_pos ⟨this.mpr m.1, m.2⟩]
        · rw [if_neg m, if_neg (fun z => m ⟨this.mp z.1, z.2⟩)]
    · rw [if_neg c, keptFold_at rs os ls _ r (by rw [List.length_set]; exact h)]
      by_cases e : r = x
      · subst e
        rw [if_pos (show r ∈ r :: ls /\ keepsAt rs r ≠ ("" : Str) from ⟨List.mem_cons_self, c⟩)]
        split
        · rfl
        · rw [List.getElem?_set_self h]
      · have : (r ∈ x :: ls) ↔ r ∈ ls := ⟨fun z => (zl16.mp z).elim (fun z => absurd z e) id, List.mem_cons_of_mem _⟩
        rw [List.getElem?_set_ne (Ne.symm e)]
        by_cases m : r ∈ ls /\ keepsAt rs r ≠ ("" : Str)
        · rw [if_pos m, if_pos ⟨this.mpr m.1, m.2⟩]
        · rw [if_neg m, if_neg (fun z => m ⟨this.mp z.1, z.2⟩)]
end Prg
namespace Prg
open PySem L2 Mix Gds Rms
def spPlain : Sp := fun vs H Q _ => ∃ (t pt : Addr) (rs : List Rm) (os : List Nat), vs = [.ref t, .ref pt] /\ Rooms H t rs /\ rs.length <= 40 /\ H pt = some (.lst (natsV os)) /\ (∀ o ∈ os, o < rs.length) /\ os.length <= 100 ∧
  ∀ (p : Addr) (H' : Hp), Same H H' -> H' p = some (.tup (natsV (os.filter (plB rs)))) -> Q (.ref p) H'
def spKeptOf : Sp := fun vs H Q _ => ∃ (t to' : Addr) (rs : List Rm) (os : List Nat) (r : Nat), vs = [.ref t, .ref to', .int (r : Int)] /\ Rooms H t rs /\ Tr.Good (depths rs) /\ rs.length <= 40 /\ H to' = some (.tup (natsV os)) /\ (∀ o ∈ os, o < rs.length) /\ os.length <= 40 /\ os.Pairwise (· < ·) /\ r < rs.length ∧
  ∀ (p : Addr) (H' : Hp), Same H H' -> H' p = some (.tup (natsV (keptV rs os r))) -> Q (.ref p) H'
def spKeeping : Sp := fun vs H Q _ => ∃ (t to' pl pk : Addr) (rs : List Rm) (os ls : List Nat) (kv : List V) (ks : List (List Nat)), vs = [.ref t, .ref to', .ref pl, .ref pk] /\ Rooms H t rs /\ Tr.Good (depths rs) /\ rs.length <= 40 /\ H to' = some (.tup (natsV os)) /\ (∀ o ∈ os, o < rs.length) /\ os.length <= 40 /\ os.Pairwise (· < ·) /\ H pl = some (.lst (natsV ls)) /\ (∀ l ∈ ls, l < rs.length) /\ H pk = some (.tup kv) /\ RowsIn H kv ks /\ ks.length = rs.length ∧
  ∀ (p : Addr) (kv' : List V) (H' : Hp), Same H H' -> H' p = some (.tup kv') -> RowsIn H' kv' (keptFold rs os ls ks) -> Q (.ref p) H'
section
variable {P : Program} {w : World} {K : PySem.W.Frag} {mg : Str -> Option Value} {base : Heap}
theorem sc_plain_ones : FnScope ["rooms", "told"] ["rooms", "told"] (defScope sPlain) := ⟨rfl, rfl, rfl, by decide +kernel, rfl, by decide +kernel, by decide +kernel⟩
theorem ok_plain_ones {f : Addr} {fd : FuncData} (F : Fun K "plain_ones" "plain_ones" sPlain f fd) (m_tuple : mg "tuple" = none) : FnOk P w K mg base CX0 1 f fd ["rooms", "told"] spPlain := by
  refine F.ok sc_plain_ones (fun vs H Q E h => ?_) (fun cdv A outer s H vs Q E hr h => ?_)
  · obtain ⟨t, pt, rs, os, rfl, _⟩ := h
    rfl
  obtain ⟨t, pt, rs, os, rfl, hR, h40, hpt, hos, los, q⟩ := h
  refine ⟨_, (zG (zO (yA zX rfl m_tuple PyProof.Rows.boot_tuple (zA (yT (caps := [(0, "rooms")]) rfl (show CompSc (defScope sPlain) ["rooms", "told"] _ _ _ from ⟨rfl, rfl, by decide +kernel, by decide +kernel, by decide +kernel, by decide +kernel, by decide +kernel⟩) (yM (pv 1)) (fun _ _ _ _ _ _ => pifs_one (zL yG (yB (r := rIxT K) zH (yB (r := rIxT K) zH (pv 1) (pv 0) (fun _ _ => rfl)) zB (fun _ _ => rfl)) zP (zR _))) (fun _ _ _ _ _ _ => (pv 0))) zD)))), ?_⟩
  refine ⟨_, rfl, pt, rfl, ⟨_, SqL.of hpt⟩, ?_⟩
  refine yS (K := K) (a := pt) (xs := natsV os) (fun i acc H' => H' = H /\ acc = natsV ((os.take i).filter (plB rs))) ⟨rfl, rfl⟩ (fun i acc H' ⟨e, _⟩ => by subst e; exact SqL.of hpt) (fun i x acc H' hx ⟨e1, e2⟩ => ?_) (fun acc H' ⟨e1, e2⟩ p hp => ?_)
  · subst e1 e2
    obtain ⟨hi, rfl⟩ := yR hx
    obtain ⟨vs, a, r, ht, hl, hr0, hat, ha⟩ := hR.at (hos _ (zl22 hi))
    refine ⟨_, rfl, _, rfl, t, vs, _, _, rfl, rfl, SqT.of ht, hat, a, _, _, _, rfl, rfl, SqT.of ha, rfl, rfl, _, rfl, ?_⟩
    have ep : plB rs os[i] = decide (V.str r.kind = V.str ("plain" : Str)) := by
      unfold plB
      rw [kind_at hr0]
      exact decide_eq_decide.mpr ⟨fun z => by rw [z], fun z => by injection z⟩
    rw [filter_succ (zl1 hi)]
    have ll := zl21 (plB rs) (os.take i)
    rw [zl13] at ll
    refine itB (fun c => ?_) (fun c => ?_)
    · rw [if_pos (ep.trans c), <- natsV_app]
      exact ⟨_, rfl, zV (by rw [zU]; omega), rfl, rfl⟩
    · rw [if_neg (by rw [show plB rs os[i] = false from ep.trans c]; exact zl6), zl17]
      exact ⟨rfl, rfl⟩
  subst e1 e2
  rw [zl9 (by rw [zU]; exact zl3 _)]
  exact ⟨p, _, rfl, .inl ⟨SqL.of zC, fun p2 hp2 => q p2 _ ((zF hp _).trans (zF hp2 _)) zC⟩⟩
theorem sc_kept_of : FnScope ["rooms", "opening", "room", "inside"] ["rooms", "opening", "room"] (defScope sKeptOf) := ⟨rfl, rfl, rfl, by decide +kernel, rfl, by decide +kernel, by decide +kernel⟩
theorem ok_kept_of {n : Nat} {f gg gp : Addr} {fd dg dp : FuncData} (F : Fun K "kept_of" "kept_of" sKeptOf f fd)
    (G_goings_out : FnOk P w K mg base CX0 n gg dg ["rooms", "under", "opening"] K14.spOut) (b_goings_out : Binds K dg ["rooms", "under", "opening"] []) (k_goings_out : KI K gg) (m_goings_out : mg "goings_out" = some (.ref gg))
    (G_plain_ones : FnOk P w K mg base CX0 n gp dp ["rooms", "told"] spPlain) (b_plain_ones : Binds K dp ["rooms", "told"] []) (k_plain_ones : KI K gp) (m_plain_ones : mg "plain_ones" = some (.ref gp))
    (m_sorted : mg "sorted" = none) (m_tuple : mg "tuple" = none) : FnOk P w K mg base CX0 (n + 1) f fd ["rooms", "opening", "room"] spKeptOf := by
  refine F.ok sc_kept_of (fun vs H Q E h => ?_) (fun cdv A outer s H vs Q E hr h => ?_)
  · obtain ⟨t, to', rs, os, r, rfl, _⟩ := h
    rfl
  obtain ⟨t, to', rs, os, r, rfl, hR, good, h40, hto, hos, los, inc, hr', q⟩ := h
  refine ⟨_, (zE (zK (i := 3) sc_kept_of.nd rfl (Or.inl rfl) (zS call_sorted rfl m_sorted PyProof.Rows.boot_sorted (zA (zJ G_goings_out hr rfl m_goings_out k_goings_out b_goings_out .nil yE (zA (pv 0) (zA (pv 2) (zA (pv 1) zD)))) zD)))
   (zE (yD (zL yG (yB zH (yB zH (pv 0) (pv 2) (fun _ _ => rfl)) zB (fun _ _ => rfl)) zP (zR _))
   (zG (zO (yA zX rfl m_tuple PyProof.Rows.boot_tuple (zA (pe_slice sl_list (pv 3) po_none (po_some zB)) zD))))
   zT)
   (zG (zO (zJ G_plain_ones hr rfl m_plain_ones k_plain_ones b_plain_ones .nil yE (zA (pv 0) (zA (pv 3) zD))))))), ?_⟩
  obtain ⟨vs, a, r0, ht, hl, hr0, hat, ha⟩ := hR.at hr'
  refine ⟨_, rfl, _, rfl, _, rfl, t, to', rs, some r, os, rfl, hR, good, h40, fun u e => (by cases e; exact hr'), hto, hos, los, inc, fun pf H1 s1 npf hpf => ?_⟩
  have eo : K14.outsOf (depths rs) (some r) os = (insideOf (depths rs) os r).reverse := rfl
  have li := zl21 (fun o => Tr.liesIn (depths rs) o r) os
  have li' : (insideOf (depths rs) os r).length <= os.length := li
  have ri : (insideOf (depths rs) os r).Pairwise (· < ·) := inc.filter _
  have mi : ∀ o ∈ insideOf (depths rs) os r, o < rs.length := fun o ho => hos o (zl23.mp ho).1
  unfold keptV at q
  generalize insideOf (depths rs) os r = xs at eo li' ri mi q
  rw [eo] at hpf
  refine ⟨pf, _, rfl, .inl (SqL.of (by rw [hpf]; unfold natsV; rw [nats_ints])), by rw [zl0, List.length_reverse]; omega, fun p1 rs' hp1 perm srt => ?_⟩
  obtain ⟨ms, rfl, rise, hpm⟩ := sorted_rise perm srt (by unfold List.Nodup; rw [List.pairwise_reverse]; exact ri.imp fun z => Ne.symm (Nat.ne_of_lt z))
  obtain rfl : ms = xs := rise_unique _ _ rise ri fun k => by rw [hpm.mem_iff, List.mem_reverse]
  rw [<- nats_ints]
  have s2 := s1.trans (zF hp1 (.lst (natsV ms)))
  have h2 : (upd H1 p1 (.lst (natsV ms))) p1 = some (.lst (natsV ms)) := zC
  change _ at s2
  refine ⟨_, rfl, _, rfl, t, vs, _, _, rfl, rfl, SqT.of (s2 _ _ ht), hat, a, _, _, _, rfl, rfl, SqT.of (s2 _ _ ha), rfl, rfl, _, rfl, ?_⟩
  have ek : (keepsAt rs r = ("near" : Str)) ↔ V.str r0.keeps = V.str ("near" : Str) := by
    rw [keeps_at hr0]
    exact ⟨fun z => by rw [z], fun z => by injection z⟩
  refine itB (fun c => ?_) (fun c => ?_)
  · have c' := ek.mpr (of_decide_eq_true c)
    refine ⟨_, rfl, _, rfl, p1, _, rfl, SqL.of h2, fun p2 hp2 => ?_⟩
    rw [cut_take _ (by decide)]
    have e2 : (natsV ms).take (1 : Int).toNat = natsV (ms.take 1) := by
      unfold natsV
      rw [List.map_take]
      rfl
    rw [e2]
    refine ⟨p2, _, rfl, .inl ⟨SqL.of zC, fun p3 hp3 => ?_⟩⟩
    refine q p3 _ ((s2.trans (zF hp2 _)).trans (zF hp3 _)) ?_
    rw [zC, if_pos c']
  · have c' : ¬ keepsAt rs r = ("near" : Str) := fun z => of_decide_eq_false c (ek.mp z)
    refine ⟨_, rfl, _, rfl, t, p1, rs, ms, rfl, hR.mono (KeepT.of s2), h40, h2, mi, by omega, fun p2 H3 s3 hp2 => ?_⟩
    refine q p2 H3 (s2.trans s3) ?_
    rw [if_neg c']
    exact hp2
theorem sc_keeping : FnScope ["rooms", "opening", "left", "kept", "told", "room"] ["rooms", "opening", "left", "kept"] (defScope sKeeping) := ⟨rfl, rfl, rfl, by decide +kernel, rfl, by decide +kernel, by decide +kernel⟩
theorem ok_keeping {n : Nat} {f gk : Addr} {fd dk : FuncData} (F : Fun K "keeping" "keeping" sKeeping f fd)
    (G_kept_of : FnOk P w K mg base CX0 n gk dk ["rooms", "opening", "room"] spKeptOf) (b_kept_of : Binds K dk ["rooms", "opening", "room"] []) (k_kept_of : KI K gk) (m_kept_of : mg "kept_of" = some (.ref gk))
    (m_list : mg "list" = none) (m_tuple : mg "tuple" = none) : FnOk P w K mg base CX0 (n + 1) f fd ["rooms", "opening", "left", "kept"] spKeeping := by
  refine F.ok sc_keeping (fun vs H Q E h => ?_) (fun cdv A outer s H vs Q E hr h => ?_)
  · obtain ⟨t, to', pl, pk, rs, os, ls, kv, ks, rfl, _⟩ := h
    rfl
  obtain ⟨t, to', pl, pk, rs, os, ls, kv, ks, rfl, hR, good, h40, hto, hos, los, inc, hpl, hls, hpk, hks, lks, q⟩ := h
  refine ⟨_, (zE (zK (i := 4) sc_keeping.nd rfl (Or.inl rfl) (yA call_list_of rfl m_list PyProof.Rows.boot_list (zA (pv 3) zD)))
   (zZ (ps_for PassesOwn.never rfl (yM (pv 2)) (yJ (i := 5) sc_keeping.nd rfl (Or.inl rfl))
   (zG (yD (zL op_ne (yB zH (yB zH (pv 0) (pv 5) (fun _ _ => rfl)) zB (fun _ _ => rfl)) zP (zR _))
   (zG (ps_asg (zJ G_kept_of hr rfl m_kept_of k_kept_of b_kept_of .nil yE (zA (pv 0) (zA (pv 1) (zA (pv 5) zD)))) (pg_sub (pv 4) (pv 5) set_list)))
   zT)))
   (zG (zO (yA zX rfl m_tuple PyProof.Rows.boot_tuple (zA (pv 4) zD)))))), ?_⟩
  refine ⟨_, rfl, pk, _, rfl, .inr (SqT.of hpk), fun pt hpt => ?_⟩
  have s1 := zF hpt (.lst kv)
  refine ⟨fun σ' H' => ∃ kv' : List V, Same H H' /\ H' pt = some (.lst kv') /\ RowsIn H' kv' (keptFold rs os ls ks) /\ ∃ o5 : Option V, σ' = [some (.ref t), some (.ref to'), some (.ref pl), some (.ref pk), some (.ref pt), o5], ?_, ?_⟩
  · refine ⟨_, rfl, pl, rfl, ⟨_, SqL.of (s1 _ _ hpl)⟩, ?_⟩
    refine for_list (K := K) (a := pl) (xs := natsV ls) (fun i σ' H' => ∃ kv' : List V, Same H H' /\ H' pt = some (.lst kv') /\ RowsIn H' kv' (keptFold rs os (ls.take i) ks) /\ ∃ o5 : Option V, σ' = [some (.ref t), some (.ref to'), some (.ref pl), some (.ref pk), some (.ref pt), o5])
      ⟨kv, s1, zC, hks.mono (KeepT.of s1), _, rfl⟩ (fun i σ' H' _ ⟨_, s2, _⟩ => SqL.of (s2 _ _ hpl)) ?_ ?_
    · rintro i x σ' H2 hx ⟨kv2, s2, h2, hk2, o5, rfl⟩
      obtain ⟨hi, rfl⟩ := yR hx
      have hlt := hls _ (zl22 hi)
      obtain ⟨vs, a, r0, ht, hl, hr0, hat, ha⟩ := hR.at hlt
      have lk2 := hk2.length
      rw [keptFold_len] at lk2
      have es : keptFold rs os (ls.take (i + 1)) ks = if keepsAt rs ls[i] = ("" : Str) then keptFold rs os (ls.take i) ks else (keptFold rs os (ls.take i) ks).set ls[i] (keptV rs os ls[i]) := by
        rw [zl14, zl1 hi]
        exact keptFold_snoc rs os _ _ ks
      refine ⟨_, rfl, _, rfl, t, vs, _, _, rfl, rfl, SqT.of (s2 _ _ ht), hat, a, _, _, _, rfl, rfl, SqT.of (s2 _ _ ha), rfl, rfl, _, rfl, ?_⟩
      have ek : keepsAt rs ls[i] = ("" : Str) ↔ V.str r0.keeps = V.str ("" : Str) := by
        rw [keeps_at hr0]
        exact ⟨fun z => by rw [z], fun z => by injection z⟩
      refine itB (fun c => ?_) (fun c => ?_)
      · have c' : ¬ keepsAt rs ls[i] = ("" : Str) := fun z => by
          have c : (!decide (V.str r0.keeps = V.str ("" : Str))) = true := c
          rw [decide_eq_true (ek.mp z)] at c
          cases c
        rw [if_neg c'] at es
        refine ⟨_, rfl, _, rfl, _, rfl, t, to', rs, os, ls[i], rfl, hR.mono (KeepT.of s2), good, h40, s2 _ _ hto, hos, los, inc, hlt, fun p H3 s3 hp => ?_⟩
        refine ⟨_, rfl, _, rfl, pt, _, _, ls[i], rfl, rfl, s3 _ _ h2, ?_, ?_⟩
        · unfold ixN
          rw [if_pos (by omega), if_pos (by omega)]
          simp
        have kt : KeepT H3 (upd H3 pt (.lst (kv2.set ls[i] (.ref p)))) := KeepT.lst (s3 _ _ h2) _
        refine ⟨kv2.set ls[i] (.ref p), same_upd hpt (s2.trans s3) _, zC, ?_, _, rfl⟩
        rw [es]
        exact ((hk2.mono (KeepT.of s3)).mono kt).set ⟨p, rfl, kt _ _ hp⟩ _
      · have c' : keepsAt rs ls[i] = ("" : Str) := by
          have c : (!decide (V.str r0.keeps = V.str ("" : Str))) = false := c
          rw [Bool.not_eq_false'] at c
          exact ek.mpr (of_decide_eq_true c)
        rw [if_pos c'] at es
        exact ⟨kv2, s2, h2, by rw [es]; exact hk2, _, rfl⟩
    · rintro σ' H2 ⟨kv2, s2, h2, hk2, o5, rfl⟩
      rw [zl9 (by rw [zU]; exact zl3 _)] at hk2
      exact ⟨kv2, s2, h2, hk2, _, rfl⟩
  rintro σ' H2 ⟨kv2, s2, h2, hk2, o5, rfl⟩
  refine ⟨_, rfl, pt, _, rfl, .inl ⟨SqL.of h2, fun p hp => ?_⟩⟩
  exact q p kv2 _ (s2.trans (zF hp _)) zC (hk2.mono (KeepT.of (zF hp _)))
end
end Prg
namespace Prg
open PySem L2 Mix Gds Dds
theorem cutV_to (xs : List V) {k : Nat} (h : k <= xs.length) : cutV xs none (some (k : Int)) = xs.take k := by
  unfold cutV
  rw [HT.sIx_none, HT.sIx_nat, List.drop_zero, Nat.sub_zero, Nat.min_eq_left h]
theorem cutV_from (xs : List V) {k : Nat} (h : k + 1 <= xs.length) : cutV xs (some ((k : Int) + 1)) none = xs.drop (k + 1) := by
  have e : (k : Int) + 1 = ((k + 1 : Nat) : Int) := by omega
  unfold cutV
  rw [e, HT.sIx_none, HT.sIx_nat, Nat.min_eq_left h, zl9 (by rw [List.length_drop]; exact zl3 _)]
theorem set_cut {α : Type} {xs : List α} {k : Nat} (v : α) (h : k < xs.length) : xs.take k ++ [v] ++ xs.drop (k + 1) = xs.set k v := by
  rw [List.set_eq_take_append_cons_drop, if_pos h, List.append_assoc]
  rfl
section
variable {P : Program} {w : World} {K : PySem.W.Frag} {mg : Str -> Option Value} {base : Heap}
theorem sc_changed : FnScope ["deed", "boxes", "sizes", "kind", "box", "number"] ["deed", "boxes", "sizes"] (defScope sChanged) := ⟨rfl, rfl, rfl, by decide +kernel, rfl, by decide +kernel, by decide +kernel⟩
theorem ok_changed {f : Addr} {fd : FuncData} (F : Fun K "changed" "changed" sChanged f fd) : FnOk P w K mg base CX0 1 f fd ["deed", "boxes", "sizes"] spChanged := by
  refine F.ok sc_changed (fun vs H Q E h => ?_) (fun cdv A outer s H vs Q E hr h => ?_)
  · obtain ⟨vd, tb, ts, d, bx, sz, rfl, _⟩ := h
    rfl
  obtain ⟨vd, tb, ts, d, bx, sz, rfl, hd, hb, hs, hok, hlen, h6, hpos, q⟩ := h
  refine ⟨_, (zE (zK (i := 3) sc_changed.nd rfl (Or.inl rfl) (yB zH (pv 0) zB (fun _ _ => rfl)))
   (zE (yD (zL op_notIn_seq (pv 3) (zW (zA zP (zA zP zD))) rfl)
   (zG (zO (pv 1)))
   zT)
   (zE (zK (i := 4) sc_changed.nd rfl (Or.inl rfl) (yB zH (pv 0) zB (fun _ _ => rfl)))
   (zE (zK (i := 5) sc_changed.nd rfl (Or.inl rfl) (yB zH (pv 0) zB (fun _ _ => rfl)))
   (zZ (yD (zL yG (pv 3) zP (zR _))
   (zG (zK (i := 5) sc_changed.nd rfl (Or.inl rfl) (yC zY (yC yF (yB zH (pv 1) (pv 4) (fun _ _ => rfl)) (pv 5)) (yB zH (pv 2) (pv 4) (fun _ _ => rfl)))))
   zT)
   (zG (zO (yC op_catT (pe_cut (yC (OpR.or op_catT op_catT0) (pe_slice sl_tup (pv 1) po_none (po_some (pv 4))) (zW (zA (pv 5) zD)))) (pe_slice sl_tup (pv 1) (po_some (yC yF (pv 4) zB)) po_none))))))))), ?_⟩
  have two : (∃ (a : Addr) (kd : Str) (b n : Int), vd = .ref a /\ H a = some (.tup [.str kd, .int b, .int n]) /\ ((kd = "set" /\ d = .set b n) ∨ (kd = "add" /\ d = .add b n))) ∨
      (∃ (a : Addr) (kd : Str) (u : V), vd = .ref a /\ H a = some (.tup [.str kd, u]) /\ (kd = "say" ∨ kd = "send") /\ d.upd sz bx = bx) := by
    cases hd with
    | say e => exact .inr ⟨_, _, _, rfl, e, .inl rfl, rfl⟩
    | send e => exact .inr ⟨_, _, _, rfl, e, .inr rfl, rfl⟩
    | set e => exact .inl ⟨_, _, _, _, rfl, e, .inl ⟨rfl, rfl⟩⟩
    | add e => exact .inl ⟨_, _, _, _, rfl, e, .inr ⟨rfl, rfl⟩⟩
  rcases two with ⟨a, kd, b, n, rfl, e, hk⟩ | ⟨a, kd, u, rfl, e, hk, hu⟩
  · refine ⟨_, rfl, a, _, _, _, rfl, rfl, SqT.of e, rfl, _, rfl, zI (by show 2 <= 1000; decide), fun p hp => ?_⟩
    have s1 : Same H (upd H p (.tup [.str "set", .str "add"])) := zF hp _
    have e1 := s1 _ _ e
    refine ⟨p, _, rfl, .inr (SqT.of zC), rfl, rfl, _, rfl, ifF (by rcases hk with ⟨rfl, _⟩ | ⟨rfl, _⟩ <;> decide +kernel) ?_⟩
    refine ⟨_, rfl, a, _, _, _, rfl, rfl, SqT.of e1, rfl, _, rfl, a, _, _, _, rfl, rfl, SqT.of e1, rfl, ?_⟩
    have hb01 : 0 <= b /\ b < (bx.length : Int) := by
      rcases hk with ⟨_, rfl⟩ | ⟨_, rfl⟩ <;> exact hok b rfl
    obtain ⟨hb0, hb1⟩ := hb01
    obtain ⟨k, rfl⟩ : ∃ k : Nat, b = (k : Int) := ⟨b.toNat, by omega⟩
    have hkl : k < bx.length := by omega
    refine ⟨fun σ' H' => H' = upd H p (.tup [.str "set", .str "add"]) /\ ∃ v : Int, σ' = [some (.ref a), some (.ref tb), some (.ref ts), some (.str kd), some (.int (k : Int)), some (.int v)] /\ d.upd sz bx = bx.set k v, ?_, ?_⟩
    · refine ⟨_, rfl, rfl, _, rfl, ?_⟩
      rcases hk with ⟨rfl, rfl⟩ | ⟨rfl, rfl⟩
      · refine yN (by decide +kernel) ?_
        refine ⟨rfl, n, rfl, ?_⟩
        show bx.set (k : Int).toNat n = _
        rw [zl24]
      · refine yO ?_
        refine ⟨_, rfl, _, rfl, tb, _, _, _, rfl, rfl, SqT.of (s1 _ _ hb), at0_at hb0 hb1, _, rfl, _, _, rfl, rfl, _, rfl, _, rfl, ts, _, _, _, rfl, rfl, SqT.of (s1 _ _ hs), at0_at hb0 (by omega), _, _, rfl, rfl, hpos _ (at0_mem hb0 (by omega)), ?_⟩
        refine ⟨rfl, _, rfl, ?_⟩
        show bx.set (k : Int).toNat _ = _
        rw [zl24]
    rintro σ' H' ⟨rfl, v, rfl, hv⟩
    have hb' := s1 _ _ hb
    refine ⟨fun x H' => ∃ t : Addr, x = .ref t /\ Same (upd H p (.tup [.str "set", .str "add"])) H' /\ H' t = some (.tup ((bx.take k ++ [v]).map V.int)), ?_, ?_⟩
    · refine ⟨_, rfl, _, rfl, _, rfl, tb, _, rfl, SqT.of hb', ?_, fun p1 hp1 => ?_⟩
      · rw [HT.sIx_nat, zl0]
        omega
      have s2 := zF hp1 (.tup (cutV (bx.map V.int) none (some (k : Int))))
      refine ⟨_, rfl, zI (by show 1 <= 1000; decide), fun p2 hp2 => ?_⟩
      have e1' : cutV (bx.map V.int) none (some (k : Int)) = (bx.take k).map V.int := by
        rw [cutV_to _ (by rw [zl0]; omega), List.map_take]
      have s3 := zF hp2 (.tup [.int v])
      by_cases hk0 : k = 0
      · subst hk0
        refine .inr ⟨p1, p2, _, rfl, rfl, SqT.of (s3 _ _ (by rw [zC, e1']; rfl)), SqT.of zC, ?_⟩
        exact ⟨p2, rfl, s2.trans s3, by rw [zC]; rfl⟩
      · refine .inl ⟨p1, p2, _, _, rfl, rfl, SqT.of (s3 _ _ zC), SqT.of zC, ?_, ?_, fun z => (by cases z), fun _ p3 hp3 => ?_⟩
        · intro z
          have := congrArg List.length z
          rw [e1', zl0, zl13, List.length_nil] at this
          omega
        · rw [e1', zl0, zl13]
          exact zI (by show _ + 1 <= 1000; omega)
        · refine ⟨p3, rfl, (s2.trans s3).trans (zF hp3 _), ?_⟩
          rw [zC, e1', zl8]
          rfl
    rintro x H2 ⟨t, rfl, s4, ht⟩
    refine ⟨_, rfl, _, rfl, _, _, rfl, rfl, _, rfl, tb, _, rfl, SqT.of (s4 _ _ hb'), ?_, fun p4 hp4 => ?_⟩
    · rw [show ((k : Int) + 1) = ((k + 1 : Nat) : Int) by omega, HT.sIx_nat, zl0]
      omega
    have e2' : cutV (bx.map V.int) (some ((k : Int) + 1)) none = (bx.drop (k + 1)).map V.int := by
      rw [cutV_from _ (by rw [zl0]; omega), List.map_drop]
    have s5 := zF hp4 (.tup (cutV (bx.map V.int) (some ((k : Int) + 1)) none))
    have all : (bx.take k ++ [v]).map V.int ++ (bx.drop (k + 1)).map V.int = (d.upd sz bx).map V.int := by
      rw [<- zl8, set_cut v hkl, hv]
    refine ⟨t, p4, _, _, rfl, rfl, SqT.of (s5 _ _ ht), SqT.of zC, ?_, ?_, fun z => ?_, fun _ p5 hp5 => ?_⟩
    · intro z
      have := congrArg List.length z
      simp at this
    · rw [e2', zl0, zl0, zl2, zl13, List.length_drop]
      exact zI (by show min k bx.length + 1 + _ <= 1000; omega)
    · refine q t _ ((s1.trans s4).trans s5) ?_
      rw [s5 _ _ ht, <- all]
      rw [e2'] at z
      rw [z, zl17]
    · refine q p5 _ (((s1.trans s4).trans s5).trans (zF hp5 _)) ?_
      rw [zC, e2', all]
  · refine ⟨_, rfl, a, _, _, _, rfl, rfl, SqT.of e, rfl, _, rfl, zI (by show 2 <= 1000; decide), fun p hp => ?_⟩
    refine ⟨p, _, rfl, .inr (SqT.of zC), rfl, rfl, _, rfl, ifT (by rcases hk with rfl | rfl <;> decide +kernel) ?_⟩
    refine ⟨_, rfl, q tb _ (zF hp _) ?_⟩
    rw [hu]
    exact zF hp _ _ _ hb
end
end Prg
namespace Prg
open PySem L2 Mix Gds Lts
theorem ne_me : ¬ (("most" : Str) = "events") := by decide +kernel
def flds (m : Nat) (d : Addr) : List (Str × V) := putF "events" (.ref d) (putF "most" (.int (m : Int)) [])
theorem flds_events (m : Nat) (d : Addr) : (flds m d).lookup ("events" : Str) = some (.ref d) := by
  unfold flds
  rw [lookup_putF, if_pos rfl]
theorem flds_most (m : Nat) (d : Addr) : (flds m d).lookup ("most" : Str) = some (.int (m : Int)) := by
  unfold flds
  rw [lookup_putF, if_neg ne_me, lookup_putF, if_pos rfl]
theorem flds_no (m : Nat) (d : Addr) {x : Str} (h1 : ¬ x = "events") (h2 : ¬ x = "most") : (flds m d).lookup x = none := by
  unfold flds
  rw [lookup_putF, if_neg h1, lookup_putF, if_neg h2]
  all_goals rfl
def LL (C : Addr) : LA := fun H p fp m l => ∃ dx d : Addr, fp = [p, d] /\ H p = some (.ins C dx (flds m d)) /\ H d = some (.lst (l.map V.int))
theorem LL_ok (C : Addr) : LetOk C (LL C) where
  keep := by
    rintro H H' p fp m l ⟨dx, d, rfl, h1, h2⟩ k
    exact ⟨dx, d, rfl, k p (by simp) _ h1, k d (by simp) _ h2⟩
  there := by
    rintro H p fp m l ⟨dx, d, rfl, h1, h2⟩ b hb
    rcases zl16.mp hb with rfl | hb
    · rw [h1]
      intro z
      cases z
    · rw [zl10.mp hb, h2]
      intro z
      cases z
  obj := by
    rintro H p fp m l ⟨dx, d, rfl, h1, h2⟩
    exact ⟨dx, _, h1, flds_no _ _ (by decide +kernel) (by decide +kernel), flds_no _ _ (by decide +kernel) (by decide +kernel), flds_no _ _ (by decide +kernel) (by decide +kernel)⟩
section
variable {P : Program} {w : World} {K : PySem.W.Frag} {mg : Str -> Option Value} {base : Heap} {C : Addr}
theorem sc_init : FnScope ["self", "most"] ["self", "most"] (defScope sInit) := ⟨rfl, rfl, rfl, by decide +kernel, rfl, by decide +kernel, by decide +kernel⟩
theorem ok_init {f : Addr} {fd : FuncData} (F : Fun K "__init__" "Letters.__init__" sInit f fd) (cl : Cls K C) (nM : NoAttr K C "most") (nE : NoAttr K C "events") : FnOk P w K mg base CX0 1 f fd ["self", "most"] (spInit C (LL C)) := by
  refine F.ok sc_init (fun vs H Q E h => ?_) (fun cdv A outer s H vs Q E hr h => ?_)
  · obtain ⟨p, dx, m, rfl, _⟩ := h
    rfl
  obtain ⟨p, dx, m, rfl, hp, hm, k⟩ := h
  refine ⟨_, (zE (ps_fld (pv 0) (pv 1) rfl) (zG (ps_fld (pv 0) (yK zD) rfl))), ?_⟩
  refine ⟨_, rfl, _, rfl, p, C, dx, [], rfl, hp, cl, nM, (by show 0 < 1000; decide), Nat.zero_le _, fun d hd => ?_⟩
  have npd : p ≠ d := fun z => by
    rw [<- z, zC] at hd
    cases hd
  have hd0 : H d = none := by
    rw [zQ (Ne.symm npd)] at hd
    exact hd
  refine ⟨_, rfl, p, C, dx, _, rfl, (by rw [zQ npd]; exact zC), cl, nE, (by show 1 < 1000; decide), ?_⟩
  refine k [p, d] _ ⟨dx, d, rfl, zC, by rw [zQ (Ne.symm npd), zC]; rfl⟩ (fun b hb => ?_) fun b o e hb => ?_
  · rcases zl16.mp hb with rfl | hb
    · exact .inl rfl
    · rw [zl10.mp hb]
      exact .inr hd0
  · rw [zQ hb, zQ (zM e hd0), zQ hb]
    exact e
theorem sc_add : FnScope ["self", "event"] ["self", "event"] (defScope sAdd) := ⟨rfl, rfl, rfl, by decide +kernel, rfl, by decide +kernel, by decide +kernel⟩
theorem ok_add {f : Addr} {fd : FuncData} (F : Fun K "add" "Letters.add" sAdd f fd) (cl : Cls K C) (nM : NoAttr K C "most") (nE : NoAttr K C "events") (m_len : mg "len" = none) : FnOk P w K mg base CX0 1 f fd ["self", "event"] (spAdd (LL C)) := by
  refine F.ok sc_add (fun vs H Q E h => ?_) (fun cdv A outer s H vs Q E hr h => ?_)
  · obtain ⟨p, fp, m, l, e, rfl, _⟩ := h
    rfl
  obtain ⟨p, fp, m, l, e, rfl, ⟨dx, d, rfl, h1, h2⟩, hl, hm, k⟩ := h
  refine ⟨_, (zE (yD (zL op_ge (zS zN rfl m_len PySem.boot_len (zA (pe_fld (pv 0) rfl) zD)) (pe_fld (pv 0) rfl) (zR _))
   (zG (zO pe_bl))
   zT)
   (zE (yI (pe_bm PySem.F.plainAttrs_list PySem.F.slot_list_append PySem.F.type_list_append yH (pe_fld (pv 0) rfl) (zA (pv 1) zD)))
   (zG (zO pe_bl)))), ?_⟩
  refine ⟨_, rfl, p, C, dx, _, _, rfl, h1, cl, nE, flds_events _ _, d, _, rfl, .inl (SqL.of h2), _, rfl, p, C, dx, _, _, rfl, h1, cl, nM, flds_most _ _, _, _, rfl, rfl, _, rfl, ?_⟩
  have npd : p ≠ d := ne_of h1 h2 (by intro z; cases z)
  refine ite2 (fun c => ?_) (fun c => ?_)
  · have c' := of_decide_eq_true c
    rw [zl0] at c'
    have c2 : ¬ l.length < m := by omega
    have r := k [p, d] H ⟨dx, d, rfl, h1, by unfold added; rw [if_neg c2]; exact h2⟩ ⟨fun b hb => .inl hb, fun b o eb _ => eb⟩
    rw [decide_eq_false c2] at r
    exact r
  · have c' : ¬ ((m : Int) <= (((l.map V.int).length : Nat) : Int)) := fun z => c (decide_eq_true z)
    rw [zl0] at c'
    have c2 : l.length < m := by omega
    refine ⟨_, rfl, p, C, dx, _, _, rfl, h1, cl, nE, flds_events _ _, .inl ⟨rfl, _, SqL.of h2⟩, _, rfl, d, _, _, rfl, rfl, h2, zV (by rw [zl0]; omega), ?_⟩
    have r := k [p, d] (upd H d (.lst (l.map V.int ++ [.int e]))) ⟨dx, d, rfl, by rw [zQ npd]; exact h1, by unfold added; rw [if_pos c2, zC, zl8]; rfl⟩ ⟨fun b hb => .inl hb, fun b o eb nb => by
      rw [zQ (fun z : b = d => nb (by rw [z]; simp))]
      exact eb⟩
    rw [decide_eq_true c2] at r
    exact r
end
end Prg
namespace Prg
open PySem L2 Mix Gds Dds Lts
theorem LL_tup {C : Addr} {H : Hp} {p t : Addr} {fp : List Addr} {m : Nat} {l : List Int} {xs : List V} (h : LL C H p fp m l) (ht : H t = some (.tup xs)) : t ∉ fp := by
  obtain ⟨dx, d, rfl, h1, h2⟩ := h
  intro z
  rcases zl16.mp z with z | z
  · rw [z, h1] at ht
    cases ht
  · rw [zl10.mp z, h2] at ht
    cases ht
def spRecorded (L : LA) : Sp := fun vs H Q _ => ∃ (vd : V) (tb p : Addr) (d : Dd) (bx sz l : List Int) (fp : List Addr) (m : Nat) (G : Hp), vs = [vd, .ref tb, .ref p] /\ Same G H /\ (∀ b ∈ fp, G b = none) /\ DdIn G vd d /\ G tb = some (.tup ((d.upd sz bx).map V.int)) /\ L H p fp m l /\ d.ok bx.length /\ bx.length <= 6 /\ l.length <= m /\ m <= 12 ∧
  ∀ (t : Addr) (fp' : List Addr) (H' : Hp), L H' p fp' m (d.lin m l) -> Stp H H' fp fp' -> H' t = some (.tup (d.rc sz m bx l).row) -> t ∉ fp' -> Q (.ref t) H'
section
variable {P : Program} {w : World} {K : PySem.W.Frag} {mg : Str -> Option Value} {base : Heap} {C : Addr}
theorem sc_recorded : FnScope ["deed", "boxes", "letters", "kind"] ["deed", "boxes", "letters"] (defScope sRecorded) := ⟨rfl, rfl, rfl, by decide +kernel, rfl, by decide +kernel, by decide +kernel⟩
theorem ok_recorded {n : Nat} {f ga : Addr} {fd da : FuncData} (F : Fun K "recorded" "recorded" sRecorded f fd) (cl : Cls K C) (mA : Meth K C "add" ga) (G_add : FnOk P w K mg base CX0 n ga da ["self", "event"] (spAdd (LL C))) (b_add : Binds K da ["self", "event"] []) :
    FnOk P w K mg base CX0 (n + 1) f fd ["deed", "boxes", "letters"] (spRecorded (LL C)) := by
  refine F.ok sc_recorded (fun vs H Q E h => ?_) (fun cdv A outer s H vs Q E hr h => ?_)
  · obtain ⟨vd, tb, p, d, bx, sz, l, fp, m, G, rfl, _⟩ := h
    rfl
  obtain ⟨vd, tb, p, d, bx, sz, l, fp, m, G, rfl, sg, ng, hd, hb, hL, hok, h6, hl, hm, k⟩ := h
  refine ⟨_, (zE (zK (i := 3) sc_recorded.nd rfl (Or.inl rfl) (yB zH (pv 0) zB (fun _ _ => rfl)))
   (zE (yD (zL yG (pv 3) zP (zR _))
   (zG (zO (zW (zA zP (zA (yB zH (pv 0) zB (fun _ _ => rfl)) zD)))))
   zT)
   (zE (yD (zL yG (pv 3) zP (zR _))
   (zG (zO (zW (zA (pe_ifExp (pt_val (pe_meth (pv 2) cl mA G_add hr b_add .nil yE (zA (yB zH (pv 0) zB (fun _ _ => rfl)) zD))) zP zP) (zA (yB zH (pv 0) zB (fun _ _ => rfl)) zD)))))
   zT)
   (zG (zO (zW (zA zP (zA (yB zH (pv 0) zB (fun _ _ => rfl)) (zA (yB zH (pv 1) (yB zH (pv 0) zB (fun _ _ => rfl)) (fun _ _ => rfl)) zD))))))))), ?_⟩
  have nG : ∀ b o, G b = some o -> b ∉ fp := fun b o e z => by
    rw [ng b z] at e
    cases e
  have fin : ∀ t : Addr, H t = none -> ∀ row : List V, row = (d.rc sz m bx l).row -> d.lin m l = l -> Q (.ref t) (upd H t (.tup row)) := fun t ht row e1 e2 => by
    have s1 := zF ht (.tup row)
    refine k t fp _ (by rw [e2]; exact (LL_ok C).keep hL fun b _ o e => s1 b o e) ⟨fun b hb => .inl hb, fun b o e _ => s1 b o e⟩ (by rw [zC, e1]) (fun z => (LL_ok C).there hL t z ht)
  have two : (∃ (a : Addr) (kd : Str) (b n : Int), vd = .ref a /\ G a = some (.tup [.str kd, .int b, .int n]) /\ (kd = "set" ∨ kd = "add") /\ d.box = some b /\ d.rc sz m bx l = .put b (at0 (d.upd sz bx) b) /\ d.lin m l = l) ∨
      (∃ (a : Addr) (wd : Str), vd = .ref a /\ G a = some (.tup [.str "say", .str wd]) /\ d = .say wd) ∨ (∃ (a : Addr) (ev : Int), vd = .ref a /\ G a = some (.tup [.str "send", .int ev]) /\ d = .send ev) := by
    cases hd with
    | say e => exact .inr (.inl ⟨_, _, rfl, e, rfl⟩)
    | send e => exact .inr (.inr ⟨_, _, rfl, e, rfl⟩)
    | set e => exact .inl ⟨_, _, _, _, rfl, e, .inl rfl, rfl, rfl, rfl⟩
    | add e => exact .inl ⟨_, _, _, _, rfl, e, .inr rfl, rfl, rfl, rfl⟩
  rcases two with ⟨a, kd, b, n', rfl, e, hk, hbx, hrc, hlin⟩ | ⟨a, wd, rfl, e, rfl⟩ | ⟨a, ev, rfl, e, rfl⟩
  · have e' := sg _ _ e
    have hb' := sg _ _ hb
    obtain ⟨b0, b1⟩ := hok b hbx
    have ul := d.upd_len sz bx
    refine ⟨_, rfl, a, _, _, _, rfl, rfl, SqT.of e', rfl, ?_⟩
    refine ⟨_, rfl, rfl, _, rfl, yN (by rcases hk with rfl | rfl <;> decide +kernel) ?_⟩
    refine ⟨_, rfl, rfl, _, rfl, yN (by rcases hk with rfl | rfl <;> decide +kernel) ?_⟩
    refine ⟨_, rfl, a, _, _, _, rfl, rfl, SqT.of e', rfl, _, rfl, _, rfl, a, _, _, _, rfl, rfl, SqT.of e', rfl, tb, _, _, _, rfl, rfl, SqT.of hb', at0_at b0 (by omega), zI (by show 3 <= 1000; decide), fun t ht => ?_⟩
    exact fin t ht _ (by rw [hrc]; rfl) hlin
  · have e' := sg _ _ e
    refine ⟨_, rfl, a, _, _, _, rfl, rfl, SqT.of e', rfl, ?_⟩
    refine ⟨_, rfl, rfl, _, rfl, yO ?_⟩
    exact ⟨_, rfl, a, _, _, _, rfl, rfl, SqT.of e', rfl, zI (by show 2 <= 1000; decide), fun t ht => fin t ht _ rfl rfl⟩
  · have e' := sg _ _ e
    obtain ⟨dx, fs, ho, n1, n2, n3⟩ := (LL_ok C).obj hL
    refine ⟨_, rfl, a, _, _, _, rfl, rfl, SqT.of e', rfl, ?_⟩
    refine ⟨_, rfl, rfl, _, rfl, yN (by decide +kernel) ?_⟩
    refine ⟨_, rfl, rfl, _, rfl, yO ?_⟩
    refine ⟨_, rfl, p, dx, fs, rfl, ho, n1, _, rfl, a, _, _, _, rfl, rfl, SqT.of e', rfl, p, fp, m, l, ev, rfl, hL, hl, hm, fun fp' H1 hL1 st => ⟨_, rfl, ?_⟩⟩
    have e1 := st.rest _ _ e' (nG _ _ e)
    have fin2 : ∀ t : Addr, H1 t = none -> ∀ row : List V, row = ((Dd.send ev).rc sz m bx l).row -> Q (.ref t) (upd H1 t (.tup row)) := fun t ht row er => by
      have s1 := zF ht (.tup row)
      refine k t fp' _ ((LL_ok C).keep hL1 fun b _ o e => s1 b o e) ⟨st.own, fun b o e nb => s1 b o (st.rest b o e nb)⟩ (by rw [zC, er]) (fun z => (LL_ok C).there hL1 t z ht)
    refine ite2 (fun c => ?_) (fun c => ?_)
    · refine ⟨_, rfl, a, _, _, _, rfl, rfl, SqT.of e1, rfl, zI (by show 2 <= 1000; decide), fun t ht => fin2 t ht _ ?_⟩
      show _ = (if l.length < m then Rc.send ev else Rc.lost ev).row
      rw [if_pos (of_decide_eq_true c)]
      rfl
    · refine ⟨_, rfl, a, _, _, _, rfl, rfl, SqT.of e1, rfl, zI (by show 2 <= 1000; decide), fun t ht => fin2 t ht _ ?_⟩
      show _ = (if l.length < m then Rc.send ev else Rc.lost ev).row
      rw [if_neg fun z => c (decide_eq_true z)]
      rfl
end
end Prg
namespace Prg
open PySem L2 Mix Gds Dds Lts
section
variable {P : Program} {w : World} {K : PySem.W.Frag} {mg : Str -> Option Value} {base : Heap} {C : Addr}
theorem sc_done : FnScope ["deeds", "boxes", "sizes", "letters", "held", "record", "deed"] ["deeds", "boxes", "sizes", "letters"] (defScope sDone) := ⟨rfl, rfl, rfl, by decide +kernel, rfl, by decide +kernel, by decide +kernel⟩
theorem ok_done {n : Nat} {f gc gr : Addr} {fd dc dr : FuncData} (F : Fun K "done" "done" sDone f fd) (G_changed : FnOk P w K mg base CX0 n gc dc ["deed", "boxes", "sizes"] spChanged) (b_changed : Binds K dc ["deed", "boxes", "sizes"] []) (k_changed : KI K gc) (m_changed : mg "changed" = some (.ref gc))
    (G_recorded : FnOk P w K mg base CX0 n gr dr ["deed", "boxes", "letters"] (spRecorded (LL C))) (b_recorded : Binds K dr ["deed", "boxes", "letters"] []) (k_recorded : KI K gr) (m_recorded : mg "recorded" = some (.ref gr)) :
    FnOk P w K mg base CX0 (n + 1) f fd ["deeds", "boxes", "sizes", "letters"] (spDone (LL C)) := by
  refine F.ok sc_done (fun vs H Q E h => ?_) (fun cdv A outer s H vs Q E hr h => ?_)
  · obtain ⟨td, tb, ts, p, ds, bx, sz, l, dv, fp, m, G, rfl, _⟩ := h
    rfl
  obtain ⟨td, tb, ts, p, ds, bx, sz, l, dv, fp, m, G, rfl, sg, ng, htd, hds, htb, hts, hL, hok, h8, hbs, h6, hpos, hl, hm, q⟩ := h
  refine ⟨_, (zE (zK (i := 4) sc_done.nd rfl (Or.inl rfl) (pv 1))
   (zE (zK (i := 5) sc_done.nd rfl (Or.inl rfl) (yK zD))
   (zZ (ps_for PassesOwn.never rfl (pi_tup (pv 0)) (yJ (i := 6) sc_done.nd rfl (Or.inl rfl))
   (zE (zK (i := 4) sc_done.nd rfl (Or.inl rfl) (zJ G_changed hr rfl m_changed k_changed b_changed .nil yE (zA (pv 6) (zA (pv 4) (zA (pv 2) zD)))))
   (zG (yI (pe_bm PySem.F.plainAttrs_list PySem.F.slot_list_append PySem.F.type_list_append yH (pv 5) (zA (zJ G_recorded hr rfl m_recorded k_recorded b_recorded .nil yE (zA (pv 6) (zA (pv 4) (zA (pv 3) zD)))) zD))))))
   (zG (zO (zW (zA (pv 4) (zA (pv 5) zD)))))))), ?_⟩
  have nG : ∀ b o, G b = some o -> b ∉ fp := fun b o e z => by
    rw [ng b z] at e
    cases e
  refine ⟨_, rfl, Nat.zero_le _, fun pr hpr => ?_⟩
  have s0 := zF hpr (.lst [])
  have npr : pr ∉ fp := fun z => (LL_ok C).there hL pr z hpr
  have nds := hds.length
  refine ⟨fun σ' Hi => ∃ (tbi : Addr) (fpi : List Addr) (rv : List V) (o6 : Option V), σ' = [some (.ref td), some (.ref tb), some (.ref ts), some (.ref p), some (.ref tbi), some (.ref pr), o6] /\ LL C Hi p fpi m (runL m ds l) /\ Stp H Hi fp fpi ∧
      Hi tbi = some (.tup ((runB sz ds bx).map V.int)) /\ tbi ∉ fpi /\ Hi pr = some (.lst rv) /\ pr ∉ fpi /\ RcsIn (cutH fpi Hi) rv (runR sz m ds bx l), ?_, ?_⟩
  · refine ⟨_, rfl, td, rfl, ⟨_, SqT.of (s0 _ _ (sg _ _ htd))⟩, ?_⟩
    refine for_tup (K := K) (a := td) (xs := dv) (fun i σ' Hi => ∃ (tbi : Addr) (fpi : List Addr) (rv : List V) (o6 : Option V), σ' = [some (.ref td), some (.ref tb), some (.ref ts), some (.ref p), some (.ref tbi), some (.ref pr), o6] /\ LL C Hi p fpi m (runL m (ds.take i) l) /\ Stp H Hi fp fpi ∧
      Hi tbi = some (.tup ((runB sz (ds.take i) bx).map V.int)) /\ tbi ∉ fpi /\ Hi pr = some (.lst rv) /\ pr ∉ fpi /\ RcsIn (cutH fpi Hi) rv (runR sz m (ds.take i) bx l))
      ⟨tb, fp, [], none, rfl, (LL_ok C).keep hL fun b _ o e => s0 b o e, ⟨fun b hb => .inl hb, fun b o e _ => s0 b o e⟩, s0 _ _ (sg _ _ htb), nG _ _ htb, zC, npr, .nil⟩ ?_ ?_ ?_
    · rintro i σ' Hi _ ⟨tbi, fpi, rv, o6, rfl, _, st, _⟩
      exact SqT.of (st.rest _ _ (sg _ _ htd) (nG _ _ htd))
    · rintro i x σ' Hi hx ⟨tbi, fpi, rv, o6, rfl, hLi, st, hbi, nbi, hri, nri, hrc⟩
      obtain ⟨d, hd, hdi⟩ := hds.get hx
      have hdm : d ∈ ds := List.mem_of_getElem? hd
      have hil : i < ds.length := (zl4.mp hd).1
      have gi : ∀ b o, G b = some o -> Hi b = some o /\ b ∉ fpi := fun b o e => by
        refine ⟨st.rest b o (sg b o e) (nG b o e), fun z => ?_⟩
        rcases st.own b z with y | y
        · exact nG b o e y
        · rw [sg b o e] at y
          cases y
      have lb := runB_len sz (ds.take i) bx
      have ll := runL_len (m := m) (ds.take i) l hl
      refine ⟨_, rfl, _, rfl, _, rfl, x, tbi, ts, d, _, sz, rfl, hdi.mono (fun b xs e => (gi b _ e).1), hbi, (gi _ _ hts).1, (by rw [lb]; exact hok d hdm), (by rw [lb]; exact hbs), (by rw [lb]; exact h6), hpos, fun t H1 s1 ht => ?_⟩
      have hL1 := (LL_ok C).keep hLi fun b _ o e => s1 b o e
      have nt := LL_tup hL1 ht
      have hr1 := s1 _ _ hri
      refine ⟨_, rfl, .inl ⟨rfl, _, SqL.of hr1⟩, _, rfl, _, rfl, _, rfl, x, t, p, d, runB sz (ds.take i) bx, sz, runL m (ds.take i) l, fpi, m, cutH fpi H1, rfl, fun b o e => (cutH_some e).1, fun b hb => cutH_in hb, ?_, cutH_of ht nt, hL1, (by rw [lb]; exact hok d hdm), (by rw [lb]; exact h6), ll, hm, fun t2 fp2 H2 hL2 st2 ht2 nt2 => ?_⟩
      · exact hdi.mono fun b xs e => cutH_of (s1 _ _ (gi b _ e).1) (gi b _ e).2
      have hr2 := st2.rest _ _ hr1 nri
      have sub2 : ∀ b o, H1 b = some o -> b ∉ fpi -> H2 b = some o /\ b ∉ fp2 := fun b o e nb => ⟨st2.rest b o e nb, fun z => by
        rcases st2.own b z with y | y
        · exact nb y
        · rw [e] at y
          cases y⟩
      have nr2 := (sub2 _ _ hr1 nri).2
      have rl := hrc.length
      rw [runR_len, zl13] at rl
      refine ⟨pr, _, _, rfl, rfl, hr2, zV (by omega), ?_⟩
      have etk : ds.take (i + 1) = ds.take i ++ [d] := by
        rw [zl14, hd]
        rfl
      refine ⟨t, fp2, rv ++ [.ref t2], _, rfl, ?_, ⟨fun b hb => ?_, fun b o e nb => ?_⟩, ?_, (sub2 _ _ ht nt).2, zC, nr2, ?_⟩
      · rw [etk, runL_snoc]
        refine (LL_ok C).keep hL2 fun b hb o e => ?_
        rw [zQ (fun z : b = pr => nr2 (by rw [<- z]; exact hb))]
        exact e
      · by_cases z : b ∈ fp
        · exact .inl z
        · rcases st2.own b hb with y | y
          · exact st.own b y
          · right
            cases w' : H b with
            | none => rfl
            | some o =>
              have := s1 _ _ (st.rest b o w' z)
              rw [y] at this
              cases this
      · have bi : b ∉ fpi := fun z => by
          rcases st.own b z with y | y
          · exact nb y
          · rw [e] at y
            cases y
        rw [zQ (zM e hpr)]
        exact st2.rest b o (s1 _ _ (st.rest b o e nb)) bi
      · rw [zQ (ne_of ht hr1 (by intro z; cases z)), etk, runB_snoc]
        exact (sub2 _ _ ht nt).1
      · rw [etk, runR_snoc]
        refine (hrc.mono fun b xs e => ?_).snoc (cutH_of ?_ nt2)
        · obtain ⟨e1, e2⟩ := cutH_some e
          obtain ⟨e3, e4⟩ := sub2 _ _ (s1 _ _ e1) e2
          refine cutH_of ?_ e4
          rw [zQ (ne_of e1 hri (by intro z; cases z))]
          exact e3
        · rw [zQ (ne_of ht2 hr2 (by intro z; cases z))]
          exact ht2
    · rintro σ' Hi ⟨tbi, fpi, rv, o6, h1, h2, h3, h4, h5, h6', h7, h8'⟩
      rw [nds, List.take_length] at h2 h4 h8'
      exact ⟨tbi, fpi, rv, o6, h1, h2, h3, h4, h5, h6', h7, h8'⟩
  rintro σ' Hi ⟨tbi, fpi, rv, o6, rfl, hLi, st, hbi, nbi, hri, nri, hrc⟩
  refine ⟨_, rfl, _, rfl, zI (by show 2 <= 1000; decide), fun t ht => ?_⟩
  have s1 := zF ht (.tup [.ref tbi, .ref pr])
  exact q t tbi pr rv fpi _ ((LL_ok C).keep hLi fun b _ o e => s1 b o e) ⟨st.own, fun b o e nb => s1 b o (st.rest b o e nb)⟩ zC (s1 _ _ hbi) nbi (s1 _ _ hri) hpr (hrc.mono fun b xs e => s1 _ _ (cutH_some e).1)
end
end Prg
namespace Ru
open PySem L2 Mix Gds Rms Lts Dds Prg
open Ans (Al)
inductive En where
  | rc (r : Rc)
  | inn (k : Nat)
  | out (k : Nat)
  | door (k : Nat)
  | thr (k : Nat)
  | take (e : Int)
def En.row : En -> List V
  | .rc r => r.row
  | .inn k => [.str "in", .int (k : Int)]
  | .out k => [.str "out", .int (k : Int)]
  | .door k => [.str "door", .int (k : Int)]
  | .thr k => [.str "through", .int (k : Int)]
  | .take e => [.str "take", .int e]
def EnIn (H : Hp) (v : V) (e : En) : Prop := ∃ a : Addr, v = .ref a /\ H a = some (.tup e.row)
theorem EnIn.mono {H H' : Hp} {v : V} {e : En} (x : EnIn H v e) (k : KeepT H H') : EnIn H' v e := by
  obtain ⟨a, h1, h2⟩ := x
  exact ⟨a, h1, k _ _ h2⟩
def DsIn (H : Hp) (v : V) (ds : List Dd) : Prop := ∃ (a : Addr) (dv : List V), v = .ref a /\ H a = some (.tup dv) /\ DdsIn H dv ds
theorem DsIn.mono {H H' : Hp} {v : V} {ds : List Dd} (x : DsIn H v ds) (k : KeepT H H') : DsIn H' v ds := by
  obtain ⟨a, dv, h1, h2, h3⟩ := x
  exact ⟨a, dv, h1, k _ _ h2, h3.mono k⟩
abbrev Sd := En × List Dd
def SpIn (H : Hp) (v : V) (s : Sd) : Prop := ∃ (a am : Addr) (dv : V), v = .ref a /\ H a = some (.tup [.ref am, dv]) /\ H am = some (.tup s.1.row) /\ DsIn H dv s.2
theorem SpIn.mono {H H' : Hp} {v : V} {s : Sd} (x : SpIn H v s) (k : KeepT H H') : SpIn H' v s := by
  obtain ⟨a, am, dv, h1, h2, h3, h4⟩ := x
  exact ⟨a, am, dv, h1, k _ _ h2, k _ _ h3, h4.mono k⟩
def sstep (sz : List Int) (m : Nat) (s : List Int × List Int × List En) (x : Sd) : List Int × List Int × List En := (runB sz x.2 s.1, runL m x.2 s.2.1, s.2.2 ++ (x.1 :: (runR sz m x.2 s.1 s.2.1).map En.rc))
def ssRun (sz : List Int) (m : Nat) (ss : List Sd) (bx l : List Int) : List Int × List Int × List En := ss.foldl (sstep sz m) (bx, l, [])
theorem ssRun_snoc (sz : List Int) (m : Nat) (ss : List Sd) (x : Sd) (bx l : List Int) : ssRun sz m (ss ++ [x]) bx l = sstep sz m (ssRun sz m ss bx l) x := by
  unfold ssRun
  rw [List.foldl_append]
  rfl
theorem foldB_len (sz : List Int) (m : Nat) : ∀ (ss : List Sd) (s : List Int × List Int × List En), (ss.foldl (sstep sz m) s).1.length = s.1.length /\ (s.2.1.length <= m -> (ss.foldl (sstep sz m) s).2.1.length <= m)
  | [], s => ⟨rfl, fun h => h⟩
  | x :: ss, s => by
    have ih := foldB_len sz m ss (sstep sz m s x)
    rw [List.foldl_cons]
    refine ⟨by rw [ih.1]; exact runB_len sz x.2 s.1, fun h => ih.2 (runL_len x.2 s.2.1 h)⟩
theorem ssRun_bx (sz : List Int) (m : Nat) (ss : List Sd) (bx l : List Int) : (ssRun sz m ss bx l).1.length = bx.length := (foldB_len sz m ss _).1
theorem ssRun_l {sz : List Int} {m : Nat} {ss : List Sd} {bx l : List Int} (h : l.length <= m) : (ssRun sz m ss bx l).2.1.length <= m := (foldB_len sz m ss (bx, l, [])).2 h
theorem fold_es (sz : List Int) (m : Nat) : ∀ (ss : List Sd) (s : List Int × List Int × List En), (∀ x ∈ ss, x.2.length <= 8) -> (ss.foldl (sstep sz m) s).2.2.length <= s.2.2.length + 9 * ss.length
  | [], s, _ => by simp
  | x :: ss, s, h => by
    have ih := fold_es sz m ss (sstep sz m s x) fun y hy => h y (List.mem_cons_of_mem _ hy)
    have hx := h x (List.mem_cons_self ..)
    have e : (sstep sz m s x).2.2.length = s.2.2.length + (1 + x.2.length) := by
      show (s.2.2 ++ (x.1 :: (runR sz m x.2 s.1 s.2.1).map En.rc)).length = _
      rw [zl2, zl12, zl0, runR_len]
      omega
    rw [List.foldl_cons, zl12]
    omega
theorem ssRun_es {sz : List Int} {m : Nat} {ss : List Sd} {bx l : List Int} (h : ∀ x ∈ ss, x.2.length <= 8) : (ssRun sz m ss bx l).2.2.length <= 9 * ss.length := by
  have := fold_es sz m ss (bx, l, []) h
  have e : (bx, l, ([] : List En)).2.2.length = 0 := rfl
  rw [e, Nat.zero_add] at this
  exact this
theorem rcs_al {H : Hp} {rv : List V} {rs : List Rc} (x : RcsIn H rv rs) : Al (EnIn H) rv (rs.map En.rc) := by
  induction x with
  | nil => exact .nil
  | cons h _ ih => exact .cons ⟨_, rfl, h⟩ ih
theorem Al.app {α : Type} {R : V -> α -> Prop} {vs ws : List V} {rs ss : List α} (x : Al R vs rs) (y : Al R ws ss) : Al R (vs ++ ws) (rs ++ ss) := by
  induction x with
  | nil => exact y
  | cons h _ ih => exact .cons h ih
theorem Al.cast {α : Type} {R : V -> α -> Prop} {vs ws : List V} {rs : List α} (e : vs = ws) (x : Al R ws rs) : Al R vs rs := by
  rw [e]
  exact x
theorem Stp.trans {H H1 H2 : Hp} {fp fp1 fp2 : List Addr} (a : Stp H H1 fp fp1) (b : Stp H1 H2 fp1 fp2) : Stp H H2 fp fp2 where
  own := fun c hc => by
    by_cases z : c ∈ fp
    · exact .inl z
    · rcases b.own c hc with y | y
      · exact a.own c y
      · right
        cases w' : H c with
        | none => rfl
        | some o =>
          have := a.rest c o w' z
          rw [y] at this
          cases this
  rest := fun c o e nb => b.rest c o (a.rest c o e nb) fun z => by
    rcases a.own c z with y | y
    · exact nb y
    · rw [e] at y
      cases y
theorem Stp.same {H H' : Hp} (fp : List Addr) (s : Same H H') : Stp H H' fp fp := ⟨fun _ h => .inl h, fun b o e _ => s b o e⟩
theorem Stp.apart {H H' : Hp} {fp fp' : List Addr} (a : Stp H H' fp fp') {b : Addr} {o : HO} (e : H b = some o) (n : b ∉ fp) : H' b = some o /\ b ∉ fp' := ⟨a.rest b o e n, fun z => by
  rcases a.own b z with y | y
  · exact n y
  · rw [e] at y
    cases y⟩
theorem Stp.keep {C : Addr} {H H' : Hp} {p : Addr} {fp fp' : List Addr} {m : Nat} {l : List Int} (a : Stp H H' fp fp') (h : LL C H p fp m l) : KeepT H H' := fun b xs e => a.rest b _ e (LL_tup h e)
theorem Stp.upd {H H' : Hp} {fp fp' : List Addr} (a : Stp H H' fp fp') {b : Addr} (n : H b = none) (o : HO) : Stp H (upd H' b o) fp fp' := ⟨a.own, fun c u e nc => by
  rw [zQ (zM e n)]
  exact a.rest c u e nc⟩
theorem LL.same {C : Addr} {H H' : Hp} {p : Addr} {fp : List Addr} {m : Nat} {l : List Int} (h : LL C H p fp m l) (s : Same H H') : LL C H' p fp m l := (LL_ok C).keep h fun b _ o e => s b o e
theorem LL.upd {C : Addr} {H : Hp} {p b : Addr} {fp : List Addr} {m : Nat} {l : List Int} (h : LL C H p fp m l) (n : b ∉ fp) (o : HO) : LL C (upd H b o) p fp m l := (LL_ok C).keep h fun c hc u e => by
  rw [zQ (fun z : c = b => n (by rw [<- z]; exact hc))]
  exact e
theorem LL.new {C : Addr} {H : Hp} {p b : Addr} {fp : List Addr} {m : Nat} {l : List Int} (h : LL C H p fp m l) (n : H b = none) : b ∉ fp := fun z => (LL_ok C).there h b z n
end Ru
namespace Ru
open PySem L2 Mix Gds Rms Lts Dds Prg
open Ans (Al)
def BxIn (H : Hp) (v : V) (z : Int) : Prop := ∃ (a : Addr) (n s : V), v = .ref a /\ H a = some (.tup [n, .int z, s])
theorem BxIn.mono {H H' : Hp} {v : V} {z : Int} (x : BxIn H v z) (k : KeepT H H') : BxIn H' v z := by
  obtain ⟨a, n, s, h1, h2⟩ := x
  exact ⟨a, n, s, h1, k _ _ h2⟩
def spSizes : Sp := fun vs H Q _ => ∃ (pc pb : Addr) (x0 x1 x2 x4 x5 x6 : V) (bv : List V) (sz : List Int), vs = [.ref pc] /\ H pc = some (.tup [x0, x1, x2, .ref pb, x4, x5, x6]) /\ H pb = some (.tup bv) /\ Al (BxIn H) bv sz /\ sz.length <= 100 /\ ∀ (t : Addr) (H' : Hp), Same H H' -> H' t = some (.tup (sz.map V.int)) -> Q (.ref t) H'
def RmD (H : Hp) (rs : List Rm) (di dO : Nat -> List Dd) : Prop := ∀ (k : Nat) (r : Rm), rs[k]? = some r -> DsIn H r.ins (di k) /\ DsIn H r.outs (dO k)
theorem RmD.mono {H H' : Hp} {rs : List Rm} {di dO : Nat -> List Dd} (x : RmD H rs di dO) (k : KeepT H H') : RmD H' rs di dO := fun j r h => ⟨(x j r h).1.mono k, (x j r h).2.mono k⟩
def spStepsIn (f : Nat -> En) (ins : Bool) : Sp := fun vs H Q _ => ∃ (t pe : Addr) (rs : List Rm) (di dO : Nat -> List Dd) (es : List Nat), vs = [.ref t, .ref pe] /\ Rooms H t rs /\ RmD H rs di dO /\ H pe = some (.lst (natsV es)) /\ (∀ k ∈ es, k < rs.length) /\ es.length <= 100 /\ ∀ (p : Addr) (sv : List V) (H' : Hp), Same H H' -> H p = none -> H' p = some (.lst sv) -> Al (SpIn H') sv (es.map fun k => (f k, if ins = true then di k else dO k)) -> Q (.ref p) H'
def outs (es : List En) : List Nat := es.filterMap fun e => match e with
  | .out k => some k
  | _ => none
def spStepped (C : Addr) : Sp := fun vs H Q _ => ∃ (ps tb ts p : Addr) (sv : List V) (ss : List Sd) (bx sz l : List Int) (fp : List Addr) (m : Nat), vs = [.ref ps, .ref tb, .ref ts, .ref p] /\ H ps = some (.lst sv) /\ ps ∉ fp /\ Al (SpIn H) sv ss /\ H tb = some (.tup (bx.map V.int)) /\ H ts = some (.tup (sz.map V.int)) /\ LL C H p fp m l /\ (∀ s ∈ ss, (∀ d ∈ s.2, d.ok bx.length) /\ s.2.length <= 8) /\ ss.length <= 110 /\ bx.length = sz.length /\ bx.length <= 6 /\ (∀ z ∈ sz, 0 < z) /\ l.length <= m /\ m <= 12 ∧
  ∀ (t tb' pr : Addr) (rv : List V) (fp' : List Addr) (H' : Hp), LL C H' p fp' m (ssRun sz m ss bx l).2.1 -> Stp H H' fp fp' -> H' t = some (.tup [.ref tb', .ref pr]) -> H' tb' = some (.tup ((ssRun sz m ss bx l).1.map V.int)) -> H' pr = some (.lst rv) -> H pr = none -> pr ∉ fp' -> Al (EnIn H') rv (ssRun sz m ss bx l).2.2 -> Q (.ref t) H'
section
variable {P : Program} {w : World} {K : PySem.W.Frag} {mg : Str -> Option Value} {base : Heap} {C : Addr}
theorem sc_sizes_of : FnScope ["chart"] ["chart"] (defScope s_sizes_of) := ⟨rfl, rfl, rfl, by decide +kernel, rfl, by decide +kernel, by decide +kernel⟩
theorem ok_sizes_of {f : Addr} {fd : FuncData} (F : Fun K "sizes_of" "sizes_of" s_sizes_of f fd) (m_tuple : mg "tuple" = none) : FnOk P w K mg base CX0 1 f fd ["chart"] spSizes := by
  refine F.ok sc_sizes_of (fun vs H Q E h => ?_) (fun cdv A outer s H vs Q E hr h => ?_)
  · obtain ⟨pc, pb, x0, x1, x2, x4, x5, x6, bv, sz, rfl, _⟩ := h
    rfl
  obtain ⟨pc, pb, x0, x1, x2, x4, x5, x6, bv, sz, rfl, hpc, hpb, hA, hz, q⟩ := h
  refine ⟨_, (zG (zO (yA zX rfl m_tuple PyProof.Rows.boot_tuple (zA (yT (caps := []) rfl (show CompSc (defScope s_sizes_of) ["chart"] _ _ _ from ⟨rfl, rfl, by decide +kernel, by decide +kernel, by decide +kernel, by decide +kernel, by decide +kernel⟩) (pi_tup (yB zH (pv 0) zB (fun _ _ => rfl))) (fun _ _ _ _ _ _ => pifs_nil) (fun _ _ _ _ _ _ => yB (r := rIxT K) zH (pv 0) zB (fun _ _ => rfl))) zD)))), ?_⟩
  have lb := hA.length
  refine ⟨_, rfl, pc, _, _, _, rfl, rfl, SqT.of hpc, rfl, pb, rfl, ⟨_, SqT.of hpb⟩, ?_⟩
  refine comp_tup (K := K) (a := pb) (xs := bv) (fun i acc H' => H' = H /\ acc = (sz.take i).map V.int) ⟨rfl, rfl⟩ (fun i acc H' z => by rw [z.1]; exact SqT.of hpb) ?_ ?_
  · rintro i x acc H' hx ⟨rfl, rfl⟩
    have hi : i < sz.length := by
      have := (zl4.mp hx).1
      omega
    have hk := zl1 hi
    obtain ⟨v, hv, a, n, s, rfl, h1⟩ := hA.get hk
    rw [hv] at hx
    obtain rfl := zl7 hx
    refine ⟨_, rfl, a, _, _, _, rfl, rfl, SqT.of h1, rfl, by rw [zl0, zl13, sizeLine_eq]; omega, rfl, ?_⟩
    rw [zl14, hk, zl8]
    rfl
  · rintro acc H' ⟨rfl, rfl⟩ pl hpl
    rw [zl9 (by omega)] at *
    refine ⟨pl, _, rfl, .inl ⟨SqL.of zC, fun p hp => q p _ ((zF hpl _).trans (zF hp _)) zC⟩⟩
theorem sc_steps_in : FnScope ["rooms", "entered"] ["rooms", "entered"] (defScope s_steps_in) := ⟨rfl, rfl, rfl, by decide +kernel, rfl, by decide +kernel, by decide +kernel⟩
theorem ok_steps_in {f : Addr} {fd : FuncData} (F : Fun K "steps_in" "steps_in" s_steps_in f fd) : FnOk P w K mg base CX0 1 f fd ["rooms", "entered"] (spStepsIn En.inn true) := by
  refine F.ok sc_steps_in (fun vs H Q E h => ?_) (fun cdv A outer s H vs Q E hr h => ?_)
  · obtain ⟨t, pe, rs, di, dO, es, rfl, _⟩ := h
    rfl
  obtain ⟨t, pe, rs, di, dO, es, rfl, hR, hD, hpe, hlt, hz, q⟩ := h
  refine ⟨_, (zG (zO (yT (caps := [(0, "rooms")]) rfl (show CompSc (defScope s_steps_in) ["rooms", "entered"] _ _ _ from ⟨rfl, rfl, by decide +kernel, by decide +kernel, by decide +kernel, by decide +kernel, by decide +kernel⟩) (yM (pv 1)) (fun _ _ _ _ _ _ => pifs_nil) (fun _ _ _ _ _ _ => (zW (zA (zW (zA zP (zA (pv 0) zD))) (zA (yB (r := rIxT K) zH (yB (r := rIxT K) zH (pv 1) (pv 0) (fun _ _ => rfl)) zB (fun _ _ => rfl)) zD))))))), ?_⟩
  refine ⟨_, rfl, pe, rfl, ⟨_, SqL.of hpe⟩, ?_⟩
  refine yS (K := K) (a := pe) (xs := natsV es) (fun i acc H' => Same H H' /\ acc.length = i /\ Al (SpIn H') acc ((es.take i).map fun k => (En.inn k, di k))) ⟨Same.refl _, rfl, .nil⟩ (fun i acc H' z => SqL.of (z.1 _ _ hpe)) ?_ ?_
  · rintro i x acc H' hx ⟨s1, la, hA⟩
    obtain ⟨hi, rfl⟩ := yR hx
    have hk := zl1 hi
    have hm := hlt _ (zl22 hi)
    generalize es[i] = k at hk hm
    obtain ⟨vs, a, r, hv, _, hr', hat, ha⟩ := (hR.mono (KeepT.of s1)).at hm
    have hd := (hD k r hr').1
    refine ⟨_, rfl, zI (by show 2 <= 1000; decide), fun p hp => ?_⟩
    have u2 := zF hp (.tup [V.str ("in" : Str), V.int (k : Int)])
    have h2p : upd H' p (.tup [V.str ("in" : Str), V.int (k : Int)]) p = some (.tup (En.inn k).row) := zC
    generalize upd H' p (.tup [V.str ("in" : Str), V.int (k : Int)]) = H2 at u2 h2p ⊢
    refine ⟨_, rfl, _, rfl, t, _, _, _, rfl, rfl, SqT.of (u2 _ _ hv), hat, a, _, _, _, rfl, rfl, SqT.of (u2 _ _ ha), rfl, zI (by show 2 <= 1000; decide), fun p2 hp2 => ⟨by rw [sizeLine_eq]; omega, s1.trans (u2.trans (zF hp2 _)), by rw [zl2, zl15, la], ?_⟩⟩
    have u3 := zF hp2 (.tup [V.ref p, r.ins])
    rw [zl14, hk, zl8]
    exact (hA.mono fun _ _ z => z.mono (KeepT.of (u2.trans u3))).snoc ⟨p2, p, r.ins, rfl, zC, u3 _ _ h2p, hd.mono (KeepT.of (s1.trans (u2.trans u3)))⟩
  · rintro acc H' ⟨s1, la, hA⟩ pl hpl
    rw [zU] at hA
    rw [zl9 (zl3 _)] at hA
    exact q pl acc _ (s1.trans (zF hpl _)) (s1.free hpl) zC (hA.mono fun _ _ z => z.mono (KeepT.of (zF hpl _)))
theorem sc_steps_out : FnScope ["rooms", "left"] ["rooms", "left"] (defScope s_steps_out) := ⟨rfl, rfl, rfl, by decide +kernel, rfl, by decide +kernel, by decide +kernel⟩
theorem ok_steps_out {f : Addr} {fd : FuncData} (F : Fun K "steps_out" "steps_out" s_steps_out f fd) : FnOk P w K mg base CX0 1 f fd ["rooms", "left"] (spStepsIn En.out false) := by
  refine F.ok sc_steps_out (fun vs H Q E h => ?_) (fun cdv A outer s H vs Q E hr h => ?_)
  · obtain ⟨t, pe, rs, di, dO, es, rfl, _⟩ := h
    rfl
  obtain ⟨t, pe, rs, di, dO, es, rfl, hR, hD, hpe, hlt, hz, q⟩ := h
  refine ⟨_, (zG (zO (yT (caps := [(0, "rooms")]) rfl (show CompSc (defScope s_steps_out) ["rooms", "left"] _ _ _ from ⟨rfl, rfl, by decide +kernel, by decide +kernel, by decide +kernel, by decide +kernel, by decide +kernel⟩) (yM (pv 1)) (fun _ _ _ _ _ _ => pifs_nil) (fun _ _ _ _ _ _ => (zW (zA (zW (zA zP (zA (pv 0) zD))) (zA (yB (r := rIxT K) zH (yB (r := rIxT K) zH (pv 1) (pv 0) (fun _ _ => rfl)) zB (fun _ _ => rfl)) zD))))))), ?_⟩
  refine ⟨_, rfl, pe, rfl, ⟨_, SqL.of hpe⟩, ?_⟩
  refine yS (K := K) (a := pe) (xs := natsV es) (fun i acc H' => Same H H' /\ acc.length = i /\ Al (SpIn H') acc ((es.take i).map fun k => (En.out k, dO k))) ⟨Same.refl _, rfl, .nil⟩ (fun i acc H' z => SqL.of (z.1 _ _ hpe)) ?_ ?_
  · rintro i x acc H' hx ⟨s1, la, hA⟩
    obtain ⟨hi, rfl⟩ := yR hx
    have hk := zl1 hi
    have hm := hlt _ (zl22 hi)
    generalize es[i] = k at hk hm
    obtain ⟨vs, a, r, hv, _, hr', hat, ha⟩ := (hR.mono (KeepT.of s1)).at hm
    have hd := (hD k r hr').2
    refine ⟨_, rfl, zI (by show 2 <= 1000; decide), fun p hp => ?_⟩
    have u2 := zF hp (.tup [V.str ("out" : Str), V.int (k : Int)])
    have h2p : upd H' p (.tup [V.str ("out" : Str), V.int (k : Int)]) p = some (.tup (En.out k).row) := zC
    generalize upd H' p (.tup [V.str ("out" : Str), V.int (k : Int)]) = H2 at u2 h2p ⊢
    refine ⟨_, rfl, _, rfl, t, _, _, _, rfl, rfl, SqT.of (u2 _ _ hv), hat, a, _, _, _, rfl, rfl, SqT.of (u2 _ _ ha), rfl, zI (by show 2 <= 1000; decide), fun p2 hp2 => ⟨by rw [sizeLine_eq]; omega, s1.trans (u2.trans (zF hp2 _)), by rw [zl2, zl15, la], ?_⟩⟩
    have u3 := zF hp2 (.tup [V.ref p, r.outs])
    rw [zl14, hk, zl8]
    exact (hA.mono fun _ _ z => z.mono (KeepT.of (u2.trans u3))).snoc ⟨p2, p, r.outs, rfl, zC, u3 _ _ h2p, hd.mono (KeepT.of (s1.trans (u2.trans u3)))⟩
  · rintro acc H' ⟨s1, la, hA⟩ pl hpl
    rw [zU] at hA
    rw [zl9 (zl3 _)] at hA
    exact q pl acc _ (s1.trans (zF hpl _)) (s1.free hpl) zC (hA.mono fun _ _ z => z.mono (KeepT.of (zF hpl _)))
theorem sc_stepped : FnScope ["steps", "boxes", "sizes", "letters", "held", "record", "mark", "deeds", "told"] ["steps", "boxes", "sizes", "letters"] (defScope s_stepped) := ⟨rfl, rfl, rfl, by decide +kernel, rfl, by decide +kernel, by decide +kernel⟩
theorem ok_stepped {n : Nat} {f gd : Addr} {fd dd : FuncData} (F : Fun K "stepped" "stepped" s_stepped f fd) (G_done : FnOk P w K mg base CX0 n gd dd ["deeds", "boxes", "sizes", "letters"] (spDone (LL C))) (b_done : Binds K dd ["deeds", "boxes", "sizes", "letters"] []) (k_done : KI K gd) (m_done : mg "done" = some (.ref gd)) :
    FnOk P w K mg base CX0 (n + 1) f fd ["steps", "boxes", "sizes", "letters"] (spStepped C) := by
  refine F.ok sc_stepped (fun vs H Q E h => ?_) (fun cdv A outer s H vs Q E hr h => ?_)
  · obtain ⟨ps, tb, ts, p, sv, ss, bx, sz, l, fp, m, rfl, _⟩ := h
    rfl
  obtain ⟨ps, tb, ts, p, sv, ss, bx, sz, l, fp, m, rfl, hps, nps, hA, htb, hts, hL, hok, hss, hbs, h6, hpos, hl, hm, q⟩ := h
  refine ⟨_, (zE (zK (i := 4) sc_stepped.nd rfl (Or.inl rfl) (pv 1))
   (zE (zK (i := 5) sc_stepped.nd rfl (Or.inl rfl) (yK zD))
   (zZ (ps_for PassesOwn.never rfl (yM (pv 0)) (pg_tup rfl (pgs_cons (yJ (i := 6) sc_stepped.nd rfl (Or.inl rfl)) (pgs_cons (yJ (i := 7) sc_stepped.nd rfl (Or.inl rfl)) pgs_nil)))
   (zE (zK (i := 8) sc_stepped.nd rfl (Or.inl rfl) (zJ G_done hr rfl m_done k_done b_done .nil yE (zA (pv 7) (zA (pv 4) (zA (pv 2) (zA (pv 3) zD))))))
   (zE (zK (i := 4) sc_stepped.nd rfl (Or.inl rfl) (yB zH (pv 8) zB (fun _ _ => rfl)))
   (zE (yI (pe_bm PySem.F.plainAttrs_list PySem.F.slot_list_append PySem.F.type_list_append yH (pv 5) (zA (pv 6) zD)))
   (zG (yI (pe_bm PySem.F.plainAttrs_list PySem.F.slot_list_extend PySem.F.type_list_extend mt_extend (pv 5) (zA (yB zH (pv 8) zB (fun _ _ => rfl)) zD))))))))
   (zG (zO (zW (zA (pv 4) (zA (pv 5) zD)))))))), ?_⟩
  have lsv := hA.length
  refine ⟨_, rfl, Nat.zero_le _, fun pr hpr => ?_⟩
  have u0 := zF hpr (.lst [])
  have npr : pr ∉ fp := LL.new hL hpr
  refine ⟨fun σ' Hi => ∃ (tbi : Addr) (fpi : List Addr) (rv : List V) (o6 o7 o8 : Option V), σ' = [some (.ref ps), some (.ref tb), some (.ref ts), some (.ref p), some (.ref tbi), some (.ref pr), o6, o7, o8] /\ LL C Hi p fpi m (ssRun sz m ss bx l).2.1 /\ Stp H Hi fp fpi /\ Hi tbi = some (.tup ((ssRun sz m ss bx l).1.map V.int)) /\ Hi pr = some (.lst rv) /\ pr ∉ fpi /\ Al (EnIn Hi) rv (ssRun sz m ss bx l).2.2, ?_, ?_⟩
  · refine ⟨_, rfl, ps, rfl, ⟨_, SqL.of (u0 _ _ hps)⟩, ?_⟩
    refine for_list (K := K) (a := ps) (xs := sv) (fun i σ' Hi => ∃ (tbi : Addr) (fpi : List Addr) (rv : List V) (o6 o7 o8 : Option V), σ' = [some (.ref ps), some (.ref tb), some (.ref ts), some (.ref p), some (.ref tbi), some (.ref pr), o6, o7, o8] /\ LL C Hi p fpi m (ssRun sz m (ss.take i) bx l).2.1 /\ Stp H Hi fp fpi /\ Hi tbi = some (.tup ((ssRun sz m (ss.take i) bx l).1.map V.int)) /\ Hi pr = some (.lst rv) /\ pr ∉ fpi /\ Al (EnIn Hi) rv (ssRun sz m (ss.take i) bx l).2.2)
      ⟨tb, fp, [], _, _, _, rfl, LL.same hL u0, Stp.same fp u0, u0 _ _ htb, zC, npr, .nil⟩ (fun i σ' Hi _ ⟨_, _, _, _, _, _, _, _, st, _⟩ => SqL.of (st.rest _ _ hps nps)) ?_ ?_
    · rintro i x σ' Hi hx ⟨tbi, fpi, rv, o6, o7, o8, rfl, hLi, st, hbi, hri, nri, hrc⟩
      have hi : i < ss.length := by
        have := (zl4.mp hx).1
        omega
      have hk := zl1 hi
      have hmem := zl22 hi
      have etk : ss.take (i + 1) = ss.take i ++ [ss[i]] := by
        rw [zl14, hk]
        rfl
      obtain ⟨v, hv, a, am, dvr, rfl, h1, h2, ad, dv, rfl, h3, h4⟩ := hA.get hk
      rw [hv] at hx
      obtain rfl := zl7 hx
      have kt : KeepT H Hi := Stp.keep st hL
      obtain ⟨ok1, ok2⟩ := hok _ hmem
      have lb := ssRun_bx sz m (ss.take i) bx l
      have ll := ssRun_l (sz := sz) (ss := ss.take i) (bx := bx) hl
      have les := ssRun_es (sz := sz) (m := m) (ss := ss.take i) (bx := bx) (l := l) fun y hy => (hok y (List.mem_of_mem_take hy)).2
      have lrv := hrc.length
      rw [zl13] at les
      generalize ss[i] = sd at etk h2 h4 ok1 ok2
      have gk : KeepT Hi (cutH fpi Hi) := fun b xs e => cutH_of e (LL_tup hLi e)
      refine ⟨a, _, rfl, SqT.of (kt _ _ h1), rfl, _, _, rfl, _, _, rfl, rfl, ?_⟩
      refine ⟨_, rfl, _, rfl, _, rfl, _, rfl, ad, tbi, ts, p, sd.2, _, sz, _, dv, fpi, m, cutH fpi Hi, rfl, fun b o e => (cutH_some e).1, fun b hb => cutH_in hb, gk _ _ (kt _ _ h3), h4.mono (kt.trans gk), gk _ _ hbi, gk _ _ (kt _ _ hts), hLi, (by rw [lb]; exact ok1), ok2, (by rw [lb]; exact hbs), (by rw [lb]; exact h6), hpos, ll, hm, fun t tb2 pr2 rv2 fp2 H2 hL2 st2 ht2 hb2 nb2 hr2 npr2 hrc2 => ?_⟩
      have hr3 := (Stp.apart st2 hri nri).1
      have nr3 := (Stp.apart st2 hri nri).2
      have k2 := Stp.keep st2 hLi
      have ne2 : pr2 ≠ pr := fun z => by
        rw [z, hri] at npr2
        cases npr2
      refine ⟨_, rfl, t, _, _, _, rfl, rfl, SqT.of ht2, rfl, ?_⟩
      refine ⟨_, rfl, .inl ⟨rfl, _, SqL.of hr3⟩, _, rfl, pr, rv, _, rfl, rfl, hr3, (by rw [sizeLine_eq]; omega), ?_⟩
      have k3 := KeepT.lst hr3 (.lst (rv ++ [.ref am]))
      have h3r : upd H2 pr (.lst (rv ++ [.ref am])) pr = some (.lst (rv ++ [.ref am])) := zC
      have h3p : upd H2 pr (.lst (rv ++ [.ref am])) pr2 = some (.lst rv2) := by
        rw [zQ ne2]
        exact hr2
      have st3 : Stp H (upd H2 pr (.lst (rv ++ [.ref am]))) fp fp2 := Stp.upd (Stp.trans st st2) hpr _
      have hL3 := LL.upd hL2 nr3 (.lst (rv ++ [.ref am]))
      generalize upd H2 pr (.lst (rv ++ [.ref am])) = H3 at k3 h3r h3p st3 hL3 ⊢
      have lr2 := hrc2.length
      rw [runR_len] at lr2
      refine ⟨_, rfl, .inl ⟨rfl, _, SqL.of h3r⟩, _, rfl, t, _, _, _, rfl, rfl, SqT.of (k3 _ _ ht2), rfl, pr, pr2, _, _, rfl, rfl, h3r, h3p, (by rw [zl2, zl15, sizeLine_eq]; omega), ?_⟩
      have k4 := KeepT.lst h3r (.lst (rv ++ [.ref am] ++ rv2))
      have kall := k2.trans (k3.trans k4)
      refine ⟨tb2, fp2, _, _, _, _, rfl, ?_, Stp.upd st3 hpr _, ?_, zC, nr3, ?_⟩
      · rw [etk, ssRun_snoc]
        exact LL.upd hL3 nr3 _
      · rw [etk, ssRun_snoc]
        exact (k3.trans k4) _ _ hb2
      · rw [etk, ssRun_snoc]
        show Al _ _ ((ssRun sz m (ss.take i) bx l).2.2 ++ (sd.1 :: _))
        refine Al.cast (show rv ++ [V.ref am] ++ rv2 = rv ++ (V.ref am :: rv2) by rw [List.append_assoc]; rfl) ?_
        exact Al.app (hrc.mono fun _ _ z => z.mono kall) (.cons ⟨am, rfl, kall _ _ (kt _ _ h2)⟩ (rcs_al (hrc2.mono (k3.trans k4))))
    · rintro σ' Hi ⟨tbi, fpi, rv, o6, o7, o8, z1, z2, z3, z4, z5, z6, z7⟩
      rw [lsv, List.take_length] at z2 z4 z7
      exact ⟨tbi, fpi, rv, o6, o7, o8, z1, z2, z3, z4, z5, z6, z7⟩
  rintro σ' Hi ⟨tbi, fpi, rv, o6, o7, o8, rfl, hLi, st, hbi, hri, nri, hrc⟩
  refine ⟨_, rfl, _, rfl, zI (by show 2 <= 1000; decide), fun t ht => ?_⟩
  have u1 := zF ht (.tup [.ref tbi, .ref pr])
  exact q t tbi pr rv fpi _ (LL.same hLi u1) (Stp.trans st (Stp.same fpi u1)) zC (u1 _ _ hbi) (u1 _ _ hri) hpr nri (hrc.mono fun _ _ z => z.mono (KeepT.of u1))
end
end Ru
namespace Ru
open PySem L2 Mix Gds Rms Lts Dds Prg
open Ans (Al)
inductive Wy where
  | to (g : Nat)
  | back (g : Nat)
  | stay
def Wy.tx : Wy -> Str
  | .to _ => "to"
  | .back _ => "back"
  | .stay => "stay"
def Wy.gv : Wy -> V
  | .to g => .int (g : Int)
  | .back g => .int (g : Int)
  | .stay => .non
def Wy.gl : Wy -> Nat
  | .to g => g
  | .back g => g
  | .stay => 0
structure Dx where
  room : Nat
  ev : Int
  g : Gd
  dd : List Dd
  way : Wy
def DxIn (H : Hp) (v : V) (d : Dx) : Prop := ∃ (a : Addr) (gv dv : V), v = .ref a /\ H a = some (.tup [.int (d.room : Int), .int d.ev, gv, dv, .str d.way.tx, d.way.gv]) /\ GdIn H gv d.g /\ DsIn H dv d.dd
theorem DxIn.mono {H H' : Hp} {v : V} {d : Dx} (x : DxIn H v d) (k : KeepT H H') : DxIn H' v d := by
  obtain ⟨a, gv, dv, h1, h2, h3, h4⟩ := x
  exact ⟨a, gv, dv, h1, k _ _ h2, h3.mono k, h4.mono k⟩
structure ChD where
  od : Str
  lb : Nat
  tn : Nat
  sz : List Int
  rs : List Rm
  di : Nat -> List Dd
  dO : Nat -> List Dd
  ds : List Dx
  lc : Int
def ChIn (H : Hp) (pc : Addr) (c : ChD) : Prop := ∃ (pb t pd : Addr) (x4 : V) (bv dv : List V), H pc = some (.tup [.str c.od, .int c.lc, .int (c.tn : Int), .ref pb, x4, .ref t, .ref pd]) /\ H pb = some (.tup bv) /\ Al (BxIn H) bv c.sz /\ Rooms H t c.rs /\ RmD H c.rs c.di c.dO /\ H pd = some (.tup dv) /\ Al (DxIn H) dv c.ds
theorem ChIn.mono {H H' : Hp} {pc : Addr} {c : ChD} (x : ChIn H pc c) (k : KeepT H H') : ChIn H' pc c := by
  obtain ⟨pb, t, pd, x4, bv, dv, h1, h2, h3, h4, h5, h6, h7⟩ := x
  exact ⟨pb, t, pd, x4, bv, dv, k _ _ h1, k _ _ h2, h3.mono fun _ _ z => z.mono k, h4.mono k, h5.mono k, k _ _ h6, h7.mono fun _ _ z => z.mono k⟩
structure ChOk (c : ChD) : Prop where
  good : Tr.Good (depths c.rs)
  r40 : c.rs.length <= 40
  b6 : c.sz.length <= 6
  pos : ∀ z ∈ c.sz, 0 < z
  l12 : c.lb <= 12
  ins : ∀ k : Nat, (∀ d ∈ c.di k, d.ok c.sz.length) /\ (c.di k).length <= 8
  outs : ∀ k : Nat, (∀ d ∈ c.dO k, d.ok c.sz.length) /\ (c.dO k).length <= 8
  d63 : c.ds.length <= 63
  door : ∀ d ∈ c.ds, d.room < c.rs.length /\ d.way.gl < c.rs.length /\ (∀ x ∈ d.dd, x.ok c.sz.length) /\ d.dd.length <= 8
structure S4 where
  os : List Nat
  bx : List Int
  ks : List (List Nat)
  l : List Int
def SdIn (H : Hp) (ps : Addr) (s : S4) : Prop := ∃ (po pb pk : Addr) (kv : List V), H ps = some (.tup [.ref po, .ref pb, .ref pk]) /\ H po = some (.tup (natsV s.os)) /\ H pb = some (.tup (s.bx.map V.int)) /\ H pk = some (.tup kv) /\ RowsIn H kv s.ks
theorem SdIn.mono {H H' : Hp} {ps : Addr} {s : S4} (x : SdIn H ps s) (k : KeepT H H') : SdIn H' ps s := by
  obtain ⟨po, pb, pk, kv, h1, h2, h3, h4, h5⟩ := x
  exact ⟨po, pb, pk, kv, k _ _ h1, k _ _ h2, k _ _ h3, k _ _ h4, h5.mono k⟩
structure SdOk (c : ChD) (s : S4) : Prop where
  inc : s.os.Pairwise (· < ·)
  lt : ∀ o ∈ s.os, o < c.rs.length
  o40 : s.os.length <= 40
  bx : s.bx.length = c.sz.length
  ks : s.ks.length = c.rs.length
  l : s.l.length <= c.lb
def goalsOf (w : Wy) (ks : List (List Nat)) : List Nat := match w with
  | .to g => [g]
  | .back g => if ks.getD g [] = [] then [g] else ks.getD g []
  | .stay => []
def isStay : Wy -> Bool
  | .stay => true
  | _ => false
def hallOf (c : ChD) (d : Dx) : Option Nat := Tr.hall (depths c.rs) (K09.isOne c.rs) d.room d.way.gl
def leftOf (c : ChD) (d : Dx) (os : List Nat) : List Nat := if isStay d.way = true then [] else K14.outsOf (depths c.rs) (hallOf c d) os
def ksOf (c : ChD) (d : Dx) (os : List Nat) (ks : List (List Nat)) : List (List Nat) := if isStay d.way = true then ks else keptFold c.rs os (leftOf c d os) ks
def InsR (c : ChD) (d : Dx) (ks : List (List Nat)) (ms : List Nat) : Prop := if isStay d.way = true then ms = [] else Tr.Ins (depths c.rs) (alB c.rs) (goalsOf d.way ks) (hallOf c d) ms
def stayOf (c : ChD) (d : Dx) (os : List Nat) : List Nat := os.filter fun o => !inV (.int (o : Int)) (natsV (leftOf c d os))
def stepsOf (c : ChD) (k : Nat) (d : Dx) (os ms : List Nat) : List Sd := [(En.door k, [])] ++ ((leftOf c d os).map fun r => (En.out r, c.dO r)) ++ [(En.thr k, d.dd)] ++ ms.map fun r => (En.inn r, c.di r)
def PassR (c : ChD) (k : Nat) (s : S4) (es : List En) (s' : S4) : Prop := ∃ (d : Dx) (ms : List Nat), c.ds[k]? = some d /\ InsR c d (ksOf c d s.os s.ks) ms /\ s'.os.Perm (stayOf c d s.os ++ ms) /\ s'.os.Pairwise (· < ·) /\ s'.ks = ksOf c d s.os s.ks /\ (s'.bx, s'.l, es) = ssRun c.sz c.lb (stepsOf c k d s.os ms) s.bx s.l
def MayPass (c : ChD) (d : Dx) (os : List Nat) (ks : List (List Nat)) : Prop := (∀ g ∈ goalsOf d.way (ksOf c d os ks), g < c.rs.length) /\ (goalsOf d.way (ksOf c d os ks)).length <= 100 /\ ∀ ms : List Nat, InsR c d (ksOf c d os ks) ms -> (stayOf c d os ++ ms).Nodup /\ (stayOf c d os ++ ms).length <= 40 /\ ∀ k ∈ ms, k < c.rs.length
def spGoals : Sp := fun vs H Q _ => ∃ (pc pk : Addr) (kv : List V) (ks : List (List Nat)) (c : ChD) (k : Nat) (d : Dx), vs = [.ref pc, .ref pk, .int (k : Int)] /\ ChIn H pc c /\ c.ds[k]? = some d /\ H pk = some (.tup kv) /\ RowsIn H kv ks /\ d.way.gl < ks.length /\ (goalsOf d.way ks).length <= 100 /\ ∀ (p : Addr) (H' : Hp), Same H H' -> H p = none -> H' p = some (.lst (natsV (goalsOf d.way ks))) -> Q (.ref p) H'
def spPassed (C : Addr) : Sp := fun vs H Q _ => ∃ (pc ps p : Addr) (c : ChD) (k : Nat) (ik : Int) (s : S4) (fp : List Addr) (d : Dx), vs = [.ref pc, .ref ps, .int ik, .ref p] /\ ik = (k : Int) /\ ChIn H pc c /\ ChOk c /\ SdIn H ps s /\ SdOk c s /\ c.ds[k]? = some d /\ MayPass c d s.os s.ks /\ LL C H p fp c.lb s.l ∧
  ∀ (t ps' pr : Addr) (rv : List V) (s' : S4) (es : List En) (fp' : List Addr) (H' : Hp), PassR c k s es s' -> LL C H' p fp' c.lb s'.l -> Stp H H' fp fp' -> H' t = some (.tup [.ref ps', .ref pr]) -> SdIn H' ps' s' -> SdOk c s' -> H' pr = some (.lst rv) -> H pr = none -> pr ∉ fp' -> Al (EnIn H') rv es -> es.length <= 1000 -> Q (.ref t) H'
theorem kept_len (rs : List Rm) (os : List Nat) : ∀ (ls : List Nat) (ks : List (List Nat)), (keptFold rs os ls ks).length = ks.length
  | [], ks => rfl
  | r :: ls, ks => by
    show (keptFold rs os ls (if keepsAt rs r = ("" : Str) then ks else ks.set r (keptV rs os r))).length = _
    rw [kept_len rs os ls]
    split
    · rfl
    · rw [List.length_set]
theorem hall_lt {ds : List Int} {f : Nat -> Bool} {a b u : Nat} (h : Tr.hall ds f a b = some u) : u < a := Tr.ups_lt (List.mem_of_find?_eq_some h)
theorem outs_len (ds : List Int) (un : Option Nat) (os : List Nat) : (K14.outsOf ds un os).length <= os.length := by
  unfold K14.outsOf
  rw [List.length_reverse]
  exact zl21 _ _
section
variable {P : Program} {w : World} {K : PySem.W.Frag} {mg : Str -> Option Value} {base : Heap} {C : Addr}
theorem sc_goals_of : FnScope ["chart", "kept", "door", "way", "goal"] ["chart", "kept", "door"] (defScope sGoalsOf) := ⟨rfl, rfl, rfl, by decide +kernel, rfl, by decide +kernel, by decide +kernel⟩
theorem ok_goals_of {f : Addr} {fd : FuncData} (F : Fun K "goals_of" "goals_of" sGoalsOf f fd) (m_len : mg "len" = none) (m_list : mg "list" = none) : FnOk P w K mg base CX0 1 f fd ["chart", "kept", "door"] spGoals := by
  refine F.ok sc_goals_of (fun vs H Q E h => ?_) (fun cdv A outer s H vs Q E hr h => ?_)
  · obtain ⟨pc, pk, kv, ks, c, k, d, rfl, _⟩ := h
    rfl
  obtain ⟨pc, pk, kv, ks, c, k, d, rfl, ⟨pb, t, pd, x4, bv, dv, h1, h2, h3, h4, h5, h6, h7⟩, hd, hpk, hks, hgl, hl, q⟩ := h
  refine ⟨_, (zE (zK (i := 3) sc_goals_of.nd rfl (Or.inl rfl) (yB zH (yB zH (yB zH (pv 0) zB (fun _ _ => rfl)) (pv 2) (fun _ _ => rfl)) zB (fun _ _ => rfl)))
   (zE (zK (i := 4) sc_goals_of.nd rfl (Or.inl rfl) (yB zH (yB zH (yB zH (pv 0) zB (fun _ _ => rfl)) (pv 2) (fun _ _ => rfl)) zB (fun _ _ => rfl)))
   (zE (yD (zL yG (pv 3) zP (zR _))
   (zG (zO (yK zD)))
   zT)
   (zE (yD (PW.pt (pw_and (zL yG (pv 3) zP (zR _)) (yP (zL op_gt (zS zN rfl m_len PySem.boot_len (zA (yB zH (pv 1) (pv 4) (fun _ _ => rfl)) zD)) zB (zR _)))))
   (zG (zO (yA call_list_of rfl m_list PyProof.Rows.boot_list (zA (yB zH (pv 1) (pv 4) (fun _ _ => rfl)) zD))))
   zT)
   (zG (zO (yK (zA (pv 4) zD)))))))), ?_⟩
  obtain ⟨v, hv, a, gv, dvr, rfl, g1, g2, g3⟩ := h7.get hd
  have hat := yQ hv
  refine ⟨_, rfl, pc, _, _, _, rfl, rfl, SqT.of h1, rfl, _, rfl, pd, _, _, _, rfl, rfl, SqT.of h6, hat, a, _, _, _, rfl, rfl, SqT.of g1, rfl, ?_⟩
  refine ⟨_, rfl, pc, _, _, _, rfl, rfl, SqT.of h1, rfl, _, rfl, pd, _, _, _, rfl, rfl, SqT.of h6, hat, a, _, _, _, rfl, rfl, SqT.of g1, rfl, ?_⟩
  clear g1 hd
  obtain ⟨rm, ev, gg, dd, wy⟩ := d
  cases wy with
  | stay => exact ⟨_, rfl, rfl, _, rfl, ifT (by show decide (V.str ("stay" : Str) = V.str "stay") = true; decide +kernel) ⟨Nat.zero_le _, fun p hp => q p _ (zF hp _) hp zC⟩⟩
  | to g =>
    refine ⟨_, rfl, rfl, _, rfl, ifF (by show decide (V.str ("to" : Str) = V.str "stay") = false; decide +kernel) ?_⟩
    refine ⟨_, rfl, rfl, _, rfl, ifF (by show decide (V.str ("to" : Str) = V.str "back") = false; decide +kernel) ?_⟩
    exact ifF rfl ⟨_, rfl, zI (by show 1 <= 1000; decide), fun p hp => q p _ (zF hp _) hp zC⟩
  | back g =>
    have hg : g < ks.length := hgl
    obtain ⟨v2, hv2, ak, rfl, hak⟩ := hks.get (zl1 hg)
    have hatk := yQ hv2
    have eg : ks.getD g [] = ks[g] := by rw [zl11, zl1 hg]; rfl
    have q' : ∀ (p : Addr) (H' : Hp), Same H H' -> H p = none -> H' p = some (.lst (natsV (if ks[g] = [] then [g] else ks[g]))) -> Q (.ref p) H' := fun p H' s1 hp h => q p H' s1 hp (by
      show H' p = some (.lst (natsV (if ks.getD g [] = [] then [g] else ks.getD g [])))
      rw [eg]
      exact h)
    refine ⟨_, rfl, rfl, _, rfl, ifF (by show decide (V.str ("back" : Str) = V.str "stay") = false; decide +kernel) ?_⟩
    refine ⟨_, rfl, rfl, _, rfl, ifT (by show decide (V.str ("back" : Str) = V.str "back") = true; decide +kernel) ?_⟩
    refine ⟨_, rfl, _, rfl, pk, kv, _, _, rfl, rfl, SqT.of hpk, hatk, ak, _, rfl, .inr (SqT.of hak), _, _, rfl, rfl, _, rfl, itB (fun z => ?_) (fun z => ?_)⟩
    · have z' : (0 : Int) < ((natsV ks[g]).length : Int) := of_decide_eq_true z
      rw [zU] at z'
      have hne : ks[g] ≠ [] := fun e => by
        rw [e] at z'
        exact absurd z' (by decide)
      rw [if_neg hne] at q'
      exact ⟨_, rfl, _, rfl, pk, kv, _, _, rfl, rfl, SqT.of hpk, hatk, ak, _, rfl, .inr (SqT.of hak), fun p hp => q' p _ (zF hp _) hp zC⟩
    · have z' : ¬ (0 : Int) < ((natsV ks[g]).length : Int) := of_decide_eq_false z
      rw [zU] at z'
      have he : ks[g] = [] := List.length_eq_zero_iff.mp (by omega)
      rw [if_pos he] at q'
      exact ⟨_, rfl, zI (by show 1 <= 1000; decide), fun p hp => q' p _ (zF hp _) hp zC⟩
abbrev passSc : Scope := ⟨.function, [("chart", .local), ("stand", .local), ("door", .local), ("letters", .local), ("rooms", .local), ("parts", .local), ("opening", .local), ("kept", .local), ("left", .cell), ("entered", .local), ("hall", .local), ("through", .local), ("steps", .local), ("told", .local), ("staying", .local), ("hall_over", .globalImplicit), ("goings_out", .globalImplicit), ("keeping", .globalImplicit), ("goings_in", .globalImplicit), ("goals_of", .globalImplicit), ("steps_out", .globalImplicit), ("steps_in", .globalImplicit), ("stepped", .globalImplicit), ("sizes_of", .globalImplicit), ("tuple", .globalImplicit), ("sorted", .globalImplicit)], false, false, (defScope s_passed).more⟩
theorem passSc_eq : defScope s_passed = passSc := by rfl
theorem sc_passed : FnScope ["chart", "stand", "door", "letters", "rooms", "parts", "opening", "kept", "left", "entered", "hall", "through", "steps", "told", "staying"] ["chart", "stand", "door", "letters"] passSc := ⟨rfl, rfl, rfl, by decide +kernel, rfl, by decide +kernel, by decide +kernel⟩
theorem ok_passed {n : Nat} {f g1 g2 g3 g4 g5 g6 g7 g8 g9 : Addr} {fd d1 d2 d3 d4 d5 d6 d7 d8 d9 : FuncData} (F : Fun K "passed" "passed" s_passed f fd)
    (G_hall_over : FnOk P w K mg base CX0 n g1 d1 ["rooms", "one", "other"] K09.spHall) (b_hall_over : Binds K d1 ["rooms", "one", "other"] []) (k_hall_over : KI K g1) (m_hall_over : mg "hall_over" = some (.ref g1))
    (G_goings_out : FnOk P w K mg base CX0 n g2 d2 ["rooms", "under", "opening"] K14.spOut) (b_goings_out : Binds K d2 ["rooms", "under", "opening"] []) (k_goings_out : KI K g2) (m_goings_out : mg "goings_out" = some (.ref g2))
    (G_keeping : FnOk P w K mg base CX0 n g3 d3 ["rooms", "opening", "left", "kept"] spKeeping) (b_keeping : Binds K d3 ["rooms", "opening", "left", "kept"] []) (k_keeping : KI K g3) (m_keeping : mg "keeping" = some (.ref g3))
    (G_goings_in : FnOk P w K mg base CX0 n g4 d4 ["rooms", "under", "goals"] spIn) (b_goings_in : Binds K d4 ["rooms", "under", "goals"] []) (k_goings_in : KI K g4) (m_goings_in : mg "goings_in" = some (.ref g4))
    (G_goals_of : FnOk P w K mg base CX0 n g5 d5 ["chart", "kept", "door"] spGoals) (b_goals_of : Binds K d5 ["chart", "kept", "door"] []) (k_goals_of : KI K g5) (m_goals_of : mg "goals_of" = some (.ref g5))
    (G_steps_out : FnOk P w K mg base CX0 n g6 d6 ["rooms", "left"] (spStepsIn En.out false)) (b_steps_out : Binds K d6 ["rooms", "left"] []) (k_steps_out : KI K g6) (m_steps_out : mg "steps_out" = some (.ref g6))
    (G_steps_in : FnOk P w K mg base CX0 n g7 d7 ["rooms", "entered"] (spStepsIn En.inn true)) (b_steps_in : Binds K d7 ["rooms", "entered"] []) (k_steps_in : KI K g7) (m_steps_in : mg "steps_in" = some (.ref g7))
    (G_stepped : FnOk P w K mg base CX0 n g8 d8 ["steps", "boxes", "sizes", "letters"] (spStepped C)) (b_stepped : Binds K d8 ["steps", "boxes", "sizes", "letters"] []) (k_stepped : KI K g8) (m_stepped : mg "stepped" = some (.ref g8))
    (G_sizes_of : FnOk P w K mg base CX0 n g9 d9 ["chart"] spSizes) (b_sizes_of : Binds K d9 ["chart"] []) (k_sizes_of : KI K g9) (m_sizes_of : mg "sizes_of" = some (.ref g9))
    (m_tuple : mg "tuple" = none) (m_sorted : mg "sorted" = none) : FnOk P w K mg base CX0 (n + 1) f fd ["chart", "stand", "door", "letters"] (spPassed C) := by
  refine okS passSc passSc_eq F sc_passed (fun vs H Q E h => ?_) (fun cdv A outer s H vs Q E hr h => ?_)
  · obtain ⟨pc, ps, p, c, k, ik, s, fp, d, rfl, _⟩ := h
    rfl
  obtain ⟨pc, ps, p, c, k, ik, st, fp, d, rfl, rfl, hC, ok, hS, so, hd, mp, hL, q⟩ := h
  refine ⟨_, (zE (zK (i := 4) sc_passed.nd rfl (Or.inl rfl) (yB zH (pv 0) zB (fun _ _ => rfl)))
   (zE (zK (i := 5) sc_passed.nd rfl (Or.inl rfl) (yB zH (yB zH (pv 0) zB (fun _ _ => rfl)) (pv 2) (fun _ _ => rfl)))
   (zE (zK (i := 6) sc_passed.nd rfl (Or.inl rfl) (yB zH (pv 1) zB (fun _ _ => rfl)))
   (zE (zK (i := 7) sc_passed.nd rfl (Or.inl rfl) (yB zH (pv 1) zB (fun _ _ => rfl)))
   (zE (zK (i := 8) sc_passed.nd rfl (Or.inr rfl) (yK zD))
   (zE (zK (i := 9) sc_passed.nd rfl (Or.inl rfl) (yK zD))
   (zZ (yD (zL op_ne (yB zH (pv 5) zB (fun _ _ => rfl)) zP (zR _))
   (zE (zK (i := 10) sc_passed.nd rfl (Or.inl rfl) (zJ G_hall_over hr rfl m_hall_over k_hall_over b_hall_over .nil yE (zA (pv 4) (zA (yB zH (pv 5) zB (fun _ _ => rfl)) (zA (yB zH (pv 5) zB (fun _ _ => rfl)) zD)))))
   (zE (zK (i := 8) sc_passed.nd rfl (Or.inr rfl) (zJ G_goings_out hr rfl m_goings_out k_goings_out b_goings_out .nil yE (zA (pv 4) (zA (pv 10) (zA (pv 6) zD)))))
   (zE (zK (i := 7) sc_passed.nd rfl (Or.inl rfl) (zJ G_keeping hr rfl m_keeping k_keeping b_keeping .nil yE (zA (pv 4) (zA (pv 6) (zA (pv 8) (zA (pv 7) zD))))))
   (zG (zK (i := 9) sc_passed.nd rfl (Or.inl rfl) (zJ G_goings_in hr rfl m_goings_in k_goings_in b_goings_in .nil yE (zA (pv 4) (zA (pv 10) (zA (zJ G_goals_of hr rfl m_goals_of k_goals_of b_goals_of .nil yE (zA (pv 0) (zA (pv 7) (zA (pv 2) zD)))) zD)))))))))
   zT)
   (zE (zK (i := 11) sc_passed.nd rfl (Or.inl rfl) (yK (zA (zW (zA (zW (zA zP (zA (pv 2) zD))) (zA (yB zH (pv 5) zB (fun _ _ => rfl)) zD))) zD)))
   (zE (zK (i := 12) sc_passed.nd rfl (Or.inl rfl) (yC op_cat (yC op_cat (yC op_cat (yK (zA (zW (zA (zW (zA zP (zA (pv 2) zD))) (zA (zW zD) zD))) zD)) (zJ G_steps_out hr rfl m_steps_out k_steps_out b_steps_out .nil yE (zA (pv 4) (zA (pv 8) zD)))) (pv 11)) (zJ G_steps_in hr rfl m_steps_in k_steps_in b_steps_in .nil yE (zA (pv 4) (zA (pv 9) zD)))))
   (zE (zK (i := 13) sc_passed.nd rfl (Or.inl rfl) (zJ G_stepped hr rfl m_stepped k_stepped b_stepped .nil yE (zA (pv 12) (zA (yB zH (pv 1) zB (fun _ _ => rfl)) (zA (zJ G_sizes_of hr rfl m_sizes_of k_sizes_of b_sizes_of .nil yE (zA (pv 0) zD)) (zA (pv 3) zD))))))
   (zE (ps_setC (i := 14) (caps := [(8, "left")]) rfl sc_passed.nd rfl (Or.inl rfl) (show CompSc passSc ["chart", "stand", "door", "letters", "rooms", "parts", "opening", "kept", "left", "entered", "hall", "through", "steps", "told", "staying"] _ _ _ from ⟨rfl, rfl, by decide +kernel, by decide +kernel, by decide +kernel, by decide +kernel, by decide +kernel⟩) (pi_tup (pv 6)) (fun _ _ _ _ _ _ => pifs_one (zL (r := rIn K true) op_notIn_seq (pv 0) (pv 1) rfl)) (fun _ _ _ _ _ _ => (pv 0)))
   (zG (zO (zW (zA (zW (zA (yA zX rfl m_tuple PyProof.Rows.boot_tuple (zA (zS call_sorted rfl m_sorted PyProof.Rows.boot_sorted (zA (yC op_cat (pv 14) (pv 9)) zD)) zD)) (zA (yB zH (pv 13) zB (fun _ _ => rfl)) (zA (pv 7) zD)))) (zA (yB zH (pv 13) zB (fun _ _ => rfl)) zD)))))))))))))))), ?_⟩
  obtain ⟨pb, t, pd, x4, bv, dv, h1, h2, h3, h4, h5, h6, h7⟩ := id hC
  obtain ⟨po, pbx, pk, kv, e1, e2, e3, e4, e5⟩ := id hS
  obtain ⟨v, hv, a, gv, dvr, rfl, y1, y2, y3⟩ := h7.get hd
  have hat := yQ hv
  have od := ok.door d (List.mem_of_getElem? hd)
  refine ⟨_, rfl, pc, _, _, _, rfl, rfl, SqT.of h1, rfl, ?_⟩
  refine ⟨_, rfl, pc, _, _, _, rfl, rfl, SqT.of h1, rfl, _, rfl, pd, _, _, _, rfl, rfl, SqT.of h6, hat, ?_⟩
  refine ⟨_, rfl, ps, _, _, _, rfl, rfl, SqT.of e1, rfl, ?_⟩
  refine ⟨_, rfl, ps, _, _, _, rfl, rfl, SqT.of e1, rfl, ?_⟩
  refine ⟨Nat.zero_le _, fun pl0 hpl0 => ⟨Nat.zero_le _, fun pe0 hpe0 => ?_⟩⟩
  have u1 := (zF hpl0 (.lst [])).trans (zF hpe0 (.lst []))
  have hl0 : (upd (upd H pl0 (.lst [])) pe0 (.lst [])) pl0 = some (.lst (natsV [])) := zF hpe0 _ _ _ zC
  have he0 : (upd (upd H pl0 (.lst [])) pe0 (.lst [])) pe0 = some (.lst (natsV [])) := zC
  generalize upd (upd H pl0 (.lst [])) pe0 (.lst []) = H1 at u1 hl0 he0 ⊢
  refine ⟨fun σ' H' => ∃ (pk' pf pe : Addr) (kv' : List V) (ms : List Nat) (o10 : Option V), H pf = none /\ H pe = none /\ Same H H' /\ H' pf = some (.lst (natsV (leftOf c d st.os))) /\ H' pe = some (.lst (natsV ms)) /\ InsR c d (ksOf c d st.os st.ks) ms /\ H' pk' = some (.tup kv') /\ RowsIn H' kv' (ksOf c d st.os st.ks) /\ σ' = [some (.ref pc), some (.ref ps), some (.int (k : Int)), some (.ref p), some (.ref t), some (.ref a), some (.ref po), some (.ref pk'), some (.ref pf), some (.ref pe), o10, none, none, none, none], ?_, ?_⟩
  · refine ⟨_, rfl, a, _, _, _, rfl, rfl, SqT.of (u1 _ _ y1), rfl, rfl, _, rfl, itB (fun cw => ?_) (fun cw => ?_)⟩
    rotate_left
    · have hs : isStay d.way = true := by
        cases hw : d.way with
        | stay => rfl
        | to g => rw [hw] at cw; exact absurd cw (by show ¬ (!decide (V.str ("to" : Str) = V.str "stay")) = false; decide +kernel)
        | back g => rw [hw] at cw; exact absurd cw (by show ¬ (!decide (V.str ("back" : Str) = V.str "stay")) = false; decide +kernel)
      have el : leftOf c d st.os = [] := if_pos hs
      have ek : ksOf c d st.os st.ks = st.ks := if_pos hs
      rw [el, ek]
      exact ⟨pk, pl0, pe0, kv, [], _, hpl0, (zF hpl0 _).free hpe0, u1, hl0, he0, (show InsR c d st.ks [] from (if_pos hs).mpr rfl), u1 _ _ e4, e5.mono (KeepT.of u1), rfl⟩
    have hs : isStay d.way = false := by
      cases hw : d.way with
      | stay => rw [hw] at cw; exact absurd cw (by show ¬ (!decide (V.str ("stay" : Str) = V.str "stay")) = true; decide +kernel)
      | to g => rfl
      | back g => rfl
    have hs' : ¬ isStay d.way = true := by rw [hs]; decide
    have el : leftOf c d st.os = K14.outsOf (depths c.rs) (hallOf c d) st.os := if_neg hs'
    have ek : ksOf c d st.os st.ks = keptFold c.rs st.os (leftOf c d st.os) st.ks := if_neg hs'
    have egv : d.way.gv = .int ((d.way.gl : Nat) : Int) := by
      cases hw : d.way with
      | stay => rw [hw] at hs; cases hs
      | to g => rfl
      | back g => rfl
    rw [egv] at y1
    refine ⟨_, rfl, _, rfl, a, _, _, _, rfl, rfl, SqT.of (u1 _ _ y1), rfl, _, rfl, a, _, _, _, rfl, rfl, SqT.of (u1 _ _ y1), rfl, t, c.rs, d.room, d.way.gl, rfl, h4.mono (KeepT.of u1), ok.good, ok.r40, od.1, od.2.1, fun H2 s2 => ?_⟩
    have s12 := u1.trans s2
    have hall_lt : ∀ u, hallOf c d = some u -> u < c.rs.length := fun u hu => by
      have := hall_lt hu
      have := od.1
      omega
    refine ⟨_, rfl, _, rfl, _, rfl, t, po, c.rs, hallOf c d, st.os, rfl, h4.mono (KeepT.of s12), ok.good, ok.r40, hall_lt, s12 _ _ e2, so.lt, so.o40, so.inc, fun pf H3 s3 npf hpf => ?_⟩
    rw [<- el] at hpf
    have s13 := s12.trans s3
    have llt : ∀ o ∈ leftOf c d st.os, o < c.rs.length := fun o ho => by
      rw [el] at ho
      have := List.mem_reverse.mp ho
      exact so.lt o (zl23.mp this).1
    refine ⟨_, rfl, _, rfl, _, rfl, _, rfl, t, po, pf, pk, c.rs, st.os, leftOf c d st.os, kv, st.ks, rfl, h4.mono (KeepT.of s13), ok.good, ok.r40, s13 _ _ e2, so.lt, so.o40, so.inc, hpf, llt, s13 _ _ e4, e5.mono (KeepT.of s13), so.ks, fun pk' kv' H4 s4 hpk' hkv' => ?_⟩
    have s14 := s13.trans s4
    refine ⟨_, rfl, _, rfl, _, rfl, _, rfl, _, rfl, pc, pk', kv', ksOf c d st.os st.ks, c, k, d, rfl, hC.mono (KeepT.of s14), hd, hpk', (by rw [ek]; exact hkv'), (by rw [ek, kept_len, so.ks]; exact od.2.1), mp.2.1, fun pg H5 s5 npg hpg => ?_⟩
    have s15 := s14.trans s5
    refine ⟨t, pg, c.rs, hallOf c d, goalsOf d.way (ksOf c d st.os st.ks), rfl, h4.mono (KeepT.of s15), ok.good, ok.r40, hall_lt, ⟨hpg, mp.1, mp.2.1⟩, fun pe ms H6 s6 npe hpe hms => ?_⟩
    exact ⟨pk', pf, pe, kv', ms, _, s12.free npf, s15.free npe, s15.trans s6, s6 _ _ (s5 _ _ (s4 _ _ hpf)), hpe, (if_neg hs').mpr hms, s6 _ _ (s5 _ _ hpk'), (by rw [ek]; exact hkv'.mono (KeepT.of (s5.trans s6))), rfl⟩
  rintro σ' H2 ⟨pk', pf, pe, kv', ms, o10, npf, npe, s2, h2f, h2e, hms, h2k, hkv2, rfl⟩
  obtain ⟨nd, l40, mlt⟩ := mp.2.2 ms hms
  have lm : ms.length <= 40 := by
    rw [zl2] at l40
    omega
  have ll : (leftOf c d st.os).length <= 40 := by
    unfold leftOf
    split
    · exact Nat.zero_le _
    · exact Nat.le_trans (outs_len _ _ _) so.o40
  have llt : ∀ o ∈ leftOf c d st.os, o < c.rs.length := fun o ho => by
    unfold leftOf at ho
    split at ho
    · cases ho
    have := List.mem_reverse.mp ho
    exact so.lt o (zl23.mp this).1
  -- through
  refine ⟨_, rfl, zI (by show 2 <= 1000; decide), fun p1 hp1 => ?_⟩
  have v1 := zF hp1 (.tup [V.str ("through" : Str), V.int (k : Int)])
  have i1 : upd H2 p1 (.tup [V.str ("through" : Str), V.int (k : Int)]) p1 = some (.tup (En.thr k).row) := zC
  generalize upd H2 p1 (.tup [V.str ("through" : Str), V.int (k : Int)]) = H3 at v1 i1 ⊢
  refine ⟨_, rfl, a, _, _, _, rfl, rfl, SqT.of (v1 _ _ (s2 _ _ y1)), rfl, zI (by show 2 <= 1000; decide), fun p2 hp2 => ?_⟩
  have v2 := zF hp2 (.tup [V.ref p1, dvr])
  have i2 : upd H3 p2 (.tup [V.ref p1, dvr]) p2 = some (.tup [V.ref p1, dvr]) := zC
  generalize upd H3 p2 (.tup [V.ref p1, dvr]) = H4 at v2 i2 ⊢
  refine ⟨zI (by show 1 <= 1000; decide), fun pth hpth => ?_⟩
  have v3 := zF hpth (.lst [V.ref p2])
  have i3 : upd H4 pth (.lst [V.ref p2]) pth = some (.lst [V.ref p2]) := zC
  generalize upd H4 pth (.lst [V.ref p2]) = H5 at v3 i3 ⊢
  have s5 := s2.trans (v1.trans (v2.trans v3))
  have at5 : Al (SpIn H5) [V.ref p2] [(En.thr k, d.dd)] := .cons ⟨p2, p1, dvr, rfl, v3 _ _ i2, v3 _ _ (v2 _ _ i1), y3.mono (KeepT.of s5)⟩ .nil
  -- the door's own mark
  refine ⟨_, rfl, zI (by show 2 <= 1000; decide), fun q1 hq1 => ?_⟩
  have w1 := zF hq1 (.tup [V.str ("door" : Str), V.int (k : Int)])
  have j1 : upd H5 q1 (.tup [V.str ("door" : Str), V.int (k : Int)]) q1 = some (.tup (En.door k).row) := zC
  generalize upd H5 q1 (.tup [V.str ("door" : Str), V.int (k : Int)]) = H6 at w1 j1 ⊢
  refine ⟨Nat.zero_le _, fun q2 hq2 => ?_⟩
  have w2 := zF hq2 (.tup [])
  have j2 : upd H6 q2 (.tup []) q2 = some (.tup []) := zC
  generalize upd H6 q2 (.tup []) = H7 at w2 j2 ⊢
  refine ⟨zI (by show 2 <= 1000; decide), fun q3 hq3 => ?_⟩
  have w3 := zF hq3 (.tup [V.ref q1, V.ref q2])
  have j3 : upd H7 q3 (.tup [V.ref q1, V.ref q2]) q3 = some (.tup [V.ref q1, V.ref q2]) := zC
  generalize upd H7 q3 (.tup [V.ref q1, V.ref q2]) = H8 at w3 j3 ⊢
  refine ⟨zI (by show 1 <= 1000; decide), fun q4 hq4 => ?_⟩
  have w4 := zF hq4 (.lst [V.ref q3])
  have j4 : upd H8 q4 (.lst [V.ref q3]) q4 = some (.lst [V.ref q3]) := zC
  generalize upd H8 q4 (.lst [V.ref q3]) = H9 at w4 j4 ⊢
  have w59 := w1.trans (w2.trans (w3.trans w4))
  have s9 := s5.trans w59
  have at9 : Al (SpIn H9) [V.ref q3] [(En.door k, ([] : List Dd))] := .cons ⟨q3, q1, V.ref q2, rfl, w4 _ _ j3, w4 _ _ (w3 _ _ (w2 _ _ j1)), q2, [], rfl, w4 _ _ (w3 _ _ j2), .nil⟩ .nil
  have f9 : Same H2 H9 := v1.trans (v2.trans (v3.trans w59))
  refine ⟨_, rfl, _, rfl, t, pf, c.rs, c.di, c.dO, leftOf c d st.os, rfl, h4.mono (KeepT.of s9), h5.mono (KeepT.of s9), f9 _ _ h2f, llt, by omega, fun pso svo H10 s10 npso hpso hAo => ?_⟩
  have lo : svo.length = (leftOf c d st.os).length := by
    have := hAo.length
    rw [zl0] at this
    exact this
  refine ⟨q4, pso, _, _, rfl, rfl, s10 _ _ j4, hpso, (by rw [sizeLine_eq, lo]; show 1 + _ <= _; omega), fun c1 hc1 => ?_⟩
  have z1 := zF hc1 (.lst ([V.ref q3] ++ svo))
  have k1 : upd H10 c1 (.lst ([V.ref q3] ++ svo)) c1 = some (.lst ([V.ref q3] ++ svo)) := zC
  generalize upd H10 c1 (.lst ([V.ref q3] ++ svo)) = H11 at z1 k1 ⊢
  have f11 : Same H5 H11 := w59.trans (s10.trans z1)
  refine ⟨_, rfl, c1, pth, _, _, rfl, rfl, k1, f11 _ _ i3, (by rw [sizeLine_eq, zl2, lo]; show 1 + _ + 1 <= _; omega), fun c2 hc2 => ?_⟩
  have z2 := zF hc2 (.lst ([V.ref q3] ++ svo ++ [V.ref p2]))
  have k2 : upd H11 c2 (.lst ([V.ref q3] ++ svo ++ [V.ref p2])) c2 = some (.lst ([V.ref q3] ++ svo ++ [V.ref p2])) := zC
  generalize upd H11 c2 (.lst ([V.ref q3] ++ svo ++ [V.ref p2])) = H12 at z2 k2 ⊢
  have s12 := s9.trans (s10.trans (z1.trans z2))
  have f12 : Same H2 H12 := f9.trans (s10.trans (z1.trans z2))
  refine ⟨_, rfl, _, rfl, t, pe, c.rs, c.di, c.dO, ms, rfl, h4.mono (KeepT.of s12), h5.mono (KeepT.of s12), f12 _ _ h2e, mlt, by omega, fun psi svi H13 s13 npsi hpsi hAi => ?_⟩
  have li : svi.length = ms.length := by
    have := hAi.length
    rw [zl0] at this
    exact this
  refine ⟨c2, psi, _, _, rfl, rfl, s13 _ _ k2, hpsi, (by rw [sizeLine_eq, zl2, zl2, lo, li]; show 1 + _ + 1 + _ <= _; omega), fun c3 hc3 => ?_⟩
  have z3 := zF hc3 (.lst ([V.ref q3] ++ svo ++ [V.ref p2] ++ svi))
  have k3 : upd H13 c3 (.lst ([V.ref q3] ++ svo ++ [V.ref p2] ++ svi)) c3 = some (.lst ([V.ref q3] ++ svo ++ [V.ref p2] ++ svi)) := zC
  generalize upd H13 c3 (.lst ([V.ref q3] ++ svo ++ [V.ref p2] ++ svi)) = H14 at z3 k3 ⊢
  have s14 := s12.trans (s13.trans z3)
  have f14 : Same H2 H14 := f12.trans (s13.trans z3)
  have allS : Al (SpIn H14) ([V.ref q3] ++ svo ++ [V.ref p2] ++ svi) (stepsOf c k d st.os ms) := by
    have a1 : Al (SpIn H14) [V.ref q3] [(En.door k, ([] : List Dd))] := at9.mono fun _ _ z => z.mono (KeepT.of (s10.trans (z1.trans (z2.trans (s13.trans z3)))))
    have a2 : Al (SpIn H14) svo ((leftOf c d st.os).map fun r => (En.out r, c.dO r)) := hAo.mono fun _ _ z => z.mono (KeepT.of (z1.trans (z2.trans (s13.trans z3))))
    have a3 : Al (SpIn H14) [V.ref p2] [(En.thr k, d.dd)] := at5.mono fun _ _ z => z.mono (KeepT.of (f11.trans (z2.trans (s13.trans z3))))
    have a4 : Al (SpIn H14) svi (ms.map fun r => (En.inn r, c.di r)) := hAi.mono fun _ _ z => z.mono (KeepT.of z3)
    exact Al.app (Al.app (Al.app a1 a2) a3) a4
  refine ⟨_, rfl, _, rfl, ps, _, _, _, rfl, rfl, SqT.of (s14 _ _ e1), rfl, _, rfl, pc, pb, _, _, _, _, _, _, bv, c.sz, rfl, s14 _ _ h1, s14 _ _ h2, h3.mono (fun _ _ z => z.mono (KeepT.of s14)), (by have := ok.b6; omega), fun tz H15 s15 htz => ?_⟩
  have s015 := s14.trans s15
  have hL15 := LL.same hL s015
  have nc3 : c3 ∉ fp := fun z => by
    have e0 := (s12.trans s13).free hc3
    exact LL.new hL e0 z
  have lens : (stepsOf c k d st.os ms).length <= 110 := by
    unfold stepsOf
    rw [zl2, zl2, zl2, zl0, zl0]
    show 1 + _ + 1 + _ <= 110
    omega
  have oks : ∀ s ∈ stepsOf c k d st.os ms, (∀ d ∈ s.2, d.ok st.bx.length) /\ s.2.length <= 8 := fun s hs => by
    rw [so.bx]
    unfold stepsOf at hs
    rcases zl18.mp hs with hs | hs
    · rcases zl18.mp hs with hs | hs
      · rcases zl18.mp hs with hs | hs
        · rw [zl10.mp hs]
          exact ⟨(fun d hd => by cases hd), Nat.zero_le _⟩
        · obtain ⟨r, _, rfl⟩ := zl19.mp hs
          exact ok.outs r
      · rw [zl10.mp hs]
        exact od.2.2
    · obtain ⟨r, _, rfl⟩ := zl19.mp hs
      exact ok.ins r
  refine ⟨_, rfl, c3, pbx, tz, p, _, _, st.bx, c.sz, st.l, fp, c.lb, rfl, s15 _ _ k3, nc3, allS.mono (fun _ _ z => z.mono (KeepT.of s15)), s015 _ _ e3, htz, hL15, oks, lens, so.bx, (by rw [so.bx]; exact ok.b6), ok.pos, so.l, ok.l12, fun tt tb' pr rv fp' H16 hL16 st16 htt htb hpr npr nprf hes => ?_⟩
  have k16 : KeepT H15 H16 := Stp.keep st16 hL15
  have stA : Stp H H16 fp fp' := Stp.trans (Stp.same fp s015) st16
  have kA : KeepT H H16 := Stp.keep stA hL
  have pf16 : H16 pf = some (.lst (natsV (leftOf c d st.os))) := st16.rest _ _ (s15 _ _ (f14 _ _ h2f)) (LL.new hL npf)
  have pe16 : H16 pe = some (.lst (natsV ms)) := st16.rest _ _ (s15 _ _ (f14 _ _ h2e)) (LL.new hL npe)
  have pk16 : H16 pk' = some (.tup kv') := k16 _ _ (s15 _ _ (f14 _ _ h2k))
  have kv16 := hkv2.mono (KeepT.trans (KeepT.of (f14.trans s15)) k16)
  refine ⟨_, rfl, po, rfl, ⟨_, SqT.of (kA _ _ e2)⟩, ?_⟩
  refine comp_tup (K := K) (a := po) (xs := natsV st.os) (fun i acc H' => H' = H16 /\ acc = natsV ((st.os.take i).filter fun o => !inV (.int (o : Int)) (natsV (leftOf c d st.os)))) ⟨rfl, rfl⟩ (fun i acc H' z => by rw [z.1]; exact SqT.of (kA _ _ e2)) ?_ ?_
  · rintro i x acc H' hx ⟨rfl, rfl⟩
    obtain ⟨hi, rfl⟩ := yR hx
    have hk := zl1 hi
    generalize st.os[i] = o at hk
    refine ⟨_, rfl, _, rfl, pf, _, rfl, .inl (SqL.of pf16), rfl, nats_flat _, _, rfl, itB (fun z => ?_) (fun z => ?_)⟩
    · refine ⟨_, rfl, ?_, rfl, ?_⟩
      · rw [zU, sizeLine_eq]
        have := zl21 (fun o : Nat => !inV (.int (o : Int)) (natsV (leftOf c d st.os))) (st.os.take i)
        rw [zl13] at this
        have := so.o40
        omega
      · have z2 : (!inV (.int (o : Int)) (natsV (leftOf c d st.os))) = true := z
        rw [filter_succ hk, if_pos z2]
        unfold natsV
        rw [zl8]
        rfl
    · refine ⟨rfl, ?_⟩
      have z2 : (!inV (.int (o : Int)) (natsV (leftOf c d st.os))) = false := z
      have z' : ¬ (!inV (.int (o : Int)) (natsV (leftOf c d st.os))) = true := fun y => by
        rw [z2] at y
        cases y
      rw [filter_succ hk, if_neg z', zl17]
  rintro acc H17 ⟨rfl, eacc⟩ pst hpst
  have ea : (st.os.take (natsV st.os).length).filter (fun o : Nat => !inV (.int (o : Int)) (natsV (leftOf c d st.os))) = stayOf c d st.os := by
    rw [zU, zl9 (zl3 _)]
    rfl
  rw [ea] at eacc
  subst eacc
  have u17 := zF hpst (.lst (natsV (stayOf c d st.os)))
  have h17 : upd H17 pst (.lst (natsV (stayOf c d st.os))) pst = some (.lst (natsV (stayOf c d st.os))) := zC
  generalize upd H17 pst (.lst (natsV (stayOf c d st.os))) = H18 at u17 h17 ⊢
  rw [zl2] at l40
  refine ⟨_, rfl, _, rfl, pst, pe, _, _, rfl, rfl, h17, u17 _ _ pe16, (by rw [zU, zU, sizeLine_eq]; omega), fun pcat hpcat => ?_⟩
  have u18 := zF hpcat (.lst (natsV (stayOf c d st.os) ++ natsV ms))
  have h18 : upd H18 pcat (.lst (natsV (stayOf c d st.os) ++ natsV ms)) pcat = some (.lst ((stayOf c d st.os ++ ms).map fun j : Nat => V.int (j : Int))) := by
    rw [zC]
    unfold natsV
    rw [zl8]
  generalize upd H18 pcat (.lst (natsV (stayOf c d st.os) ++ natsV ms)) = H19 at u18 h18 ⊢
  refine ⟨pcat, (stayOf c d st.os ++ ms).map fun j : Nat => (j : Int), rfl, .inl (SqL.of (by rw [h18, nats_ints])), (by rw [zl0, zl2]; omega), fun psr rs' hpsr perm srt => ?_⟩
  obtain ⟨os', rfl, rise, hpm⟩ := sorted_rise perm srt nd
  have u19 := zF hpsr (.lst ((os'.map fun j : Nat => (j : Int)).map V.int))
  have h19 : upd H19 psr (.lst ((os'.map fun j : Nat => (j : Int)).map V.int)) psr = some (.lst ((os'.map fun j : Nat => (j : Int)).map V.int)) := zC
  generalize upd H19 psr (.lst ((os'.map fun j : Nat => (j : Int)).map V.int)) = H20 at u19 h19 ⊢
  refine ⟨psr, _, rfl, .inl ⟨SqL.of h19, fun pto hpto => ?_⟩⟩
  have u20 := zF hpto (.tup ((os'.map fun j : Nat => (j : Int)).map V.int))
  have h20 : upd H20 pto (.tup ((os'.map fun j : Nat => (j : Int)).map V.int)) pto = some (.tup (natsV os')) := by
    rw [zC, <- nats_ints]
    rfl
  generalize upd H20 pto (.tup ((os'.map fun j : Nat => (j : Int)).map V.int)) = H21 at u20 h20 ⊢
  have r21 : Same H17 H21 := u17.trans (u18.trans (u19.trans u20))
  refine ⟨_, rfl, tt, _, _, _, rfl, rfl, SqT.of (r21 _ _ htt), rfl, _, rfl, zI (by show 3 <= 1000; decide), fun pss hpss => ?_⟩
  have u21 := zF hpss (.tup [V.ref pto, V.ref tb', V.ref pk'])
  have h21 : upd H21 pss (.tup [V.ref pto, V.ref tb', V.ref pk']) pss = some (.tup [V.ref pto, V.ref tb', V.ref pk']) := zC
  generalize upd H21 pss (.tup [V.ref pto, V.ref tb', V.ref pk']) = H22 at u21 h21 ⊢
  have r22 := r21.trans u21
  refine ⟨_, rfl, tt, _, _, _, rfl, rfl, SqT.of (r22 _ _ htt), rfl, zI (by show 2 <= 1000; decide), fun pot hpot => ?_⟩
  have u22 := zF hpot (.tup [V.ref pss, V.ref pr])
  have r23 := r22.trans u22
  have ksl : (ksOf c d st.os st.ks).length = c.rs.length := by
    unfold ksOf
    split
    · exact so.ks
    · rw [kept_len]
      exact so.ks
  have les := ssRun_es (sz := c.sz) (m := c.lb) (bx := st.bx) (l := st.l) fun y hy => (oks y hy).2
  have ko := hpm.length_eq
  rw [zl2] at ko
  refine q pot pss pr rv ⟨os', (ssRun c.sz c.lb (stepsOf c k d st.os ms) st.bx st.l).1, ksOf c d st.os st.ks, (ssRun c.sz c.lb (stepsOf c k d st.os ms) st.bx st.l).2.1⟩ (ssRun c.sz c.lb (stepsOf c k d st.os ms) st.bx st.l).2.2 fp' _ ⟨d, ms, hd, hms, hpm, rise, rfl, rfl⟩ (LL.same hL16 r23) (Stp.trans stA (Stp.same fp' r23)) zC
    ⟨pto, tb', pk', kv', u22 _ _ h21, (u21.trans u22) _ _ h20, r23 _ _ htb, r23 _ _ pk16, kv16.mono (KeepT.of r23)⟩ ⟨rise, fun o ho => ?_, by show os'.length <= 40; omega, by show (ssRun _ _ _ _ _).1.length = _; rw [ssRun_bx]; exact so.bx, ksl, ssRun_l so.l⟩ (r23 _ _ hpr) (s015.free npr) nprf (hes.mono fun _ _ z => z.mono (KeepT.of r23)) (by omega)
  rcases zl18.mp (hpm.mem_iff.mp ho) with z | z
  · exact so.lt o (zl23.mp z).1
  · exact mlt o z
end
end Ru
namespace Ru
open PySem L2 Mix Gds Rms Lts Dds Prg
open Ans (Al)
structure Jw (c : ChD) (os : List Nat) (ks : List (List Nat)) : Prop where
  inc : os.Pairwise (· < ·)
  lt : ∀ o ∈ os, o < c.rs.length
  len : ks.length = c.rs.length
  row : ∀ r ∈ ks, (∀ g ∈ r, g < c.rs.length) /\ r.length <= 40
theorem keptV_sub {rs : List Rm} {os : List Nat} {r g : Nat} (h : g ∈ keptV rs os r) : g ∈ os := by
  unfold keptV insideOf at h
  split at h
  · exact (zl23.mp (List.mem_of_mem_take h)).1
  · exact (zl23.mp (zl23.mp h).1).1
theorem keptV_len (rs : List Rm) (os : List Nat) (r : Nat) : (keptV rs os r).length <= os.length := by
  unfold keptV insideOf
  have := zl21 (fun o => Tr.liesIn (depths rs) o r) os
  split
  · rw [zl13]
    omega
  · exact Nat.le_trans (zl21 _ _) this
theorem kept_row {rs : List Rm} {os : List Nat} : ∀ (ls : List Nat) (ks : List (List Nat)) (r : List Nat), r ∈ keptFold rs os ls ks -> r ∈ ks ∨ ∃ x, r = keptV rs os x
  | [], ks, r, h => .inl h
  | x :: ls, ks, r, h => by
    have h : r ∈ keptFold rs os ls (if keepsAt rs x = ("" : Str) then ks else ks.set x (keptV rs os x)) := h
    rcases kept_row ls _ r h with h | h
    · split at h
      · exact .inl h
      · rcases List.mem_or_eq_of_mem_set h with h | h
        · exact .inl h
        · exact .inr ⟨x, h⟩
    · exact .inr h
section
variable {c : ChD} {os : List Nat} {ks : List (List Nat)}
theorem Jw.os40 (j : Jw c os ks) (ok : ChOk c) : os.length <= 40 := Nat.le_trans (Tr.nodup_lt _ _ (Tr.nodup_rise j.inc) j.lt) ok.r40
theorem Jw.kept (j : Jw c os ks) (ok : ChOk c) (d : Dx) : (ksOf c d os ks).length = c.rs.length /\ ∀ r ∈ ksOf c d os ks, (∀ g ∈ r, g < c.rs.length) /\ r.length <= 40 := by
  unfold ksOf
  split
  · exact ⟨j.len, j.row⟩
  · refine ⟨by rw [kept_len]; exact j.len, fun r hr => ?_⟩
    rcases kept_row _ _ r hr with h | ⟨x, rfl⟩
    · exact j.row r h
    · exact ⟨fun g hg => j.lt g (keptV_sub hg), Nat.le_trans (keptV_len _ _ _) (j.os40 ok)⟩
theorem goals_ok {n : Nat} (w : Wy) (ks : List (List Nat)) (hw : w.gl < n) (hk : ∀ r ∈ ks, (∀ g ∈ r, g < n) /\ r.length <= 40) : (∀ g ∈ goalsOf w ks, g < n) /\ (goalsOf w ks).length <= 100 := by
  cases w with
  | to g => exact ⟨fun x hx => by rw [zl10.mp hx]; exact hw, by show 1 <= 100; decide⟩
  | stay => exact ⟨(fun x hx => by cases hx), by show 0 <= 100; decide⟩
  | back g =>
    show (∀ x ∈ (if ks.getD g [] = [] then [g] else ks.getD g []), x < n) /\ (if ks.getD g [] = [] then [g] else ks.getD g []).length <= 100
    split
    · exact ⟨fun x hx => by rw [zl10.mp hx]; exact hw, by show 1 <= 100; decide⟩
    · rename_i z
      by_cases q : g < ks.length
      · have e : ks.getD g [] = ks[g] := by rw [zl11, zl1 q]; rfl
        have := hk _ (zl22 q)
        rw [e]
        exact ⟨this.1, by omega⟩
      · exact absurd (by rw [zl11, List.getElem?_eq_none (by omega)]; rfl) z
theorem stay_mem {d : Dx} {k : Nat} (h : k ∈ stayOf c d os) : k ∈ os /\ k ∉ leftOf c d os := by
  unfold stayOf at h
  obtain ⟨h1, h2⟩ := zl23.mp h
  rw [K14.in_nats] at h2
  exact ⟨h1, by simpa using h2⟩
theorem ins_apart {d : Dx} {ms : List Nat} (h : InsR c d ks ms) {k : Nat} (hk : k ∈ stayOf c d os) : k ∉ ms := by
  intro hm
  obtain ⟨h1, h2⟩ := stay_mem hk
  unfold InsR at h
  split at h
  · rw [h] at hm
    cases hm
  · rename_i z
    refine h2 ?_
    unfold leftOf
    rw [if_neg z]
    unfold K14.outsOf
    rw [List.mem_reverse, zl23]
    refine ⟨h1, ?_⟩
    have := ((h.2 k).mp hm).under
    cases hh : hallOf c d with
    | none => rfl
    | some u =>
      rw [hh] at this
      exact this
theorem ins_rise {d : Dx} {ms : List Nat} (h : InsR c d ks ms) : ms.Pairwise (· < ·) := by
  unfold InsR at h
  split at h
  · rw [h]
    exact .nil
  · exact h.1
theorem ins_lt (ok : ChOk c) {d : Dx} {ms : List Nat} (h : InsR c d ks ms) : ∀ k ∈ ms, k < c.rs.length := by
  intro k hk
  unfold InsR at h
  split at h
  · rw [h] at hk
    cases hk
  · have := ((h.2 k).mp hk).lt (by have := ok.good.pos; omega)
    rw [yV] at this
    exact this
theorem may_pass (ok : ChOk c) (j : Jw c os ks) {d : Dx} (hd : d ∈ c.ds) : MayPass c d os ks := by
    have jk := j.kept ok d
    have g := goals_ok d.way _ (ok.door d hd).2.1 jk.2
    refine ⟨g.1, g.2, fun ms hms => ?_⟩
    have ml := ins_lt ok hms
    have sl : ∀ k ∈ stayOf c d os, k < c.rs.length := fun k hk => j.lt k (stay_mem hk).1
    have nd : (stayOf c d os ++ ms).Nodup := List.nodup_append.mpr ⟨Tr.nodup_rise (j.inc.filter _), Tr.nodup_rise (ins_rise hms), fun a ha b hb e => ins_apart hms ha (by rw [e]; exact hb)⟩
    refine ⟨nd, Nat.le_trans (Tr.nodup_lt _ _ nd fun k hk => ?_) ok.r40, ml⟩
    rcases zl18.mp hk with h | h
    · exact sl k h
    · exact ml k h
end
end Ru
namespace Ans
open PySem L2 Mix Gds Rms
def spLLies : Sp := fun vs H Q _ => ∃ (t : Addr) (rs : List Rm) (a b : Int) (one other : Nat), vs = [.ref t, .int a, .int b] /\ a = (one : Int) /\ b = (other : Int) /\ Rooms H t rs /\ rs.length <= 1000 /\ one < rs.length /\ other < rs.length /\ Q (.bl (Tr.liesIn (depths rs) one other)) H
theorem lies_iff {ds : List Int} {a b : Nat} : Tr.liesIn ds a b = true ↔ b < a /\ ∀ j, b < j -> j <= a -> ds.getD b 0 < ds.getD j 0 := by
  unfold Tr.liesIn
  rw [List.contains_iff_mem]
  exact Tr.mem_ups a b
section
variable {P : Program} {w : World} {K : PySem.W.Frag} {mg : Str -> Option Value} {base : Heap}
theorem sc_law_lies : FnScope ["_law_rooms_here", "_law_one", "_law_other", "_law_k"] ["_law_rooms_here", "_law_one", "_law_other"] (defScope sLies) := ⟨rfl, rfl, rfl, by decide +kernel, rfl, by decide +kernel, by decide +kernel⟩
theorem ok_llies {f : Addr} {fd : FuncData} (F : Fun K "_law_lies" "_law_lies" sLies f fd) (m_range : mg "range" = none) : FnOk P w K mg base CX0 1 f fd ["_law_rooms_here", "_law_one", "_law_other"] spLLies := by
  refine F.ok sc_law_lies (fun vs H Q E h => ?_) (fun cdv A outer s H vs Q E hr h => ?_)
  · obtain ⟨t, rs, a, b, one, other, rfl, _⟩ := h
    rfl
  obtain ⟨t, rs, a, b, one, other, rfl, rfl, rfl, hR, h1000, h1, h2, q⟩ := h
  refine ⟨_, (zE (yD (zL op_ge (pv 2) (pv 1) (zR _))
   (zG (zO pe_bl))
   zT)
   (zZ (ps_for PassesOwn.never rfl (pi_range2 rfl m_range (zA (yC yF (pv 2) zB) (zA (yC yF (pv 1) zB) zD))) (yJ (i := 3) sc_law_lies.nd rfl (Or.inl rfl))
   (zG (yD (zL op_le (yB zH (yB zH (pv 0) (pv 3) (fun _ _ => rfl)) zB (fun _ _ => rfl)) (yB zH (yB zH (pv 0) (pv 2) (fun _ _ => rfl)) zB (fun _ _ => rfl)) (zR _))
   (zG (zO pe_bl))
   zT)))
   (zG (zO pe_bl)))), ?_⟩
  refine ⟨_, rfl, _, rfl, _, _, rfl, rfl, _, rfl, ite2 (fun c => ?_) (fun c => ?_)⟩
  · have c' := of_decide_eq_true c
    have e : Tr.liesIn (depths rs) one other = false := by
      rw [Bool.eq_false_iff]
      intro z
      have := (lies_iff.mp z).1
      omega
    rw [e] at q
    exact q
  have c' : other < one := by
    have : ¬ (other : Int) ≥ (one : Int) := fun z => c (decide_eq_true z)
    omega
  obtain ⟨vs, a, r, ht, hl, hr0, hat, ha⟩ := hR.at h2
  have ed := depths_at hr0
  refine ⟨fun σ' H' => H' = H /\ (∀ j, other < j -> j <= one -> (depths rs).getD other 0 < (depths rs).getD j 0), ?_, ?_⟩
  · refine ⟨_, rfl, _, _, rfl, rfl, _, rfl, _, _, rfl, rfl, _, _, rfl, ⟨by omega, by omega, by omega, by omega⟩, ?_⟩
    refine for_range (fun i σ' H' => H' = H /\ (∀ j, other < j -> j < other + 1 + i -> (depths rs).getD other 0 < (depths rs).getD j 0) /\ ∃ o3 : Option V, σ' = [some (.ref t), some (.int (one : Int)), some (.int (other : Int)), o3]) ⟨rfl, fun j j1 j2 => by omega, none, rfl⟩ ?_ ?_
    · rintro i σ' H' hi ⟨rfl, hin, o3, rfl⟩
      have hj : other + 1 + i < rs.length := by omega
      obtain ⟨vs2, a2, r2, ht2, hl2, hr2, hat2, ha2⟩ := hR.at hj
      rw [ht] at ht2
      cases ht2
      have ed2 := depths_at hr2
      have ej : (other : Int) + 1 + (i : Int) = ((other + 1 + i : Nat) : Int) := by omega
      refine ⟨_, rfl, _, rfl, t, vs, _, _, rfl, rfl, SqT.of ht, (by rw [ej]; exact hat2), a2, _, _, _, rfl, rfl, SqT.of ha2, rfl, _, rfl, _, rfl, t, vs, _, _, rfl, rfl, SqT.of ht, hat, a, _, _, _, rfl, rfl, SqT.of ha, rfl, _, _, rfl, rfl, _, rfl, ?_⟩
      refine ite2 (fun c => ?_) (fun c => ?_)
      · have c2 := of_decide_eq_true c
        have e : Tr.liesIn (depths rs) one other = false := by
          rw [Bool.eq_false_iff]
          intro z
          have := (lies_iff.mp z).2 (other + 1 + i) (by omega) (by omega)
          rw [ed, ed2] at this
          omega
        rw [e] at q
        exact q
      · have c2 : ¬ r2.depth <= r.depth := fun z => c (decide_eq_true z)
        refine ⟨rfl, fun j j1 j2 => ?_, _, rfl⟩
        by_cases y : j = other + 1 + i
        · rw [y, ed2, ed]
          omega
        · exact hin j j1 (by omega)
    · rintro σ' H' ⟨rfl, hin, o3, rfl⟩
      exact ⟨rfl, fun j j1 j2 => hin j j1 (by omega)⟩
  rintro σ' H' ⟨rfl, hin⟩
  rw [lies_iff.mpr ⟨c', hin⟩] at q
  exact q
end
end Ans
namespace Tr
theorem par_lies {ds : List Int} (g : Good ds) {j k : Nat} (hj : j < ds.length) : par ds j = some k ↔ liesIn ds j k = true /\ ds.getD j 0 = ds.getD k 0 + 1 := by
  have li : liesIn ds j k = true ↔ k < j /\ ∀ i, k < i -> i <= j -> ds.getD k 0 < ds.getD i 0 := by
    unfold liesIn
    rw [List.contains_iff_mem]
    exact mem_ups j k
  rw [par_iff, li]
  constructor
  · rintro ⟨h1, h2, h3⟩
    refine ⟨⟨h1, fun i i1 i2 => ?_⟩, ?_⟩
    · by_cases z : i = j
      · rw [z]
        exact h2
      · have := h3 i i1 (by omega)
        omega
    · have n := g.next k (by omega)
      by_cases z : k + 1 = j
      · rw [z] at n
        omega
      · have := h3 (k + 1) (by omega) (by omega)
        omega
  · rintro ⟨⟨h1, h2⟩, h3⟩
    refine ⟨h1, by omega, fun i i1 i2 => ?_⟩
    have := h2 i i1 (by omega)
    omega
theorem kid_sep {ds : List Int} {p a b x : Nat} (ha : par ds a = some p) (hb : par ds b = some p) (lt : a < b) (hx : x = a ∨ liesIn ds x a = true) : x < b := by
  rcases hx with rfl | hx
  · exact lt
  · refine Classical.byContradiction fun z => ?_
    unfold liesIn at hx
    rw [List.contains_iff_mem] at hx
    obtain ⟨h1, h2⟩ := (mem_ups x a).mp hx
    obtain ⟨a1, a2, a3⟩ := par_iff.mp ha
    obtain ⟨b1, b2, b3⟩ := par_iff.mp hb
    have h := h2 b lt (by omega)
    have := b3 a a1 lt
    omega
end Tr
namespace Ru
open PySem L2 Mix Gds Rms Lts Dds Prg
open Ans (Al spLLies)
theorem comp_filt {K : PySem.W.Frag} {H : Hp} {p : Addr} {L : List Nat} (hp : H p = some (.lst (natsV L))) (hl : L.length <= 1000) (f : Nat -> Bool) {cs : St} {tc : TT} {te : TE} {Z : List V -> Hp -> Prop}
    (h1 : ∀ o ∈ L, ∀ Zb : Bool -> Hp -> Prop, Zb (f o) H -> tc (some (.int (o : Int)) :: cs) H Zb) (h2 : ∀ (o : Nat) (Zv : V -> Hp -> Prop), Zv (.int (o : Int)) H -> te (some (.int (o : Int)) :: cs) H Zv) (h3 : Z (natsV (L.filter f)) H) : tCompW (Itl K p) cs tc te H Z := by
  refine yS (K := K) (a := p) (xs := natsV L) (fun i acc H' => H' = H /\ acc = natsV ((L.take i).filter f)) ⟨rfl, rfl⟩ (fun i acc H' z => by rw [z.1]; exact SqL.of hp) ?_ ?_
  · rintro i y acc H' hy ⟨rfl, rfl⟩
    obtain ⟨hi, rfl⟩ := yR hy
    have hk := zl1 hi
    have hm := zl22 hi
    generalize L[i] = o at hk hm
    have ll : ((L.take i).filter f).length <= 1000 := by
      have := zl21 f (L.take i)
      rw [zl13] at this
      omega
    refine h1 o hm _ ?_
    cases hf : f o with
    | true =>
      refine ifT rfl (h2 o _ ⟨?_, rfl, ?_⟩)
      · rw [zU, sizeLine_eq]
        omega
      · rw [filter_succ hk, hf]
        unfold natsV
        rw [zl8]
        rfl
    | false =>
      refine ifF rfl ⟨rfl, ?_⟩
      rw [filter_succ hk, hf]
      exact (congrArg natsV (zl17 _)).symm
  · rintro acc H' ⟨rfl, rfl⟩
    rw [zU, zl9 (zl3 _)]
    exact h3
theorem comp_filtR {H : Hp} {n : Nat} (hn : n <= 1000) (f : Nat -> Bool) {cs : St} {tc : TT} {te : TE} {Z : List V -> Hp -> Prop}
    (h1 : ∀ o < n, ∀ Zb : Bool -> Hp -> Prop, Zb (f o) H -> tc (some (.int (0 + (o : Int))) :: cs) H Zb) (h2 : ∀ (o : Nat) (Zv : V -> Hp -> Prop), Zv (.int (0 + (o : Int))) H -> te (some (.int (0 + (o : Int))) :: cs) H Zv) (h3 : Z (natsV ((List.range n).filter f)) H) : tCompW (Itr 0 n) cs tc te H Z := by
  refine comp_range (fun i acc H' => H' = H /\ acc = natsV ((List.range i).filter f)) ⟨rfl, rfl⟩ ?_ ?_
  · rintro i acc H' hi ⟨rfl, rfl⟩
    have es : (List.range (i + 1)).filter f = (List.range i).filter f ++ (if f i = true then [i] else []) := by
      rw [List.range_succ, List.filter_append, List.filter_cons]
      rfl
    have ll : ((List.range i).filter f).length <= 1000 := by
      have := zl21 f (List.range i)
      rw [List.length_range] at this
      omega
    refine h1 i hi _ ?_
    cases hf : f i with
    | true =>
      refine ifT rfl (h2 i _ ⟨?_, rfl, ?_⟩)
      · rw [zU, sizeLine_eq]
        omega
      · rw [es, hf, Int.zero_add]
        unfold natsV
        rw [zl8]
        rfl
    | false =>
      refine ifF rfl ⟨rfl, ?_⟩
      rw [es, hf]
      exact (congrArg natsV (zl17 _)).symm
  · rintro acc H' ⟨rfl, rfl⟩
    exact h3
end Ru
namespace Tr
structure OpF (ds : List Int) (al : Nat -> Bool) (room : Nat) (L : List Nat) : Prop where
  rise : L.Pairwise (· < ·)
  own : room ∈ L
  ins : ∀ x ∈ L, x = room ∨ liesIn ds x room = true
  lt : ∀ x ∈ L, x < ds.length
  up : ∀ x ∈ L, x ≠ room -> ∃ p ∈ L, par ds x = some p
  all : ∀ r ∈ L, al r = true -> ∀ k ∈ kids ds r, k ∈ L
  one : ∀ r ∈ L, al r = false -> kids ds r ≠ [] -> ∃ k ∈ kids ds r, k ∈ L /\ ∀ j ∈ kids ds r, j ∈ L -> j = k
theorem lies_up {ds : List Int} {x p r : Nat} (h : par ds x = some p) (hp : p = r ∨ liesIn ds p r = true) : liesIn ds x r = true := by
  rw [liesIn_some h]
  rcases hp with rfl | hp
  · simp
  · rw [hp, Bool.or_true]
theorem below_one {ds : List Int} {p a b x : Nat} (ha : par ds a = some p) (hb : par ds b = some p) (xa : x = a ∨ liesIn ds x a = true) (xb : x = b ∨ liesIn ds x b = true) : a = b := by
  refine Classical.byContradiction fun ne => ?_
  have ge : ∀ {c y : Nat}, (y = c ∨ liesIn ds y c = true) -> c <= y := fun {c y} h => by
    rcases h with rfl | h
    · exact zl3 _
    · unfold liesIn at h
      exact Nat.le_of_lt (ups_lt (List.contains_iff_mem.mp h))
  rcases Nat.lt_or_ge a b with z | z
  · have := kid_sep ha hb z xa
    have := ge xb
    omega
  · have := kid_sep hb ha (by omega) xb
    have := ge xa
    omega
structure OpI (ds : List Int) (al : Nat -> Bool) (room : Nat) (ks : List Nat) (L : List Nat) : Prop where
  rise : L.Pairwise (· < ·)
  mem : ∀ x, x ∈ L -> x = room ∨ ∃ k ∈ ks, x = k ∨ liesIn ds x k = true
  own : room ∈ L
  lt : ∀ x ∈ L, x < ds.length
  kin : ∀ k ∈ ks, k ∈ L
  up : ∀ x ∈ L, x ≠ room -> ∃ p ∈ L, par ds x = some p
  all : ∀ r ∈ L, r ≠ room -> al r = true -> ∀ k ∈ kids ds r, k ∈ L
  one : ∀ r ∈ L, r ≠ room -> al r = false -> kids ds r ≠ [] -> ∃ k ∈ kids ds r, k ∈ L /\ ∀ j ∈ kids ds r, j ∈ L -> j = k
theorem OpI.base {ds : List Int} (al : Nat -> Bool) {room : Nat} (h : room < ds.length) : OpI ds al room [] [room] where
  rise := List.pairwise_singleton _ _
  mem := fun x hx => .inl (zl10.mp hx)
  own := zl10.mpr rfl
  lt := fun x hx => by rw [zl10.mp hx]; exact h
  kin := fun k hk => by cases hk
  up := fun x hx ne => absurd (zl10.mp hx) ne
  all := fun r hr ne => absurd (zl10.mp hr) ne
  one := fun r hr ne => absurd (zl10.mp hr) ne
theorem OpI.step {ds : List Int} {al : Nat -> Bool} {room kid : Nat} {ks L Lk : List Nat} (h : OpI ds al room ks L) (g : OpF ds al kid Lk) (pk : par ds kid = some room) (hn : ∀ k ∈ ks, k < kid /\ par ds k = some room) : OpI ds al room (ks ++ [kid]) (L ++ Lk) := by
  have rk := par_lt pk
  have gek : ∀ y ∈ Lk, kid <= y := fun y hy => by
    rcases g.ins y hy with rfl | z
    · exact zl3 _
    · unfold liesIn at z
      exact Nat.le_of_lt (ups_lt (List.contains_iff_mem.mp z))
  have ltk : ∀ x ∈ L, x < kid := fun x hx => by
    rcases h.mem x hx with rfl | ⟨k, hk, z⟩
    · exact rk
    · exact kid_sep (hn k hk).2 pk (hn k hk).1 z
  -- a kid of what is met in L stands in L or nowhere, but for the room itself; the same in Lk
  have kL : ∀ r ∈ L, r ≠ room -> ∀ j ∈ kids ds r, j ∉ Lk := fun r hr ne j hj hjk => by
    have pj := (mem_kids.mp hj).2
    rcases h.mem r hr with z | ⟨k, hk, z⟩
    · exact ne z
    · have e := below_one (hn k hk).2 pk (x := j) (.inr (lies_up pj z)) (g.ins j hjk)
      have := (hn k hk).1
      omega
  have kK : ∀ r ∈ Lk, ∀ j ∈ kids ds r, j ∉ L := fun r hr j hj hjl => by
    have pj := (mem_kids.mp hj).2
    have := gek r hr
    have := par_lt pj
    have := ltk j hjl
    omega
  refine ⟨List.pairwise_append.mpr ⟨h.rise, g.rise, fun a ha b hb => ?_⟩, fun x hx => ?_, List.mem_append_left _ h.own, fun x hx => ?_, fun k hk => ?_, fun x hx ne => ?_, fun r hr ne ha k hk => ?_, fun r hr ne ha hk => ?_⟩
  · have := ltk a ha
    have := gek b hb
    omega
  · rcases zl18.mp hx with z | z
    · rcases h.mem x z with y | ⟨k, hk, y⟩
      · exact .inl y
      · exact .inr ⟨k, List.mem_append_left _ hk, y⟩
    · exact .inr ⟨kid, List.mem_append_right _ (zl10.mpr rfl), g.ins x z⟩
  · rcases zl18.mp hx with z | z
    · exact h.lt x z
    · exact g.lt x z
  · rcases zl18.mp hk with z | z
    · exact List.mem_append_left _ (h.kin k z)
    · rw [zl10.mp z]
      exact List.mem_append_right _ g.own
  · rcases zl18.mp hx with z | z
    · obtain ⟨p, hp, e⟩ := h.up x z ne
      exact ⟨p, List.mem_append_left _ hp, e⟩
    · by_cases y : x = kid
      · rw [y]
        exact ⟨room, List.mem_append_left _ h.own, pk⟩
      · obtain ⟨p, hp, e⟩ := g.up x z y
        exact ⟨p, List.mem_append_right _ hp, e⟩
  · rcases zl18.mp hr with z | z
    · exact List.mem_append_left _ (h.all r z ne ha k hk)
    · exact List.mem_append_right _ (g.all r z ha k hk)
  · rcases zl18.mp hr with z | z
    · obtain ⟨k, k1, k2, k3⟩ := h.one r z ne ha hk
      refine ⟨k, k1, List.mem_append_left _ k2, fun j j1 j2 => ?_⟩
      rcases zl18.mp j2 with y | y
      · exact k3 j j1 y
      · exact absurd y (kL r z ne j j1)
    · obtain ⟨k, k1, k2, k3⟩ := g.one r z ha hk
      refine ⟨k, k1, List.mem_append_right _ k2, fun j j1 j2 => ?_⟩
      rcases zl18.mp j2 with y | y
      · exact absurd y (kK r z j j1)
      · exact k3 j j1 y
theorem OpI.done {ds : List Int} {al : Nat -> Bool} {room : Nat} {ks L : List Nat} (h : OpI ds al room ks L) (sub : ∀ k ∈ ks, k ∈ kids ds room) (ha : al room = true -> ks = kids ds room) (ho : al room = false -> kids ds room ≠ [] -> ∃ k, ks = [k]) : OpF ds al room L where
  rise := h.rise
  own := h.own
  ins := fun x hx => by
    rcases h.mem x hx with z | ⟨k, hk, z⟩
    · exact .inl z
    · have pk := (mem_kids.mp (sub k hk)).2
      have lk : liesIn ds k room = true := lies_up pk (.inl rfl)
      rcases z with rfl | z
      · exact .inr lk
      · right
        unfold liesIn at z lk ⊢
        rw [List.contains_iff_mem] at z lk ⊢
        rw [mem_ups] at z lk ⊢
        refine ⟨by omega, fun j j1 j2 => ?_⟩
        by_cases y : j <= k
        · exact lk.2 j j1 y
        · have a := z.2 j (by omega) j2
          have b := lk.2 k lk.1 (zl3 _)
          omega
  lt := h.lt
  up := h.up
  all := fun r hr hal k hk => by
    by_cases z : r = room
    · subst z
      rw [<- ha hal] at hk
      exact h.kin k hk
    · exact h.all r hr z hal k hk
  one := fun r hr hal hne => by
    by_cases z : r = room
    · subst z
      obtain ⟨k, hk⟩ := ho hal hne
      refine ⟨k, sub k (by rw [hk]; exact zl10.mpr rfl), h.kin k (by rw [hk]; exact zl10.mpr rfl), fun j j1 j2 => ?_⟩
      have pj := (mem_kids.mp j1).2
      have lj := par_lt pj
      rcases h.mem j j2 with y | ⟨k', hk', y⟩
      · omega
      · have e : k' = k := by
          rw [hk] at hk'
          exact zl10.mp hk'
        have pk := (mem_kids.mp (sub k' hk')).2
        rw [<- e]
        exact (below_one pk pj (x := j) y (.inl rfl)).symm
    · exact h.one r hr z hal hne
theorem OpF.full {ds : List Int} {on al : Nat -> Bool} {L : List Nat} (h : OpF ds al 0 L) (fit : ∀ k p, k < ds.length -> par ds k = some p -> (al p = true ∨ on p = true)) (hon : ∀ p, on p = true -> kids ds p ≠ []) (hx : ∀ p, on p = true -> al p = false) : FullB ds on al L := by
  refine ⟨h.rise, fun r hr => ?_, h.own⟩
  unfold want openKids
  by_cases ro : r ∈ L
  · rw [decide_eq_true ro, Bool.true_and, Bool.true_and]
    by_cases ra : al r = true
    · rw [if_pos ra, List.filter_eq_self.mpr fun k hk => decide_eq_true (h.all r ro ra k hk)]
    · have ra' : al r = false := by simpa using ra
      rw [if_neg ra]
      by_cases rn : on r = true
      · rw [if_pos rn]
        obtain ⟨k, k1, k2, k3⟩ := h.one r ro ra' (hon r rn)
        have e : (kids ds r).filter (fun j => decide (j ∈ L)) = (kids ds r).filter fun j => decide (k = j) := List.filter_congr fun j hj => by
          rw [Bool.eq_iff_iff, decide_eq_true_iff, decide_eq_true_iff]
          exact ⟨fun z => (k3 j hj z).symm, fun z => by rw [<- z]; exact k2⟩
        rw [e]
        exact filter_one _ k (kids_rise ds r) k1
      · rw [if_neg rn, List.filter_eq_nil_iff.mpr fun k hk z => ?_]
        · rfl
        · obtain ⟨k1, k2⟩ := mem_kids.mp hk
          rcases fit k r k1 k2 with y | y
          · exact ra y
          · exact rn y
  · rw [decide_eq_false ro, Bool.false_and, Bool.false_and, if_neg zl6, if_neg zl6, List.filter_eq_nil_iff.mpr fun k hk z => ?_]
    · rfl
    · have kL := of_decide_eq_true z
      obtain ⟨k1, k2⟩ := mem_kids.mp hk
      have k0 := par_lt k2
      obtain ⟨p, hp, e⟩ := h.up k kL (by omega)
      rw [k2] at e
      injection e with e
      exact ro (by rw [e]; exact hp)
end Tr
namespace Ru
open PySem L2 Mix Gds Rms Lts Dds Prg
open Ans (Al)
structure RBn (nb : Nat) (H : Hp) (rv : List V) (rs : List Rm) (dis dos : List (List Dd)) : Prop where
  inn : RmsIn H rv rs
  l1 : dis.length = rs.length
  l2 : dos.length = rs.length
  dd : RmD H rs (fun k => dis.getD k []) (fun k => dos.getD k [])
  say : ∀ k : Nat, ((∀ d ∈ dis.getD k [], d.ok nb) /\ (dis.getD k []).length <= 8) /\ (∀ d ∈ dos.getD k [], d.ok nb) /\ (dos.getD k []).length <= 8
theorem RBn.mono {nb : Nat} {H H' : Hp} {rv : List V} {rs : List Rm} {dis dos : List (List Dd)} (x : RBn nb H rv rs dis dos) (k : KeepT H H') : RBn nb H' rv rs dis dos := ⟨x.inn.mono k, x.l1, x.l2, x.dd.mono k, x.say⟩
theorem RBn.nil {nb : Nat} (H : Hp) : RBn nb H [] [] [] [] := ⟨.nil, rfl, rfl, (fun k r h => by simp at h), fun k => ⟨⟨(fun d h => by simp at h), by simp⟩, (fun d h => by simp at h), by simp⟩⟩
theorem getD_snoc {α : Type} (l : List α) (x d : α) (k : Nat) : (l ++ [x]).getD k d = if k < l.length then l.getD k d else if k = l.length then x else d := by
  rw [zl11]
  by_cases h : k < l.length
  · rw [if_pos h, List.getElem?_append_left h, zl11]
  · rw [if_neg h]
    by_cases h2 : k = l.length
    · rw [if_pos h2, h2, List.getElem?_append_right (zl3 _), Nat.sub_self]
      rfl
    · rw [if_neg h2, List.getElem?_eq_none (by rw [zl2, zl15]; omega)]
      rfl
theorem RBn.snoc {nb : Nat} {H : Hp} {rv : List V} {rs : List Rm} {dis dos : List (List Dd)} (x : RBn nb H rv rs dis dos) {v : V} {r : Rm} {di dO : List Dd} (hr : RmIn H v r) (h1 : DsIn H r.ins di) (h2 : DsIn H r.outs dO)
    (s1 : (∀ d ∈ di, d.ok nb) /\ di.length <= 8) (s2 : (∀ d ∈ dO, d.ok nb) /\ dO.length <= 8) : RBn nb H (rv ++ [v]) (rs ++ [r]) (dis ++ [di]) (dos ++ [dO]) := by
  have a1 := x.l1
  have a2 := x.l2
  refine ⟨x.inn.snoc hr, by rw [zl2, zl2, a1]; rfl, by rw [zl2, zl2, a2]; rfl, fun k q h => ?_, fun k => ?_⟩
  · show DsIn H q.ins ((dis ++ [di]).getD k []) /\ DsIn H q.outs ((dos ++ [dO]).getD k [])
    by_cases z : k < rs.length
    · rw [List.getElem?_append_left z] at h
      rw [getD_snoc, getD_snoc, if_pos (show k < dis.length by omega), if_pos (show k < dos.length by omega)]
      exact x.dd k q h
    · have hk := (zl4.mp h).1
      rw [zl2, zl15] at hk
      have z2 : k = rs.length := by omega
      subst z2
      rw [List.getElem?_append_right (zl3 _), Nat.sub_self] at h
      obtain rfl := zl7 h
      rw [getD_snoc, getD_snoc, if_neg (by omega), if_pos (by omega), if_neg (by omega), if_pos (by omega)]
      exact ⟨h1, h2⟩
  · rw [getD_snoc, getD_snoc]
    have xs := x.say k
    have no : ((∀ d ∈ ([] : List Dd), d.ok nb) /\ ([] : List Dd).length <= 8) := ⟨(fun d h => by cases h), by decide⟩
    refine ⟨?_, ?_⟩
    · split
      · exact xs.1
      · split
        · exact s1
        · exact no
    · split
      · exact xs.2
      · split
        · exact s2
        · exact no
end Ru
namespace Chr
open PySem L2 Mix Gds Rms Dds
theorem str_at {zs : List Str} {i : Int} (h0 : 0 <= i) (h1 : i < (zs.length : Int)) : ∃ z ∈ zs, atI (zs.map V.str) i = some (.str z) := by
  obtain ⟨v, hv, e⟩ := atI_some (xs := zs.map V.str) (i := i) h0 (by rw [zl0]; exact h1)
  obtain ⟨z, hz, rfl⟩ := zl19.mp hv
  exact ⟨z, hz, e⟩
def spName : Sp := fun vs H Q _ => ∃ k n : Int, vs = [.int k, .int n] /\ ∀ (z : Str) (H' : Hp), Same H H' -> Q (.str z) H'
def SizesIn (H : Hp) (ps : Addr) (sz : List Int) : Prop := H ps = some (.lst (sz.map V.int)) /\ (∀ z ∈ sz, 0 < z) /\ sz.length <= 6
theorem SizesIn.mono {H H' : Hp} {ps : Addr} {sz : List Int} (h : SizesIn H ps sz) (s : Same H H') : SizesIn H' ps sz := ⟨s _ _ h.1, h.2⟩
def spDeed : Sp := fun vs H Q _ => ∃ (n e : Int) (ps : Addr) (sz : List Int), vs = [.int n, .ref ps, .int e] /\ 0 <= n /\ n < 2147483648 /\ SizesIn H ps sz /\ ∀ (v : V) (d : Dd) (H' : Hp), Same H H' -> DdIn H' v d -> d.ok sz.length -> Q v H'
def spDeeds (K : PySem.W.Frag) : Sp := fun vs H Q _ => ∃ (a ps : Addr) (ns sz : List Int) (k salt e : Int), vs = [.ref a, .int k, .int salt, .ref ps, .int e] /\ SqL K H a (ns.map V.int) /\ ns.length <= 63 /\ (0 <= k /\ k <= 1000) /\ (0 <= salt /\ salt <= 100) /\ SizesIn H ps sz /\ ∀ (v : V) (ds : List Dd) (H' : Hp), Same H H' -> Ru.DsIn H' v ds -> (∀ d ∈ ds, d.ok sz.length) -> ds.length <= 8 -> Q v H'
def spGuard (h : Nat) : Sp := fun vs H Q _ => ∃ (n r hi : Int) (nb : Nat), vs = [.int n, .int r, .int (nb : Int), .int hi] /\ 0 < r /\ 1 <= hi /\ hi <= (h : Int) /\ ∀ (v : V) (g : Gd) (H' : Hp), Same H H' -> GdIn H' v g -> g.ok nb -> (g.ht : Int) <= hi -> Q v H'
section
variable {P : Program} {w : World} {K : PySem.W.Frag} {mg : Str -> Option Value} {base : Heap}
theorem sc_law_name : FnScope ["_law_k", "_law_number", "_law_rest", "_law_at"] ["_law_k", "_law_number"] (defScope s_L_name) := ⟨rfl, rfl, rfl, by decide +kernel, rfl, by decide +kernel, by decide +kernel⟩
theorem ok_name {f : Addr} {fd : FuncData} (F : Fun K "_law_name" "_law_name" s_L_name f fd) (m_len : mg "len" = none) : FnOk P w K mg base CX0 1 f fd ["_law_k", "_law_number"] spName := by
  refine F.ok sc_law_name (fun vs H Q E h => ?_) (fun cdv A outer s H vs Q E hr h => ?_)
  · obtain ⟨k, n, rfl, _⟩ := h
    rfl
  obtain ⟨k, n, rfl, q⟩ := h
  refine ⟨_, (zE (zK (i := 2) sc_law_name.nd rfl (Or.inl rfl) (yB yU (yK (zA zP (zA zP (zA zP (zA zP zD))))) (yC zY (pv 1) zB) (fun _ _ => rfl)))
   (zE (zK (i := 3) sc_law_name.nd rfl (Or.inl rfl) (pe_cut (yC zY (yC yL (pv 1) zB) (yC yF (zS call_len_str rfl m_len PySem.boot_len (zA (pv 2) zD)) zB))))
   (zG (zO (yC op_add_str (yC op_add_str (pe_slice sl_str (pv 2) po_none (po_some (pv 3))) (yB ix_str zP (yC zY (pv 0) zB) (fun _ _ => rfl))) (pe_slice sl_str (pv 2) (po_some (pv 3)) po_none)))))), ?_⟩
  obtain ⟨z, hz, hat⟩ := str_at (zs := [("" : Str), "hall", "quiet", "aaaaaaaaaaa"]) (i := n % 4) (by omega) (by show _ < (4 : Int); omega)
  have lz : z.length <= 11 := by
    simp only [List.mem_cons, List.not_mem_nil, or_false] at hz
    rcases hz with rfl | rfl | rfl | rfl <;> decide +kernel
  have hz' : z.length <= sizeLine := zI (by omega)
  have sl : ∀ (lo hi : Option Int), (Txt.slice z lo hi).length <= 11 := fun lo hi => Nat.le_trans (Txt.slice_le z lo hi) lz
  refine ⟨zI (by show 4 <= 1000; decide), fun p hp => ⟨_, rfl, _, _, rfl, rfl, (by show (0 : Int) < 4; decide), p, _, _, _, rfl, rfl, SqL.of zC, hat, ?_⟩⟩
  have s1 := zF hp (.lst [V.str "", V.str "hall", V.str "quiet", V.str "aaaaaaaaaaa"])
  refine ⟨fun v H' => Same H H' /\ ∃ t : Int, v = .int t, ?_, ?_⟩
  · exact ⟨_, rfl, _, _, rfl, rfl, ⟨by decide, by decide⟩, _, rfl, z, rfl, hz', _, _, rfl, rfl, _, _, rfl, rfl, (by show (0 : Int) < (z.length : Int) + 1; omega), s1, _, rfl⟩
  rintro _ H2 ⟨s2, t, rfl⟩
  obtain ⟨c1, _, h1⟩ := atI_some (xs := ("abcdefghijklmnopqrstuvwxyz" : Str).cps.toList) (i := k % 26) (by omega) (by show k % 26 < 26; omega)
  have la : ∀ x y : Str, (x ++ y).length = x.length + y.length := fun x y => by
    show (x.cps ++ y.cps).size = _
    rw [Array.size_append]
    rfl
  have lo : ∀ c : Nat, (⟨#[c]⟩ : Str).length = 1 := fun c => rfl
  have l1 := sl none (some t)
  have l2 := sl (some t) none
  exact ⟨_, rfl, _, rfl, _, rfl, z, rfl, hz', _, rfl, _, _, rfl, rfl, (by show (0 : Int) < 26; decide), _, _, c1, rfl, rfl, zI (by decide +kernel), h1, _, _, rfl, rfl, zI (by rw [lo]; omega), _, rfl, _, rfl, _, rfl, z, rfl, hz', _, _, rfl, rfl, zI (by rw [la, lo]; omega), q _ H2 s2⟩
theorem sc_law_deed : FnScope ["_law_number", "_law_sizes", "_law_events", "_law_way", "_law_rest", "_law_b"] ["_law_number", "_law_sizes", "_law_events"] (defScope s_L_deed) := ⟨rfl, rfl, rfl, by decide +kernel, rfl, by decide +kernel, by decide +kernel⟩
theorem ok_deed {f gn : Addr} {fd dn : FuncData} (F : Fun K "_law_deed" "_law_deed" s_L_deed f fd) (Gl_name : FnOk P w K mg base CX0 1 gn dn ["_law_k", "_law_number"] spName) (bl_name : Binds K dn ["_law_k", "_law_number"] []) (kl_name : KI K gn) (ml_name : mg "_law_name" = some (.ref gn))
    (m_len : mg "len" = none) : FnOk P w K mg base CX0 2 f fd ["_law_number", "_law_sizes", "_law_events"] spDeed := by
  refine F.ok sc_law_deed (fun vs H Q E h => ?_) (fun cdv A outer s H vs Q E hr h => ?_)
  · obtain ⟨n, e, ps, sz, rfl, _⟩ := h
    rfl
  obtain ⟨n, e, ps, sz, rfl, n0, n1, hsz, q⟩ := h
  refine ⟨_, (zE (zK (i := 3) sc_law_deed.nd rfl (Or.inl rfl) (yB yU (yK (zA zB (zA zB (zA zB (zA zB (zA zB zD)))))) (yC zY (pv 0) zB) (fun _ _ => rfl)))
   (zE (zK (i := 4) sc_law_deed.nd rfl (Or.inl rfl) (yC yL (pv 0) zB))
   (zE (yD (pt_cut (PW.pt (pw_and (zL yG (pv 3) zB (zR _)) (yP (zL op_gt (pv 2) zB (zR _))))))
   (zG (zO (zW (zA zP (zA (yC zY (pv 4) (pv 2)) zD)))))
   zT)
   (zE (yD (pt_cut (PW.pt (pw_and (zL yG (pv 3) zB (zR _)) (yP (zL op_gt (zS zN rfl m_len PySem.boot_len (zA (pv 1) zD)) zB (zR _))))))
   (zE (zK (i := 5) sc_law_deed.nd rfl (Or.inl rfl) (yC zY (pv 4) (zS zN rfl m_len PySem.boot_len (zA (pv 1) zD))))
   (zG (zO (zW (zA zP (zA (pv 5) (zA (yC zY (yC yL (pv 4) zB) (yB yU (pv 1) (pv 5) (fun _ _ => rfl))) zD)))))))
   zT)
   (zE (yD (pt_cut (PW.pt (pw_and (zL yG (pv 3) zB (zR _)) (pw_and (zL op_gt (zS zN rfl m_len PySem.boot_len (zA (pv 1) zD)) zB (zR _)) (yP (zL yG (yC zY (yC yL (pv 4) zB) zB) zB (zR _)))))))
   (zG (zO (zW (zA zP (zA (yC zY (pv 4) (zS zN rfl m_len PySem.boot_len (zA (pv 1) zD))) (zA (yC op_mul (yC yF (yC op_mul (pv 4) (yC op_pow zB zB)) (pv 4)) (yC op_sub zB (yC op_mul zB (yC zY (yC yL (pv 4) zB) zB)))) zD))))))
   zT)
   (zE (yD (pt_cut (PW.pt (pw_and (zL yG (pv 3) zB (zR _)) (yP (zL op_gt (zS zN rfl m_len PySem.boot_len (zA (pv 1) zD)) zB (zR _))))))
   (zG (zO (zW (zA zP (zA (yC zY (pv 4) (zS zN rfl m_len PySem.boot_len (zA (pv 1) zD))) (zA (yC op_sub (yC zY (yC yL (pv 4) zB) zB) zB) zD))))))
   zT)
   (zE (yD (zL yG (yC zY (pv 4) zB) zB (zR _))
   (zG (zO (zW (zA zP (zA zP zD)))))
   zT)
   (zG (zO (zW (zA zP (zA (zJ Gl_name hr rfl ml_name kl_name bl_name .nil yE (zA (yC zY (yC yL (pv 4) zB) zB) (zA (yC yL (pv 4) zB) zD))) zD)))))))))))), ?_⟩
  obtain ⟨v, hat⟩ := atI_int (ns := [0, 1, 1, 2, 3]) (i := n % 5) (by omega) (by show _ < (5 : Int); omega)
  have hl : (sz.map V.int).length = sz.length := zl0 _
  refine ⟨zI (by show 5 <= 1000; decide), fun p0 hp0 => ⟨_, rfl, _, _, rfl, rfl, (by show (0 : Int) < 5; decide), p0, _, _, _, rfl, rfl, SqL.of zC, hat, ?_⟩⟩
  have s1 := zF hp0 (.lst [V.int 0, V.int 1, V.int 1, V.int 2, V.int 3])
  have hz1 := hsz.mono s1
  generalize upd H p0 (.lst [V.int 0, V.int 1, V.int 1, V.int 2, V.int 3]) = H1 at s1 hz1 ⊢
  refine ⟨_, rfl, _, _, rfl, rfl, ⟨by decide, by decide⟩, ?_⟩
  have r0 : 0 <= n / 5 := by omega
  have r1 : n / 5 < 2147483648 := by omega
  refine ⟨fun c H' => H' = H1 /\ (c = true -> 0 < e), ?_, ?_⟩
  · refine ⟨_, rfl, rfl, _, rfl, ?_⟩
    refine itB (fun c => ?_) (fun c => ⟨rfl, fun z => (by cases z)⟩)
    exact ⟨_, rfl, _, _, rfl, rfl, _, rfl, rfl, fun z => of_decide_eq_true z⟩
  rintro c1 H' ⟨rfl, hc1⟩
  refine itB (fun c => ?_) (fun c => ?_)
  · have he := hc1 c
    exact ⟨_, rfl, _, rfl, _, _, rfl, rfl, (by show (0 : Int) < e; exact he), zI (by show 2 <= 1000; decide), fun p hp => q _ (.send _) _ (s1.trans (zF hp _)) (.send zC) (fun b hb => by cases hb)⟩
  refine ⟨fun c H2 => H2 = H' /\ (c = true -> 0 < sz.length), ?_, ?_⟩
  · exact ⟨_, rfl, rfl, _, rfl, itB (fun c => ⟨_, rfl, ps, _, rfl, .inl (SqL.of hz1.1), _, _, rfl, rfl, _, rfl, rfl, fun z => (by have := of_decide_eq_true z; rw [hl] at this; omega)⟩) (fun c => ⟨rfl, fun z => (by cases z)⟩)⟩
  rintro c2 H2 ⟨rfl, hc2⟩
  refine itB (fun c => ?_) (fun c => ?_)
  · have he := hc2 c
    have h0 := Int.emod_nonneg (n / 5) (show (((sz.map V.int).length : Nat) : Int) ≠ 0 by omega)
    have h1 := Int.emod_lt_of_pos (n / 5) (show (0 : Int) < (((sz.map V.int).length : Nat) : Int) by omega)
    obtain ⟨vz, hvz, hatz⟩ := atI_some (xs := sz.map V.int) (i := n / 5 % (((sz.map V.int).length : Nat) : Int)) h0 h1
    obtain ⟨z, hzm, rfl⟩ := zl19.mp hvz
    refine ⟨_, rfl, _, rfl, ps, _, rfl, .inl (SqL.of hz1.1), _, _, rfl, rfl, (by show (0 : Int) < (((sz.map V.int).length : Nat) : Int); omega), ?_⟩
    exact ⟨_, rfl, _, rfl, _, _, rfl, rfl, ⟨by decide, by decide⟩, _, rfl, _, rfl, ps, _, _, _, rfl, rfl, SqL.of hz1.1, hatz, _, _, rfl, rfl, (by show (0 : Int) < z; exact hz1.2.1 z hzm), zI (by show 3 <= 1000; decide), fun p hp => q _ (.set _ _) _ (s1.trans (zF hp _)) (.set zC) (fun b hb => by cases hb; exact ⟨Int.emod_nonneg _ (by omega), by rw [<- hl]; exact Int.emod_lt_of_pos _ (by omega)⟩)⟩
  refine ⟨fun c H3 => H3 = H2 /\ (c = true -> 0 < sz.length), ?_, ?_⟩
  · refine ⟨_, rfl, rfl, _, rfl, itB (fun c => ?_) (fun c => ⟨rfl, fun z => (by cases z)⟩)⟩
    refine ⟨_, rfl, ps, _, rfl, .inl (SqL.of hz1.1), _, _, rfl, rfl, _, rfl, itB (fun c => ?_) (fun c => ⟨rfl, fun z => (by cases z)⟩)⟩
    · have := of_decide_eq_true c
      rw [hl] at this
      exact ⟨_, rfl, _, _, rfl, rfl, ⟨by decide, by decide⟩, _, _, rfl, rfl, (by show (0 : Int) < 5; decide), rfl, _, rfl, rfl, fun _ => by omega⟩
  rintro c3 H3 ⟨rfl, hc3⟩
  refine itB (fun c => ?_) (fun c => ?_)
  · have he := hc3 c
    exact ⟨_, rfl, _, rfl, ps, _, rfl, .inl (SqL.of hz1.1), _, _, rfl, rfl, (by show (0 : Int) < (((sz.map V.int).length : Nat) : Int); omega), _, rfl, _, _, rfl, rfl, ⟨by decide, by decide, by decide⟩, _, _, rfl, rfl, .inl ⟨by omega, by omega⟩, _, rfl, _, _, rfl, rfl, _, rfl, _, _, rfl, rfl, ⟨by decide, by decide⟩, _, _, rfl, rfl, (by show (0 : Int) < 2; decide), _, _, rfl, rfl, .inl ⟨by decide, by decide⟩, _, _, rfl, rfl, _, _, rfl, rfl, .inr ⟨by omega, by omega⟩, zI (by show 3 <= 1000; decide), fun p hp => q _ (.add _ _) _ (s1.trans (zF hp _)) (.add zC) (fun b hb => by cases hb; exact ⟨Int.emod_nonneg _ (by omega), by rw [<- hl]; exact Int.emod_lt_of_pos _ (by omega)⟩)⟩
  refine ⟨fun c H4 => H4 = H3 /\ (c = true -> 0 < sz.length), ?_, ?_⟩
  · exact ⟨_, rfl, rfl, _, rfl, itB (fun c => ⟨_, rfl, ps, _, rfl, .inl (SqL.of hz1.1), _, _, rfl, rfl, _, rfl, rfl, fun z => (by have := of_decide_eq_true z; rw [hl] at this; omega)⟩) (fun c => ⟨rfl, fun z => (by cases z)⟩)⟩
  rintro c4 H4 ⟨rfl, hc4⟩
  refine itB (fun c => ?_) (fun c => ?_)
  · have he := hc4 c
    exact ⟨_, rfl, _, rfl, ps, _, rfl, .inl (SqL.of hz1.1), _, _, rfl, rfl, (by show (0 : Int) < (((sz.map V.int).length : Nat) : Int); omega), _, rfl, _, _, rfl, rfl, ⟨by decide, by decide⟩, _, _, rfl, rfl, (by show (0 : Int) < 9; decide), _, _, rfl, rfl, zI (by show 3 <= 1000; decide), fun p hp => q _ (.add _ _) _ (s1.trans (zF hp _)) (.add zC) (fun b hb => by cases hb; exact ⟨Int.emod_nonneg _ (by omega), by rw [<- hl]; exact Int.emod_lt_of_pos _ (by omega)⟩)⟩
  refine ⟨_, rfl, _, _, rfl, rfl, (by show (0 : Int) < 2; decide), rfl, _, rfl, itB (fun c => ?_) (fun c => ?_)⟩
  · exact ⟨zI (by show 2 <= 1000; decide), fun p hp => q _ (.say _) _ (s1.trans (zF hp _)) (.say zC) (fun b hb => by cases hb)⟩
  · exact ⟨_, rfl, _, _, rfl, rfl, ⟨by decide, by decide⟩, _, _, rfl, rfl, (by show (0 : Int) < 3; decide), _, rfl, _, _, rfl, rfl, ⟨by decide, by decide⟩, _, _, rfl, fun z H5 s5 => ⟨zI (by show 2 <= 1000; decide), fun p hp => q _ (.say _) _ ((s1.trans s5).trans (zF hp _)) (.say zC) (fun b hb => by cases hb)⟩⟩
theorem sc_law_deeds : FnScope ["_law_script", "_law_k", "_law_salt", "_law_sizes", "_law_events", "_law_number", "_law_many", "_law_deeds_here", "_law_j"] ["_law_script", "_law_k", "_law_salt", "_law_sizes", "_law_events"] (defScope s_L_deeds) := ⟨rfl, rfl, rfl, by decide +kernel, rfl, by decide +kernel, by decide +kernel⟩
theorem ok_deeds {f gm gd : Addr} {fd dm dd : FuncData} (F : Fun K "_law_deeds" "_law_deeds" s_L_deeds f fd)
    (Gl_mixed : FnOk P w K mg base CX0 2 gm dm ["_law_script", "_law_k", "_law_salt"] (spMixed K)) (bl_mixed : Binds K dm ["_law_script", "_law_k", "_law_salt"] []) (kl_mixed : KI K gm) (ml_mixed : mg "_law_mixed" = some (.ref gm))
    (Gl_deed : FnOk P w K mg base CX0 2 gd dd ["_law_number", "_law_sizes", "_law_events"] spDeed) (bl_deed : Binds K dd ["_law_number", "_law_sizes", "_law_events"] []) (kl_deed : KI K gd) (ml_deed : mg "_law_deed" = some (.ref gd))
    (m_range : mg "range" = none) (m_tuple : mg "tuple" = none) : FnOk P w K mg base CX0 3 f fd ["_law_script", "_law_k", "_law_salt", "_law_sizes", "_law_events"] (spDeeds K) := by
  refine F.ok sc_law_deeds (fun vs H Q E h => ?_) (fun cdv A outer s H vs Q E hr h => ?_)
  · obtain ⟨a, ps, ns, sz, k, salt, e, rfl, _⟩ := h
    rfl
  obtain ⟨a, ps, ns, sz, k, salt, e, rfl, hS, h63, ⟨k0, k1⟩, ⟨t0, t1⟩, hsz, q⟩ := h
  refine ⟨_, (zE (zK (i := 5) sc_law_deeds.nd rfl (Or.inl rfl) (zJ Gl_mixed hr rfl ml_mixed kl_mixed bl_mixed .nil yE (zA (pv 0) (zA (pv 1) (zA (pv 2) zD)))))
   (zE (zK (i := 6) sc_law_deeds.nd rfl (Or.inl rfl) (yB yU (yK (zA zB (zA zB (zA zB (zA zB (zA zB (zA zB (zA zB (zA zB zD))))))))) (yC zY (pv 5) zB) (fun _ _ => rfl)))
   (zE (zK (i := 7) sc_law_deeds.nd rfl (Or.inl rfl) (yK zD))
   (zZ (ps_for PassesOwn.never rfl (pi_range1 rfl m_range (zA (pv 6) zD)) (yJ (i := 8) sc_law_deeds.nd rfl (Or.inl rfl))
   (zG (yI (pe_bm PySem.F.plainAttrs_list PySem.F.slot_list_append PySem.F.type_list_append yH (pv 7) (zA (zJ Gl_deed hr rfl ml_deed kl_deed bl_deed .nil yE (zA (zJ Gl_mixed hr rfl ml_mixed kl_mixed bl_mixed .nil yE (zA (pv 0) (zA (pv 1) (zA (yC yF (yC yF (pv 2) zB) (pv 8)) zD)))) (zA (pv 3) (zA (pv 4) zD)))) zD)))))
   (zG (zO (yA zX rfl m_tuple PyProof.Rows.boot_tuple (zA (pv 7) zD)))))))), ?_⟩
  refine ⟨_, rfl, _, rfl, _, rfl, a, ns, _, _, rfl, hS, h63, ⟨by omega, by omega⟩, ⟨by omega, by omega⟩, fun x x0 x1 => ?_⟩
  obtain ⟨m, hm, hat⟩ : ∃ m : Nat, m <= 3 /\ atI [V.int 0, V.int 0, V.int 1, V.int 1, V.int 1, V.int 2, V.int 2, V.int 3] (x % 8) = some (.int (m : Int)) := by
    obtain ⟨o, ho, e⟩ := natsV_at (os := [0, 0, 1, 1, 1, 2, 2, 3]) (i := x % 8) (by omega) (by show _ < (8 : Int); omega)
    refine ⟨o, ?_, e⟩
    simp only [List.mem_cons, List.not_mem_nil, or_false] at ho
    omega
  refine ⟨zI (by show 8 <= 1000; decide), fun p0 hp0 => ⟨_, rfl, _, _, rfl, rfl, (by show (0 : Int) < 8; decide), p0, _, _, _, rfl, rfl, SqL.of zC, hat, ?_⟩⟩
  have s1 := zF hp0 (.lst [V.int 0, V.int 0, V.int 1, V.int 1, V.int 1, V.int 2, V.int 2, V.int 3])
  generalize upd H p0 (.lst [V.int 0, V.int 0, V.int 1, V.int 1, V.int 1, V.int 2, V.int 2, V.int 3]) = H1 at s1 ⊢
  refine ⟨Nat.zero_le _, fun pd hpd => ?_⟩
  have npd : H pd = none := s1.free hpd
  have s2 := s1.trans (zF hpd (.lst []))
  refine ⟨fun σ' H' => ∃ (xs : List V) (ds : List Dd), Same H H' /\ H' pd = some (.lst xs) /\ DdsIn H' xs ds /\ (∀ d ∈ ds, d.ok sz.length) /\ ds.length <= 8 /\ ∃ o8 : Option V, σ' = [some (.ref a), some (.int k), some (.int salt), some (.ref ps), some (.int e), some (.int x), some (.int (m : Int)), some (.ref pd), o8], ?_, ?_⟩
  · refine ⟨_, rfl, _, rfl, by omega, by omega, ?_⟩
    refine for_range (fun i σ' H' => ∃ (xs : List V) (ds : List Dd), Same H H' /\ H' pd = some (.lst xs) /\ DdsIn H' xs ds /\ (∀ d ∈ ds, d.ok sz.length) /\ ds.length <= i /\ ∃ o8 : Option V, σ' = [some (.ref a), some (.int k), some (.int salt), some (.ref ps), some (.int e), some (.int x), some (.int (m : Int)), some (.ref pd), o8])
      ⟨[], [], s2, zC, .nil, (fun d h => by cases h), zl3 _, _, rfl⟩ ?_ (fun σ' H' ⟨xs, ds, s3, h3, hD, ok, l, r⟩ => ⟨xs, ds, s3, h3, hD, ok, by omega, r⟩)
    rintro i σ' H3 hi ⟨xs, ds, s3, h3, hD, ok, lx, o8, rfl⟩
    have lx2 := hD.length
    refine ⟨_, rfl, .inl ⟨rfl, _, SqL.of h3⟩, _, rfl, _, rfl, _, rfl, _, _, rfl, rfl, _, rfl, _, _, rfl, rfl, a, ns, _, _, rfl, s3.seq hS, h63, ⟨by omega, by omega⟩, ⟨by omega, by omega⟩, fun y y0 y1 => ?_⟩
    refine ⟨_, rfl, _, rfl, y, e, ps, sz, rfl, y0, y1, hsz.mono s3, fun v d H4 s4 hd okd => ?_⟩
    have k5 := KeepT.lst (s4 _ _ h3) (.lst (xs ++ [v]))
    refine ⟨pd, _, _, rfl, rfl, s4 _ _ h3, zV (by omega), xs ++ [v], ds ++ [d], same_upd npd (s3.trans s4) _, zC, (hD.mono ((KeepT.of s4).trans k5)).snoc (hd.mono k5), fun x hx => ?_, by rw [zl2, zl15]; omega, _, rfl⟩
    rcases zl18.mp hx with hx | hx
    · exact ok x hx
    · rw [zl10.mp hx]
      exact okd
  rintro σ' H3 ⟨xs, ds, s3, h3, hD, ok, l, o8, rfl⟩
  exact ⟨_, rfl, pd, _, rfl, .inl ⟨SqL.of h3, fun p hp => q _ ds _ (s3.trans (zF hp _)) ⟨p, xs, rfl, zC, hD.mono (KeepT.new hp _)⟩ ok l⟩⟩
theorem sc_law_guard : FnScope ["_law_number", "_law_rooms_here", "_law_boxes", "_law_high", "_law_way", "_law_rest"] ["_law_number", "_law_rooms_here", "_law_boxes", "_law_high"] (defScope s_L_guard) := ⟨rfl, rfl, rfl, by decide +kernel, rfl, by decide +kernel, by decide +kernel⟩
theorem ok_guard {n : Nat} {f : Addr} {fd : FuncData} (F : Fun K "_law_guard" "_law_guard" s_L_guard f fd) (Gl_guard : FnOk P w K mg base CX0 n f fd ["_law_number", "_law_rooms_here", "_law_boxes", "_law_high"] (spGuard n)) (bl_guard : Binds K fd ["_law_number", "_law_rooms_here", "_law_boxes", "_law_high"] []) (kl_guard : KI K f) (ml_guard : mg "_law_guard" = some (.ref f)) :
    FnOk P w K mg base CX0 (n + 1) f fd ["_law_number", "_law_rooms_here", "_law_boxes", "_law_high"] (spGuard (n + 1)) := by
  refine F.ok sc_law_guard (fun vs H Q E h => ?_) (fun cdv A outer s H vs Q E hr h => ?_)
  · obtain ⟨m, r, hi, b, rfl, _⟩ := h
    rfl
  obtain ⟨m, r, hi, b, rfl, r0, h1, h2, q⟩ := h
  refine ⟨_, (zE (zK (i := 4) sc_law_guard.nd rfl (Or.inl rfl) (yC zY (pv 0) zB))
   (zE (zK (i := 5) sc_law_guard.nd rfl (Or.inl rfl) (yC yL (pv 0) zB))
   (zE (yD (pt_cut (PW.pt (pw_and (zL op_gt (pv 3) zB (zR _)) (yP (zL yG (pv 4) zB (zR _))))))
   (zG (zO (zW (zA zP (zA (zJ Gl_guard hr rfl ml_guard kl_guard bl_guard .nil yE (zA (pv 5) (zA (pv 1) (zA (pv 2) (zA (yC op_sub (pv 3) zB) zD))))) zD)))))
   zT)
   (zE (yD (pt_cut (PW.pt (pw_and (zL op_gt (pv 3) zB (zR _)) (yP (zL yG (pv 4) zB (zR _))))))
   (zG (zO (zW (zA zP (zA (zJ Gl_guard hr rfl ml_guard kl_guard bl_guard .nil yE (zA (pv 5) (zA (pv 1) (zA (pv 2) (zA (yC op_sub (pv 3) zB) zD))))) (zA (zJ Gl_guard hr rfl ml_guard kl_guard bl_guard .nil yE (zA (yC yL (pv 5) zB) (zA (pv 1) (zA (pv 2) (zA (yC op_sub (pv 3) zB) zD))))) zD))))))
   zT)
   (zE (yD (pt_cut (PW.pt (pw_and (zL op_gt (pv 3) zB (zR _)) (yP (zL yG (pv 4) zB (zR _))))))
   (zG (zO (zW (zA zP (zA (zJ Gl_guard hr rfl ml_guard kl_guard bl_guard .nil yE (zA (pv 5) (zA (pv 1) (zA (pv 2) (zA (yC op_sub (pv 3) zB) zD))))) (zA (zJ Gl_guard hr rfl ml_guard kl_guard bl_guard .nil yE (zA (yC yL (pv 5) zB) (zA (pv 1) (zA (pv 2) (zA (yC op_sub (pv 3) zB) zD))))) zD))))))
   zT)
   (zE (yD (pt_cut (PW.pt (pw_or (zL yG (pv 4) zB (zR _)) (pw_or1 (zL yG (pv 4) zB (zR _))))))
   (zG (zO (zW (zA zP (zA (yC zY (pv 5) (pv 1)) zD)))))
   zT)
   (zE (yD (pt_cut (PW.pt (pw_and (zL yG (pv 4) zB (zR _)) (yP (zL op_gt (pv 2) zB (zR _))))))
   (zG (zO (zW (zA zP (zA (yC zY (pv 5) (pv 2)) (zA (yC zY (yC yL (pv 5) zB) zB) zD))))))
   zT)
   (zE (yD (pt_cut (PW.pt (pw_and (zL yG (pv 4) zB (zR _)) (yP (zL op_gt (pv 2) zB (zR _))))))
   (zG (zO (zW (zA zP (zA (yC zY (pv 5) (pv 2)) (zA (yC zY (yC yL (pv 5) zB) zB) zD))))))
   zT)
   (zG (zO (zW (zA zP zD)))))))))))), ?_⟩
  refine ⟨_, rfl, _, _, rfl, rfl, (by show (0 : Int) < 9; decide), ?_⟩
  refine ⟨_, rfl, _, _, rfl, rfl, ⟨by decide, by decide⟩, ?_⟩
  refine ⟨fun c H' => H' = H /\ (c = true -> 1 < hi), ?_, ?_⟩
  · refine ⟨_, rfl, _, _, rfl, rfl, _, rfl, itB (fun c => ?_) (fun c => ⟨rfl, fun z => (by cases z)⟩)⟩
    exact ⟨_, rfl, rfl, _, rfl, rfl, fun _ => of_decide_eq_true c⟩
  rintro c1 H ⟨rfl, hc1⟩
  refine itB (fun c => ?_) (fun c => ?_)
  · have hh := hc1 c
    exact ⟨_, rfl, _, rfl, _, rfl, _, rfl, _, _, rfl, rfl, _, _, _, _, rfl, r0, by omega, by omega, fun v g H2 s2 hg gok ght => ⟨zI (by show 2 <= 1000; decide), fun p hp => q _ (.neg g) _ (s2.trans (zF hp _)) (.neg zC (hg.mono (KeepT.new hp _))) gok (by show ((g.ht + 1 : Nat) : Int) <= hi; omega)⟩⟩
  refine ⟨fun c H' => H' = H /\ (c = true -> 1 < hi), ?_, ?_⟩
  · refine ⟨_, rfl, _, _, rfl, rfl, _, rfl, itB (fun c => ?_) (fun c => ⟨rfl, fun z => (by cases z)⟩)⟩
    exact ⟨_, rfl, rfl, _, rfl, rfl, fun _ => of_decide_eq_true c⟩
  rintro c2 H ⟨rfl, hc2⟩
  refine itB (fun c => ?_) (fun c => ?_)
  · have hh := hc2 c
    exact ⟨_, rfl, _, rfl, _, rfl, _, rfl, _, _, rfl, rfl, _, _, _, _, rfl, r0, by omega, by omega, fun v g H2 s2 hg gok ght => ⟨_, rfl, _, _, rfl, rfl, ⟨by decide, by decide⟩, _, rfl, _, rfl, _, rfl, _, _, rfl, rfl, _, _, _, _, rfl, r0, by omega, by omega, fun v3 g3 H3 s3 hg3 gok3 ght3 => ⟨zI (by show 3 <= 1000; decide), fun p hp => q _ (.both g g3) _ ((s2.trans s3).trans (zF hp _)) (.both zC (hg.mono (KeepT.of (s3.trans (zF hp _)))) (hg3.mono (KeepT.new hp _))) ⟨gok, gok3⟩ (by show ((1 + max g.ht g3.ht : Nat) : Int) <= hi; omega)⟩⟩⟩
  refine ⟨fun c H' => H' = H /\ (c = true -> 1 < hi), ?_, ?_⟩
  · refine ⟨_, rfl, _, _, rfl, rfl, _, rfl, itB (fun c => ?_) (fun c => ⟨rfl, fun z => (by cases z)⟩)⟩
    exact ⟨_, rfl, rfl, _, rfl, rfl, fun _ => of_decide_eq_true c⟩
  rintro c3 H ⟨rfl, hc3⟩
  refine itB (fun c => ?_) (fun c => ?_)
  · have hh := hc3 c
    exact ⟨_, rfl, _, rfl, _, rfl, _, rfl, _, _, rfl, rfl, _, _, _, _, rfl, r0, by omega, by omega, fun v g H2 s2 hg gok ght => ⟨_, rfl, _, _, rfl, rfl, ⟨by decide, by decide⟩, _, rfl, _, rfl, _, rfl, _, _, rfl, rfl, _, _, _, _, rfl, r0, by omega, by omega, fun v3 g3 H3 s3 hg3 gok3 ght3 => ⟨zI (by show 3 <= 1000; decide), fun p hp => q _ (.either g g3) _ ((s2.trans s3).trans (zF hp _)) (.either zC (hg.mono (KeepT.of (s3.trans (zF hp _)))) (hg3.mono (KeepT.new hp _))) ⟨gok, gok3⟩ (by show ((1 + max g.ht g3.ht : Nat) : Int) <= hi; omega)⟩⟩⟩
  refine ⟨fun c H' => H' = H, ?_, ?_⟩
  · exact ⟨_, rfl, rfl, _, rfl, itB (fun c => rfl) (fun c => ⟨_, rfl, rfl, _, rfl, rfl⟩)⟩
  rintro c4 H rfl
  refine itB (fun c => ?_) (fun c => ?_)
  · exact ⟨_, rfl, _, rfl, _, _, rfl, rfl, (by show (0 : Int) < r; exact r0), zI (by show 2 <= 1000; decide), fun p hp => q _ (.inn _) _ (zF hp _) (.inn zC) trivial (by show (1 : Int) <= hi; omega)⟩
  refine ⟨fun c H' => H' = H /\ (c = true -> 0 < (b : Int)), ?_, ?_⟩
  · refine ⟨_, rfl, rfl, _, rfl, itB (fun c => ⟨_, rfl, _, _, rfl, rfl, _, rfl, rfl, fun z => of_decide_eq_true z⟩) (fun c => ⟨rfl, fun z => (by cases z)⟩)⟩
  rintro c5 H ⟨rfl, hc5⟩
  refine itB (fun c => ?_) (fun c => ?_)
  · have hh := hc5 c
    exact ⟨_, rfl, _, rfl, _, _, rfl, rfl, (by show (0 : Int) < (b : Int); exact hh), _, rfl, _, _, rfl, rfl, ⟨by decide, by decide⟩, _, _, rfl, rfl, (by show (0 : Int) < 4; decide), zI (by show 3 <= 1000; decide), fun p hp => q _ (.is _ _) _ (zF hp _) (.is zC) ⟨Int.emod_nonneg _ (by omega), Int.emod_lt_of_pos _ hh⟩ (by show (1 : Int) <= hi; omega)⟩
  refine ⟨fun c H' => H' = H /\ (c = true -> 0 < (b : Int)), ?_, ?_⟩
  · refine ⟨_, rfl, rfl, _, rfl, itB (fun c => ⟨_, rfl, _, _, rfl, rfl, _, rfl, rfl, fun z => of_decide_eq_true z⟩) (fun c => ⟨rfl, fun z => (by cases z)⟩)⟩
  rintro c6 H ⟨rfl, hc6⟩
  refine itB (fun c => ?_) (fun c => ?_)
  · have hh := hc6 c
    exact ⟨_, rfl, _, rfl, _, _, rfl, rfl, (by show (0 : Int) < (b : Int); exact hh), _, rfl, _, _, rfl, rfl, ⟨by decide, by decide⟩, _, _, rfl, rfl, (by show (0 : Int) < 5; decide), zI (by show 3 <= 1000; decide), fun p hp => q _ (.under _ _) _ (zF hp _) (.under zC) ⟨Int.emod_nonneg _ (by omega), Int.emod_lt_of_pos _ hh⟩ (by show (1 : Int) <= hi; omega)⟩
  exact ⟨zI (by show 1 <= 1000; decide), fun p hp => q _ .yes _ (zF hp _) (.yes zC) trivial (by show (1 : Int) <= hi; omega)⟩
theorem none_guard {f : Addr} {fd : FuncData} : FnOk P w K mg base CX0 0 f fd ["_law_number", "_law_rooms_here", "_law_boxes", "_law_high"] (spGuard 0) := by
  have no : ∀ vs H Q E, ¬ spGuard 0 vs H Q E := fun vs H Q E h => by
    obtain ⟨m, r, hi, b, _, _, h1, h2, _⟩ := h
    omega
  exact ⟨fun vs H Q E h => absurd h (no vs H Q E), fun A outer s H args us vs Q E _ _ _ _ h => absurd h (no vs H Q E)⟩
theorem all_guard {f : Addr} {fd : FuncData} (F : Fun K "_law_guard" "_law_guard" s_L_guard f fd) (bl_guard : Binds K fd ["_law_number", "_law_rooms_here", "_law_boxes", "_law_high"] []) (ml_guard : mg "_law_guard" = some (.ref f)) : ∀ n : Nat, FnOk P w K mg base CX0 n f fd ["_law_number", "_law_rooms_here", "_law_boxes", "_law_high"] (spGuard n)
  | 0 => none_guard
  | n + 1 => ok_guard F (all_guard F bl_guard ml_guard n) bl_guard F.kp ml_guard
end
end Chr
namespace Chr
open PySem L2 Mix Gds Rms Dds
theorem last_at {ds : List Int} {k : Nat} (h : k < ds.length) : atI (ds.map V.int) ((k : Nat) : Int) = some (.int (ds.getD k 0)) := by
  refine yQ ?_
  rw [zl20, zl1 h, zl11, zl1 h]
  rfl
def Low (ds : List Int) : Prop := ∀ k, k < ds.length -> ds.getD k 0 <= 4
theorem Low.snoc {ds : List Int} {v : Int} (h : Low ds) (hv : v <= 4) : Low (ds ++ [v]) := fun k hk => by
  rw [zl11]
  by_cases e : k < ds.length
  · rw [List.getElem?_append_left e, <- zl11]
    exact h k e
  · have : k = ds.length := by
      rw [zl2, zl15] at hk
      omega
    subst this
    rw [List.getElem?_append_right (zl3 _), Nat.sub_self]
    exact hv
def spDepths (K : PySem.W.Frag) : Sp := fun vs H Q _ => ∃ (a : Addr) (ns : List Int) (m : Nat), vs = [.ref a, .int (m : Int)] /\ SqL K H a (ns.map V.int) /\ ns.length <= 63 /\ 1 <= m /\ m <= 20 ∧
  ∀ (p : Addr) (ds : List Int) (H' : Hp), Same H H' -> H p = none -> H' p = some (.lst (ds.map V.int)) -> Tr.Good ds -> Low ds -> ds.length = m -> Q (.ref p) H'
section
variable {P : Program} {w : World} {K : PySem.W.Frag} {mg : Str -> Option Value} {base : Heap}
theorem sc_law_depths : FnScope ["_law_script", "_law_many", "_law_depths_here", "_law_k"] ["_law_script", "_law_many"] (defScope s_L_depths) := ⟨rfl, rfl, rfl, by decide +kernel, rfl, by decide +kernel, by decide +kernel⟩
theorem ok_depths {f gm : Addr} {fd dm : FuncData} (F : Fun K "_law_depths" "_law_depths" s_L_depths f fd) (Gl_mixed : FnOk P w K mg base CX0 2 gm dm ["_law_script", "_law_k", "_law_salt"] (spMixed K)) (bl_mixed : Binds K dm ["_law_script", "_law_k", "_law_salt"] []) (kl_mixed : KI K gm) (ml_mixed : mg "_law_mixed" = some (.ref gm))
    (m_range : mg "range" = none) (m_min : mg "min" = none) : FnOk P w K mg base CX0 3 f fd ["_law_script", "_law_many"] (spDepths K) := by
  refine F.ok sc_law_depths (fun vs H Q E h => ?_) (fun cdv A outer s H vs Q E hr h => ?_)
  · obtain ⟨a, ns, m, rfl, _⟩ := h
    rfl
  obtain ⟨a, ns, m, rfl, hS, h63, m1, m12, q⟩ := h
  refine ⟨_, (zE (zK (i := 2) sc_law_depths.nd rfl (Or.inl rfl) (yK (zA zB zD)))
   (zZ (ps_for PassesOwn.never rfl (pi_range2 rfl m_range (zA zB (zA (pv 1) zD))) (yJ (i := 3) sc_law_depths.nd rfl (Or.inl rfl))
   (zG (yI (pe_bm PySem.F.plainAttrs_list PySem.F.slot_list_append PySem.F.type_list_append yH (pv 2) (zA (yC yF zB (yC zY (zJ Gl_mixed hr rfl ml_mixed kl_mixed bl_mixed .nil yE (zA (pv 0) (zA (yC yF zB (pv 3)) (zA zB zD)))) (yC yF (zS (call_min2 rfl) rfl m_min PyProof.Rows.boot_min (zA (yB yU (pv 2) (yC op_sub (pv 3) zB) (fun _ _ => rfl)) (zA zB zD))) zB))) zD)))))
   (zG (zO (pv 2))))), ?_⟩
  refine ⟨zI (by show 1 <= 1000; decide), fun pd hpd => ?_⟩
  refine ⟨fun σ' H' => ∃ dl : List Int, Same H H' /\ H' pd = some (.lst (dl.map V.int)) /\ Tr.Good dl /\ Low dl /\ dl.length = m /\ ∃ o3 : Option V, σ' = [some (.ref a), some (.int (m : Int)), some (.ref pd), o3], ?_, ?_⟩
  · refine ⟨_, rfl, 1, (m : Int), rfl, ⟨by decide, by decide, by omega, by omega⟩, ?_⟩
    refine for_range (fun i σ' H' => ∃ dl : List Int, Same H H' /\ H' pd = some (.lst (dl.map V.int)) /\ Tr.Good dl /\ Low dl /\ dl.length = i + 1 /\ ∃ o3 : Option V, σ' = [some (.ref a), some (.int (m : Int)), some (.ref pd), o3])
      ⟨[0], zF hpd _, zC, .one, (fun k hk => by (have : k = 0 := by simpa using hk); subst this; decide), rfl, none, rfl⟩ ?_ ?_
    · rintro i σ' H2 hi ⟨dl, s2, h2, good, low, hl, o3, rfl⟩
      have gn := good.nonneg i (by omega)
      have hat : atI (dl.map V.int) (1 + (i : Int) - 1) = some (.int (dl.getD i 0)) := by
        rw [show (1 + (i : Int)) - 1 = (i : Int) by omega]
        exact last_at (by omega)
      refine ⟨_, rfl, .inl ⟨rfl, _, SqL.of h2⟩, _, rfl, _, rfl, _, _, rfl, rfl, a, ns, _, _, rfl, s2.seq hS, h63, ⟨by omega, by omega⟩, ⟨by decide, by decide⟩, fun y y0 y1 => ?_⟩
      have tp : 0 <= (if (3 : Int) < dl.getD i 0 then 3 else dl.getD i 0) /\ (if (3 : Int) < dl.getD i 0 then 3 else dl.getD i 0) <= dl.getD i 0 /\ (if (3 : Int) < dl.getD i 0 then 3 else dl.getD i 0) <= 3 := by split <;> omega
      have hy0 := Int.emod_nonneg y (show (if (3 : Int) < dl.getD i 0 then 3 else dl.getD i 0) + 1 ≠ 0 by omega)
      have hy1 := Int.emod_lt_of_pos y (show 0 < (if (3 : Int) < dl.getD i 0 then 3 else dl.getD i 0) + 1 by omega)
      refine ⟨_, rfl, _, rfl, _, _, rfl, rfl, pd, _, _, _, rfl, rfl, SqL.of h2, hat, _, _, rfl, _, _, rfl, rfl, _, _, rfl, rfl, (by show (0 : Int) < (if (3 : Int) < dl.getD i 0 then 3 else dl.getD i 0) + 1; omega), _, _, rfl, rfl, pd, _, _, rfl, rfl, h2, zV (by rw [zl0]; omega), ?_⟩
      refine ⟨dl ++ [1 + y % ((if (3 : Int) < dl.getD i 0 then 3 else dl.getD i 0) + 1)], same_upd hpd s2 _, ?_, good.snoc (by omega) (by rw [hl, Nat.add_sub_cancel]; omega), low.snoc (by omega), by simp [hl], _, rfl⟩
      rw [zC, zl8]
      rfl
    · rintro σ' H2 ⟨dl, s2, h2, good, low, hl, o3, rfl⟩
      exact ⟨dl, s2, h2, good, low, by omega, o3, rfl⟩
  rintro σ' H2 ⟨dl, s2, h2, good, low, hl, o3, rfl⟩
  exact ⟨_, rfl, q pd dl H2 s2 hpd h2 good low hl⟩
def KpFit (r : Rm) : Prop := r.keeps = ("" : Str) ∨ (r.keeps = ("near" : Str) /\ r.kind = ("one" : Str)) ∨ r.keeps = ("deep" : Str)
def K0 (kd kp : Str) : Prop := (kp = "" ∨ kp = "near" ∨ kp = "deep") /\ (kp = "near" -> kd = "one" ∨ kd = "all")
def spRooms (K : PySem.W.Frag) : Sp := fun vs H Q _ => ∃ (a pd ps : Addr) (ns ds sz : List Int) (e : Int), vs = [.ref a, .ref pd, .ref ps, .int e] /\ SqL K H a (ns.map V.int) /\ ns.length <= 63 /\ H pd = some (.lst (ds.map V.int)) /\ ds.length <= 20 /\ SizesIn H ps sz ∧
  ∀ (t : Addr) (rv : List V) (rs : List Rm) (dis dos : List (List Dd)) (H' : Hp), Same H H' -> H' t = some (.tup rv) -> Ru.RBn sz.length H' rv rs dis dos -> depths rs = ds -> Fit rs -> (∀ r ∈ rs, KpFit r) -> Q (.ref t) H'
theorem sc_law_rooms : FnScope ["_law_script", "_law_depths_here", "_law_sizes", "_law_events", "_law_rooms_here", "_law_k", "_law_number", "_law_kind", "_law_keeps", "_law_lamp", "_law_ins", "_law_outs"] ["_law_script", "_law_depths_here", "_law_sizes", "_law_events"] (defScope sRooms) := ⟨rfl, rfl, rfl, by decide +kernel, rfl, by decide +kernel, by decide +kernel⟩
theorem ok_rooms {f gm gn gd gc : Addr} {fd dm dn dd dc : FuncData} (F : Fun K "_law_rooms" "_law_rooms" sRooms f fd) (Gl_mixed : FnOk P w K mg base CX0 3 gm dm ["_law_script", "_law_k", "_law_salt"] (spMixed K)) (bl_mixed : Binds K dm ["_law_script", "_law_k", "_law_salt"] []) (kl_mixed : KI K gm) (ml_mixed : mg "_law_mixed" = some (.ref gm))
    (Gl_name : FnOk P w K mg base CX0 3 gn dn ["_law_k", "_law_number"] spName) (bl_name : Binds K dn ["_law_k", "_law_number"] []) (kl_name : KI K gn) (ml_name : mg "_law_name" = some (.ref gn))
    (Gl_deeds : FnOk P w K mg base CX0 3 gd dd ["_law_script", "_law_k", "_law_salt", "_law_sizes", "_law_events"] (spDeeds K)) (bl_deeds : Binds K dd ["_law_script", "_law_k", "_law_salt", "_law_sizes", "_law_events"] []) (kl_deeds : KI K gd) (ml_deeds : mg "_law_deeds" = some (.ref gd))
    (Gl_cell_at : FnOk P w K mg base CX0 3 gc dc ["_law_script", "_law_k"] (spCell K)) (bl_cell_at : Binds K dc ["_law_script", "_law_k"] []) (kl_cell_at : KI K gc) (ml_cell_at : mg "_law_cell_at" = some (.ref gc))
    (m_range : mg "range" = none) (m_len : mg "len" = none) (m_tuple : mg "tuple" = none) : FnOk P w K mg base CX0 4 f fd ["_law_script", "_law_depths_here", "_law_sizes", "_law_events"] (spRooms K) := by
  refine F.ok sc_law_rooms (fun vs H Q E h => ?_) (fun cdv A outer s H vs Q E hr h => ?_)
  · obtain ⟨a, pd, ps, ns, ds, sz, e, rfl, _⟩ := h
    rfl
  obtain ⟨a, pd, ps, ns, ds, sz, e, rfl, hS, h63, hd, h40, hsz, q⟩ := h
  refine ⟨_, (zE (zK (i := 4) sc_law_rooms.nd rfl (Or.inl rfl) (yK zD))
   (zZ (ps_for PassesOwn.never rfl (pi_range1 rfl m_range (zA (zS zN rfl m_len PySem.boot_len (zA (pv 1) zD)) zD)) (yJ (i := 5) sc_law_rooms.nd rfl (Or.inl rfl))
   (zE (zK (i := 6) sc_law_rooms.nd rfl (Or.inl rfl) (zJ Gl_mixed hr rfl ml_mixed kl_mixed bl_mixed .nil yE (zA (pv 0) (zA (yC yF zB (pv 5)) (zA zB zD)))))
   (zE (zK (i := 7) sc_law_rooms.nd rfl (Or.inl rfl) zP)
   (zE (zK (i := 8) sc_law_rooms.nd rfl (Or.inl rfl) zP)
   (zZ (yD (pt_cut (PW.pt (pw_and (zL op_lt (yC yF (pv 5) zB) (zS zN rfl m_len PySem.boot_len (zA (pv 1) zD)) (zR _)) (yP (zL op_gt (yB yU (pv 1) (yC yF (pv 5) zB) (fun _ _ => rfl)) (yB yU (pv 1) (pv 5) (fun _ _ => rfl)) (zR _))))))
   (zE (zK (i := 7) sc_law_rooms.nd rfl (Or.inl rfl) (yB yU (yK (zA zP (zA zP (zA zP zD)))) (yC zY (pv 6) zB) (fun _ _ => rfl)))
   (zG (zK (i := 8) sc_law_rooms.nd rfl (Or.inl rfl) (yB yU (yK (zA zP (zA zP (zA zP zD)))) (yC zY (yC yL (pv 6) zB) zB) (fun _ _ => rfl)))))
   zT)
   (zZ (yD (pt_cut (PW.pt (pw_and (zL yG (pv 7) zP (zR _)) (yP (zL yG (pv 8) zP (zR _))))))
   (zG (zK (i := 8) sc_law_rooms.nd rfl (Or.inl rfl) zP))
   zT)
   (zE (zK (i := 9) sc_law_rooms.nd rfl (Or.inl rfl) zP)
   (zZ (yD (zL yG (yC zY (yC yL (pv 6) zB) zB) zB (zR _))
   (zG (zK (i := 9) sc_law_rooms.nd rfl (Or.inl rfl) (zJ Gl_name hr rfl ml_name kl_name bl_name .nil yE (zA (yC zY (yC yL (pv 6) zB) zB) (zA (yC yL (pv 6) zB) zD)))))
   zT)
   (zE (zK (i := 10) sc_law_rooms.nd rfl (Or.inl rfl) (zJ Gl_deeds hr rfl ml_deeds kl_deeds bl_deeds .nil yE (zA (pv 0) (zA (yC yF zB (pv 5)) (zA zB (zA (pv 2) (zA (pv 3) zD)))))))
   (zE (zK (i := 11) sc_law_rooms.nd rfl (Or.inl rfl) (zJ Gl_deeds hr rfl ml_deeds kl_deeds bl_deeds .nil yE (zA (pv 0) (zA (yC yF zB (pv 5)) (zA zB (zA (pv 2) (zA (pv 3) zD)))))))
   (zG (yI (pe_bm PySem.F.plainAttrs_list PySem.F.slot_list_append PySem.F.type_list_append yH (pv 4) (zA (zW (zA (zJ Gl_name hr rfl ml_name kl_name bl_name .nil yE (zA (pv 5) (zA (yC zY (zJ Gl_cell_at hr rfl ml_cell_at kl_cell_at bl_cell_at .nil yE (zA (pv 0) (zA zB zD))) zB) zD))) (zA (pv 7) (zA (yB yU (pv 1) (pv 5) (fun _ _ => rfl)) (zA (pv 8) (zA (pv 9) (zA (pv 10) (zA (pv 11) zD)))))))) zD))))))))))))))
   (zG (zO (yA zX rfl m_tuple PyProof.Rows.boot_tuple (zA (pv 4) zD)))))), ?_⟩
  have lds : (ds.map V.int).length = ds.length := zl0 _
  refine ⟨Nat.zero_le _, fun pr hpr => ?_⟩
  have s1 := zF hpr (.lst [])
  refine ⟨fun σ' H' => ∃ (vs : List V) (rs : List Rm) (dis dos : List (List Dd)), Same H H' /\ H' pr = some (.lst vs) /\ Ru.RBn sz.length H' vs rs dis dos /\ depths rs = ds /\ Fit rs /\ (∀ r ∈ rs, KpFit r) /\ ∃ o5 o6 o7 o8 o9 o10 o11 : Option V, σ' = [some (.ref a), some (.ref pd), some (.ref ps), some (.int e), some (.ref pr), o5, o6, o7, o8, o9, o10, o11], ?_, ?_⟩
  · refine ⟨_, rfl, pd, _, rfl, .inl (SqL.of (s1 _ _ hd)), _, rfl, by omega, by rw [lds]; omega, ?_⟩
    refine for_range (fun i σ' H' => ∃ (vs : List V) (rs : List Rm) (dis dos : List (List Dd)), Same H H' /\ H' pr = some (.lst vs) /\ Ru.RBn sz.length H' vs rs dis dos /\ depths rs = ds.take i /\ rs.length = i /\ (∀ (k : Nat) (x : Rm), rs[k]? = some x -> (if k + 1 < ds.length /\ ds.getD k 0 < ds.getD (k + 1) 0 then (x.kind = "one" ∨ x.kind = "all") else x.kind = "plain") /\ KpFit x) ∧
      ∃ o5 o6 o7 o8 o9 o10 o11 : Option V, σ' = [some (.ref a), some (.ref pd), some (.ref ps), some (.int e), some (.ref pr), o5, o6, o7, o8, o9, o10, o11]) ⟨[], [], [], [], s1, zC, Ru.RBn.nil _, rfl, rfl, (fun k x h => by simp at h), none, none, none, none, none, none, none, rfl⟩ ?_ ?_
    · rintro i σ' H3 hi ⟨vs, rs, dis, dos, s3, h3, hI, hdep, hlen, hkd, o5, o6, o7, o8, o9, o10, o11, rfl⟩
      have hi' : i < ds.length := by
        simp only [List.length_map, Int.toNat_natCast] at hi
        exact hi
      have hd3 := s3 _ _ hd
      have hat : atI (ds.map V.int) (0 + (i : Int)) = some (.int (ds.getD i 0)) := by
        rw [Int.zero_add]
        exact last_at hi'
      refine ⟨_, rfl, _, rfl, _, _, rfl, rfl, a, ns, _, _, rfl, s3.seq hS, h63, ⟨by omega, by omega⟩, ⟨by decide, by decide⟩, fun x x0 x1 => ?_⟩
      refine ⟨fun σ' H4 => Same H3 H4 /\ ∃ kd kp : Str, (if i + 1 < ds.length /\ ds.getD i 0 < ds.getD (i + 1) 0 then (kd = "one" ∨ kd = "all") else kd = "plain") /\ K0 kd kp /\ σ' = [some (.ref a), some (.ref pd), some (.ref ps), some (.int e), some (.ref pr), some (.int (0 + (i : Int))), some (.int x), some (.str kd), some (.str kp), o9, o10, o11], ?_, ?_⟩
      · refine ⟨fun c H4 => H4 = H3 /\ c = decide (i + 1 < ds.length /\ ds.getD i 0 < ds.getD (i + 1) 0), ?_, ?_⟩
        · refine ⟨_, rfl, _, _, rfl, rfl, _, rfl, pd, _, rfl, .inl (SqL.of hd3), _, _, rfl, rfl, _, rfl, ?_⟩
          refine ite2 (fun c => ?_) (fun c => ⟨rfl, ?_⟩)
          · have c' : (0 : Int) + (i : Int) + 1 < (((ds.map V.int).length : Nat) : Int) := of_decide_eq_true c
            rw [lds] at c'
            have hat2 : atI (ds.map V.int) (0 + (i : Int) + 1) = some (.int (ds.getD (i + 1) 0)) := by
              rw [show (0 : Int) + (i : Int) + 1 = ((i + 1 : Nat) : Int) by omega]
              exact last_at (by omega)
            refine ⟨_, rfl, _, rfl, _, _, rfl, rfl, pd, _, _, _, rfl, rfl, SqL.of hd3, hat2, _, rfl, _, rfl, pd, _, _, _, rfl, rfl, SqL.of hd3, hat, _, _, rfl, rfl, _, rfl, rfl, ?_⟩
            have e : i + 1 < ds.length := by omega
            simp [e]
          · have c' : ¬ (0 : Int) + (i : Int) + 1 < (((ds.map V.int).length : Nat) : Int) := fun z => c (decide_eq_true z)
            rw [lds] at c'
            have e : ¬ i + 1 < ds.length := by omega
            simp [e]
        rintro c H4 ⟨rfl, hc⟩
        refine ite2 (fun c1 => ?_) (fun c1 => ?_)
        · rw [c1] at hc
          have hc' := of_decide_eq_true hc.symm
          obtain ⟨kd, hkm, hk1⟩ := str_at (zs := [("one" : Str), "one", "all"]) (i := x % 3) (by omega) (by show _ < (3 : Int); omega)
          obtain ⟨kp, hpm, hk2⟩ := str_at (zs := [("" : Str), "near", "deep"]) (i := x / 3 % 3) (by omega) (by show _ < (3 : Int); omega)
          refine ⟨zI (by show 3 <= 1000; decide), fun p5 hp5 => ?_⟩
          have s5 := zF hp5 (.lst [V.str "one", V.str "one", V.str "all"])
          refine ⟨_, rfl, _, _, rfl, rfl, (by show (0 : Int) < 3; decide), p5, _, _, _, rfl, rfl, SqL.of zC, hk1, ?_⟩
          refine ⟨zI (by show 3 <= 1000; decide), fun p6 hp6 => ?_⟩
          have s6 := s5.trans (zF hp6 (.lst [V.str "", V.str "near", V.str "deep"]))
          refine ⟨_, rfl, _, _, rfl, rfl, ⟨by decide, by decide⟩, _, _, rfl, rfl, (by show (0 : Int) < 3; decide), p6, _, _, _, rfl, rfl, SqL.of zC, hk2, s6, kd, kp, (by
            rw [if_pos hc']
            simp only [List.mem_cons, List.not_mem_nil, or_false] at hkm
            rcases hkm with h | h | h
            · exact .inl h
            · exact .inl h
            · exact .inr h), ?_, rfl⟩
          simp only [List.mem_cons, List.not_mem_nil, or_false] at hkm hpm
          refine ⟨hpm, fun _ => ?_⟩
          rcases hkm with h | h | h
          · exact .inl h
          · exact .inl h
          · exact .inr h
        · rw [Bool.eq_false_iff.mpr c1] at hc
          have hc' := of_decide_eq_false hc.symm
          exact ⟨Same.refl _, _, _, (by rw [if_neg hc']), ⟨.inl rfl, fun z => absurd z (by decide +kernel)⟩, rfl⟩
      rintro σ5 H5 ⟨s4, kd, kp0, hkd4, hk0, rfl⟩
      refine ⟨fun σ' H6 => H6 = H5 /\ ∃ kp : Str, (kp = "" ∨ (kp = "near" /\ kd = "one") ∨ kp = "deep") /\ σ' = [some (.ref a), some (.ref pd), some (.ref ps), some (.int e), some (.ref pr), some (.int (0 + (i : Int))), some (.int x), some (.str kd), some (.str kp), o9, o10, o11], ?_, ?_⟩
      · refine ⟨fun c H6 => H6 = H5 /\ (c = false -> ¬ (kd = ("all" : Str) /\ kp0 = ("near" : Str))), ?_, ?_⟩
        · exact ⟨_, rfl, rfl, _, rfl, itB (fun c => ⟨_, rfl, rfl, _, rfl, rfl, fun z w => absurd (by rw [w.2]) (of_decide_eq_false z)⟩) (fun c => ⟨rfl, fun _ w => absurd (by rw [w.1]) (of_decide_eq_false c)⟩)⟩
        rintro c H6 ⟨rfl, hc⟩
        refine itB (fun c => ⟨rfl, _, .inr (.inr rfl), rfl⟩) (fun c => ⟨rfl, _, ?_, rfl⟩)
        rcases hk0.1 with h | h | h
        · exact .inl h
        · rcases hk0.2 h with h2 | h2
          · exact .inr (.inl ⟨h, h2⟩)
          · exact absurd ⟨h2, h⟩ (hc c)
        · exact .inr (.inr h)
      rintro σ6 H6 ⟨rfl, kp, hkp, rfl⟩
      refine ⟨fun σ' H7 => Same H6 H7 /\ ∃ lp : Str, σ' = [some (.ref a), some (.ref pd), some (.ref ps), some (.int e), some (.ref pr), some (.int (0 + (i : Int))), some (.int x), some (.str kd), some (.str kp), some (.str lp), o10, o11], ?_, ?_⟩
      · refine ⟨_, rfl, _, _, rfl, rfl, ⟨by decide, by decide⟩, _, _, rfl, rfl, (by show (0 : Int) < 3; decide), rfl, _, rfl, itB (fun c => ?_) (fun c => ⟨Same.refl _, _, rfl⟩)⟩
        exact ⟨_, rfl, _, _, rfl, rfl, ⟨by decide, by decide⟩, _, _, rfl, rfl, (by show (0 : Int) < 3; decide), _, rfl, _, _, rfl, rfl, ⟨by decide, by decide⟩, _, _, rfl, fun z H7 s7 => ⟨s7, z, rfl⟩⟩
      rintro σ7 H7 ⟨s7, lp, rfl⟩
      have s37 := (s3.trans s4).trans s7
      refine ⟨_, rfl, _, rfl, _, _, rfl, rfl, _, rfl, _, rfl, a, ps, ns, sz, _, _, _, rfl, s37.seq hS, h63, ⟨by omega, by omega⟩, ⟨by decide, by decide⟩, hsz.mono s37, fun vi di H8 s8 hdi oki ldi => ?_⟩
      have s38 := s37.trans s8
      refine ⟨_, rfl, _, rfl, _, _, rfl, rfl, _, rfl, _, rfl, a, ps, ns, sz, _, _, _, rfl, s38.seq hS, h63, ⟨by omega, by omega⟩, ⟨by decide, by decide⟩, hsz.mono s38, fun vo dO H9 s9 hdo oko ldo => ?_⟩
      have s39 := s38.trans s9
      have h9 := ((s4.trans s7).trans (s8.trans s9)) _ _ h3
      refine ⟨_, rfl, .inl ⟨rfl, _, SqL.of h9⟩, _, rfl, _, rfl, a, ns, _, rfl, s39.seq hS, h63, fun cv => ?_⟩
      refine ⟨_, _, rfl, rfl, (by show (0 : Int) < 997; decide), _, _, rfl, fun y H10 s10 => ?_⟩
      have t10 := ((s4.trans s7).trans (s8.trans s9)).trans s10
      have h10 := t10 _ _ h3
      refine ⟨_, rfl, _, rfl, _, rfl, pd, _, _, _, rfl, rfl, SqL.of (t10 _ _ hd3), hat, _, rfl, _, rfl, _, rfl, _, rfl, zI (by show 7 <= 1000; decide), fun p7 hp7 => ?_⟩
      have u3 := zF hp7 (.tup [.str y, .str kd, .int (ds.getD i 0), .str kp, .str lp, vi, vo])
      have h7 := u3 _ _ h10
      have lv := hI.inn.length
      have kl := KeepT.lst h7 (.lst (vs ++ [.ref p7]))
      refine ⟨pr, _, _, rfl, rfl, h7, zV (by omega), vs ++ [.ref p7], rs ++ [⟨y, kd, ds.getD i 0, kp, lp, vi, vo⟩], dis ++ [di], dos ++ [dO], same_upd hpr ((s3.trans t10).trans u3) _, zC, Ru.RBn.snoc (hI.mono ((KeepT.of (t10.trans u3)).trans kl)) (r := ⟨y, kd, ds.getD i 0, kp, lp, vi, vo⟩) ⟨p7, rfl, kl _ _ zC⟩ (hdi.mono ((KeepT.of ((s9.trans s10).trans u3)).trans kl)) (hdo.mono ((KeepT.of (s10.trans u3)).trans kl)) ⟨oki, ldi⟩ ⟨oko, ldo⟩, ?_, by simp [hlen], fun k x hx => ?_, _, _, _, _, _, _, _, rfl⟩
      · unfold depths at hdep ⊢
        rw [zl8, hdep, zl14, zl1 hi', zl11, zl1 hi']
        rfl
      · by_cases hk : k < rs.length
        · rw [List.getElem?_append_left hk] at hx
          exact hkd k x hx
        · have hk' : k = rs.length := by
            have := (zl4.mp hx).1
            simp only [List.length_append, List.length_singleton] at this
            omega
          subst hk'
          rw [List.getElem?_append_right (zl3 _)] at hx
          simp at hx
          subst hx
          rw [hlen]
          exact ⟨hkd4, hkp⟩
    · rintro σ' H3 ⟨vs, rs, dis, dos, s3, h3, hI, hdep, hlen, hkd, r⟩
      have e : (((ds.map V.int).length : Nat) : Int).toNat = ds.length := by simp
      rw [e] at hdep hlen
      rw [zl9 (zl3 _)] at hdep
      refine ⟨vs, rs, dis, dos, s3, h3, hI, hdep, fun k x hx => ?_, fun x hx => ?_, r⟩
      · rw [hdep, hlen]
        exact (hkd k x hx).1
      · obtain ⟨k, hk⟩ := List.getElem?_of_mem hx
        exact (hkd k x hk).2
  rintro σ' H3 ⟨vs, rs, dis, dos, s3, h3, hI, hdep, hfit, hkf, o5, o6, o7, o8, o9, o10, o11, rfl⟩
  refine ⟨_, rfl, pr, _, rfl, .inl ⟨SqL.of h3, fun t ht => ?_⟩⟩
  exact q t vs rs dis dos _ (s3.trans (zF ht _)) zC (hI.mono (KeepT.new ht _)) hdep hfit hkf
end
end Chr
namespace Chr
open PySem L2 Mix Gds Rms Dds Ans
open Ru (Wy Dx DxIn DsIn)
def gV : Option Int -> V
  | none => .non
  | some j => .int j
def WayFit (n : Nat) (wy : Str) (g : Option Int) : Prop := (wy = ("stay" : Str) /\ g = none) ∨ ((wy = ("to" : Str) ∨ wy = ("back" : Str)) /\ ∃ j : Int, g = some j /\ 0 <= j /\ j < (n : Int))
def DxFit (n nb : Nat) (d : Dx) : Prop := d.room < n /\ d.way.gl < n /\ d.g.ok nb /\ d.g.ht <= 3 /\ (∀ x ∈ d.dd, x.ok nb) /\ d.dd.length <= 8
theorem WayFit.wy {n : Nat} {w : Str} {g : Option Int} (h : WayFit n w g) (n0 : 0 < n) : ∃ y : Wy, y.tx = w /\ y.gv = gV g /\ y.gl < n := by
  rcases h with ⟨rfl, rfl⟩ | ⟨h, j, rfl, j0, j1⟩
  · exact ⟨.stay, rfl, rfl, n0⟩
  · have e : ((j.toNat : Nat) : Int) = j := Int.toNat_of_nonneg j0
    rcases h with rfl | rfl
    · exact ⟨.to j.toNat, rfl, by show V.int ((j.toNat : Nat) : Int) = V.int j; rw [e], by show j.toNat < n; omega⟩
    · exact ⟨.back j.toNat, rfl, by show V.int ((j.toNat : Nat) : Int) = V.int j; rw [e], by show j.toNat < n; omega⟩
def spDoors (K : PySem.W.Frag) : Sp := fun vs H Q _ => ∃ (a t ps : Addr) (ns sz : List Int) (rs : List Rm) (m : Nat) (e : Int), vs = [.ref a, .int (m : Int), .ref t, .ref ps, .int e] /\ SqL K H a (ns.map V.int) /\ ns.length <= 63 /\ m <= 12 /\ Rooms H t rs /\ 1 <= rs.length /\ rs.length <= 20 /\ SizesIn H ps sz /\ 0 <= e ∧
  ∀ (p : Addr) (dv : List V) (ds : List Dx) (H' : Hp), Same H H' -> H' p = some (.tup dv) -> Al (DxIn H') dv ds -> (∀ d ∈ ds, DxFit rs.length sz.length d) -> ds.length <= 12 -> (ds ≠ [] -> 0 < e) -> Q (.ref p) H'
section
variable {P : Program} {w : World} {K : PySem.W.Frag} {mg : Str -> Option Value} {base : Heap}
theorem sc_law_doors : FnScope ["_law_script", "_law_many", "_law_rooms_here", "_law_sizes", "_law_events", "_law_doors_here", "_law_k", "_law_number", "_law_goal", "_law_way", "_law_keepers", "_law_guard_here", "_law_deeds_here"] ["_law_script", "_law_many", "_law_rooms_here", "_law_sizes", "_law_events"] (defScope s_L_doors) := ⟨rfl, rfl, rfl, by decide +kernel, rfl, by decide +kernel, by decide +kernel⟩
theorem ok_doors {f gm gg gd : Addr} {fd dm dg dd : FuncData} (F : Fun K "_law_doors" "_law_doors" s_L_doors f fd) (Gl_mixed : FnOk P w K mg base CX0 3 gm dm ["_law_script", "_law_k", "_law_salt"] (spMixed K)) (bl_mixed : Binds K dm ["_law_script", "_law_k", "_law_salt"] []) (kl_mixed : KI K gm) (ml_mixed : mg "_law_mixed" = some (.ref gm))
    (Gl_guard : FnOk P w K mg base CX0 3 gg dg ["_law_number", "_law_rooms_here", "_law_boxes", "_law_high"] (spGuard 3)) (bl_guard : Binds K dg ["_law_number", "_law_rooms_here", "_law_boxes", "_law_high"] []) (kl_guard : KI K gg) (ml_guard : mg "_law_guard" = some (.ref gg))
    (Gl_deeds : FnOk P w K mg base CX0 3 gd dd ["_law_script", "_law_k", "_law_salt", "_law_sizes", "_law_events"] (spDeeds K)) (bl_deeds : Binds K dd ["_law_script", "_law_k", "_law_salt", "_law_sizes", "_law_events"] []) (kl_deeds : KI K gd) (ml_deeds : mg "_law_deeds" = some (.ref gd))
    (m_range : mg "range" = none) (m_len : mg "len" = none) (m_tuple : mg "tuple" = none) (m_int : mg "int" = none) : FnOk P w K mg base CX0 4 f fd ["_law_script", "_law_many", "_law_rooms_here", "_law_sizes", "_law_events"] (spDoors K) := by
  refine F.ok sc_law_doors (fun vs H Q E h => ?_) (fun cdv A outer s H vs Q E hr h => ?_)
  · obtain ⟨a, t, ps, ns, sz, rs, m, e, rfl, _⟩ := h
    rfl
  obtain ⟨a, t, ps, ns, sz, rs, m, e, rfl, hS, h63, m12, hR, l1, l12, hsz, e0, q⟩ := h
  refine ⟨_, (zE (zK (i := 5) sc_law_doors.nd rfl (Or.inl rfl) (yK zD))
   (zZ (ps_for PassesOwn.never rfl (pi_range1 rfl m_range (zA (yC op_mul (pv 1) (yA call_int1 rfl m_int PyProof.Rows.boot_int (zA (pe_cmpR op_gt (pv 4) zB (zR _)) zD))) zD)) (yJ (i := 6) sc_law_doors.nd rfl (Or.inl rfl))
   (zE (zK (i := 7) sc_law_doors.nd rfl (Or.inl rfl) (zJ Gl_mixed hr rfl ml_mixed kl_mixed bl_mixed .nil yE (zA (pv 0) (zA (yC yF zB (pv 6)) (zA zB zD)))))
   (zE (zK (i := 8) sc_law_doors.nd rfl (Or.inl rfl) (yC zY (yC yL (pv 7) zB) (zS zN rfl m_len PySem.boot_len (zA (pv 2) zD))))
   (zE (zK (i := 9) sc_law_doors.nd rfl (Or.inl rfl) (yB yU (yK (zA zP (zA zP (zA zP (zA zP (zA zP zD)))))) (yC zY (pv 7) zB) (fun _ _ => rfl)))
   (zE (ps_setC (i := 10) (caps := [(2, "_law_rooms_here")]) rfl sc_law_doors.nd rfl (Or.inl rfl) (show CompSc (defScope s_L_doors) ["_law_script", "_law_many", "_law_rooms_here", "_law_sizes", "_law_events", "_law_doors_here", "_law_k", "_law_number", "_law_goal", "_law_way", "_law_keepers", "_law_guard_here", "_law_deeds_here"] _ _ _ from ⟨rfl, rfl, by decide +kernel, by decide +kernel, by decide +kernel, by decide +kernel, by decide +kernel⟩) (pi_range1 rfl m_range (zA (zS zN rfl m_len PySem.boot_len (zA (pv 2) zD)) zD)) (fun _ _ _ _ _ _ => pifs_one (zL op_ne (yB (r := rIxT K) zH (yB (r := rIxT K) zH (pv 1) (pv 0) (fun _ _ => rfl)) zB (fun _ _ => rfl)) zP (zR _))) (fun _ _ _ _ _ _ => (pv 0)))
   (zZ (yD (pt_cut (PW.pt (pw_and (zL yG (pv 9) zP (zR _)) (yP (zL yG (zS zN rfl m_len PySem.boot_len (zA (pv 10) zD)) zB (zR _))))))
   (zG (zK (i := 9) sc_law_doors.nd rfl (Or.inl rfl) zP))
   zT)
   (zZ (yD (zL yG (pv 9) zP (zR _))
   (zG (zK (i := 8) sc_law_doors.nd rfl (Or.inl rfl) (yB yU (pv 10) (yC zY (pv 8) (zS zN rfl m_len PySem.boot_len (zA (pv 10) zD))) (fun _ _ => rfl))))
   zT)
   (zZ (yD (zL yG (pv 9) zP (zR _))
   (zG (zK (i := 8) sc_law_doors.nd rfl (Or.inl rfl) pe_non))
   zT)
   (zE (zK (i := 11) sc_law_doors.nd rfl (Or.inl rfl) (zW (zA zP zD)))
   (zZ (yD (zL yG (yC zY (yC yL (pv 7) zB) zB) zB (zR _))
   (zG (zK (i := 11) sc_law_doors.nd rfl (Or.inl rfl) (zJ Gl_guard hr rfl ml_guard kl_guard bl_guard .nil yE (zA (zJ Gl_mixed hr rfl ml_mixed kl_mixed bl_mixed .nil yE (zA (pv 0) (zA (yC yF zB (pv 6)) (zA zB zD)))) (zA (zS zN rfl m_len PySem.boot_len (zA (pv 2) zD)) (zA (zS zN rfl m_len PySem.boot_len (zA (pv 3) zD)) (zA zB zD)))))))
   zT)
   (zE (zK (i := 12) sc_law_doors.nd rfl (Or.inl rfl) (zJ Gl_deeds hr rfl ml_deeds kl_deeds bl_deeds .nil yE (zA (pv 0) (zA (yC yF zB (pv 6)) (zA zB (zA (pv 3) (zA (pv 4) zD)))))))
   (zG (yI (pe_bm PySem.F.plainAttrs_list PySem.F.slot_list_append PySem.F.type_list_append yH (pv 5) (zA (zW (zA (yC zY (zJ Gl_mixed hr rfl ml_mixed kl_mixed bl_mixed .nil yE (zA (pv 0) (zA (yC yF zB (pv 6)) (zA zB zD)))) (zS zN rfl m_len PySem.boot_len (zA (pv 2) zD))) (zA (yC zY (yC zY (yC yL (pv 7) zB) zB) (pv 4)) (zA (pv 11) (zA (pv 12) (zA (pv 9) (zA (pv 8) zD))))))) zD)))))))))))))))
   (zG (zO (yA zX rfl m_tuple PyProof.Rows.boot_tuple (zA (pv 5) zD)))))), ?_⟩
  obtain ⟨rv, htr, hrs⟩ := hR
  have lrv := hrs.length
  refine ⟨Nat.zero_le _, fun pr hpr => ?_⟩
  have s1 := zF hpr (.lst [])
  refine ⟨fun σ' H' => ∃ (vs : List V) (ds : List Dx), Same H H' /\ H' pr = some (.lst vs) /\ Al (DxIn H') vs ds /\ (∀ d ∈ ds, DxFit rs.length sz.length d) /\ ds.length <= 12 /\ (ds ≠ [] -> 0 < e) /\ ∃ o6 o7 o8 o9 o10 o11 o12 : Option V, σ' = [some (.ref a), some (.int (m : Int)), some (.ref t), some (.ref ps), some (.int e), some (.ref pr), o6, o7, o8, o9, o10, o11, o12], ?_, ?_⟩
  · have hN : ((m : Int) * (if decide (0 < e) = true then 1 else 0)).toNat <= m /\ (0 < ((m : Int) * (if decide (0 < e) = true then 1 else 0)).toNat -> 0 < e) /\ ((m : Int) * (if decide (0 < e) = true then 1 else 0)) <= 12 /\ 0 <= ((m : Int) * (if decide (0 < e) = true then 1 else 0)) := by
      by_cases c : 0 < e
      · rw [if_pos (decide_eq_true c)]
        exact ⟨by omega, fun _ => c, by omega, by omega⟩
      · rw [if_neg (by rw [decide_eq_false c]; exact zl6)]
        exact ⟨by omega, fun z => by omega, by omega, by omega⟩
    refine ⟨_, rfl, _, rfl, _, _, rfl, rfl, .inr ⟨_, rfl, _, _, rfl, rfl, mulIn (by omega) (by omega), _, rfl, by omega, ?_, ?_⟩⟩
    · exact Int.lt_of_le_of_lt hN.2.2.1 (by decide)
    refine for_range (fun i σ' H' => ∃ (vs : List V) (ds : List Dx), Same H H' /\ H' pr = some (.lst vs) /\ Al (DxIn H') vs ds /\ (∀ d ∈ ds, DxFit rs.length sz.length d) /\ ds.length = i /\ ∃ o6 o7 o8 o9 o10 o11 o12 : Option V, σ' = [some (.ref a), some (.int (m : Int)), some (.ref t), some (.ref ps), some (.int e), some (.ref pr), o6, o7, o8, o9, o10, o11, o12])
      ⟨[], [], s1, zC, .nil, (fun d h => by cases h), rfl, none, none, none, none, none, none, none, rfl⟩ ?_ (fun σ' H' ⟨vs, ds, h1, h2, h3, h4, h5, h6⟩ => ⟨vs, ds, h1, h2, h3, h4, by have := hN.1; omega, (fun z => hN.2.1 (by have := List.length_pos_iff.mpr z; omega)), h6⟩)
    rintro i σ' H3 hi ⟨vs, ds, s3, h3, hA, hfit, hlen, o6, o7, o8, o9, o10, o11, o12, rfl⟩
    have him : i < 12 := by
      have := hN.1
      omega
    have ep : 0 < e := hN.2.1 (by omega)
    refine ⟨_, rfl, _, rfl, _, _, rfl, rfl, a, ns, _, _, rfl, s3.seq hS, h63, ⟨by omega, by omega⟩, ⟨by decide, by decide⟩, fun x x0 x1 => ?_⟩
    have lp : (0 : Int) < ((rv.length : Nat) : Int) := by omega
    have g00 := Int.emod_nonneg (x / 15) (show ((rv.length : Nat) : Int) ≠ 0 by omega)
    have g01 := Int.emod_lt_of_pos (x / 15) lp
    refine ⟨_, rfl, _, _, rfl, rfl, ⟨by decide, by decide⟩, _, rfl, t, _, rfl, .inr (SqT.of (s3 _ _ htr)), _, _, rfl, rfl, lp, ?_⟩
    obtain ⟨w0, hw0, hatw⟩ := str_at (zs := [("to" : Str), "to", "back", "back", "stay"]) (i := x % 5) (by omega) (by show _ < (5 : Int); omega)
    refine ⟨zI (by show 5 <= 1000; decide), fun p5 hp5 => ⟨_, rfl, _, _, rfl, rfl, (by show (0 : Int) < 5; decide), p5, _, _, _, rfl, rfl, SqL.of zC, hatw, ?_⟩⟩
    have s5 := zF hp5 (.lst [V.str "to", V.str "to", V.str "back", V.str "back", V.str "stay"])
    generalize hH5 : upd H3 p5 (.lst [V.str "to", V.str "to", V.str "back", V.str "back", V.str "stay"]) = H5 at s5 ⊢
    have s35 := s3.trans s5
    refine ⟨_, rfl, t, _, rfl, .inr (SqT.of (s35 _ _ htr)), _, rfl, by omega, by omega, ?_⟩
    refine comp_range (fun i' acc H' => H' = H5 /\ ∃ js : List Nat, acc = natsV js /\ js.length <= i' /\ (∀ j ∈ js, j < rs.length)) ⟨rfl, [], rfl, zl3 _, fun j z => by cases z⟩ (fun i' acc H' hi2 ⟨e1, js, e2, e3, e4⟩ => ?_) (fun acc H' ⟨e1, js, e2, e3, e4⟩ p2 hp2 => ?_)
    · subst e1 e2
      have hj : i' < rs.length := by omega
      obtain ⟨v2, hv2, a2, rfl, ha2⟩ := hrs.get (zl1 hj)
      have hat2 : atI rv (0 + (i' : Int)) = some (.ref a2) := by
        rw [Int.zero_add]
        exact yQ hv2
      refine ⟨_, rfl, _, rfl, t, _, _, _, rfl, rfl, SqT.of (s35 _ _ htr), hat2, a2, _, _, _, rfl, rfl, SqT.of (s35 _ _ ha2), rfl, rfl, _, rfl, ?_⟩
      refine itB (fun c => ?_) (fun c => ⟨rfl, js, rfl, by omega, e4⟩)
      refine ⟨_, rfl, zV (by rw [zU]; omega), rfl, js ++ [i'], ?_, by simp; omega, fun j z => ?_⟩
      · rw [<- natsV_app, Int.zero_add]
      · rcases zl18.mp z with z | z
        · exact e4 j z
        · rw [zl10.mp z]
          exact hj
    subst e1 e2
    have s6 := zF hp2 (.lst (natsV js))
    have h6 : upd H' p2 (.lst (natsV js)) p2 = some (.lst (natsV js)) := zC
    generalize hH6 : upd H' p2 (.lst (natsV js)) = H6 at s6 h6 ⊢
    have s36 := s35.trans s6
    have ln := zU js
    refine ⟨fun σ' H' => H' = H6 /\ ∃ wy : Str, (wy = "to" ∨ wy = "back" ∨ wy = "stay") /\ (wy = "back" -> js ≠ []) /\ σ' = [some (.ref a), some (.int (m : Int)), some (.ref t), some (.ref ps), some (.int e), some (.ref pr), some (.int (0 + (i : Int))), some (.int x), some (.int (x / 15 % ((rv.length : Nat) : Int))), some (.str wy), some (.ref p2), o11, o12], ?_, ?_⟩
    · refine ⟨fun c H' => H' = H6 /\ (c = false -> w0 = "back" -> js ≠ []), ?_, ?_⟩
      · refine ⟨_, rfl, rfl, _, rfl, itB (fun c => ?_) (fun c => ⟨rfl, fun _ z => ?_⟩)⟩
        · exact ⟨_, rfl, p2, _, rfl, .inl (SqL.of h6), rfl, _, rfl, rfl, fun z _ z2 => by
            subst z2
            exact of_decide_eq_false z rfl⟩
        · exact absurd (by rw [z]) (of_decide_eq_false c)
      rintro c H' ⟨rfl, hc⟩
      refine itB (fun c => ?_) (fun c => ?_)
      · exact ⟨rfl, _, .inl rfl, fun z => absurd z (by decide), rfl⟩
      · refine ⟨rfl, w0, ?_, hc c, rfl⟩
        simp only [List.mem_cons, List.not_mem_nil, or_false] at hw0
        rcases hw0 with h | h | h | h | h
        · exact .inl h
        · exact .inl h
        · exact .inr (.inl h)
        · exact .inr (.inl h)
        · exact .inr (.inr h)
    rintro σ7 H7 ⟨rfl, wy, hwy, hne, rfl⟩
    refine ⟨fun σ' H' => H' = H7 /\ ∃ g : Int, 0 <= g /\ g < (rs.length : Int) /\ σ' = [some (.ref a), some (.int (m : Int)), some (.ref t), some (.ref ps), some (.int e), some (.ref pr), some (.int (0 + (i : Int))), some (.int x), some (.int g), some (.str wy), some (.ref p2), o11, o12], ?_, ?_⟩
    · refine ⟨_, rfl, rfl, _, rfl, itB (fun c => ?_) (fun c => ⟨rfl, _, g00, by omega, rfl⟩)⟩
      have c' : V.str wy = V.str "back" := of_decide_eq_true c
      have wb : wy = "back" := by injection c'
      have ljs : 0 < js.length := List.length_pos_iff.mpr (hne wb)
      obtain ⟨pk, hpm, hpk⟩ := natsV_at (os := js) (i := (x / 15 % ((rv.length : Nat) : Int)) % (((natsV js).length : Nat) : Int)) (Int.emod_nonneg _ (by omega)) (by
          have := Int.emod_lt_of_pos (x / 15 % ((rv.length : Nat) : Int)) (show (0 : Int) < (((natsV js).length : Nat) : Int) by omega)
          omega)
      refine ⟨_, rfl, _, rfl, _, rfl, p2, _, rfl, .inl (SqL.of h6), _, _, rfl, rfl, (by show (0 : Int) < (((natsV js).length : Nat) : Int); omega), p2, _, _, _, rfl, rfl, SqL.of h6, hpk, rfl, _, by omega, ?_, rfl⟩
      have := e4 pk hpm
      omega
    rintro σ8 H8 ⟨rfl, g, g0, g1, rfl⟩
    refine ⟨fun σ' H' => H' = H8 /\ ∃ gv : Option Int, WayFit rs.length wy gv /\ σ' = [some (.ref a), some (.int (m : Int)), some (.ref t), some (.ref ps), some (.int e), some (.ref pr), some (.int (0 + (i : Int))), some (.int x), some (gV gv), some (.str wy), some (.ref p2), o11, o12], ?_, ?_⟩
    · refine ⟨_, rfl, rfl, _, rfl, itB (fun c => ?_) (fun c => ?_)⟩
      · have c' : V.str wy = V.str "stay" := of_decide_eq_true c
        exact ⟨rfl, none, .inl ⟨by injection c', rfl⟩, rfl⟩
      · refine ⟨rfl, some g, .inr ⟨?_, g, rfl, g0, g1⟩, rfl⟩
        rcases hwy with h | h | h
        · exact .inl h
        · exact .inr h
        · exact absurd (by rw [h]) (of_decide_eq_false c)
    rintro σ9 H9 ⟨rfl, gv, hgv, rfl⟩
    refine ⟨zI (by show 1 <= 1000; decide), fun p9 hp9 => ?_⟩
    have s9 := zF hp9 (.tup [V.str "yes"])
    have g9 : GdIn (upd H9 p9 (.tup [V.str "yes"])) (.ref p9) .yes := .yes zC
    generalize hH10 : upd H9 p9 (.tup [V.str "yes"]) = H10 at s9 g9 ⊢
    have s39 := s36.trans s9
    refine ⟨fun σ' H' => Same H10 H' /\ ∃ (gd : V) (g : Gd), GdIn H' gd g /\ g.ok sz.length /\ g.ht <= 3 /\ σ' = [some (.ref a), some (.int (m : Int)), some (.ref t), some (.ref ps), some (.int e), some (.ref pr), some (.int (0 + (i : Int))), some (.int x), some (gV gv), some (.str wy), some (.ref p2), some gd, o12], ?_, ?_⟩
    · refine ⟨_, rfl, _, _, rfl, rfl, ⟨by decide, by decide⟩, _, _, rfl, rfl, (by show (0 : Int) < 2; decide), rfl, _, rfl, itB (fun c => ?_) (fun c => ⟨Same.refl _, _, _, g9, trivial, (by show 1 <= 3; decide), rfl⟩)⟩
      refine ⟨_, rfl, _, rfl, _, _, rfl, rfl, a, ns, _, _, rfl, s39.seq hS, h63, ⟨by omega, by omega⟩, ⟨by decide, by decide⟩, fun y y0 y1 => ?_⟩
      exact ⟨_, rfl, t, _, rfl, .inr (SqT.of (s39 _ _ htr)), _, rfl, ps, _, rfl, .inl (SqL.of (hsz.mono s39).1), _, _, _, sz.length, (by rw [zl0]; rfl), lp, by decide, by decide, fun v g H' s' hg gok ght => ⟨s', v, g, hg, gok, (by omega), rfl⟩⟩
    rintro σ10 H11 ⟨s10, gd, gg, hgd, gok, ght, rfl⟩
    have s311 := s39.trans s10
    refine ⟨_, rfl, _, rfl, _, _, rfl, rfl, _, rfl, _, rfl, a, ps, ns, sz, _, _, _, rfl, s311.seq hS, h63, ⟨by omega, by omega⟩, ⟨by decide, by decide⟩, hsz.mono s311, fun vd dd H12 s12 hdd okd ldd => ?_⟩
    have t12 : Same H3 H12 := (((s5.trans s6).trans s9).trans s10).trans s12
    have s312 := s3.trans t12
    have h12 := t12 _ _ h3
    refine ⟨_, rfl, .inl ⟨rfl, _, SqL.of h12⟩, _, rfl, _, rfl, _, _, rfl, rfl, a, ns, _, _, rfl, s312.seq hS, h63, ⟨by omega, by omega⟩, ⟨by decide, by decide⟩, fun y y0 y1 => ?_⟩
    refine ⟨_, rfl, t, _, rfl, .inr (SqT.of (s312 _ _ htr)), _, _, rfl, rfl, lp, ?_⟩
    refine ⟨_, rfl, _, _, rfl, rfl, ⟨by decide, by decide⟩, _, _, rfl, rfl, (by show (0 : Int) < 3; decide), _, rfl, _, _, rfl, rfl, (by show (0 : Int) < e; exact ep), _, rfl, _, rfl, _, rfl, _, rfl, zI (by show 6 <= 1000; decide), fun p13 hp13 => ?_⟩
    obtain ⟨wy2, w1, w2, w3⟩ := hgv.wy (show 0 < rs.length by omega)
    have y2 := Int.emod_nonneg y (show ((rv.length : Nat) : Int) ≠ 0 by omega)
    have y3 := Int.emod_lt_of_pos y lp
    have u13 := zF hp13 (.tup [.int (y % ((rv.length : Nat) : Int)), .int (x / 5 % 3 % e), gd, vd, .str wy, gV gv])
    have i13 : upd H12 p13 (.tup [.int (y % ((rv.length : Nat) : Int)), .int (x / 5 % 3 % e), gd, vd, .str wy, gV gv]) p13 = some (.tup [.int (((y % ((rv.length : Nat) : Int)).toNat : Nat) : Int), .int (x / 5 % 3 % e), gd, vd, .str wy2.tx, wy2.gv]) := by
      rw [zC, w1, w2, Int.toNat_of_nonneg y2]
    have h13 := u13 _ _ h12
    generalize upd H12 p13 (.tup [.int (y % ((rv.length : Nat) : Int)), .int (x / 5 % 3 % e), gd, vd, .str wy, gV gv]) = H13 at u13 i13 h13 ⊢
    have lv := hA.length
    have kl := KeepT.lst h13 (.lst (vs ++ [.ref p13]))
    refine ⟨pr, _, _, rfl, rfl, h13, zV (by omega), vs ++ [.ref p13], ds ++ [⟨(y % ((rv.length : Nat) : Int)).toNat, x / 5 % 3 % e, gg, dd, wy2⟩], same_upd hpr (s312.trans u13) _, zC, Al.snoc (hA.mono fun _ _ z => z.mono ((KeepT.of (t12.trans u13)).trans kl)) ⟨p13, gd, vd, rfl, kl _ _ i13, hgd.mono ((KeepT.of (s12.trans u13)).trans kl), hdd.mono ((KeepT.of u13).trans kl)⟩, fun d hd => ?_, by simp [hlen], _, _, _, _, _, _, _, rfl⟩
    rcases zl18.mp hd with hd | hd
    · exact hfit d hd
    · rw [zl10.mp hd]
      exact ⟨by show (y % ((rv.length : Nat) : Int)).toNat < rs.length; omega, w3, gok, ght, okd, ldd⟩
  rintro σ' H3 ⟨vs, ds, s3, h3, hA, hfit, hlen, hev, o6, o7, o8, o9, o10, o11, o12, rfl⟩
  refine ⟨_, rfl, pr, _, rfl, .inl ⟨SqL.of h3, fun p hp => ?_⟩⟩
  exact q p vs ds _ (s3.trans (zF hp _)) zC (hA.mono fun _ _ z => z.mono (KeepT.new hp _)) hfit hlen hev
end
end Chr
namespace Chr
open PySem L2 Mix Gds Rms Dds Ans
open Ru (Wy Dx DxIn DsIn ChD ChIn ChOk RmD)
theorem int_at {zs : List Int} {i : Int} (h0 : 0 <= i) (h1 : i < (zs.length : Int)) : ∃ z ∈ zs, atI (zs.map V.int) i = some (.int z) := by
  obtain ⟨v, hv, e⟩ := atI_some (xs := zs.map V.int) (i := i) h0 (by rw [zl0]; exact h1)
  obtain ⟨z, hz, rfl⟩ := zl19.mp hv
  exact ⟨z, hz, e⟩
def BsIn (H : Hp) (v : V) (z : Int × Int) : Prop := ∃ (a : Addr) (nm : Str), v = .ref a /\ H a = some (.tup [.str nm, .int z.1, .int z.2])
theorem BsIn.mono {H H' : Hp} {v : V} {r : Int × Int} (x : BsIn H v r) (k : KeepT H H') : BsIn H' v r := by
  obtain ⟨a, nm, e, h⟩ := x
  exact ⟨a, nm, e, k _ _ h⟩
theorem al_sz {H : Hp} {vs : List V} {bs : List (Int × Int)} (x : Al (BsIn H) vs bs) : Al (Ru.BxIn H) vs (bs.map (·.1)) := by
  induction x with
  | nil => exact .nil
  | cons h _ ih =>
    obtain ⟨a, nm, e, h⟩ := h
    exact .cons ⟨a, _, _, e, h⟩ ih
def Cha (H : Hp) (p : Addr) (c : ChD) (bs : List (Int × Int)) (ne : Nat) : Prop := ∃ (pb pn t pd : Addr) (bv nv rv dv : List V), H p = some (.tup [.str c.od, .int c.lc, .int (c.tn : Int), .ref pb, .ref pn, .ref t, .ref pd]) /\ H pb = some (.tup bv) /\ Al (BsIn H) bv bs /\ H pn = some (.tup nv) /\ nv.length = ne /\ H t = some (.tup rv) /\ RmsIn H rv c.rs /\ RmD H c.rs c.di c.dO /\ H pd = some (.tup dv) /\ Al (DxIn H) dv c.ds
theorem Cha.mono {H H' : Hp} {p : Addr} {c : ChD} {bs : List (Int × Int)} {ne : Nat} (x : Cha H p c bs ne) (k : KeepT H H') : Cha H' p c bs ne := by
  obtain ⟨pb, pn, t, pd, bv, nv, rv, dv, h1, h2, h3, h4, h5, h6, h7, h8, h9, h10⟩ := x
  exact ⟨pb, pn, t, pd, bv, nv, rv, dv, k _ _ h1, k _ _ h2, h3.mono fun _ _ z => z.mono k, k _ _ h4, h5, k _ _ h6, h7.mono k, h8.mono k, k _ _ h9, h10.mono fun _ _ z => z.mono k⟩
structure ChaOk (c : ChD) (bs : List (Int × Int)) (ne : Nat) : Prop where
  ok : ChOk c
  sz : c.sz = bs.map (·.1)
  st : ∀ b ∈ bs, 0 <= b.2 /\ b.2 < b.1
  fit : Fit c.rs
  low : Low (depths c.rs)
  l10 : c.rs.length <= 20
  g : ∀ d ∈ c.ds, d.g.ok c.sz.length /\ d.g.ht <= 3
  l5 : c.lb <= 5
  t4 : 1 <= c.tn /\ c.tn <= 4
  kp : ∀ r ∈ c.rs, KpFit r
  ev : c.ds ≠ [] -> 0 < ne
  lc : c.lc = (c.lb : Int)
theorem Cha.ch {H : Hp} {p : Addr} {c : ChD} {bs : List (Int × Int)} {ne : Nat} (x : Cha H p c bs ne) (o : ChaOk c bs ne) (m : Nat) : ChIn H p { c with lb := m } := by
  obtain ⟨pb, pn, t, pd, bv, nv, rv, dv, h1, h2, h3, h4, h5, h6, h7, h8, h9, h10⟩ := x
  exact ⟨pb, t, pd, _, bv, dv, h1, h2, (by have z := al_sz h3; rw [<- o.sz] at z; exact z), ⟨rv, h6, h7⟩, h8, h9, h10⟩
def spChart (K : PySem.W.Frag) : Sp := fun vs H Q _ => ∃ (a : Addr) (ns : List Int), vs = [.ref a] /\ SqL K H a (ns.map V.int) /\ ns.length <= 63 ∧
  ∀ (p : Addr) (c : ChD) (bs : List (Int × Int)) (ne : Nat) (H' : Hp), Same H H' -> Cha H' p c bs ne -> ChaOk c bs ne -> Q (.ref p) H'
section
variable {P : Program} {w : World} {K : PySem.W.Frag} {mg : Str -> Option Value} {base : Heap}
abbrev chSc : Scope := ⟨.function, [("_law_script", .cell), ("_law_many", .local), ("_law_events", .local), ("_law_boxes", .local), ("_law_k", .local), ("_law_size", .local), ("_law_sizes", .local), ("_law_names", .local), ("_law_rooms_here", .local), ("_law_count", .local), ("_law_doors_here", .local), ("_law_order", .local), ("_law_letters", .local), ("_law_turns", .local), ("_law_mixed", .globalImplicit), ("range", .globalImplicit), ("_law_cell_at", .globalImplicit), ("_law_name", .globalImplicit), ("tuple", .globalImplicit), ("_law_rooms", .globalImplicit), ("_law_depths", .globalImplicit), ("_law_doors", .globalImplicit)], false, false, (defScope s_L_chart).more⟩
theorem chSc_eq : defScope s_L_chart = chSc := by rfl
theorem sc_law_chart : FnScope ["_law_script", "_law_many", "_law_events", "_law_boxes", "_law_k", "_law_size", "_law_sizes", "_law_names", "_law_rooms_here", "_law_count", "_law_doors_here", "_law_order", "_law_letters", "_law_turns"] ["_law_script"] chSc := ⟨rfl, rfl, rfl, by decide +kernel, rfl, by decide +kernel, by decide +kernel⟩
theorem ok_chart {n : Nat} {f gm gc gn ge gr gd : Addr} {fd dm dc dn de dr dd : FuncData} (F : Fun K "_law_chart" "_law_chart" s_L_chart f fd) (Gl_mixed : FnOk P w K mg base CX0 n gm dm ["_law_script", "_law_k", "_law_salt"] (spMixed K)) (bl_mixed : Binds K dm ["_law_script", "_law_k", "_law_salt"] []) (kl_mixed : KI K gm) (ml_mixed : mg "_law_mixed" = some (.ref gm))
    (Gl_cell_at : FnOk P w K mg base CX0 n gc dc ["_law_script", "_law_k"] (spCell K)) (bl_cell_at : Binds K dc ["_law_script", "_law_k"] []) (kl_cell_at : KI K gc) (ml_cell_at : mg "_law_cell_at" = some (.ref gc))
    (Gl_name : FnOk P w K mg base CX0 n gn dn ["_law_k", "_law_number"] spName) (bl_name : Binds K dn ["_law_k", "_law_number"] []) (kl_name : KI K gn) (ml_name : mg "_law_name" = some (.ref gn))
    (Gl_depths : FnOk P w K mg base CX0 n ge de ["_law_script", "_law_many"] (spDepths K)) (bl_depths : Binds K de ["_law_script", "_law_many"] []) (kl_depths : KI K ge) (ml_depths : mg "_law_depths" = some (.ref ge))
    (Gl_rooms : FnOk P w K mg base CX0 n gr dr ["_law_script", "_law_depths_here", "_law_sizes", "_law_events"] (spRooms K)) (bl_rooms : Binds K dr ["_law_script", "_law_depths_here", "_law_sizes", "_law_events"] []) (kl_rooms : KI K gr) (ml_rooms : mg "_law_rooms" = some (.ref gr))
    (Gl_doors : FnOk P w K mg base CX0 n gd dd ["_law_script", "_law_many", "_law_rooms_here", "_law_sizes", "_law_events"] (spDoors K)) (bl_doors : Binds K dd ["_law_script", "_law_many", "_law_rooms_here", "_law_sizes", "_law_events"] []) (kl_doors : KI K gd) (ml_doors : mg "_law_doors" = some (.ref gd))
    (m_range : mg "range" = none) (m_tuple : mg "tuple" = none) : FnOk P w K mg base CX0 (n + 1) f fd ["_law_script"] (spChart K) := by
  refine okS chSc chSc_eq F sc_law_chart (fun vs H Q E h => ?_) (fun cdv A outer s H vs Q E hr h => ?_)
  · obtain ⟨a, ns, rfl, _⟩ := h
    rfl
  obtain ⟨a, ns, rfl, hS, h63, q⟩ := h
  refine ⟨_, RSs.p (r_cons (r_st (zK (i := 1) sc_law_chart.nd rfl (Or.inl rfl) (yC yF zB (yC yL (yC yF (yC op_mul (yC zY (zJ Gl_mixed hr rfl ml_mixed kl_mixed bl_mixed .nil yE (zA (pv 0) (zA zB (zA zB zD)))) zB) zB) zB) zB))))
    (r_cut (r_st (yD (zL yG (yC zY (zJ Gl_mixed hr rfl ml_mixed kl_mixed bl_mixed .nil yE (zA (pv 0) (zA zB (zA zB zD)))) zB) zB (zR _)) (zG (zK (i := 1) sc_law_chart.nd rfl (Or.inl rfl) (yC yF zB (yC zY (zJ Gl_mixed hr rfl ml_mixed kl_mixed bl_mixed .nil yE (zA (pv 0) (zA zB (zA zB zD)))) zB)))) zT))
   (r_cons (r_set (i := 2) sc_law_chart.nd rfl (Or.inl rfl) (r_ixL (r_lst (ra_con (vs := [.int 0, .int 1, .int 1, .int 2, .int 2, .int 2, .int 3, .int 3]) (by rfl))) (yC zY (zJ Gl_mixed hr rfl ml_mixed kl_mixed bl_mixed .nil yE (zA (pv 0) (zA zB (zA zB zD)))) zB) (fun _ _ => rfl)))
   (r_cons (r_st (zK (i := 3) sc_law_chart.nd rfl (Or.inl rfl) (yK zD)))
    (r_cut (r_st (ps_for PassesOwn.never rfl (pi_range1 rfl m_range (zA (yC zY (zJ Gl_mixed hr rfl ml_mixed kl_mixed bl_mixed .nil yE (zA (pv 0) (zA zB (zA zB zD)))) zB) zD)) (yJ (i := 4) sc_law_chart.nd rfl (Or.inl rfl))
   (zE (zK (i := 5) sc_law_chart.nd rfl (Or.inl rfl) (yC yF zB (yC zY (zJ Gl_mixed hr rfl ml_mixed kl_mixed bl_mixed .nil yE (zA (pv 0) (zA zB (zA (yC yF zB (pv 4)) zD)))) zB)))
   (zZ (yD (zL yG (yC zY (zJ Gl_mixed hr rfl ml_mixed kl_mixed bl_mixed .nil yE (zA (pv 0) (zA zB (zA (yC yF zB (pv 4)) zD)))) zB) zB (zR _))
   (zG (zK (i := 5) sc_law_chart.nd rfl (Or.inl rfl) (yC yF zB (yC zY (zJ Gl_cell_at hr rfl ml_cell_at kl_cell_at bl_cell_at .nil yE (zA (pv 0) (zA zB zD))) (yC op_pow zB zB)))))
   zT)
   (zG (yI (pe_bm PySem.F.plainAttrs_list PySem.F.slot_list_append PySem.F.type_list_append yH (pv 3) (zA (zW (zA (zJ Gl_name hr rfl ml_name kl_name bl_name .nil yE (zA (pv 4) (zA (yC zY (zJ Gl_cell_at hr rfl ml_cell_at kl_cell_at bl_cell_at .nil yE (zA (pv 0) (zA zB zD))) zB) zD))) (zA (pv 5) (zA (yC zY (zJ Gl_mixed hr rfl ml_mixed kl_mixed bl_mixed .nil yE (zA (pv 0) (zA zB (zA (yC yF zB (pv 4)) zD)))) (pv 5)) zD)))) zD))))))))
   (r_cons (r_st (ps_setC (i := 6) (caps := []) rfl sc_law_chart.nd rfl (Or.inl rfl) (show CompSc chSc ["_law_script", "_law_many", "_law_events", "_law_boxes", "_law_k", "_law_size", "_law_sizes", "_law_names", "_law_rooms_here", "_law_count", "_law_doors_here", "_law_order", "_law_letters", "_law_turns"] _ _ _ from ⟨rfl, rfl, by decide +kernel, by decide +kernel, by decide +kernel, by decide +kernel, by decide +kernel⟩) (yM (pv 3)) (fun _ _ _ _ _ _ => pifs_nil) (fun _ _ _ _ _ _ => (yB (r := rIxT K) zH (pv 0) zB (fun _ _ => rfl)))))
   (r_cons (r_st (zK (i := 7) sc_law_chart.nd rfl (Or.inl rfl) (yA zX rfl m_tuple PyProof.Rows.boot_tuple (zA (yT (caps := [(0, "_law_script")]) rfl (show CompSc chSc ["_law_script", "_law_many", "_law_events", "_law_boxes", "_law_k", "_law_size", "_law_sizes", "_law_names", "_law_rooms_here", "_law_count", "_law_doors_here", "_law_order", "_law_letters", "_law_turns"] _ _ _ from ⟨rfl, rfl, by decide +kernel, by decide +kernel, by decide +kernel, by decide +kernel, by decide +kernel⟩) (pi_range1 rfl m_range (zA (pv 2) zD)) (fun _ _ _ _ _ _ => pifs_nil) (fun _ _ _ _ _ _ => (zJ Gl_name hr rfl ml_name kl_name bl_name .nil yE (zA (pv 0) (zA (yC zY (zJ Gl_cell_at hr rfl ml_cell_at kl_cell_at bl_cell_at .nil yE (zA (pv 1) (zA zB zD))) zB) zD))))) zD))))
   (r_cons (r_st (zK (i := 8) sc_law_chart.nd rfl (Or.inl rfl) (zJ Gl_rooms hr rfl ml_rooms kl_rooms bl_rooms .nil yE (zA (pv 0) (zA (zJ Gl_depths hr rfl ml_depths kl_depths bl_depths .nil yE (zA (pv 0) (zA (pv 1) zD))) (zA (pv 6) (zA (pv 2) zD)))))))
   (r_cons (r_set (i := 9) sc_law_chart.nd rfl (Or.inl rfl) (r_ixL (r_lst (ra_con (vs := [.int 4, .int 5, .int 6, .int 7, .int 8, .int 9, .int 10, .int 6, .int 7, .int 8, .int 2, .int 0]) (by rfl))) (yC zY (zJ Gl_mixed hr rfl ml_mixed kl_mixed bl_mixed .nil yE (zA (pv 0) (zA zB (zA zB zD)))) zB) (fun _ _ => rfl)))
   (r_cons (r_st (zK (i := 10) sc_law_chart.nd rfl (Or.inl rfl) (zJ Gl_doors hr rfl ml_doors kl_doors bl_doors .nil yE (zA (pv 0) (zA (pv 9) (zA (pv 8) (zA (pv 6) (zA (pv 2) zD))))))))
   (r_cons (r_set (i := 11) sc_law_chart.nd rfl (Or.inl rfl) (r_ixL (r_lst (ra_con (vs := [.str "inner", .str "outer"]) (by rfl))) (yC zY (zJ Gl_mixed hr rfl ml_mixed kl_mixed bl_mixed .nil yE (zA (pv 0) (zA zB (zA zB zD)))) zB) (fun _ _ => rfl)))
   (r_cons (r_set (i := 12) sc_law_chart.nd rfl (Or.inl rfl) (r_ixL (r_lst (ra_con (vs := [.int 0, .int 1, .int 2, .int 3, .int 2, .int 4, .int 3, .int 5]) (by rfl))) (yC zY (zJ Gl_mixed hr rfl ml_mixed kl_mixed bl_mixed .nil yE (zA (pv 0) (zA zB (zA zB zD)))) zB) (fun _ _ => rfl)))
   (r_cons (r_set (i := 13) sc_law_chart.nd rfl (Or.inl rfl) (r_ixL (r_lst (ra_con (vs := [.int 1, .int 2, .int 3, .int 4, .int 3, .int 4, .int 2, .int 4]) (by rfl))) (yC zY (zJ Gl_mixed hr rfl ml_mixed kl_mixed bl_mixed .nil yE (zA (pv 0) (zA zB (zA zB zD)))) zB) (fun _ _ => rfl)))
   (r_one (r_st (zO (zW (zA (pv 11) (zA (pv 12) (zA (pv 13) (zA (yA zX rfl m_tuple PyProof.Rows.boot_tuple (zA (pv 3) zD)) (zA (pv 7) (zA (pv 8) (zA (pv 10) zD)))))))))))))))))))))))), ?_⟩
  refine ⟨_, rfl, a, ns, _, _, rfl, hS, h63, ⟨by decide, by decide⟩, ⟨by decide, by decide⟩, fun x x0 x1 => ⟨_, _, rfl, rfl, (by show (0 : Int) < 16; decide), _, _, rfl, rfl, mulIn (by omega) (by omega), _, _, rfl, rfl, _, _, rfl, rfl, ⟨by decide, by decide⟩, _, _, rfl, rfl, ?_⟩⟩
  refine ⟨fun σ' H' => H = H' /\ ∃ m : Nat, 1 <= m /\ m <= 20 /\ σ' = [some (.ref a), some (.int (m : Int)), none, none, none, none, none, none, none, none, none, none, none, none], ?_, ?_⟩
  · refine ⟨_, rfl, a, ns, _, _, rfl, hS, h63, ⟨by decide, by decide⟩, ⟨by decide, by decide⟩, fun y y0 y1 => ⟨_, _, rfl, rfl, (by show (0 : Int) < 16; decide), rfl, _, rfl, itB (fun z => ?_) (fun z => ?_)⟩⟩
    · exact ⟨_, rfl, a, ns, _, _, rfl, hS, h63, ⟨by decide, by decide⟩, ⟨by decide, by decide⟩, fun v v0 v1 => ⟨_, _, rfl, rfl, (by show (0 : Int) < 10; decide), _, _, rfl, rfl, rfl, (11 + v % 10).toNat, by omega, by omega, by rw [Int.toNat_of_nonneg (by omega)]; rfl⟩⟩
    · exact ⟨rfl, (1 + (x % 16 * 9 + 14) / 16).toNat, by omega, by omega, by rw [Int.toNat_of_nonneg (by omega)]; rfl⟩
  rintro _ _ ⟨rfl, m, m1, m10, rfl⟩
  refine ⟨zI (by show 8 <= 1000; decide), fun p1 hp1 => ?_⟩
  have s1 := zF hp1 (.lst [V.int 0, V.int 1, V.int 1, V.int 2, V.int 2, V.int 2, V.int 3, V.int 3])
  refine ⟨_, rfl, a, ns, _, _, rfl, s1.seq hS, h63, ⟨by decide, by decide⟩, ⟨by decide, by decide⟩, fun x2 x20 x21 => ?_⟩
  obtain ⟨e, he, hat1⟩ := int_at (zs := [0, 1, 1, 2, 2, 2, 3, 3]) (i := x2 % 8) (by omega) (by show _ < (8 : Int); omega)
  have e03 : 0 <= e /\ e <= 3 := by
    simp only [List.mem_cons, List.not_mem_nil, or_false] at he
    omega
  refine ⟨_, _, rfl, rfl, (by show (0 : Int) < 8; decide), p1, _, _, _, rfl, rfl, SqL.of zC, hat1, ?_⟩
  generalize upd H p1 (.lst [V.int 0, V.int 1, V.int 1, V.int 2, V.int 2, V.int 2, V.int 3, V.int 3]) = H1 at s1 ⊢
  refine ⟨Nat.zero_le _, fun pb hpb => ?_⟩
  have npb : H pb = none := s1.free hpb
  have s2 := s1.trans (zF hpb (.lst []))
  refine ⟨fun σ' H' => ∃ (vs : List V) (sz : List (Int × Int)), Same H H' /\ H' pb = some (.lst vs) /\ Al (BsIn H') vs sz /\ (∀ z ∈ sz, 0 <= z.2 /\ z.2 < z.1) /\ sz.length <= 6 /\ ∃ o4 o5 : Option V, σ' = [some (.ref a), some (.int (m : Int)), some (.int e), some (.ref pb), o4, o5, none, none, none, none, none, none, none, none], ?_, ?_⟩
  · refine ⟨_, rfl, a, ns, _, _, rfl, s2.seq hS, h63, ⟨by decide, by decide⟩, ⟨by decide, by decide⟩, fun x3 x30 x31 => ⟨_, _, rfl, rfl, (by show (0 : Int) < 3; decide), _, rfl, by omega, by omega, ?_⟩⟩
    refine for_range (fun i σ' H' => ∃ (vs : List V) (sz : List (Int × Int)), Same H H' /\ H' pb = some (.lst vs) /\ Al (BsIn H') vs sz /\ (∀ z ∈ sz, 0 <= z.2 /\ z.2 < z.1) /\ sz.length = i /\ ∃ o4 o5 : Option V, σ' = [some (.ref a), some (.int (m : Int)), some (.int e), some (.ref pb), o4, o5, none, none, none, none, none, none, none, none])
      ⟨[], [], s2, zC, .nil, (fun d h => by cases h), rfl, none, none, rfl⟩ ?_ (fun σ' H' ⟨vs, sz, h1, h2, h3, h4, h5, h6⟩ => ⟨vs, sz, h1, h2, h3, h4, by omega, h6⟩)
    rintro i σ' H3 hi ⟨vs, sz, s3, h3, hA, hpos, hlen, o4, o5, rfl⟩
    have hi3 : i < 3 := by omega
    refine ⟨_, rfl, _, rfl, _, _, rfl, rfl, a, ns, _, _, rfl, s3.seq hS, h63, ⟨by decide, by decide⟩, ⟨by omega, by omega⟩, fun y y0 y1 => ⟨_, _, rfl, rfl, (by show (0 : Int) < 3; decide), _, _, rfl, rfl, ?_⟩⟩
    refine ⟨fun σ' H' => H' = H3 /\ ∃ z : Int, 0 < z /\ σ' = [some (.ref a), some (.int (m : Int)), some (.int e), some (.ref pb), some (.int (0 + (i : Int))), some (.int z), none, none, none, none, none, none, none, none], ?_, ?_⟩
    · refine ⟨_, rfl, _, rfl, _, _, rfl, rfl, a, ns, _, _, rfl, s3.seq hS, h63, ⟨by decide, by decide⟩, ⟨by omega, by omega⟩, fun y2 y20 y21 => ⟨_, _, rfl, rfl, (by show (0 : Int) < 6; decide), rfl, _, rfl, itB (fun c => ?_) (fun c => ⟨rfl, 1 + y % 3, by omega, rfl⟩)⟩⟩
      refine ⟨_, rfl, a, ns, _, rfl, s3.seq hS, h63, fun v => ⟨_, _, rfl, rfl, ⟨by decide, by decide, by decide⟩, _, _, rfl, rfl, (by show (0 : Int) < 10 ^ 30; decide), _, _, rfl, rfl, rfl, 1 + v % 10 ^ 30, ?_, rfl⟩⟩
      have := Int.emod_nonneg v (show (10 : Int) ^ 30 ≠ 0 by decide)
      omega
    rintro σ4 H4 ⟨rfl, z, z0, rfl⟩
    refine ⟨_, rfl, .inl ⟨rfl, _, SqL.of h3⟩, _, rfl, _, rfl, a, ns, _, rfl, s3.seq hS, h63, fun cv => ⟨_, _, rfl, rfl, (by show (0 : Int) < 991; decide), _, _, rfl, fun nm H5 s5 => ?_⟩⟩
    have s35 := s3.trans s5
    refine ⟨_, rfl, _, rfl, _, rfl, _, _, rfl, rfl, a, ns, _, _, rfl, s35.seq hS, h63, ⟨by decide, by decide⟩, ⟨by omega, by omega⟩, fun y3 y30 y31 => ?_⟩
    refine ⟨_, rfl, _, _, rfl, rfl, (by show (0 : Int) < z; exact z0), zI (by show 3 <= 1000; decide), fun p6 hp6 => ?_⟩
    have u6 := zF hp6 (.tup [.str nm, .int z, .int (y3 % z)])
    have h6 := u6 _ _ (s5 _ _ h3)
    have lv := hA.length
    have kl := KeepT.lst h6 (.lst (vs ++ [.ref p6]))
    refine ⟨pb, _, _, rfl, rfl, h6, zV (by omega), vs ++ [.ref p6], sz ++ [(z, y3 % z)], same_upd npb (s35.trans u6) _, zC, Al.snoc (hA.mono fun _ _ b => b.mono ((KeepT.of (s5.trans u6)).trans kl)) ⟨p6, nm, rfl, kl _ _ zC⟩, fun d hd => ?_, by simp [hlen], _, _, rfl⟩
    rcases zl18.mp hd with hd | hd
    · exact hpos d hd
    · rw [zl10.mp hd]
      exact ⟨Int.emod_nonneg _ (by omega), Int.emod_lt_of_pos _ z0⟩
  rintro σ5 H5 ⟨vs, bs, s5, h5, hA, hst, l6, o4, o5, rfl⟩
  obtain ⟨sz, hsz0⟩ : ∃ sz : List Int, sz = bs.map (·.1) := ⟨_, rfl⟩
  have lsz : sz.length = bs.length := by rw [hsz0, zl0]
  have hpos : ∀ z ∈ sz, 0 < z := fun z hz => by
    rw [hsz0] at hz
    obtain ⟨b, hb, rfl⟩ := zl19.mp hz
    have := hst b hb
    omega
  have lv := hA.length
  refine ⟨_, rfl, pb, rfl, ⟨_, SqL.of h5⟩, ?_⟩
  refine yS (K := K) (a := pb) (xs := vs) (fun i acc H' => H' = H5 /\ acc = (sz.take i).map V.int) ⟨rfl, rfl⟩ (fun i acc H' ⟨e, _⟩ => by subst e; exact SqL.of h5) (fun i y acc H' hx ⟨e1, e2⟩ => ?_) (fun acc H' ⟨e1, e2⟩ ps hps => ?_)
  · subst e1 e2
    have hi : i < sz.length := by
      have := (zl4.mp hx).1
      omega
    have hib : i < bs.length := by omega
    have erb := zl1 hib
    have er : sz[i]? = some (bs[i]).1 := by rw [hsz0, zl20, erb]; rfl
    obtain ⟨v, hv, a2, nm, rfl, ha2⟩ := hA.get erb
    rw [hv] at hx
    obtain rfl := zl7 hx
    refine ⟨_, rfl, a2, _, _, _, rfl, rfl, SqT.of ha2, rfl, zV (by rw [zl0, zl13]; omega), rfl, ?_⟩
    rw [zl14, er, zl8]
    rfl
  subst e1 e2
  rw [show sz.take vs.length = sz from zl9 (by omega)]
  have s6 := zF hps (.lst (sz.map V.int))
  have h6 : (upd H' ps (.lst (sz.map V.int))) ps = some (.lst (sz.map V.int)) := zC
  generalize upd H' ps (.lst (sz.map V.int)) = H6 at s6 h6 ⊢
  have s56 := s5.trans s6
  have hsz : SizesIn H6 ps sz := ⟨h6, hpos, by omega⟩
  refine ⟨_, rfl, _, rfl, by omega, by omega, ?_⟩
  refine comp_range (fun i acc H' => Same H6 H' /\ acc.length = i) ⟨Same.refl _, rfl⟩ (fun i acc H' hi ⟨e1, e2⟩ => ?_) (fun acc Hn ⟨e1, e2⟩ pl hpl => ?_)
  · refine ⟨_, rfl, _, rfl, a, ns, _, rfl, (s56.trans e1).seq hS, h63, fun cv => ⟨_, _, rfl, rfl, (by show (0 : Int) < 983; decide), _, _, rfl, fun z H'' s'' => ⟨zV (by omega), e1.trans s'', by simp [e2]⟩⟩⟩
  have s7 := e1.trans (zF hpl (.lst acc))
  refine ⟨pl, _, rfl, .inl ⟨SqL.of zC, fun pn hpn => ?_⟩⟩
  have s8 := s7.trans (zF hpn (.tup acc))
  have h8n : upd (upd Hn pl (.lst acc)) pn (.tup acc) pn = some (.tup acc) := zC
  have lacc : acc.length <= 8 := by omega
  generalize upd (upd Hn pl (.lst acc)) pn (.tup acc) = H8 at s8 h8n ⊢
  have s58 := s56.trans s8
  refine ⟨_, rfl, _, rfl, _, rfl, a, ns, m, rfl, s58.seq hS, h63, m1, by omega, fun pd dl H9 s9 npd hpd good low ldl => ?_⟩
  have s59 := s58.trans s9
  refine ⟨_, rfl, _, rfl, a, pd, ps, ns, dl, sz, e, rfl, s59.seq hS, h63, hpd, by omega, hsz.mono (s8.trans s9), fun t rv rs dis dos H10 s10 hrv rb edp fit hkp => ?_⟩
  have hR : Rooms H10 t rs := ⟨rv, hrv, rb.inn⟩
  have s510 := s59.trans s10
  have ld := yV rs
  have lr : rs.length = m := by rw [<- ld, edp, ldl]
  rw [<- edp] at good low
  refine ⟨zI (by show 12 <= 1000; decide), fun p11 hp11 => ?_⟩
  have s11 := zF hp11 (.lst [V.int 4, V.int 5, V.int 6, V.int 7, V.int 8, V.int 9, V.int 10, V.int 6, V.int 7, V.int 8, V.int 2, V.int 0])
  refine ⟨_, rfl, a, ns, _, _, rfl, (s510.trans s11).seq hS, h63, ⟨by decide, by decide⟩, ⟨by decide, by decide⟩, fun y2 y20 y21 => ?_⟩
  obtain ⟨ct, hct, hat2⟩ := int_at (zs := [4, 5, 6, 7, 8, 9, 10, 6, 7, 8, 2, 0]) (i := y2 % 12) (by omega) (by show _ < (12 : Int); omega)
  obtain ⟨c, rfl, c12⟩ : ∃ c : Nat, ct = (c : Int) /\ c <= 12 := by
    simp only [List.mem_cons, List.not_mem_nil, or_false] at hct
    exact ⟨ct.toNat, by omega, by omega⟩
  refine ⟨_, _, rfl, rfl, (by show (0 : Int) < 12; decide), p11, _, _, _, rfl, rfl, SqL.of zC, hat2, ?_⟩
  generalize upd H10 p11 (.lst [V.int 4, V.int 5, V.int 6, V.int 7, V.int 8, V.int 9, V.int 10, V.int 6, V.int 7, V.int 8, V.int 2, V.int 0]) = H11 at s11 ⊢
  have s511 := s510.trans s11
  refine ⟨_, rfl, _, rfl, _, rfl, _, rfl, _, rfl, a, t, ps, ns, sz, rs, c, e, rfl, s511.seq hS, h63, c12, hR.mono (KeepT.of s11), by omega, by omega, hsz.mono (((s8.trans s9).trans s10).trans s11), e03.1, fun pdo dv ds H12 s12 hdv hDv dfit d12 hev => ?_⟩
  have s512 := s511.trans s12
  refine ⟨zI (by show 2 <= 1000; decide), fun p13 hp13 => ?_⟩
  have s13 := zF hp13 (.lst [V.str "inner", V.str "outer"])
  refine ⟨_, rfl, a, ns, _, _, rfl, (s512.trans s13).seq hS, h63, ⟨by decide, by decide⟩, ⟨by decide, by decide⟩, fun y3 y30 y31 => ?_⟩
  obtain ⟨od, _, hat3⟩ := str_at (zs := [("inner" : Str), "outer"]) (i := y3 % 2) (by omega) (by show _ < (2 : Int); omega)
  refine ⟨_, _, rfl, rfl, (by show (0 : Int) < 2; decide), p13, _, _, _, rfl, rfl, SqL.of zC, hat3, ?_⟩
  generalize upd H12 p13 (.lst [V.str "inner", V.str "outer"]) = H13 at s13 ⊢
  refine ⟨zI (by show 8 <= 1000; decide), fun p14 hp14 => ?_⟩
  have s14 := s13.trans (zF hp14 (.lst [V.int 0, V.int 1, V.int 2, V.int 3, V.int 2, V.int 4, V.int 3, V.int 5]))
  refine ⟨_, rfl, a, ns, _, _, rfl, (s512.trans s14).seq hS, h63, ⟨by decide, by decide⟩, ⟨by decide, by decide⟩, fun y4 y40 y41 => ?_⟩
  obtain ⟨lt, hlt, hat4⟩ := int_at (zs := [0, 1, 2, 3, 2, 4, 3, 5]) (i := y4 % 8) (by omega) (by show _ < (8 : Int); omega)
  refine ⟨_, _, rfl, rfl, (by show (0 : Int) < 8; decide), p14, _, _, _, rfl, rfl, SqL.of zC, hat4, ?_⟩
  generalize upd H13 p14 (.lst [V.int 0, V.int 1, V.int 2, V.int 3, V.int 2, V.int 4, V.int 3, V.int 5]) = H14 at s14 ⊢
  refine ⟨zI (by show 8 <= 1000; decide), fun p15 hp15 => ?_⟩
  have s15 := s14.trans (zF hp15 (.lst [V.int 1, V.int 2, V.int 3, V.int 4, V.int 3, V.int 4, V.int 2, V.int 4]))
  refine ⟨_, rfl, a, ns, _, _, rfl, (s512.trans s15).seq hS, h63, ⟨by decide, by decide⟩, ⟨by decide, by decide⟩, fun y5 y50 y51 => ?_⟩
  obtain ⟨tn, htn, hat5⟩ := int_at (zs := [1, 2, 3, 4, 3, 4, 2, 4]) (i := y5 % 8) (by omega) (by show _ < (8 : Int); omega)
  refine ⟨_, _, rfl, rfl, (by show (0 : Int) < 8; decide), p15, _, _, _, rfl, rfl, SqL.of zC, hat5, ?_⟩
  generalize upd H14 p15 (.lst [V.int 1, V.int 2, V.int 3, V.int 4, V.int 3, V.int 4, V.int 2, V.int 4]) = H15 at s15 ⊢
  have t515 : Same H' H15 := ((((((s6.trans s8).trans s9).trans s10).trans s11).trans s12)).trans s15
  refine ⟨_, rfl, _, rfl, _, rfl, _, rfl, pb, _, rfl, .inl ⟨SqL.of (t515 _ _ h5), fun pbx hpbx => ?_⟩⟩
  have s16 := zF hpbx (.tup vs)
  have i16 : upd H15 pbx (.tup vs) pbx = some (.tup vs) := zC
  generalize upd H15 pbx (.tup vs) = H16 at s16 i16 ⊢
  refine ⟨_, rfl, _, rfl, _, rfl, zI (by show 7 <= 1000; decide), fun pc hpc => ?_⟩
  obtain ⟨lb, rfl, lb5⟩ : ∃ lb : Nat, lt = (lb : Int) /\ lb <= 5 := by
    simp only [List.mem_cons, List.not_mem_nil, or_false] at hlt
    exact ⟨lt.toNat, by omega, by omega⟩
  obtain ⟨tm, rfl, tm1, tm4⟩ : ∃ tm : Nat, tn = (tm : Int) /\ 1 <= tm /\ tm <= 4 := by
    simp only [List.mem_cons, List.not_mem_nil, or_false] at htn
    exact ⟨tn.toNat, by omega, by omega, by omega⟩
  have s17 := zF hpc (.tup [.str od, .int (lb : Int), .int (tm : Int), .ref pbx, .ref pn, .ref t, .ref pdo])
  have s1217 := (s15.trans s16).trans s17
  have s1017 := ((s11.trans s12)).trans s1217
  refine q pc ⟨od, lb, tm, sz, rs, (fun k => dis.getD k []), (fun k => dos.getD k []), ds, lb⟩ bs acc.length _ (s512.trans s1217) ⟨pbx, pn, t, pdo, vs, acc, rv, dv, zC, s17 _ _ i16, hA.mono (fun _ _ b => b.mono (KeepT.of ((t515.trans s16).trans s17))), ((s9.trans s10).trans s1017) _ _ h8n, rfl, s1017 _ _ hrv, rb.inn.mono (KeepT.of s1017), rb.dd.mono (KeepT.of s1017), s1217 _ _ hdv, hDv.mono fun _ _ z => z.mono (KeepT.of s1217)⟩ ?_
  exact ⟨⟨good, by show rs.length <= 40; omega, by show sz.length <= 6; omega, hpos, by show lb <= 12; omega, fun k => (rb.say k).1, fun k => (rb.say k).2, by show ds.length <= 63; omega, fun d hd => ⟨(dfit d hd).1, (dfit d hd).2.1, (dfit d hd).2.2.2.2⟩⟩, hsz0, hst, fit, low, by show rs.length <= 20; omega, fun d hd => ⟨(dfit d hd).2.2.1, (dfit d hd).2.2.2.1⟩, lb5, ⟨tm1, tm4⟩, hkp, (fun z => by have := hev z; omega), rfl⟩
end
end Chr
namespace Ru
open PySem L2 Mix Gds Rms Lts Dds Prg
open Ans (Al)
structure RmsOk (rs : List Rm) : Prop where
  good : Tr.Good (depths rs)
  low : Chr.Low (depths rs)
  fit : Fit rs
  l10 : rs.length <= 20
theorem OpF_len {rs : List Rm} (l10 : rs.length <= 20) {room : Nat} {L : List Nat} (h : Tr.OpF (depths rs) (alB rs) room L) : L.length <= 20 := Nat.le_trans (Tr.nodup_lt _ _ (Tr.nodup_rise h.rise) fun x hx => by have := h.lt x hx; rw [yV] at this; exact this) l10
theorem OpI_len {rs : List Rm} (l10 : rs.length <= 20) {room : Nat} {ks L : List Nat} (h : Tr.OpI (depths rs) (alB rs) room ks L) : L.length <= 20 := Nat.le_trans (Tr.nodup_lt _ _ (Tr.nodup_rise h.rise) fun x hx => by have := h.lt x hx; rw [yV] at this; exact this) l10
def spOpn (K : PySem.W.Frag) (n : Nat) : Sp := fun vs H Q _ => ∃ (t a : Addr) (ns : List Int) (rs : List Rm) (room : Nat) (ir at' : Int), vs = [.ref t, .int ir, .ref a, .int at'] /\ ir = (room : Int) /\ Rooms H t rs /\ RmsOk rs /\ room < rs.length /\ 5 <= (depths rs).getD room 0 + (n : Int) /\ SqL K H a (ns.map V.int) /\ ns.length <= 63 /\ (0 <= at' /\ at' <= 900) ∧
  ∀ (p : Addr) (os : List Nat) (H' : Hp), Same H H' -> H p = none -> H' p = some (.lst (natsV (room :: os))) -> Tr.OpF (depths rs) (alB rs) room (room :: os) -> Q (.ref p) H'
section
variable {P : Program} {w : World} {K : PySem.W.Frag} {mg : Str -> Option Value} {base : Heap}
theorem sc_law_opened : FnScope ["_law_rooms_here", "_law_room", "_law_script", "_law_at", "_law_opened_here", "_law_inside", "_law_k", "_law_kid"] ["_law_rooms_here", "_law_room", "_law_script", "_law_at"] (defScope s_L_opened) := ⟨rfl, rfl, rfl, by decide +kernel, rfl, by decide +kernel, by decide +kernel⟩
theorem ok_opn {n : Nat} {f gm : Addr} {fd dm : FuncData} (F : Fun K "_law_opened" "_law_opened" s_L_opened f fd) (Gl_mixed : FnOk P w K mg base CX0 (n + 2) gm dm ["_law_script", "_law_k", "_law_salt"] (spMixed K)) (bl_mixed : Binds K dm ["_law_script", "_law_k", "_law_salt"] []) (kl_mixed : KI K gm) (ml_mixed : mg "_law_mixed" = some (.ref gm))
    (Gl_opened : FnOk P w K mg base CX0 (n + 2) f fd ["_law_rooms_here", "_law_room", "_law_script", "_law_at"] (spOpn K n)) (bl_opened : Binds K fd ["_law_rooms_here", "_law_room", "_law_script", "_law_at"] []) (kl_opened : KI K f) (ml_opened : mg "_law_opened" = some (.ref f))
    (m_len : mg "len" = none) : FnOk P w K mg base CX0 (n + 3) f fd ["_law_rooms_here", "_law_room", "_law_script", "_law_at"] (spOpn K (n + 1)) := by
  refine F.ok sc_law_opened (fun vs H Q E h => ?_) (fun cdv A outer s H vs Q E hr h => ?_)
  · obtain ⟨t, a, ns, rs, room, ir, at', rfl, _⟩ := h
    rfl
  obtain ⟨t, a, ns, rs, room, ir, at', rfl, rfl, hR, ok, rl, fuel, hS, h63, ⟨a0, a1⟩, q⟩ := h
  refine ⟨_, (zE (zK (i := 4) sc_law_opened.nd rfl (Or.inl rfl) (yK (zA (pv 1) zD)))
   (zE (yD (zL yG (yB zH (yB zH (pv 0) (pv 1) (fun _ _ => rfl)) zB (fun _ _ => rfl)) zP (zR _))
   (zG (zO (pv 4)))
   zT)
   (zE (zK (i := 5) sc_law_opened.nd rfl (Or.inl rfl) (yK zD))
   (zE (zK (i := 6) sc_law_opened.nd rfl (Or.inl rfl) (yC yF (pv 1) zB))
   (zZ (ps_while PassesOwn.never (pt_cut (PW.pt (pw_and (zL op_lt (pv 6) (zS zN rfl m_len PySem.boot_len (zA (pv 0) zD)) (zR _)) (yP (zL op_gt (yB zH (yB zH (pv 0) (pv 6) (fun _ _ => rfl)) zB (fun _ _ => rfl)) (yB zH (yB zH (pv 0) (pv 1) (fun _ _ => rfl)) zB (fun _ _ => rfl)) (zR _))))))
   (zZ (yD (zL yG (yB zH (yB zH (pv 0) (pv 6) (fun _ _ => rfl)) zB (fun _ _ => rfl)) (yC yF (yB zH (yB zH (pv 0) (pv 1) (fun _ _ => rfl)) zB (fun _ _ => rfl)) zB) (zR _))
   (zG (yI (pe_bm PySem.F.plainAttrs_list PySem.F.slot_list_append PySem.F.type_list_append yH (pv 5) (zA (pv 6) zD))))
   zT)
   (zG (zK (i := 6) sc_law_opened.nd rfl (Or.inl rfl) (yC yF (pv 6) zB)))))
   (zZ (yD (zL yG (yB zH (yB zH (pv 0) (pv 1) (fun _ _ => rfl)) zB (fun _ _ => rfl)) zP (zR _))
   (zG (zK (i := 5) sc_law_opened.nd rfl (Or.inl rfl) (yK (zA (yB yU (pv 5) (yC zY (zJ Gl_mixed hr rfl ml_mixed kl_mixed bl_mixed .nil yE (zA (pv 2) (zA (yC yF (pv 3) (pv 1)) (zA zB zD)))) (zS zN rfl m_len PySem.boot_len (zA (pv 5) zD))) (fun _ _ => rfl)) zD))))
   zT)
   (zZ (ps_for PassesOwn.never rfl (yM (pv 5)) (yJ (i := 7) sc_law_opened.nd rfl (Or.inl rfl))
   (zG (zK (i := 4) sc_law_opened.nd rfl (Or.inl rfl) (yC op_cat (pv 4) (zJ Gl_opened hr rfl ml_opened kl_opened bl_opened .nil yE (zA (pv 0) (zA (pv 7) (zA (pv 2) (zA (pv 3) zD)))))))))
   (zG (zO (pv 4)))))))))), ?_⟩
  have ld := yV rs
  have l10 := ok.l10
  obtain ⟨rv, ar, r, htr, lrv, er, hatr, har⟩ := hR.at rl
  have dr := depths_at er
  have eal : alB rs room = decide (r.kind = ("all" : Str)) := by
    unfold alB
    rw [kind_at er]
  refine ⟨_, rfl, zI (by show 1 <= 1000; decide), fun po hpo => ?_⟩
  have u1 := zF hpo (.lst [V.int (room : Int)])
  have i1 : upd H po (.lst [V.int (room : Int)]) po = some (.lst (natsV [room])) := zC
  generalize upd H po (.lst [V.int (room : Int)]) = H1 at u1 i1 ⊢
  refine ⟨_, rfl, _, rfl, t, rv, _, _, rfl, rfl, SqT.of (u1 _ _ htr), hatr, ar, _, _, _, rfl, rfl, SqT.of (u1 _ _ har), rfl, rfl, _, rfl, ?_⟩
  have hf := ok.fit room r er
  by_cases ep : r.kind = ("plain" : Str)
  · rw [ep]
    have kn : Tr.kids (depths rs) room = [] := List.eq_nil_iff_forall_not_mem.mpr fun k hk => by
      obtain ⟨k1, k2⟩ := Tr.mem_kids.mp hk
      obtain ⟨z1, z2⟩ := up_next k1 k2
      rw [if_pos ⟨by omega, z2⟩, ep] at hf
      rcases hf with z | z
      · exact absurd z (by decide +kernel)
      · exact absurd z (by decide +kernel)
    refine yO ⟨_, rfl, q po [] H1 u1 hpo i1 ((Tr.OpI.base (alB rs) (by omega)).done (fun k hk => by cases hk) (fun _ => kn.symm) fun _ z => absurd kn z)⟩
  refine yN ep ?_
  refine ⟨Nat.zero_le _, fun pi hpi => ?_⟩
  have npi := u1.free hpi
  have nei : po ≠ pi := zM i1 hpi
  have u2 := zF hpi (.lst [])
  have i2 : upd H1 pi (.lst []) pi = some (.lst (natsV [])) := zC
  generalize upd H1 pi (.lst []) = H2 at u2 i2 ⊢
  refine ⟨_, rfl, _, _, rfl, rfl, ?_⟩
  refine ⟨fun σ' H' => ∃ o6 : Option V, Same H H' /\ H' po = some (.lst (natsV [room])) /\ H' pi = some (.lst (natsV (Tr.kids (depths rs) room))) /\ σ' = [some (.ref t), some (.int (room : Int)), some (.ref a), some (.int at'), some (.ref po), some (.ref pi), o6, none], ?_, ?_⟩
  · refine ⟨fun mz σ' H' => ∃ k : Nat, mz = rs.length - k /\ room + 1 <= k /\ k <= rs.length /\ Same H H' /\ H' po = some (.lst (natsV [room])) /\ H' pi = some (.lst (natsV (Tr.kidsTo (depths rs) room k))) /\ (∀ i, room < i -> i < k -> (depths rs).getD room 0 < (depths rs).getD i 0) /\ σ' = [some (.ref t), some (.int (room : Int)), some (.ref a), some (.int at'), some (.ref po), some (.ref pi), some (.int (k : Int)), none],
      ⟨_, room + 1, rfl, zl3 _, by omega, u1.trans u2, u2 _ _ i1, by rw [Tr.kidsTo_low _ _ _ (zl3 _)]; exact i2, (fun i z1 z2 => by omega), rfl⟩, ?_⟩
    rintro mz σ' H3 ⟨k, rfl, k1, k2, s3, h3o, h3i, hdp, rfl⟩
    refine ⟨fun c H' => H' = H3 /\ (c = true -> k < rs.length /\ (depths rs).getD room 0 < (depths rs).getD k 0) /\ (c = false -> Tr.EndOf (depths rs) room k), ?_, ?_⟩
    · refine ⟨_, rfl, _, rfl, t, _, rfl, .inr (SqT.of (s3 _ _ htr)), _, _, rfl, rfl, _, rfl, itB (fun c => ?_) (fun c => ?_)⟩
      · have c1 := of_decide_eq_true c
        have hk : k < rs.length := by omega
        obtain ⟨rv2, ak, rk, ht2, _, ek, hatk, hak⟩ := hR.at hk
        rw [htr] at ht2
        injection ht2 with z
        injection z with z
        subst z
        have dk := depths_at ek
        refine ⟨_, rfl, _, rfl, t, _, _, _, rfl, rfl, SqT.of (s3 _ _ htr), hatk, ak, _, _, _, rfl, rfl, SqT.of (s3 _ _ hak), rfl, _, rfl, _, rfl, t, _, _, _, rfl, rfl, SqT.of (s3 _ _ htr), hatr, ar, _, _, _, rfl, rfl, SqT.of (s3 _ _ har), rfl, _, _, rfl, rfl, _, rfl, rfl, fun z => ⟨hk, ?_⟩, fun z => ⟨by omega, by omega, hdp, fun _ => ?_⟩⟩
        · have := of_decide_eq_true z
          rw [dk, dr]
          exact this
        · have := of_decide_eq_false z
          rw [dk, dr]
          omega
      · have c1 := of_decide_eq_false c
        exact ⟨rfl, (fun z => by cases z), fun _ => ⟨by omega, by omega, hdp, fun z => by omega⟩⟩
    rintro c H4 ⟨rfl, ct, cf⟩
    refine itB (fun z => ?_) (fun z => ?_)
    · obtain ⟨hk, hlt⟩ := ct z
      have hdp2 : ∀ i, room < i -> i < k + 1 -> (depths rs).getD room 0 < (depths rs).getD i 0 := fun i z1 z2 => by
        by_cases y : i = k
        · rw [y]
          exact hlt
        · exact hdp i z1 (by omega)
      have plies : Tr.par (depths rs) k = some room ↔ (depths rs).getD k 0 = (depths rs).getD room 0 + 1 := by
        rw [Tr.par_lies ok.good (by omega)]
        refine ⟨fun z => z.2, fun z => ⟨?_, z⟩⟩
        unfold Tr.liesIn
        rw [List.contains_iff_mem, Tr.mem_ups]
        exact ⟨by omega, fun j j1 j2 => hdp2 j j1 (by omega)⟩
      refine ⟨fun σ' H' => Same H H' /\ H' po = some (.lst (natsV [room])) /\ H' pi = some (.lst (natsV (Tr.kidsTo (depths rs) room (k + 1)))) /\ σ' = [some (.ref t), some (.int (room : Int)), some (.ref a), some (.int at'), some (.ref po), some (.ref pi), some (.int ((k + 1 : Nat) : Int)), none], ?_, ?_⟩
      · rintro σ' H' ⟨z1, z2, z3, rfl⟩
        exact ⟨rs.length - (k + 1), by omega, k + 1, rfl, by omega, by omega, z1, z2, z3, hdp2, rfl⟩
      refine ⟨fun σ' H' => Same H H' /\ H' po = some (.lst (natsV [room])) /\ H' pi = some (.lst (natsV (Tr.kidsTo (depths rs) room (k + 1)))) /\ σ' = [some (.ref t), some (.int (room : Int)), some (.ref a), some (.int at'), some (.ref po), some (.ref pi), some (.int (k : Int)), none], ?_, ?_⟩
      · obtain ⟨rv2, ak, rk, ht2, _, ek, hatk, hak⟩ := hR.at hk
        rw [htr] at ht2
        injection ht2 with z
        injection z with z
        subst z
        have dk := depths_at ek
        have lk := Tr.kidsTo_len (depths rs) room k
        refine ⟨_, rfl, _, rfl, t, _, _, _, rfl, rfl, SqT.of (s3 _ _ htr), hatk, ak, _, _, _, rfl, rfl, SqT.of (s3 _ _ hak), rfl, _, rfl, _, rfl, t, _, _, _, rfl, rfl, SqT.of (s3 _ _ htr), hatr, ar, _, _, _, rfl, rfl, SqT.of (s3 _ _ har), rfl, _, _, rfl, rfl, rfl, _, rfl, itB (fun c4 => ?_) (fun c4 => ?_)⟩
        · have c5 := of_decide_eq_true c4
          injection c5 with c5
          have pk : Tr.par (depths rs) k = some room := plies.mpr (by rw [dk, dr]; exact c5)
          refine ⟨_, rfl, .inl ⟨rfl, _, SqL.of h3i⟩, _, rfl, pi, _, _, rfl, rfl, h3i, zV (by rw [zU]; omega), same_upd npi s3 _, ?_, ?_, rfl⟩
          · rw [zQ nei]
            exact h3o
          · rw [zC, Tr.kidsTo_succ, if_pos (by rw [pk]; exact beq_self_eq_true _)]
            unfold natsV
            rw [zl8]
            rfl
        · have c5 := of_decide_eq_false c4
          have pk : ¬ Tr.par (depths rs) k = some room := fun z => c5 (by
            have := plies.mp z
            rw [dk, dr] at this
            rw [this])
          refine ⟨s3, h3o, ?_, rfl⟩
          rw [Tr.kidsTo_succ, if_neg (fun z => pk (eq_of_beq z)), zl17]
          exact h3i
      rintro σ' H5 ⟨s5, h5o, h5i, rfl⟩
      exact ⟨_, rfl, _, _, rfl, rfl, s5, h5o, h5i, rfl⟩
    · refine ⟨_, s3, h3o, ?_, rfl⟩
      rw [Tr.kids_end ok.good (cf z)]
      exact h3i
  rintro σ' H3 ⟨o6, s3, h3o, h3i, rfl⟩
  have kne : Tr.kids (depths rs) room ≠ [] := by
    by_cases z : room + 1 < rs.length /\ (depths rs).getD room 0 < (depths rs).getD (room + 1) 0
    · intro y
      have hm : room + 1 ∈ Tr.kids (depths rs) room := Tr.mem_kids.mpr ⟨by omega, Tr.par_iff.mpr ⟨by omega, z.2, fun i i1 i2 => by omega⟩⟩
      rw [y] at hm
      cases hm
    · rw [if_neg z] at hf
      exact absurd hf ep
  have kr := Tr.kids_rise (depths rs) room
  have kl : (Tr.kids (depths rs) room).length <= 20 := Nat.le_trans (Tr.kidsTo_len (depths rs) room (depths rs).length) (by omega)
  refine ⟨fun σ' H' => ∃ (pj : Addr) (ks : List Nat), Same H H' /\ H' po = some (.lst (natsV [room])) /\ H' pj = some (.lst (natsV ks)) /\ (∀ k ∈ ks, k ∈ Tr.kids (depths rs) room) /\ ks.Pairwise (· < ·) /\ (alB rs room = true -> ks = Tr.kids (depths rs) room) /\ (alB rs room = false -> ∃ k, ks = [k]) /\ σ' = [some (.ref t), some (.int (room : Int)), some (.ref a), some (.int at'), some (.ref po), some (.ref pj), o6, none], ?_, ?_⟩
  · refine ⟨_, rfl, _, rfl, t, rv, _, _, rfl, rfl, SqT.of (s3 _ _ htr), hatr, ar, _, _, _, rfl, rfl, SqT.of (s3 _ _ har), rfl, rfl, _, rfl, ?_⟩
    by_cases eo : r.kind = ("one" : Str)
    · rw [eo]
      have lpos : 0 < (Tr.kids (depths rs) room).length := List.length_pos_iff.mpr kne
      refine yO ⟨_, rfl, _, rfl, _, rfl, _, rfl, _, _, rfl, rfl, a, ns, _, _, rfl, s3.seq hS, h63, ⟨by omega, by omega⟩, ⟨by decide, by decide⟩, fun y y0 y1 => ?_⟩
      have ln := zU (Tr.kids (depths rs) room)
      obtain ⟨pk, hpm, hpk⟩ := natsV_at (os := Tr.kids (depths rs) room) (i := y % (((natsV (Tr.kids (depths rs) room)).length : Nat) : Int)) (Int.emod_nonneg _ (by omega)) (by
        have := Int.emod_lt_of_pos y (show (0 : Int) < (((natsV (Tr.kids (depths rs) room)).length : Nat) : Int) by omega)
        omega)
      refine ⟨_, rfl, pi, _, rfl, .inl (SqL.of h3i), _, _, rfl, rfl, (by show (0 : Int) < (((natsV (Tr.kids (depths rs) room)).length : Nat) : Int); omega), pi, _, _, _, rfl, rfl, SqL.of h3i, hpk, zI (by show 1 <= 1000; decide), fun p hp => ?_⟩
      have u4 := zF hp (.lst [V.int (pk : Int)])
      refine ⟨p, [pk], s3.trans u4, u4 _ _ h3o, zC, fun k hk => by rw [zl10.mp hk]; exact hpm, List.pairwise_singleton _ _, fun z => ?_, fun _ => ⟨pk, rfl⟩, rfl⟩
      rw [eal, eo] at z
      exact absurd z (by decide +kernel)
    · refine yN eo ⟨pi, _, s3, h3o, h3i, fun k hk => hk, kr, fun _ => rfl, fun z => ?_, rfl⟩
      rw [eal] at z
      have z := of_decide_eq_false z
      split at hf
      · rcases hf with y | y
        · exact absurd y eo
        · exact absurd y z
      · exact absurd hf ep
  rintro σ' H4 ⟨pj, ks, s4, h4o, h4j, hks, kinc, hal, hone, rfl⟩
  have ksl : ks.length <= 20 := Nat.le_trans (Tr.nodup_lt _ _ (Tr.nodup_rise kinc) fun k hk => by
    have := (Tr.mem_kids.mp (hks k hk)).1
    omega) l10
  refine ⟨fun σ' H' => ∃ (pc : Addr) (os : List Nat) (o5 o7 : Option V), Same H H' /\ H pc = none /\ H' pc = some (.lst (natsV (room :: os))) /\ Tr.OpI (depths rs) (alB rs) room ks (room :: os) /\ σ' = [some (.ref t), some (.int (room : Int)), some (.ref a), some (.int at'), some (.ref pc), o5, o6, o7], ?_, ?_⟩
  · refine ⟨_, rfl, pj, rfl, ⟨_, SqL.of h4j⟩, ?_⟩
    refine for_list (K := K) (a := pj) (xs := natsV ks) (fun i σ' H' => ∃ (pc : Addr) (os : List Nat) (o7 : Option V), Same H4 H' /\ H pc = none /\ H' pc = some (.lst (natsV (room :: os))) /\ Tr.OpI (depths rs) (alB rs) room (ks.take i) (room :: os) /\ σ' = [some (.ref t), some (.int (room : Int)), some (.ref a), some (.int at'), some (.ref pc), some (.ref pj), o6, o7])
      ⟨po, [], _, Same.refl _, hpo, h4o, Tr.OpI.base _ (by omega), rfl⟩ (fun i σ' H' _ ⟨_, _, _, z, _⟩ => SqL.of (z _ _ h4j)) ?_ ?_
    · rintro i x σ' H5 hx ⟨pc, os, o7, s5, npc, hpc, hI, rfl⟩
      obtain ⟨hi, rfl⟩ := yR hx
      have hk := zl1 hi
      have hkm := zl22 hi
      have etk : ks.take (i + 1) = ks.take i ++ [ks[i]] := by
        rw [zl14, hk]
        rfl
      have before : ∀ k ∈ ks.take i, k < ks[i] := fun k hkt => by
        obtain ⟨j, hj, rfl⟩ := List.mem_iff_getElem.mp hkt
        rw [zl13] at hj
        rw [List.getElem_take]
        exact List.pairwise_iff_getElem.mp kinc j i (by omega) hi (by omega)
      generalize ks[i] = kid at etk before hkm
      obtain ⟨kl', kp⟩ := Tr.mem_kids.mp (hks kid hkm)
      have kd := ((Tr.par_lies ok.good kl').mp kp).2
      have s45 := s4.trans s5
      refine ⟨_, rfl, _, rfl, _, rfl, _, rfl, _, rfl, t, a, ns, rs, kid, _, at', rfl, rfl, hR.mono (KeepT.of s45), ok, by omega, by omega, s45.seq hS, h63, ⟨a0, a1⟩, fun p6 os6 H6 s6 np6 hp6 hF => ?_⟩
      have l1 := OpI_len l10 hI
      have l2 := OpF_len l10 hF
      refine ⟨pc, p6, _, _, rfl, rfl, s6 _ _ hpc, hp6, (by rw [zU, zU, sizeLine_eq]; omega), fun p7 hp7 => ?_⟩
      refine ⟨p7, os ++ (kid :: os6), _, (s5.trans s6).trans (zF hp7 _), (s45.trans s6).free hp7, by rw [zC]; unfold natsV; rw [<- zl8]; rfl, ?_, rfl⟩
      rw [etk]
      exact hI.step hF kp fun k hkt => ⟨before k hkt, (Tr.mem_kids.mp (hks k (List.mem_of_mem_take hkt))).2⟩
    · rintro σ' H5 ⟨pc, os, o7, s5, npc, hpc, hI, rfl⟩
      rw [zU, List.take_length] at hI
      exact ⟨pc, os, _, _, s4.trans s5, npc, hpc, hI, rfl⟩
  rintro σ' H5 ⟨pc, os, o5, o7, s5, npc, hpc, hI, rfl⟩
  exact ⟨_, rfl, q pc os H5 s5 npc hpc (hI.done hks hal fun z _ => hone z)⟩
theorem none_opn {f : Addr} {fd : FuncData} : FnOk P w K mg base CX0 2 f fd ["_law_rooms_here", "_law_room", "_law_script", "_law_at"] (spOpn K 0) := by
  have no : ∀ vs H Q E, ¬ spOpn K 0 vs H Q E := fun vs H Q E h => by
    obtain ⟨t, a, ns, rs, room, ir, at', _, _, _, ok, rl, fuel, _⟩ := h
    have := ok.low room (by rw [yV]; exact rl)
    omega
  exact ⟨fun vs H Q E h => absurd h (no vs H Q E), fun A outer s H args us vs Q E _ _ _ _ h => absurd h (no vs H Q E)⟩
theorem all_opn {f gm : Addr} {fd dm : FuncData} (F : Fun K "_law_opened" "_law_opened" s_L_opened f fd) (Gl_mixed : FnOk P w K mg base CX0 2 gm dm ["_law_script", "_law_k", "_law_salt"] (spMixed K)) (bl_mixed : Binds K dm ["_law_script", "_law_k", "_law_salt"] []) (kl_mixed : KI K gm) (ml_mixed : mg "_law_mixed" = some (.ref gm))
    (bl_opened : Binds K fd ["_law_rooms_here", "_law_room", "_law_script", "_law_at"] []) (ml_opened : mg "_law_opened" = some (.ref f)) (m_len : mg "len" = none) : ∀ n : Nat, FnOk P w K mg base CX0 (n + 2) f fd ["_law_rooms_here", "_law_room", "_law_script", "_law_at"] (spOpn K n)
  | 0 => none_opn
  | n + 1 => ok_opn F (Gl_mixed.mono (by omega)) bl_mixed kl_mixed ml_mixed (all_opn F Gl_mixed bl_mixed kl_mixed ml_mixed bl_opened ml_opened m_len n) bl_opened F.kp ml_opened m_len
end
end Ru
namespace Tr
theorem reach0 {ds : List Int} (gd : Good ds) {al : Nat -> Bool} {gs : List Nat} {room : Nat} {un : Option Nat} (rl : room < ds.length) (ne : gs ≠ []) (gl : ∀ g ∈ gs, g = room ∨ liesIn ds g room = true) :
    ∀ a : Nat, (room = a ∨ liesIn ds room a = true) -> (∀ u, un = some u -> liesIn ds a u = true) -> Gone ds al gs un a := by
  intro a
  induction a using Nat.strongRecOn with
  | ind a ih =>
    intro hb hu
    have ale : a <= room := by
      rcases hb with h | h
      · omega
      · have := lies_lt h
        omega
    have ga : ∀ g ∈ gs, g = a ∨ liesIn ds g a = true := fun g hg => by
      rcases hb with h | h
      · rw [<- h]
        exact gl g hg
      · rcases gl g hg with z | z
        · rw [z]
          exact .inr h
        · exact .inr (lies_trans z h)
    cases e : par ds a with
    | none =>
      have un0 : un = none := by
        cases un with
        | none => rfl
        | some u =>
          have := hu u rfl
          rw [liesIn_none e] at this
          cases this
      subst un0
      by_cases a0 : a = 0
      · subst a0
        exact .top rfl
      · exfalso
        obtain ⟨p, hp⟩ := gd.par_some (by omega : 0 < a) (by omega)
        rw [e] at hp
        cases hp
    | some p =>
      have pa := par_lt e
      have ak : a ∈ kids ds p := mem_kids.mpr ⟨by omega, e⟩
      refine (Gone.iff e).mpr ⟨?_, ?_⟩
      · cases ha : al p with
        | true =>
          rw [next_all ha]
          exact ak
        | false =>
          rw [next_one ha ak, zl10]
          have ba : bears ds gs a = true := by
            obtain ⟨g, hg⟩ := List.exists_mem_of_ne_nil gs ne
            unfold bears
            rw [List.any_eq_true]
            refine ⟨g, hg, ?_⟩
            rcases ga g hg with z | z
            · rw [z, beq_self_eq_true, Bool.true_or]
            · rw [z, Bool.or_true]
          unfold pick
          cases ef : (kids ds p).find? (bears ds gs) with
          | none => exact absurd ba (by simpa using List.find?_eq_none.mp ef a ak)
          | some c =>
            have ck := List.mem_of_find?_eq_some ef
            have cb := List.find?_some ef
            unfold bears at cb
            rw [List.any_eq_true] at cb
            obtain ⟨g, hg, e2⟩ := cb
            rw [Bool.or_eq_true] at e2
            exact kid_unique e (mem_kids.mp ck).2 (ga g hg) (e2.imp (fun z => eq_of_beq z) id)
      · have hbp : room = p ∨ liesIn ds room p = true := by
          right
          rcases hb with h | h
          · rw [h]
            exact lies_par e
          · exact lies_trans h (lies_par e)
        by_cases c : un = some p
        · exact .inl c
        · refine .inr (ih p pa hbp fun u hu' => ?_)
          have := hu u hu'
          rw [liesIn_some e, Bool.or_eq_true] at this
          rcases this with z | z
          · rw [eq_of_beq z] at c
            exact absurd hu' c
          · exact z
theorem plain_in {ds : List Int} {al pl : Nat -> Bool} {room : Nat} {L : List Nat} (h : OpF ds al room L) (hpl : ∀ c, c < ds.length -> kids ds c = [] -> pl c = true) :
    ∀ (m c : Nat), ds.length - c <= m -> c ∈ L -> ∃ x ∈ L, pl x = true /\ (x = c ∨ liesIn ds x c = true) := by
  intro m
  induction m with
  | zero =>
    intro c hm hc
    have := h.lt c hc
    omega
  | succ m ih =>
    intro c hm hc
    by_cases kn : kids ds c = []
    · exact ⟨c, hc, hpl c (h.lt c hc) kn, .inl rfl⟩
    · obtain ⟨k, k1, k2⟩ : ∃ k ∈ kids ds c, k ∈ L := by
        cases ha : al c with
        | true =>
          obtain ⟨k, hk⟩ := List.exists_mem_of_ne_nil _ kn
          exact ⟨k, hk, h.all c hc ha k hk⟩
        | false =>
          obtain ⟨k, k1, k2, _⟩ := h.one c hc ha kn
          exact ⟨k, k1, k2⟩
      have pk := (mem_kids.mp k1).2
      have := par_lt pk
      obtain ⟨x, x1, x2, x3⟩ := ih k (by omega) k2
      refine ⟨x, x1, x2, .inr ?_⟩
      rcases x3 with z | z
      · rw [z]
        exact lies_par pk
      · exact lies_trans z (lies_par pk)
theorem up_in {ds : List Int} {al : Nat -> Bool} {room : Nat} {L : List Nat} (h : OpF ds al room L) {j : Nat} (hj : j = room ∨ liesIn ds j room = true) : ∀ y : Nat, y ∈ L -> (y = j ∨ liesIn ds y j = true) -> j ∈ L := by
  intro y
  induction y using Nat.strongRecOn with
  | ind y ih =>
    intro hy hl
    rcases hl with z | z
    · rw [<- z]
      exact hy
    · have jy := lies_lt z
      have yr : y ≠ room := fun e => by
        rcases hj with w | w
        · omega
        · have := lies_lt w
          omega
      obtain ⟨p, hp, e⟩ := h.up y hy yr
      refine ih p (par_lt e) hp ?_
      rw [liesIn_some e, Bool.or_eq_true] at z
      exact z.imp (fun w => eq_of_beq w) id
theorem deepF {ds : List Int} {al pl : Nat -> Bool} {room : Nat} {L gs : List Nat} {un : Option Nat} (h : OpF ds al room L) (hpl : ∀ c, c < ds.length -> kids ds c = [] -> pl c = true) (hg : ∀ g, g ∈ gs ↔ g ∈ L /\ pl g = true /\ g ≠ room) (hR : Gone ds al gs un room) : ∀ x : Nat, x ∈ L -> Gone ds al gs un x := by
  intro x
  induction x using Nat.strongRecOn with
  | ind x ih =>
    intro hx
    by_cases xr : x = room
    · rw [xr]
      exact hR
    obtain ⟨p, hp, e⟩ := h.up x hx xr
    have ak : x ∈ kids ds p := mem_kids.mpr ⟨h.lt x hx, e⟩
    refine (Gone.iff e).mpr ⟨?_, .inr (ih p (par_lt e) hp)⟩
    cases ha : al p with
    | true =>
      rw [next_all ha]
      exact ak
    | false =>
      rw [next_one ha ak, zl10]
      obtain ⟨k, k1, k2, k3⟩ := h.one p hp ha (fun z => by rw [z] at ak; cases ak)
      have xk := k3 x ak hx
      have lx : liesIn ds x room = true := (h.ins x hx).resolve_left xr
      have lp : p = room ∨ liesIn ds p room = true := h.ins p hp
      have ba : bears ds gs x = true := by
        obtain ⟨y, y1, y2, y3⟩ := plain_in h hpl _ x (zl3 _) hx
        have ly : liesIn ds y room = true := by
          rcases y3 with z | z
          · rw [z]
            exact lx
          · exact lies_trans z lx
        have yn : y ≠ room := fun z => by
          have := lies_lt ly
          omega
        unfold bears
        rw [List.any_eq_true]
        refine ⟨y, (hg y).mpr ⟨y1, y2, yn⟩, ?_⟩
        rcases y3 with z | z
        · rw [z, beq_self_eq_true, Bool.true_or]
        · rw [z, Bool.or_true]
      unfold pick
      cases ef : (kids ds p).find? (bears ds gs) with
      | none => exact absurd ba (by simpa using List.find?_eq_none.mp ef x ak)
      | some c =>
        have ck := List.mem_of_find?_eq_some ef
        have cb := List.find?_some ef
        unfold bears at cb
        rw [List.any_eq_true] at cb
        obtain ⟨g, hgs, e2⟩ := cb
        rw [Bool.or_eq_true] at e2
        have pc := (mem_kids.mp ck).2
        have cl : c = room ∨ liesIn ds c room = true := .inr (by
          rcases lp with z | z
          · rw [<- z]
            exact lies_par pc
          · exact lies_trans (lies_par pc) z)
        have cL := up_in h cl g ((hg g).mp hgs).1 (e2.imp (fun z => eq_of_beq z) id)
        show x = c
        rw [xk, k3 c ck cL]
def KRow (ds : List Int) (al pl : Nat -> Bool) (r : Nat) (js : List Nat) : Prop := js = [] ∨ (∃ k, js = [k] /\ k < ds.length /\ par ds k = some r) ∨ ∃ L, OpF ds al r L /\ ∀ x, x ∈ js ↔ x ∈ L /\ pl x = true /\ x ≠ r
theorem krow_near {ds : List Int} {al pl : Nat -> Bool} {r : Nat} {os : List Nat} (h : OpF ds al r (r :: os)) : KRow ds al pl r (os.take 1) := by
  cases os with
  | nil => exact .inl rfl
  | cons k l =>
    have rise := List.pairwise_cons.mp h.rise
    have r2 := List.pairwise_cons.mp rise.2
    have kr := rise.1 k List.mem_cons_self
    obtain ⟨p, hp, e⟩ := h.up k (by simp) (by omega)
    have := par_lt e
    refine .inr (.inl ⟨k, rfl, h.lt k (by simp), ?_⟩)
    rcases zl16.mp hp with z | z
    · rw [<- z]
      exact e
    · rcases zl16.mp z with z | z
      · omega
      · have := r2.1 p z
        omega
theorem krow_deep {ds : List Int} {al pl : Nat -> Bool} {r : Nat} {os : List Nat} (h : OpF ds al r (r :: os)) : KRow ds al pl r (os.filter pl) := by
  refine .inr (.inr ⟨r :: os, h, fun x => ?_⟩)
  have rise := List.pairwise_cons.mp h.rise
  rw [zl23, zl16]
  constructor
  · rintro ⟨a, b⟩
    have := rise.1 x a
    exact ⟨.inr a, b, by omega⟩
  · rintro ⟨a, b, c⟩
    exact ⟨a.resolve_left c, b⟩
theorem krow_open {ds : List Int} (gd : Good ds) {al pl : Nat -> Bool} {g : Nat} {js : List Nat} {un : Option Nat} (gl : g < ds.length) (hpl : ∀ c, c < ds.length -> kids ds c = [] -> pl c = true) (hK : KRow ds al pl g js) (hu : ∀ u, un = some u -> liesIn ds g u = true) :
    ∀ x ∈ g :: js, Gone ds al (if js = [] then [g] else js) un x := by
  have one : Gone ds al [g] un g := reach0 gd gl (by simp) (fun x hx => .inl (List.mem_singleton.mp hx)) g (.inl rfl) hu
  by_cases jn : js = []
  · intro x hx
    rw [jn] at hx
    rw [if_pos jn, zl10.mp hx]
    exact one
  rw [if_neg jn]
  rcases hK with z | ⟨k, rfl, kl, kp⟩ | ⟨L, h, hg⟩
  · exact absurd z jn
  · intro x hx
    have hk : ∀ u, un = some u -> liesIn ds k u = true := fun u e => lies_trans (lies_par kp) (hu u e)
    rcases zl16.mp hx with z | z
    · rw [z]
      exact reach0 gd kl (by simp) (fun x hx => .inl (List.mem_singleton.mp hx)) g (.inr (lies_par kp)) hu
    · rw [zl10.mp z]
      exact reach0 gd kl (by simp) (fun x hx => .inl (List.mem_singleton.mp hx)) k (.inl rfl) hk
  · have hR : Gone ds al js un g := reach0 gd gl jn (fun x hx => by
      obtain ⟨a, _, c⟩ := (hg x).mp hx
      exact .inr ((h.ins x a).resolve_left c)) g (.inl rfl) hu
    intro x hx
    rcases zl16.mp hx with z | z
    · rw [z]
      exact hR
    · exact deepF h hpl hg hR x ((hg x).mp z).1
theorem FullB.sub {ds : List Int} {on al : Nat -> Bool} {os : List Nat} (f : FullB ds on al os) (lt : ∀ o ∈ os, o < ds.length) (fit : ∀ k p, k < ds.length -> par ds k = some p -> (al p = true ∨ on p = true)) {r : Nat} (ro : r ∈ os) : OpF ds al r (os.filter fun x => decide (x = r) || liesIn ds x r) := by
  have mem : ∀ x, x ∈ os.filter (fun x => decide (x = r) || liesIn ds x r) ↔ x ∈ os /\ (x = r ∨ liesIn ds x r = true) := fun x => by
    rw [zl23, Bool.or_eq_true, decide_eq_true_iff]
  have kid : ∀ x k, x ∈ os.filter (fun x => decide (x = r) || liesIn ds x r) -> k ∈ kids ds x -> k ∈ os -> k ∈ os.filter (fun x => decide (x = r) || liesIn ds x r) := fun x k hx hk ko => by
    rw [mem] at hx ⊢
    exact ⟨ko, .inr (lies_up (mem_kids.mp hk).2 hx.2)⟩
  refine ⟨f.1.filter _, (mem r).mpr ⟨ro, .inl rfl⟩, fun x hx => ((mem x).mp hx).2, fun x hx => lt x ((mem x).mp hx).1, fun x hx ne => ?_, fun x hx ha k hk => ?_, fun x hx ha kn => ?_⟩
  · obtain ⟨xo, xl⟩ := (mem x).mp hx
    have xl := xl.resolve_left ne
    cases e : par ds x with
    | none =>
      rw [liesIn_none e] at xl
      cases xl
    | some p =>
      refine ⟨p, (mem p).mpr ⟨f.up lt xo e, ?_⟩, rfl⟩
      rw [liesIn_some e, Bool.or_eq_true] at xl
      exact xl.imp (fun w => eq_of_beq w) id
  · have xo := ((mem x).mp hx).1
    have c := f.2.1 x (lt x xo)
    unfold want at c
    rw [decide_eq_true xo, Bool.true_and, ha, if_pos rfl] at c
    have := List.filter_eq_self.mp (List.filter_sublist.eq_of_length c) k hk
    exact kid x k hx hk (of_decide_eq_true this)
  · have xo := ((mem x).mp hx).1
    obtain ⟨k0, hk0⟩ := List.exists_mem_of_ne_nil _ kn
    have ho : on x = true := (fit k0 x (mem_kids.mp hk0).1 (mem_kids.mp hk0).2).resolve_left (by rw [ha]; decide)
    have c := f.2.1 x (lt x xo)
    unfold want at c
    rw [decide_eq_true xo, Bool.true_and, Bool.true_and, ha, if_neg zl6, ho, if_pos rfl] at c
    obtain ⟨k, hk⟩ : ∃ k, openKids ds os x = [k] := by
      match openKids ds os x, c with
      | [y], _ => exact ⟨y, rfl⟩
    have km : ∀ y, (y ∈ kids ds x /\ y ∈ os) ↔ y = k := fun y => by rw [<- mem_open, hk, zl10]
    obtain ⟨ka, kb⟩ := (km k).mpr rfl
    refine ⟨k, ka, kid x k hx ka kb, fun j j1 j2 => (km j).mp ⟨j1, ((mem j).mp j2).1⟩⟩
end Tr
namespace Ru
open PySem L2 Mix Gds Rms Lts Dds Prg
open Ans (Al)
open Chr
theorem cut_tail (x : V) (xs : List V) : cutV (x :: xs) (some 1) none = xs := by
  show (List.drop (if (1 : Int) < 0 then ((1 : Int) + ((x :: xs).length : Int)).toNat else min (1 : Int).toNat (x :: xs).length) (x :: xs)).take ((x :: xs).length - (if (1 : Int) < 0 then ((1 : Int) + ((x :: xs).length : Int)).toNat else min (1 : Int).toNat (x :: xs).length)) = xs
  rw [if_neg (by decide)]
  have e : min (1 : Int).toNat (x :: xs).length = 1 := by
    rw [zl12]
    show min 1 (xs.length + 1) = 1
    omega
  rw [e]
  exact List.take_of_length_le (by simp)
def Rw (n : Nat) (js : List Nat) : Prop := (∀ j ∈ js, j < n) /\ js.length <= 40
def spStand (K : PySem.W.Frag) : Sp := fun vs H Q _ => ∃ (pc a : Addr) (ns : List Int) (c : ChD) (bs : List (Int × Int)) (ne : Nat) (at' : Int), vs = [.ref pc, .ref a, .int at'] /\ Cha H pc c bs ne /\ ChaOk c bs ne /\ SqL K H a (ns.map V.int) /\ ns.length <= 63 /\ (0 <= at' /\ at' <= 500) ∧
  ∀ (ps : Addr) (s : S4) (H' : Hp), Same H H' -> SdIn H' ps s -> s.l = [] -> Tr.OpF (depths c.rs) (alB c.rs) 0 s.os -> Jw c s.os s.ks -> (∀ (r : Nat) (js : List Nat), s.ks[r]? = some js -> Tr.KRow (depths c.rs) (alB c.rs) (plB c.rs) r js) -> s.bx.length = c.sz.length -> Q (.ref ps) H'
section
variable {P : Program} {w : World} {K : PySem.W.Frag} {mg : Str -> Option Value} {base : Heap}
theorem sc_law_stand : FnScope ["_law_chart_here", "_law_script", "_law_at", "_law_rooms_here", "_law_kept", "_law_k", "_law_row", "_law_held"] ["_law_chart_here", "_law_script", "_law_at"] (defScope s_L_stand) := ⟨rfl, rfl, rfl, by decide +kernel, rfl, by decide +kernel, by decide +kernel⟩
theorem ok_stand {f gm go : Addr} {fd dm do' : FuncData} (F : Fun K "_law_stand" "_law_stand" s_L_stand f fd) (Gl_mixed : FnOk P w K mg base CX0 7 gm dm ["_law_script", "_law_k", "_law_salt"] (spMixed K)) (bl_mixed : Binds K dm ["_law_script", "_law_k", "_law_salt"] []) (kl_mixed : KI K gm) (ml_mixed : mg "_law_mixed" = some (.ref gm))
    (Gl_opened : FnOk P w K mg base CX0 7 go do' ["_law_rooms_here", "_law_room", "_law_script", "_law_at"] (spOpn K 5)) (bl_opened : Binds K do' ["_law_rooms_here", "_law_room", "_law_script", "_law_at"] []) (kl_opened : KI K go) (ml_opened : mg "_law_opened" = some (.ref go))
    (m_range : mg "range" = none) (m_len : mg "len" = none) (m_tuple : mg "tuple" = none) : FnOk P w K mg base CX0 8 f fd ["_law_chart_here", "_law_script", "_law_at"] (spStand K) := by
  refine F.ok sc_law_stand (fun vs H Q E h => ?_) (fun cdv A outer s H vs Q E hr h => ?_)
  · obtain ⟨pc, a, ns, c, bs, ne, at', rfl, _⟩ := h
    rfl
  obtain ⟨pc, a, ns, c, bs, ne, at', rfl, hC, ok, hS, h63, ⟨a0, a1⟩, q⟩ := h
  refine ⟨_, (zE (zK (i := 3) sc_law_stand.nd rfl (Or.inr rfl) (yB zH (pv 0) zB (fun _ _ => rfl)))
   (zE (zK (i := 4) sc_law_stand.nd rfl (Or.inl rfl) (yK zD))
   (zZ (ps_for PassesOwn.never rfl (pi_range1 rfl m_range (zA (zS zN rfl m_len PySem.boot_len (zA (pv 3) zD)) zD)) (yJ (i := 5) sc_law_stand.nd rfl (Or.inl rfl))
   (zE (zK (i := 6) sc_law_stand.nd rfl (Or.inl rfl) (pe_slice sl_list (zJ Gl_opened hr rfl ml_opened kl_opened bl_opened .nil yE (zA (pv 3) (zA (pv 5) (zA (pv 1) (zA (yC yF (pv 2) (yC op_mul zB (pv 5))) zD))))) (po_some zB) po_none))
   (zZ (yD (pt_cut (PW.pt (pw_or (zL yG (yB zH (yB zH (pv 3) (pv 5) (fun _ _ => rfl)) zB (fun _ _ => rfl)) zP (zR _)) (pw_or1 (zL yG (yC zY (zJ Gl_mixed hr rfl ml_mixed kl_mixed bl_mixed .nil yE (zA (pv 1) (zA (yC yF (pv 2) (pv 5)) (zA zB zD)))) zB) zB (zR _))))))
   (zG (zK (i := 6) sc_law_stand.nd rfl (Or.inl rfl) (yK zD)))
   zT)
   (zZ (yD (zL yG (yB zH (yB zH (pv 3) (pv 5) (fun _ _ => rfl)) zB (fun _ _ => rfl)) zP (zR _))
   (zG (zK (i := 6) sc_law_stand.nd rfl (Or.inl rfl) (pe_slice sl_list (pv 6) po_none (po_some zB))))
   zT)
   (zZ (yD (zL yG (yB zH (yB zH (pv 3) (pv 5) (fun _ _ => rfl)) zB (fun _ _ => rfl)) zP (zR _))
   (zG (ps_setC (i := 6) (caps := [(3, "_law_rooms_here")]) rfl sc_law_stand.nd rfl (Or.inl rfl) (show CompSc (defScope s_L_stand) ["_law_chart_here", "_law_script", "_law_at", "_law_rooms_here", "_law_kept", "_law_k", "_law_row", "_law_held"] _ _ _ from ⟨rfl, rfl, by decide +kernel, by decide +kernel, by decide +kernel, by decide +kernel, by decide +kernel⟩) (yM (pv 6)) (fun _ _ _ _ _ _ => pifs_one (zL yG (yB (r := rIxT K) zH (yB (r := rIxT K) zH (pv 1) (pv 0) (fun _ _ => rfl)) zB (fun _ _ => rfl)) zP (zR _))) (fun _ _ _ _ _ _ => (pv 0))))
   zT)
   (zG (yI (pe_bm PySem.F.plainAttrs_list PySem.F.slot_list_append PySem.F.type_list_append yH (pv 4) (zA (yA zX rfl m_tuple PyProof.Rows.boot_tuple (zA (pv 6) zD)) zD)))))))))
   (zE (zK (i := 7) sc_law_stand.nd rfl (Or.inl rfl) (yK zD))
   (zZ (ps_for PassesOwn.never rfl (pi_range1 rfl m_range (zA (zS zN rfl m_len PySem.boot_len (zA (yB zH (pv 0) zB (fun _ _ => rfl)) zD)) zD)) (yJ (i := 5) sc_law_stand.nd rfl (Or.inl rfl))
   (zG (yI (pe_bm PySem.F.plainAttrs_list PySem.F.slot_list_append PySem.F.type_list_append yH (pv 7) (zA (yC zY (zJ Gl_mixed hr rfl ml_mixed kl_mixed bl_mixed .nil yE (zA (pv 1) (zA (yC yF (pv 2) (pv 5)) (zA zB zD)))) (yB zH (yB zH (yB zH (pv 0) zB (fun _ _ => rfl)) (pv 5) (fun _ _ => rfl)) zB (fun _ _ => rfl))) zD)))))
   (zG (zO (zW (zA (yA zX rfl m_tuple PyProof.Rows.boot_tuple (zA (zJ Gl_opened hr rfl ml_opened kl_opened bl_opened .nil yE (zA (pv 3) (zA zB (zA (pv 1) (zA (yC yF (pv 2) zB) zD))))) zD)) (zA (yA zX rfl m_tuple PyProof.Rows.boot_tuple (zA (pv 7) zD)) (zA (yA zX rfl m_tuple PyProof.Rows.boot_tuple (zA (pv 4) zD)) zD))))))))))), ?_⟩
  obtain ⟨pb, pn, pt, pd, bv, nv, rv, dv, hpc, hpb, hbx, _, _, htr, hrs, _⟩ := hC
  have hR : Rooms H pt c.rs := ⟨rv, htr, hrs⟩
  obtain ⟨rs, ers⟩ : ∃ rs, rs = c.rs := ⟨_, rfl⟩
  have rok : RmsOk c.rs := ⟨ok.ok.good, ok.low, ok.fit, ok.l10⟩
  have l10 := ok.l10
  have l1 := ok.ok.good.pos
  have lszb : c.sz.length = bs.length := by rw [ok.sz, zl0]
  have b6 := ok.ok.b6
  have dn : ∀ k, k < c.rs.length -> 0 <= (depths c.rs).getD k 0 := fun k hk => ok.ok.good.nonneg k (by rw [yV]; exact hk)
  rw [yV] at l1
  rw [<- ers] at hrs hR rok l10 l1 dn
  have lrv := hrs.length
  have lbv := hbx.length
  refine ⟨_, rfl, pc, _, _, _, rfl, rfl, SqT.of hpc, rfl, ?_⟩
  refine ⟨Nat.zero_le _, fun pk hpk => ?_⟩
  have s1 := zF hpk (.lst [])
  refine ⟨fun σ' H' => ∃ (vs : List V) (ks : List (List Nat)), Same H H' /\ H' pk = some (.lst vs) /\ RowsIn H' vs ks /\ ks.length = rs.length /\ (∀ js ∈ ks, Rw rs.length js) /\ (∀ (r : Nat) (js : List Nat), ks[r]? = some js -> Tr.KRow (depths rs) (alB rs) (plB rs) r js) /\ ∃ o5 o6 : Option V, σ' = [some (.ref pc), some (.ref a), some (.int at'), some (.ref pt), some (.ref pk), o5, o6, none], ?_, ?_⟩
  · refine ⟨_, rfl, pt, _, rfl, .inr (SqT.of (s1 _ _ htr)), _, rfl, by omega, by omega, ?_⟩
    refine for_range (fun i σ' H' => ∃ (vs : List V) (ks : List (List Nat)), Same H H' /\ H' pk = some (.lst vs) /\ RowsIn H' vs ks /\ ks.length = i /\ (∀ js ∈ ks, Rw rs.length js) /\ (∀ (r : Nat) (js : List Nat), ks[r]? = some js -> Tr.KRow (depths rs) (alB rs) (plB rs) r js) /\ ∃ o5 o6 : Option V, σ' = [some (.ref pc), some (.ref a), some (.int at'), some (.ref pt), some (.ref pk), o5, o6, none])
      ⟨[], [], s1, zC, .nil, rfl, (fun js h => by cases h), (fun r js h => by simp at h), none, none, rfl⟩ ?_ (fun σ' H' ⟨vs, ks, h1, h2, h3, h4, h5, h6⟩ => ⟨vs, ks, h1, h2, h3, by simp at h4; omega, h5, h6⟩)
    rintro i σ' H3 hi ⟨vs, ks, s3, h3, hA, hlen, hks, hkr, o5, o6, rfl⟩
    have hi' : i < rs.length := by
      simp at hi
      omega
    obtain ⟨vr, hvr, ar, rfl, har⟩ := hrs.get (zl1 hi')
    have hkf : KpFit rs[i] := ok.kp _ (by rw [<- ers]; exact zl22 hi')
    generalize hrr : rs[i] = r at har hkf
    have hatr : atI rv (0 + (i : Int)) = some (.ref ar) := by
      rw [Int.zero_add]
      exact yQ hvr
    have dn' := dn i hi'
    refine ⟨_, rfl, _, rfl, _, rfl, _, rfl, _, rfl, _, _, rfl, rfl, mulIn (by decide) (by decide), _, _, rfl, rfl, pt, a, ns, rs, i, (i : Int), at' + 7 * (i : Int), (by show [V.ref pt, V.int (0 + (i : Int)), V.ref a, V.int (at' + 7 * (0 + (i : Int)))] = _; rw [Int.zero_add]), rfl, hR.mono (KeepT.of s3), rok, hi', by omega, s3.seq hS, h63, ⟨by omega, by omega⟩, fun p4 os H4 s4 np4 h4 opf => ?_⟩
    refine ⟨_, rfl, p4, _, rfl, SqL.of h4, fun p5 hp5 => ?_⟩
    have hcut : cutV (natsV (i :: os)) (some 1) none = natsV os := cut_tail _ _
    rw [hcut]
    have s5 := s4.trans (zF hp5 (.lst (natsV os)))
    have h5 : upd H4 p5 (.lst (natsV os)) p5 = some (.lst (natsV os)) := zC
    generalize upd H4 p5 (.lst (natsV os)) = H5 at s5 h5 ⊢
    have l4 := OpF_len l10 opf
    rw [zl12] at l4
    have rw5 : Rw rs.length os := ⟨fun o ho => by have := opf.lt o (List.mem_cons_of_mem _ ho); rw [yV] at this; exact this, by omega⟩
    refine ⟨fun σ' H' => ∃ (pr : Addr) (js : List Nat), Same H3 H' /\ H' pr = some (.lst (natsV js)) /\ Rw rs.length js /\ (js = [] ∨ (js = os /\ r.keeps ≠ ("" : Str))) /\ σ' = [some (.ref pc), some (.ref a), some (.int at'), some (.ref pt), some (.ref pk), some (.int (0 + (i : Int))), some (.ref pr), none], ?_, ?_⟩
    · refine ⟨fun c H' => H' = H5 /\ (c = false -> r.keeps ≠ ("" : Str)), ?_, ?_⟩
      · refine ⟨_, rfl, _, rfl, pt, rv, _, _, rfl, rfl, SqT.of ((s3.trans s5) _ _ htr), hatr, ar, _, _, _, rfl, rfl, SqT.of ((s3.trans s5) _ _ har), rfl, rfl, _, rfl, itB (fun c => ⟨rfl, fun z => by cases z⟩) (fun c => ?_)⟩
        have c' : r.keeps ≠ ("" : Str) := fun z => absurd (by rw [z]) (of_decide_eq_false c)
        exact ⟨_, rfl, _, rfl, _, rfl, _, _, rfl, rfl, a, ns, _, _, rfl, (s3.trans s5).seq hS, h63, ⟨by omega, by omega⟩, ⟨by decide, by decide⟩, fun y y0 y1 => ⟨_, _, rfl, rfl, (by show (0 : Int) < 3; decide), rfl, _, rfl, rfl, fun _ => c'⟩⟩
      rintro c H' ⟨rfl, hc⟩
      refine itB (fun c => ?_) (fun c => ⟨p5, os, s5, h5, rw5, .inr ⟨rfl, hc c⟩, rfl⟩)
      exact ⟨Nat.zero_le _, fun p hp => ⟨p, [], s5.trans (zF hp _), zC, ⟨(fun j h => by cases h), Nat.zero_le _⟩, .inl rfl, rfl⟩⟩
    rintro σ6 H6 ⟨p6, j6, s6, h6, rw6, q6, rfl⟩
    refine ⟨fun σ' H' => ∃ (pr : Addr) (js : List Nat), Same H3 H' /\ H' pr = some (.lst (natsV js)) /\ Rw rs.length js /\ (js = [] ∨ (js = os.take 1 /\ r.keeps = ("near" : Str)) ∨ (js = os /\ r.keeps = ("deep" : Str))) /\ σ' = [some (.ref pc), some (.ref a), some (.int at'), some (.ref pt), some (.ref pk), some (.int (0 + (i : Int))), some (.ref pr), none], ?_, ?_⟩
    · refine ⟨_, rfl, _, rfl, pt, rv, _, _, rfl, rfl, SqT.of ((s3.trans s6) _ _ htr), hatr, ar, _, _, _, rfl, rfl, SqT.of ((s3.trans s6) _ _ har), rfl, rfl, _, rfl, itB (fun c => ?_) (fun c => ⟨p6, j6, s6, h6, rw6, ?_, rfl⟩)⟩
      rotate_left
      · have c' : r.keeps ≠ ("near" : Str) := fun z => absurd (by rw [z]) (of_decide_eq_false c)
        rcases q6 with z | ⟨z, z2⟩
        · exact .inl z
        · rcases hkf with w | ⟨w, _⟩ | w
          · exact absurd w z2
          · exact absurd w c'
          · exact .inr (.inr ⟨z, w⟩)
      refine ⟨_, rfl, _, rfl, p6, _, rfl, SqL.of h6, fun p hp => ?_⟩
      have hc : cutV (natsV j6) none (some 1) = natsV (j6.take 1) := by
        rw [cut_take _ (by decide)]
        exact List.map_take.symm
      rw [hc]
      have c' : V.str r.keeps = V.str ("near" : Str) := of_decide_eq_true c
      have l6 := rw6.2
      refine ⟨p, _, s6.trans (zF hp _), zC, ⟨fun j h => rw6.1 j (List.mem_of_mem_take h), Nat.le_trans (List.length_take_le _ _) (by omega)⟩, ?_, rfl⟩
      rcases q6 with z | ⟨z, z2⟩
      · exact .inl (by rw [z]; rfl)
      · exact .inr (.inl ⟨by rw [z], by injection c'⟩)
    rintro σ7 H7 ⟨p7, j7, s7, h7, rw7, q7, rfl⟩
    refine ⟨fun σ' H' => ∃ (pr : Addr) (js : List Nat), Same H3 H' /\ H' pr = some (.lst (natsV js)) /\ Rw rs.length js /\ (js = [] ∨ (js = os.take 1 /\ r.keeps = ("near" : Str)) ∨ (js = os.filter (plB rs) /\ r.keeps = ("deep" : Str))) /\ σ' = [some (.ref pc), some (.ref a), some (.int at'), some (.ref pt), some (.ref pk), some (.int (0 + (i : Int))), some (.ref pr), none], ?_, ?_⟩
    · refine ⟨_, rfl, _, rfl, pt, rv, _, _, rfl, rfl, SqT.of ((s3.trans s7) _ _ htr), hatr, ar, _, _, _, rfl, rfl, SqT.of ((s3.trans s7) _ _ har), rfl, rfl, _, rfl, itB (fun c => ?_) (fun c => ⟨p7, j7, s7, h7, rw7, ?_, rfl⟩)⟩
      rotate_left
      · have c' : r.keeps ≠ ("deep" : Str) := fun z => absurd (by rw [z]) (of_decide_eq_false c)
        rcases q7 with z | z | ⟨z, z2⟩
        · exact .inl z
        · exact .inr (.inl z)
        · exact absurd z2 c'
      have c' : r.keeps = ("deep" : Str) := by have c' : V.str r.keeps = V.str ("deep" : Str) := of_decide_eq_true c; injection c'
      refine ⟨_, rfl, p7, rfl, ⟨_, SqL.of h7⟩, ?_⟩
      have l7 := rw7.2
      refine comp_filt h7 (by omega) (plB rs) (fun o ho Zb hz => ?_) (fun o Zv hz => ⟨_, rfl, hz⟩) (fun p hp => ?_)
      · have hj := rw7.1 _ ho
        obtain ⟨v2, hv2, a2, rfl, ha2⟩ := hrs.get (zl1 hj)
        have epl : plB rs o = decide (V.str rs[o].kind = V.str ("plain" : Str)) := by
          unfold plB
          rw [kind_at (zl1 hj)]
          exact decide_eq_decide.mpr ⟨fun h => by rw [h], fun h => by injection h⟩
        rw [epl] at hz
        exact ⟨_, rfl, _, rfl, pt, rv, _, _, rfl, rfl, SqT.of ((s3.trans s7) _ _ htr), yQ hv2, a2, _, _, _, rfl, rfl, SqT.of ((s3.trans s7) _ _ ha2), rfl, rfl, _, rfl, hz⟩
      refine ⟨p, _, s7.trans (zF hp _), zC, ⟨fun j h => rw7.1 j (zl23.mp h).1, Nat.le_trans (zl21 _ _) l7⟩, ?_, rfl⟩
      rcases q7 with z | ⟨z, z2⟩ | ⟨z, z2⟩
      · exact .inl (by rw [z]; rfl)
      · rw [c'] at z2
        exact absurd z2 (by decide +kernel)
      · exact .inr (.inr ⟨by rw [z], z2⟩)
    rintro σ8 H8 ⟨p8, j8, s8, h8, rw8, q8, rfl⟩
    have kr8 : Tr.KRow (depths rs) (alB rs) (plB rs) i j8 := by
      rcases q8 with z | ⟨z, _⟩ | ⟨z, _⟩
      · exact .inl z
      · rw [z]
        exact Tr.krow_near opf
      · rw [z]
        exact Tr.krow_deep opf
    have h8k := s8 _ _ h3
    refine ⟨_, rfl, .inl ⟨rfl, _, SqL.of h8k⟩, _, rfl, p8, _, rfl, .inl ⟨SqL.of h8, fun p9 hp9 => ?_⟩⟩
    have u9 := zF hp9 (.tup (natsV j8))
    have h9 := u9 _ _ h8k
    have lv := hA.length
    have kl := KeepT.lst h9 (.lst (vs ++ [.ref p9]))
    refine ⟨pk, _, _, rfl, rfl, h9, zV (by omega), vs ++ [.ref p9], ks ++ [j8], same_upd hpk ((s3.trans s8).trans u9) _, zC, RowsIn.snoc (hA.mono ((KeepT.of (s8.trans u9)).trans kl)) ⟨p9, rfl, kl _ _ zC⟩, by simp [hlen], fun js hj => ?_, fun k js hk => ?_, _, _, rfl⟩
    · rcases zl18.mp hj with z | z
      · exact hks js z
      · rw [zl10.mp z]
        exact rw8
    · by_cases z : k < ks.length
      · rw [List.getElem?_append_left z] at hk
        exact hkr k js hk
      · have zk : k = ks.length := by
          have := (zl4.mp hk).1
          simp only [List.length_append, List.length_singleton] at this
          omega
        subst zk
        rw [List.getElem?_append_right (zl3 _)] at hk
        simp at hk
        subst hk
        rw [hlen]
        exact kr8
  rintro σ3 H3 ⟨vs, ks, s3, h3, hA, hlen, hks, hkr, o5, o6, rfl⟩
  refine ⟨Nat.zero_le _, fun ph hph => ?_⟩
  have nph : H ph = none := s3.free hph
  have s4 := zF hph (.lst [])
  refine ⟨fun σ' H' => ∃ (xs : List Int), Same H3 H' /\ H' ph = some (.lst (xs.map V.int)) /\ xs.length = bs.length /\ ∃ o5 o6 : Option V, σ' = [some (.ref pc), some (.ref a), some (.int at'), some (.ref pt), some (.ref pk), o5, o6, some (.ref ph)], ?_, ?_⟩
  · refine ⟨_, rfl, pc, _, _, _, rfl, rfl, SqT.of ((s3.trans s4) _ _ hpc), rfl, pb, _, rfl, .inr (SqT.of ((s3.trans s4) _ _ hpb)), _, rfl, by omega, by omega, ?_⟩
    refine for_range (fun i σ' H' => ∃ (xs : List Int), Same H3 H' /\ H' ph = some (.lst (xs.map V.int)) /\ xs.length = i /\ ∃ o5 o6 : Option V, σ' = [some (.ref pc), some (.ref a), some (.int at'), some (.ref pt), some (.ref pk), o5, o6, some (.ref ph)])
      ⟨[], s4, zC, rfl, _, _, rfl⟩ ?_ (fun σ' H' ⟨xs, h1, h2, h3, h4⟩ => ⟨xs, h1, h2, by simp at h3; omega, h4⟩)
    rintro i σ' H5 hi ⟨xs, s5, h5, lx, p5, p6, rfl⟩
    have hi' : i < bs.length := by
      simp at hi
      omega
    obtain ⟨vb, hvb, ab, nm, rfl, hab⟩ := hbx.get (zl1 hi')
    have zp : 0 < (bs[i]).1 := by have := ok.st _ (zl22 hi'); omega
    have hatb : atI bv (0 + (i : Int)) = some (.ref ab) := by
      rw [Int.zero_add]
      exact yQ hvb
    have s35 := s3.trans s5
    refine ⟨_, rfl, .inl ⟨rfl, _, SqL.of h5⟩, _, rfl, _, rfl, _, rfl, _, _, rfl, rfl, a, ns, _, _, rfl, s35.seq hS, h63, ⟨by omega, by omega⟩, ⟨by decide, by decide⟩, fun y y0 y1 => ?_⟩
    exact ⟨_, rfl, pc, _, _, _, rfl, rfl, SqT.of (s35 _ _ hpc), rfl, _, rfl, pb, bv, _, _, rfl, rfl, SqT.of (s35 _ _ hpb), hatb, ab, _, _, _, rfl, rfl, SqT.of (s35 _ _ hab), rfl, _, _, rfl, rfl, zp, ph, _, _, rfl, rfl, h5, zV (by rw [List.length_map]; omega), xs ++ [_], same_upd hph s5 _, (by rw [zC, List.map_append]; rfl), by simp [lx], _, _, rfl⟩
  rintro σ5 H5 ⟨xs, s5, h5, lxs, p5, p6, rfl⟩
  have s35 := s3.trans s5
  have dn0 := dn 0 l1
  refine ⟨_, rfl, _, rfl, _, rfl, _, _, rfl, rfl, pt, a, ns, rs, 0, 0, at' + 90, rfl, rfl, hR.mono (KeepT.of s35), rok, l1, by omega, s35.seq hS, h63, ⟨by omega, by omega⟩, fun p7 os H7 s7 np7 h7 opf => ?_⟩
  refine ⟨p7, _, rfl, .inl ⟨SqL.of h7, fun p8 hp8 => ?_⟩⟩
  have s8 := s7.trans (zF hp8 (.tup (natsV (0 :: os))))
  have h88 : upd H7 p8 (.tup (natsV (0 :: os))) p8 = some (.tup (natsV (0 :: os))) := zC
  generalize upd H7 p8 (.tup (natsV (0 :: os))) = H8 at s8 h88 ⊢
  refine ⟨_, rfl, ph, _, rfl, .inl ⟨SqL.of (s8 _ _ h5), fun p9 hp9 => ?_⟩⟩
  have v9 := zF hp9 (.tup (xs.map V.int))
  have s9 := s8.trans (zF hp9 (.tup (xs.map V.int)))
  have h99 : upd H8 p9 (.tup (xs.map V.int)) p9 = some (.tup (xs.map V.int)) := zC
  generalize upd H8 p9 (.tup (xs.map V.int)) = H9 at s9 v9 h99 ⊢
  have h9k := (s5.trans s9) _ _ h3
  refine ⟨_, rfl, pk, _, rfl, .inl ⟨SqL.of h9k, fun p10 hp10 => ?_⟩⟩
  have u10 := zF hp10 (.tup vs)
  have w10 : upd H9 p10 (.tup vs) p10 = some (.tup vs) := zC
  have k10 : RowsIn (upd H9 p10 (.tup vs)) vs ks := hA.mono (KeepT.of ((s5.trans s9).trans u10))
  generalize upd H9 p10 (.tup vs) = H10 at u10 k10 w10 ⊢
  refine ⟨zI (by show 3 <= 1000; decide), fun p11 hp11 => ?_⟩
  have u11 := u10.trans (zF hp11 (.tup [.ref p8, .ref p9, .ref p10]))
  have u' := zF hp11 (.tup [.ref p8, .ref p9, .ref p10])
  rw [ers] at opf hlen hks hkr
  have lt : ∀ o ∈ 0 :: os, o < c.rs.length := fun o ho => by have := opf.lt o ho; rw [yV] at this; exact this
  exact q p11 ⟨0 :: os, xs, ks, []⟩ _ (((s35.trans s9).trans u10).trans u') ⟨p8, p9, p10, vs, zC, u11 _ _ (v9 _ _ h88), u11 _ _ h99, u' _ _ w10, k10.mono (KeepT.of u')⟩ rfl opf ⟨opf.rise, lt, hlen, fun r hr => ⟨(hks r hr).1, (hks r hr).2⟩⟩ hkr (by show xs.length = c.sz.length; omega)
end
end Ru
namespace Ru
open PySem L2 Mix Gds Rms Lts Dds Prg
open Ans (Al)
def WalkOk (rs : List Rm) (k : Nat) : List Nat -> Nat -> List En -> Prop
  | _, _, [] => True
  | cur, th, .out r :: es => r < rs.length /\ r ∈ cur /\ Tr.openKids (depths rs) cur r = [] /\ th = 0 /\ WalkOk rs k (cur.erase r) th es
  | cur, th, .inn r :: es => r < rs.length /\ r ∉ cur /\ (∀ p, Tr.par (depths rs) r = some p -> p ∈ cur /\ (onB rs p = true -> Tr.openKids (depths rs) cur p = [])) /\ th = 1 /\ WalkOk rs k (cur ++ [r]) th es
  | cur, th, .thr j :: es => j = k /\ WalkOk rs k cur (th + 1) es
  | cur, th, .rc _ :: es => WalkOk rs k cur th es
  | cur, th, .door _ :: es => WalkOk rs k cur th es
  | cur, th, .take _ :: es => WalkOk rs k cur th es
def endC : List Nat -> List En -> List Nat
  | cur, [] => cur
  | cur, .out r :: es => endC (cur.erase r) es
  | cur, .inn r :: es => endC (cur ++ [r]) es
  | cur, .thr _ :: es => endC cur es
  | cur, .rc _ :: es => endC cur es
  | cur, .door _ :: es => endC cur es
  | cur, .take _ :: es => endC cur es
def endT : Nat -> List En -> Nat
  | th, [] => th
  | th, .thr _ :: es => endT (th + 1) es
  | th, .out _ :: es => endT th es
  | th, .inn _ :: es => endT th es
  | th, .rc _ :: es => endT th es
  | th, .door _ :: es => endT th es
  | th, .take _ :: es => endT th es
def inns (es : List En) : List Nat := es.filterMap fun e => match e with
  | .inn k => some k
  | _ => none
def notRc : En -> Bool
  | .rc _ => false
  | _ => true
theorem strip_walk (rs : List Rm) (k : Nat) : ∀ (es : List En) (cur : List Nat) (th : Nat), (WalkOk rs k cur th (es.filter notRc) -> WalkOk rs k cur th es) /\ endC cur (es.filter notRc) = endC cur es /\ endT th (es.filter notRc) = endT th es /\ inns (es.filter notRc) = inns es /\ outs (es.filter notRc) = outs es
  | [], _, _ => ⟨fun h => h, rfl, rfl, rfl, rfl⟩
  | .rc r :: es, cur, th => strip_walk rs k es cur th
  | .door _ :: es, cur, th => strip_walk rs k es cur th
  | .take _ :: es, cur, th => strip_walk rs k es cur th
  | .thr j :: es, cur, th => by
    have a := strip_walk rs k es cur th
    have b := strip_walk rs k es cur (th + 1)
    exact ⟨fun h => ⟨h.1, b.1 h.2⟩, a.2.1, b.2.2.1, a.2.2.2⟩
  | .out r :: es, cur, th => by
    have a := strip_walk rs k es (cur.erase r) th
    exact ⟨fun h => ⟨h.1, h.2.1, h.2.2.1, h.2.2.2.1, a.1 h.2.2.2.2⟩, a.2.1, a.2.2.1, a.2.2.2.1, congrArg (r :: ·) a.2.2.2.2⟩
  | .inn r :: es, cur, th => by
    have a := strip_walk rs k es (cur ++ [r]) th
    exact ⟨fun h => ⟨h.1, h.2.1, h.2.2.1, h.2.2.2.1, a.1 h.2.2.2.2⟩, a.2.1, a.2.2.1, congrArg (r :: ·) a.2.2.2.1, a.2.2.2.2⟩
theorem filt_rcs : ∀ rs : List Rc, (rs.map En.rc).filter notRc = []
  | [] => rfl
  | r :: rs => filt_rcs rs
theorem marks_fold (sz : List Int) (m : Nat) : ∀ (ss : List Sd), (∀ x ∈ ss, notRc x.1 = true) -> ∀ s : List Int × List Int × List En, (ss.foldl (sstep sz m) s).2.2.filter notRc = s.2.2.filter notRc ++ ss.map (·.1)
  | [], _, s => (zl17 _).symm
  | x :: ss, h, s => by
    have e : (sstep sz m s x).2.2.filter notRc = s.2.2.filter notRc ++ [x.1] := by
      show (s.2.2 ++ ([x.1] ++ (runR sz m x.2 s.1 s.2.1).map En.rc)).filter notRc = _
      rw [List.filter_append, List.filter_append, filt_rcs, zl17, List.filter_cons, if_pos (h x List.mem_cons_self)]
      rfl
    rw [List.foldl_cons, marks_fold sz m ss (fun y hy => h y (List.mem_cons_of_mem _ hy)), e, List.append_assoc]
    rfl
theorem fold_grow (sz : List Int) (m : Nat) : ∀ (ss : List Sd) (s : List Int × List Int × List En), ∃ E, (ss.foldl (sstep sz m) s).2.2 = s.2.2 ++ E
  | [], s => ⟨[], (zl17 _).symm⟩
  | x :: ss, s => by
    obtain ⟨E, hE⟩ := fold_grow sz m ss (sstep sz m s x)
    refine ⟨(x.1 :: (runR sz m x.2 s.1 s.2.1).map En.rc) ++ E, ?_⟩
    rw [List.foldl_cons, hE, <- List.append_assoc]
    rfl
theorem fold_head (sz : List Int) (m : Nat) (x : Sd) (ss : List Sd) (s : List Int × List Int × List En) : ∃ E, ((x :: ss).foldl (sstep sz m) (s.1, s.2.1, [])).2.2 = x.1 :: E := by
  obtain ⟨E, hE⟩ := fold_grow sz m ss (sstep sz m (s.1, s.2.1, []) x)
  refine ⟨(runR sz m x.2 s.1 s.2.1).map En.rc ++ E, ?_⟩
  rw [List.foldl_cons, hE]
  rfl
def marks (c : ChD) (k : Nat) (d : Dx) (os ms : List Nat) : List En := En.door k :: ((leftOf c d os).map En.out ++ (En.thr k :: ms.map En.inn))
theorem marks_run (c : ChD) (m k : Nat) (d : Dx) (os ms : List Nat) (bx l : List Int) : (ssRun c.sz m (stepsOf c k d os ms) bx l).2.2.filter notRc = marks c k d os ms := by
  unfold ssRun
  rw [marks_fold]
  · show (stepsOf c k d os ms).map (·.1) = _
    unfold stepsOf marks
    rw [zl8, zl8, zl8, List.map_map, List.map_map]
    show ([En.door k] ++ (leftOf c d os).map En.out ++ [En.thr k]) ++ ms.map En.inn = _
    simp
  · intro x hx
    unfold stepsOf at hx
    rcases zl18.mp hx with h | h
    · rcases zl18.mp h with h | h
      · rcases zl18.mp h with h | h
        · rw [zl10.mp h]
          rfl
        · obtain ⟨r, _, rfl⟩ := zl19.mp h
          rfl
      · rw [zl10.mp h]
        rfl
    · obtain ⟨r, _, rfl⟩ := zl19.mp h
      rfl
theorem walk_outs {rs : List Rm} {k : Nat} {rest : List En} : ∀ (L cur : List Nat), Tr.OutOk (depths rs) cur L -> (∀ r ∈ L, r < rs.length) -> WalkOk rs k (Tr.outAll cur L) 0 rest -> WalkOk rs k cur 0 (L.map En.out ++ rest)
  | [], cur, _, _, h => h
  | r :: L, cur, ⟨h1, h2, h3⟩, hl, h => ⟨hl r List.mem_cons_self, h1, h2, rfl, walk_outs L (cur.erase r) h3 (fun x hx => hl x (List.mem_cons_of_mem _ hx)) h⟩
theorem walk_inns {rs : List Rm} {k : Nat} : ∀ (fs cur : List Nat), Tr.InOk (depths rs) (onB rs) cur fs -> (∀ r ∈ fs, r < rs.length) -> WalkOk rs k cur 1 (fs.map En.inn)
  | [], cur, _, _ => trivial
  | r :: fs, cur, ⟨h1, h2, h3⟩, hl => ⟨hl r List.mem_cons_self, h1, h2, rfl, walk_inns fs (cur ++ [r]) h3 fun x hx => hl x (List.mem_cons_of_mem _ hx)⟩
theorem end_outs (rest : List En) : ∀ (L cur : List Nat), endC cur (L.map En.out ++ rest) = endC (Tr.outAll cur L) rest
  | [], cur => rfl
  | r :: L, cur => end_outs rest L (cur.erase r)
theorem end_inns : ∀ (fs cur : List Nat), endC cur (fs.map En.inn) = cur ++ fs
  | [], cur => (zl17 _).symm
  | r :: fs, cur => by
    show endC (cur ++ [r]) (fs.map En.inn) = _
    rw [end_inns fs, List.append_assoc]
    rfl
theorem endT_outs (rest : List En) : ∀ (L : List Nat) (th : Nat), endT th (L.map En.out ++ rest) = endT th rest
  | [], th => rfl
  | r :: L, th => endT_outs rest L th
theorem endT_inns : ∀ (fs : List Nat) (th : Nat), endT th (fs.map En.inn) = th
  | [], th => rfl
  | r :: fs, th => endT_inns fs th
theorem inns_outs (rest : List En) : ∀ L : List Nat, inns (L.map En.out ++ rest) = inns rest
  | [] => rfl
  | r :: L => inns_outs rest L
theorem inns_inns : ∀ ls : List Nat, inns (ls.map En.inn) = ls
  | [] => rfl
  | r :: ls => congrArg (r :: ·) (inns_inns ls)
theorem outs_inns : ∀ ls : List Nat, outs (ls.map En.inn) = []
  | [] => rfl
  | r :: ls => outs_inns ls
theorem outs_outs (rest : List En) : ∀ ls : List Nat, outs (ls.map En.out ++ rest) = ls ++ outs rest
  | [] => rfl
  | r :: ls => congrArg (r :: ·) (outs_outs rest ls)
theorem hun_of {c : ChD} {d : Dx} {os : List Nat} (full : Tr.FullB (depths c.rs) (onB c.rs) (alB c.rs) os) (lt : ∀ o ∈ os, o < c.rs.length) (ro : d.room ∈ os) : ∀ u, hallOf c d = some u -> u ∈ os := fun u hu => full.ups (fun o ho => by rw [yV]; exact lt o ho) d.room ro u (List.mem_of_find?_eq_some hu)
theorem hall_goal {c : ChD} {d : Dx} : ∀ u, hallOf c d = some u -> Tr.liesIn (depths c.rs) d.way.gl u = true := fun u hu => by
  have := List.find?_some hu
  rw [Bool.and_eq_true] at this
  exact this.1
theorem on_al (rs : List Rm) (p : Nat) (hp : onB rs p = true) : alB rs p = false := by
  have := of_decide_eq_true hp
  unfold alB
  rw [this]
  decide +kernel
structure Closed (c : ChD) (k : Nat) (d : Dx) (os : List Nat) (es : List En) (s' : S4) (ms : List Nat) : Prop where
  walk : WalkOk c.rs k os 0 es
  thr : endT 0 es = 1
  mem : ∀ x, x ∈ endC os es ↔ x ∈ s'.os
  full : Tr.FullB (depths c.rs) (onB c.rs) (alB c.rs) s'.os
  outs : Ru.outs es = leftOf c d os
  inns : Ru.inns es = ms
  rise : ms.Pairwise (· < ·)
  stay : isStay d.way = true -> leftOf c d os = [] /\ ms = []
  goals : isStay d.way = false -> ∀ js, (match d.way with | .back g => js = s'.ks.getD g [] | _ => js = []) -> ∀ x ∈ d.way.gl :: js, x ∈ s'.os
theorem closed_of {c : ChD} (ok : ChOk c) (fit : Fit c.rs) {k : Nat} {s s' : S4} {es : List En} {d : Dx} {ms : List Nat} (full : Tr.FullB (depths c.rs) (onB c.rs) (alB c.rs) s.os) (j : Jw c s.os s.ks) (ro : d.room ∈ s.os) (hdm : d ∈ c.ds)
    (hK : ∀ (r : Nat) (js : List Nat), s'.ks[r]? = some js -> Tr.KRow (depths c.rs) (alB c.rs) (plB c.rs) r js) (lks : s'.ks.length = c.rs.length) (hpl : ∀ x, x < (depths c.rs).length -> Tr.kids (depths c.rs) x = [] -> plB c.rs x = true)
    (hms : InsR c d s'.ks ms) (perm : s'.os.Perm (stayOf c d s.os ++ ms)) (rise : s'.os.Pairwise (· < ·)) (ees : es = (ssRun c.sz c.lb (stepsOf c k d s.os ms) s.bx s.l).2.2) : Closed c k d s.os es s' ms := by
  have ld := yV c.rs
  have lt' : ∀ o ∈ s.os, o < (depths c.rs).length := fun o ho => by rw [ld]; exact j.lt o ho
  have sm := strip_walk c.rs k es s.os 0
  have em : es.filter notRc = marks c k d s.os ms := by rw [ees]; exact marks_run c c.lb k d s.os ms s.bx s.l
  rw [em] at sm
  have ml := ins_lt ok hms
  have mo : ∀ x, x ∈ s'.os ↔ (x ∈ s.os /\ x ∉ leftOf c d s.os) ∨ x ∈ ms := fun x => by
    rw [perm.mem_iff, zl18]
    unfold stayOf
    rw [zl23, K14.in_nats]
    simp
  have eo : Ru.outs es = leftOf c d s.os := by
    rw [<- sm.2.2.2.2]
    show Ru.outs ((leftOf c d s.os).map En.out ++ (En.thr k :: ms.map En.inn)) = _
    rw [outs_outs]
    show leftOf c d s.os ++ Ru.outs (ms.map En.inn) = _
    rw [outs_inns, zl17]
  have ei : Ru.inns es = ms := by
    rw [<- sm.2.2.2.1]
    show Ru.inns ((leftOf c d s.os).map En.out ++ (En.thr k :: ms.map En.inn)) = _
    rw [inns_outs]
    exact inns_inns ms
  have et : endT 0 es = 1 := by
    rw [<- sm.2.2.1]
    show endT 0 ((leftOf c d s.os).map En.out ++ (En.thr k :: ms.map En.inn)) = _
    rw [endT_outs]
    exact endT_inns ms 1
  have ec : endC s.os es = Tr.outAll s.os (leftOf c d s.os) ++ ms := by
    rw [<- sm.2.1]
    show endC s.os ((leftOf c d s.os).map En.out ++ (En.thr k :: ms.map En.inn)) = _
    rw [end_outs]
    exact end_inns ms _
  have wk : Tr.OutOk (depths c.rs) s.os (leftOf c d s.os) -> Tr.InOk (depths c.rs) (onB c.rs) (Tr.outAll s.os (leftOf c d s.os)) ms -> WalkOk c.rs k s.os 0 es := fun h1 h2 => by
    refine sm.1 ?_
    show WalkOk c.rs k s.os 0 ((leftOf c d s.os).map En.out ++ (En.thr k :: ms.map En.inn))
    exact walk_outs _ _ h1 (fun r hr => j.lt r (by
      unfold leftOf at hr
      split at hr
      · cases hr
      · exact (zl23.mp (List.mem_reverse.mp hr)).1)) ⟨rfl, walk_inns ms _ h2 ml⟩
  by_cases hs : isStay d.way = true
  · have el : leftOf c d s.os = [] := if_pos hs
    have e2 : ms = [] := (if_pos hs).mp hms
    have eo' : ∀ x, x ∈ s'.os ↔ x ∈ s.os := fun x => by rw [mo, el, e2]; simp
    have eos : s'.os = s.os := rise_unique _ _ rise j.inc eo'
    refine ⟨wk (by rw [el]; trivial) (by rw [e2]; trivial), et, fun x => ?_, by rw [eos]; exact full, eo, ei, by rw [e2]; exact .nil, fun _ => ⟨el, e2⟩, fun z => by rw [hs] at z; cases z⟩
    rw [ec, el, e2, eos]
    show x ∈ s.os ++ [] ↔ _
    rw [zl17]
  · have hs' : isStay d.way = false := by simpa using hs
    have el : leftOf c d s.os = K14.outsOf (depths c.rs) (hallOf c d) s.os := if_neg hs
    have hms' : Tr.Ins (depths c.rs) (alB c.rs) (goalsOf d.way s'.ks) (hallOf c d) ms := (if_neg hs).mp hms
    have eu : ∀ x, K14.under (depths c.rs) x (hallOf c d) = Tr.under (depths c.rs) x (hallOf c d) := fun x => by cases hallOf c d <;> rfl
    have hL : ∀ x, x ∈ leftOf c d s.os ↔ (x ∈ s.os /\ Tr.under (depths c.rs) x (hallOf c d) = true) := fun x => by
      rw [el]
      unfold K14.outsOf
      rw [List.mem_reverse, zl23, eu]
    have hun := hun_of full j.lt ro
    have ro' := Tr.round_ok full lt' hun (on_al c.rs) (L := leftOf c d s.os) (by rw [el]; exact K14.outs_fall _ _ j.inc) hL hms'
    have mo2 : ∀ x, x ∈ s'.os ↔ ((x ∈ s.os /\ Tr.under (depths c.rs) x (hallOf c d) = false) ∨ x ∈ ms) := fun x => by
      rw [mo]
      constructor
      · rintro (⟨a, b⟩ | h)
        · refine .inl ⟨a, ?_⟩
          rw [Bool.eq_false_iff]
          exact fun z => b ((hL x).mpr ⟨a, z⟩)
        · exact .inr h
      · rintro (⟨a, b⟩ | h)
        · refine .inl ⟨a, fun z => ?_⟩
          rw [((hL x).mp z).2] at b
          cases b
        · exact .inr h
    refine ⟨wk ro'.1 ro'.2.1, et, fun x => ?_, Tr.step_full ok.good full lt' hun (fun k p hk hp => Fit.par fit (by rw [<- ld]; exact hk) hp) (fun p hp => Fit.one ok.good fit p hp) hms' rise mo2, eo, ei, hms'.1, fun z => absurd z hs, fun _ js hjs x hx => ?_⟩
    · rw [ec, ro'.2.2.1 x, mo2]
    have gl : d.way.gl < (depths c.rs).length := by rw [ld]; exact (ok.door d hdm).2.1
    have key : ∀ js, Tr.KRow (depths c.rs) (alB c.rs) (plB c.rs) d.way.gl js -> goalsOf d.way s'.ks = (if js = [] then [d.way.gl] else js) -> ∀ x ∈ d.way.gl :: js, x ∈ s'.os := fun js hj e x hx => by
      have := Tr.krow_open ok.good gl hpl hj (hall_goal (c := c) (d := d)) x hx
      rw [<- e] at this
      exact (mo2 x).mpr (.inr ((hms'.2 x).mpr this))
    cases hw : d.way with
    | stay => rw [hw] at hs'; cases hs'
    | to g =>
      rw [hw] at hjs
      have hjs : js = [] := hjs
      subst hjs
      exact key [] (.inl rfl) (by rw [hw]; rfl) x hx
    | back g =>
      rw [hw] at hjs
      have hjs : js = s'.ks.getD g [] := hjs
      have gl' : g < s'.ks.length := by
        rw [hw] at gl
        rw [lks, <- ld]
        exact gl
      have e : s'.ks[g]? = some js := by
        rw [hjs, zl11, zl1 gl']
        rfl
      refine key js ?_ ?_ x hx
      · rw [hw]
        exact hK g js e
      · rw [hw]
        show (if s'.ks.getD g [] = [] then [g] else s'.ks.getD g []) = (if js = [] then [g] else js)
        rw [hjs]
theorem krow_fold {c : ChD} (fit : Fit c.rs) {d : Dx} {os : List Nat} {ks : List (List Nat)} (full : Tr.FullB (depths c.rs) (onB c.rs) (alB c.rs) os) (j : Jw c os ks) (kp : ∀ x ∈ c.rs, Chr.KpFit x) (hK : ∀ (r : Nat) (js : List Nat), ks[r]? = some js -> Tr.KRow (depths c.rs) (alB c.rs) (plB c.rs) r js) :
    ∀ (r : Nat) (js : List Nat), (ksOf c d os ks)[r]? = some js -> Tr.KRow (depths c.rs) (alB c.rs) (plB c.rs) r js := by
  intro r js h
  have ld := yV c.rs
  unfold ksOf at h
  split at h
  · exact hK r js h
  · have hr : r < c.rs.length := by
      have := (zl4.mp h).1
      rw [kept_len, j.len] at this
      exact this
    rw [keptFold_at _ _ _ _ _ (by rw [j.len]; exact hr)] at h
    split at h
    · rename_i hc
      injection h with h
      subst h
      have lt' : ∀ o ∈ os, o < (depths c.rs).length := fun o ho => by rw [ld]; exact j.lt o ho
      have ro : r ∈ os := by
        have := hc.1
        unfold leftOf at this
        split at this
        · cases this
        · exact (zl23.mp (List.mem_reverse.mp this)).1
      have er := zl1 hr
      have eks := keeps_at er
      unfold keptV insideOf
      rcases kp _ (zl22 hr) with z | ⟨z, z2⟩ | z
      · rw [z] at eks
        exact absurd eks hc.2
      · rw [z] at eks
        rw [if_pos eks]
        have ho : onB c.rs r = true := by
          unfold onB
          rw [kind_at er, z2]
          exact decide_eq_true rfl
        obtain ⟨x, x1, x2, x3, _⟩ := Tr.near_kid full lt' ro ho (on_al _ _ ho)
        rw [x3]
        exact .inr (.inl ⟨x, rfl, lt' x x1, x2⟩)
      · rw [z] at eks
        rw [eks, if_neg (by decide +kernel)]
        refine .inr (.inr ⟨_, full.sub lt' (fun k p hk hp => Fit.par fit (by rw [<- ld]; exact hk) hp) ro, fun x => ?_⟩)
        rw [zl23, zl23, zl23, Bool.or_eq_true, decide_eq_true_iff]
        constructor
        · rintro ⟨⟨a, b⟩, e⟩
          have := Tr.lies_lt b
          exact ⟨⟨a, .inr b⟩, e, by omega⟩
        · rintro ⟨⟨a, b⟩, e, f⟩
          exact ⟨⟨a, b.resolve_left f⟩, e⟩
    · exact hK r js h
theorem plain_kids {rs : List Rm} (fit : Fit rs) : ∀ x, x < (depths rs).length -> Tr.kids (depths rs) x = [] -> plB rs x = true := by
  intro x hx hk
  have ld := yV rs
  have er := zl1 (show x < rs.length by omega)
  have q := fit x _ er
  unfold plB
  rw [kind_at er]
  by_cases c : x + 1 < rs.length /\ (depths rs).getD x 0 < (depths rs).getD (x + 1) 0
  · have m : x + 1 ∈ Tr.kids (depths rs) x := Tr.mem_kids.mpr ⟨by omega, Tr.par_iff.mpr ⟨by omega, c.2, fun i h1 h2 => by omega⟩⟩
    rw [hk] at m
    cases m
  · rw [if_neg c] at q
    exact decide_eq_true q
end Ru
namespace Ru
open PySem L2 Mix Gds Rms Lts Dds Prg
open Ans (Al spLLies)
theorem dstr (x y : Str) : decide (V.str x = V.str y) = decide (x = y) := decide_eq_decide.mpr ⟨fun h => by injection h, fun h => by rw [h]⟩
def lastTo (f : Nat -> Bool) : Nat -> Option Nat
  | 0 => none
  | n + 1 => if f n = true then some n else lastTo f n
theorem last_none {f : Nat -> Bool} : ∀ n, (∀ x, x < n -> f x = false) -> lastTo f n = none
  | 0, _ => rfl
  | n + 1, h => by
    show (if f n = true then some n else lastTo f n) = none
    rw [if_neg (by rw [h n (by omega)]; decide)]
    exact last_none n fun x hx => h x (by omega)
theorem last_some {f : Nat -> Bool} {u : Nat} (hu : f u = true) : ∀ n, u < n -> (∀ x, u < x -> x < n -> f x = false) -> lastTo f n = some u
  | 0, h, _ => by omega
  | n + 1, h, g => by
    show (if f n = true then some n else lastTo f n) = some u
    by_cases e : u = n
    · rw [<- e, if_pos hu]
    · rw [if_neg (by rw [g n (by omega) (by omega)]; decide)]
      exact last_some hu n (by omega) fun x h1 h2 => g x h1 (by omega)
theorem hall_last {ds : List Int} {is : Nat -> Bool} {a b n : Nat} (ha : a < n) : lastTo (fun x => is x && (Tr.liesIn ds a x && Tr.liesIn ds b x)) n = Tr.hall ds is a b := by
  unfold Tr.hall Tr.liesIn
  cases e : (Tr.ups ds a).find? (fun x => (Tr.ups ds b).contains x && is x) with
  | none =>
    refine last_none n fun x _ => ?_
    cases h1 : (Tr.ups ds a).contains x with
    | false => rw [Bool.false_and, Bool.and_false]
    | true =>
      have := List.find?_eq_none.mp e x (List.contains_iff_mem.mp h1)
      cases h2 : (Tr.ups ds b).contains x with
      | false => rw [Bool.and_false, Bool.and_false]
      | true =>
        rw [h2, Bool.true_and] at this
        rw [Bool.eq_false_iff.mpr this, Bool.false_and]
  | some u =>
    have hm := List.mem_of_find?_eq_some e
    have hp := List.find?_some e
    rw [Bool.and_eq_true] at hp
    have ua := Tr.ups_lt hm
    refine last_some (by rw [hp.2, List.contains_iff_mem.mpr hm, hp.1]; rfl) n (by omega) fun x h1 _ => ?_
    cases hx : (is x && ((Tr.ups ds a).contains x && (Tr.ups ds b).contains x)) with
    | false => rfl
    | true =>
      exfalso
      rw [Bool.and_eq_true, Bool.and_eq_true] at hx
      obtain ⟨x1, x2, x3⟩ := hx
      obtain ⟨_, as, bs, e2, no⟩ := List.find?_eq_some_iff_append.mp e
      have xm := List.contains_iff_mem.mp x2
      have desc := Tr.ups_desc ds a
      rw [e2] at xm desc
      rcases zl18.mp xm with z | z
      · have := no x z
        rw [x3, x1] at this
        cases this
      · rcases zl16.mp z with z | z
        · omega
        · have := (List.pairwise_cons.mp (List.pairwise_append.mp desc).2.1).1 x z
          omega
def spLHall : Sp := fun vs H Q _ => ∃ (t : Addr) (rs : List Rm) (one other : Nat), vs = [.ref t, .int (one : Int), .int (other : Int)] /\ Rooms H t rs /\ rs.length <= 40 /\ one < rs.length /\ other < rs.length /\ Q (pV (Tr.hall (depths rs) (K09.isOne rs) one other)) H
def parsV (ds : List Int) (n : Nat) : List V := (List.range n).map fun k => pV (Tr.par ds k)
theorem parsV_len (ds : List Int) (n : Nat) : (parsV ds n).length = n := by
  unfold parsV
  rw [zl0, List.length_range]
theorem parsV_at {ds : List Int} {n k : Nat} (h : k < n) : (parsV ds n)[k]? = some (pV (Tr.par ds k)) := by
  unfold parsV
  rw [zl20, List.getElem?_range h]
  rfl
theorem parsV_succ (ds : List Int) (n : Nat) : parsV ds (n + 1) = parsV ds n ++ [pV (Tr.par ds n)] := by
  unfold parsV
  rw [List.range_succ, zl8]
  rfl
def spLPar : Sp := fun vs H Q _ => ∃ (t : Addr) (rs : List Rm), vs = [.ref t] /\ Rooms H t rs /\ Tr.Good (depths rs) /\ rs.length <= 40 /\ ∀ (p : Addr) (H' : Hp), Same H H' -> H p = none -> H' p = some (.lst (parsV (depths rs) rs.length)) -> Q (.ref p) H'
def lower (ds : List Int) (k : Nat) : List Nat := (List.range k).filter fun j => decide (ds.getD j 0 < ds.getD k 0)
theorem lower_par {ds : List Int} (g : Tr.Good ds) {k : Nat} (h0 : 0 < k) (h : k < ds.length) : lower ds k ≠ [] /\ Tr.par ds k = some ((lower ds k).getD ((lower ds k).length - 1) 0) := by
  obtain ⟨p, hp⟩ := g.par_some h0 h
  obtain ⟨p1, p2, p3⟩ := Tr.par_iff.mp hp
  have pm : p ∈ lower ds k := zl23.mpr ⟨List.mem_range.mpr p1, decide_eq_true p2⟩
  have top : ∀ x ∈ lower ds k, x <= p := fun x hx => by
    obtain ⟨a, b⟩ := zl23.mp hx
    have a := List.mem_range.mp a
    have b := of_decide_eq_true b
    refine Classical.byContradiction fun z => ?_
    have := p3 x (by omega) a
    omega
  have rise : (lower ds k).Pairwise (· < ·) := List.pairwise_lt_range.filter _
  have ne : lower ds k ≠ [] := fun z => by rw [z] at pm; cases pm
  refine ⟨ne, ?_⟩
  rw [hp]
  congr 1
  generalize lower ds k = L at pm top rise ne
  have lp := List.length_pos_iff.mpr ne
  rw [zl11, zl1 (show L.length - 1 < L.length by omega)]
  show p = L[L.length - 1]
  obtain ⟨i, hi, e⟩ := List.mem_iff_getElem.mp pm
  have t := top _ (zl22 (show L.length - 1 < L.length by omega))
  by_cases q : i = L.length - 1
  · rw [<- e]
    simp only [q]
  · have := List.pairwise_iff_getElem.mp rise i (L.length - 1) hi (by omega) (by omega)
    omega
def spLFull : Sp := fun vs H Q _ => ∃ (t pp po : Addr) (rs : List Rm) (os : List Nat), vs = [.ref t, .ref pp, .ref po] /\ Rooms H t rs /\ Tr.Good (depths rs) /\ rs.length <= 40 /\ H pp = some (.lst (parsV (depths rs) rs.length)) /\ H po = some (.tup (natsV os)) /\ (∀ o ∈ os, o < rs.length) /\ Tr.FullB (depths rs) (onB rs) (alB rs) os /\ ∀ H', Same H H' -> Q (.bl true) H'
theorem par_dec (ds : List Int) (j r : Nat) : decide (pV (Tr.par ds j) = V.int (r : Int)) = (Tr.par ds j == some r) := by
  cases e : Tr.par ds j with
  | none => rfl
  | some p =>
    rw [Bool.eq_iff_iff, decide_eq_true_iff, beq_iff_eq]
    constructor
    · intro h
      have h : V.int (p : Int) = V.int (r : Int) := h
      injection h with h
      rw [show p = r by omega]
    · intro h
      injection h with h
      rw [h]
      rfl
section
variable {P : Program} {w : World} {K : PySem.W.Frag} {mg : Str -> Option Value} {base : Heap}
theorem sc_law_hall : FnScope ["_law_rooms_here", "_law_one", "_law_other", "_law_hall_here", "_law_k"] ["_law_rooms_here", "_law_one", "_law_other"] (defScope s_L_hall) := ⟨rfl, rfl, rfl, by decide +kernel, rfl, by decide +kernel, by decide +kernel⟩
theorem ok_lhall {n : Nat} {f gl : Addr} {fd dl : FuncData} (F : Fun K "_law_hall" "_law_hall" s_L_hall f fd)
    (Gl_lies : FnOk P w K mg base CX0 n gl dl ["_law_rooms_here", "_law_one", "_law_other"] spLLies) (bl_lies : Binds K dl ["_law_rooms_here", "_law_one", "_law_other"] []) (kl_lies : KI K gl) (ml_lies : mg "_law_lies" = some (.ref gl)) (m_range : mg "range" = none) (m_len : mg "len" = none) :
    FnOk P w K mg base CX0 (n + 1) f fd ["_law_rooms_here", "_law_one", "_law_other"] spLHall := by
  refine F.ok sc_law_hall (fun vs H Q E h => ?_) (fun cdv A outer s H vs Q E hr h => ?_)
  · obtain ⟨t, rs, one, other, rfl, _⟩ := h
    rfl
  obtain ⟨t, rs, one, other, rfl, hR, r40, h1, h2, q⟩ := h
  refine ⟨_, (zE (zK (i := 3) sc_law_hall.nd rfl (Or.inl rfl) pe_non)
   (zZ (ps_for PassesOwn.never rfl (pi_range1 rfl m_range (zA (zS zN rfl m_len PySem.boot_len (zA (pv 0) zD)) zD)) (yJ (i := 4) sc_law_hall.nd rfl (Or.inl rfl))
   (zG (yD (pt_cut (PW.pt (pw_and (zL yG (yB zH (yB zH (pv 0) (pv 4) (fun _ _ => rfl)) zB (fun _ _ => rfl)) zP (zR _)) (pw_and (pt_val (zJ Gl_lies hr rfl ml_lies kl_lies bl_lies .nil yE (zA (pv 0) (zA (pv 1) (zA (pv 4) zD))))) (yP (pt_val (zJ Gl_lies hr rfl ml_lies kl_lies bl_lies .nil yE (zA (pv 0) (zA (pv 2) (zA (pv 4) zD))))))))))
   (zG (zK (i := 3) sc_law_hall.nd rfl (Or.inl rfl) (pv 4)))
   zT)))
   (zG (zO (pv 3))))), ?_⟩
  obtain ⟨rv, htr, hrs⟩ := id hR
  have lrv := hrs.length
  obtain ⟨f, hf⟩ : ∃ f : Nat -> Bool, f = fun x => K09.isOne rs x && (Tr.liesIn (depths rs) one x && Tr.liesIn (depths rs) other x) := ⟨_, rfl⟩
  refine ⟨fun σ' H' => H = H' /\ ∃ o4 : Option V, σ' = [some (.ref t), some (.int (one : Int)), some (.int (other : Int)), some (pV (lastTo f rs.length)), o4], ?_, ?_⟩
  · refine ⟨_, rfl, t, _, rfl, .inr (SqT.of htr), _, rfl, by omega, by omega, ?_⟩
    refine for_range (fun i σ' H' => H = H' /\ ∃ o4 : Option V, σ' = [some (.ref t), some (.int (one : Int)), some (.int (other : Int)), some (pV (lastTo f i)), o4]) ⟨rfl, none, rfl⟩ ?_ ?_
    · rintro i σ' _ hi ⟨rfl, o4, rfl⟩
      have hi' : i < rs.length := by
        simp at hi
        omega
      obtain ⟨vr, hvr, ar, rfl, har⟩ := hrs.get (zl1 hi')
      have hatr : atI rv (0 + (i : Int)) = some (.ref ar) := by
        rw [Int.zero_add]
        exact yQ hvr
      have e1 : K09.isOne rs i = decide (V.str rs[i].kind = V.str ("one" : Str)) := by
        unfold K09.isOne
        rw [zl1 hi']
      refine ⟨fun b H' => H = H' /\ b = f i, ?_, ?_⟩
      · refine ⟨_, rfl, _, rfl, t, _, _, _, rfl, rfl, SqT.of htr, hatr, ar, _, _, _, rfl, rfl, SqT.of har, rfl, rfl, _, rfl, itB (fun z => ?_) (fun z => ?_)⟩
        · have z : K09.isOne rs i = true := e1.trans z
          refine ⟨_, rfl, _, rfl, _, rfl, t, rs, _, _, one, i, rfl, rfl, by omega, hR, by omega, h1, hi', _, rfl, itB (fun y => ?_) (fun y => ?_)⟩
          · exact ⟨_, rfl, _, rfl, _, rfl, t, rs, _, _, other, i, rfl, rfl, by omega, hR, by omega, h2, hi', _, rfl, rfl, by rw [hf]; show _ = (K09.isOne rs i && (Tr.liesIn (depths rs) one i && _)); rw [z, y]; rfl⟩
          · exact ⟨rfl, by rw [hf]; show false = (K09.isOne rs i && (Tr.liesIn (depths rs) one i && _)); rw [y, Bool.false_and, Bool.and_false]⟩
        · have z : K09.isOne rs i = false := e1.trans z
          exact ⟨rfl, by rw [hf]; show false = (K09.isOne rs i && _); rw [z, Bool.false_and]⟩
      rintro b _ ⟨rfl, hb⟩
      refine itB (fun z => ?_) (fun z => ?_)
      · rw [hb] at z
        refine ⟨_, rfl, rfl, some (.int (0 + (i : Int))), ?_⟩
        show _ = [_, _, _, some (pV (if f i = true then some i else lastTo f i)), _]
        rw [if_pos z, Int.zero_add]
        rfl
      · rw [hb] at z
        refine ⟨rfl, some (.int (0 + (i : Int))), ?_⟩
        show _ = [_, _, _, some (pV (if f i = true then some i else lastTo f i)), _]
        rw [if_neg (by rw [z]; decide)]
        rfl
    · rintro σ' _ ⟨rfl, o4, rfl⟩
      rw [show ((rv.length : Int)).toNat = rs.length by omega]
      exact ⟨rfl, o4, rfl⟩
  rintro σ' _ ⟨rfl, o4, rfl⟩
  rw [hf, hall_last h1]
  exact ⟨_, rfl, q⟩
theorem sc_law_parents : FnScope ["_law_rooms_here", "_law_found", "_law_k"] ["_law_rooms_here"] (defScope sParents) := ⟨rfl, rfl, rfl, by decide +kernel, rfl, by decide +kernel, by decide +kernel⟩
theorem ok_lparents {f : Addr} {fd : FuncData} (F : Fun K "_law_parents" "_law_parents" sParents f fd) (m_range : mg "range" = none) (m_len : mg "len" = none) (m_max : mg "max" = none) : FnOk P w K mg base CX0 1 f fd ["_law_rooms_here"] spLPar := by
  refine F.ok sc_law_parents (fun vs H Q E h => ?_) (fun cdv A outer s H vs Q E hr h => ?_)
  · obtain ⟨t, rs, rfl, _⟩ := h
    rfl
  obtain ⟨t, rs, rfl, hR, good, r40, q⟩ := h
  refine ⟨_, (zE (zK (i := 1) sc_law_parents.nd rfl (Or.inl rfl) (yK (zA pe_non zD)))
   (zZ (ps_for PassesOwn.never rfl (pi_range2 rfl m_range (zA zB (zA (zS zN rfl m_len PySem.boot_len (zA (pv 0) zD)) zD))) (yJ (i := 2) sc_law_parents.nd rfl (Or.inr rfl))
   (zG (yI (pe_bm PySem.F.plainAttrs_list PySem.F.slot_list_append PySem.F.type_list_append yH (pv 1) (zA (zS (call_maxR rfl) rfl m_max PyProof.Rows.boot_max (zA (yT (caps := [(0, "_law_rooms_here"), (2, "_law_k")]) rfl (show CompSc (defScope sParents) ["_law_rooms_here", "_law_found", "_law_k"] _ _ _ from ⟨rfl, rfl, by decide +kernel, by decide +kernel, by decide +kernel, by decide +kernel, by decide +kernel⟩) (pi_range1 rfl m_range (zA (pv 2) zD)) (fun _ _ _ _ _ _ => pifs_one (zL op_lt (yB (r := rIxT K) zH (yB (r := rIxT K) zH (pv 1) (pv 0) (fun _ _ => rfl)) zB (fun _ _ => rfl)) (yB (r := rIxT K) zH (yB (r := rIxT K) zH (pv 1) (pv 2) (fun _ _ => rfl)) zB (fun _ _ => rfl)) (zR _))) (fun _ _ _ _ _ _ => (pv 0))) zD)) zD)))))
   (zG (zO (pv 1))))), ?_⟩
  obtain ⟨rv, htr, hrs⟩ := id hR
  have lrv := hrs.length
  have ld := yV rs
  have l1 := good.pos
  refine ⟨zI (by show 1 <= 1000; decide), fun p1 hp1 => ?_⟩
  have u1 := zF hp1 (.lst [V.non])
  have i1 : upd H p1 (.lst [V.non]) p1 = some (.lst (parsV (depths rs) 1)) := zC
  generalize upd H p1 (.lst [V.non]) = H1 at u1 i1 ⊢
  refine ⟨fun σ' H' => ∃ o2 : Option V, Same H H' /\ H' p1 = some (.lst (parsV (depths rs) rs.length)) /\ σ' = [some (.ref t), some (.ref p1), o2], ?_, ?_⟩
  · refine ⟨_, rfl, t, _, rfl, .inr (SqT.of (u1 _ _ htr)), 1, _, rfl, ⟨by decide, by decide, by omega, by omega⟩, ?_⟩
    refine for_range (fun i σ' H' => ∃ o2 : Option V, Same H H' /\ H' p1 = some (.lst (parsV (depths rs) (i + 1))) /\ σ' = [some (.ref t), some (.ref p1), o2]) ⟨none, u1, i1, rfl⟩ ?_ ?_
    · rintro i σ' H2 hi ⟨o2, s2, h2, rfl⟩
      have hi' : i + 1 < rs.length := by omega
      obtain ⟨vr, hvr, ar, rfl, har⟩ := hrs.get (zl1 hi')
      have hatr : atI rv (1 + (i : Int)) = some (.ref ar) := by
        rw [show (1 : Int) + (i : Int) = ((i + 1 : Nat) : Int) by omega]
        exact yQ hvr
      have dr : (depths rs).getD (i + 1) 0 = rs[i + 1].depth := depths_at (zl1 hi')
      obtain ⟨lne, lpar⟩ := lower_par good (show 0 < i + 1 by omega) (by omega)
      refine ⟨_, rfl, .inl ⟨rfl, _, SqL.of h2⟩, _, rfl, _, rfl, by omega, by omega, ?_⟩
      have e1 : ((1 + (i : Int)) : Int).toNat = i + 1 := by omega
      rw [e1]
      refine comp_filtR (by omega) (fun j => decide ((depths rs).getD j 0 < (depths rs).getD (i + 1) 0)) (fun o ho Zb hz => ?_) (fun o Zv hz => ⟨_, rfl, hz⟩) (fun p3 hp3 => ?_)
      · have ho' : o < rs.length := by omega
        obtain ⟨vo, hvo, ao, rfl, hao⟩ := hrs.get (zl1 ho')
        have hato : atI rv (0 + (o : Int)) = some (.ref ao) := by
          rw [Int.zero_add]
          exact yQ hvo
        have dO : (depths rs).getD o 0 = rs[o].depth := depths_at (zl1 ho')
        rw [dr, dO] at hz
        exact ⟨_, rfl, _, rfl, t, _, _, _, rfl, rfl, SqT.of (s2 _ _ htr), hato, ao, _, _, _, rfl, rfl, SqT.of (s2 _ _ hao), rfl, _, rfl, _, rfl, t, _, _, _, rfl, rfl, SqT.of (s2 _ _ htr), hatr, ar, _, _, _, rfl, rfl, SqT.of (s2 _ _ har), rfl, _, _, rfl, rfl, _, rfl, hz⟩
      have eL : (List.range (i + 1)).filter (fun j => decide ((depths rs).getD j 0 < (depths rs).getD (i + 1) 0)) = lower (depths rs) (i + 1) := rfl
      rw [eL]
      have u3 := zF hp3 (.lst (natsV (lower (depths rs) (i + 1))))
      have i3 : upd H2 p3 (.lst (natsV (lower (depths rs) (i + 1)))) p3 = some (.lst (((lower (depths rs) (i + 1)).map fun j : Nat => (j : Int)).map V.int)) := by
        rw [zC, List.map_map]
        rfl
      generalize upd H2 p3 (.lst (natsV (lower (depths rs) (i + 1)))) = H3 at u3 i3 ⊢
      have rise : ((lower (depths rs) (i + 1)).map fun j : Nat => (j : Int)).Pairwise (· < ·) := List.pairwise_map.mpr ((List.pairwise_lt_range.filter _).imp fun h => by omega)
      have h3 := u3 _ _ h2
      have n1 := s2.free hp3
      refine ⟨p3, _, rfl, SqL.of i3, (fun z => lne (List.map_eq_nil_iff.mp z)), rise, p1, _, _, rfl, rfl, h3, zV (by rw [parsV_len]; omega), _, same_upd hp1 (s2.trans u3) _, ?_, rfl⟩
      rw [zC, parsV_succ (depths rs) (i + 1), lpar, zl0]
      have lp := List.length_pos_iff.mpr lne
      generalize lower (depths rs) (i + 1) = L at lp
      rw [zl11, zl11, zl20, zl1 (show L.length - 1 < L.length by omega)]
      rfl
    · rintro σ' H2 ⟨o2, s2, h2, rfl⟩
      rw [show ((rv.length : Int) - 1).toNat + 1 = rs.length by omega] at h2
      exact ⟨o2, s2, h2, rfl⟩
  rintro σ' H2 ⟨o2, s2, h2, rfl⟩
  exact ⟨_, rfl, q p1 H2 s2 hp1 h2⟩
theorem sc_law_is_full : FnScope ["_law_rooms_here", "_law_parents_here", "_law_opening", "_law_room", "_law_beneath", "_law_many"] ["_law_rooms_here", "_law_parents_here", "_law_opening"] (defScope s_L_is_full) := ⟨rfl, rfl, rfl, by decide +kernel, rfl, by decide +kernel, by decide +kernel⟩
theorem ok_lfull {f : Addr} {fd : FuncData} (F : Fun K "_law_is_full" "_law_is_full" s_L_is_full f fd) (m_range : mg "range" = none) (m_len : mg "len" = none) : FnOk P w K mg base CX0 1 f fd ["_law_rooms_here", "_law_parents_here", "_law_opening"] spLFull := by
  refine F.ok sc_law_is_full (fun vs H Q E h => ?_) (fun cdv A outer s H vs Q E hr h => ?_)
  · obtain ⟨t, pp, po, rs, os, rfl, _⟩ := h
    rfl
  obtain ⟨t, pp, po, rs, os, rfl, hR, good, r40, hpp, hpo, olt, full, q⟩ := h
  refine ⟨_, (zZ (ps_for PassesOwn.never rfl (pi_tup (pv 2)) (yJ (i := 3) sc_law_is_full.nd rfl (Or.inr rfl))
   (zE (ps_setC (i := 4) (caps := [(3, "_law_room"), (1, "_law_parents_here")]) rfl sc_law_is_full.nd rfl (Or.inl rfl) (show CompSc (defScope s_L_is_full) ["_law_rooms_here", "_law_parents_here", "_law_opening", "_law_room", "_law_beneath", "_law_many"] _ _ _ from ⟨rfl, rfl, by decide +kernel, by decide +kernel, by decide +kernel, by decide +kernel, by decide +kernel⟩) (pi_range1 rfl m_range (zA (zS zN rfl m_len PySem.boot_len (zA (pv 0) zD)) zD)) (fun _ _ _ _ _ _ => pifs_one (zL (r := rEq) yG (yB (r := rIxL K) yU (pv 2) (pv 0) (fun _ _ => rfl)) (pv 1) (zR _))) (fun _ _ _ _ _ _ => (pv 0)))
   (zE (zK (i := 5) sc_law_is_full.nd rfl (Or.inl rfl) (zS zN rfl m_len PySem.boot_len (zA (yT (caps := [(2, "_law_opening")]) rfl (show CompSc (defScope s_L_is_full) ["_law_rooms_here", "_law_parents_here", "_law_opening", "_law_room", "_law_beneath", "_law_many"] _ _ _ from ⟨rfl, rfl, by decide +kernel, by decide +kernel, by decide +kernel, by decide +kernel, by decide +kernel⟩) (yM (pv 4)) (fun _ _ _ _ _ _ => pifs_one (zL (r := rIn K false) op_in_seq (pv 0) (pv 1) rfl)) (fun _ _ _ _ _ _ => (pv 0))) zD)))
   (zE (yD (pt_cut (PW.pt (pw_and (zL yG (yB zH (yB zH (pv 0) (pv 3) (fun _ _ => rfl)) zB (fun _ _ => rfl)) zP (zR _)) (yP (zL op_ne (pv 5) zB (zR _))))))
   (zG (zO pe_bl))
   zT)
   (zE (yD (pt_cut (PW.pt (pw_and (zL yG (yB zH (yB zH (pv 0) (pv 3) (fun _ _ => rfl)) zB (fun _ _ => rfl)) zP (zR _)) (yP (zL op_ne (pv 5) (zS zN rfl m_len PySem.boot_len (zA (pv 4) zD)) (zR _))))))
   (zG (zO pe_bl))
   zT)
   (zG (yD (pt_cut (PW.pt (pw_and (zL op_gt (pv 3) zB (zR _)) (yP (zL op_notIn_seq (yB yU (pv 1) (pv 3) (fun _ _ => rfl)) (pv 2) rfl)))))
   (zG (zO pe_bl))
   zT)))))))
   (zG (zO (pe_cmpR op_in_seq zB (pv 2) rfl)))), ?_⟩
  obtain ⟨rv, htr, hrs⟩ := id hR
  have lrv := hrs.length
  have ld := yV rs
  have lt' : ∀ o ∈ os, o < (depths rs).length := fun o ho => by rw [ld]; exact olt o ho
  have ollen : os.length <= 40 := Nat.le_trans (Tr.nodup_lt _ _ (Tr.nodup_rise full.1) olt) r40
  refine ⟨fun σ' H' => Same H H' /\ ∃ o3 o4 o5 : Option V, σ' = [some (.ref t), some (.ref pp), some (.ref po), o3, o4, o5], ?_, ?_⟩
  · refine ⟨_, rfl, po, rfl, ⟨_, SqT.of hpo⟩, ?_⟩
    refine for_tup (K := K) (a := po) (xs := natsV os) (fun i σ' H' => Same H H' /\ ∃ o3 o4 o5 : Option V, σ' = [some (.ref t), some (.ref pp), some (.ref po), o3, o4, o5]) ⟨Same.refl _, none, none, none, rfl⟩ (fun i σ' H' _ z => SqT.of (z.1 _ _ hpo)) ?_ (fun _ _ z => z)
    rintro i x σ' H2 hx ⟨s2, o3, o4, o5, rfl⟩
    obtain ⟨hi, rfl⟩ := yR hx
    have ro := zl22 hi
    generalize os[i] = r at ro
    have rl := olt r ro
    obtain ⟨vr, hvr, ar, rfl, har⟩ := hrs.get (zl1 rl)
    have hatr := yQ hvr
    have ek := kind_at (zl1 rl)
    have cnt := full.2.1 r (lt' r ro)
    unfold Tr.want at cnt
    rw [decide_eq_true ro, Bool.true_and, Bool.true_and] at cnt
    refine ⟨_, rfl, t, _, rfl, .inr (SqT.of (s2 _ _ htr)), _, rfl, by omega, by omega, ?_⟩
    refine comp_filtR (by omega) (fun j => Tr.par (depths rs) j == some r) (fun o ho Zb hz => ?_) (fun o Zv hz => ⟨_, rfl, hz⟩) (fun p3 hp3 => ?_)
    · have ho' : o < rs.length := by omega
      have hat : atI (parsV (depths rs) rs.length) (0 + (o : Int)) = some (pV (Tr.par (depths rs) o)) := by
        rw [Int.zero_add]
        exact yQ (parsV_at ho')
      rw [<- par_dec] at hz
      exact ⟨_, rfl, _, rfl, pp, _, _, _, rfl, rfl, SqL.of (s2 _ _ hpp), hat, _, rfl, (by cases Tr.par (depths rs) o <;> rfl), _, rfl, hz⟩
    have eK : (List.range ((rv.length : Int)).toNat).filter (fun j => Tr.par (depths rs) j == some r) = Tr.kids (depths rs) r := by
      rw [zl24, lrv, <- ld]
      rfl
    rw [eK]
    have u3 := zF hp3 (.lst (natsV (Tr.kids (depths rs) r)))
    have i3 : upd H2 p3 (.lst (natsV (Tr.kids (depths rs) r))) p3 = some (.lst (natsV (Tr.kids (depths rs) r))) := zC
    generalize upd H2 p3 (.lst (natsV (Tr.kids (depths rs) r))) = H3 at u3 i3 ⊢
    have s3 := s2.trans u3
    have lk : (Tr.kids (depths rs) r).length <= 40 := by
      have := Tr.kidsTo_len (depths rs) r (depths rs).length
      have e : Tr.kids (depths rs) r = Tr.kidsTo (depths rs) r (depths rs).length := rfl
      rw [e]
      omega
    refine ⟨_, rfl, p3, rfl, ⟨_, SqL.of i3⟩, ?_⟩
    refine comp_filt i3 (by omega) (fun k => decide (k ∈ os)) (fun o ho Zb hz => ?_) (fun o Zv hz => ⟨_, rfl, hz⟩) (fun p4 hp4 => ?_)
    · rw [<- K14.in_nats] at hz
      exact ⟨_, rfl, _, rfl, po, _, rfl, .inr (SqT.of (s3 _ _ hpo)), rfl, nats_flat _, _, rfl, hz⟩
    have eO : (Tr.kids (depths rs) r).filter (fun k => decide (k ∈ os)) = Tr.openKids (depths rs) os r := rfl
    rw [eO]
    have u4 := zF hp4 (.lst (natsV (Tr.openKids (depths rs) os r)))
    have i4 : upd H3 p4 (.lst (natsV (Tr.openKids (depths rs) os r))) p4 = some (.lst (natsV (Tr.openKids (depths rs) os r))) := zC
    generalize upd H3 p4 (.lst (natsV (Tr.openKids (depths rs) os r))) = H4 at u4 i4 ⊢
    have s4 := s3.trans u4
    have l4 : ((natsV (Tr.openKids (depths rs) os r)).length : Int) = ((Tr.openKids (depths rs) os r).length : Int) := by rw [zU]
    refine ⟨p4, _, rfl, .inl (SqL.of i4), ?_⟩
    rw [l4]
    refine ⟨fun b H' => H4 = H' /\ b = false, ?_, ?_⟩
    · refine ⟨_, rfl, _, rfl, t, _, _, _, rfl, rfl, SqT.of (s4 _ _ htr), hatr, ar, _, _, _, rfl, rfl, SqT.of (s4 _ _ har), rfl, rfl, _, rfl, itB (fun z => ?_) (fun z => ⟨rfl, rfl⟩)⟩
      rw [dstr, <- ek] at z
      have ho : onB rs r = true := z
      rw [on_al _ _ ho, if_neg zl6, ho, if_pos rfl] at cnt
      refine ⟨_, rfl, rfl, _, rfl, rfl, ?_⟩
      rw [cnt]
      rfl
    rintro _ _ ⟨rfl, rfl⟩
    refine iteF ?_
    refine ⟨fun b H' => H4 = H' /\ b = false, ?_, ?_⟩
    · refine ⟨_, rfl, _, rfl, t, _, _, _, rfl, rfl, SqT.of (s4 _ _ htr), hatr, ar, _, _, _, rfl, rfl, SqT.of (s4 _ _ har), rfl, rfl, _, rfl, itB (fun z => ?_) (fun z => ⟨rfl, rfl⟩)⟩
      rw [dstr, <- ek] at z
      have ha : alB rs r = true := z
      rw [ha, if_pos rfl] at cnt
      refine ⟨_, rfl, _, rfl, p3, _, rfl, .inl (SqL.of (u4 _ _ i3)), rfl, _, rfl, rfl, ?_⟩
      rw [cnt, zU]
      simp
    rintro _ _ ⟨rfl, rfl⟩
    refine iteF ?_
    refine ⟨fun b H' => H4 = H' /\ b = false, ?_, ?_⟩
    · refine ⟨_, rfl, _, _, rfl, rfl, _, rfl, itB (fun z => ?_) (fun z => ⟨rfl, rfl⟩)⟩
      have z := of_decide_eq_true z
      obtain ⟨p, hp⟩ := good.par_some (show 0 < r by omega) (by omega)
      have pin := full.up lt' ro hp
      have hat : atI (parsV (depths rs) rs.length) (r : Int) = some (V.int (p : Int)) := by
        have := yQ (parsV_at (ds := depths rs) rl)
        rw [hp] at this
        exact this
      refine ⟨_, rfl, _, rfl, pp, _, _, _, rfl, rfl, SqL.of (s4 _ _ hpp), hat, _, rfl, po, _, rfl, .inr (SqT.of (s4 _ _ hpo)), rfl, nats_flat _, _, rfl, rfl, ?_⟩
      rw [K14.in_nats, decide_eq_true pin]
      rfl
    rintro _ _ ⟨rfl, rfl⟩
    exact iteF ⟨s4, _, _, _, rfl⟩
  rintro σ' H2 ⟨s2, o3, o4, o5, rfl⟩
  refine ⟨_, rfl, po, _, rfl, .inr (SqT.of (s2 _ _ hpo)), rfl, nats_flat _, ?_⟩
  have e0 : inV (.int 0) (natsV os) = true := (K14.in_nats 0 os).trans (decide_eq_true full.2.2)
  rw [e0]
  exact q H2 s2
end
end Ru
namespace Mix
open PySem L2
def spWhole : Sp := fun vs H Q _ => ∃ n : Int, vs = [.int n] /\ Q (.bl true) H
section
variable {P : Program} {w : World} {K : PySem.W.Frag} {mg : Str -> Option Value} {base : Heap}
theorem sc_law_whole : FnScope ["_law_found"] ["_law_found"] (defScope sWhole) := ⟨rfl, rfl, rfl, by decide +kernel, rfl, by decide +kernel, by decide +kernel⟩
theorem ok_whole {f : Addr} {fd : FuncData} (F : Fun K "_law_whole" "_law_whole" sWhole f fd) (m_isinstance : mg "isinstance" = none) (m_int : mg "int" = none) (m_bool : mg "bool" = none) : FnOk P w K mg base CX0 1 f fd ["_law_found"] spWhole := by
  refine F.ok sc_law_whole (fun vs H Q E h => ?_) (fun cdv A outer s H vs Q E hr h => ?_)
  · obtain ⟨n, rfl, _⟩ := h
    rfl
  obtain ⟨n, rfl, q⟩ := h
  refine ⟨_, (zG (zO (pe_and (zS call_isinst rfl m_isinstance PyProof.Rows.boot_isinstance (zA (pv 0) (zA (pe_bltn (v := .ty "int") rfl m_int PyProof.Rows.boot_int rfl) zD))) (pe_one (pe_not (zS call_isinst rfl m_isinstance PyProof.Rows.boot_isinstance (zA (pv 0) (zA (pe_bltn (v := .ty "bool") rfl m_bool PyProof.Rows.boot_bool rfl) zD)))))))), ?_⟩
  refine ⟨_, rfl, _, "int", _, true, rfl, .int n, kit_ii K, _, rfl, ifT rfl ?_⟩
  exact ⟨_, rfl, _, "bool", _, false, rfl, .int n, kit_ib K, _, rfl, q⟩
end
end Mix
namespace Ru
open PySem L2
theorem ixN_in {n : Nat} {b : Int} (h0 : 0 <= b) (h1 : b < (n : Int)) : ixN n b = some b.toNat := by
  unfold ixN
  rw [if_pos h0, if_pos h1]
end Ru
namespace Ru
open PySem L2 Mix Gds Rms Lts Dds Prg
open Ans (Al)
def opB (n : Nat) (cur : List Nat) : List V := (List.range n).map fun r => V.bl (decide (r ∈ cur))
theorem opB_len (n : Nat) (cur : List Nat) : (opB n cur).length = n := by
  unfold opB
  rw [zl0, List.length_range]
theorem opB_at {n r : Nat} (cur : List Nat) (h : r < n) : (opB n cur)[r]? = some (V.bl (decide (r ∈ cur))) := by
  unfold opB
  rw [zl20, List.getElem?_range h]
  rfl
theorem opB_set {n r : Nat} {cur cur' : List Nat} {b : Bool} (h : r < n) (hr : decide (r ∈ cur') = b) (ho : ∀ x, x ≠ r -> (x ∈ cur' ↔ x ∈ cur)) : (opB n cur).set r (.bl b) = opB n cur' := by
  refine List.ext_getElem? fun i => ?_
  by_cases hi : i < n
  · rw [opB_at cur' hi, List.getElem?_set]
    by_cases e : r = i
    · subst e
      rw [if_pos rfl, if_pos (by rw [opB_len]; exact h), hr]
    · rw [if_neg e, opB_at cur hi]
      congr 2
      exact decide_eq_decide.mpr (ho i (Ne.symm e)).symm
  · rw [List.getElem?_eq_none (by rw [List.length_set, opB_len]; omega), List.getElem?_eq_none (by rw [opB_len]; omega)]
theorem open_eq {ds : List Int} (cur : List Nat) (r : Nat) : (List.range ds.length).filter (fun j => (Tr.par ds j == some r) && decide (j ∈ cur)) = Tr.openKids ds cur r := by
  show _ = ((List.range ds.length).filter fun j => Tr.par ds j == some r).filter fun k => decide (k ∈ cur)
  rw [List.filter_filter]
  exact List.filter_congr fun x _ => Bool.and_comm _ _
def StepOk (rs : List Rm) (cur : List Nat) (r : Nat) (s : Str) (cur' : List Nat) : Prop := (s = "out" /\ r ∈ cur /\ Tr.openKids (depths rs) cur r = [] /\ cur' = cur.erase r) ∨ (s = "in" /\ r ∉ cur /\ (∀ p, Tr.par (depths rs) r = some p -> p ∈ cur /\ (onB rs p = true -> Tr.openKids (depths rs) cur p = [])) /\ cur' = cur ++ [r])
def spStep : Sp := fun vs H Q _ => ∃ (t pp pb : Addr) (rs : List Rm) (s : Str) (r : Nat) (cur cur' : List Nat), vs = [.ref t, .ref pp, .ref pb, .str s, .int (r : Int)] /\ Rooms H t rs /\ Tr.Good (depths rs) /\ rs.length <= 40 /\ H pp = some (.lst (parsV (depths rs) rs.length)) /\ H pb = some (.lst (opB rs.length cur)) /\ pp ≠ pb /\ r < rs.length /\ cur.Nodup /\ StepOk rs cur r s cur' ∧
  ∀ H' : Hp, H' pb = some (.lst (opB rs.length cur')) -> (∀ b o, H b = some o -> b ≠ pb -> H' b = some o) -> Q (.bl true) H'
section
variable {P : Program} {w : World} {K : PySem.W.Frag} {mg : Str -> Option Value} {base : Heap}
theorem sc_law_step : FnScope ["_law_rooms_here", "_law_parents_here", "_law_opened_here", "_law_word", "_law_room", "_law_inner", "_law_good", "_law_above", "_law_beside"] ["_law_rooms_here", "_law_parents_here", "_law_opened_here", "_law_word", "_law_room"] (defScope s_L_step) := ⟨rfl, rfl, rfl, by decide +kernel, rfl, by decide +kernel, by decide +kernel⟩
theorem ok_lstep {n : Nat} {f gw : Addr} {fd dw : FuncData} (F : Fun K "_law_step" "_law_step" s_L_step f fd)
    (Gl_whole : FnOk P w K mg base CX0 n gw dw ["_law_found"] spWhole) (bl_whole : Binds K dw ["_law_found"] []) (kl_whole : KI K gw) (ml_whole : mg "_law_whole" = some (.ref gw)) (m_range : mg "range" = none) (m_len : mg "len" = none) :
    FnOk P w K mg base CX0 (n + 1) f fd ["_law_rooms_here", "_law_parents_here", "_law_opened_here", "_law_word", "_law_room"] spStep := by
  refine F.ok sc_law_step (fun vs H Q E h => ?_) (fun cdv A outer s H vs Q E hr h => ?_)
  · obtain ⟨t, pp, pb, rs, s', r, cur, cur', rfl, _⟩ := h
    rfl
  obtain ⟨t, pp, pb, rs, s', r, cur, cur', rfl, hR, good, r40, hpp, hpb, npb, rl, nd, hS, q⟩ := h
  refine ⟨_, (zE (yD (pt_cut (PW.pt (pw_or (pt_not (pt_val (zJ Gl_whole hr rfl ml_whole kl_whole bl_whole .nil yE (zA (pv 4) zD)))) (pw_or1 (pt_not (pt_chV op_le op_lt zB (pv 4) (zS zN rfl m_len PySem.boot_len (zA (pv 0) zD))))))))
   (zG (zO pe_bl))
   zT)
   (zE (yD (zL yG (pv 3) zP (zR _))
   (zE (ps_setC (i := 5) (caps := [(4, "_law_room"), (2, "_law_opened_here"), (1, "_law_parents_here")]) rfl sc_law_step.nd rfl (Or.inl rfl) (show CompSc (defScope s_L_step) ["_law_rooms_here", "_law_parents_here", "_law_opened_here", "_law_word", "_law_room", "_law_inner", "_law_good", "_law_above", "_law_beside"] _ _ _ from ⟨rfl, rfl, by decide +kernel, by decide +kernel, by decide +kernel, by decide +kernel, by decide +kernel⟩) (pi_range1 rfl m_range (zA (zS zN rfl m_len PySem.boot_len (zA (pv 0) zD)) zD)) (fun _ _ _ _ _ _ => pifs_one (PW.pt (pw_and (zL (r := rEq) yG (yB (r := rIxL K) yU (pv 3) (pv 0) (fun _ _ => rfl)) (pv 1) (zR _)) (yP (pt_val (yB (r := rIxL K) yU (pv 2) (pv 0) (fun _ _ => rfl))))))) (fun _ _ _ _ _ _ => (pv 0)))
   (zE (zK (i := 6) sc_law_step.nd rfl (Or.inl rfl) (pe_cut (pe_and (yB yU (pv 2) (pv 4) (fun _ _ => rfl)) (pe_one (pe_cmpR yG (zS zN rfl m_len PySem.boot_len (zA (pv 5) zD)) zB (zR _))))))
   (zE (ps_asg pe_bl (pg_sub (pv 2) (pv 4) set_list))
   (zG (zO (pv 6))))))
   zT)
   (zE (zK (i := 7) sc_law_step.nd rfl (Or.inr rfl) (yB yU (pv 1) (pv 4) (fun _ _ => rfl)))
   (zZ (yD (zL op_notN (pv 7) pe_non (zR _))
   (zE (ps_setC (i := 8) (caps := [(7, "_law_above"), (2, "_law_opened_here"), (1, "_law_parents_here")]) rfl sc_law_step.nd rfl (Or.inl rfl) (show CompSc (defScope s_L_step) ["_law_rooms_here", "_law_parents_here", "_law_opened_here", "_law_word", "_law_room", "_law_inner", "_law_good", "_law_above", "_law_beside"] _ _ _ from ⟨rfl, rfl, by decide +kernel, by decide +kernel, by decide +kernel, by decide +kernel, by decide +kernel⟩) (pi_range1 rfl m_range (zA (zS zN rfl m_len PySem.boot_len (zA (pv 0) zD)) zD)) (fun _ _ _ _ _ _ => pifs_one (PW.pt (pw_and (zL (r := rEq) yG (yB (r := rIxL K) yU (pv 3) (pv 0) (fun _ _ => rfl)) (pv 1) (zR _)) (yP (pt_val (yB (r := rIxL K) yU (pv 2) (pv 0) (fun _ _ => rfl))))))) (fun _ _ _ _ _ _ => (pv 0)))
   (zG (yD (pt_cut (PW.pt (pw_or (pt_not (pt_val (yB yU (pv 2) (pv 7) (fun _ _ => rfl)))) (pw_or1 (PW.pt (pw_and (zL yG (yB zH (yB zH (pv 0) (pv 7) (fun _ _ => rfl)) zB (fun _ _ => rfl)) zP (zR _)) (yP (zL op_gt (zS zN rfl m_len PySem.boot_len (zA (pv 8) zD)) zB (zR _)))))))))
   (zG (zO pe_bl))
   zT)))
   zT)
   (zE (zK (i := 6) sc_law_step.nd rfl (Or.inl rfl) (pe_not (yB yU (pv 2) (pv 4) (fun _ _ => rfl))))
   (zE (ps_asg pe_bl (pg_sub (pv 2) (pv 4) set_list))
   (zG (zO (pv 6))))))))), ?_⟩
  obtain ⟨rv, htr, hrs⟩ := id hR
  have lrv := hrs.length
  have ld := yV rs
  have en : ((rv.length : Int)).toNat = (depths rs).length := by omega
  refine ⟨fun b H' => H = H' /\ b = false, ?_, ?_⟩
  · refine ⟨_, rfl, _, rfl, _, rfl, ifF rfl ?_⟩
    refine ⟨_, rfl, _, _, _, rfl, rfl, ⟨_, rfl, t, _, rfl, .inr (SqT.of htr), rfl, rfl⟩, _, rfl, rfl, ?_⟩
    have b1 : decide ((0 : Int) <= (r : Int)) = true := decide_eq_true (by omega)
    have b2 : decide ((r : Int) < (rv.length : Int)) = true := decide_eq_true (by omega)
    show (!(decide ((0 : Int) <= (r : Int)) && decide ((r : Int) < (rv.length : Int)))) = false
    rw [b1, b2]
    rfl
  rintro _ _ ⟨rfl, rfl⟩
  refine iteF ?_
  have comp : ∀ (u : Nat) (H2 : Hp), Same H H2 -> ∀ {cs : St} {tc : TT} {te : TE} {Z : List V -> Hp -> Prop}, (∀ o < rs.length, ∀ Zb : Bool -> Hp -> Prop, Zb ((Tr.par (depths rs) o == some u) && decide (o ∈ cur)) H2 -> tc (some (.int (0 + (o : Int))) :: cs) H2 Zb) -> (∀ (o : Nat) (Zv : V -> Hp -> Prop), Zv (.int (0 + (o : Int))) H2 -> te (some (.int (0 + (o : Int))) :: cs) H2 Zv) -> Z (natsV (Tr.openKids (depths rs) cur u)) H2 -> tCompW (Itr 0 ((rv.length : Int)).toNat) cs tc te H2 Z := fun u H2 s2 cs tc te Z h1 h2 h3 => by
    refine comp_filtR (by omega) (fun j => (Tr.par (depths rs) j == some u) && decide (j ∈ cur)) (fun o ho Zb hz => h1 o (by omega) Zb hz) h2 ?_
    rw [en, open_eq]
    exact h3
  have test : ∀ (u o : Nat), o < rs.length -> atI (parsV (depths rs) rs.length) (0 + (o : Int)) = some (pV (Tr.par (depths rs) o)) /\ atI (opB rs.length cur) (0 + (o : Int)) = some (V.bl (decide (o ∈ cur))) := fun u o ho => by
    rw [Int.zero_add]
    exact ⟨yQ (parsV_at ho), yQ (opB_at cur ho)⟩
  have sc : ∀ (o : Nat) (v : Int), scal (pV (Tr.par (depths rs) o)) (V.int v) = true := fun o v => by cases Tr.par (depths rs) o <;> rfl
  have atr : atI (opB rs.length cur) (r : Int) = some (V.bl (decide (r ∈ cur))) := yQ (opB_at cur rl)
  have lo := opB_len rs.length cur
  rcases hS with ⟨rfl, rin, ok, rfl⟩ | ⟨rfl, rin, up, rfl⟩
  · refine ⟨_, rfl, rfl, _, rfl, ifT (by decide +kernel) ?_⟩
    refine ⟨_, rfl, t, _, rfl, .inr (SqT.of htr), _, rfl, by omega, by omega, ?_⟩
    refine comp r H (Same.refl _) (fun o ho Zb hz => ?_) (fun o Zv hz => ⟨_, rfl, hz⟩) (fun p3 hp3 => ?_)
    · obtain ⟨t1, t2⟩ := test r o ho
      rw [<- par_dec] at hz
      refine ⟨_, rfl, _, rfl, pp, _, _, _, rfl, rfl, SqL.of hpp, t1, _, rfl, sc o _, _, rfl, itB (fun z => ?_) (fun z => ?_)⟩
      · rw [z, Bool.true_and] at hz
        exact ⟨_, rfl, _, rfl, pb, _, _, _, rfl, rfl, SqL.of hpb, t2, _, rfl, hz⟩
      · rw [z, Bool.false_and] at hz
        exact hz
    rw [ok]
    have u3 := zF hp3 (.lst (natsV []))
    have i3 : upd H p3 (.lst (natsV [])) p3 = some (.lst []) := zC
    generalize upd H p3 (.lst (natsV [])) = H3 at u3 i3 ⊢
    have hb3 := u3 _ _ hpb
    refine ⟨fun v H' => H3 = H' /\ v = .bl true, ?_, ?_⟩
    · refine ⟨_, rfl, _, rfl, pb, _, _, _, rfl, rfl, SqL.of hb3, atr, _, rfl, ?_⟩
      rw [decide_eq_true rin]
      exact iteT ⟨_, rfl, p3, _, rfl, .inl (SqL.of i3), rfl, rfl, rfl⟩
    rintro _ _ ⟨rfl, rfl⟩
    refine ⟨_, rfl, _, rfl, pb, _, (r : Int), r, rfl, rfl, hb3, ?_, ?_⟩
    · rw [ixN_in (by omega) (by rw [lo]; omega)]
      rfl
    rw [opB_set (cur' := cur.erase r) rl (decide_eq_false (fun z => (nd.mem_erase_iff.mp z).1 rfl)) (fun x hx => by rw [nd.mem_erase_iff]; exact ⟨fun z => z.2, fun z => ⟨hx, z⟩⟩)]
    exact ⟨_, rfl, q _ zC fun b o e nb => by rw [zQ nb]; exact u3 _ _ e⟩
  · refine ⟨_, rfl, rfl, _, rfl, ifF (by decide +kernel) ?_⟩
    refine ⟨_, rfl, _, rfl, pp, _, _, _, rfl, rfl, SqL.of hpp, yQ (parsV_at rl), ?_⟩
    refine ⟨fun σ' H' => Same H H' /\ ∃ o7 o8 : Option V, σ' = [some (.ref t), some (.ref pp), some (.ref pb), some (.str "in"), some (.int (r : Int)), none, none, o7, o8], ?_, ?_⟩
    · cases hp : Tr.par (depths rs) r with
      | none => exact ⟨_, rfl, rfl, _, rfl, ifF rfl ⟨Same.refl _, _, _, rfl⟩⟩
      | some p =>
        obtain ⟨pin, pno⟩ := up p hp
        have pl : p < rs.length := by
          have := Tr.par_lt hp
          omega
        obtain ⟨vp, hvp, ap, rfl, hap⟩ := hrs.get (zl1 pl)
        have ek := kind_at (zl1 pl)
        refine ⟨_, rfl, rfl, _, rfl, ifT rfl ?_⟩
        refine ⟨_, rfl, t, _, rfl, .inr (SqT.of htr), _, rfl, by omega, by omega, ?_⟩
        refine comp p H (Same.refl _) (fun o ho Zb hz => ?_) (fun o Zv hz => ⟨_, rfl, hz⟩) (fun p3 hp3 => ?_)
        · obtain ⟨t1, t2⟩ := test p o ho
          rw [<- par_dec] at hz
          refine ⟨_, rfl, _, rfl, pp, _, _, _, rfl, rfl, SqL.of hpp, t1, _, rfl, sc o _, _, rfl, itB (fun z => ?_) (fun z => ?_)⟩
          · have z : decide (pV (Tr.par (depths rs) o) = V.int (p : Int)) = true := z
            rw [z, Bool.true_and] at hz
            exact ⟨_, rfl, _, rfl, pb, _, _, _, rfl, rfl, SqL.of hpb, t2, _, rfl, hz⟩
          · have z : decide (pV (Tr.par (depths rs) o) = V.int (p : Int)) = false := z
            rw [z, Bool.false_and] at hz
            exact hz
        have u3 := zF hp3 (.lst (natsV (Tr.openKids (depths rs) cur p)))
        have i3 : upd H p3 (.lst (natsV (Tr.openKids (depths rs) cur p))) p3 = some (.lst (natsV (Tr.openKids (depths rs) cur p))) := zC
        generalize upd H p3 (.lst (natsV (Tr.openKids (depths rs) cur p))) = H3 at u3 i3 ⊢
        refine ⟨fun b H' => H3 = H' /\ b = false, ?_, ?_⟩
        · refine ⟨_, rfl, _, rfl, pb, _, _, _, rfl, rfl, SqL.of (u3 _ _ hpb), yQ (opB_at cur pl), _, rfl, ifF (by rw [decide_eq_true pin]; rfl) ?_⟩
          refine ⟨_, rfl, _, rfl, t, _, _, _, rfl, rfl, SqT.of (u3 _ _ htr), yQ hvp, ap, _, _, _, rfl, rfl, SqT.of (u3 _ _ hap), rfl, rfl, _, rfl, itB (fun z => ?_) (fun z => ⟨rfl, rfl⟩)⟩
          rw [dstr, <- ek] at z
          have e0 := pno z
          rw [e0] at i3
          exact ⟨_, rfl, p3, _, rfl, .inl (SqL.of i3), _, _, rfl, rfl, _, rfl, rfl, rfl⟩
        rintro _ _ ⟨rfl, rfl⟩
        exact iteF ⟨u3, _, _, rfl⟩
    rintro σ' H3 ⟨s3, o7, o8, rfl⟩
    have hb3 := s3 _ _ hpb
    refine ⟨_, rfl, _, rfl, pb, _, _, _, rfl, rfl, SqL.of hb3, atr, _, rfl, ?_⟩
    refine ⟨_, rfl, _, rfl, pb, _, (r : Int), r, rfl, rfl, hb3, ?_, ?_⟩
    · rw [ixN_in (by omega) (by rw [lo]; omega)]
      rfl
    rw [opB_set (cur' := cur ++ [r]) rl (decide_eq_true (by simp)) (fun x hx => by simp [hx]), decide_eq_false rin]
    exact ⟨_, rfl, q _ zC fun b o e nb => by rw [zQ nb]; exact s3 _ _ e⟩
end
theorem walk_head {rs : List Rm} {k : Nat} {cur : List Nat} {th : Nat} {e : En} {es : List En} (nd : cur.Nodup) (h : WalkOk rs k cur th (e :: es)) : ∃ (s : Str) (x : V) (rr : List V) (cur' : List Nat) (th' : Nat), e.row = .str s :: x :: rr /\ cur'.Nodup /\ WalkOk rs k cur' th' es /\ endC cur (e :: es) = endC cur' es /\ endT th (e :: es) = endT th' es ∧
    ((s = "through" /\ x = .int (k : Int) /\ cur' = cur /\ th' = th + 1 /\ outs [e] = [] /\ inns [e] = []) ∨
     (s = "out" /\ ∃ r : Nat, x = .int (r : Int) /\ r < rs.length /\ StepOk rs cur r s cur' /\ th = 0 /\ th' = 0 /\ outs [e] = [r] /\ inns [e] = []) ∨
     (s = "in" /\ ∃ r : Nat, x = .int (r : Int) /\ r < rs.length /\ StepOk rs cur r s cur' /\ th = 1 /\ th' = 1 /\ outs [e] = [] /\ inns [e] = [r]) ∨
     (s ≠ "through" /\ s ≠ "out" /\ s ≠ "in" /\ cur' = cur /\ th' = th /\ outs [e] = [] /\ inns [e] = [])) := by
  cases e with
  | rc r => cases r <;> exact ⟨_, _, _, cur, th, rfl, nd, h, rfl, rfl, .inr (.inr (.inr ⟨by decide +kernel, by decide +kernel, by decide +kernel, rfl, rfl, rfl, rfl⟩))⟩
  | door j => exact ⟨_, _, _, cur, th, rfl, nd, h, rfl, rfl, .inr (.inr (.inr ⟨by decide +kernel, by decide +kernel, by decide +kernel, rfl, rfl, rfl, rfl⟩))⟩
  | take j => exact ⟨_, _, _, cur, th, rfl, nd, h, rfl, rfl, .inr (.inr (.inr ⟨by decide +kernel, by decide +kernel, by decide +kernel, rfl, rfl, rfl, rfl⟩))⟩
  | thr j =>
    obtain ⟨rfl, h⟩ := h
    exact ⟨_, _, _, cur, th + 1, rfl, nd, h, rfl, rfl, .inl ⟨rfl, rfl, rfl, rfl, rfl, rfl⟩⟩
  | out r =>
    obtain ⟨h1, h2, h3, rfl, h⟩ := h
    exact ⟨_, _, _, cur.erase r, 0, rfl, nd.erase r, h, rfl, rfl, .inr (.inl ⟨rfl, r, rfl, h1, .inl ⟨rfl, h2, h3, rfl⟩, rfl, rfl, rfl, rfl⟩)⟩
  | inn r =>
    obtain ⟨h1, h2, h3, rfl, h⟩ := h
    refine ⟨_, _, _, cur ++ [r], 1, rfl, List.nodup_append.mpr ⟨nd, by simp, fun a ha b hb e => ?_⟩, h, rfl, rfl, .inr (.inr (.inl ⟨rfl, r, rfl, h1, .inr ⟨rfl, h2, h3, rfl⟩, rfl, rfl, rfl, rfl⟩))⟩
    rw [zl10.mp hb] at e
    rw [e] at ha
    exact h2 ha
def spWalk : Sp := fun vs H Q _ => ∃ (t pp pb pr : Addr) (rs : List Rm) (k : Nat) (os : List Nat) (rv : List V) (es : List En), vs = [.ref t, .ref pp, .ref pb, .ref pr, .int (k : Int)] /\ Rooms H t rs /\ Tr.Good (depths rs) /\ rs.length <= 40 /\ H pp = some (.lst (parsV (depths rs) rs.length)) /\ H pb = some (.lst (opB rs.length os)) /\ pp ≠ pb /\ pr ≠ pb /\ os.Nodup /\ H pr = some (.lst rv) /\ Al (EnIn H) rv es /\ es.length <= 1000 /\ WalkOk rs k os 0 es /\ endT 0 es = 1 ∧
  ∀ (tw po pi : Addr) (H' : Hp), H' tw = some (.tup [.ref po, .ref pi]) -> H' po = some (.lst (natsV (outs es))) -> H' pi = some (.lst (natsV (inns es))) -> H po = none -> H pi = none -> H' pb = some (.lst (opB rs.length (endC os es))) -> (∀ b o, H b = some o -> b ≠ pb -> H' b = some o) -> Q (.ref tw) H'
theorem outs_app (a b : List En) : outs (a ++ b) = outs a ++ outs b := by
  unfold outs
  rw [List.filterMap_append]
theorem inns_app (a b : List En) : inns (a ++ b) = inns a ++ inns b := by
  unfold inns
  rw [List.filterMap_append]
section
variable {P : Program} {w : World} {K : PySem.W.Frag} {mg : Str -> Option Value} {base : Heap}
theorem sc_law_walk : FnScope ["_law_rooms_here", "_law_parents_here", "_law_opened_here", "_law_record", "_law_door", "_law_outs", "_law_ins", "_law_through", "_law_entry"] ["_law_rooms_here", "_law_parents_here", "_law_opened_here", "_law_record", "_law_door"] (defScope s_L_walk) := ⟨rfl, rfl, rfl, by decide +kernel, rfl, by decide +kernel, by decide +kernel⟩
theorem ok_lwalk {n : Nat} {f gw gs : Addr} {fd dw ds' : FuncData} (F : Fun K "_law_walk" "_law_walk" s_L_walk f fd)
    (Gl_whole : FnOk P w K mg base CX0 n gw dw ["_law_found"] spWhole) (bl_whole : Binds K dw ["_law_found"] []) (kl_whole : KI K gw) (ml_whole : mg "_law_whole" = some (.ref gw))
    (Gl_step : FnOk P w K mg base CX0 n gs ds' ["_law_rooms_here", "_law_parents_here", "_law_opened_here", "_law_word", "_law_room"] spStep) (bl_step : Binds K ds' ["_law_rooms_here", "_law_parents_here", "_law_opened_here", "_law_word", "_law_room"] []) (kl_step : KI K gs) (ml_step : mg "_law_step" = some (.ref gs))
    (m_isinstance : mg "isinstance" = none) (m_tuple : mg "tuple" = none) (m_str : mg "str" = none) (m_int : mg "int" = none) (m_len : mg "len" = none) : FnOk P w K mg base CX0 (n + 1) f fd ["_law_rooms_here", "_law_parents_here", "_law_opened_here", "_law_record", "_law_door"] spWalk := by
  refine F.ok sc_law_walk (fun vs H Q E h => ?_) (fun cdv A outer s H vs Q E hr h => ?_)
  · obtain ⟨t, pp, pb, pr, rs, k, os, rv, es, rfl, _⟩ := h
    rfl
  obtain ⟨t, pp, pb, pr, rs, k, os, rv, es, rfl, hR, good, r40, hpp, hpb, npb, nrb, nd, hpr, hA, le, hW, hT, q⟩ := h
  refine ⟨_, (zE (zK (i := 5) sc_law_walk.nd rfl (Or.inl rfl) (yK zD))
   (zE (zK (i := 6) sc_law_walk.nd rfl (Or.inl rfl) (yK zD))
   (zE (zK (i := 7) sc_law_walk.nd rfl (Or.inl rfl) zB)
   (zZ (ps_for PassesOwn.never rfl (yM (pv 3)) (yJ (i := 8) sc_law_walk.nd rfl (Or.inl rfl))
   (zE (yD (pt_cut (PW.pt (pw_or (pt_not (pt_val (zS call_isinst rfl m_isinstance PyProof.Rows.boot_isinstance (zA (pv 8) (zA (pe_bltn (v := .ty "tuple") rfl m_tuple PyProof.Rows.boot_tuple rfl) zD))))) (pw_or (zL op_lt (zS zN rfl m_len PySem.boot_len (zA (pv 8) zD)) zB (zR _)) (pw_or1 (pt_not (pt_val (zS call_isinst rfl m_isinstance PyProof.Rows.boot_isinstance (zA (yB zH (pv 8) zB (fun _ _ => rfl)) (zA (pe_bltn (v := .ty "str") rfl m_str PyProof.Rows.boot_str rfl) zD))))))))))
   (zG (zO pe_non))
   zT)
   (zZ (yD (zL yG (yB zH (pv 8) zB (fun _ _ => rfl)) zP (zR _))
   (zE (zK (i := 7) sc_law_walk.nd rfl (Or.inl rfl) (yC yF (pv 7) zB))
   (zG (yD (pt_cut (PW.pt (pw_or (pt_not (pt_val (zJ Gl_whole hr rfl ml_whole kl_whole bl_whole .nil yE (zA (yB zH (pv 8) zB (fun _ _ => rfl)) zD)))) (pw_or1 (zL op_ne (yB zH (pv 8) zB (fun _ _ => rfl)) (pv 4) (zR _))))))
   (zG (zO pe_non))
   zT)))
   zT)
   (zG (yD (pt_cut (PW.pt (pw_or (zL yG (yB zH (pv 8) zB (fun _ _ => rfl)) zP (zR _)) (pw_or1 (zL yG (yB zH (pv 8) zB (fun _ _ => rfl)) zP (zR _))))))
   (zE (yD (pt_not (pt_val (zJ Gl_step hr rfl ml_step kl_step bl_step .nil yE (zA (pv 0) (zA (pv 1) (zA (pv 2) (zA (yB zH (pv 8) zB (fun _ _ => rfl)) (zA (yB zH (pv 8) zB (fun _ _ => rfl)) zD))))))))
   (zG (zO pe_non))
   zT)
   (zE (yD (zL op_ne (pv 7) (yA call_int1 rfl m_int PyProof.Rows.boot_int (zA (pe_cmpR yG (yB zH (pv 8) zB (fun _ _ => rfl)) zP (zR _)) zD)) (zR _))
   (zG (zO pe_non))
   zT)
   (zG (yD (zL yG (yB zH (pv 8) zB (fun _ _ => rfl)) zP (zR _))
   (zG (yI (pe_bm PySem.F.plainAttrs_list PySem.F.slot_list_append PySem.F.type_list_append yH (pv 5) (zA (yB zH (pv 8) zB (fun _ _ => rfl)) zD))))
   (zG (yI (pe_bm PySem.F.plainAttrs_list PySem.F.slot_list_append PySem.F.type_list_append yH (pv 6) (zA (yB zH (pv 8) zB (fun _ _ => rfl)) zD))))))))
   zT)))))
   (zE (yD (zL op_ne (pv 7) zB (zR _))
   (zG (zO pe_non))
   zT)
   (zG (zO (zW (zA (pv 5) (zA (pv 6) zD)))))))))), ?_⟩
  have les := hA.length
  refine ⟨Nat.zero_le _, fun po hpo => ?_⟩
  have u1 := zF hpo (.lst [])
  have i1 : upd H po (.lst []) po = some (.lst (natsV [])) := zC
  generalize upd H po (.lst []) = H1 at u1 i1 ⊢
  refine ⟨Nat.zero_le _, fun pi hpi => ?_⟩
  have u2 := zF hpi (.lst [])
  have i2 : upd H1 pi (.lst []) pi = some (.lst (natsV [])) := zC
  generalize upd H1 pi (.lst []) = H2 at u2 i2 ⊢
  have u12 := u1.trans u2
  have npi : H pi = none := u1.free hpi
  have j1 := u2 _ _ i1
  have noi : po ≠ pi := zM i1 hpi
  have nbo : pb ≠ po := zM hpb hpo
  have nbi : pb ≠ pi := zM hpb npi
  have npo : pp ≠ po := zM hpp hpo
  have npi' : pp ≠ pi := zM hpp npi
  refine ⟨fun σ' H' => ∃ o8 : Option V, H' pb = some (.lst (opB rs.length (endC os es))) /\ H' po = some (.lst (natsV (outs es))) /\ H' pi = some (.lst (natsV (inns es))) /\ (∀ b o, H b = some o -> b ≠ pb -> H' b = some o) /\ σ' = [some (.ref t), some (.ref pp), some (.ref pb), some (.ref pr), some (.int (k : Int)), some (.ref po), some (.ref pi), some (.int 1), o8], ?_, ?_⟩
  · refine ⟨_, rfl, pr, rfl, ⟨_, SqL.of (u12 _ _ hpr)⟩, ?_⟩
    refine for_list (K := K) (a := pr) (xs := rv) (fun i σ' H' => ∃ (cur : List Nat) (th : Nat) (o8 : Option V), cur.Nodup /\ WalkOk rs k cur th (es.drop i) /\ endC cur (es.drop i) = endC os es /\ endT th (es.drop i) = endT 0 es /\ H' pb = some (.lst (opB rs.length cur)) /\ H' po = some (.lst (natsV (outs (es.take i)))) /\ H' pi = some (.lst (natsV (inns (es.take i)))) /\ (∀ b o, H b = some o -> b ≠ pb -> H' b = some o) /\ σ' = [some (.ref t), some (.ref pp), some (.ref pb), some (.ref pr), some (.int (k : Int)), some (.ref po), some (.ref pi), some (.int (th : Int)), o8])
      ⟨os, 0, none, nd, hW, rfl, rfl, u12 _ _ hpb, j1, i2, (fun b o e _ => u12 _ _ e), rfl⟩ (fun i σ' H' _ ⟨_, _, _, _, _, _, _, _, _, _, fr, _⟩ => SqL.of (fr _ _ hpr nrb)) ?_ ?_
    · rintro i x σ' H3 hx ⟨cur, th, o8, nd3, w3, c3, t3, b3, o3, n3, fr, rfl⟩
      have hi : i < es.length := by
        have := (zl4.mp hx).1
        omega
      have hk := zl1 hi
      obtain ⟨v, hv, a, rfl, ha⟩ := hA.get hk
      rw [hv] at hx
      obtain rfl := zl7 hx
      have etk : es.take (i + 1) = es.take i ++ [es[i]] := by
        rw [zl14, hk]
        rfl
      rw [List.drop_eq_getElem_cons hi] at w3 c3 t3
      obtain ⟨s', x', r', cur', th', er, nd4, w4, c4, t4, cs⟩ := walk_head nd3 w3
      have ha3 := fr _ _ ha (ne_of ha hpb (by intro z; cases z))
      rw [er] at ha3
      rw [etk, outs_app, inns_app]
      have lo : (outs (es.take i)).length <= es.length := Nat.le_trans (List.length_filterMap_le _ _) (by rw [zl13]; omega)
      have li : (inns (es.take i)).length <= es.length := Nat.le_trans (List.length_filterMap_le _ _) (by rw [zl13]; omega)
      have at0 : atI (V.str s' :: x' :: r') 0 = some (V.str s') := yQ (j := 0) rfl
      have at1 : atI (V.str s' :: x' :: r') 1 = some x' := yQ (j := 1) rfl
      have c5 : endC cur' (es.drop (i + 1)) = endC os es := c4.symm.trans c3
      have t5 : endT th' (es.drop (i + 1)) = endT 0 es := t4.symm.trans t3
      refine ⟨fun b H' => H3 = H' /\ b = false, ?_, ?_⟩
      · exact ⟨_, rfl, _, "tuple", _, true, rfl, .tup ha3, by rfl, _, rfl, ifF rfl ⟨_, rfl, a, _, rfl, .inr (SqT.of ha3), _, _, rfl, rfl, _, rfl, ifF (decide_eq_false (by rw [zl12, zl12]; omega)) ⟨_, rfl, a, _, _, V.str s', rfl, rfl, SqT.of ha3, at0, _, "str", _, true, rfl, .str _, by rfl, _, rfl, rfl, rfl⟩⟩⟩
      rintro _ _ ⟨rfl, rfl⟩
      refine iteF ?_
      refine ⟨fun σ' H' => H3 = H' /\ σ' = [some (.ref t), some (.ref pp), some (.ref pb), some (.ref pr), some (.int (k : Int)), some (.ref po), some (.ref pi), some (.int (th' : Int)), some (.ref a)], ?_, ?_⟩
      · refine ⟨_, rfl, a, _, _, V.str s', rfl, rfl, SqT.of ha3, at0, (show scal (V.str s') (V.str ("through" : Str)) = true from rfl), _, rfl, ?_⟩
        rw [dstr]
        rcases cs with ⟨rfl, rfl, _, rfl, _, _⟩ | ⟨rfl, _, _, _, _, rfl, rfl, _⟩ | ⟨rfl, _, _, _, _, rfl, rfl, _⟩ | ⟨c1, _, _, _, rfl, _⟩
        · refine ifT (decide_eq_true rfl) ?_
          refine ⟨_, rfl, _, _, rfl, rfl, ?_⟩
          refine ⟨fun b H' => H3 = H' /\ b = false, ?_, ?_⟩
          · refine ⟨_, rfl, a, _, _, _, rfl, rfl, SqT.of ha3, at1, _, rfl, _, rfl, ifF rfl ?_⟩
            refine ⟨_, rfl, a, _, _, _, rfl, rfl, SqT.of ha3, at1, _, rfl, rfl, _, rfl, rfl, ?_⟩
            simp
          rintro _ _ ⟨rfl, rfl⟩
          exact iteF ⟨rfl, rfl⟩
        · exact ifF (by decide +kernel) ⟨rfl, rfl⟩
        · exact ifF (by decide +kernel) ⟨rfl, rfl⟩
        · exact ifF (decide_eq_false c1) ⟨rfl, rfl⟩
      rintro _ _ ⟨rfl, rfl⟩
      refine ⟨fun b H' => H3 = H' /\ b = decide (s' = "out" ∨ s' = "in"), ?_, ?_⟩
      · refine ⟨_, rfl, a, _, _, V.str s', rfl, rfl, SqT.of ha3, at0, (show scal (V.str s') (V.str ("out" : Str)) = true from rfl), _, rfl, itB (fun z => ?_) (fun z => ?_)⟩
        · rw [dstr] at z
          exact ⟨rfl, (decide_eq_true (.inl (of_decide_eq_true z))).symm⟩
        · rw [dstr] at z
          have z := of_decide_eq_false z
          refine ⟨_, rfl, a, _, _, V.str s', rfl, rfl, SqT.of ha3, at0, (show scal (V.str s') (V.str ("in" : Str)) = true from rfl), _, rfl, rfl, ?_⟩
          rw [dstr]
          exact decide_eq_decide.mpr ⟨fun h => .inr h, fun h => h.resolve_left z⟩
      rintro b _ ⟨rfl, hb⟩
      have same : cur' = cur -> outs [es[i]] = [] -> inns [es[i]] = [] -> ∃ (cur : List Nat) (th : Nat) (o8 : Option V), cur.Nodup /\ WalkOk rs k cur th (es.drop (i + 1)) /\ endC cur (es.drop (i + 1)) = endC os es /\ endT th (es.drop (i + 1)) = endT 0 es /\ H3 pb = some (.lst (opB rs.length cur)) /\ H3 po = some (.lst (natsV (outs (es.take i) ++ outs [es[i]]))) /\ H3 pi = some (.lst (natsV (inns (es.take i) ++ inns [es[i]]))) /\ (∀ b o, H b = some o -> b ≠ pb -> H3 b = some o) /\ ([some (.ref t), some (.ref pp), some (.ref pb), some (.ref pr), some (.int (k : Int)), some (.ref po), some (.ref pi), some (.int (th' : Int)), some (.ref a)] : St) = [some (.ref t), some (.ref pp), some (.ref pb), some (.ref pr), some (.int (k : Int)), some (.ref po), some (.ref pi), some (.int (th : Int)), o8] := fun e1 e2 e3 => by
        refine ⟨cur', th', _, nd4, w4, c5, t5, by rw [e1]; exact b3, ?_, ?_, fr, rfl⟩
        · rw [e2, zl17]
          exact o3
        · rw [e3, zl17]
          exact n3
      have k3 : KeepT H H3 := fun b ys e => fr _ _ e (ne_of e hpb (by intro z; cases z))
      have hR3 := hR.mono k3
      have hp3 := fr _ _ hpp npb
      rw [hb]
      rcases cs with ⟨rfl, rfl, e1, rfl, e2, e3⟩ | ⟨rfl, r, rfl, rl, sok, rfl, rfl, e2, e3⟩ | ⟨rfl, r, rfl, rl, sok, rfl, rfl, e2, e3⟩ | ⟨c1, c2, c3', e1, rfl, e2, e3⟩
      · exact ifF (by decide +kernel) (same e1 e2 e3)
      · refine ifT (by decide +kernel) ?_
        refine ⟨_, rfl, _, rfl, _, rfl, _, rfl, a, _, _, _, rfl, rfl, SqT.of ha3, at0, _, rfl, a, _, _, _, rfl, rfl, SqT.of ha3, at1, t, pp, pb, rs, _, r, cur, cur', rfl, hR3, good, r40, hp3, b3, npb, rl, nd3, sok, fun H5 b5 fr5 => ⟨_, rfl, ifF rfl ?_⟩⟩
        have ha5 := fr5 _ _ ha3 (ne_of ha3 b3 (by intro z; cases z))
        have o5 := fr5 _ _ o3 (Ne.symm nbo)
        have n5 := fr5 _ _ n3 (Ne.symm nbi)
        refine ⟨_, rfl, _, rfl, a, _, _, _, rfl, rfl, SqT.of ha5, at0, (show scal (V.str ("out" : Str)) (V.str ("in" : Str)) = true from rfl), .inr ⟨_, rfl, rfl, _, rfl, ifF (by decide +kernel) ?_⟩⟩
        refine ⟨_, rfl, a, _, _, _, rfl, rfl, SqT.of ha5, at0, (show scal (V.str ("out" : Str)) (V.str ("out" : Str)) = true from rfl), _, rfl, ifT (by decide +kernel) ?_⟩
        refine ⟨_, rfl, .inl ⟨rfl, _, SqL.of o5⟩, _, rfl, a, _, _, _, rfl, rfl, SqT.of ha5, at1, po, _, _, rfl, rfl, o5, zV (by rw [zU]; omega), cur', 0, _, nd4, w4, c5, t5, ?_, ?_, ?_, fun b o e nb => ?_, rfl⟩
        · rw [zQ nbo]
          exact b5
        · rw [zC, e2, <- natsV_app]
        · rw [zQ (Ne.symm noi), e3, zl17]
          exact n5
        · rw [zQ (zM e hpo)]
          exact fr5 _ _ (fr b o e nb) nb
      · refine ifT (by decide +kernel) ?_
        refine ⟨_, rfl, _, rfl, _, rfl, _, rfl, a, _, _, _, rfl, rfl, SqT.of ha3, at0, _, rfl, a, _, _, _, rfl, rfl, SqT.of ha3, at1, t, pp, pb, rs, _, r, cur, cur', rfl, hR3, good, r40, hp3, b3, npb, rl, nd3, sok, fun H5 b5 fr5 => ⟨_, rfl, ifF rfl ?_⟩⟩
        have ha5 := fr5 _ _ ha3 (ne_of ha3 b3 (by intro z; cases z))
        have o5 := fr5 _ _ o3 (Ne.symm nbo)
        have n5 := fr5 _ _ n3 (Ne.symm nbi)
        refine ⟨_, rfl, _, rfl, a, _, _, _, rfl, rfl, SqT.of ha5, at0, (show scal (V.str ("in" : Str)) (V.str ("in" : Str)) = true from rfl), .inr ⟨_, rfl, rfl, _, rfl, ifF (by decide +kernel) ?_⟩⟩
        refine ⟨_, rfl, a, _, _, _, rfl, rfl, SqT.of ha5, at0, (show scal (V.str ("in" : Str)) (V.str ("out" : Str)) = true from rfl), _, rfl, ifF (by decide +kernel) ?_⟩
        refine ⟨_, rfl, .inl ⟨rfl, _, SqL.of n5⟩, _, rfl, a, _, _, _, rfl, rfl, SqT.of ha5, at1, pi, _, _, rfl, rfl, n5, zV (by rw [zU]; omega), cur', 1, _, nd4, w4, c5, t5, ?_, ?_, ?_, fun b o e nb => ?_, rfl⟩
        · rw [zQ nbi]
          exact b5
        · rw [zQ noi, e2, zl17]
          exact o5
        · rw [zC, e3, <- natsV_app]
        · rw [zQ (zM e npi)]
          exact fr5 _ _ (fr b o e nb) nb
      · exact ifF (decide_eq_false (fun z => z.elim c2 c3')) (same e1 e2 e3)
    · rintro σ' H3 ⟨cur, th, o8, nd3, w3, c3, t3, b3, o3, n3, fr, rfl⟩
      rw [les] at o3 n3 w3 c3 t3
      rw [List.take_length] at o3 n3
      rw [List.drop_length] at c3 t3
      have c3 : cur = endC os es := c3
      have t3 : th = endT 0 es := t3
      rw [hT] at t3
      subst c3 t3
      exact ⟨o8, b3, o3, n3, fr, rfl⟩
  rintro σ' H3 ⟨o8, b3, o3, n3, fr, rfl⟩
  refine ⟨_, rfl, rfl, _, rfl, ifF (by decide +kernel) ?_⟩
  refine ⟨_, rfl, _, rfl, zI (by show 2 <= 1000; decide), fun tw htw => ?_⟩
  have u4 := zF htw (.tup [.ref po, .ref pi])
  exact q tw po pi _ zC (u4 _ _ o3) (u4 _ _ n3) hpo npi (u4 _ _ b3) fun b o e nb => u4 _ _ (fr b o e nb)
end
end Ru
namespace Ru
open PySem L2 Mix Gds Rms Lts Dds Prg
open Ans (Al spLLies)
theorem comp_rev {K : PySem.W.Frag} {a : Addr} {xs : List V} {cs : St} {tc : TT} {te : TE} {H1 : Hp} {Z : List V -> Hp -> Prop} (Pv : Nat -> List V -> Hp -> Prop) (h0 : Pv 0 [] H1) (hl : ∀ i acc H, Pv i acc H -> SqT K H a xs)
    (hs : ∀ i x acc H, xs.reverse[i]? = some x -> Pv i acc H -> tc (some x :: cs) H fun b H2 => if b = true then te (some x :: cs) H2 fun v H3 => acc.length < sizeLine /\ Pv (i + 1) (acc ++ [v]) H3 else Pv (i + 1) acc H2)
    (hd : ∀ acc H, Pv xs.length acc H -> Z acc H) : tCompW (Itv K a xs.length) cs tc te H1 Z :=
  comp_of xs.length Pv h0 (fun acc H p => ⟨zl3 _, hd acc H p⟩) fun i acc H hi p => ⟨⟨xs, hl _ _ _ p, rfl, hi⟩, fun x H' y => by
    obtain ⟨e, y⟩ := y
    subst e
    exact hs i x acc _ (by rw [List.getElem?_reverse hi]; exact y xs (hl _ _ _ p)) p⟩
theorem comp_filtV {K : PySem.W.Frag} {H : Hp} {p : Addr} {L : List Nat} (hp : H p = some (.tup (natsV L))) (hl : L.length <= 1000) (f : Nat -> Bool) {cs : St} {tc : TT} {te : TE} {Z : List V -> Hp -> Prop}
    (h1 : ∀ o ∈ L, ∀ Zb : Bool -> Hp -> Prop, Zb (f o) H -> tc (some (.int (o : Int)) :: cs) H Zb) (h2 : ∀ (o : Nat) (Zv : V -> Hp -> Prop), Zv (.int (o : Int)) H -> te (some (.int (o : Int)) :: cs) H Zv) (h3 : Z (natsV (L.filter f).reverse) H) : tCompW (Itv K p (natsV L).length) cs tc te H Z := by
  refine comp_rev (K := K) (a := p) (xs := natsV L) (fun i acc H' => H' = H /\ acc = natsV ((L.reverse.take i).filter f)) ⟨rfl, rfl⟩ (fun i acc H' z => by rw [z.1]; exact SqT.of hp) ?_ ?_
  · rintro i y acc H' hy ⟨rfl, rfl⟩
    have er : (natsV L).reverse = natsV L.reverse := List.map_reverse.symm
    rw [er] at hy
    obtain ⟨hi, rfl⟩ := yR hy
    have hk := zl1 hi
    have hm := List.mem_reverse.mp (zl22 hi)
    rw [List.length_reverse] at hi
    generalize L.reverse[i] = o at hk hm
    have ll : ((L.reverse.take i).filter f).length <= 1000 := by
      have := zl21 f (L.reverse.take i)
      rw [zl13] at this
      omega
    refine h1 o hm _ ?_
    cases hf : f o with
    | true =>
      refine ifT rfl (h2 o _ ⟨?_, rfl, ?_⟩)
      · rw [zU, sizeLine_eq]
        omega
      · rw [filter_succ hk, hf]
        unfold natsV
        rw [zl8]
        rfl
    | false =>
      refine ifF rfl ⟨rfl, ?_⟩
      rw [filter_succ hk, hf]
      exact (congrArg natsV (zl17 _)).symm
  · rintro acc H' ⟨rfl, rfl⟩
    rw [zU, zl9 (by rw [List.length_reverse]; exact zl3 _), List.filter_reverse]
    exact h3
def spWays : Sp := fun vs H Q _ => ∃ (pc ps pu : Addr) (po pi : Addr) (c : ChD) (bs : List (Int × Int)) (ne k : Nat) (d : Dx) (s s' : S4) (es : List En) (ms : List Nat) (ik : Int), vs = [.ref pc, .ref ps, .int ik, .ref po, .ref pi, .ref pu] /\ ik = (k : Int) /\ Chr.Cha H pc c bs ne /\ Chr.ChaOk c bs ne /\ c.ds[k]? = some d /\ SdIn H ps s /\ s.os.length <= 40 /\ (∀ o ∈ s.os, o < c.rs.length) /\ SdIn H pu s' /\ s'.ks.length = c.rs.length /\ s'.os.length <= 40 /\ (∀ r ∈ s'.ks, r.length <= 40) /\ H po = some (.lst (natsV (leftOf c d s.os))) /\ H pi = some (.lst (natsV ms)) /\ ms.length <= 40 /\ Closed c k d s.os es s' ms /\ ∀ H', Same H H' -> Q (.bl true) H'
theorem way_tx (d : Dx) : decide (V.str d.way.tx = V.str ("stay" : Str)) = isStay d.way /\ decide (V.str d.way.tx = V.str ("back" : Str)) = (match d.way with | .back _ => true | _ => false) := by
  rw [dstr, dstr]
  cases d.way with
  | stay => exact ⟨by decide +kernel, by decide +kernel⟩
  | to g => exact ⟨(by show decide (("to" : Str) = "stay") = false; decide +kernel), (by show decide (("to" : Str) = "back") = false; decide +kernel)⟩
  | back g => exact ⟨(by show decide (("back" : Str) = "stay") = false; decide +kernel), (by show decide (("back" : Str) = "back") = true; decide +kernel)⟩
section
variable {P : Program} {w : World} {K : PySem.W.Frag} {mg : Str -> Option Value} {base : Heap}
theorem sc_law_ways : FnScope ["_law_chart_here", "_law_stand_here", "_law_k", "_law_outs", "_law_ins", "_law_behind", "_law_door", "_law_hall_here", "_law_left", "_law_goals", "_law_room"] ["_law_chart_here", "_law_stand_here", "_law_k", "_law_outs", "_law_ins", "_law_behind"] (defScope s_L_ways) := ⟨rfl, rfl, rfl, by decide +kernel, rfl, by decide +kernel, by decide +kernel⟩
theorem ok_lways {n : Nat} {f g1 g2 : Addr} {fd d1 d2 : FuncData} (F : Fun K "_law_ways" "_law_ways" s_L_ways f fd)
    (Gl_hall : FnOk P w K mg base CX0 n g1 d1 ["_law_rooms_here", "_law_one", "_law_other"] spLHall) (bl_hall : Binds K d1 ["_law_rooms_here", "_law_one", "_law_other"] []) (kl_hall : KI K g1) (ml_hall : mg "_law_hall" = some (.ref g1))
    (Gl_lies : FnOk P w K mg base CX0 n g2 d2 ["_law_rooms_here", "_law_one", "_law_other"] spLLies) (bl_lies : Binds K d2 ["_law_rooms_here", "_law_one", "_law_other"] []) (kl_lies : KI K g2) (ml_lies : mg "_law_lies" = some (.ref g2))
    (m_reversed : mg "reversed" = none) (m_sorted : mg "sorted" = none) (m_list : mg "list" = none) : FnOk P w K mg base CX0 (n + 1) f fd ["_law_chart_here", "_law_stand_here", "_law_k", "_law_outs", "_law_ins", "_law_behind"] spWays := by
  refine F.ok sc_law_ways (fun vs H Q E h => ?_) (fun cdv A outer s H vs Q E hr h => ?_)
  · obtain ⟨pc, ps, pu, po, pi, c, bs, ne, k, d, st, s', es, ms, ik, rfl, _⟩ := h
    rfl
  obtain ⟨pc, ps, pu, po, pi, c, bs, ne, k, d, st, s', es, ms, ik, rfl, rfl, hX, ok, hd, ⟨so, sb, sk, skv, a1, a2, a3, a4, a5⟩, o40, olt, ⟨uo, ub, uk, ukv, b1, b2, b3, b4, b5⟩, lks, uo40, ur40, hpo, hpi, m40, hC, q⟩ := h
  refine ⟨_, (zE (zK (i := 6) sc_law_ways.nd rfl (Or.inl rfl) (yB zH (yB zH (pv 0) zB (fun _ _ => rfl)) (pv 2) (fun _ _ => rfl)))
   (zE (yD (zL yG (yB zH (pv 6) zB (fun _ _ => rfl)) zP (zR _))
   (zG (zO (pe_cut (pe_and (pe_cmpR (op_eqL hr.units0) (pv 3) (yK zD) (zR _)) (pe_one (pe_cmpR (op_eqL hr.units0) (pv 4) (yK zD) (zR _)))))))
   zT)
   (zE (zK (i := 7) sc_law_ways.nd rfl (Or.inr rfl) (zJ Gl_hall hr rfl ml_hall kl_hall bl_hall .nil yE (zA (yB zH (pv 0) zB (fun _ _ => rfl)) (zA (yB zH (pv 6) zB (fun _ _ => rfl)) (zA (yB zH (pv 6) zB (fun _ _ => rfl)) zD)))))
   (zE (ps_setC (i := 8) (caps := [(7, "_law_hall_here"), (0, "_law_chart_here")]) rfl sc_law_ways.nd rfl (Or.inl rfl) (show CompSc (defScope s_L_ways) ["_law_chart_here", "_law_stand_here", "_law_k", "_law_outs", "_law_ins", "_law_behind", "_law_door", "_law_hall_here", "_law_left", "_law_goals", "_law_room"] _ _ _ from ⟨rfl, rfl, by decide +kernel, by decide +kernel, by decide +kernel, by decide +kernel, by decide +kernel⟩) (pi_rev rfl m_reversed ((zA (yB zH (pv 1) zB (fun _ _ => rfl)) zD))) (fun _ _ _ _ _ _ => pifs_one (PW.pt (pw_or (zL op_isN (pv 1) pe_non (zR _)) (pw_or1 (pt_val (zJ Gl_lies hr rfl ml_lies kl_lies bl_lies .nil yE (zA (yB (r := rIxT K) zH (pv 2) zB (fun _ _ => rfl)) (zA (pv 0) (zA (pv 1) zD))))))))) (fun _ _ _ _ _ _ => (pv 0)))
   (zE (yD (pt_cut (PW.pt (pw_or (zL (op_neL hr.units0) (pv 3) (pv 8) (zR _)) (pw_or1 (zL (op_neL hr.units0) (pv 4) (zS call_sorted rfl m_sorted PyProof.Rows.boot_sorted (zA (pv 4) zD)) (zR _))))))
   (zG (zO pe_bl))
   zT)
   (zE (zK (i := 9) sc_law_ways.nd rfl (Or.inl rfl) (yK (zA (yB zH (pv 6) zB (fun _ _ => rfl)) zD)))
   (zZ (yD (zL yG (yB zH (pv 6) zB (fun _ _ => rfl)) zP (zR _))
   (zG (zK (i := 9) sc_law_ways.nd rfl (Or.inl rfl) (yC op_cat (pv 9) (yA call_list_of rfl m_list PyProof.Rows.boot_list (zA (yB zH (yB zH (pv 5) zB (fun _ _ => rfl)) (yB zH (pv 6) zB (fun _ _ => rfl)) (fun _ _ => rfl)) zD)))))
   zT)
   (zZ (ps_for PassesOwn.never rfl (yM (pv 9)) (yJ (i := 10) sc_law_ways.nd rfl (Or.inl rfl))
   (zG (yD (zL op_notIn_seq (pv 10) (yB zH (pv 5) zB (fun _ _ => rfl)) rfl)
   (zG (zO pe_bl))
   zT)))
   (zG (zO pe_bl)))))))))), ?_⟩
  obtain ⟨pb, pn, t, pdo, bv, nv, rmv, dv, h1, h2, h3, h4, h5, h6, h7, h8, h9, h10⟩ := id hX
  have hR : Rooms H t c.rs := ⟨rmv, h6, h7⟩
  have r40 := ok.ok.r40
  have hdm := List.mem_of_getElem? hd
  have od := ok.ok.door d hdm
  obtain ⟨vd, hvd, ad, gv, ddv, rfl, y1, y2, y3⟩ := h10.get hd
  have hatd := yQ hvd
  refine ⟨_, rfl, pc, _, _, _, rfl, rfl, SqT.of h1, rfl, _, rfl, pdo, _, _, _, rfl, rfl, SqT.of h9, hatd, ?_⟩
  refine ⟨_, rfl, ad, _, _, _, rfl, rfl, SqT.of y1, rfl, rfl, _, rfl, ?_⟩
  rw [(way_tx d).1]
  refine itB (fun hs => ?_) (fun hs => ?_)
  · obtain ⟨e1, e2⟩ := hC.stay hs
    rw [e1] at hpo
    rw [e2] at hpi
    refine ⟨fun v H' => v = .bl true /\ Same H H', ?_, ?_⟩
    · refine ⟨_, rfl, Nat.zero_le _, fun p3 hp3 => ?_⟩
      have u3 := zF hp3 (.lst [])
      have i3 : upd H p3 (.lst []) p3 = some (.lst []) := zC
      generalize upd H p3 (.lst []) = H3 at u3 i3 ⊢
      refine ⟨po, p3, [], rfl, rfl, SqL.of (u3 _ _ hpo), SqL.of i3, rfl, _, rfl, iteT ?_⟩
      refine ⟨_, rfl, Nat.zero_le _, fun p4 hp4 => ?_⟩
      have u4 := zF hp4 (.lst [])
      exact ⟨pi, p4, [], rfl, rfl, SqL.of ((u3.trans u4) _ _ hpi), SqL.of zC, rfl, rfl, u3.trans u4⟩
    rintro _ H3 ⟨rfl, s3⟩
    exact q H3 s3
  have hs' : ¬ isStay d.way = true := by rw [hs]; decide
  have egv : d.way.gv = .int ((d.way.gl : Nat) : Int) := by
    cases hw : d.way with
    | stay => rw [hw] at hs; cases hs
    | to g => rfl
    | back g => rfl
  rw [egv] at y1
  refine ⟨_, rfl, pc, _, _, _, rfl, rfl, SqT.of h1, rfl, _, rfl, ad, _, _, _, rfl, rfl, SqT.of y1, rfl, _, rfl, ad, _, _, _, rfl, rfl, SqT.of y1, rfl, t, c.rs, d.room, d.way.gl, rfl, hR, r40, od.1, od.2.1, ?_⟩
  have eh : Tr.hall (depths c.rs) (K09.isOne c.rs) d.room d.way.gl = hallOf c d := rfl
  rw [eh]
  refine ⟨_, rfl, ps, _, _, _, rfl, rfl, SqT.of a1, rfl, so, _, rfl, SqT.of a2, ?_⟩
  refine comp_filtV a2 (by omega) (fun o => K14.under (depths c.rs) o (hallOf c d)) (fun o ho Zb hz => ?_) (fun o Zv hz => ⟨_, rfl, hz⟩) (fun p5 hp5 => ?_)
  · cases hh : hallOf c d with
    | none =>
      rw [hh] at hz
      exact ⟨_, rfl, rfl, _, rfl, ifT rfl hz⟩
    | some u =>
      rw [hh] at hz
      have ul : u < c.rs.length := by
        have := hall_lt hh
        have := od.1
        omega
      exact ⟨_, rfl, rfl, _, rfl, ifF rfl ⟨_, rfl, pc, _, _, _, rfl, rfl, SqT.of h1, rfl, _, rfl, _, rfl, t, c.rs, _, _, o, u, rfl, rfl, rfl, hR, by omega, olt o ho, ul, _, rfl, hz⟩⟩
  have el : (st.os.filter fun o => K14.under (depths c.rs) o (hallOf c d)).reverse = leftOf c d st.os := (if_neg hs').symm
  rw [el]
  have u5 := zF hp5 (.lst (natsV (leftOf c d st.os)))
  have i5 : upd H p5 (.lst (natsV (leftOf c d st.os))) p5 = some (.lst (natsV (leftOf c d st.os))) := zC
  generalize upd H p5 (.lst (natsV (leftOf c d st.os))) = H5 at u5 i5 ⊢
  refine ⟨fun b H' => b = false /\ Same H5 H', ?_, ?_⟩
  · refine ⟨_, rfl, _, rfl, po, p5, _, rfl, rfl, SqL.of (u5 _ _ hpo), SqL.of i5, nats_flat _, _, rfl, ifF rfl ?_⟩
    refine ⟨_, rfl, _, rfl, pi, ms.map fun j : Nat => (j : Int), rfl, .inl (SqL.of (by rw [u5 _ _ hpi, <- nats_ints]; rfl)), (by rw [zl0]; omega), fun psr rs' hpsr perm srt => ?_⟩
    obtain ⟨ms', rfl, rise, hpm⟩ := sorted_rise perm srt (Tr.nodup_rise hC.rise)
    have em : ms' = ms := rise_unique _ _ rise hC.rise fun x => hpm.mem_iff
    subst em
    have u6 := zF hpsr (.lst ((ms'.map fun j : Nat => (j : Int)).map V.int))
    exact ⟨pi, psr, natsV ms', rfl, rfl, SqL.of ((u5.trans u6) _ _ hpi), SqL.of (by rw [zC, <- nats_ints]; rfl), nats_flat _, _, rfl, rfl, u6⟩
  rintro _ H6 ⟨rfl, s6⟩
  refine iteF ?_
  have s06 := u5.trans s6
  refine ⟨_, rfl, ad, _, _, _, rfl, rfl, SqT.of (s06 _ _ y1), rfl, zI (by show 1 <= 1000; decide), fun p7 hp7 => ?_⟩
  have u7 := zF hp7 (.lst [V.int (d.way.gl : Int)])
  have i7 : upd H6 p7 (.lst [V.int (d.way.gl : Int)]) p7 = some (.lst (natsV [d.way.gl])) := zC
  generalize upd H6 p7 (.lst [V.int (d.way.gl : Int)]) = H7 at u7 i7 ⊢
  have s07 := s06.trans u7
  refine ⟨fun σ' H' => ∃ (pg : Addr) (js : List Nat), Same H H' /\ H' pg = some (.lst (natsV (d.way.gl :: js))) /\ js.length <= 40 /\ (match d.way with | .back g => js = s'.ks.getD g [] | _ => js = []) /\ σ' = [some (.ref pc), some (.ref ps), some (.int (k : Int)), some (.ref po), some (.ref pi), some (.ref pu), some (.ref ad), some (pV (hallOf c d)), some (.ref p5), some (.ref pg), none], ?_, ?_⟩
  · refine ⟨_, rfl, ad, _, _, _, rfl, rfl, SqT.of (s07 _ _ y1), rfl, rfl, _, rfl, ?_⟩
    rw [(way_tx d).2]
    cases hw : d.way with
    | stay => rw [hw] at hs; cases hs
    | to g =>
      rw [hw] at i7
      exact ifF rfl ⟨p7, [], s07, i7, Nat.zero_le _, rfl, rfl⟩
    | back g =>
      rw [hw] at i7 y1 od
      have hg : g < s'.ks.length := by rw [lks]; exact od.2.1
      obtain ⟨vk, hvk, ak, rfl, hak⟩ := b5.get (zl1 hg)
      have eg : s'.ks.getD g [] = s'.ks[g] := by rw [zl11, zl1 hg]; rfl
      have lk := ur40 _ (zl22 hg)
      refine ifT rfl ⟨_, rfl, _, rfl, pu, _, _, _, rfl, rfl, SqT.of (s07 _ _ b1), rfl, _, rfl, ad, _, _, _, rfl, rfl, SqT.of (s07 _ _ y1), rfl, uk, _, _, _, rfl, rfl, SqT.of (s07 _ _ b4), yQ hvk, ak, _, rfl, .inr (SqT.of (s07 _ _ hak)), fun p8 hp8 => ?_⟩
      have u8 := zF hp8 (.lst (natsV s'.ks[g]))
      have i8 : upd H7 p8 (.lst (natsV s'.ks[g])) p8 = some (.lst (natsV s'.ks[g])) := zC
      generalize upd H7 p8 (.lst (natsV s'.ks[g])) = H8 at u8 i8 ⊢
      refine ⟨p7, p8, _, _, rfl, rfl, u8 _ _ i7, i8, (by rw [zU, zU, sizeLine_eq]; show 1 + _ <= _; omega), fun p9 hp9 => ?_⟩
      have u9 := zF hp9 (.lst (natsV [g] ++ natsV s'.ks[g]))
      exact ⟨p9, s'.ks[g], (s07.trans u8).trans u9, zC, lk, eg.symm, rfl⟩
  rintro σ' H8 ⟨pg, js, s8, hpg, ljs, hjs, rfl⟩
  have gin := hC.goals hs js hjs
  refine ⟨fun σ' H' => H8 = H', ?_, ?_⟩
  · refine ⟨_, rfl, pg, rfl, ⟨_, SqL.of hpg⟩, ?_⟩
    refine for_list (K := K) (a := pg) (xs := natsV (d.way.gl :: js)) (fun i σ' H' => H8 = H' /\ ∃ o10 : Option V, σ' = [some (.ref pc), some (.ref ps), some (.int (k : Int)), some (.ref po), some (.ref pi), some (.ref pu), some (.ref ad), some (pV (hallOf c d)), some (.ref p5), some (.ref pg), o10]) ⟨rfl, none, rfl⟩ (fun i σ' H' _ z => by rw [<- z.1]; exact SqL.of hpg) ?_ (fun _ _ z => z.1)
    rintro i x σ' _ hx ⟨rfl, o10, rfl⟩
    obtain ⟨hi, rfl⟩ := yR hx
    have xin := gin _ (zl22 hi)
    refine ⟨_, rfl, _, rfl, pu, _, _, _, rfl, rfl, SqT.of (s8 _ _ b1), rfl, uo, _, rfl, .inr (SqT.of (s8 _ _ b2)), rfl, nats_flat _, _, rfl, ifF ?_ ⟨rfl, _, rfl⟩⟩
    rw [K14.in_nats, decide_eq_true xin]
    rfl
  rintro σ' _ rfl
  exact q H8 s8
end
end Ru
namespace Ru
open PySem L2 Mix Gds Rms Lts Dds Prg
open Ans (Al)
theorem made {C : Addr} {H H1 : Hp} {x dx : Addr} {fp : List Addr} (nx : H x = none) (ndx : H dx = none) (own : ∀ b ∈ fp, b = x ∨ upd (upd H dx (.own x)) x (.ins C dx []) b = none) (rest : ∀ b o, upd (upd H dx (.own x)) x (.ins C dx []) b = some o -> b ≠ x -> H1 b = some o) : Same H H1 /\ ∀ b ∈ fp, H b = none := by
  refine ⟨fun b o e => ?_, fun b hb => ?_⟩
  · have nb : b ≠ x := zM e nx
    refine rest b o ?_ nb
    rw [zQ nb, zQ (zM e ndx)]
    exact e
  · rcases own b hb with z | z
    · rw [z]
      exact nx
    · by_cases y : b = x
      · rw [y]
        exact nx
      · rw [zQ y] at z
        by_cases y2 : b = dx
        · rw [y2]
          exact ndx
        · rw [zQ y2] at z
          exact z
def spLaw (K : PySem.W.Frag) : Sp := fun vs H Q _ => ∃ (a : Addr) (ns : List Int), vs = [.ref a] /\ SqL K H a (ns.map V.int) /\ ns.length <= 63 /\ ∀ H', Q (.bl true) H'
section
variable {P : Program} {w : World} {K : PySem.W.Frag} {mg : Str -> Option Value} {base : Heap} {C : Addr}
theorem ok_guard3 {f : Addr} {fd : FuncData} (F : Fun K "_law_guard" "_law_guard" s_L_guard f fd) (bl_guard : Binds K fd ["_law_number", "_law_rooms_here", "_law_boxes", "_law_high"] []) (ml_guard : mg "_law_guard" = some (.ref f)) : FnOk P w K mg base CX0 3 f fd ["_law_number", "_law_rooms_here", "_law_boxes", "_law_high"] (Chr.spGuard 3) := by
  exact Chr.all_guard F bl_guard ml_guard 3
theorem ok_opn5 {f gm : Addr} {fd dm : FuncData} (F : Fun K "_law_opened" "_law_opened" s_L_opened f fd) (Gl_mixed : FnOk P w K mg base CX0 2 gm dm ["_law_script", "_law_k", "_law_salt"] (spMixed K)) (bl_mixed : Binds K dm ["_law_script", "_law_k", "_law_salt"] []) (kl_mixed : KI K gm) (ml_mixed : mg "_law_mixed" = some (.ref gm))
    (bl_opened : Binds K fd ["_law_rooms_here", "_law_room", "_law_script", "_law_at"] []) (ml_opened : mg "_law_opened" = some (.ref f)) (m_len : mg "len" = none) : FnOk P w K mg base CX0 7 f fd ["_law_rooms_here", "_law_room", "_law_script", "_law_at"] (spOpn K 5) := by
  exact all_opn F Gl_mixed bl_mixed kl_mixed ml_mixed bl_opened ml_opened m_len 5
theorem sc_law : FnScope ["_law_script", "_law_chart_here", "_law_rooms_here", "_law_parents_here", "_law_lap", "_law_stand_here", "_law_k", "_law_found", "_law_opened_here", "_law_walked", "_law_behind"] ["_law_script"] (defScope sLawF) := ⟨rfl, rfl, rfl, by decide +kernel, rfl, by decide +kernel, by decide +kernel⟩
theorem ok_law {n : Nat} {f gi g1 g2 g3 g4 g5 g6 g7 : Addr} {fd di dg1 dg2 dg3 dg4 dg5 dg6 dg7 : FuncData} (F : Fun K "law" "law" sLawF f fd) (Mk' : Mk K C gi)
    (G_init : FnOk P w K mg base CX0 n gi di ["self", "most"] (spInit C (LL C))) (b_init : Binds K di ["self", "most"] []) (m_Letters : mg "Letters" = some (.ref C))
    (Gl_chart : FnOk P w K mg base CX0 (n + 1) g1 dg1 ["_law_script"] (Chr.spChart K)) (bl_chart : Binds K dg1 ["_law_script"] []) (kl_chart : KI K g1) (ml_chart : mg "_law_chart" = some (.ref g1))
    (Gl_parents : FnOk P w K mg base CX0 (n + 1) g2 dg2 ["_law_rooms_here"] spLPar) (bl_parents : Binds K dg2 ["_law_rooms_here"] []) (kl_parents : KI K g2) (ml_parents : mg "_law_parents" = some (.ref g2))
    (Gl_stand : FnOk P w K mg base CX0 (n + 1) g3 dg3 ["_law_chart_here", "_law_script", "_law_at"] (spStand K)) (bl_stand : Binds K dg3 ["_law_chart_here", "_law_script", "_law_at"] []) (kl_stand : KI K g3) (ml_stand : mg "_law_stand" = some (.ref g3))
    (G_passed : FnOk P w K mg base CX0 (n + 1) g4 dg4 ["chart", "stand", "door", "letters"] (spPassed C)) (b_passed : Binds K dg4 ["chart", "stand", "door", "letters"] []) (k_passed : KI K g4) (m_passed : mg "passed" = some (.ref g4))
    (Gl_walk : FnOk P w K mg base CX0 (n + 1) g5 dg5 ["_law_rooms_here", "_law_parents_here", "_law_opened_here", "_law_record", "_law_door"] spWalk) (bl_walk : Binds K dg5 ["_law_rooms_here", "_law_parents_here", "_law_opened_here", "_law_record", "_law_door"] []) (kl_walk : KI K g5) (ml_walk : mg "_law_walk" = some (.ref g5))
    (Gl_is_full : FnOk P w K mg base CX0 (n + 1) g6 dg6 ["_law_rooms_here", "_law_parents_here", "_law_opening"] spLFull) (bl_is_full : Binds K dg6 ["_law_rooms_here", "_law_parents_here", "_law_opening"] []) (kl_is_full : KI K g6) (ml_is_full : mg "_law_is_full" = some (.ref g6))
    (Gl_ways : FnOk P w K mg base CX0 (n + 1) g7 dg7 ["_law_chart_here", "_law_stand_here", "_law_k", "_law_outs", "_law_ins", "_law_behind"] spWays) (bl_ways : Binds K dg7 ["_law_chart_here", "_law_stand_here", "_law_k", "_law_outs", "_law_ins", "_law_behind"] []) (kl_ways : KI K g7) (ml_ways : mg "_law_ways" = some (.ref g7))
    (m_range : mg "range" = none) (m_len : mg "len" = none) (m_list : mg "list" = none) (m_tuple : mg "tuple" = none) (m_isinstance : mg "isinstance" = none) : FnOk P w K mg base CX0 (n + 2) f fd ["_law_script"] (spLaw K) := by
  refine F.ok sc_law (fun vs H Q E h => ?_) (fun cdv A outer s H vs Q E hr h => ?_)
  · obtain ⟨a, ns, rfl, _⟩ := h
    rfl
  obtain ⟨a, ns, rfl, hS, h63, q⟩ := h
  refine ⟨_, (zE (zK (i := 1) sc_law.nd rfl (Or.inl rfl) (zJ Gl_chart hr rfl ml_chart kl_chart bl_chart .nil yE (zA (pv 0) zD)))
   (zE (zK (i := 2) sc_law.nd rfl (Or.inl rfl) (yB zH (pv 1) zB (fun _ _ => rfl)))
   (zE (zK (i := 3) sc_law.nd rfl (Or.inl rfl) (zJ Gl_parents hr rfl ml_parents kl_parents bl_parents .nil yE (zA (pv 2) zD)))
   (zZ (ps_for PassesOwn.never rfl (pi_range1 rfl m_range (zA zB zD)) (yJ (i := 4) sc_law.nd rfl (Or.inl rfl))
   (zE (zK (i := 5) sc_law.nd rfl (Or.inr rfl) (zJ Gl_stand hr rfl ml_stand kl_stand bl_stand .nil yE (zA (pv 1) (zA (pv 0) (zA (yC yF zB (yC op_mul zB (pv 4))) zD)))))
   (zG (ps_for PassesOwn.never rfl (pi_range1 rfl m_range (zA (zS zN rfl m_len PySem.boot_len (zA (yB zH (pv 1) zB (fun _ _ => rfl)) zD)) zD)) (yJ (i := 6) sc_law.nd rfl (Or.inl rfl))
   (zE (yD (zL op_notIn_seq (yB zH (yB zH (yB zH (pv 1) zB (fun _ _ => rfl)) (pv 6) (fun _ _ => rfl)) zB (fun _ _ => rfl)) (yB zH (pv 5) zB (fun _ _ => rfl)) rfl)
   (zG ps_continue)
   zT)
   (zE (zK (i := 7) sc_law.nd rfl (Or.inl rfl) (zJ G_passed hr rfl m_passed k_passed b_passed .nil yE (zA (pv 1) (zA (pv 5) (zA (pv 6) (zA (pe_make Mk' G_init hr rfl m_Letters b_init .nil yE (zA (yB zH (pv 1) zB (fun _ _ => rfl)) zD)) zD))))))
   (zE (yD (pt_cut (PW.pt (pw_or (pt_not (pt_val (zS call_isinst rfl m_isinstance PyProof.Rows.boot_isinstance (zA (pv 7) (zA (pe_bltn (v := .ty "tuple") rfl m_tuple PyProof.Rows.boot_tuple rfl) zD))))) (pw_or (zL op_ne (zS zN rfl m_len PySem.boot_len (zA (pv 7) zD)) zB (zR _)) (pw_or1 (pt_not (pt_val (zS call_isinst rfl m_isinstance PyProof.Rows.boot_isinstance (zA (yB zH (pv 7) zB (fun _ _ => rfl)) (zA (pe_bltn (v := .ty "list") rfl m_list PyProof.Rows.boot_list rfl) zD))))))))))
   (zG (zO pe_bl))
   zT)
   (zE (zK (i := 8) sc_law.nd rfl (Or.inr rfl) (yT (caps := [(5, "_law_stand_here")]) rfl (show CompSc (defScope sLawF) ["_law_script", "_law_chart_here", "_law_rooms_here", "_law_parents_here", "_law_lap", "_law_stand_here", "_law_k", "_law_found", "_law_opened_here", "_law_walked", "_law_behind"] _ _ _ from ⟨rfl, rfl, by decide +kernel, by decide +kernel, by decide +kernel, by decide +kernel, by decide +kernel⟩) (pi_range1 rfl m_range (zA (zS zN rfl m_len PySem.boot_len (zA (pv 2) zD)) zD)) (fun _ _ _ _ _ _ => pifs_nil) (fun _ _ _ _ _ _ => (pe_cmpR (r := rIn K false) op_in_seq (pv 0) (yB (r := rIxT K) zH (pv 1) zB (fun _ _ => rfl)) rfl))))
   (zE (zK (i := 9) sc_law.nd rfl (Or.inl rfl) (zJ Gl_walk hr rfl ml_walk kl_walk bl_walk .nil yE (zA (pv 2) (zA (pv 3) (zA (pv 8) (zA (yB zH (pv 7) zB (fun _ _ => rfl)) (zA (pv 6) zD)))))))
   (zE (zK (i := 10) sc_law.nd rfl (Or.inl rfl) (yB zH (pv 7) zB (fun _ _ => rfl)))
   (zE (yD (pt_cut (PW.pt (pw_or (zL op_isN (pv 9) pe_non (zR _)) (pw_or1 (zL (op_neT hr.units0) (yB yU (yB zH (pv 7) zB (fun _ _ => rfl)) zB (fun _ _ => rfl)) (zW (zA zP (zA (pv 6) zD))) (zR _))))))
   (zG (zO pe_bl))
   zT)
   (zE (yD (pt_cut (PW.pt (pw_or (pt_not (pt_val (zS call_isinst rfl m_isinstance PyProof.Rows.boot_isinstance (zA (pv 10) (zA (pe_bltn (v := .ty "tuple") rfl m_tuple PyProof.Rows.boot_tuple rfl) zD))))) (pw_or (zL op_ne (zS zN rfl m_len PySem.boot_len (zA (pv 10) zD)) zB (zR _)) (pw_or1 (pt_not (pt_val (zS call_isinst rfl m_isinstance PyProof.Rows.boot_isinstance (zA (yB zH (pv 10) zB (fun _ _ => rfl)) (zA (pe_bltn (v := .ty "tuple") rfl m_tuple PyProof.Rows.boot_tuple rfl) zD))))))))))
   (zG (zO pe_bl))
   zT)
   (zE (yD (zL (op_neT hr.units0) (yB zH (pv 10) zB (fun _ _ => rfl)) (yA zX rfl m_tuple PyProof.Rows.boot_tuple (zA (yT (caps := [(8, "_law_opened_here")]) rfl (show CompSc (defScope sLawF) ["_law_script", "_law_chart_here", "_law_rooms_here", "_law_parents_here", "_law_lap", "_law_stand_here", "_law_k", "_law_found", "_law_opened_here", "_law_walked", "_law_behind"] _ _ _ from ⟨rfl, rfl, by decide +kernel, by decide +kernel, by decide +kernel, by decide +kernel, by decide +kernel⟩) (pi_range1 rfl m_range (zA (zS zN rfl m_len PySem.boot_len (zA (pv 2) zD)) zD)) (fun _ _ _ _ _ _ => pifs_one (pt_val (yB (r := rIxL K) yU (pv 1) (pv 0) (fun _ _ => rfl)))) (fun _ _ _ _ _ _ => (pv 0))) zD)) (zR _))
   (zG (zO pe_bl))
   zT)
   (zE (yD (pt_not (pt_val (zJ Gl_is_full hr rfl ml_is_full kl_is_full bl_is_full .nil yE (zA (pv 2) (zA (pv 3) (zA (yB zH (pv 10) zB (fun _ _ => rfl)) zD))))))
   (zG (zO pe_bl))
   zT)
   (zG (yD (pt_not (pt_val (zJ Gl_ways hr rfl ml_ways kl_ways bl_ways .nil yE (zA (pv 1) (zA (pv 5) (zA (pv 6) (zA (yB zH (pv 9) zB (fun _ _ => rfl)) (zA (yB zH (pv 9) zB (fun _ _ => rfl)) (zA (pv 10) zD)))))))))
   (zG (zO pe_bl))
   zT))))))))))))))))
   (zG (zO pe_bl)))))), ?_⟩
  refine ⟨_, rfl, a, ns, rfl, hS, h63, fun pc c bs ne H1 s1 hX ok => ?_⟩
  have l10 := ok.l10
  have ok2 := ok.ok
  have lsz : c.sz.length = bs.length := by rw [ok.sz, zl0]
  obtain ⟨pb, pn, t, pd, bv, nv, rmv, dv, h1, h2, h3, h4, h5, h6, h7, h8, h9, h10⟩ := id hX
  have ldv := h10.length
  have lrm := h7.length
  have d63 := ok2.d63
  have hR1 : Rooms H1 t c.rs := ⟨rmv, h6, h7⟩
  have ld := yV c.rs
  refine ⟨_, rfl, pc, _, _, _, rfl, rfl, SqT.of h1, rfl, ?_⟩
  refine ⟨_, rfl, t, c.rs, rfl, hR1, ok2.good, ok2.r40, fun pp H2 s2 npp hpp => ?_⟩
  have s12 : Same H1 H2 := s2
  refine ⟨fun σ' H' => True, ?_, ?_⟩
  · refine ⟨2, rfl, by decide, by decide, ?_⟩
    refine for_range (fun i σ' H' => Same H2 H' /\ ∃ o4 o5 o6 o7 o8 o9 o10 : Option V, σ' = [some (.ref a), some (.ref pc), some (.ref t), some (.ref pp), o4, o5, o6, o7, o8, o9, o10]) ⟨Same.refl _, _, _, _, _, _, _, _, rfl⟩ ?_ (fun _ _ _ => trivial)
    rintro i σ' H3 hi ⟨s3, o4, o5, o6, o7, o8, o9, o10, rfl⟩
    have hi2 : i < 2 := hi
    have s13 := s12.trans s3
    refine ⟨_, rfl, _, rfl, _, rfl, _, _, rfl, rfl, mulIn (by decide) (by decide), _, _, rfl, rfl, pc, a, ns, c, bs, ne, _, rfl, hX.mono (KeepT.of s13), ok, (s1.trans s13).seq hS, h63, ⟨by omega, by omega⟩, fun ps st H4 s4 hSd sl opf jw hK lbx => ?_⟩
    have s24 := s3.trans s4
    have s14 := s13.trans s4
    obtain ⟨os, bx, ks, l0⟩ := st
    have sl : l0 = [] := sl
    subst sl
    have opf : Tr.OpF (depths c.rs) (alB c.rs) 0 os := opf
    have jw : Jw c os ks := jw
    have lbx : bx.length = c.sz.length := lbx
    have full : Tr.FullB (depths c.rs) (onB c.rs) (alB c.rs) os := opf.full (fun k p hk hp => Fit.par ok.fit (by rw [<- ld]; exact hk) hp) (fun p hp => Fit.one ok2.good ok.fit p hp) (on_al c.rs)
    have o20 : os.length <= 20 := Nat.le_trans (Tr.nodup_lt _ _ (Tr.nodup_rise jw.inc) jw.lt) l10
    refine ⟨_, rfl, pc, _, _, _, rfl, rfl, SqT.of (s14 _ _ h1), rfl, pd, _, rfl, .inr (SqT.of (s14 _ _ h9)), _, rfl, by omega, by omega, ?_⟩
    refine for_range (fun j σ' H' => Same H4 H' /\ ∃ o6 o7 o8 o9 o10 : Option V, σ' = [some (.ref a), some (.ref pc), some (.ref t), some (.ref pp), some (.int (0 + (i : Int))), some (.ref ps), o6, o7, o8, o9, o10]) ⟨Same.refl _, _, _, _, _, _, rfl⟩ ?_ (fun σ' H' ⟨z, _, _, _, _, _, e⟩ => ⟨s24.trans z, _, _, _, _, _, _, _, e⟩)
    clear o6 o7 o8 o9 o10
    rintro j σ' H5 hj ⟨s5, o6, o7, o8, o9, o10, rfl⟩
    have hj' : j < c.ds.length := by
      simp at hj
      omega
    have hd := zl1 hj'
    generalize c.ds[j] = d at hd
    have hdm := List.mem_of_getElem? hd
    obtain ⟨vd, hvd, ad, gv, ddv, rfl, y1, y2, y3⟩ := h10.get hd
    have hatd : atI dv (0 + (j : Int)) = some (.ref ad) := by
      rw [Int.zero_add]
      exact yQ hvd
    obtain ⟨po, pbx, pk, kv, z1, z2, z3, z4, z5⟩ := id hSd
    have s15 := s14.trans s5
    refine ⟨_, rfl, pc, _, _, _, rfl, rfl, SqT.of (s15 _ _ h1), rfl, _, rfl, pd, _, _, _, rfl, rfl, SqT.of (s15 _ _ h9), hatd, ad, _, _, _, rfl, rfl, SqT.of (s15 _ _ y1), rfl, _, rfl, ps, _, _, _, rfl, rfl, SqT.of (s5 _ _ z1), rfl, po, _, rfl, .inr (SqT.of (s5 _ _ z2)), rfl, nats_flat _, _, rfl, itB (fun z => ?_) (fun z => ?_)⟩
    · exact ⟨s5, _, _, _, _, _, rfl⟩
    have ro : d.room ∈ os := by
      have z : (!inV (.int (d.room : Int)) (natsV os)) = false := z
      rw [K14.in_nats] at z
      simpa using z
    have lb12 := ok2.l12
    refine ⟨_, rfl, _, rfl, _, rfl, _, rfl, pc, _, _, _, rfl, rfl, SqT.of (s15 _ _ h1), rfl, fun x dx nx ndx ndxx => ⟨x, dx, c.lb, (by show [V.ref x, V.int c.lc] = _; rw [ok.lc]), zC, lb12, fun fp0 H6 hL6 own rest => ⟨rfl, ?_⟩⟩⟩
    obtain ⟨s6, nf6⟩ := made nx ndx own rest
    clear own rest
    have s16 := s15.trans s6
    have s46 := s5.trans s6
    have hSd6 := hSd.mono (KeepT.of s46)
    refine ⟨pc, ps, x, c, j, _, ⟨os, bx, ks, []⟩, fp0, d, rfl, by omega, (hX.mono (KeepT.of s16)).ch ok c.lb, ok2, hSd6, ⟨jw.inc, jw.lt, by show os.length <= 40; omega, lbx, jw.len, Nat.zero_le _⟩, hd, may_pass ok2 jw hdm, hL6, fun tf ps' pr rv s' es fp' H7 PR hL7 st7 htf hS7 so7 hpr npr nprf hA7 le7 => ?_⟩
    have s7 : Same H5 H7 := fun b o e => st7.rest b o (s6 b o e) fun z => by rw [nf6 b z] at e; cases e
    have s17 := s15.trans s7
    have s47 := s5.trans s7
    have s27 := s24.trans s47
    obtain ⟨d', ms, hd', hms, perm, rise', eks, eq⟩ := PR
    obtain rfl : d = d' := zl7 (hd.symm.trans hd')
    have ees : es = (ssRun c.sz c.lb (stepsOf c j d os ms) bx []).2.2 := congrArg (·.2.2) eq
    have jk := jw.kept ok2 d
    have eks : s'.ks = ksOf c d os ks := eks
    have hK' : ∀ (r : Nat) (js : List Nat), s'.ks[r]? = some js -> Tr.KRow (depths c.rs) (alB c.rs) (plB c.rs) r js := by
      rw [eks]
      exact krow_fold ok.fit full jw ok.kp hK
    rw [<- eks] at jk
    have hms : InsR c d s'.ks ms := by rw [eks]; exact hms
    have hC : Closed c j d os es s' ms := closed_of (s := ⟨os, bx, ks, []⟩) ok2 ok.fit full jw ro hdm hK' jk.1 (plain_kids ok.fit) hms perm rise' ees
    have mlen : ms.length <= 20 := Nat.le_trans (Tr.nodup_lt _ _ (Tr.nodup_rise hC.rise) (ins_lt ok2 hms)) l10
    obtain ⟨es', ehd⟩ : ∃ es', es = En.door j :: es' := by
      refine ⟨es.tail, ?_⟩
      rw [ees]
      obtain ⟨E, hE⟩ := fold_head c.sz c.lb (En.door j, []) (stepsOf c j d os ms).tail (bx, [], [])
      have e : ssRun c.sz c.lb (stepsOf c j d os ms) bx [] = ((En.door j, []) :: (stepsOf c j d os ms).tail).foldl (sstep c.sz c.lb) (bx, [], []) := rfl
      rw [e, hE]
      rfl
    refine ⟨fun b H' => b = false /\ H7 = H', ?_, ?_⟩
    · exact ⟨_, rfl, _, "tuple", _, true, rfl, .tup htf, by rfl, _, rfl, ifF rfl ⟨_, rfl, tf, _, rfl, .inr (SqT.of htf), rfl, _, rfl, ifF rfl ⟨_, rfl, tf, _, _, _, rfl, rfl, SqT.of htf, rfl, _, "list", _, true, rfl, .lst hpr, by rfl, _, rfl, rfl, rfl⟩⟩⟩
    rintro _ _ ⟨rfl, rfl⟩
    refine iteF ?_
    -- who is open
    refine ⟨_, rfl, t, _, rfl, .inr (SqT.of (s17 _ _ h6)), _, rfl, by omega, by omega, ?_⟩
    refine comp_range (fun i' acc H' => H7 = H' /\ acc = opB i' os) ⟨rfl, rfl⟩ (fun i' acc H' hi' ⟨e1, e2⟩ => ?_) (fun acc H' ⟨e1, e2⟩ pb' hpb' => ?_)
    · subst e1 e2
      refine ⟨_, rfl, _, rfl, ps, _, _, _, rfl, rfl, SqT.of (s47 _ _ z1), rfl, po, _, rfl, .inr (SqT.of (s47 _ _ z2)), rfl, nats_flat _, zV (by rw [opB_len]; omega), rfl, ?_⟩
      unfold opB
      rw [List.range_succ, zl8]
      show _ ++ [V.bl (inV (.int (0 + (i' : Int))) (natsV os))] = _
      rw [Int.zero_add, K14.in_nats]
      rfl
    subst e1 e2
    have en : ((rmv.length : Int)).toNat = c.rs.length := by omega
    rw [en]
    have u8 := zF hpb' (.lst (opB c.rs.length os))
    have i8 : upd H7 pb' (.lst (opB c.rs.length os)) pb' = some (.lst (opB c.rs.length os)) := zC
    generalize upd H7 pb' (.lst (opB c.rs.length os)) = H8 at u8 i8 ⊢
    have s18 := s17.trans u8
    have hpp7 := s27 _ _ hpp
    refine ⟨_, rfl, _, rfl, _, rfl, _, rfl, tf, _, _, _, rfl, rfl, SqT.of (u8 _ _ htf), rfl, _, rfl, t, pp, pb', pr, c.rs, j, os, rv, es, (by show [V.ref t, V.ref pp, V.ref pb', V.ref pr, V.int (0 + (j : Int))] = _; rw [Int.zero_add]), hR1.mono (KeepT.of s18), ok2.good, ok2.r40, u8 _ _ hpp7, i8, zM hpp7 hpb', zM hpr hpb', Tr.nodup_rise jw.inc, u8 _ _ hpr, hA7.mono (fun _ _ z => z.mono (KeepT.of u8)), le7, hC.walk, hC.thr, fun tw wo wi H9 htw hwo hwi nwo nwi hpb9 fr => ?_⟩
    have s9 : Same H7 H9 := fun b o e => fr b o (u8 _ _ e) (zM e hpb')
    have s19 := s17.trans s9
    have s49 := s47.trans s9
    have s29 := s27.trans s9
    have htf9 := s9 _ _ htf
    have hS9 := hS7.mono (KeepT.of s9)
    obtain ⟨qo, qb, qk, kv', b1, b2, b3, b4, b5⟩ := id hS9
    refine ⟨_, rfl, tf, _, _, _, rfl, rfl, SqT.of htf9, rfl, ?_⟩
    have hA9 := hA7.mono fun _ _ z => z.mono (KeepT.of s9)
    refine ⟨fun b H' => b = false /\ Same H9 H', ?_, ?_⟩
    · refine ⟨_, rfl, rfl, _, rfl, ifF rfl ?_⟩
      obtain ⟨v0, hv0, a0, rfl, ha0⟩ := hA9.get (show es[0]? = some (En.door j) by rw [ehd]; rfl)
      refine ⟨_, rfl, tf, _, _, _, rfl, rfl, SqT.of htf9, rfl, pr, _, _, _, rfl, rfl, SqL.of (s9 _ _ hpr), (yQ (j := 0) hv0), _, rfl, zI (by show 2 <= 1000; decide), fun p10 hp10 => ?_⟩
      have u10 := zF hp10 (.tup [V.str ("door" : Str), V.int (0 + (j : Int))])
      refine ⟨a0, p10, [V.str ("door" : Str), V.int (j : Int)], rfl, rfl, SqT.of (u10 _ _ ha0), SqT.of (by rw [zC, Int.zero_add]), rfl, _, rfl, rfl, u10⟩
    rintro _ H10 ⟨rfl, s10⟩
    refine iteF ?_
    have s110 := s19.trans s10
    refine ⟨fun b H' => b = false /\ H10 = H', ?_, ?_⟩
    · exact ⟨_, rfl, _, "tuple", _, true, rfl, .tup (s10 _ _ b1), by rfl, _, rfl, ifF rfl ⟨_, rfl, ps', _, rfl, .inr (SqT.of (s10 _ _ b1)), rfl, _, rfl, ifF rfl ⟨_, rfl, ps', _, _, _, rfl, rfl, SqT.of (s10 _ _ b1), rfl, _, "tuple", _, true, rfl, .tup (s10 _ _ b2), by rfl, _, rfl, rfl, rfl⟩⟩⟩
    rintro _ _ ⟨rfl, rfl⟩
    refine iteF ?_
    have lt9 : ∀ o ∈ s'.os, o < c.rs.length := so7.lt
    have eos : (List.range c.rs.length).filter (fun r => decide (r ∈ endC os es)) = s'.os := rise_unique _ _ (List.pairwise_lt_range.filter _) so7.inc fun r => by
      rw [zl23, List.mem_range, decide_eq_true_iff, hC.mem]
      exact ⟨fun z => z.2, fun z => ⟨lt9 r z, z⟩⟩
    refine ⟨_, rfl, ps', _, _, _, rfl, rfl, SqT.of (s10 _ _ b1), rfl, _, rfl, t, _, rfl, .inr (SqT.of (s110 _ _ h6)), _, rfl, by omega, by omega, ?_⟩
    refine comp_filtR (by omega) (fun r => decide (r ∈ endC os es)) (fun o ho Zb hz => ?_) (fun o Zv hz => ⟨_, rfl, hz⟩) (fun p11 hp11 => ?_)
    · have hat : atI (opB c.rs.length (endC os es)) (0 + (o : Int)) = some (V.bl (decide (o ∈ endC os es))) := by
        rw [Int.zero_add]
        exact yQ (opB_at _ (by omega))
      exact ⟨_, rfl, _, rfl, pb', _, _, _, rfl, rfl, SqL.of (s10 _ _ hpb9), hat, _, rfl, hz⟩
    rw [en, eos]
    have u11 := zF hp11 (.lst (natsV s'.os))
    have i11 : upd H10 p11 (.lst (natsV s'.os)) p11 = some (.lst (natsV s'.os)) := zC
    generalize upd H10 p11 (.lst (natsV s'.os)) = H11 at u11 i11 ⊢
    refine ⟨p11, _, rfl, .inl ⟨SqL.of i11, fun p12 hp12 => ?_⟩⟩
    have u12 := zF hp12 (.tup (natsV s'.os))
    have i12 : upd H11 p12 (.tup (natsV s'.os)) p12 = some (.tup (natsV s'.os)) := zC
    generalize upd H11 p12 (.tup (natsV s'.os)) = H12 at u12 i12 ⊢
    have s12' := s10.trans (u11.trans u12)
    refine ⟨qo, p12, _, rfl, rfl, SqT.of (s12' _ _ b2), SqT.of i12, nats_flat _, _, rfl, ifF rfl ?_⟩
    have s112 := s19.trans s12'
    refine ⟨_, rfl, _, rfl, _, rfl, ps', _, _, _, rfl, rfl, SqT.of (s12' _ _ b1), rfl, t, pp, qo, c.rs, s'.os, rfl, hR1.mono (KeepT.of s112), ok2.good, ok2.r40, (s29.trans s12') _ _ hpp, s12' _ _ b2, lt9, hC.full, fun H13 s13' => ⟨_, rfl, ifF rfl ?_⟩⟩
    have s13'' := s12'.trans s13'
    have s113 := s19.trans s13''
    have s413 := s49.trans s13''
    refine ⟨_, rfl, _, rfl, _, rfl, _, rfl, tw, _, _, _, rfl, rfl, SqT.of (s13'' _ _ htw), rfl, _, rfl, tw, _, _, _, rfl, rfl, SqT.of (s13'' _ _ htw), rfl, _, rfl, pc, ps, ps', wo, wi, c, bs, ne, j, d, ⟨os, bx, ks, []⟩, s', es, ms, _, rfl, by omega, hX.mono (KeepT.of s113), ok, hd, hSd.mono (KeepT.of s413), by show os.length <= 40; omega, jw.lt, hS9.mono (KeepT.of s13''), jk.1, so7.o40, (fun r hr => (jk.2 r hr).2), ?_, ?_, by omega, hC, fun H14 s14' => ⟨_, rfl, ifF rfl ⟨(s5.trans s7).trans (s9.trans (s13''.trans s14')), _, _, _, _, _, rfl⟩⟩⟩
    · rw [<- hC.outs]
      exact s13'' _ _ hwo
    · rw [<- hC.inns]
      exact s13'' _ _ hwi
  intro σ' H' _
  exact q _
end
end Ru
namespace Ru
open PySem L2 Mix Gds Rms Lts Dds
def fnD (x q : Str) (st : Stmt) (pm cd : Value) : FuncData := PySem.W.fnOf x q (defArgs st) (defBody st) (defScope st) .none .none .none pm none cd .none
def fnB (d : FuncData) : Obj := ⟨.type "function", none, .func d, #[]⟩
def fd1 : FuncData := fnD "_law_cell_at" "_law_cell_at" sCell (.str "law_nesthall_k24_a_door_closes_what_it_opene" 453) (.ref 200)
def fd2 : FuncData := fnD "_law_mixed" "_law_mixed" sMixed (.str "law_nesthall_k24_a_door_closes_what_it_opene" 453) (.ref 207)
def fd3 : FuncData := fnD "end_of" "end_of" sEndOf (.str "nesthall.nesting" 231) (.ref 55)
def fd4 : FuncData := fnD "parent" "parent" sParent (.str "nesthall.nesting" 231) (.ref 48)
def fd5 : FuncData := fnD "lies_in" "lies_in" sLiesIn (.str "nesthall.nesting" 231) (.ref 67)
def fd6 : FuncData := fnD "hall_over" "hall_over" sHallOver (.str "nesthall.nesting" 231) (.ref 74)
def fd7 : FuncData := fnD "kids" "kids" sKids (.str "nesthall.nesting" 231) (.ref 60)
def fd8 : FuncData := fnD "bears_goal" "bears_goal" sBears (.str "nesthall.goings" 291) (.ref 86)
def fd9 : FuncData := fnD "next_in" "next_in" sNext (.str "nesthall.goings" 291) (.ref 93)
def fd10 : FuncData := fnD "goings_in" "goings_in" sIn (.str "nesthall.goings" 291) (.ref 100)
def fd11 : FuncData := fnD "goings_out" "goings_out" sOut (.str "nesthall.goings" 291) (.ref 105)
def fd12 : FuncData := fnD "plain_ones" "plain_ones" sPlain (.str "nesthall.stands" 328) (.ref 110)
def fd13 : FuncData := fnD "kept_of" "kept_of" sKeptOf (.str "nesthall.stands" 328) (.ref 117)
def fd14 : FuncData := fnD "keeping" "keeping" sKeeping (.str "nesthall.stands" 328) (.ref 124)
def fd15 : FuncData := fnD "changed" "changed" sChanged (.str "nesthall.deeds" 194) (.ref 27)
def fd16 : FuncData := fnD "recorded" "recorded" sRecorded (.str "nesthall.deeds" 194) (.ref 34)
def fd17 : FuncData := fnD "done" "done" sDone (.str "nesthall.deeds" 194) (.ref 41)
def fd18 : FuncData := fnD "sizes_of" "sizes_of" s_sizes_of (.str "nesthall.passing" 358) (.ref 129)
def fd19 : FuncData := fnD "steps_in" "steps_in" s_steps_in (.str "nesthall.passing" 358) (.ref 134)
def fd20 : FuncData := fnD "steps_out" "steps_out" s_steps_out (.str "nesthall.passing" 358) (.ref 139)
def fd21 : FuncData := fnD "stepped" "stepped" s_stepped (.str "nesthall.passing" 358) (.ref 146)
def fd22 : FuncData := fnD "goals_of" "goals_of" sGoalsOf (.str "nesthall.doors" 278) (.ref 81)
def fd23 : FuncData := fnD "passed" "passed" s_passed (.str "nesthall.passing" 358) (.ref 151)
def fd24 : FuncData := fnD "_law_name" "_law_name" s_L_name (.str "law_nesthall_k24_a_door_closes_what_it_opene" 453) (.ref 214)
def fd25 : FuncData := fnD "_law_deed" "_law_deed" s_L_deed (.str "law_nesthall_k24_a_door_closes_what_it_opene" 453) (.ref 221)
def fd26 : FuncData := fnD "_law_deeds" "_law_deeds" s_L_deeds (.str "law_nesthall_k24_a_door_closes_what_it_opene" 453) (.ref 228)
def fd27 : FuncData := fnD "_law_guard" "_law_guard" s_L_guard (.str "law_nesthall_k24_a_door_closes_what_it_opene" 453) (.ref 235)
def fd28 : FuncData := fnD "_law_depths" "_law_depths" s_L_depths (.str "law_nesthall_k24_a_door_closes_what_it_opene" 453) (.ref 242)
def fd29 : FuncData := fnD "_law_rooms" "_law_rooms" sRooms (.str "law_nesthall_k24_a_door_closes_what_it_opene" 453) (.ref 249)
def fd30 : FuncData := fnD "_law_doors" "_law_doors" s_L_doors (.str "law_nesthall_k24_a_door_closes_what_it_opene" 453) (.ref 254)
def fd31 : FuncData := fnD "_law_chart" "_law_chart" s_L_chart (.str "law_nesthall_k24_a_door_closes_what_it_opene" 453) (.ref 259)
def fd32 : FuncData := fnD "_law_opened" "_law_opened" s_L_opened (.str "law_nesthall_k24_a_door_closes_what_it_opene" 453) (.ref 266)
def fd33 : FuncData := fnD "_law_stand" "_law_stand" s_L_stand (.str "law_nesthall_k24_a_door_closes_what_it_opene" 453) (.ref 271)
def fd34 : FuncData := fnD "_law_whole" "_law_whole" sWhole (.str "law_nesthall_k24_a_door_closes_what_it_opene" 453) (.ref 278)
def fd35 : FuncData := fnD "_law_lies" "_law_lies" sLies (.str "law_nesthall_k24_a_door_closes_what_it_opene" 453) (.ref 285)
def fd36 : FuncData := fnD "_law_hall" "_law_hall" s_L_hall (.str "law_nesthall_k24_a_door_closes_what_it_opene" 453) (.ref 292)
def fd37 : FuncData := fnD "_law_parents" "_law_parents" sParents (.str "law_nesthall_k24_a_door_closes_what_it_opene" 453) (.ref 297)
def fd38 : FuncData := fnD "_law_is_full" "_law_is_full" s_L_is_full (.str "law_nesthall_k24_a_door_closes_what_it_opene" 453) (.ref 302)
def fd39 : FuncData := fnD "_law_step" "_law_step" s_L_step (.str "law_nesthall_k24_a_door_closes_what_it_opene" 453) (.ref 307)
def fd40 : FuncData := fnD "_law_walk" "_law_walk" s_L_walk (.str "law_nesthall_k24_a_door_closes_what_it_opene" 453) (.ref 314)
def fd41 : FuncData := fnD "_law_ways" "_law_ways" s_L_ways (.str "law_nesthall_k24_a_door_closes_what_it_opene" 453) (.ref 319)
def fd42 : FuncData := fnD "law" "law" sLawF (.str "law_nesthall_k24_a_door_closes_what_it_opene" 453) (.ref 324)
def fdM1 : FuncData := fnD "__init__" "Letters.__init__" sInit (.str "nesthall.letters" 399) (.ref 165)
def fdM2 : FuncData := fnD "add" "Letters.add" sAdd (.str "nesthall.letters" 399) (.ref 172)
def KO (P : Params) : PySem.W.Frag := [
  (3, ⟨.type "dict", none, .dict #[⟨PyData.keyHash P "__name__", .str "__name__" 165, .str "law_nesthall_k24_a_door_closes_what_it_opene" 453⟩, ⟨PyData.keyHash P "__doc__", .str "__doc__" 166, .none⟩, ⟨PyData.keyHash P "__package__", .str "__package__" 167, .none⟩, ⟨PyData.keyHash P "__loader__", .str "__loader__" 168, .builtin "__main__.__loader__#opaque"⟩, ⟨PyData.keyHash P "__spec__", .str "__spec__" 169, .none⟩, ⟨PyData.keyHash P "__annotations__", .str "__annotations__" 170, .ref 6⟩, ⟨PyData.keyHash P "__builtins__", .str "__builtins__" 171, .ref 4⟩, ⟨PyData.keyHash P "__file__", .str "__file__" 173, .str "/claim/cut.py" 172⟩, ⟨PyData.keyHash P "__cached__", .str "__cached__" 174, .none⟩, ⟨PyData.keyHash P "_wall", .str "_wall" 193, .ref 21⟩, ⟨PyData.keyHash P "changed", .str "changed" 207, .ref 28⟩, ⟨PyData.keyHash P "recorded", .str "recorded" 217, .ref 35⟩, ⟨PyData.keyHash P "done", .str "done" 230, .ref 42⟩, ⟨PyData.keyHash P "parent", .str "parent" 242, .ref 49⟩, ⟨PyData.keyHash P "end_of", .str "end_of" 252, .ref 56⟩, ⟨PyData.keyHash P "kids", .str "kids" 258, .ref 61⟩, ⟨PyData.keyHash P "lies_in", .str "lies_in" 267, .ref 68⟩, ⟨PyData.keyHash P "hall_over", .str "hall_over" 277, .ref 75⟩, ⟨PyData.keyHash P "goals_of", .str "goals_of" 290, .ref 82⟩, ⟨PyData.keyHash P "bears_goal", .str "bears_goal" 298, .ref 87⟩, ⟨PyData.keyHash P "next_in", .str "next_in" 309, .ref 94⟩, ⟨PyData.keyHash P "goings_in", .str "goings_in" 321, .ref 101⟩, ⟨PyData.keyHash P "goings_out", .str "goings_out" 327, .ref 106⟩, ⟨PyData.keyHash P "plain_ones", .str "plain_ones" 335, .ref 111⟩, ⟨PyData.keyHash P "kept_of", .str "kept_of" 345, .ref 118⟩, ⟨PyData.keyHash P "keeping", .str "keeping" 357, .ref 125⟩, ⟨PyData.keyHash P "sizes_of", .str "sizes_of" 365, .ref 130⟩, ⟨PyData.keyHash P "steps_in", .str "steps_in" 371, .ref 135⟩, ⟨PyData.keyHash P "steps_out", .str "steps_out" 377, .ref 140⟩, ⟨PyData.keyHash P "stepped", .str "stepped" 392, .ref 147⟩, ⟨PyData.keyHash P "passed", .str "passed" 398, .ref 152⟩, ⟨PyData.keyHash P "Letters", .str "Letters" 452, .ref 190⟩, ⟨PyData.keyHash P "_law_cell_at", .str "_law_cell_at" 462, .ref 201⟩, ⟨PyData.keyHash P "_law_mixed", .str "_law_mixed" 474, .ref 208⟩, ⟨PyData.keyHash P "_law_name", .str "_law_name" 484, .ref 215⟩, ⟨PyData.keyHash P "_law_deed", .str "_law_deed" 496, .ref 222⟩, ⟨PyData.keyHash P "_law_deeds", .str "_law_deeds" 511, .ref 229⟩, ⟨PyData.keyHash P "_law_guard", .str "_law_guard" 523, .ref 236⟩, ⟨PyData.keyHash P "_law_depths", .str "_law_depths" 533, .ref 243⟩, ⟨PyData.keyHash P "_law_rooms", .str "_law_rooms" 551, .ref 250⟩, ⟨PyData.keyHash P "_law_doors", .str "_law_doors" 557, .ref 255⟩, ⟨PyData.keyHash P "_law_chart", .str "_law_chart" 563, .ref 260⟩, ⟨PyData.keyHash P "_law_opened", .str "_law_opened" 577, .ref 267⟩, ⟨PyData.keyHash P "_law_stand", .str "_law_stand" 583, .ref 272⟩, ⟨PyData.keyHash P "_law_whole", .str "_law_whole" 590, .ref 279⟩, ⟨PyData.keyHash P "_law_lies", .str "_law_lies" 600, .ref 286⟩, ⟨PyData.keyHash P "_law_hall", .str "_law_hall" 611, .ref 293⟩, ⟨PyData.keyHash P "_law_parents", .str "_law_parents" 617, .ref 298⟩, ⟨PyData.keyHash P "_law_is_full", .str "_law_is_full" 623, .ref 303⟩, ⟨PyData.keyHash P "_law_step", .str "_law_step" 629, .ref 308⟩, ⟨PyData.keyHash P "_law_walk", .str "_law_walk" 644, .ref 315⟩, ⟨PyData.keyHash P "_law_ways", .str "_law_ways" 650, .ref 320⟩, ⟨PyData.keyHash P "law", .str "law" 656, .ref 325⟩] 53, #[]⟩),
  (200, ⟨.type "code", none, .fields #[.str "_law_cell_at" 455, .str "_law_cell_at" 456, .str "/claim/cut.py" 457, .int (153) 0, .int (2) 0, .int (0) 0, .int (0) 0, .int (3) 0, .ref 195, .bool true, .int (181) 0, .ref 196, .none, .ref 197, .ref 198, .ref 199, .int (460) 0, .int (153) 0, .str "/claim/cut.py" 461], #[]⟩),
  (201, fnB fd1),
  (207, ⟨.type "code", none, .fields #[.str "_law_mixed" 463, .str "_law_mixed" 464, .str "/claim/cut.py" 465, .int (157) 0, .int (3) 0, .int (0) 0, .int (0) 0, .int (3) 0, .ref 202, .bool true, .int (181) 0, .ref 203, .none, .ref 204, .ref 205, .ref 206, .int (472) 0, .int (157) 0, .str "/claim/cut.py" 473], #[]⟩),
  (208, fnB fd2),
  (55, ⟨.type "code", none, .fields #[.str "end_of" 243, .str "end_of" 244, .str "/claim/cut.py" 245, .int (35) 0, .int (2) 0, .int (0) 0, .int (0) 0, .int (3) 0, .ref 50, .bool true, .int (181) 0, .ref 51, .none, .ref 52, .ref 53, .ref 54, .int (250) 0, .int (35) 0, .str "/claim/cut.py" 251], #[]⟩),
  (56, fnB fd3),
  (48, ⟨.type "code", none, .fields #[.str "parent" 233, .str "parent" 234, .str "/claim/cut.py" 235, .int (29) 0, .int (2) 0, .int (0) 0, .int (0) 0, .int (3) 0, .ref 43, .bool true, .int (181) 0, .ref 44, .none, .ref 45, .ref 46, .ref 47, .int (240) 0, .int (29) 0, .str "/claim/cut.py" 241], #[]⟩),
  (49, fnB fd4),
  (67, ⟨.type "code", none, .fields #[.str "lies_in" 259, .str "lies_in" 260, .str "/claim/cut.py" 261, .int (44) 0, .int (3) 0, .int (0) 0, .int (0) 0, .int (3) 0, .ref 62, .bool true, .int (181) 0, .ref 63, .none, .ref 64, .ref 65, .ref 66, .int (265) 0, .int (44) 0, .str "/claim/cut.py" 266], #[]⟩),
  (68, fnB fd5),
  (74, ⟨.type "code", none, .fields #[.str "hall_over" 268, .str "hall_over" 269, .str "/claim/cut.py" 270, .int (46) 0, .int (3) 0, .int (0) 0, .int (0) 0, .int (3) 0, .ref 69, .bool true, .int (181) 0, .ref 70, .none, .ref 71, .ref 72, .ref 73, .int (275) 0, .int (46) 0, .str "/claim/cut.py" 276], #[]⟩),
  (75, fnB fd6),
  (60, ⟨.type "code", none, .fields #[.str "kids" 253, .str "kids" 254, .str "/claim/cut.py" 255, .int (41) 0, .int (2) 0, .int (0) 0, .int (0) 0, .int (3) 0, .ref 57, .bool true, .int (181) 0, .ref 58, .none, .none, .none, .ref 59, .int (256) 0, .int (41) 0, .str "/claim/cut.py" 257], #[]⟩),
  (61, fnB fd7),
  (86, ⟨.type "code", none, .fields #[.str "bears_goal" 293, .str "bears_goal" 294, .str "/claim/cut.py" 295, .int (63) 0, .int (3) 0, .int (0) 0, .int (0) 0, .int (3) 0, .ref 83, .bool true, .int (181) 0, .ref 84, .none, .none, .none, .ref 85, .int (296) 0, .int (63) 0, .str "/claim/cut.py" 297], #[]⟩),
  (87, fnB fd8),
  (93, ⟨.type "code", none, .fields #[.str "next_in" 299, .str "next_in" 300, .str "/claim/cut.py" 301, .int (66) 0, .int (3) 0, .int (0) 0, .int (0) 0, .int (3) 0, .ref 88, .bool true, .int (181) 0, .ref 89, .none, .ref 90, .ref 91, .ref 92, .int (307) 0, .int (66) 0, .str "/claim/cut.py" 308], #[]⟩),
  (94, fnB fd9),
  (100, ⟨.type "code", none, .fields #[.str "goings_in" 310, .str "goings_in" 311, .str "/claim/cut.py" 312, .int (74) 0, .int (3) 0, .int (0) 0, .int (0) 0, .int (3) 0, .ref 95, .bool true, .int (181) 0, .ref 96, .none, .ref 97, .ref 98, .ref 99, .int (319) 0, .int (74) 0, .str "/claim/cut.py" 320], #[]⟩),
  (101, fnB fd10),
  (105, ⟨.type "code", none, .fields #[.str "goings_out" 322, .str "goings_out" 323, .str "/claim/cut.py" 324, .int (82) 0, .int (3) 0, .int (0) 0, .int (0) 0, .int (3) 0, .ref 102, .bool true, .int (181) 0, .ref 103, .none, .none, .none, .ref 104, .int (325) 0, .int (82) 0, .str "/claim/cut.py" 326], #[]⟩),
  (106, fnB fd11),
  (110, ⟨.type "code", none, .fields #[.str "plain_ones" 330, .str "plain_ones" 331, .str "/claim/cut.py" 332, .int (88) 0, .int (2) 0, .int (0) 0, .int (0) 0, .int (3) 0, .ref 107, .bool true, .int (181) 0, .ref 108, .none, .none, .none, .ref 109, .int (333) 0, .int (88) 0, .str "/claim/cut.py" 334], #[]⟩),
  (111, fnB fd12),
  (117, ⟨.type "code", none, .fields #[.str "kept_of" 336, .str "kept_of" 337, .str "/claim/cut.py" 338, .int (90) 0, .int (3) 0, .int (0) 0, .int (0) 0, .int (3) 0, .ref 112, .bool true, .int (181) 0, .ref 113, .none, .ref 114, .ref 115, .ref 116, .int (343) 0, .int (90) 0, .str "/claim/cut.py" 344], #[]⟩),
  (118, fnB fd13),
  (124, ⟨.type "code", none, .fields #[.str "keeping" 346, .str "keeping" 347, .str "/claim/cut.py" 348, .int (95) 0, .int (4) 0, .int (0) 0, .int (0) 0, .int (3) 0, .ref 119, .bool true, .int (181) 0, .ref 120, .none, .ref 121, .ref 122, .ref 123, .int (355) 0, .int (95) 0, .str "/claim/cut.py" 356], #[]⟩),
  (125, fnB fd14),
  (27, ⟨.type "code", none, .fields #[.str "changed" 196, .str "changed" 197, .str "/claim/cut.py" 198, .int (5) 0, .int (3) 0, .int (0) 0, .int (0) 0, .int (3) 0, .ref 22, .bool true, .int (181) 0, .ref 23, .none, .ref 24, .ref 25, .ref 26, .int (205) 0, .int (5) 0, .str "/claim/cut.py" 206], #[]⟩),
  (28, fnB fd15),
  (34, ⟨.type "code", none, .fields #[.str "recorded" 208, .str "recorded" 209, .str "/claim/cut.py" 210, .int (14) 0, .int (3) 0, .int (0) 0, .int (0) 0, .int (3) 0, .ref 29, .bool true, .int (181) 0, .ref 30, .none, .ref 31, .ref 32, .ref 33, .int (215) 0, .int (14) 0, .str "/claim/cut.py" 216], #[]⟩),
  (35, fnB fd16),
  (41, ⟨.type "code", none, .fields #[.str "done" 218, .str "done" 219, .str "/claim/cut.py" 220, .int (21) 0, .int (4) 0, .int (0) 0, .int (0) 0, .int (3) 0, .ref 36, .bool true, .int (181) 0, .ref 37, .none, .ref 38, .ref 39, .ref 40, .int (228) 0, .int (21) 0, .str "/claim/cut.py" 229], #[]⟩),
  (42, fnB fd17),
  (129, ⟨.type "code", none, .fields #[.str "sizes_of" 360, .str "sizes_of" 361, .str "/claim/cut.py" 362, .int (102) 0, .int (1) 0, .int (0) 0, .int (0) 0, .int (3) 0, .ref 126, .bool true, .int (181) 0, .ref 127, .none, .none, .none, .ref 128, .int (363) 0, .int (102) 0, .str "/claim/cut.py" 364], #[]⟩),
  (130, fnB fd18),
  (134, ⟨.type "code", none, .fields #[.str "steps_in" 366, .str "steps_in" 367, .str "/claim/cut.py" 368, .int (104) 0, .int (2) 0, .int (0) 0, .int (0) 0, .int (3) 0, .ref 131, .bool true, .int (181) 0, .ref 132, .none, .none, .none, .ref 133, .int (369) 0, .int (104) 0, .str "/claim/cut.py" 370], #[]⟩),
  (135, fnB fd19),
  (139, ⟨.type "code", none, .fields #[.str "steps_out" 372, .str "steps_out" 373, .str "/claim/cut.py" 374, .int (106) 0, .int (2) 0, .int (0) 0, .int (0) 0, .int (3) 0, .ref 136, .bool true, .int (181) 0, .ref 137, .none, .none, .none, .ref 138, .int (375) 0, .int (106) 0, .str "/claim/cut.py" 376], #[]⟩),
  (140, fnB fd20),
  (146, ⟨.type "code", none, .fields #[.str "stepped" 378, .str "stepped" 379, .str "/claim/cut.py" 380, .int (108) 0, .int (4) 0, .int (0) 0, .int (0) 0, .int (3) 0, .ref 141, .bool true, .int (181) 0, .ref 142, .none, .ref 143, .ref 144, .ref 145, .int (390) 0, .int (108) 0, .str "/claim/cut.py" 391], #[]⟩),
  (147, fnB fd21),
  (81, ⟨.type "code", none, .fields #[.str "goals_of" 280, .str "goals_of" 281, .str "/claim/cut.py" 282, .int (54) 0, .int (3) 0, .int (0) 0, .int (0) 0, .int (3) 0, .ref 76, .bool true, .int (181) 0, .ref 77, .none, .ref 78, .ref 79, .ref 80, .int (288) 0, .int (54) 0, .str "/claim/cut.py" 289], #[]⟩),
  (82, fnB fd22),
  (151, ⟨.type "code", none, .fields #[.str "passed" 393, .str "passed" 394, .str "/claim/cut.py" 395, .int (117) 0, .int (4) 0, .int (0) 0, .int (0) 0, .int (3) 0, .ref 148, .bool true, .int (181) 0, .ref 149, .none, .none, .none, .ref 150, .int (396) 0, .int (117) 0, .str "/claim/cut.py" 397], #[]⟩),
  (152, fnB fd23),
  (214, ⟨.type "code", none, .fields #[.str "_law_name" 475, .str "_law_name" 476, .str "/claim/cut.py" 477, .int (164) 0, .int (2) 0, .int (0) 0, .int (0) 0, .int (3) 0, .ref 209, .bool true, .int (181) 0, .ref 210, .none, .ref 211, .ref 212, .ref 213, .int (482) 0, .int (164) 0, .str "/claim/cut.py" 483], #[]⟩),
  (215, fnB fd24),
  (221, ⟨.type "code", none, .fields #[.str "_law_deed" 485, .str "_law_deed" 486, .str "/claim/cut.py" 487, .int (168) 0, .int (3) 0, .int (0) 0, .int (0) 0, .int (3) 0, .ref 216, .bool true, .int (181) 0, .ref 217, .none, .ref 218, .ref 219, .ref 220, .int (494) 0, .int (168) 0, .str "/claim/cut.py" 495], #[]⟩),
  (222, fnB fd25),
  (228, ⟨.type "code", none, .fields #[.str "_law_deeds" 497, .str "_law_deeds" 498, .str "/claim/cut.py" 499, .int (183) 0, .int (5) 0, .int (0) 0, .int (0) 0, .int (3) 0, .ref 223, .bool true, .int (181) 0, .ref 224, .none, .ref 225, .ref 226, .ref 227, .int (509) 0, .int (183) 0, .str "/claim/cut.py" 510], #[]⟩),
  (229, fnB fd26),
  (235, ⟨.type "code", none, .fields #[.str "_law_guard" 512, .str "_law_guard" 513, .str "/claim/cut.py" 514, .int (190) 0, .int (4) 0, .int (0) 0, .int (0) 0, .int (3) 0, .ref 230, .bool true, .int (181) 0, .ref 231, .none, .ref 232, .ref 233, .ref 234, .int (521) 0, .int (190) 0, .str "/claim/cut.py" 522], #[]⟩),
  (236, fnB fd27),
  (242, ⟨.type "code", none, .fields #[.str "_law_depths" 524, .str "_law_depths" 525, .str "/claim/cut.py" 526, .int (206) 0, .int (2) 0, .int (0) 0, .int (0) 0, .int (3) 0, .ref 237, .bool true, .int (181) 0, .ref 238, .none, .ref 239, .ref 240, .ref 241, .int (531) 0, .int (206) 0, .str "/claim/cut.py" 532], #[]⟩),
  (243, fnB fd28),
  (249, ⟨.type "code", none, .fields #[.str "_law_rooms" 534, .str "_law_rooms" 535, .str "/claim/cut.py" 536, .int (211) 0, .int (4) 0, .int (0) 0, .int (0) 0, .int (3) 0, .ref 244, .bool true, .int (181) 0, .ref 245, .none, .ref 246, .ref 247, .ref 248, .int (549) 0, .int (211) 0, .str "/claim/cut.py" 550], #[]⟩),
  (250, fnB fd29),
  (254, ⟨.type "code", none, .fields #[.str "_law_doors" 552, .str "_law_doors" 553, .str "/claim/cut.py" 554, .int (229) 0, .int (5) 0, .int (0) 0, .int (0) 0, .int (3) 0, .ref 251, .bool true, .int (181) 0, .ref 252, .none, .none, .none, .ref 253, .int (555) 0, .int (229) 0, .str "/claim/cut.py" 556], #[]⟩),
  (255, fnB fd30),
  (259, ⟨.type "code", none, .fields #[.str "_law_chart" 558, .str "_law_chart" 559, .str "/claim/cut.py" 560, .int (248) 0, .int (1) 0, .int (0) 0, .int (0) 0, .int (3) 0, .ref 256, .bool true, .int (181) 0, .ref 257, .none, .none, .none, .ref 258, .int (561) 0, .int (248) 0, .str "/claim/cut.py" 562], #[]⟩),
  (260, fnB fd31),
  (266, ⟨.type "code", none, .fields #[.str "_law_opened" 564, .str "_law_opened" 565, .str "/claim/cut.py" 566, .int (268) 0, .int (4) 0, .int (0) 0, .int (0) 0, .int (3) 0, .ref 261, .bool true, .int (181) 0, .ref 262, .none, .ref 263, .ref 264, .ref 265, .int (575) 0, .int (268) 0, .str "/claim/cut.py" 576], #[]⟩),
  (267, fnB fd32),
  (271, ⟨.type "code", none, .fields #[.str "_law_stand" 578, .str "_law_stand" 579, .str "/claim/cut.py" 580, .int (283) 0, .int (3) 0, .int (0) 0, .int (0) 0, .int (3) 0, .ref 268, .bool true, .int (181) 0, .ref 269, .none, .none, .none, .ref 270, .int (581) 0, .int (283) 0, .str "/claim/cut.py" 582], #[]⟩),
  (272, fnB fd33),
  (278, ⟨.type "code", none, .fields #[.str "_law_whole" 584, .str "_law_whole" 585, .str "/claim/cut.py" 586, .int (299) 0, .int (1) 0, .int (0) 0, .int (0) 0, .int (3) 0, .ref 273, .bool true, .int (181) 0, .ref 274, .none, .ref 275, .ref 276, .ref 277, .int (588) 0, .int (299) 0, .str "/claim/cut.py" 589], #[]⟩),
  (279, fnB fd34),
  (285, ⟨.type "code", none, .fields #[.str "_law_lies" 591, .str "_law_lies" 592, .str "/claim/cut.py" 593, .int (301) 0, .int (3) 0, .int (0) 0, .int (0) 0, .int (3) 0, .ref 280, .bool true, .int (181) 0, .ref 281, .none, .ref 282, .ref 283, .ref 284, .int (598) 0, .int (301) 0, .str "/claim/cut.py" 599], #[]⟩),
  (286, fnB fd35),
  (292, ⟨.type "code", none, .fields #[.str "_law_hall" 601, .str "_law_hall" 602, .str "/claim/cut.py" 603, .int (308) 0, .int (3) 0, .int (0) 0, .int (0) 0, .int (3) 0, .ref 287, .bool true, .int (181) 0, .ref 288, .none, .ref 289, .ref 290, .ref 291, .int (609) 0, .int (308) 0, .str "/claim/cut.py" 610], #[]⟩),
  (293, fnB fd36),
  (297, ⟨.type "code", none, .fields #[.str "_law_parents" 612, .str "_law_parents" 613, .str "/claim/cut.py" 614, .int (314) 0, .int (1) 0, .int (0) 0, .int (0) 0, .int (3) 0, .ref 294, .bool true, .int (181) 0, .ref 295, .none, .none, .none, .ref 296, .int (615) 0, .int (314) 0, .str "/claim/cut.py" 616], #[]⟩),
  (298, fnB fd37),
  (302, ⟨.type "code", none, .fields #[.str "_law_is_full" 618, .str "_law_is_full" 619, .str "/claim/cut.py" 620, .int (319) 0, .int (3) 0, .int (0) 0, .int (0) 0, .int (3) 0, .ref 299, .bool true, .int (181) 0, .ref 300, .none, .none, .none, .ref 301, .int (621) 0, .int (319) 0, .str "/claim/cut.py" 622], #[]⟩),
  (303, fnB fd38),
  (307, ⟨.type "code", none, .fields #[.str "_law_step" 624, .str "_law_step" 625, .str "/claim/cut.py" 626, .int (330) 0, .int (5) 0, .int (0) 0, .int (0) 0, .int (3) 0, .ref 304, .bool true, .int (181) 0, .ref 305, .none, .none, .none, .ref 306, .int (627) 0, .int (330) 0, .str "/claim/cut.py" 628], #[]⟩),
  (308, fnB fd39),
  (314, ⟨.type "code", none, .fields #[.str "_law_walk" 630, .str "_law_walk" 631, .str "/claim/cut.py" 632, .int (346) 0, .int (5) 0, .int (0) 0, .int (0) 0, .int (3) 0, .ref 309, .bool true, .int (181) 0, .ref 310, .none, .ref 311, .ref 312, .ref 313, .int (642) 0, .int (346) 0, .str "/claim/cut.py" 643], #[]⟩),
  (315, fnB fd40),
  (319, ⟨.type "code", none, .fields #[.str "_law_ways" 645, .str "_law_ways" 646, .str "/claim/cut.py" 647, .int (369) 0, .int (6) 0, .int (0) 0, .int (0) 0, .int (3) 0, .ref 316, .bool true, .int (181) 0, .ref 317, .none, .none, .none, .ref 318, .int (648) 0, .int (369) 0, .str "/claim/cut.py" 649], #[]⟩),
  (320, fnB fd41),
  (324, ⟨.type "code", none, .fields #[.str "law" 651, .str "law" 652, .str "/claim/cut.py" 653, .int (384) 0, .int (1) 0, .int (0) 0, .int (0) 0, .int (3) 0, .ref 321, .bool true, .int (181) 0, .ref 322, .none, .none, .none, .ref 323, .int (654) 0, .int (384) 0, .str "/claim/cut.py" 655], #[]⟩),
  (325, fnB fd42),
  (190, ⟨.type "type", none, .cls ⟨"Letters", [.type "object"], [.ref 190, .type "object"], 189, "Letters", true, [], [], false, none, false⟩, #[none, none, some (.str "Letters" 401), some (.str "Letters" 409), some (.builtin "object.__new__"), some (.bool true)]⟩),
  (189, ⟨.type "dict", none, .dict #[⟨PyData.keyHash P "__module__", .str "__module__" 408, .str "nesthall.letters" 399⟩, ⟨PyData.keyHash P "__firstlineno__", .str "__firstlineno__" 412, .int (135) 411⟩, ⟨PyData.keyHash P "__init__", .str "__init__" 420, .ref 166⟩, ⟨PyData.keyHash P "add", .str "add" 428, .ref 173⟩, ⟨PyData.keyHash P "taken", .str "taken" 435, .ref 180⟩, ⟨PyData.keyHash P "waiting", .str "waiting" 442, .ref 187⟩, ⟨PyData.keyHash P "__static_attributes__", .str "__static_attributes__" 445, .ref 188⟩, ⟨PyData.keyHash P "__dict__", .str "__dict__" 447, .ref 191⟩, ⟨PyData.keyHash P "__weakref__", .str "__weakref__" 449, .ref 192⟩, ⟨PyData.keyHash P "__doc__", .str "__doc__" 450, .none⟩] 4, #[]⟩),
  (165, ⟨.type "code", none, .fields #[.str "__init__" 413, .str "Letters.__init__" 414, .str "/claim/cut.py" 415, .int (137) 0, .int (2) 0, .int (0) 0, .int (0) 0, .int (3) 0, .ref 160, .bool true, .int (181) 0, .ref 161, .none, .ref 162, .ref 163, .ref 164, .int (418) 0, .int (137) 0, .str "/claim/cut.py" 419], #[]⟩),
  (166, fnB fdM1),
  (172, ⟨.type "code", none, .fields #[.str "add" 421, .str "Letters.add" 422, .str "/claim/cut.py" 423, .int (141) 0, .int (2) 0, .int (0) 0, .int (0) 0, .int (3) 0, .ref 167, .bool true, .int (181) 0, .ref 168, .none, .ref 169, .ref 170, .ref 171, .int (426) 0, .int (141) 0, .str "/claim/cut.py" 427], #[]⟩),
  (173, fnB fdM2)]
def KA : List Addr := [3, 200, 201, 207, 208, 55, 56, 48, 49, 67, 68, 74, 75, 60, 61, 86, 87, 93, 94, 100, 101, 105, 106, 110, 111, 117, 118, 124, 125, 27, 28, 34, 35, 41, 42, 129, 130, 134, 135, 139, 140, 146, 147, 81, 82, 151, 152, 214, 215, 221, 222, 228, 229, 235, 236, 242, 243, 249, 250, 254, 255, 259, 260, 266, 267, 271, 272, 278, 279, 285, 286, 292, 293, 297, 298, 302, 303, 307, 308, 314, 315, 319, 320, 324, 325, 190, 189, 165, 166, 172, 173]
def PW : Program := PySem.Challenge.pw_nesthall_k24_a_door_closes_what_it_opene
def QV : Program := PySem.W.view PW [51]
def LS : List Str := [Str.ofString "_wall", Str.ofString "__name__", Str.ofString "changed", Str.ofString "recorded", Str.ofString "done", Str.ofString "parent", Str.ofString "end_of", Str.ofString "kids", Str.ofString "lies_in", Str.ofString "hall_over", Str.ofString "goals_of", Str.ofString "bears_goal", Str.ofString "next_in", Str.ofString "goings_in", Str.ofString "goings_out", Str.ofString "plain_ones", Str.ofString "kept_of", Str.ofString "keeping", Str.ofString "sizes_of", Str.ofString "steps_in", Str.ofString "steps_out", Str.ofString "stepped", Str.ofString "passed", Str.ofString "Letters", Str.ofString "_law_cell_at", Str.ofString "_law_mixed", Str.ofString "_law_name", Str.ofString "_law_deed", Str.ofString "_law_deeds", Str.ofString "_law_guard", Str.ofString "_law_depths", Str.ofString "_law_rooms", Str.ofString "_law_doors", Str.ofString "_law_chart", Str.ofString "_law_opened", Str.ofString "_law_stand", Str.ofString "_law_whole", Str.ofString "_law_lies", Str.ofString "_law_hall", Str.ofString "_law_parents", Str.ofString "_law_is_full", Str.ofString "_law_step", Str.ofString "_law_walk", Str.ofString "_law_ways"]
def HK : PySem.W.Hook := PySem.W.kHook KO KA fun _ => by kernel_rfl
def defPos : Stmt -> Pos
  | .FunctionDef _ _ _ _ _ _ _ _ _ p => p
  | _ => ⟨0, 0, 0, 0⟩
def dLaw : DefRec := ⟨"law", defArgs sLawF, defBody sLawF, defScope sLawF, defPos sLawF⟩
set_option maxHeartbeats 0 in
theorem said : PySem.Challenge.rw_nesthall_k24_a_door_closes_what_it_opene.wellSaid = true := by kernel_rfl
set_option maxHeartbeats 0 in
theorem left : PySem.W.LeftO PW QV LS (fun s => PySem.W.xlAt QV [] s && PySem.W.recOk [] s) HK.obs HK.val 4536 := fun w => by kernel_rfl
theorem hdef : PySem.W.defOf QV "law" = some (dLaw, []) := by kernel_rfl
theorem hok : (PySem.W.chainsOk QV && PySem.W.opensWell PW && (PySem.W.frees PySem.Challenge.rw_nesthall_k24_a_door_closes_what_it_opene.row.toRowW && PySem.Challenge.rw_nesthall_k24_a_door_closes_what_it_opene.row.within.isEmpty)) = true := by kernel_rfl
theorem hbare : PW.bare := ⟨rfl, rfl, rfl, rfl, rfl, by decide +kernel⟩
theorem hkw : PySem.W.kwWritten? dLaw.params.kwonlyargs dLaw.params.kw_defaults = some [] := by kernel_rfl
theorem hthe : PW.theDef "law" = some (dLaw.params, dLaw.body, dLaw.scope) := by kernel_rfl
theorem a1 (P : Params) : PySem.W.nsIn (KO P) mainGlobals "_law_cell_at" = some (some (.ref 201)) := by kernel_rfl
theorem u1 (P : Params) : Fun (KO P) "_law_cell_at" "_law_cell_at" sCell 201 fd1 := fun_mk (show (KO P).lookup 201 = some (fnB fd1) by kernel_rfl) (by kernel_rfl) (by kernel_rfl)
theorem a2 (P : Params) : PySem.W.nsIn (KO P) mainGlobals "_law_mixed" = some (some (.ref 208)) := by kernel_rfl
theorem u2 (P : Params) : Fun (KO P) "_law_mixed" "_law_mixed" sMixed 208 fd2 := fun_mk (show (KO P).lookup 208 = some (fnB fd2) by kernel_rfl) (by kernel_rfl) (by kernel_rfl)
theorem a3 (P : Params) : PySem.W.nsIn (KO P) mainGlobals "end_of" = some (some (.ref 56)) := by kernel_rfl
theorem u3 (P : Params) : Fun (KO P) "end_of" "end_of" sEndOf 56 fd3 := fun_mk (show (KO P).lookup 56 = some (fnB fd3) by kernel_rfl) (by kernel_rfl) (by kernel_rfl)
theorem a4 (P : Params) : PySem.W.nsIn (KO P) mainGlobals "parent" = some (some (.ref 49)) := by kernel_rfl
theorem u4 (P : Params) : Fun (KO P) "parent" "parent" sParent 49 fd4 := fun_mk (show (KO P).lookup 49 = some (fnB fd4) by kernel_rfl) (by kernel_rfl) (by kernel_rfl)
theorem a5 (P : Params) : PySem.W.nsIn (KO P) mainGlobals "lies_in" = some (some (.ref 68)) := by kernel_rfl
theorem u5 (P : Params) : Fun (KO P) "lies_in" "lies_in" sLiesIn 68 fd5 := fun_mk (show (KO P).lookup 68 = some (fnB fd5) by kernel_rfl) (by kernel_rfl) (by kernel_rfl)
theorem a6 (P : Params) : PySem.W.nsIn (KO P) mainGlobals "hall_over" = some (some (.ref 75)) := by kernel_rfl
theorem u6 (P : Params) : Fun (KO P) "hall_over" "hall_over" sHallOver 75 fd6 := fun_mk (show (KO P).lookup 75 = some (fnB fd6) by kernel_rfl) (by kernel_rfl) (by kernel_rfl)
theorem a7 (P : Params) : PySem.W.nsIn (KO P) mainGlobals "kids" = some (some (.ref 61)) := by kernel_rfl
theorem u7 (P : Params) : Fun (KO P) "kids" "kids" sKids 61 fd7 := fun_mk (show (KO P).lookup 61 = some (fnB fd7) by kernel_rfl) (by kernel_rfl) (by kernel_rfl)
theorem a8 (P : Params) : PySem.W.nsIn (KO P) mainGlobals "bears_goal" = some (some (.ref 87)) := by kernel_rfl
theorem u8 (P : Params) : Fun (KO P) "bears_goal" "bears_goal" sBears 87 fd8 := fun_mk (show (KO P).lookup 87 = some (fnB fd8) by kernel_rfl) (by kernel_rfl) (by kernel_rfl)
theorem a9 (P : Params) : PySem.W.nsIn (KO P) mainGlobals "next_in" = some (some (.ref 94)) := by kernel_rfl
theorem u9 (P : Params) : Fun (KO P) "next_in" "next_in" sNext 94 fd9 := fun_mk (show (KO P).lookup 94 = some (fnB fd9) by kernel_rfl) (by kernel_rfl) (by kernel_rfl)
theorem a10 (P : Params) : PySem.W.nsIn (KO P) mainGlobals "goings_in" = some (some (.ref 101)) := by kernel_rfl
theorem u10 (P : Params) : Fun (KO P) "goings_in" "goings_in" sIn 101 fd10 := fun_mk (show (KO P).lookup 101 = some (fnB fd10) by kernel_rfl) (by kernel_rfl) (by kernel_rfl)
theorem a11 (P : Params) : PySem.W.nsIn (KO P) mainGlobals "goings_out" = some (some (.ref 106)) := by kernel_rfl
theorem u11 (P : Params) : Fun (KO P) "goings_out" "goings_out" sOut 106 fd11 := fun_mk (show (KO P).lookup 106 = some (fnB fd11) by kernel_rfl) (by kernel_rfl) (by kernel_rfl)
theorem a12 (P : Params) : PySem.W.nsIn (KO P) mainGlobals "plain_ones" = some (some (.ref 111)) := by kernel_rfl
theorem u12 (P : Params) : Fun (KO P) "plain_ones" "plain_ones" sPlain 111 fd12 := fun_mk (show (KO P).lookup 111 = some (fnB fd12) by kernel_rfl) (by kernel_rfl) (by kernel_rfl)
theorem a13 (P : Params) : PySem.W.nsIn (KO P) mainGlobals "kept_of" = some (some (.ref 118)) := by kernel_rfl
theorem u13 (P : Params) : Fun (KO P) "kept_of" "kept_of" sKeptOf 118 fd13 := fun_mk (show (KO P).lookup 118 = some (fnB fd13) by kernel_rfl) (by kernel_rfl) (by kernel_rfl)
theorem a14 (P : Params) : PySem.W.nsIn (KO P) mainGlobals "keeping" = some (some (.ref 125)) := by kernel_rfl
theorem u14 (P : Params) : Fun (KO P) "keeping" "keeping" sKeeping 125 fd14 := fun_mk (show (KO P).lookup 125 = some (fnB fd14) by kernel_rfl) (by kernel_rfl) (by kernel_rfl)
theorem a15 (P : Params) : PySem.W.nsIn (KO P) mainGlobals "changed" = some (some (.ref 28)) := by kernel_rfl
theorem u15 (P : Params) : Fun (KO P) "changed" "changed" sChanged 28 fd15 := fun_mk (show (KO P).lookup 28 = some (fnB fd15) by kernel_rfl) (by kernel_rfl) (by kernel_rfl)
theorem a16 (P : Params) : PySem.W.nsIn (KO P) mainGlobals "recorded" = some (some (.ref 35)) := by kernel_rfl
theorem u16 (P : Params) : Fun (KO P) "recorded" "recorded" sRecorded 35 fd16 := fun_mk (show (KO P).lookup 35 = some (fnB fd16) by kernel_rfl) (by kernel_rfl) (by kernel_rfl)
theorem a17 (P : Params) : PySem.W.nsIn (KO P) mainGlobals "done" = some (some (.ref 42)) := by kernel_rfl
theorem u17 (P : Params) : Fun (KO P) "done" "done" sDone 42 fd17 := fun_mk (show (KO P).lookup 42 = some (fnB fd17) by kernel_rfl) (by kernel_rfl) (by kernel_rfl)
theorem a18 (P : Params) : PySem.W.nsIn (KO P) mainGlobals "sizes_of" = some (some (.ref 130)) := by kernel_rfl
theorem u18 (P : Params) : Fun (KO P) "sizes_of" "sizes_of" s_sizes_of 130 fd18 := fun_mk (show (KO P).lookup 130 = some (fnB fd18) by kernel_rfl) (by kernel_rfl) (by kernel_rfl)
theorem a19 (P : Params) : PySem.W.nsIn (KO P) mainGlobals "steps_in" = some (some (.ref 135)) := by kernel_rfl
theorem u19 (P : Params) : Fun (KO P) "steps_in" "steps_in" s_steps_in 135 fd19 := fun_mk (show (KO P).lookup 135 = some (fnB fd19) by kernel_rfl) (by kernel_rfl) (by kernel_rfl)
theorem a20 (P : Params) : PySem.W.nsIn (KO P) mainGlobals "steps_out" = some (some (.ref 140)) := by kernel_rfl
theorem u20 (P : Params) : Fun (KO P) "steps_out" "steps_out" s_steps_out 140 fd20 := fun_mk (show (KO P).lookup 140 = some (fnB fd20) by kernel_rfl) (by kernel_rfl) (by kernel_rfl)
theorem a21 (P : Params) : PySem.W.nsIn (KO P) mainGlobals "stepped" = some (some (.ref 147)) := by kernel_rfl
theorem u21 (P : Params) : Fun (KO P) "stepped" "stepped" s_stepped 147 fd21 := fun_mk (show (KO P).lookup 147 = some (fnB fd21) by kernel_rfl) (by kernel_rfl) (by kernel_rfl)
theorem a22 (P : Params) : PySem.W.nsIn (KO P) mainGlobals "goals_of" = some (some (.ref 82)) := by kernel_rfl
theorem u22 (P : Params) : Fun (KO P) "goals_of" "goals_of" sGoalsOf 82 fd22 := fun_mk (show (KO P).lookup 82 = some (fnB fd22) by kernel_rfl) (by kernel_rfl) (by kernel_rfl)
theorem a23 (P : Params) : PySem.W.nsIn (KO P) mainGlobals "passed" = some (some (.ref 152)) := by kernel_rfl
theorem u23 (P : Params) : Fun (KO P) "passed" "passed" s_passed 152 fd23 := fun_mk (show (KO P).lookup 152 = some (fnB fd23) by kernel_rfl) (by kernel_rfl) (by kernel_rfl)
theorem a24 (P : Params) : PySem.W.nsIn (KO P) mainGlobals "_law_name" = some (some (.ref 215)) := by kernel_rfl
theorem u24 (P : Params) : Fun (KO P) "_law_name" "_law_name" s_L_name 215 fd24 := fun_mk (show (KO P).lookup 215 = some (fnB fd24) by kernel_rfl) (by kernel_rfl) (by kernel_rfl)
theorem a25 (P : Params) : PySem.W.nsIn (KO P) mainGlobals "_law_deed" = some (some (.ref 222)) := by kernel_rfl
theorem u25 (P : Params) : Fun (KO P) "_law_deed" "_law_deed" s_L_deed 222 fd25 := fun_mk (show (KO P).lookup 222 = some (fnB fd25) by kernel_rfl) (by kernel_rfl) (by kernel_rfl)
theorem a26 (P : Params) : PySem.W.nsIn (KO P) mainGlobals "_law_deeds" = some (some (.ref 229)) := by kernel_rfl
theorem u26 (P : Params) : Fun (KO P) "_law_deeds" "_law_deeds" s_L_deeds 229 fd26 := fun_mk (show (KO P).lookup 229 = some (fnB fd26) by kernel_rfl) (by kernel_rfl) (by kernel_rfl)
theorem a27 (P : Params) : PySem.W.nsIn (KO P) mainGlobals "_law_guard" = some (some (.ref 236)) := by kernel_rfl
theorem u27 (P : Params) : Fun (KO P) "_law_guard" "_law_guard" s_L_guard 236 fd27 := fun_mk (show (KO P).lookup 236 = some (fnB fd27) by kernel_rfl) (by kernel_rfl) (by kernel_rfl)
theorem a28 (P : Params) : PySem.W.nsIn (KO P) mainGlobals "_law_depths" = some (some (.ref 243)) := by kernel_rfl
theorem u28 (P : Params) : Fun (KO P) "_law_depths" "_law_depths" s_L_depths 243 fd28 := fun_mk (show (KO P).lookup 243 = some (fnB fd28) by kernel_rfl) (by kernel_rfl) (by kernel_rfl)
theorem a29 (P : Params) : PySem.W.nsIn (KO P) mainGlobals "_law_rooms" = some (some (.ref 250)) := by kernel_rfl
theorem u29 (P : Params) : Fun (KO P) "_law_rooms" "_law_rooms" sRooms 250 fd29 := fun_mk (show (KO P).lookup 250 = some (fnB fd29) by kernel_rfl) (by kernel_rfl) (by kernel_rfl)
theorem a30 (P : Params) : PySem.W.nsIn (KO P) mainGlobals "_law_doors" = some (some (.ref 255)) := by kernel_rfl
theorem u30 (P : Params) : Fun (KO P) "_law_doors" "_law_doors" s_L_doors 255 fd30 := fun_mk (show (KO P).lookup 255 = some (fnB fd30) by kernel_rfl) (by kernel_rfl) (by kernel_rfl)
theorem a31 (P : Params) : PySem.W.nsIn (KO P) mainGlobals "_law_chart" = some (some (.ref 260)) := by kernel_rfl
theorem u31 (P : Params) : Fun (KO P) "_law_chart" "_law_chart" s_L_chart 260 fd31 := fun_mk (show (KO P).lookup 260 = some (fnB fd31) by kernel_rfl) (by kernel_rfl) (by kernel_rfl)
theorem a32 (P : Params) : PySem.W.nsIn (KO P) mainGlobals "_law_opened" = some (some (.ref 267)) := by kernel_rfl
theorem u32 (P : Params) : Fun (KO P) "_law_opened" "_law_opened" s_L_opened 267 fd32 := fun_mk (show (KO P).lookup 267 = some (fnB fd32) by kernel_rfl) (by kernel_rfl) (by kernel_rfl)
theorem a33 (P : Params) : PySem.W.nsIn (KO P) mainGlobals "_law_stand" = some (some (.ref 272)) := by kernel_rfl
theorem u33 (P : Params) : Fun (KO P) "_law_stand" "_law_stand" s_L_stand 272 fd33 := fun_mk (show (KO P).lookup 272 = some (fnB fd33) by kernel_rfl) (by kernel_rfl) (by kernel_rfl)
theorem a34 (P : Params) : PySem.W.nsIn (KO P) mainGlobals "_law_whole" = some (some (.ref 279)) := by kernel_rfl
theorem u34 (P : Params) : Fun (KO P) "_law_whole" "_law_whole" sWhole 279 fd34 := fun_mk (show (KO P).lookup 279 = some (fnB fd34) by kernel_rfl) (by kernel_rfl) (by kernel_rfl)
theorem a35 (P : Params) : PySem.W.nsIn (KO P) mainGlobals "_law_lies" = some (some (.ref 286)) := by kernel_rfl
theorem u35 (P : Params) : Fun (KO P) "_law_lies" "_law_lies" sLies 286 fd35 := fun_mk (show (KO P).lookup 286 = some (fnB fd35) by kernel_rfl) (by kernel_rfl) (by kernel_rfl)
theorem a36 (P : Params) : PySem.W.nsIn (KO P) mainGlobals "_law_hall" = some (some (.ref 293)) := by kernel_rfl
theorem u36 (P : Params) : Fun (KO P) "_law_hall" "_law_hall" s_L_hall 293 fd36 := fun_mk (show (KO P).lookup 293 = some (fnB fd36) by kernel_rfl) (by kernel_rfl) (by kernel_rfl)
theorem a37 (P : Params) : PySem.W.nsIn (KO P) mainGlobals "_law_parents" = some (some (.ref 298)) := by kernel_rfl
theorem u37 (P : Params) : Fun (KO P) "_law_parents" "_law_parents" sParents 298 fd37 := fun_mk (show (KO P).lookup 298 = some (fnB fd37) by kernel_rfl) (by kernel_rfl) (by kernel_rfl)
theorem a38 (P : Params) : PySem.W.nsIn (KO P) mainGlobals "_law_is_full" = some (some (.ref 303)) := by kernel_rfl
theorem u38 (P : Params) : Fun (KO P) "_law_is_full" "_law_is_full" s_L_is_full 303 fd38 := fun_mk (show (KO P).lookup 303 = some (fnB fd38) by kernel_rfl) (by kernel_rfl) (by kernel_rfl)
theorem a39 (P : Params) : PySem.W.nsIn (KO P) mainGlobals "_law_step" = some (some (.ref 308)) := by kernel_rfl
theorem u39 (P : Params) : Fun (KO P) "_law_step" "_law_step" s_L_step 308 fd39 := fun_mk (show (KO P).lookup 308 = some (fnB fd39) by kernel_rfl) (by kernel_rfl) (by kernel_rfl)
theorem a40 (P : Params) : PySem.W.nsIn (KO P) mainGlobals "_law_walk" = some (some (.ref 315)) := by kernel_rfl
theorem u40 (P : Params) : Fun (KO P) "_law_walk" "_law_walk" s_L_walk 315 fd40 := fun_mk (show (KO P).lookup 315 = some (fnB fd40) by kernel_rfl) (by kernel_rfl) (by kernel_rfl)
theorem a41 (P : Params) : PySem.W.nsIn (KO P) mainGlobals "_law_ways" = some (some (.ref 320)) := by kernel_rfl
theorem u41 (P : Params) : Fun (KO P) "_law_ways" "_law_ways" s_L_ways 320 fd41 := fun_mk (show (KO P).lookup 320 = some (fnB fd41) by kernel_rfl) (by kernel_rfl) (by kernel_rfl)
theorem a42 (P : Params) : PySem.W.nsIn (KO P) mainGlobals "law" = some (some (.ref 325)) := by kernel_rfl
theorem u42 (P : Params) : Fun (KO P) "law" "law" sLawF 325 fd42 := fun_mk (show (KO P).lookup 325 = some (fnB fd42) by kernel_rfl) (by kernel_rfl) (by kernel_rfl)
theorem aM1 (P : Params) : PySem.W.findIn (KO P) (.ref 190) "__init__" = some (some (.ref 166)) := by kernel_rfl
theorem iM1 (P : Params) : PySem.W.isFn (KO P) (.ref 166) = true := by kernel_rfl
theorem uM1 (P : Params) : Fun (KO P) "__init__" "Letters.__init__" sInit 166 fdM1 := fun_mk (show (KO P).lookup 166 = some (fnB fdM1) by kernel_rfl) (by kernel_rfl) (by kernel_rfl)
theorem aM2 (P : Params) : PySem.W.findIn (KO P) (.ref 190) "add" = some (some (.ref 173)) := by kernel_rfl
theorem iM2 (P : Params) : PySem.W.isFn (KO P) (.ref 173) = true := by kernel_rfl
theorem uM2 (P : Params) : Fun (KO P) "add" "Letters.add" sAdd 173 fdM2 := fun_mk (show (KO P).lookup 173 = some (fnB fdM2) by kernel_rfl) (by kernel_rfl) (by kernel_rfl)
theorem aC (P : Params) : PySem.W.nsIn (KO P) mainGlobals "Letters" = some (some (.ref 190)) := by kernel_rfl
theorem clC (P : Params) : Cls (KO P) 190 := ⟨by kernel_rfl, by kernel_rfl, by kernel_rfl, by kernel_rfl⟩
theorem mkC (P : Params) : PySem.W.makesIn (KO P) 190 = true /\ PySem.W.keepIn (KO P) (.ref 190) = true := ⟨by kernel_rfl, by kernel_rfl⟩
theorem nnC_most (P : Params) : PySem.W.findIn (KO P) (.ref 190) "most" = some none := by kernel_rfl
theorem nnC_events (P : Params) : PySem.W.findIn (KO P) (.ref 190) "events" = some none := by kernel_rfl
theorem z1 (P : Params) : PySem.W.nsIn (KO P) mainGlobals "len" = some none := by kernel_rfl
theorem z2 (P : Params) : PySem.W.nsIn (KO P) mainGlobals "max" = some none := by kernel_rfl
theorem z3 (P : Params) : PySem.W.nsIn (KO P) mainGlobals "min" = some none := by kernel_rfl
theorem z4 (P : Params) : PySem.W.nsIn (KO P) mainGlobals "range" = some none := by kernel_rfl
theorem z5 (P : Params) : PySem.W.nsIn (KO P) mainGlobals "list" = some none := by kernel_rfl
theorem z6 (P : Params) : PySem.W.nsIn (KO P) mainGlobals "tuple" = some none := by kernel_rfl
theorem z7 (P : Params) : PySem.W.nsIn (KO P) mainGlobals "isinstance" = some none := by kernel_rfl
theorem z8 (P : Params) : PySem.W.nsIn (KO P) mainGlobals "int" = some none := by kernel_rfl
theorem z9 (P : Params) : PySem.W.nsIn (KO P) mainGlobals "bool" = some none := by kernel_rfl
theorem z10 (P : Params) : PySem.W.nsIn (KO P) mainGlobals "sorted" = some none := by kernel_rfl
theorem z11 (P : Params) : PySem.W.nsIn (KO P) mainGlobals "any" = some none := by kernel_rfl
theorem z12 (P : Params) : PySem.W.nsIn (KO P) mainGlobals "enumerate" = some none := by kernel_rfl
theorem z13 (P : Params) : PySem.W.nsIn (KO P) mainGlobals "str" = some none := by kernel_rfl
theorem z14 (P : Params) : PySem.W.nsIn (KO P) mainGlobals "reversed" = some none := by kernel_rfl
set_option maxHeartbeats 0 in
theorem law_ok {w : World} {mg : Str -> Option Value} {h base : Heap} (X : (KO w.params).In h) (G : h.Ns mainGlobals mg) : FnOk PW w (KO w.params) mg base CX0 9 325 fd42 ["_law_script"] (spLaw (KO w.params)) := by
  have F1 := u1 w.params
  have b1 := F1.binds (ps := ["_law_script", "_law_k"]) fun _ _ _ _ _ _ us hl => match us, hl with | [_, _], _ => rfl
  have m1 := PySem.W.mg_of X G (a1 w.params)
  have k1 := F1.kp
  have F2 := u2 w.params
  have b2 := F2.binds (ps := ["_law_script", "_law_k", "_law_salt"]) fun _ _ _ _ _ _ us hl => match us, hl with | [_, _, _], _ => rfl
  have m2 := PySem.W.mg_of X G (a2 w.params)
  have k2 := F2.kp
  have F3 := u3 w.params
  have b3 := F3.binds (ps := ["rooms", "room"]) fun _ _ _ _ _ _ us hl => match us, hl with | [_, _], _ => rfl
  have m3 := PySem.W.mg_of X G (a3 w.params)
  have k3 := F3.kp
  have F4 := u4 w.params
  have b4 := F4.binds (ps := ["rooms", "room"]) fun _ _ _ _ _ _ us hl => match us, hl with | [_, _], _ => rfl
  have m4 := PySem.W.mg_of X G (a4 w.params)
  have k4 := F4.kp
  have F5 := u5 w.params
  have b5 := F5.binds (ps := ["rooms", "one", "other"]) fun _ _ _ _ _ _ us hl => match us, hl with | [_, _, _], _ => rfl
  have m5 := PySem.W.mg_of X G (a5 w.params)
  have k5 := F5.kp
  have F6 := u6 w.params
  have b6 := F6.binds (ps := ["rooms", "one", "other"]) fun _ _ _ _ _ _ us hl => match us, hl with | [_, _, _], _ => rfl
  have m6 := PySem.W.mg_of X G (a6 w.params)
  have k6 := F6.kp
  have F7 := u7 w.params
  have b7 := F7.binds (ps := ["rooms", "room"]) fun _ _ _ _ _ _ us hl => match us, hl with | [_, _], _ => rfl
  have m7 := PySem.W.mg_of X G (a7 w.params)
  have k7 := F7.kp
  have F8 := u8 w.params
  have b8 := F8.binds (ps := ["rooms", "room", "goals"]) fun _ _ _ _ _ _ us hl => match us, hl with | [_, _, _], _ => rfl
  have m8 := PySem.W.mg_of X G (a8 w.params)
  have k8 := F8.kp
  have F9 := u9 w.params
  have b9 := F9.binds (ps := ["rooms", "room", "goals"]) fun _ _ _ _ _ _ us hl => match us, hl with | [_, _, _], _ => rfl
  have m9 := PySem.W.mg_of X G (a9 w.params)
  have k9 := F9.kp
  have F10 := u10 w.params
  have b10 := F10.binds (ps := ["rooms", "under", "goals"]) fun _ _ _ _ _ _ us hl => match us, hl with | [_, _, _], _ => rfl
  have m10 := PySem.W.mg_of X G (a10 w.params)
  have k10 := F10.kp
  have F11 := u11 w.params
  have b11 := F11.binds (ps := ["rooms", "under", "opening"]) fun _ _ _ _ _ _ us hl => match us, hl with | [_, _, _], _ => rfl
  have m11 := PySem.W.mg_of X G (a11 w.params)
  have k11 := F11.kp
  have F12 := u12 w.params
  have b12 := F12.binds (ps := ["rooms", "told"]) fun _ _ _ _ _ _ us hl => match us, hl with | [_, _], _ => rfl
  have m12 := PySem.W.mg_of X G (a12 w.params)
  have k12 := F12.kp
  have F13 := u13 w.params
  have b13 := F13.binds (ps := ["rooms", "opening", "room"]) fun _ _ _ _ _ _ us hl => match us, hl with | [_, _, _], _ => rfl
  have m13 := PySem.W.mg_of X G (a13 w.params)
  have k13 := F13.kp
  have F14 := u14 w.params
  have b14 := F14.binds (ps := ["rooms", "opening", "left", "kept"]) fun _ _ _ _ _ _ us hl => match us, hl with | [_, _, _, _], _ => rfl
  have m14 := PySem.W.mg_of X G (a14 w.params)
  have k14 := F14.kp
  have F15 := u15 w.params
  have b15 := F15.binds (ps := ["deed", "boxes", "sizes"]) fun _ _ _ _ _ _ us hl => match us, hl with | [_, _, _], _ => rfl
  have m15 := PySem.W.mg_of X G (a15 w.params)
  have k15 := F15.kp
  have F16 := u16 w.params
  have b16 := F16.binds (ps := ["deed", "boxes", "letters"]) fun _ _ _ _ _ _ us hl => match us, hl with | [_, _, _], _ => rfl
  have m16 := PySem.W.mg_of X G (a16 w.params)
  have k16 := F16.kp
  have F17 := u17 w.params
  have b17 := F17.binds (ps := ["deeds", "boxes", "sizes", "letters"]) fun _ _ _ _ _ _ us hl => match us, hl with | [_, _, _, _], _ => rfl
  have m17 := PySem.W.mg_of X G (a17 w.params)
  have k17 := F17.kp
  have F18 := u18 w.params
  have b18 := F18.binds (ps := ["chart"]) fun _ _ _ _ _ _ us hl => match us, hl with | [_], _ => rfl
  have m18 := PySem.W.mg_of X G (a18 w.params)
  have k18 := F18.kp
  have F19 := u19 w.params
  have b19 := F19.binds (ps := ["rooms", "entered"]) fun _ _ _ _ _ _ us hl => match us, hl with | [_, _], _ => rfl
  have m19 := PySem.W.mg_of X G (a19 w.params)
  have k19 := F19.kp
  have F20 := u20 w.params
  have b20 := F20.binds (ps := ["rooms", "left"]) fun _ _ _ _ _ _ us hl => match us, hl with | [_, _], _ => rfl
  have m20 := PySem.W.mg_of X G (a20 w.params)
  have k20 := F20.kp
  have F21 := u21 w.params
  have b21 := F21.binds (ps := ["steps", "boxes", "sizes", "letters"]) fun _ _ _ _ _ _ us hl => match us, hl with | [_, _, _, _], _ => rfl
  have m21 := PySem.W.mg_of X G (a21 w.params)
  have k21 := F21.kp
  have F22 := u22 w.params
  have b22 := F22.binds (ps := ["chart", "kept", "door"]) fun _ _ _ _ _ _ us hl => match us, hl with | [_, _, _], _ => rfl
  have m22 := PySem.W.mg_of X G (a22 w.params)
  have k22 := F22.kp
  have F23 := u23 w.params
  have b23 := F23.binds (ps := ["chart", "stand", "door", "letters"]) fun _ _ _ _ _ _ us hl => match us, hl with | [_, _, _, _], _ => rfl
  have m23 := PySem.W.mg_of X G (a23 w.params)
  have k23 := F23.kp
  have F24 := u24 w.params
  have b24 := F24.binds (ps := ["_law_k", "_law_number"]) fun _ _ _ _ _ _ us hl => match us, hl with | [_, _], _ => rfl
  have m24 := PySem.W.mg_of X G (a24 w.params)
  have k24 := F24.kp
  have F25 := u25 w.params
  have b25 := F25.binds (ps := ["_law_number", "_law_sizes", "_law_events"]) fun _ _ _ _ _ _ us hl => match us, hl with | [_, _, _], _ => rfl
  have m25 := PySem.W.mg_of X G (a25 w.params)
  have k25 := F25.kp
  have F26 := u26 w.params
  have b26 := F26.binds (ps := ["_law_script", "_law_k", "_law_salt", "_law_sizes", "_law_events"]) fun _ _ _ _ _ _ us hl => match us, hl with | [_, _, _, _, _], _ => rfl
  have m26 := PySem.W.mg_of X G (a26 w.params)
  have k26 := F26.kp
  have F27 := u27 w.params
  have b27 := F27.binds (ps := ["_law_number", "_law_rooms_here", "_law_boxes", "_law_high"]) fun _ _ _ _ _ _ us hl => match us, hl with | [_, _, _, _], _ => rfl
  have m27 := PySem.W.mg_of X G (a27 w.params)
  have k27 := F27.kp
  have F28 := u28 w.params
  have b28 := F28.binds (ps := ["_law_script", "_law_many"]) fun _ _ _ _ _ _ us hl => match us, hl with | [_, _], _ => rfl
  have m28 := PySem.W.mg_of X G (a28 w.params)
  have k28 := F28.kp
  have F29 := u29 w.params
  have b29 := F29.binds (ps := ["_law_script", "_law_depths_here", "_law_sizes", "_law_events"]) fun _ _ _ _ _ _ us hl => match us, hl with | [_, _, _, _], _ => rfl
  have m29 := PySem.W.mg_of X G (a29 w.params)
  have k29 := F29.kp
  have F30 := u30 w.params
  have b30 := F30.binds (ps := ["_law_script", "_law_many", "_law_rooms_here", "_law_sizes", "_law_events"]) fun _ _ _ _ _ _ us hl => match us, hl with | [_, _, _, _, _], _ => rfl
  have m30 := PySem.W.mg_of X G (a30 w.params)
  have k30 := F30.kp
  have F31 := u31 w.params
  have b31 := F31.binds (ps := ["_law_script"]) fun _ _ _ _ _ _ us hl => match us, hl with | [_], _ => rfl
  have m31 := PySem.W.mg_of X G (a31 w.params)
  have k31 := F31.kp
  have F32 := u32 w.params
  have b32 := F32.binds (ps := ["_law_rooms_here", "_law_room", "_law_script", "_law_at"]) fun _ _ _ _ _ _ us hl => match us, hl with | [_, _, _, _], _ => rfl
  have m32 := PySem.W.mg_of X G (a32 w.params)
  have k32 := F32.kp
  have F33 := u33 w.params
  have b33 := F33.binds (ps := ["_law_chart_here", "_law_script", "_law_at"]) fun _ _ _ _ _ _ us hl => match us, hl with | [_, _, _], _ => rfl
  have m33 := PySem.W.mg_of X G (a33 w.params)
  have k33 := F33.kp
  have F34 := u34 w.params
  have b34 := F34.binds (ps := ["_law_found"]) fun _ _ _ _ _ _ us hl => match us, hl with | [_], _ => rfl
  have m34 := PySem.W.mg_of X G (a34 w.params)
  have k34 := F34.kp
  have F35 := u35 w.params
  have b35 := F35.binds (ps := ["_law_rooms_here", "_law_one", "_law_other"]) fun _ _ _ _ _ _ us hl => match us, hl with | [_, _, _], _ => rfl
  have m35 := PySem.W.mg_of X G (a35 w.params)
  have k35 := F35.kp
  have F36 := u36 w.params
  have b36 := F36.binds (ps := ["_law_rooms_here", "_law_one", "_law_other"]) fun _ _ _ _ _ _ us hl => match us, hl with | [_, _, _], _ => rfl
  have m36 := PySem.W.mg_of X G (a36 w.params)
  have k36 := F36.kp
  have F37 := u37 w.params
  have b37 := F37.binds (ps := ["_law_rooms_here"]) fun _ _ _ _ _ _ us hl => match us, hl with | [_], _ => rfl
  have m37 := PySem.W.mg_of X G (a37 w.params)
  have k37 := F37.kp
  have F38 := u38 w.params
  have b38 := F38.binds (ps := ["_law_rooms_here", "_law_parents_here", "_law_opening"]) fun _ _ _ _ _ _ us hl => match us, hl with | [_, _, _], _ => rfl
  have m38 := PySem.W.mg_of X G (a38 w.params)
  have k38 := F38.kp
  have F39 := u39 w.params
  have b39 := F39.binds (ps := ["_law_rooms_here", "_law_parents_here", "_law_opened_here", "_law_word", "_law_room"]) fun _ _ _ _ _ _ us hl => match us, hl with | [_, _, _, _, _], _ => rfl
  have m39 := PySem.W.mg_of X G (a39 w.params)
  have k39 := F39.kp
  have F40 := u40 w.params
  have b40 := F40.binds (ps := ["_law_rooms_here", "_law_parents_here", "_law_opened_here", "_law_record", "_law_door"]) fun _ _ _ _ _ _ us hl => match us, hl with | [_, _, _, _, _], _ => rfl
  have m40 := PySem.W.mg_of X G (a40 w.params)
  have k40 := F40.kp
  have F41 := u41 w.params
  have b41 := F41.binds (ps := ["_law_chart_here", "_law_stand_here", "_law_k", "_law_outs", "_law_ins", "_law_behind"]) fun _ _ _ _ _ _ us hl => match us, hl with | [_, _, _, _, _, _], _ => rfl
  have m41 := PySem.W.mg_of X G (a41 w.params)
  have k41 := F41.kp
  have F42 := u42 w.params
  have FM1 := uM1 w.params
  have bM1 := FM1.binds (ps := ["self", "most"]) fun _ _ _ _ _ _ us hl => match us, hl with | [_, _], _ => rfl
  have MkC : Mk (KO w.params) 190 166 := ⟨(mkC w.params).1, aM1 w.params, iM1 w.params, (mkC w.params).2⟩
  have FM2 := uM2 w.params
  have bM2 := FM2.binds (ps := ["self", "event"]) fun _ _ _ _ _ _ us hl => match us, hl with | [_, _], _ => rfl
  have mM2 : Meth (KO w.params) 190 "add" 173 := ⟨aM2 w.params, iM2 w.params, FM2.kp⟩
  have cl := clC w.params
  have mC := PySem.W.mg_of X G (aC w.params)
  have nn_most := nnC_most w.params
  have nn_events := nnC_events w.params
  have n_len := PySem.W.mg_none_of X G (z1 w.params)
  have n_max := PySem.W.mg_none_of X G (z2 w.params)
  have n_min := PySem.W.mg_none_of X G (z3 w.params)
  have n_range := PySem.W.mg_none_of X G (z4 w.params)
  have n_list := PySem.W.mg_none_of X G (z5 w.params)
  have n_tuple := PySem.W.mg_none_of X G (z6 w.params)
  have n_isinstance := PySem.W.mg_none_of X G (z7 w.params)
  have n_int := PySem.W.mg_none_of X G (z8 w.params)
  have n_bool := PySem.W.mg_none_of X G (z9 w.params)
  have n_sorted := PySem.W.mg_none_of X G (z10 w.params)
  have n_any := PySem.W.mg_none_of X G (z11 w.params)
  have n_enumerate := PySem.W.mg_none_of X G (z12 w.params)
  have n_str := PySem.W.mg_none_of X G (z13 w.params)
  have n_reversed := PySem.W.mg_none_of X G (z14 w.params)
  have GM1 := Prg.ok_init (P := PW) (w := w) (base := base) (mg := mg) FM1 cl nn_most nn_events
  have GM2 := Prg.ok_add (P := PW) (w := w) (base := base) (mg := mg) FM2 cl nn_most nn_events n_len
  have G1 := ok_cell (P := PW) (w := w) (base := base) (mg := mg) F1 n_len
  have G2 := ok_mixed (P := PW) (w := w) (base := base) (mg := mg) F2 G1 b1 k1 m1 n_len n_max
  have G3 := Prg.ok_end (P := PW) (w := w) (base := base) (mg := mg) F3 n_range n_len
  have G4 := Prg.ok_parent (P := PW) (w := w) (base := base) (mg := mg) F4 n_range
  have G5 := Prg.ok_lies (P := PW) (w := w) (base := base) (mg := mg) F5 G3 b3 k3 m3
  have G6 := Prg.ok_hall (P := PW) (w := w) (base := base) (mg := mg) F6 (G4.mono (show 1 <= 2 by decide)) b4 k4 m4 G5 b5 k5 m5
  have G7 := Prg.ok_kids (P := PW) (w := w) (base := base) (mg := mg) F7 G3 b3 k3 m3 n_range
  have G8 := Prg.ok_bears_goal (P := PW) (w := w) (base := base) (mg := mg) F8 G3 b3 k3 m3 n_any
  have G9 := Prg.ok_next_in (P := PW) (w := w) (base := base) (mg := mg) F9 G7 b7 k7 m7 G8 b8 k8 m8
  have G10 := Prg.ok_goings_in (P := PW) (w := w) (base := base) (mg := mg) F10 G9 b9 k9 m9 n_len n_sorted
  have G11 := Prg.ok_goings_out (P := PW) (w := w) (base := base) (mg := mg) F11 G3 b3 k3 m3 n_sorted
  have G12 := Prg.ok_plain_ones (P := PW) (w := w) (base := base) (mg := mg) F12 n_tuple
  have G13 := Prg.ok_kept_of (P := PW) (w := w) (base := base) (mg := mg) F13 G11 b11 k11 m11 (G12.mono (show 1 <= 2 by decide)) b12 k12 m12 n_sorted n_tuple
  have G14 := Prg.ok_keeping (P := PW) (w := w) (base := base) (mg := mg) F14 G13 b13 k13 m13 n_list n_tuple
  have G15 := Prg.ok_changed (P := PW) (w := w) (base := base) (mg := mg) F15
  have G16 := Prg.ok_recorded (P := PW) (w := w) (base := base) (mg := mg) F16 cl mM2 GM2 bM2
  have G17 := Prg.ok_done (P := PW) (w := w) (base := base) (mg := mg) F17 (G15.mono (show 1 <= 2 by decide)) b15 k15 m15 G16 b16 k16 m16
  have G18 := ok_sizes_of (P := PW) (w := w) (base := base) (mg := mg) F18 n_tuple
  have G19 := ok_steps_in (P := PW) (w := w) (base := base) (mg := mg) F19
  have G20 := ok_steps_out (P := PW) (w := w) (base := base) (mg := mg) F20
  have G21 := ok_stepped (P := PW) (w := w) (base := base) (mg := mg) F21 G17 b17 k17 m17
  have G22 := ok_goals_of (P := PW) (w := w) (base := base) (mg := mg) F22 n_len n_list
  have G23 := ok_passed (P := PW) (w := w) (base := base) (mg := mg) F23 (G6.mono (show 3 <= 4 by decide)) b6 k6 m6 (G11.mono (show 2 <= 4 by decide)) b11 k11 m11 G14 b14 k14 m14 G10 b10 k10 m10 (G22.mono (show 1 <= 4 by decide)) b22 k22 m22 (G20.mono (show 1 <= 4 by decide)) b20 k20 m20 (G19.mono (show 1 <= 4 by decide)) b19 k19 m19 G21 b21 k21 m21 (G18.mono (show 1 <= 4 by decide)) b18 k18 m18 n_tuple n_sorted
  have G24 := Chr.ok_name (P := PW) (w := w) (base := base) (mg := mg) F24 n_len
  have G25 := Chr.ok_deed (P := PW) (w := w) (base := base) (mg := mg) F25 G24 b24 k24 m24 n_len
  have G26 := Chr.ok_deeds (P := PW) (w := w) (base := base) (mg := mg) F26 G2 b2 k2 m2 G25 b25 k25 m25 n_range n_tuple
  have G27 := ok_guard3 (P := PW) (w := w) (base := base) (mg := mg) F27 b27 m27
  have G28 := Chr.ok_depths (P := PW) (w := w) (base := base) (mg := mg) F28 G2 b2 k2 m2 n_range n_min
  have G29 := Chr.ok_rooms (P := PW) (w := w) (base := base) (mg := mg) F29 (G2.mono (show 2 <= 3 by decide)) b2 k2 m2 (G24.mono (show 1 <= 3 by decide)) b24 k24 m24 G26 b26 k26 m26 (G1.mono (show 1 <= 3 by decide)) b1 k1 m1 n_range n_len n_tuple
  have G30 := Chr.ok_doors (P := PW) (w := w) (base := base) (mg := mg) F30 (G2.mono (show 2 <= 3 by decide)) b2 k2 m2 G27 b27 k27 m27 G26 b26 k26 m26 n_range n_len n_tuple n_int
  have G31 := Chr.ok_chart (P := PW) (w := w) (base := base) (mg := mg) F31 (G2.mono (show 2 <= 4 by decide)) b2 k2 m2 (G1.mono (show 1 <= 4 by decide)) b1 k1 m1 (G24.mono (show 1 <= 4 by decide)) b24 k24 m24 (G28.mono (show 3 <= 4 by decide)) b28 k28 m28 G29 b29 k29 m29 G30 b30 k30 m30 n_range n_tuple
  have G32 := ok_opn5 (P := PW) (w := w) (base := base) (mg := mg) F32 G2 b2 k2 m2 b32 m32 n_len
  have G33 := ok_stand (P := PW) (w := w) (base := base) (mg := mg) F33 (G2.mono (show 2 <= 7 by decide)) b2 k2 m2 G32 b32 k32 m32 n_range n_len n_tuple
  have G34 := Mix.ok_whole (P := PW) (w := w) (base := base) (mg := mg) F34 n_isinstance n_int n_bool
  have G35 := Ans.ok_llies (P := PW) (w := w) (base := base) (mg := mg) F35 n_range
  have G36 := ok_lhall (P := PW) (w := w) (base := base) (mg := mg) F36 G35 b35 k35 m35 n_range n_len
  have G37 := ok_lparents (P := PW) (w := w) (base := base) (mg := mg) F37 n_range n_len n_max
  have G38 := ok_lfull (P := PW) (w := w) (base := base) (mg := mg) F38 n_range n_len
  have G39 := ok_lstep (P := PW) (w := w) (base := base) (mg := mg) F39 G34 b34 k34 m34 n_range n_len
  have G40 := ok_lwalk (P := PW) (w := w) (base := base) (mg := mg) F40 (G34.mono (show 1 <= 2 by decide)) b34 k34 m34 G39 b39 k39 m39 n_isinstance n_tuple n_str n_int n_len
  have G41 := ok_lways (P := PW) (w := w) (base := base) (mg := mg) F41 G36 b36 k36 m36 (G35.mono (show 1 <= 2 by decide)) b35 k35 m35 n_reversed n_sorted n_list
  exact ok_law (n := 7) F42 MkC (GM1.mono (show 1 <= 7 by decide)) bM1 mC (G31.mono (show 5 <= 8 by decide)) b31 k31 m31 (G37.mono (show 1 <= 8 by decide)) b37 k37 m37 G33 b33 k33 m33 (G23.mono (show 5 <= 8 by decide)) b23 k23 m23 (G40.mono (show 3 <= 8 by decide)) b40 k40 m40 (G38.mono (show 1 <= 8 by decide)) b38 k38 m38 (G41.mono (show 3 <= 8 by decide)) b41 k41 m41 n_range n_len n_list n_tuple n_isinstance
theorem walk : PySem.W.WalkO QV LS (PySem.W.XL QV []) HK.says PySem.Challenge.rw_nesthall_k24_a_door_closes_what_it_opene.row.toRowW dLaw [] (fun f vs => PySem.call f vs) := by
  refine L2.walk_of (l := PySem.Challenge.rw_nesthall_k24_a_door_closes_what_it_opene) (n := 63) (k := 9) (x := "_law_script") (K := KO) (CX := fun _ => CX0) (sp := fun w => spLaw (KO w.params)) rfl (by decide) rfl ⟨rfl, by decide, by decide⟩ (fun w h Y => Y) ?_ (fun _ _ a ns hl _ hS => ⟨a, ns, rfl, hS, hl, fun _ => rfl⟩) fun _ _ _ _ _ z => z
  intro w mg fa h KX G hmg
  have e := hmg.symm.trans (PySem.W.mg_of KX G (a42 w.params))
  cases e
  exact ⟨fd42, fun s v => .of_eq rfl, fun base _ _ => law_ok KX G⟩
end Ru
open PySem PySem.W PyProof.Rows
set_option maxRecDepth 100000 in
set_option maxHeartbeats 0 in
theorem PySem.Challenge.cw_nesthall_k24_a_door_closes_what_it_opene_holds : PySem.Challenge.rw_nesthall_k24_a_door_closes_what_it_opene.Holds := by
  refine holds_law Ru.said fun said => ?_
  refine PySem.W.holds_open (r := PySem.Challenge.rw_nesthall_k24_a_door_closes_what_it_opene.row) Ru.left Ru.HK.of Ru.HK.keeps
    (fun s e => xl_of s (Bool.and_eq_true_iff.mp e).1) XL.keeps Ru.hdef Ru.hthe Ru.hkw
    (fun s e => recFacts_of (Bool.and_eq_true_iff.mp e).2) rfl said Ru.hok Ru.hbare ?hw Ru.walk
  case hw => w_witness2
