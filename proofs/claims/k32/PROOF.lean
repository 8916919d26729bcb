import PyProof.Rows.All
import Wide.All
import OpenK.AllK
import Wide.FinOn
import Lean
import PyProof.EqAt
import PyProof.EqKinds
import PyProof.TupleCall
import PySem.Challenge.RW_nesthall_k32_tables_of_runs
set_option Elab.async false
set_option linter.all false
set_option maxRecDepth 100000
noncomputable section
set_option maxHeartbeats 0 in
theorem Ao.qC8:PySem.Challenge.rw_nesthall_k32_tables_of_runs.row.wellSaid=true:=by kernel_rfl
set_option maxHeartbeats 0 in
theorem Ao.said:PySem.Challenge.rw_nesthall_k32_tables_of_runs.wellSaid=true:=by
 unfold PySem.W.OpenLaw.wellSaid
 rw[Ao.qC8]
 kernel_rfl
abbrev bO:=PySem.W.Frag
abbrev jJ:=@PySem.Heap.get?_push_of_some
abbrev gf:=@PySem.Heap.lt_size
abbrev xf:=@PySem.Heap.get?_push_size
abbrev QC:=@List.getElem?_append_left
abbrev Yn:=@List.getElem?_append_right
abbrev HX:=@List.mem_cons_self
abbrev Mq:=@List.mem_of_getElem?
abbrev Dr:=@Nat.lt_of_lt_of_le
abbrev lu:=@Nat.ne_of_lt
abbrev Hh:=@List.mem_cons_of_mem
abbrev bV:=@PySem.boot_len
abbrev jM:=@PySem.F.plainAttrs_list
abbrev sy:=@PySem.F.slot_list_append
abbrev sZ:=@PySem.F.type_list_append
abbrev iT:=@PyProof.Rows.boot_tuple
abbrev xg:=@PyProof.Rows.boot_isinstance
abbrev pU:=@Int.emod_nonneg
abbrev qZ:=@Int.emod_lt_of_pos
abbrev qB9:=@List.getElem?_range
abbrev bZ:=@List.length_map
abbrev fu:=@List.getElem?_eq_getElem
abbrev fU:=@List.length_append
abbrev bT:=@Nat.le_refl
abbrev mH:=@List.getElem?_eq_some_iff
abbrev qd:=@List.size_toArray
abbrev qX:=@Bool.false_ne_true
abbrev kJ:=@Option.some.inj
abbrev kI:=@List.map_append
abbrev uw:=@List.take_of_length_le
abbrev dJ:=@List.mem_singleton
abbrev kW:=@List.getD_eq_getElem?_getD
abbrev eV:=@List.length_cons
abbrev gG:=@List.length_take
abbrev jN:=@List.take_add_one
abbrev jf:=@List.length_singleton
abbrev bY:=@List.mem_cons
abbrev gF:=@List.append_nil
abbrev gW:=@List.mem_append
abbrev iU:=@List.mem_map
abbrev cZ:=@List.getElem?_map
abbrev qe:=@List.length_filter_le
abbrev kO:=@List.getElem_mem
abbrev mJ:=@List.mem_filter
abbrev VM:=@Int.toNat_natCast
abbrev KI(K:PySem.W.Frag)(a:PySem.Addr):Prop:=PySem.W.keepIn K (.ref a)=true
namespace L2
open PySem PySem.Spec PyProof.Rows
abbrev Key:=Sum Int Str
noncomputable def zz:Key->Value->Bool
 | .inl k,v=>Value.isInt k v
 | .inr x,v=>Value.isStrOf x v
noncomputable def qH3(w:World):Key->Int
 | .inl k=>hashInt k
 | .inr x=>hashStr w x
theorem bu:∀ {k:Key} {v:Value},zz k v=true->(∃ i t,k=Sum.inl i/\v=Value.int i t) ∨ (∃ x t,k=Sum.inr x/\v=Value.str x t)
 | .inl i,v,h=>by
  obtain⟨t,e⟩:=Value.isInt_shape (k:=i) (v:=v) h
  exact .inl ⟨i,t,rfl,e⟩
 | .inr x,v,h=>by
  obtain⟨t,e⟩:=Value.isStrOf_shape (x:=x) (v:=v) h
  exact .inr ⟨x,t,rfl,e⟩
theorem O4(i:Int)(t:Tok):zz (.inl i) (.int i t)=true:=by simp [zz,Value.isInt]
theorem O3(x:Str)(t:Tok):zz (.inr x) (.str x t)=true:=by simp [zz,Value.isStrOf]
theorem qA2(a b:Int):decide ((Sum.inl a:Key)=Sum.inl b)=(a == b):=by
 by_cases e:a=b
 ·subst e;simp
 ·have h:¬ (Sum.inl a:Key)=Sum.inl b:=fun q=>e (Sum.inl.inj q)
  rw[decide_eq_false h]
  exact (beq_eq_false_iff_ne.mpr e).symm
theorem Zz(a b:Str):decide ((Sum.inr a:Key)=Sum.inr b)=decide (a=b):=by
 by_cases e:a=b
 ·subst e;simp
 ·have h:¬ (Sum.inr a:Key)=Sum.inr b:=fun q=>e (Sum.inr.inj q)
  rw[decide_eq_false h,decide_eq_false e]
theorem qA1(a:Int)(b:Str):decide ((Sum.inl a:Key)=Sum.inr b)=false:=decide_eq_false (fun q=>nomatch q)
theorem qA0(a:Str)(b:Int):decide ((Sum.inr a:Key)=Sum.inl b)=false:=decide_eq_false (fun q=>nomatch q)
noncomputable def bj(prog:Program)(w:World):PySem.KeyKind prog w Key where
 is:=zz
 hash:=qH3 w
 inj:=fun v a b ha hb=>by
  rcases bu ha with ⟨i,t,rfl,rfl⟩ | ⟨x,t,rfl,rfl⟩
  ·rcases bu hb with ⟨j,u,rfl,e⟩ | ⟨y,u,rfl,e⟩
   ·injection e with e1 _;rw[e1]
   ·exact nomatch e
  ·rcases bu hb with ⟨j,u,rfl,e⟩ | ⟨y,u,rfl,e⟩
   ·exact nomatch e
   ·injection e with e1 _;rw[e1]
 byValue:=fun k v h=>by
  rcases bu h with ⟨i,t,rfl,rfl⟩ | ⟨x,t,rfl,rfl⟩ <;> rfl
 pyHash:=fun hv h=>by
  rcases bu hv with ⟨i,t,rfl,rfl⟩ | ⟨x,t,rfl,rfl⟩
  ·exact wpAny_pyHash_int h
  ·exact wpAny_pyHash_str h
 eqBool:=fun hu hv h=>by
  rcases bu hu with ⟨i,t,rfl,rfl⟩ | ⟨x,t,rfl,rfl⟩
  ·rcases bu hv with ⟨j,u,rfl,rfl⟩ | ⟨y,u,rfl,rfl⟩
   ·rw[qA2]at h;exact wpAny_eqBool_int h
   ·rw[qA1]at h;exact SeqAt.EqAt.int_str i t y u _ _ _ _ h
  ·rcases bu hv with ⟨j,u,rfl,rfl⟩ | ⟨y,u,rfl,rfl⟩
   ·rw[qA0]at h;exact SeqAt.EqAt.str_int x t j u _ _ _ _ h
   ·rw[Zz]at h;exact wpAny_eqBool_str h
 «strs»:=fun k x t v h=>by
  rcases bu h with ⟨i,u,rfl,e⟩ | ⟨y,u,rfl,e⟩
  ·exact nomatch e
  ·injection e with e1 _
   subst e1
   cases v <;> rfl
theorem Fw(prog:Program)(w:World)(i:Int)(t:Tok):(bj prog w).is (.inl i) (.int i t)=true:=O4 i t
theorem Fv(prog:Program)(w:World)(x:Str)(t:Tok):(bj prog w).is (.inr x) (.str x t)=true:=O3 x t
inductive V where
 | non | bl (b:Bool) | int (i:Int) | str (x:Str) | Q9 (b:Array UInt8) | flt (b:UInt64) | ref (a:Addr) | ty (n:String)
 deriving DecidableEq
noncomputable def RelV:V->Value->Prop
 | .non,u=>u=Value.none
 | .bl b,u=>u=Value.bool b
 | .int i,u => ∃ t,u=Value.int i t
 | .str x,u => ∃ t,u=Value.str x t
 | .Q9 b,u => ∃ t,u=Value.bytes b t
 | .flt b,u => ∃ t,u=Value.float b t
 | .ref a,u=>u=Value.ref a
 | .ty n,u=>u=Value.type n
abbrev Vals:List V->List Value->Prop:=Paired RelV
theorem Vals.length{xs:List V}{us:List Value}(r:Vals xs us):xs.length=us.length:=Paired.length r
theorem Vals.get:∀ {xs:List V} {us:List Value} {i:Nat} {x:V},Vals xs us->xs[i]? = some x->∃ u,us[i]? = some u/\RelV x u
 | _,_,_,_,.nil,e=>by simp at e
 | _,_,0,_,.cons r _,e=>by simp at e;subst e;exact⟨_,rfl,r⟩
 | _,_,i+1,x,.cons _ t,e=>by
  obtain⟨u,h1,h2⟩:=Vals.get (i:=i) (x:=x) t (by simpa using e)
  exact⟨u,by simpa using h1,h2⟩
theorem Vals.set{x:V}{u:Value}(r:RelV x u):∀ {xs:List V} {us:List Value} (i:Nat),Vals xs us->Vals (xs.set i x) (us.set i u)
 | _,_,_,.nil=>.nil
 | _,_,0,.cons _ t=>.cons r t
 | _,_,i+1,.cons q t=>.cons q (Vals.set r i t)
theorem Vals.append:∀ {xs ys:List V} {us ws:List Value},Vals xs us->Vals ys ws->Vals (xs++ys) (us++ws)
 | _,_,_,_,.nil,s=>s
 | _,_,_,_,.cons r t,s=>.cons r (Vals.append t s)
theorem Vals.take:∀ {xs:List V} {us:List Value} (n:Nat),Vals xs us->Vals (xs.take n) (us.take n)
 | _,_,0,_=>.nil
 | _,_,_+1,.nil=>.nil
 | _,_,n+1,.cons r t=>.cons r (Vals.take n t)
theorem Vals.drop:∀ {xs:List V} {us:List Value} (n:Nat),Vals xs us->Vals (xs.drop n) (us.drop n)
 | _,_,0,r=>r
 | _,_,_+1,.nil=>.nil
 | _,_,n+1,.cons _ t=>Vals.drop n t
noncomputable def mU:Option V->Option Value->Prop
 | some v,some u=>RelV v u
 | none,none=>True
 | _,_=>False
noncomputable def KV{κ:Type}:List (κ × V)->List (κ × Value)->Prop:=Paired fun (p:κ × V) (q:κ × Value)=>p.1=q.1/\RelV p.2 q.2
noncomputable def kV:Key->V
 | .inl i=>.int i
 | .inr x=>.str x
inductive HO where
  | lst (xs:List V)
  | tup (xs:List V)
  | dK (kvs:List (Key × V)) | dT (kvs:List (List Key × V))
  | set (S:Int->Bool) (n:Nat)
  | ins (C dx:Addr) (fs:List (Str × V))
  | own (x:Addr)
  | xd (fs:List (Str × V))
  | met (f x:Addr)
  | rng (lo hi:Int)
  | Jg (o:Obj) (u:HO)
  | Xw (ps:Array Value)
  | ext (φ:Heap->Prop)
abbrev Hp:=Addr->Option HO
noncomputable def upd(H:Hp)(a:Addr)(o:HO):Hp:=fun b=>if b=a then some o else H b
theorem zC{H:Hp}{a:Addr}{o:HO}:upd H a o a=some o:=by unfold upd;rw[if_pos rfl]
theorem zQ{H:Hp}{a b:Addr}{o:HO}(h:b ≠ a):upd H a o b=H b:=by unfold upd;rw[if_neg h]
theorem fH{H:Hp}{a b:Addr}{o u:HO}(h:H a=some o)(h':H b=some u)(d:o ≠ u):a ≠ b:=by
 intro e;subst e;rw[h]at h';exact d (kJ h')
theorem zM{H:Hp}{a b:Addr}{o:HO}(h:H a=some o)(h':H b=none):a ≠ b:=by
 intro e;subst e;rw[h]at h';cases h'
section
variable(P:Program)(w:World)
noncomputable def bN(H:Hp)(h:Heap)(a:Addr):HO->Prop
 | .lst xs=>xs.length<=sizeLine/\∃(its:List Value)(n:Nat),Vals xs its/\h.get? a=some { cls:=.type "list",data:=.seq its.toArray n }
 | .tup xs=>xs.length<=sizeLine/\∃ its:List Value,Vals xs its/\IsTup h a its.toArray
 | .dK kvs=>kvs.length<=sizeLine/\(a == sysModules)=false/\∃ vs,KV kvs vs/\h.DictOf (bj P w) a vs
 | .dT kvs=>kvs.length<=sizeLine/\(a == sysModules)=false/\∃ xs:List (List Key × Addr × Value),
   Paired (fun (p:List Key × V) (q:List Key × Addr × Value)=>p.1=q.1/\H q.2.1=some (.tup (p.1.map kV))/\RelV p.2 q.2.2) kvs xs ∧
   ∃ o es ep,h.get? a=some o/\o.ExactDict/\o.data = .dict es ep/\es.toList=xs.map (entryOfKey (tupleKind (bj P w)))/\(xs.map (·.1)).Nodup
 | .set S n=>h.SetOf (intKind P w) a S n
 | .ins C dx fs=>H dx=some (.own a)/\fs.length<=1000/\dx ≠ a/\h.get? a=some (PySem.W.instObj C dx) ∧
   ∃ mA,h.Ns1 dx mA/\(∀ f,mU (fs.lookup f) (mA f))/\PySem.Within mA (fs.map (·.1))
 | .own _ => ∃ o,h.get? a=some o
 | .xd fs => ∃ mA,h.Ns1 a mA/\∀ f,mU (fs.lookup f) (mA f)
 | .rng lo hi => ∃ t u v,h.get? a=some { cls:=.type "range",data:=.fields #[.int lo t,.int hi u,.int 1 v] }
 | .Jg o u=>h.get? a=some o/\bN H h a u
 | .Xw ps=>h.get? a=some { cls:=.none,data:=.fields ps }
 | .met f x=>h.get? a=some (PySem.W.methodObj (.ref f) (.ref x))
 | .ext φ=>φ h/\(∃ o,h.get? a=some o)/\∀ h1 h2:Heap,φ h1->(∀ o,h1.get? a=some o->h2.get? a=some o)->φ h2
noncomputable def jL(H:Hp)(h:Heap):Prop:=∀ a o,H a=some o->bN P w H h a o
end
section
variable{P:Program}{w:World}{H H':Hp}{h h':Heap}{a:Addr}{o:HO}
theorem bN.lt(x:bN P w H h a o):a < h.objs.size:=by
 cases o with
 | lst xs=>obtain⟨_,_,_,_,e⟩:=x;exact gf e
 | tup xs=>obtain⟨_,_,_,p⟩:=x;exact p.lt
 | dK kvs=>obtain⟨_,_,_,_,o,_,_,e,_⟩:=x;exact gf e
 | dT kvs=>obtain⟨_,_,_,_,o,_,_,e,_⟩:=x;exact gf e
 | set S n=>obtain⟨o,_,_,_,e,_⟩:=x;exact gf e
 | ins C dx fs=>obtain⟨_,_,_,e,_⟩:=x;exact gf e
 | own y=>obtain⟨_,e⟩:=x;exact gf e
 | xd fs=>obtain⟨_,⟨_,_,_,e,_⟩,_⟩:=x;exact gf e
 | rng lo hi=>obtain⟨_,_,_,e⟩:=x;exact gf e
 | Jg ob u=>obtain⟨e,_⟩:=x;exact gf e
 | Xw ps=>exact gf (show h.get? a=some _ from x)
 | met f y=>exact gf (show h.get? a=some _ from x)
 | ext φ=>obtain⟨_,⟨_,e⟩,_⟩:=x;exact gf e
theorem Paired.Zh{α β:Type}{F G:α->β->Prop}:∀ {l₁:List α} {l₂:List β},Paired F l₁ l₂->(∀ a b,F a b->G a b)->Paired G l₁ l₂
 | _,_,.nil,_=>.nil
 | _,_,.cons r t,f=>.cons (f _ _ r) (Paired.Zh t f)
theorem bN.stay(x:bN P w H h a o)(k:∀ b u,(b=a ∨ H b=some (.own a))->h.get? b=some u->h'.get? b=some u)
  (ho:∀ b,H b=some (.own a)->H' b=some (.own a)) (ht:∀ b xs,H b=some (.tup xs)->H' b=some (.tup xs)):bN P w H' h' a o:=by
 induction o with
 | lst xs=>obtain⟨z,its,n,r,e⟩:=x;exact⟨z,its,n,r,k _ _ (.inl rfl) e⟩
 | tup xs=>obtain⟨z,its,r,ob,e,c⟩:=x;exact⟨z,its,r,ob,k _ _ (.inl rfl) e,c⟩
 | dK kvs=>obtain⟨z,y,vs,r,ob,es,ep,e,c⟩:=x;exact⟨z,y,vs,r,ob,es,ep,k _ _ (.inl rfl) e,c⟩
 | dT kvs=>
  obtain⟨z,y,xs,r,ob,es,ep,e,c⟩:=x
  exact⟨z,y,xs,Paired.Zh r fun p q z=>⟨z.1,ht _ _ z.2.1,z.2.2⟩,ob,es,ep,k _ _ (.inl rfl) e,c⟩
 | set S n=>obtain⟨ob,es,ep,t,e,c⟩:=x;exact⟨ob,es,ep,t,k _ _ (.inl rfl) e,c⟩
 | ins C dx fs=>
  obtain⟨d,z,ne,e,mA,⟨od,es,ep,e2,c⟩,r⟩:=x
  exact⟨ho _ d,z,ne,k _ _ (.inl rfl) e,mA,⟨od,es,ep,k _ _ (.inr d) e2,c⟩,r⟩
 | own y=>obtain⟨ob,e⟩:=x;exact⟨ob,k _ _ (.inl rfl) e⟩
 | xd fs=>obtain⟨mA,⟨od,es,ep,e,c⟩,r⟩:=x;exact⟨mA,⟨od,es,ep,k _ _ (.inl rfl) e,c⟩,r⟩
 | rng lo hi=>obtain⟨t,u,v,e⟩:=x;exact⟨t,u,v,k _ _ (.inl rfl) e⟩
 | Jg ob u ih=>obtain⟨e,q⟩:=x;exact⟨k _ _ (.inl rfl) e,ih q⟩
 | Xw ps=>
  have e:h.get? a=some { cls:=.none,data:=.fields ps }:=x
  show h'.get? a=some { cls:=.none,data:=.fields ps }
  exact k a _ (.inl rfl) e
 | met f y=>
  have e:h.get? a=some (PySem.W.methodObj (.ref f) (.ref y)):=x
  show h'.get? a=some (PySem.W.methodObj (.ref f) (.ref y))
  exact k a _ (.inl rfl) e
 | ext φ=>obtain⟨p,⟨o,e⟩,st⟩:=x;exact⟨st _ _ p fun o q=>k _ _ (.inl rfl) q,⟨o,k _ _ (.inl rfl) e⟩,st⟩
theorem jL.lt(x:jL P w H h)(e:H a=some o):a < h.objs.size:=(x a o e).lt
theorem jL.fresh(x:jL P w H h)(e:h.objs.size<=a):H a=none:=by
 cases q:H a with
 | none=>rfl
 | some u=>exact absurd (Dr (x.lt q) e) (Nat.lt_irrefl _)
theorem jL.kept(x:jL P w H h)(k:∀ b u,h.get? b=some u->h'.get? b=some u):jL P w H h':=fun a o e=>
 (x a o e).stay (fun b u _ q=>k b u q) (fun _ q=>q) fun _ _ q=>q
theorem jL.laid(x:jL P w H h)(k:∀ b u,h.get? b=some u->h'.get? b=some u)(hp:h.objs.size<=a)(new:bN P w (upd H a o) h' a o):jL P w (upd H a o) h':=fun b u e=>by
 have hn:=x.fresh hp
 by_cases hb:b=a
 ·subst hb;rw[zC]at e;cases e;exact new
 ·rw[zQ hb]at e
  exact (x b u e).stay (fun c v _ q=>k c v q) (fun c q=>by rw[zQ (zM q hn)];exact q) fun c xs q=>by rw[zQ (zM q hn)];exact q
end
noncomputable def Rd(H:Hp)(a:Addr)(u:HO):Prop:=H a=some u ∨ ∃ o,H a=some (.Jg o u)
theorem Rd.ok{P:Program}{w:World}{H:Hp}{h:Heap}{a:Addr}{u:HO}(r:Rd H a u)(x:jL P w H h):bN P w H h a u:=by
 rcases r with r | ⟨o,r⟩
 ·exact x a u r
 ·obtain⟨_,q⟩:=x a _ r
  exact q
noncomputable def Mut:Option HO->Prop
 | some (.lst _)=>True
 | some (.dK _)=>True
 | some (.dT _)=>True
 | some (.set _ _)=>True
 | some (.ins _ _ _)=>True
 | some (.ext _)=>True
 | _=>False
section
variable{P:Program}{w:World}{H:Hp}{h h':Heap}{x e:Addr}{o':HO}
theorem jL.write(ok:jL P w H h)(mu:Mut (H x))(he:e=x ∨ H e=some (.own x))(k:∀ b u,b ≠ e->h.get? b=some u->h'.get? b=some u)(heo:∃ u,h'.get? e=some u)
  (new:bN P w (upd H x o') h' x o'):jL P w (upd H x o') h':=fun b u q=>by
 have qCU:∀ c y,H c=some (.own y)->c ≠ x:=fun c y r z=>by subst z;rw[r]at mu;exact mu
 have qGS:∀ c xs,H c=some (.tup xs)->c ≠ x:=fun c xs r z=>by subst z;rw[r]at mu;exact mu
 by_cases hb:b=x
 ·subst hb;rw[zC]at q;cases q;exact new
 ·rw[zQ hb]at q
  by_cases hbe:b=e
  ·have q':H b=some (.own x):=by
    rcases he with z | z
    ·exact absurd (hbe.trans z) hb
    ·rw[hbe];exact z
   rw[q]at q';cases q'
   obtain⟨v,hv⟩:=heo
   exact⟨v,by rw[hbe];exact hv⟩
  ·refine (ok b u q).stay (fun c v hc r=>k c v ?_ r) (fun c r=>by rw[zQ (qCU c b r)];exact r) fun c xs r=>by rw[zQ (qGS c xs r)];exact r
   rcases hc with rfl | hc
   ·exact hbe
   ·rintro rfl
    rcases he with z | z
    ·exact qCU c b hc z
    ·rw[hc]at z;cases z;exact hb rfl
end
structure Un(fs ex:List Addr)(H H':Hp)(h h':Heap):Prop where
 keep:∀ b o,h.get? b=some o->H b=none->b ∉ fs->b ∉ ex->h'.get? b=some o
 slot:∀ b o,h.get? b=some o->H b=none->b∈fs->b ∉ ex->∃ sl,h'.get? b=some { o with slots:=sl }
 free:∀ b o,h.get? b=some o->H b=none->b ∉ ex->H' b=none
 there:∀ b o,h.get? b=some o->b ∉ ex->∃ o',h'.get? b=some o'
 tups:∀ b xs,H b=some (.tup xs)->H' b=some (.tup xs)
 uC:∀ b o u,H b=some (.Jg o u)->H' b=some (.Jg o u)
 ue:∀ b ps,H b=some (.Xw ps)->∃ more,H' b=some (.Xw (ps++more))
section
variable{fs fs' ex ex':List Addr}{H H1 H2:Hp}{h h1 h2 h':Heap}{a x e:Addr}{o:HO}
theorem Un.any(u:Un fs ex H H1 h h1){b:Addr}{ob:Obj}(q:h.get? b=some ob)(n:H b=none)(hx:b ∉ ex):∃ sl,h1.get? b=some { ob with slots:=sl }:=by
 by_cases hb:b∈fs
 ·exact u.slot b ob q n hb hx
 ·exact⟨ob.slots,u.keep b ob q n hb hx⟩
theorem Un.kept(k:∀ b u,h.get? b=some u->h'.get? b=some u):Un fs ex H H h h':=
 ⟨fun b ob q _ _ _=>k b ob q,fun b ob q _ _ _=>⟨ob.slots,k b ob q⟩,fun _ _ _ n _=>n,fun b ob q _=>⟨ob,k b ob q⟩,fun _ _ q=>q,fun _ _ _ q=>q,fun _ ps q=>⟨#[],by rw[q];simp⟩⟩
theorem Un.refl:Un fs ex H H h h:=Un.kept fun _ _ q=>q
theorem Un.laid(k:∀ b u,h.get? b=some u->h'.get? b=some u)(hp:h.objs.size<=a)(hn:H a=none):Un fs ex H (upd H a o) h h' where
 keep:=fun b u q _ _ _=>k b u q
 slot:=fun b u q _ _ _=>⟨u.slots,k b u q⟩
 free:=fun b u q n _=>by rw[zQ (lu (Dr (gf q) hp))];exact n
 there:=fun b u q _=>⟨u,k b u q⟩
 tups:=fun b xs q=>by rw[zQ (zM q hn)];exact q
 uC:=fun b u xs q=>by rw[zQ (zM q hn)];exact q
 ue:=fun b ps q=>⟨#[],by rw[zQ (zM q hn),q];simp⟩
theorem Un.write(mu:Mut (H x))(he:e=x ∨ H e=some (.own x))(k:∀ b u,b ≠ e->h.get? b=some u->h'.get? b=some u)(heo:∃ u,h'.get? e=some u):Un fs ex H (upd H x o) h h':=by
 have hx:∀ b,H b=none->b ≠ x:=fun b n z=>by subst z;rw[n]at mu;exact mu
 have hb:∀ b,H b=none->b ≠ e:=fun b n z=>by
  subst z
  rcases he with r | r
  ·exact hx b n r
  ·rw[n]at r;cases r
 have hm:∀ b u,H b=some u->¬ Mut (some u)->b ≠ x:=fun b u q nm z=>by subst z;rw[q]at mu;exact nm mu
 refine⟨fun b u q n _ _=>k b u (hb b n) q,fun b u q n _ _=>⟨u.slots,k b u (hb b n) q⟩,fun b u q n _=>by rw[zQ (hx b n)];exact n,fun b u q _=>?_,
  fun b xs q=>by rw[zQ (hm b _ q fun z=>z)];exact q,fun b u xs q=>by rw[zQ (hm b _ q fun z=>z)];exact q,fun b ps q=>⟨#[],by rw[zQ (hm b _ q fun z=>z),q];simp⟩⟩
 by_cases hbe:b=e
 ·subst hbe;exact heo
 ·exact⟨u,k b u hbe q⟩
end
noncomputable def trk(h:Heap)(H:Hp):List Addr:=(List.range h.objs.size).filter fun a=>(H a).isSome
noncomputable def Cj(h:Heap)(H:Hp):Heap:=PySem.W.hideAll h (trk h H)
theorem Oe(h:Heap)(H:Hp):(Cj h H).objs.size=h.objs.size:=PySem.W.hideAll_size _ _
theorem TV{h:Heap}{H:Hp}{b:Addr}{o:Obj}(e:h.get? b=some o)(n:H b=none):(Cj h H).get? b=some o:=
 PySem.W.hideAll_get _ e fun hm=>by
  have q:(H b).isSome=true:=(mJ.mp hm).2
  rw[n]at q;simp at q
theorem Wg{h:Heap}{H:Hp}{b:Addr}{o:Obj}(e:(Cj h H).get? b=some o):h.get? b=some o/\H b=none:=by
 have e':h.get? b=some o:=PySem.W.of_hideAll (trk h H) e
 refine⟨e',?_⟩
 cases q:H b with
 | none=>rfl
 | some x=>
  have hm:b∈trk h H:=List.mem_filter.mpr ⟨List.mem_range.mpr (Heap.lt_size e'),by simp [q]⟩
  have z:(Cj h H).get? b=none:=PySem.W.hideAll_none (trk h H) hm
  rw[z]at e;cases e
noncomputable def Xi(g h:Heap)(L:Addr):List (Addr × Obj):=(List.range h.objs.size).filterMap fun a=>if a=L ∨ (g.get? a).isSome=true then none else (h.get? a).map fun o=>(a,o)
noncomputable def rest(g h:Heap)(L d:Addr):List (Addr × Obj):=(Xi g h L).filter fun p=>decide (p.1 ≠ d)
structure Mod(K:bO)(mg:Str->Option Value)(base:Heap):Prop where
 Zy:K.In base
 glob:base.Ns mainGlobals mg
 blt:∃ mb,base.Ns builtinsNs mb/\∀ x:Str,x ≠ "__name__" -> mb x=bootBuiltins x
 nolimit:base.NoLimit
structure Cx where
 prog:Program
 w:World
 K:bO
 mg:Str->Option Value
 base:Heap
 A:Around
 N:List Str
 s₀:Shared
 H₀:Hp
 env:Env
 outer:List Env
 stack:List Env
 ex:List Addr
 fn:Str->Bool
 calm:Bool
 pn:List (Addr × Obj)
 xe:Value->Shared->Prop
noncomputable def frs(l:List Env):List Addr:=l.filterMap (·.frame)
abbrev Cx.fs(X:Cx):List Addr:=frs X.outer
noncomputable def Vis(sc:Scope)(x:Str):Prop:=sc.names.lookup x=some .local ∨ sc.names.lookup x=some .cell ∨ sc.names.lookup x=some .free
noncomputable def Loc(sc:Scope)(x:Str):Prop:=sc.names.lookup x=some .local ∨ sc.names.lookup x=some .cell
noncomputable def Look(env:Env)(h:Heap)(m:Str->Option Value)(x:Str)(u:Value):Prop:=
 (env.kindOf x=some .local/\m x=some u) ∨ ((env.kindOf x=some .cell ∨ env.kindOf x=some .free)/\∃ c,env.cells.lookup x=some c/\h.IsCell c (some u))
structure Cx.Ok(X:Cx):Prop where
 mod:Mod X.K X.mg X.base
 kind:X.env.scope.kind = .function
 glob:X.env.globals=mainGlobals
 blt:X.env.builtins=builtinsNs
 above:X.s₀.heap.objs.size<=X.env.locals
 inj:∀ x y c,X.env.cells.lookup x=some c->X.env.cells.lookup y=some c->x=y
 has:∀ x,(X.env.kindOf x=some .cell ∨ X.env.kindOf x=some .free)->∃ c,X.env.cells.lookup x=some c
 cab:∀ x c,X.fn x=true->X.env.cells.lookup x=some c->X.s₀.heap.objs.size<=c
 hd:X.calm=true->X.A.handled=none
 frames:X.A.frames=some X.stack
 stk:X.stack=X.outer ∨ (X.stack=X.env :: X.outer/\X.env.frame=some X.env.locals)
 exf:∀ b∈X.ex,b ≠ X.env.locals/\∀ x c,X.env.cells.lookup x=some c->c ≠ b
 bs:∀ b o,X.base.get? b=some o->X.s₀.heap.get? b=some o/\X.H₀ b=none
 QB:X.base.objs.size<=X.s₀.heap.objs.size
 JD:∀ b o,X.base.get? b=some o->b ∉ X.ex
 Tw:∀ b∈X.ex,b ∉ X.fs
 rT:X.s₀.heap.FunFrames X.base X.outer
 X5:∀ b∈X.fs,X.H₀ b=none
structure Inv(X:Cx)(pins:List (Addr × Obj))(σ:List (Option V))(H:Hp)(s:Shared):Prop where
 ok:X.Ok
 os:s.os=X.s₀.os
 bare:AllBare s.gens
 base:Un X.fs X.ex X.H₀ H X.s₀.heap s.heap
 loc:∃ m,s.heap.Ns X.env.locals m/\∀(i:Nat)(x:Str)(v:V),X.N[i]? = some x->σ[i]? = some (some v)->Vis X.env.scope x->∃ u,RelV v u/\Look X.env s.heap m x u
 cell:∀ x c,X.env.cells.lookup x=some c->∃ v,s.heap.IsCell c v
 free:H X.env.locals=none
 jU:∀ x c,X.env.cells.lookup x=some c->H c=none
 pin:∀ p∈X.pn++pins,s.heap.get? p.1=some p.2/\H p.1=none/\p.1 ≠ X.env.locals/\p.1 ∉ X.fs/\∀ v,p.2.data ≠ .cell v
 hok:jL X.prog X.w H s.heap
 len:σ.length=X.N.length
section
variable{X:Cx}{pins:List (Addr × Obj)}{σ:List (Option V)}{H H':Hp}{s:Shared}{h':Heap}
theorem Cx.Ok.qGW(ok:X.Ok){b:Addr}{o:Obj}(e:X.base.get? b=some o):b ∉ X.fs:=fun hb=>by
 have:=(ok.rT.mem hb).1
 rw[e]at this;cases this
theorem Inv.bs(I:Inv X pins σ H s):∀ b o,X.base.get? b=some o->s.heap.get? b=some o/\H b=none:=fun b o e=>
 ⟨I.base.keep b o (I.ok.bs b o e).1 (I.ok.bs b o e).2 (I.ok.qGW e) (I.ok.JD b o e),I.base.free b o (I.ok.bs b o e).1 (I.ok.bs b o e).2 (I.ok.JD b o e)⟩
theorem Inv.bk(I:Inv X pins σ H s):∀ b o,X.base.get? b=some o->s.heap.get? b=some o:=fun b o e=>(I.bs b o e).1
theorem Inv.mod(I:Inv X pins σ H s):Mod X.K X.mg X.base:=I.ok.mod
theorem Inv.mV(I:Inv X pins σ H s):X.K.In s.heap:=I.ok.mod.Zy.keeps I.bk
theorem Inv.lt(I:Inv X pins σ H s):X.env.locals < s.heap.objs.size:=let ⟨_,hn,_⟩:=I.loc;hn.lt
theorem Inv.sz(I:Inv X pins σ H s):X.s₀.heap.objs.size<=s.heap.objs.size:=Nat.le_trans I.ok.above (Nat.le_of_lt I.lt)
theorem Inv.qGV(I:Inv X pins σ H s){a:Addr}(h:s.heap.objs.size<=a):a ∉ X.fs:=fun hb=>by
 obtain⟨_,o,ho,_⟩:=I.ok.rT.mem hb
 exact absurd (Dr (gf ho) (Nat.le_trans I.sz h)) (Nat.lt_irrefl _)
theorem Inv.cne(I:Inv X pins σ H s):∀ x c,X.env.cells.lookup x=some c->c ≠ X.env.locals:=fun x c e z=>by
 obtain⟨v,o,ho,hd⟩:=I.cell x c e
 obtain⟨m,⟨o',es,ep,ho',hd',_⟩,_⟩:=I.loc
 rw[z,ho']at ho;cases ho;rw[hd']at hd;cases hd
theorem Inv.rT(I:Inv X pins σ H s):s.heap.FunFrames X.base X.outer:=by
 have all:∀(l:List Env),(∀ b∈frs l,b∈X.fs)->X.s₀.heap.FunFrames X.base l->s.heap.FunFrames X.base l:=by
  intro l
  induction l with
  | nil=>intro _ _;trivial
  | cons env r ih=>
   intro hs hl
   obtain⟨hk,⟨L,o,hf,hn,ho,hd⟩,hr⟩:=hl
   have hL:L∈X.fs:=hs L (by unfold frs;rw[List.filterMap_cons,hf];exact HX)
   obtain⟨sl,e⟩:=I.base.slot L o ho (I.ok.X5 L hL) hL fun z=>I.ok.Tw L z hL
   exact⟨hk,⟨L,_,hf,hn,e,hd⟩,ih (fun b hb=>hs b (by unfold frs;rw[List.filterMap_cons,hf];exact Hh _ hb)) hr⟩
 exact all X.outer (fun _ hb=>hb) I.ok.rT
theorem Inv.stack(I:Inv X pins σ H s):s.heap.FunFrames X.base X.stack:=by
 rcases I.ok.stk with e | ⟨e,hf⟩
 ·rw[e];exact I.rT
 ·rw[e]
  obtain⟨m,hn,_⟩:=I.loc
  refine .cons (by rw[I.ok.kind];decide) hf hn ?_ I.rT
  exact Heap.get?_none_of_le (Nat.le_trans I.ok.QB I.ok.above)
theorem Inv.Hr(I:Inv X pins σ H s):∀ b∈frs X.stack,b∈X.env.locals :: X.fs:=fun b hb=>by
 rcases I.ok.stk with e | ⟨e,hf⟩
 ·rw[e]at hb;exact Hh _ hb
 ·rw[e]at hb
  unfold frs at hb
  rw[List.filterMap_cons,hf]at hb
  exact hb
theorem Inv.qi(I:Inv X pins σ H s):∀ b∈frs X.stack,H b=none:=fun b hb=>by
 rcases bY.mp (I.Hr b hb) with e | hb
 ·rw[e];exact I.free
 ·obtain⟨_,o,ho,_⟩:=I.ok.rT.mem hb
  exact I.base.free b o ho (I.ok.X5 b hb) fun z=>I.ok.Tw b z hb
theorem Inv.step{g':Array GenState}{t':Nat}{d':Drawn}{ch:List Addr}(I:Inv X pins σ H s)
  (hch:∀ b∈ch,(b∈X.ex ∨ X.s₀.heap.objs.size<=b)/\b ≠ X.env.locals/\(∀ x c,X.env.cells.lookup x=some c->c ≠ b)/\∀ p∈X.pn++pins,p.1 ≠ b)
  (keep:∀ b o,b ≠ X.env.locals->b ∉ X.fs->b ∉ ch->s.heap.get? b=some o->H b=none->h'.get? b=some o)
  (slot:∀ b o,b ≠ X.env.locals->b∈X.fs->b ∉ ch->s.heap.get? b=some o->H b=none->∃ sl,h'.get? b=some { o with slots:=sl }) (free:∀ b o,b ∉ ch->s.heap.get? b=some o->H b=none->H' b=none)
  (there:∀ b o,b ∉ ch->s.heap.get? b=some o->∃ o',h'.get? b=some o')
  (tups:∀ b xs,H b=some (.tup xs)->H' b=some (.tup xs)) (uC:∀ b o u,H b=some (.Jg o u)->H' b=some (.Jg o u)) (ue:∀ b ps,H b=some (.Xw ps)->∃ more,H' b=some (.Xw (ps++more)))
  (ns:∀ m,s.heap.Ns X.env.locals m->h'.Ns X.env.locals m) (hok:jL X.prog X.w H' h') (hg:AllBare g') :
  Inv X pins σ H' { s with heap:=h',gens:=g',drawn:=d',toks:=t' }:=by
 have neL:∀ b o,X.s₀.heap.get? b=some o->b ≠ X.env.locals:=fun b o e=>lu (Dr (gf e) I.ok.above)
 have neC:∀ b o,X.s₀.heap.get? b=some o->b ∉ X.ex->b ∉ ch:=fun b o e hx hb=>by
  rcases (hch b hb).1 with z | z
  ·exact hx z
  ·exact absurd (Dr (gf e) z) (Nat.lt_irrefl _)
 have cellK:∀ x c,X.env.cells.lookup x=some c->∀ v,s.heap.IsCell c v->h'.IsCell c v:=fun x c e v ⟨o,ho,hd⟩=>by
  have nch:c ∉ ch:=fun z=>(hch c z).2.2.1 x c e rfl
  by_cases hc:c∈X.fs
  ·obtain⟨sl,q⟩:=slot c o (I.cne x c e) hc nch ho (I.jU x c e)
   exact⟨_,q,hd⟩
  ·exact⟨o,keep c o (I.cne x c e) hc nch ho (I.jU x c e),hd⟩
 refine⟨I.ok,I.os,hg,⟨fun b o e n hb hx=>?_,fun b o e n hb hx=>?_,fun b o e n hx=>?_,fun b o e hx=>?_,fun b xs e=>tups b xs (I.base.tups b xs e),fun b o xs e=>uC b o xs (I.base.uC b o xs e),fun b ps e=>?_⟩,?_,fun x c e=>?_,?_,fun x c e=>?_,fun p hp=>?_,hok,I.len⟩
 ·exact keep b o (neL b o e) hb (neC b o e hx) (I.base.keep b o e n hb hx) (I.base.free b o e n hx)
 ·obtain⟨sl,e1⟩:=I.base.slot b o e n hb hx
  obtain⟨sl',e2⟩:=slot b _ (neL b o e) hb (neC b o e hx) e1 (I.base.free b o e n hx)
  exact⟨sl',e2⟩
 ·obtain⟨o',e1⟩:=I.base.there b o e hx
  exact free b o' (neC b o e hx) e1 (I.base.free b o e n hx)
 ·obtain⟨o',e1⟩:=I.base.there b o e hx
  exact there b o' (neC b o e hx) e1
 ·obtain⟨m1,e1⟩:=I.base.ue b ps e
  obtain⟨m2,e2⟩:=ue b _ e1
  exact⟨m1++m2,by rw[e2,Array.append_assoc]⟩
 ·obtain⟨m,hn,hl⟩:=I.loc
  refine⟨m,ns m hn,fun i x v e1 e2 e3=>?_⟩
  obtain⟨u,r,l⟩:=hl i x v e1 e2 e3
  refine⟨u,r,?_⟩
  rcases l with l | ⟨k,c,e,z⟩
  ·exact .inl l
  ·exact .inr ⟨k,c,e,cellK x c e _ z⟩
 ·obtain⟨v,z⟩:=I.cell x c e
  exact⟨v,cellK x c e v z⟩
 ·obtain⟨m,⟨o,_,_,ho,_⟩,_⟩:=I.loc
  exact free _ o (fun z=>(hch _ z).2.1 rfl) ho I.free
 ·obtain⟨v,o,ho,hd⟩:=I.cell x c e
  exact free c o (fun z=>(hch c z).2.2.1 x c e rfl) ho (I.jU x c e)
 ·obtain⟨e,n,ne,nf,d⟩:=I.pin p hp
  have nch:p.1 ∉ ch:=fun z=>(hch p.1 z).2.2.2 p hp rfl
  exact⟨keep p.1 p.2 ne nf nch e n,free p.1 p.2 nch e n,ne,nf,d⟩
theorem Inv.un{t':Nat}(I:Inv X pins σ H s)(u:Un X.fs [] H H' s.heap h')(hok:jL X.prog X.w H' h'):Inv X pins σ H' { s with heap:=h',toks:=t' }:=by
 obtain⟨m,⟨o,es,ep,ho,r⟩,_⟩:=id I.loc
 obtain⟨sl,hL⟩:=u.any ho I.free (by simp)
 exact I.step (g':=s.gens) (d':=s.drawn) (ch:=[]) (fun _ z=>nomatch z) (fun b o _ hb _ e n=>u.keep b o e n hb (by simp)) (fun b o _ hb _ e n=>u.slot b o e n hb (by simp)) (fun b o _ e n=>u.free b o e n (by simp)) (fun b o _ e=>u.there b o e (by simp)) u.tups u.uC u.ue (fun m' hm=>by
  obtain⟨o',es',ep',ho',r'⟩:=hm
  rw[ho]at ho';cases ho'
  exact⟨_,es',ep',hL,r'⟩) hok I.bare
theorem Inv.call{g':Array GenState}{t':Nat}{d':Drawn}{ch:List Addr}(I:Inv X pins σ H s)(u:Un (frs X.stack) ch H H' s.heap h')(hok:jL X.prog X.w H' h')(hg:AllBare g')
  (hch:∀ b∈ch,(b∈X.ex ∨ X.s₀.heap.objs.size<=b)/\b ≠ X.env.locals/\(∀ x c,X.env.cells.lookup x=some c->c ≠ b)/\∀ p∈X.pn++pins,p.1 ≠ b) :
  Inv X pins σ H' { s with heap:=h',gens:=g',drawn:=d',toks:=t' }:=by
 obtain⟨m,⟨o,es,ep,ho,r⟩,_⟩:=id I.loc
 obtain⟨sl,hL⟩:=u.any ho I.free fun z=>(hch _ z).2.1 rfl
 exact I.step (ch:=ch) hch (fun b o hL hb hc e n=>u.keep b o e n (fun z=>(bY.mp (I.Hr b z)).elim hL hb) hc) (fun b o _ _ hc e n=>u.any e n hc) (fun b o hc e n=>u.free b o e n hc) (fun b o hc e=>u.there b o e hc) u.tups u.uC u.ue (fun m' hm=>by
  obtain⟨o',es',ep',ho',r'⟩:=hm
  rw[ho]at ho';cases ho'
  exact⟨_,es',ep',hL,r'⟩) hok hg
theorem Inv.turned{t':Nat}{it:Addr}(I:Inv X pins σ H s)(k:∀ b o,b ≠ it->s.heap.get? b=some o->h'.get? b=some o)(hn:H it=none)(hL:it ≠ X.env.locals)
  (h1:it∈X.ex ∨ X.s₀.heap.objs.size<=it) (h2:∀ x c,X.env.cells.lookup x=some c->c ≠ it) (h3:∀ p∈X.pn++pins,p.1 ≠ it):Inv X pins σ H { s with heap:=h',toks:=t' }:=by
 have nit:∀ b u,H b=some u->b ≠ it:=fun b u e z=>by rw[z,hn]at e;cases e
 refine I.step (g':=s.gens) (d':=s.drawn) (ch:=[it]) (fun b hb=>?_) (fun b o _ _ hc e _=>k b o (fun z=>hc (by simp [z])) e) (fun b o _ _ hc e _=>⟨o.slots,k b o (fun z=>hc (by simp [z])) e⟩) (fun _ _ _ _ n=>n)
  (fun b o hc e=>⟨o,k b o (fun z=>hc (by simp [z])) e⟩) (fun _ _ e=>e) (fun _ _ _ e=>e) (fun b ps e=>⟨#[],by rw[e];simp⟩) (fun m hm=>?_) (fun b u e=>?_) I.bare
 ·have e:b=it:=by simpa using hb
  subst e
  exact⟨h1,hL,h2,h3⟩
 ·obtain⟨o,es,ep,ho,r⟩:=hm
  exact⟨o,es,ep,k _ o (Ne.symm hL) ho,r⟩
 ·refine (I.hok b u e).stay (fun c v hc q=>k c v ?_ q) (fun _ q=>q) fun _ _ q=>q
  rcases hc with z | z
  ·rw[z];exact nit b u e
  ·exact nit c _ z
theorem Inv.tok(I:Inv X pins σ H s)(t:Nat):Inv X pins σ H { s with toks:=t }:=I.un (h':=s.heap) (t':=t) Un.refl I.hok
theorem Inv.kept{t':Nat}(I:Inv X pins σ H s)(k:∀ b u,s.heap.get? b=some u->h'.get? b=some u):Inv X pins σ H { s with heap:=h',toks:=t' }:=I.un (Un.kept k) (I.hok.kept k)
theorem Inv.laid{a:Addr}{o:HO}{t':Nat}(I:Inv X pins σ H s)(k:∀ b u,s.heap.get? b=some u->h'.get? b=some u)(hp:s.heap.objs.size<=a)(new:bN X.prog X.w (upd H a o) h' a o) :
  Inv X pins σ (upd H a o) { s with heap:=h',toks:=t' }:=I.un (Un.laid k hp (I.hok.fresh hp)) (I.hok.laid k hp new)
theorem Inv.write{x e:Addr}{o:HO}{t':Nat}(I:Inv X pins σ H s)(mu:Mut (H x))(he:e=x ∨ H e=some (.own x))(k:∀ b u,b ≠ e->s.heap.get? b=some u->h'.get? b=some u)(heo:∃ u,h'.get? e=some u)
  (new:bN X.prog X.w (upd H x o) h' x o):Inv X pins σ (upd H x o) { s with heap:=h',toks:=t' }:=I.un (Un.write mu he k heo) (I.hok.write mu he k heo new)
theorem Inv.rH{Y7:List (Addr × Obj)}(I:Inv X pins σ H s)(h:∀ p∈Y7,s.heap.get? p.1=some p.2/\H p.1=none/\p.1 ≠ X.env.locals/\p.1 ∉ X.fs/\∀ v,p.2.data ≠ .cell v):Inv X Y7 σ H s:=
 ⟨I.ok,I.os,I.bare,I.base,I.loc,I.cell,I.free,I.jU,fun p hp=>(gW.mp hp).elim (fun z=>I.pin p (List.mem_append_left _ z)) (h p),I.hok,I.len⟩
theorem Fl{N:List Str}(hN:N.Nodup){i j:Nat}{x:Str}(a:N[i]? = some x)(b:N[j]? = some x):i=j:=by
 obtain⟨h1,e1⟩:=mH.mp a
 obtain⟨h2,e2⟩:=mH.mp b
 exact (List.getElem_inj hN).mp (e1.trans e2.symm)
theorem t6{M:Model}{A:Around}{E:Value->Shared->Prop}{i:Nat}{x:Str}{v:V}{u:Value}{Q:Unit->Shared->Prop}(I:Inv X pins σ H s)(hN:X.N.Nodup)(hi:X.N[i]? = some x)(hx:Loc X.env.scope x)(r:RelV v u)
  (h:∀ s',Inv X pins (σ.set i (some v)) H s'->(∃ a,Heap.SameBut a s.heap s'.heap/\(a=X.env.locals ∨ X.env.cells.lookup x=some a))->Q () s') (hf:X.fn x=true ∨ X.env.scope.names.lookup x=some .local:=by first | exact .inl rfl | exact .inr rfl | assumption):wpAny M A (storeName X.env x u) Q E s:=by
 obtain⟨m,hn,hl⟩:=id I.loc
 have hcls:(X.env.scope.kind == .class || (X.env.scope.kind == .module && X.env.locals != X.env.globals))=false:=by rw[I.ok.kind];rfl
 have hiσ:i < σ.length:=by rw[I.len];exact (mH.mp hi).1
 have cne:=I.cne
 have tracked:∀ {a:Addr} {h':Heap},(∃ o,s.heap.get? a=some o/\H a=none)->Heap.SameBut a s.heap h'->jL X.prog X.w H h':=fun {a h'} ha hs b ob e=>by
  obtain⟨_,_,hfree⟩:=ha
  refine (I.hok b ob e).stay (fun c w' hc q=>(hs.2 c ?_).trans q) (fun _ q=>q) fun _ _ q=>q
  rintro rfl
  rcases hc with rfl | hc
  ·rw[hfree]at e;cases e
  ·rw[hfree]at hc;cases hc
 rcases hx with hk | hk
 ·refine wpAny_storeName_local hk hn (fun h' hn' hs=>?_) hcls
  obtain⟨oL,_,_,hoL,_⟩:=id hn
  refine h _ ⟨I.ok,I.os,I.bare,⟨fun b o e n hb hx=>?_,fun b o e n hb hx=>?_,I.base.free,fun b o e hx=>?_,I.base.tups,I.base.uC,I.base.ue⟩,⟨_,hn',fun j y v' e1 e2 e3=>?_⟩,fun y c e=>?_,I.free,I.jU,fun p hp=>?_,tracked ⟨oL,hoL,I.free⟩ hs,by simpa using I.len⟩ ⟨_,hs,.inl rfl⟩
  ·exact (hs.2 b (lu (Dr (gf e) I.ok.above))).trans (I.base.keep b o e n hb hx)
  ·obtain⟨sl,e1⟩:=I.base.slot b o e n hb hx
   exact⟨sl,(hs.2 b (lu (Dr (gf e) I.ok.above))).trans e1⟩
  ·obtain⟨o',e1⟩:=I.base.there b o e hx
   exact⟨o',(hs.2 b (lu (Dr (gf e) I.ok.above))).trans e1⟩
  ·by_cases hj:j=i
   ·subst hj
    rw[hi]at e1;cases e1
    rw[List.getElem?_set_self hiσ]at e2
    cases e2
    exact⟨u,r,.inl ⟨hk,by simp⟩⟩
   ·rw[List.getElem?_set_ne (Ne.symm hj)]at e2
    obtain⟨u',r',q⟩:=hl j y v' e1 e2 e3
    refine⟨u',r',?_⟩
    rcases q with ⟨k,e⟩ | ⟨k,c,e,z⟩
    ·refine .inl ⟨k,?_⟩
     have:y ≠ x:=fun e=>hj (Fl hN e1 (e ▸ hi))
     simp [this,e]
    ·exact .inr ⟨k,c,e,z.sameBut hs (cne y c e)⟩
  ·obtain⟨w',z⟩:=I.cell y c e
   exact⟨w',z.sameBut hs (cne y c e)⟩
  ·obtain⟨e,n,ne,nf,d⟩:=I.pin p hp
   exact⟨(hs.2 p.1 ne).trans e,n,ne,nf,d⟩
 ·have hfn:X.fn x=true:=by
   rcases hf with z | z
   ·exact z
   ·rw[z]at hk;cases hk
  obtain⟨c,hc⟩:=I.ok.has x (.inl hk)
  obtain⟨w',z⟩:=I.cell x c hc
  refine wpAny_storeName_cell I.ok.kind hk hc z (fun h' hc' hs=>?_)
  obtain⟨oc,hoc,qHQ⟩:=id z
  refine h { s with heap:=h' } ⟨I.ok,I.os,I.bare,⟨fun b o e n hb hx=>?_,fun b o e n hb hx=>?_,I.base.free,fun b o e hx=>?_,I.base.tups,I.base.uC,I.base.ue⟩,⟨m,hn.sameBut hs (Ne.symm (cne x c hc)),fun j y v' e1 e2 e3=>?_⟩,fun y c' e=>?_,I.free,I.jU,fun p hp=>?_,tracked ⟨oc,hoc,I.jU x c hc⟩ hs,by simpa using I.len⟩ ⟨c,hs,.inr hc⟩
  ·exact (hs.2 b (lu (Dr (gf e) (I.ok.cab x c hfn hc)))).trans (I.base.keep b o e n hb hx)
  ·obtain⟨sl,e1⟩:=I.base.slot b o e n hb hx
   exact⟨sl,(hs.2 b (lu (Dr (gf e) (I.ok.cab x c hfn hc)))).trans e1⟩
  ·obtain⟨o',e1⟩:=I.base.there b o e hx
   exact⟨o',(hs.2 b (lu (Dr (gf e) (I.ok.cab x c hfn hc)))).trans e1⟩
  ·by_cases hj:j=i
   ·subst hj
    rw[hi]at e1;cases e1
    rw[List.getElem?_set_self hiσ]at e2
    cases e2
    exact⟨u,r,.inr ⟨.inl hk,c,hc,hc'⟩⟩
   ·rw[List.getElem?_set_ne (Ne.symm hj)]at e2
    obtain⟨u',r',q⟩:=hl j y v' e1 e2 e3
    refine⟨u',r',?_⟩
    rcases q with q | ⟨k,c',e,z'⟩
    ·exact .inl q
    ·refine .inr ⟨k,c',e,z'.sameBut hs ?_⟩
     rintro rfl
     exact hj (Fl hN e1 (I.ok.inj _ _ _ e hc ▸ hi))
  ·by_cases hcc:c'=c
   ·subst hcc;exact⟨_,hc'⟩
   ·obtain⟨w2,z2⟩:=I.cell y c' e
    exact⟨w2,z2.sameBut hs hcc⟩
  ·obtain⟨e,n,ne,nf,d⟩:=I.pin p hp
   refine⟨(hs.2 p.1 ?_).trans e,n,ne,nf,d⟩
   intro q
   rw[q,hoc]at e
   have q':oc=p.2:=kJ e
   exact d w' (by rw[<-q'];exact qHQ)
theorem mY{M:Model}{A:Around}{E:Value->Shared->Prop}{i:Nat}{x:Str}{v:V}{u:Value}{Q:Unit->Shared->Prop}(I:Inv X pins σ H s)(hN:X.N.Nodup)(hi:X.N[i]? = some x)(hx:Loc X.env.scope x)(r:RelV v u)
  (h:∀ s',Inv X pins (σ.set i (some v)) H s'->Q () s') (hf:X.fn x=true ∨ X.env.scope.names.lookup x=some .local:=by first | exact .inl rfl | exact .inr rfl | assumption):wpAny M A (storeName X.env x u) Q E s:=
 t6 I hN hi hx r (fun s' I' _=>h s' I') hf
theorem Inv.call'{s':Shared}{ch:List Addr}(I:Inv X pins σ H s)(ho:s'.os=s.os)(u:Un (frs X.stack) ch H H' s.heap s'.heap)(hok:jL X.prog X.w H' s'.heap)(hg:AllBare s'.gens)
  (hch:∀ b∈ch,(b∈X.ex ∨ X.s₀.heap.objs.size<=b)/\b ≠ X.env.locals/\(∀ x c,X.env.cells.lookup x=some c->c ≠ b)/\∀ p∈X.pn++pins,p.1 ≠ b):Inv X pins σ H' s':=by
 obtain⟨h',g',d',t',o'⟩:=s'
 have e:o'=s.os:=ho
 subst e
 exact I.call (g':=g') (t':=t') (d':=d') u hok hg hch
end
abbrev XK:=Value->Option Addr->Hp->Prop
abbrev St:=List (Option V)
abbrev VK:=V->Hp->Prop
abbrev TE:=St->Hp->VK->Prop
abbrev TT:=St->Hp->(Bool->Hp->Prop)->Prop
abbrev TA:=St->Hp->(List V->Hp->Prop)->Prop
structure Ends where
 nx:St->Hp->Prop
 rt:VK
 bk:St->Hp->Prop:=fun _ _=>False
 ct:St->Hp->Prop:=fun _ _=>False
abbrev TS:=Ends->St->Hp->Prop
noncomputable def EP(X:Cx)(pins:List (Addr × Obj))(σ:St)(Q:VK)(u:Value)(s':Shared):Prop:=∃ v H',Inv X pins σ H' s'/\RelV v u/\Q v H'
noncomputable def TP(X:Cx)(pins:List (Addr × Obj))(σ:St)(Q:Bool->Hp->Prop)(b:Bool)(s':Shared):Prop:=∃ H',Inv X pins σ H' s'/\Q b H'
noncomputable def AP(X:Cx)(pins:List (Addr × Obj))(σ:St)(Q:List V->Hp->Prop)(us:List Value)(s':Shared):Prop:=∃ vs H',Inv X pins σ H' s'/\Vals vs us/\Q vs H'
noncomputable def SP(X:Cx)(pins:List (Addr × Obj))(D:Ends)(f:Flow)(s':Shared):Prop:=
 match f with
 | .next => ∃ σ' H',Inv X pins σ' H' s'/\D.nx σ' H'
 | .brk => ∃ σ' H',Inv X pins σ' H' s'/\D.bk σ' H'
 | .cont => ∃ σ' H',Inv X pins σ' H' s'/\D.ct σ' H'
 | .ret u => ∃ v σ' H',Inv X pins σ' H' s'/\RelV v u/\D.rt v H'
noncomputable def PE(X:Cx)(e:Expr)(t:TE):Prop:=
 ∀(pins:List (Addr × Obj))(s:Shared)(σ:St)(H:Hp)(Q:VK),Inv X pins σ H s->t σ H Q->wpAny (model X.prog X.w) X.A (eval e X.env) (EP X pins σ Q) X.xe s
noncomputable def PT(X:Cx)(e:Expr)(t:TT):Prop:=
 ∀(pins:List (Addr × Obj))(s:Shared)(σ:St)(H:Hp)(Q:Bool->Hp->Prop),Inv X pins σ H s->t σ H Q->wpAny (model X.prog X.w) X.A (isTrue e X.env (eval e X.env)) (TP X pins σ Q) X.xe s
noncomputable def PW(X:Cx)(e:Expr)(t:TT):Prop:=
 ∀(whole:Sem Value)(pins:List (Addr × Obj))(s:Shared)(σ:St)(H:Hp)(Q:Bool->Hp->Prop),Inv X pins σ H s->t σ H Q->wpAny (model X.prog X.w) X.A (isTrue e X.env whole) (TP X pins σ Q) X.xe s
theorem PW.pt{X:Cx}{e:Expr}{t:TT}(h:PW X e t):PT X e t:=h _
noncomputable def PA(X:Cx)(es:List Expr)(t:TA):Prop:=
 ∀(pos:Pos)(pins:List (Addr × Obj))(s:Shared)(σ:St)(H:Hp)(Q:List V->Hp->Prop),Inv X pins σ H s->t σ H Q->wpAny (model X.prog X.w) X.A (spliced (backTo pos (starEach es X.env))) (AP X pins σ Q) X.xe s
noncomputable def PS(X:Cx)(st:Stmt)(t:TS):Prop:=
 ∀(pins:List (Addr × Obj))(s:Shared)(σ:St)(H:Hp)(D:Ends),Inv X pins σ H s->t D σ H->wpAny (model X.prog X.w) X.A (exec st X.env) (SP X pins D) X.xe s
noncomputable def Aq(X:Cx)(st:List Stmt)(t:TS):Prop:=
 ∀(pins:List (Addr × Obj))(s:Shared)(σ:St)(H:Hp)(D:Ends),Inv X pins σ H s->t D σ H->wpAny (model X.prog X.w) X.A (execs st X.env) (SP X pins D) X.xe s
theorem bJ{α:Type}{t:Sem α}{Q Q':α->Shared->Prop}{M:Model}{A:Around}{E:Value->Shared->Prop}{s:Shared}(h:wpAny M A t Q E s)(hQ:∀ a s,Q a s->Q' a s):wpAny M A t Q' E s:=wpAny_mono h hQ fun _ _ x=>x
section
variable{X:Cx}
noncomputable def qBH(i:Nat):TE:=fun σ H Q => ∃ v,σ[i]? = some (some v)/\Q v H
noncomputable def tC(v:V):TE:=fun _ H Q=>Q v H
theorem ZF{i:Nat}{x:Str}{pos:Pos}(hN:X.N[i]? = some x)(hv:Vis X.env.scope x)(hd:(x == ("__debug__" : Str))=false:=by decide)(hcd:(x == ("__classdict__" : Str))=false:=by decide):PE X (.Name x pos) (qBH i):=by
 intro pins s σ H Q I h
 obtain⟨v,e,h⟩:=h
 obtain⟨m,hn,hl⟩:=I.loc
 obtain⟨u,r,l⟩:=hl i x v hN e hv
 have fin:EP X pins σ Q u s:=⟨v,H,I,r,h⟩
 rcases l with ⟨hk,hm⟩ | ⟨hk,c,hc,hcell⟩
 ·exact wpAny_Name (wpAny_loadName_local I.ok.kind hk hn hm fin) hd
 ·rcases hk with hk | hk
  ·exact wpAny_Name (wpAny_loadName_cell I.ok.kind hk hc hcell fin) hd
  ·exact wpAny_Name (wpAny_loadName_free I.ok.kind hk hc hcell fin hcd) hd
theorem zB {i j pos}:PE X (.Constant (.int i) j pos) (tC (.int i)):=fun _ _ _ H _ I h=>wpAny_Constant_int ⟨.int i,H,I.tok _,⟨_,rfl⟩,h⟩
theorem eE {b j pos}:PE X (.Constant (.bool b) j pos) (tC (.bl b)):=fun _ _ _ H _ I h=>Constant_bool ⟨.bl b,H,I,rfl,h⟩
theorem jX {j pos}:PE X (.Constant .none j pos) (tC .non):=fun _ _ _ H _ I h=>Constant_none ⟨.non,H,I,rfl,h⟩
theorem zP {x j pos}:PE X (.Constant (.str x) j pos) (tC (.str x)):=fun _ _ _ H _ I h=>Calls.Constant_str ⟨.str x,H,I.tok _,⟨_,rfl⟩,h⟩
noncomputable def Gl(X:Cx)(x:Str):Prop:=X.env.kindOf x=some .globalImplicit
theorem p8{E:Value->Shared->Prop}{pins:List (Addr × Obj)}{s:Shared}{σ:St}{H:Hp}{x:Str}{u:Value}{pos:Pos}{Q:Value->Shared->Prop}(I:Inv X pins σ H s)(hg:Gl X x)(hm:X.mg x=some u)(h:Q u s)
  (hd:(x == ("__debug__" : Str))=false:=by decide):wpAny (model X.prog X.w) X.A (eval (.Name x pos) X.env) Q E s:=
 Calls.Name_function_global I.ok.kind hg (Calls.loadGlobal_global (by rw[I.ok.glob];exact I.mod.glob.keeps I.bk) hm h) hd
theorem nW{E:Value->Shared->Prop}{pins:List (Addr × Obj)}{s:Shared}{σ:St}{H:Hp}{x:Str}{u:Value}{pos:Pos}{Q:Value->Shared->Prop}(I:Inv X pins σ H s)(hg:Gl X x)(hm:X.mg x=none)(hv:bootBuiltins x=some u)(h:Q u s)
  (hn:x ≠ "__name__" := by decide) (hd:(x == ("__debug__" : Str))=false:=by decide):wpAny (model X.prog X.w) X.A (eval (.Name x pos) X.env) Q E s:=by
 obtain⟨mb,h1,h2⟩:=I.mod.blt
 exact Calls.Name_function_global I.ok.kind hg (Calls.loadGlobal_builtin (by rw[I.ok.glob];exact I.mod.glob.keeps I.bk) hm (by rw[I.ok.blt];exact h1.keeps I.bk) ((h2 x hn).trans hv) h) hd
theorem gA{x:Str}{v:V}{u:Value}{pos:Pos}(hg:Gl X x)(hm:X.mg x=none)(hv:bootBuiltins x=some u)(r:RelV v u)(hn:x ≠ "__name__" := by decide)(hd:(x == ("__debug__" : Str))=false:=by decide):PE X (.Name x pos) (tC v):=
 fun _ _ _ H _ I h=>nW I hg hm hv ⟨v,H,I,r,h⟩ hn hd
variable{a b:Expr}{ta tb:TE}{pos:Pos}
noncomputable def PC(X:Cx)(op:CmpOp)(a b:Expr)(t:TE):Prop:=
 ∀(pins:List (Addr × Obj))(s:Shared)(σ:St)(H:Hp)(Q:VK),Inv X pins σ H s->t σ H Q →
  wpAny (model X.prog X.w) X.A (eval a X.env) (fun v s₁=>wpAny (model X.prog X.w) X.A (eval b X.env) (fun u s₂=>wpAny (model X.prog X.w) X.A (compareOp op v u) (EP X pins σ Q) X.xe s₂) X.xe s₁) X.xe s
noncomputable def tB(t:TE):TT:=fun σ H Q=>t σ H fun x H1 => ∃ c,x = .bl c/\Q c H1
theorem Qy{op:CmpOp}{t:TE}(h:PC X op a b t)(h1:behindInMarks op b=false:=by first | exact nobehind _ (by decide) (by decide) | rfl):PT X (.Compare a [op] [b] pos) (tB t):=by
 intro pins s σ H Q I hw
 refine wpAny_isTrue_Compare1 (bJ (h pins s σ H _ I hw) fun v s1 h1=>bJ h1 fun u s2 h2=>bJ h2 fun c s3 ⟨x,H1,I1,r1,q1⟩=>?_) h1
 obtain⟨d,rfl,q⟩:=q1
 cases r1
 exact wpAny_truthy_bool ⟨H1,I1,q⟩
theorem cH{e:Expr}{t:TE}(h:PE X e t)(he:∀ whole,isTrue e X.env whole=(do let v ← whole;standAt e.pos;holding [v] (truthy v)):=by intro _;rfl):PT X e (tB t):=by
 intro pins s σ H Q I hw
 refine isTrue_plain (bJ (h pins s σ H _ I hw) fun v s1 ⟨x,H1,I1,r1,q1⟩=>?_) (he _)
 obtain⟨d,rfl,q⟩:=q1
 cases r1
 exact wpAny_truthy_bool ⟨H1,I1,q⟩
variable{tA tB':TT}{rest:List Expr}
noncomputable def qGD(t u:TT):TT:=fun σ H Q=>t σ H fun c H1=>if c=true then u σ H1 Q else Q false H1
noncomputable def tOr(t u:TT):TT:=fun σ H Q=>t σ H fun c H1=>if c=true then Q true H1 else u σ H1 Q
noncomputable def qG6(t:TT):TT:=fun σ H Q=>t σ H fun c H1=>Q (!c) H1
theorem yP(ha:PT X a tA):PW X (.BoolOp .And [a] pos) tA:=by
 intro wh pins s σ H Q I h
 refine isTrue_and (bJ (ha pins s σ H Q I h) fun c s1 e=>?_)
 cases c with
 | true=>exact isTrue_and_nil e
 | false=>exact e
theorem pw_or1(ha:PT X a tA):PW X (.BoolOp .Or [a] pos) tA:=by
 intro wh pins s σ H Q I h
 refine isTrue_or (bJ (ha pins s σ H Q I h) fun c s1 e=>?_)
 cases c with
 | false=>exact isTrue_or_nil e
 | true=>exact e
theorem pw_and(ha:PT X a tA)(hb:PW X (.BoolOp .And (b :: rest) pos) tB'):PW X (.BoolOp .And (a :: b :: rest) pos) (qGD tA tB'):=by
 intro wh pins s σ H Q I h
 refine isTrue_and (bJ (ha pins s σ H _ I h) fun c s1 ⟨H1,I1,q1⟩=>?_)
 cases c with
 | true=>exact hb wh pins s1 σ H1 Q I1 q1
 | false=>exact⟨H1,I1,q1⟩
theorem pw_or(ha:PT X a tA)(hb:PW X (.BoolOp .Or (b :: rest) pos) tB'):PW X (.BoolOp .Or (a :: b :: rest) pos) (tOr tA tB'):=by
 intro wh pins s σ H Q I h
 refine isTrue_or (bJ (ha pins s σ H _ I h) fun c s1 ⟨H1,I1,q1⟩=>?_)
 cases c with
 | true=>exact⟨H1,I1,q1⟩
 | false=>exact hb wh pins s1 σ H1 Q I1 q1
theorem dM(ha:PT X a tA):PT X (.UnaryOp .Not a pos) (qG6 tA):=by
 intro pins s σ H Q I h
 exact isTrue_not (ha pins s σ H (fun c H1=>Q (!c) H1) I h)
noncomputable def qBZ(ta tb:TE):TE:=fun σ H Q=>ta σ H fun x H1 => ∃ c,x = .bl c/\if c=true then tb σ H1 Q else Q (.bl false) H1
noncomputable def qG5(ta tb:TE):TE:=fun σ H Q=>ta σ H fun x H1 => ∃ c,x = .bl c/\if c=true then Q (.bl true) H1 else tb σ H1 Q
noncomputable def qBL(ta:TE):TE:=fun σ H Q=>ta σ H fun x H1 => ∃ c,x = .bl c/\Q (.bl (!c)) H1
theorem wG {op} {t:TE} (h:PE X a t):PE X (.BoolOp op [a] pos) t:=fun pins s σ H Q I hw=>BoolOp_one (h pins s σ H Q I hw)
theorem Bo(ha:PE X a ta)(hb:PE X (.BoolOp .And (b :: rest) pos) tb):PE X (.BoolOp .And (a :: b :: rest) pos) (qBZ ta tb):=by
 intro pins s σ H Q I h
 refine BoolOp_and (bJ (ha pins s σ H _ I h) fun v s1 ⟨x,H1,I1,r1,q1⟩=>?_)
 obtain⟨c,rfl,q1⟩:=q1
 cases r1
 refine wpAny_truthy_bool ?_
 cases c with
 | true=>exact hb pins s1 σ H1 Q I1 q1
 | false=>exact⟨.bl false,H1,I1,rfl,q1⟩
theorem qCM(ha:PE X a ta)(hb:PE X (.BoolOp .Or (b :: rest) pos) tb):PE X (.BoolOp .Or (a :: b :: rest) pos) (qG5 ta tb):=by
 intro pins s σ H Q I h
 refine BoolOp_or (bJ (ha pins s σ H _ I h) fun v s1 ⟨x,H1,I1,r1,q1⟩=>?_)
 obtain⟨c,rfl,q1⟩:=q1
 cases r1
 refine wpAny_truthy_bool ?_
 cases c with
 | false=>exact hb pins s1 σ H1 Q I1 q1
 | true=>exact⟨.bl true,H1,I1,rfl,q1⟩
theorem R6(ha:PE X a ta):PE X (.UnaryOp .Not a pos) (qBL ta):=by
 intro pins s σ H Q I h
 refine UnaryOp_ (bJ (ha pins s σ H _ I h) fun v s1 ⟨x,H1,I1,r1,q1⟩=>?_)
 obtain⟨c,rfl,q1⟩:=q1
 cases r1
 exact not_of (wpAny_truthy_bool ⟨.bl (!c),H1,I1,rfl,q1⟩)
noncomputable def tIf(t:TT)(ta tb:TE):TE:=fun σ H Q=>t σ H fun c H1=>if c=true then ta σ H1 Q else tb σ H1 Q
theorem FQ{c:Expr}(hc:PT X c tA)(ha:PE X a ta)(hb:PE X b tb):PE X (.IfExp c a b pos) (tIf tA ta tb):=by
 intro pins s σ H Q I h
 refine wpAny_IfExp (bJ (hc pins s σ H _ I h) fun d s1 ⟨H1,I1,q1⟩=>?_)
 cases d with
 | true=>exact ha pins s1 σ H1 Q I1 q1
 | false=>exact hb pins s1 σ H1 Q I1 q1
end
noncomputable def aQ(K:bO)(H:Hp)(a:Addr)(xs:List V):Prop:=
 Rd H a (.lst xs) ∨
  ∃(o:Obj)(its:Array Value)(n:Nat),K.lookup a=some o/\o.cls = .type "list" /\ o.dict=none/\o.data = .seq its n/\its.size<=sizeLine/\Vals xs its.toList
noncomputable def aL(K:bO)(H:Hp)(a:Addr)(xs:List V):Prop:=
 Rd H a (.tup xs) ∨
  ∃(o:Obj)(its:Array Value)(n:Nat),K.lookup a=some o/\o.cls = .type "tuple" /\ o.data = .seq its n/\its.size<=sizeLine/\Vals xs its.toList
noncomputable def qIC:Value->Option V
 | .none=>some .non
 | .bool b=>some (.bl b)
 | .int i _=>some (.int i)
 | .str x _=>some (.str x)
 | .bytes b _=>some (.Q9 b)
 | .float b _=>some (.flt b)
 | .ref a=>some (.ref a)
 | .type n=>some (.ty n)
 | _=>none
theorem RelV.abs{x:V}{u:Value}(r:RelV x u):qIC u=some x:=by
 cases x with
 | non=>cases r;rfl
 | bl _=>cases r;rfl
 | int _=>obtain⟨t,rfl⟩:=r;rfl
 | str _=>obtain⟨t,rfl⟩:=r;rfl
 | Q9 _=>obtain⟨t,rfl⟩:=r;rfl
 | flt _=>obtain⟨t,rfl⟩:=r;rfl
 | ref _=>cases r;rfl
 | ty _=>cases r;rfl
theorem RelV.inj{x y:V}{u:Value}(r:RelV x u)(q:RelV y u):x=y:=kJ (r.abs.symm.trans q.abs)
theorem Vals.inj:∀ {xs ys:List V} {us:List Value},Vals xs us->Vals ys us->xs=ys
 | _,_,_,.nil,.nil=>rfl
 | _,_,_,.cons r t,.cons r' t'=>by rw[r.inj r',Vals.inj t t']
section
variable{X:Cx}{pins:List (Addr × Obj)}{σ:St}{H:Hp}{s:Shared}{a:Addr}{xs ys:List V}
theorem aQ.of{K:bO}(h:H a=some (.lst xs)):aQ K H a xs:=.inl (.inl h)
theorem aL.of{K:bO}(h:H a=some (.tup xs)):aL K H a xs:=.inl (.inl h)
theorem Inv.list(I:Inv X pins σ H s)(h:aQ X.K H a xs):∃ its:List Value,Vals xs its/\PlainL s.heap a its.toArray/\xs.length<=sizeLine:=by
 rcases h with h | ⟨o,its,n,hk,hc,hd,hs,hz,r⟩
 ·obtain⟨z,its,n,r,e⟩:=h.ok I.hok
  exact⟨its,r,⟨_,n,e,rfl,rfl,rfl⟩,z⟩
 ·refine⟨its.toList,r,⟨o,n,I.mV a o hk,hc,hd,by simpa using hs⟩,?_⟩
  have e:=r.length
  simp only[Array.length_toList]at e
  lia
theorem Inv.tuple(I:Inv X pins σ H s)(h:aL X.K H a xs):∃ its:List Value,Vals xs its/\IsTup s.heap a its.toArray/\xs.length<=sizeLine:=by
 rcases h with h | ⟨o,its,n,hk,hc,hs,hz,r⟩
 ·obtain⟨z,its,r,p⟩:=h.ok I.hok
  exact⟨its,r,p,z⟩
 ·refine⟨its.toList,r,⟨o,I.mV a o hk,hc,n,by simpa using hs⟩,?_⟩
  have e:=r.length
  simp only[Array.length_toList]at e
  lia
theorem Inv.SN(I:Inv X pins σ H s)(h:aQ X.K H a xs)(h':aQ X.K H a ys):xs=ys:=by
 obtain⟨its,r,⟨o,n,e,_,_,d⟩,_⟩:=I.list h
 obtain⟨its',r',⟨o',n',e',_,_,d'⟩,_⟩:=I.list h'
 rw[e]at e';cases e'
 rw[d]at d'
 injection d' with d1 _
 have:its=its':=by simpa using congrArg Array.toList d1
 subst this
 exact r.inj r'
theorem Inv.yg(I:Inv X pins σ H s)(h:aL X.K H a xs)(h':aL X.K H a ys):xs=ys:=by
 obtain⟨its,r,⟨o,e,_,n,d⟩,_⟩:=I.tuple h
 obtain⟨its',r',⟨o',e',_,n',d'⟩,_⟩:=I.tuple h'
 rw[e]at e';cases e'
 rw[d]at d'
 injection d' with d1 _
 have:its=its':=by simpa using congrArg Array.toList d1
 subst this
 exact r.inj r'
end
abbrev Cx.wish(X:Cx)(E:Value->Shared->Prop):Cx:={ X with xe:=E }
abbrev Cx.nox(X:Cx):Cx:=X.wish fun _ _=>False
theorem Cx.Ok.wish{X:Cx}(ok:X.Ok)(E:Value->Shared->Prop):(X.wish E).Ok:=
 ⟨ok.mod,ok.kind,ok.glob,ok.blt,ok.above,ok.inj,ok.has,ok.cab,ok.hd,ok.frames,ok.stk,ok.exf,ok.bs,ok.QB,ok.JD,ok.Tw,ok.rT,ok.X5⟩
theorem Cx.Ok.gY{X:Cx}{E:Value->Shared->Prop}(ok:(X.wish E).Ok):X.Ok:=
 ⟨ok.mod,ok.kind,ok.glob,ok.blt,ok.above,ok.inj,ok.has,ok.cab,ok.hd,ok.frames,ok.stk,ok.exf,ok.bs,ok.QB,ok.JD,ok.Tw,ok.rT,ok.X5⟩
section
variable{X:Cx}{pins:List (Addr × Obj)}{σ:St}{H:Hp}{s:Shared}{E:Value->Shared->Prop}
theorem Inv.wish(I:Inv X pins σ H s)(E:Value->Shared->Prop):Inv (X.wish E) pins σ H s:=⟨I.ok.wish E,I.os,I.bare,I.base,I.loc,I.cell,I.free,I.jU,I.pin,I.hok,I.len⟩
theorem Inv.gY(I:Inv (X.wish E) pins σ H s):Inv X pins σ H s:=⟨I.ok.gY,I.os,I.bare,I.base,I.loc,I.cell,I.free,I.jU,I.pin,I.hok,I.len⟩
theorem SP.gY{D:Ends}{f:Flow}{s':Shared}(h:SP (X.wish E) pins D f s'):SP X pins D f s':=by
 cases f with
 | next=>obtain⟨σ',H',I,q⟩:=h;exact⟨σ',H',I.gY,q⟩
 | brk=>obtain⟨σ',H',I,q⟩:=h;exact⟨σ',H',I.gY,q⟩
 | cont=>obtain⟨σ',H',I,q⟩:=h;exact⟨σ',H',I.gY,q⟩
 | ret u=>obtain⟨v,σ',H',I,r,q⟩:=h;exact⟨v,σ',H',I.gY,r,q⟩
theorem Aq.nox{st:List Stmt}{t:TS}(h:Aq X.nox st t):Aq X st t:=fun pins s σ H D I hw=>
 wpAny_mono (h pins s σ H D (I.wish _) hw) (fun _ _ q=>q.gY) fun _ _ z=>False.elim z
end
section
variable{X:Cx}{st:Stmt}{rest:List Stmt}{t u:TS}{e:Expr}{te:TE}{pos:Pos}
noncomputable def qBN:TS:=fun D σ H=>D.nx σ H
noncomputable def qBJ(t u:TS):TS:=fun D σ H=>t { D with nx:=u D } σ H
theorem zT:Aq X [] qBN:=fun _ _ σ H _ I h=>wpAny_execs_nil ⟨σ,H,I,h⟩
theorem zE(h1:PS X st t)(h2:Aq X rest u):Aq X (st :: rest) (qBJ t u):=by
 intro pins s σ H D I h
 refine wpAny_execs_cons (bJ (h1 pins s σ H { D with nx:=u D } I h) fun f s1 q=>?_)
 cases f with
 | next=>
  obtain⟨σ',H',I',q⟩:=q
  exact h2 pins s1 σ' H' D I' q
 | ret v=>exact q
 | brk=>exact q
 | cont=>exact q
theorem zG(h1:PS X st t):Aq X [st] t:=by
 intro pins s σ H D I h
 refine wpAny_execs_cons (bJ (h1 pins s σ H D I h) fun f s1 q=>?_)
 cases f with
 | next=>exact wpAny_execs_nil q
 | ret v=>exact q
 | brk=>exact q
 | cont=>exact q
theorem Inv.quiet{pins:List (Addr × Obj)}{σ:St}{H:Hp}{s:Shared}(I:Inv X pins σ H s):interactive X.env=false:=by simp [interactive,I.ok.kind]
noncomputable def qBS(te:TE):TS:=fun D σ H=>te σ H fun _ H1=>D.nx σ H1
theorem yI(he:PE X e te)(hs:swapsWith e none pos.line X.env=pure false:=by rfl):PS X (.Expr e pos) (qBS te):=by
 intro pins s σ H D I h
 exact wpAny_Expr_any (bJ (he pins s σ H _ I h) fun v s1 ⟨x,H1,I1,r1,q1⟩=>⟨σ,H1,I1,q1⟩) I.quiet hs
noncomputable def qG4(te:TE):TS:=fun D σ H=>te σ H D.rt
theorem zO(he:PE X e te):PS X (.Return (some e) pos) (qG4 te):=by
 intro pins s σ H D I h
 exact wpAny_Return_some (bJ (he pins s σ H _ I h) fun v s1 ⟨x,H1,I1,r1,q1⟩=>⟨x,σ,H1,I1,r1,q1⟩)
noncomputable def qG8(c:TT)(t u:TS):TS:=fun D σ H=>c σ H fun b H1=>if b=true then t D σ H1 else u D σ H1
theorem yD{c:Expr}{a b:List Stmt}{tc:TT}(hc:PT X c tc)(ha:Aq X a t)(hb:Aq X b u):PS X (.If c a b pos) (qG8 tc t u):=by
 intro pins s σ H D I h
 refine wpAny_If (bJ (hc pins s σ H _ I h) fun d s1 ⟨H1,I1,q1⟩=>?_)
 cases d with
 | true=>exact ha pins s1 σ H1 D I1 q1
 | false=>exact hb pins s1 σ H1 D I1 q1
end
abbrev TG:=V->St->Hp->(St->Hp->Prop)->Prop
abbrev TGs:=List V->St->Hp->(St->Hp->Prop)->Prop
noncomputable def PG(X:Cx)(target:Expr)(t:TG):Prop:=
 ∀(pins:List (Addr × Obj))(s:Shared)(σ:St)(H:Hp)(v:V)(u:Value)(Q:St->Hp->Prop),Inv X pins σ H s->RelV v u->t v σ H Q →
  wpAny (model X.prog X.w) X.A (assign target X.env u) (fun _ s' => ∃ σ' H',Inv X pins σ' H' s'/\Q σ' H') X.xe s
noncomputable def PGs(X:Cx)(ts:List Expr)(t:TGs):Prop:=
 ∀(pins:List (Addr × Obj))(s:Shared)(σ:St)(H:Hp)(vs:List V)(us:List Value)(Q:St->Hp->Prop),Inv X pins σ H s->Vals vs us->t vs σ H Q →
  wpAny (model X.prog X.w) X.A (assignInOrder ((assignEach ts X.env).map (·.2)) us) (fun _ s' => ∃ σ' H',Inv X pins σ' H' s'/\Q σ' H') X.xe s
abbrev qB1:=V->V->V->Hp->(Hp->Prop)->Prop
noncomputable def qFT(X:Cx)(t:qB1):Prop:=
 ∀(pins:List (Addr × Obj))(s:Shared)(σ:St)(H:Hp)(o i v:V)(ov iv u:Value)(Q:Hp->Prop),Inv X pins σ H s->RelV o ov->RelV i iv->RelV v u->t o i v H Q →
  wpAny (model X.prog X.w) X.A (setItem ov iv u) (fun _ s' => ∃ H',Inv X pins σ H' s'/\Q H') X.xe s
abbrev TIp:=V->V->Hp->VK->Prop
noncomputable def PIp(X:Cx)(op:Operator)(t:TIp):Prop:=
 ∀(pins:List (Addr × Obj))(s:Shared)(σ:St)(H:Hp)(x y:V)(v u:Value)(Q:VK),Inv X pins σ H s->RelV x v->RelV y u->t x y H Q →
  wpAny (model X.prog X.w) X.A (inplaceOp op v u) (EP X pins σ Q) X.xe s
section
variable{X:Cx}{pos:Pos}
noncomputable def Gi(i:Nat):TG:=fun v σ H Q=>Q (σ.set i (some v)) H
theorem yJ{i:Nat}{x:Str}(hN:X.N.Nodup)(hi:X.N[i]? = some x)(hx:Loc X.env.scope x)(hf:X.fn x=true ∨ X.env.scope.names.lookup x=some .local:=by first | exact .inl rfl | exact .inr rfl | assumption):PG X (.Name x pos) (Gi i):=by
 intro pins s σ H v u Q I r h
 exact wpAny_assign_Name (mY I hN hi hx r (fun s' I'=>⟨_,H,I',h⟩) hf)
noncomputable def qIA:TGs:=fun vs σ H Q=>vs=[]/\Q σ H
noncomputable def qE4(t:TG)(u:TGs):TGs:=fun vs σ H Q => ∃ v r,vs=v :: r/\t v σ H fun σ' H'=>u r σ' H' Q
theorem Bk:PGs X [] qIA:=by
 intro pins s σ H vs us Q I r h
 obtain⟨e,h⟩:=h
 subst e
 cases r
 exact assignInOrder_nil ⟨σ,H,I,h⟩
theorem il{e:Expr}{es:List Expr}{t:TG}{u:TGs}(h1:PG X e t)(h2:PGs X es u)
  (hs:(assignEach (e :: es) X.env).map (·.2)=assign e X.env :: (assignEach es X.env).map (·.2):=by rfl):PGs X (e :: es) (qE4 t u):=by
 intro pins s σ H vs us Q I r h
 obtain⟨v,vr,e1,h⟩:=h
 subst e1
 cases r with
 | cons r rr=>
  rw[hs]
  refine assignInOrder_cons (bJ (h1 pins s σ H _ _ _ I r h) fun _ s1 ⟨σ1,H1,I1,q1⟩=>?_)
  exact h2 pins s1 σ1 H1 _ _ Q I1 rr q1
noncomputable def qI8(K:bO)(n:Nat)(t:TGs):TG:=fun v σ H Q => ∃ a xs,v = .ref a/\aL K H a xs/\xs.length=n/\t xs σ H Q
theorem Il{es:List Expr}{k:Nat}{t:TGs}{n:Nat}(hc:X.calm=true)(h:PGs X es t)
  (hn:(assignEach es X.env).length=n:=by rfl) (hst:(assignEach es X.env).findIdx? (·.1)=none:=by rfl):PG X (.Tuple es k pos) (qI8 X.K n t):=by
 intro pins s σ H v u Q I r hw
 obtain⟨a,xs,e1,hq,hl,hw⟩:=hw
 subst e1
 cases r
 obtain⟨its,rv,ht,hz⟩:=I.tuple hq
 refine assign_Tuple_tuple (I.ok.hd hc) ht (by simp [hn,<-hl,rv.length]) hst fun h' hx=>?_
 have I1:Inv X pins σ H { s with heap:=h' }:=I.kept (t':=s.toks) fun b o e=>hx b o (lu (gf e)) e
 exact h pins _ σ H xs _ Q I1 (by simpa using rv) hw
noncomputable def qI9(to ti:TE)(t:qB1):TG:=fun v σ H Q=>to σ H fun o H1=>ti σ H1 fun i H2=>t o i v H2 fun H3=>Q σ H3
theorem ZD{o i:Expr}{to ti:TE}{t:qB1}(ho:PE X o to)(hi:PE X i ti)(hs:qFT X t)
  (ha:∀ v,assign (.Subscript o i pos) X.env v=(do
   let ov ← holding [v] (eval o X.env)
   let iv ← holding [v,ov] (eval i X.env)
   standAt pos
   holding [v,ov,iv] (setItem ov iv v)
   release [v,ov,iv] []):=by intro _;rfl):PG X (.Subscript o i pos) (qI9 to ti t):=by
 intro pins s σ H v u Q I r h
 rw[ha]
 refine wpAny_bind (wpAny_holding (bJ (ho pins s σ H _ I h) fun ov s1 ⟨x,H1,I1,r1,q1⟩=>?_))
 refine wpAny_bind (wpAny_holding (bJ (hi pins s1 σ H1 _ I1 q1) fun iv s2 ⟨y,H2,I2,r2,q2⟩=>?_))
 refine wpAny_bind (wpAny_standAt (wpAny_bind (wpAny_holding (bJ (hs pins s2 σ H2 x y v ov iv u _ I2 r1 r2 r q2) fun _ s3 ⟨H3,I3,q3⟩=>?_))))
 exact wpAny_release ⟨σ,H3,I3,q3⟩
noncomputable def QM(te:TE)(g:TG):TS:=fun D σ H=>te σ H fun x H1=>g x σ H1 D.nx
theorem R1{tg e:Expr}{te:TE}{g:TG}(he:PE X e te)(hg:PG X tg g)(hs:swapsWithSole [tg] e pos.line X.env=pure false:=by rfl)(hw:swappedStores [tg] e X.env=pure none:=by rfl)
  (h1:(assignEach [tg] X.env).map (·.2)=[assign tg X.env]:=by rfl):PS X (.Assign [tg] e pos) (QM te g):=by
 intro pins s σ H D I h
 refine wpAny_Assign_stores (bJ (he pins s σ H _ I h) fun v s1 ⟨x,H1,I1,r1,q1⟩=>?_) hs hw
 rw[h1]
 exact bJ (hg pins s1 σ H1 x v _ I1 r1 q1) fun _ s2 q=>q
theorem zK{i:Nat}{x:Str}{e:Expr}{te:TE}{pos':Pos}(hN:X.N.Nodup)(hi:X.N[i]? = some x)(hx:Loc X.env.scope x)(he:PE X e te)(hs:swapsWith e (some (.Name x pos')) pos.line X.env=pure false:=by rfl)(hf:X.fn x=true ∨ X.env.scope.names.lookup x=some .local:=by first | exact .inl rfl | exact .inr rfl | assumption) :
  PS X (.Assign [.Name x pos'] e pos) (QM te (Gi i)):=by
 intro pins s σ H D I h
 refine wpAny_Assign_Name (bJ (he pins s σ H _ I h) fun v s1 ⟨y,H1,I1,r1,q1⟩=>?_) hs
 exact mY I1 hN hi hx r1 (fun s2 I2=>⟨_,H1,I2,q1⟩) hf
noncomputable def qGC(i:Nat)(te:TE)(ti:TIp):TS:=fun D σ H => ∃ x,σ[i]? = some (some x)/\te σ H fun y H1=>ti x y H1 fun z H2=>D.nx (σ.set i (some z)) H2
theorem Z9{i:Nat}{x:Str}{e:Expr}{te:TE}{op:Operator}{ti:TIp}{pos':Pos}(hN:X.N.Nodup)(hi:X.N[i]? = some x)(hx:Loc X.env.scope x)(he:PE X e te)(ho:PIp X op ti)(hf:X.fn x=true ∨ X.env.scope.names.lookup x=some .local:=by first | exact .inl rfl | exact .inr rfl | assumption) :
  PS X (.AugAssign (.Name x pos') op e pos) (qGC i te ti):=by
 intro pins s σ H D I h
 obtain⟨v,e1,h⟩:=h
 obtain⟨m,hn,hl⟩:=I.loc
 have vis:Vis X.env.scope x:=by rcases hx with k | k;exact .inl k;exact .inr (.inl k)
 obtain⟨u,r,l⟩:=hl i x v hi e1 vis
 refine wpAny_AugAssign_Name ?_
 have go:wpAny (model X.prog X.w) X.A (eval e X.env) (fun w s₂=>wpAny (model X.prog X.w) X.A (inplaceOp op u w) (fun r s₃=>wpAny (model X.prog X.w) X.A (storeName X.env x r) (fun _=>SP X pins D .next) X.xe s₃) X.xe s₂) X.xe s:=by
  refine bJ (he pins s σ H _ I h) fun w s1 ⟨y,H1,I1,r1,q1⟩=>?_
  refine bJ (ho pins s1 σ H1 v y u w _ I1 r r1 q1) fun z s2 ⟨zv,H2,I2,r2,q2⟩=>?_
  exact mY I2 hN hi hx r2 (fun s3 I3=>⟨_,H2,I3,q2⟩) hf
 rcases l with ⟨hk,hm⟩ | ⟨hk,c,hc,hcell⟩
 ·exact wpAny_loadName_local I.ok.kind hk hn hm go
 ·rcases hk with hk | hk
  ·exact wpAny_loadName_cell I.ok.kind hk hc hcell go
  ·rcases hx with k | k
   ·have:X.env.scope.names.lookup x=some .free:=hk
    rw[k]at this;cases this
   ·have:X.env.scope.names.lookup x=some .free:=hk
    rw[k]at this;cases this
noncomputable def ipI(f:Int->Int->Int):TIp:=fun x y H Q => ∃ i j,x = .int i/\y = .int j/\Q (.int (f i j)) H
theorem qA7:PIp X .Add (ipI fun i j=>i+j):=by
 intro pins s σ H x y v u Q I r1 r2 h
 obtain⟨i,j,e1,e2,q⟩:=h
 subst e1;subst e2
 obtain⟨t,rfl⟩:=r1
 obtain⟨t',rfl⟩:=r2
 exact iadd_int ⟨.int _,H,I.tok _,⟨_,rfl⟩,q⟩
noncomputable def Ys(c:TT)(tb:TS):TS:=fun D σ H => ∃ W:Nat->St->Hp->Prop,(∃ m,W m σ H)/\∀ m σ H,W m σ H →
 c σ H fun b H1=>if b=true then ∃ N:St->Hp->Prop,(∀ σ' H',N σ' H'->∃ m',m' < m/\W m' σ' H')/\tb { D with nx:=N,ct:=N,bk:=D.nx } σ H1 else D.nx σ H1
theorem rG{c:Expr}{body:List Stmt}{tc:TT}{tb:TS}(hp:PassesOwn (model X.prog X.w) X.A X.env X.xe)(hc:PT X c tc)(hb:Aq X body tb):PS X (.While c body [] pos) (Ys tc tb):=by
 intro pins s σ H D I h
 obtain⟨W,⟨m0,w0⟩,turn⟩:=h
 refine wpAny_While (codeAny_whileLoop (fun n s' => ∃ σ' H',Inv X pins σ' H' s'/\W n σ' H') ?_ m0 ⟨σ,H,I,w0⟩)
 rintro n s1 ⟨σ1,H1,I1,w1⟩
 refine wpAny_passesOwn hp (bJ (hc pins s1 σ1 H1 _ I1 (turn n σ1 H1 w1)) fun b s2 ⟨H2,I2,q2⟩=>?_)
 cases b with
 | true=>
  obtain⟨N,hN,q2⟩:=q2
  rw[if_pos rfl]
  refine wpAny_passesOwn hp (bJ (hb pins s2 σ1 H2 _ I2 q2) fun f s3 q3=>?_)
  cases f with
  | next=>
   obtain⟨σ3,H3,I3,n3⟩:=q3
   obtain⟨m',hm,w3⟩:=hN σ3 H3 n3
   exact⟨m',hm,σ3,H3,I3,w3⟩
  | cont=>
   obtain⟨σ3,H3,I3,n3⟩:=q3
   obtain⟨m',hm,w3⟩:=hN σ3 H3 n3
   exact⟨m',hm,σ3,H3,I3,w3⟩
  | brk=>exact q3
  | ret v=>exact q3
 | false=>
  rw[if_neg qX]
  exact wpAny_execs_nil ⟨σ1,H2,I2,q2⟩
end
structure It where
 go:Nat->Hp->Prop
 VN:Nat->Hp->V->Hp->Prop
 stop:Nat->Hp->Prop
noncomputable def gR(X:Cx)(pins:List (Addr × Obj))(H:Hp)(b:Addr):Prop:=
 H b=none/\b ≠ X.env.locals/\b ∉ X.fs/\(b∈X.ex ∨ X.s₀.heap.objs.size<=b)/\(∀ x c,X.env.cells.lookup x=some c->c ≠ b)/\∀ p∈X.pn++pins,p.1 ≠ b
theorem Inv.xH{X:Cx}{pins:List (Addr × Obj)}{σ:St}{H H':Hp}{s:Shared}{b:Addr}(I:Inv X pins σ H s)(hb:s.heap.objs.size<=b)(hn:H' b=none):gR X pins H' b:=by
 refine⟨hn,Nat.ne_of_gt (Dr I.lt hb),I.qGV hb,.inr (Nat.le_trans I.sz hb),fun x c e z=>?_,fun p hp z=>?_⟩
 ·obtain⟨v,q⟩:=I.cell x c e
  exact absurd (Dr q.lt (by rw[z];exact hb)) (Nat.lt_irrefl _)
 ·exact absurd (Dr (gf (I.pin p hp).1) (by rw[z];exact hb)) (Nat.lt_irrefl _)
structure Turn(P:Program)(w:World)(K:bO)(tg:Expr)(J:It)(fp:List Addr)(it:Addr)(tn:Nat->Heap->Prop):Prop where
 mem:it∈fp
 obj:∀ i h,tn i h->∀ b∈fp,∃ o,h.get? b=some o/\∀ v,o.data ≠ .cell v
 keep:∀ i h h',tn i h->(∀ b∈fp,∀ o,h.get? b=some o->h'.get? b=some o)->tn i h'
 item:∀(X:Cx),X.prog=P->X.w=w->X.K=K->X.calm=true->∀(i:Nat)(pins:List (Addr × Obj))(s:Shared)(σ:St)(H:Hp)(E:Value->Shared->Prop),Inv X pins σ H s->(∀ b∈fp,gR X pins H b)->tn i s.heap->J.go i H →
  wpAny (model P w) X.A (pyNext (.ref it)) (fun r s1 => ∃ u,r=some u ∧
   wpAny (model P w) X.A (letOwnedTupleGo tg (.ref it) u) (fun _ s2 => ∃ x H',Inv X pins σ H' s2/\RelV x u/\J.VN i H x H'/\tn (i+1) s2.heap/\∀ b∈fp,H' b=none) E s1) E s
 done:∀(X:Cx),X.prog=P->X.w=w->X.K=K->X.calm=true->∀(i:Nat)(pins:List (Addr × Obj))(s:Shared)(σ:St)(H:Hp)(E:Value->Shared->Prop),Inv X pins σ H s->(∀ b∈fp,gR X pins H b)->tn i s.heap->J.stop i H →
  wpAny (model P w) X.A (pyNext (.ref it)) (fun r s1=>r=none/\Inv X pins σ H s1) E s
 self:∀(A:Around)(i:Nat)(s:Shared)(Q:Value->Shared->Prop)(E:Value->Shared->Prop),tn i s.heap->Q (.ref it) s->wpAny (model P w) A (pyIter (.ref it)) Q E s
abbrev TI:=St->Hp->(It->Hp->Prop)->Prop
noncomputable def PIE(X:Cx)(pins:List (Addr × Obj))(σ:St)(tg:Expr)(R:It->Hp->Prop)(itv:Value)(s2:Shared):Prop:=
 ∃(it:Addr)(fp:List Addr)(tn:Nat->Heap->Prop)(J:It)(H':Hp),itv = .ref it/\Inv X pins σ H' s2/\Turn X.prog X.w X.K tg J fp it tn/\tn 0 s2.heap/\(∀ b∈fp,gR X pins H' b)/\R J H'
noncomputable def PI(X:Cx)(tg iter:Expr)(wi:TI):Prop:=
 ∀(pins:List (Addr × Obj))(s:Shared)(σ:St)(H:Hp)(R:It->Hp->Prop),Inv X pins σ H s->wi σ H R →
  wpAny (model X.prog X.w) X.A (eval iter X.env) (fun v s1=>wpAny (model X.prog X.w) X.A (pyIter v) (PIE X pins σ tg R) X.xe s1) X.xe s
theorem M3{M:Model}{A:Around}{E:Value->Shared->Prop}{s:Shared}{tg:Expr}{it:Addr}{u:Value}{o:Obj}{n:String}{vs:Array Value}{Q:Unit->Shared->Prop}(ho:s.heap.get? it=some o)(hc:o.cls = .type n)(hd:o.data = .fields vs)
  (hn:["enumerate","zip","dict_itemiterator","dict_reverseitemiterator","odict_iterator","itertools.zip_longest","itertools.pairwise"].contains n=false) (hQ:Q () s):wpAny M A (letOwnedTupleGo tg (.ref it) u) Q E s:=by
 unfold letOwnedTupleGo
 cases tg <;> first
  | exact wpAny_pure hQ
  | (cases u <;> first
    | exact wpAny_pure hQ
    | (refine wpAny_bind (wpAny_load ho ?_)
       rw[hc,hd]
       show wpAny M A (if (["enumerate","zip","dict_itemiterator","dict_reverseitemiterator","odict_iterator","itertools.zip_longest","itertools.pairwise"].contains n && vs[0]? == some (rawInt _))=true then _ else _) Q E s
       rw[if_neg (by intro h;rw[hn,Bool.false_and]at h;cases h)]
       exact wpAny_pure hQ))
noncomputable def Itl(K:bO)(a:Addr):It:=
 ⟨fun i H => ∃ xs x,aQ K H a xs/\xs[i]? = some x,fun i H x H'=>H'=H/\∀ xs,aQ K H a xs->xs[i]? = some x,fun i H => ∃ xs,aQ K H a xs/\xs.length<=i⟩
noncomputable def Itt(K:bO)(a:Addr):It:=
 ⟨fun i H => ∃ xs x,aL K H a xs/\xs[i]? = some x,fun i H x H'=>H'=H/\∀ xs,aL K H a xs->xs[i]? = some x,fun i H => ∃ xs,aL K H a xs/\xs.length<=i⟩
noncomputable def Yd(lo:Int)(n:Nat):It:=⟨fun i _=>i < n,fun i H x H'=>H'=H/\x = .int (lo+i),fun i _=>n<=i⟩
theorem Mt{P:Program}{w:World}{K:bO}{tg:Expr}(a it:Addr):Turn P w K tg (Itl K a) [it] it (fun i h=>h.IsListIter it a i) where
 mem:=by simp
 obj:=fun i h st b hb=>by
  have e:b=it:=by simpa using hb
  subst e
  obtain⟨o,e,c,d⟩:=st
  exact⟨o,e,fun v z=>by rw[d]at z;cases z⟩
 keep:=fun i h h' st k=>st.at fun o e=>k it (by simp) o e
 item:=by
  intro X hP hw hK hc i pins s σ H E I hf st hg
  subst hP hw hK
  obtain⟨xs,x,hq,hx⟩:=hg
  obtain⟨its,rv,p,hz⟩:=I.list hq
  obtain⟨u,hu,ru⟩:=rv.get hx
  obtain⟨f0,f1,f2,f3,f4,f5⟩:=hf it (by simp)
  refine wpAny_pyNext_list_item st p.isList (x:=u) (by simpa using hu) fun h' st' sb=>?_
  have I1:Inv X pins σ H { s with heap:=h' }:=I.turned (t':=s.toks) (fun b o hb e=>(sb.2 b hb).trans e) f0 f1 f3 f4 f5
  obtain⟨o,e,c,d⟩:=id st'
  exact⟨u,rfl,M3 (s:={ s with heap:=h' }) e c d (by decide) ⟨x,H,I1,ru,⟨rfl,fun ys hy=>by rw[I.SN hy hq];exact hx⟩,st',fun b hb=>(hf b hb).1⟩⟩
 done:=by
  intro X hP hw hK hc i pins s σ H E I hf st hg
  subst hP hw hK
  obtain⟨xs,hq,hx⟩:=hg
  obtain⟨its,rv,p,hz⟩:=I.list hq
  obtain⟨f0,f1,f2,f3,f4,f5⟩:=hf it (by simp)
  have hl:=rv.length
  exact wpAny_pyNext_list_end (I.ok.hd hc) st p.isList (by simp;lia) fun h' eb=>⟨rfl,I.turned (t':=s.toks) (fun b o hb e=>eb b o hb e) f0 f1 f3 f4 f5⟩
 self:=fun _ _ _ _ _ st h=>wpAny_pyIter_listiter st h
theorem Hm{P:Program}{w:World}{K:bO}{tg:Expr}(a it:Addr):Turn P w K tg (Itt K a) [it] it (fun i h=>h.IsTupleIter it a i) where
 mem:=by simp
 obj:=fun i h st b hb=>by
  have e:b=it:=by simpa using hb
  subst e
  obtain⟨o,e,c,d⟩:=st
  exact⟨o,e,fun v z=>by rw[d]at z;cases z⟩
 keep:=fun i h h' st k=>st.at fun o e=>k it (by simp) o e
 item:=by
  intro X hP hw hK hc i pins s σ H E I hf st hg
  subst hP hw hK
  obtain⟨xs,x,hq,hx⟩:=hg
  obtain⟨its,rv,p,hz⟩:=I.tuple hq
  obtain⟨u,hu,ru⟩:=rv.get hx
  obtain⟨f0,f1,f2,f3,f4,f5⟩:=hf it (by simp)
  refine wpAny_pyNext_tuple_item st (show s.heap.IsTuple a its.toArray from p) (x:=u) (by simpa using hu) fun h' st' sb=>?_
  have I1:Inv X pins σ H { s with heap:=h' }:=I.turned (t':=s.toks) (fun b o hb e=>(sb.2 b hb).trans e) f0 f1 f3 f4 f5
  obtain⟨o,e,c,d⟩:=id st'
  exact⟨u,rfl,M3 (s:={ s with heap:=h' }) e c d (by decide) ⟨x,H,I1,ru,⟨rfl,fun ys hy=>by rw[I.yg hy hq];exact hx⟩,st',fun b hb=>(hf b hb).1⟩⟩
 done:=by
  intro X hP hw hK hc i pins s σ H E I hf st hg
  subst hP hw hK
  obtain⟨xs,hq,hx⟩:=hg
  obtain⟨its,rv,p,hz⟩:=I.tuple hq
  obtain⟨f0,f1,f2,f3,f4,f5⟩:=hf it (by simp)
  have hl:=rv.length
  exact wpAny_pyNext_tuple_end (I.ok.hd hc) st (show s.heap.IsTuple a its.toArray from p) (by simp;lia) fun h' eb=>⟨rfl,I.turned (t':=s.toks) (fun b o hb e=>eb b o hb e) f0 f1 f3 f4 f5⟩
 self:=fun _ _ _ _ _ st h=>wpAny_pyIter_tupleiter st h
theorem Ho{P:Program}{w:World}{K:bO}{tg:Expr}(it:Addr)(lo:Int)(n:Nat):Turn P w K tg (Yd lo n) [it] it (fun i h=>IsRangeIter h it (lo+(i:Nat) * 1) ((n:Int) - (i:Nat)) 1) where
 mem:=by simp
 obj:=fun i h st b hb=>by
  have e:b=it:=by simpa using hb
  subst e
  exact⟨_,st,fun v z=>by
   have z':Data.fields _=Data.cell v:=z
   cases z'⟩
 keep:=fun i h h' st k=>k it (by simp) _ st
 item:=by
  intro X hP hw hK hc i pins s σ H E I hf st hg
  subst hP hw hK
  obtain⟨f0,f1,f2,f3,f4,f5⟩:=hf it (by simp)
  have W:=Walks.range (prog:=X.prog) (w:=X.w) (I.ok.hd hc) it lo 1 n
  refine W.item i s _ _ hg st fun v h' tk hv st' kk=>?_
  obtain⟨t,rfl⟩:=hv
  have I1:Inv X pins σ H { s with heap:=h',toks:=tk }:=I.turned (fun b o hb e=>kk b o (by simpa using hb) e) f0 f1 f3 f4 f5
  refine⟨_,rfl,M3 (s:={ s with heap:=h',toks:=tk }) (n := "range_iterator") st' rfl rfl (by decide) ⟨.int (lo+i),H,I1,⟨t,?_⟩,⟨rfl,rfl⟩,st',fun b hb=>(hf b hb).1⟩⟩
  rw[Int.mul_one]
 done:=by
  intro X hP hw hK hc i pins s σ H E I hf st hg
  subst hP hw hK
  obtain⟨f0,f1,f2,f3,f4,f5⟩:=hf it (by simp)
  exact wpAny_pyNext_range_end (I.ok.hd hc) st (by have:n<=i:=hg;lia) fun h' eb=>⟨rfl,I.turned (t':=s.toks) (fun b o hb e=>eb b o hb e) f0 f1 f3 f4 f5⟩
 self:=fun _ _ _ _ _ st h=>wpAny_pyIter_rangeiter st h
section
variable{X:Cx}{tg:Expr}
noncomputable def qDM(K:bO)(tl:TE):TI:=fun σ H R=>tl σ H fun x H1 => ∃ a,x = .ref a/\(∃ xs,aQ K H1 a xs)/\R (Itl K a) H1
noncomputable def qH5(K:bO)(tl:TE):TI:=fun σ H R=>tl σ H fun x H1 => ∃ a,x = .ref a/\(∃ xs,aL K H1 a xs)/\R (Itt K a) H1
theorem yM{l:Expr}{tl:TE}(hl:PE X l tl):PI X tg l (qDM X.K tl):=by
 intro pins s σ H R I h
 refine bJ (hl pins s σ H _ I h) fun v s1 ⟨x,H1,I1,r1,q1⟩=>?_
 obtain⟨a,e,⟨xs,hq⟩,q⟩:=q1
 subst e
 cases r1
 obtain⟨its,rv,p,hz⟩:=I1.list hq
 refine wpAny_pyIter_list p.isList ?_
 refine⟨s1.heap.objs.size,[s1.heap.objs.size],_,_,H1,rfl,I1.kept (t':=s1.toks) fun b o e=>jJ _ e,Mt a _,⟨_,xf _ rfl,rfl,rfl⟩,fun b hb=>?_,q⟩
 have e:b=s1.heap.objs.size:=by simpa using hb
 subst e
 exact I1.xH (bT _) (I1.hok.fresh (bT _))
theorem nF{l:Expr}{tl:TE}(hl:PE X l tl):PI X tg l (qH5 X.K tl):=by
 intro pins s σ H R I h
 refine bJ (hl pins s σ H _ I h) fun v s1 ⟨x,H1,I1,r1,q1⟩=>?_
 obtain⟨a,e,⟨xs,hq⟩,q⟩:=q1
 subst e
 cases r1
 obtain⟨its,rv,p,hz⟩:=I1.tuple hq
 refine wpAny_pyIter_tuple (show s1.heap.IsTuple a its.toArray from p) ?_
 refine⟨s1.heap.objs.size,[s1.heap.objs.size],_,_,H1,rfl,I1.kept (t':=s1.toks) fun b o e=>jJ _ e,Hm a _,⟨_,xf _ rfl,rfl,rfl⟩,fun b hb=>?_,q⟩
 have e:b=s1.heap.objs.size:=by simpa using hb
 subst e
 exact I1.xH (bT _) (I1.hok.fresh (bT _))
theorem Et{pins:List (Addr × Obj)}{σ:St}{H:Hp}{s:Shared}{R:It->Hp->Prop}{E:Value->Shared->Prop}{lo hi:Int}{t u v:Tok}{tk:Nat}(I:Inv X pins σ H s)(h1 : -(2 ^ 62)<=lo)(h2:lo < 2 ^ 62)(h3 : -(2 ^ 62)<=hi)(h4:hi < 2 ^ 62)
  (q:R (Yd lo (hi - lo).toNat) H):wpAny (model X.prog X.w) X.A (pyIter (.ref s.heap.objs.size)) (PIE X pins σ tg R) E { s with heap:=s.heap.push { cls:=.type "range",data:=.fields #[.int lo t,.int hi u,.int 1 v] },toks:=tk }:=by
 refine wpAny_pyIter_range (IsRange.new ..) (small_one h1 h2 h3 h4) ?_
 have I1:Inv X pins σ H { s with heap:=s.heap.push { cls:=.type "range",data:=.fields #[.int lo t,.int hi u,.int 1 v] },toks:=tk }:=I.kept fun b o e=>jJ _ e
 refine⟨(s.heap.push { cls:=.type "range",data:=.fields #[.int lo t,.int hi u,.int 1 v] }).objs.size,[(s.heap.push { cls:=.type "range",data:=.fields #[.int lo t,.int hi u,.int 1 v] }).objs.size],_,_,H,rfl,
  I1.kept (t':=tk) fun b o e=>jJ _ e,Ho _ lo (hi - lo).toNat,?_,fun b hb=>?_,q⟩
 ·have e1:lo+((0:Nat):Int) * 1=lo:=by simp
  have e2:(((hi - lo).toNat:Nat):Int) - ((0:Nat):Int)=Builtin.Range.rangeSize lo hi 1:=by rw[rangeSize_one];split <;> lia
  show IsRangeIter _ _ (lo+((0:Nat):Int) * 1) ((((hi - lo).toNat:Nat):Int) - ((0:Nat):Int)) 1
  rw[e1,e2]
  exact xf _ rfl
 ·have e:b=(s.heap.push { cls:=.type "range",data:=.fields #[.int lo t,.int hi u,.int 1 v] }).objs.size:=by simpa using hb
  subst e
  exact I1.xH (bT _) (I1.hok.fresh (bT _))
noncomputable def qDF(ta:TA):TI:=fun σ H R=>ta σ H fun vs H1 => ∃ j:Int,vs=[.int j] /\ -(2 ^ 62)<=j/\j < 2 ^ 62/\R (Yd 0 j.toNat) H1
noncomputable def qDE(ta:TA):TI:=fun σ H R=>ta σ H fun vs H1 => ∃ i j:Int,vs=[.int i,.int j]/\(-(2 ^ 62)<=i/\i < 2 ^ 62 /\ -(2 ^ 62)<=j/\j < 2 ^ 62)/\R (Yd i (j - i).toNat) H1
theorem cB{a:Expr}{ta:TA}{p pos:Pos}(hg:Gl X "range")(hm:X.mg "range" = none)(ha:PA X [a] ta)(hs:starEach [a] X.env=[(false,eval a X.env)]:=by rfl):PI X tg (.Call (.Name "range" p) [a] [] pos) (qDF ta):=by
 intro pins s σ H R I h
 refine Call_ (nW I hg hm boot_range (PyProof.Rows.callWith_type1 (bJ (ha pos pins s σ H _ I h) fun us s1 ⟨vs,H1,I1,r1,q1⟩=>?_) hs rfl))
 obtain⟨j,e,q1,q2,q⟩:=q1
 subst e
 cases r1 with
 | cons r rr=>
  cases rr
  obtain⟨t,rfl⟩:=r
  exact call_range_1 (Et I1 (by lia) (by lia) q1 q2 (by simpa using q))
theorem tM{a b:Expr}{ta:TA}{p pos:Pos}(hg:Gl X "range")(hm:X.mg "range" = none)(ha:PA X [a,b] ta)(hs:starEach [a,b] X.env=[(false,eval a X.env),(false,eval b X.env)]:=by rfl)(hs2:starEach [b] X.env=[(false,eval b X.env)]:=by rfl) :
  PI X tg (.Call (.Name "range" p) [a,b] [] pos) (qDE ta):=by
 intro pins s σ H R I h
 refine Call_ (nW I hg hm boot_range (PyProof.Rows.callWith_type1 (bJ (ha pos pins s σ H _ I h) fun us s1 ⟨vs,H1,I1,r1,q1⟩=>?_) (by rw[hs,hs2]) (by rw[hs2];rfl)))
 obtain⟨i,j,e,⟨q1,q2,q3,q4⟩,q⟩:=q1
 subst e
 cases r1 with
 | cons r rr=>
  cases rr with
  | cons r' rr=>
   cases rr
   obtain⟨t,rfl⟩:=r
   obtain⟨t',rfl⟩:=r'
   exact call_range_2 (Et I1 q1 q2 q3 q4 q)
noncomputable def qG9(wi:TI)(g:TG)(tb:TS):TS:=fun D σ H=>wi σ H fun J H1 => ∃ W:Nat->Nat->St->Hp->Prop,(∃ m,W 0 m σ H1)/\∀ i m σ H,W i m σ H →
 (J.stop i H/\D.nx σ H) ∨ (J.go i H/\∃ N:St->Hp->Prop,(∀ σ' H',N σ' H'->∃ m',m' < m/\W (i+1) m' σ' H')/\∀ x H',J.VN i H x H'->g x σ H' fun σ2 H2=>tb { D with nx:=N,ct:=N,bk:=D.nx } σ2 H2)
noncomputable def tL(fp:List Addr)(h:Heap):List (Addr × Obj):=fp.filterMap fun b=>(h.get? b).map fun o=>(b,o)
theorem lJ{fp:List Addr}{h:Heap}{b:Addr}{o:Obj}(hb:b∈fp)(e:h.get? b=some o):(b,o)∈tL fp h:=List.mem_filterMap.mpr ⟨b,hb,by rw[e];rfl⟩
theorem Np{fp:List Addr}{h:Heap}{p:Addr × Obj}(hp:p∈tL fp h):p.1∈fp/\h.get? p.1=some p.2:=by
 obtain⟨b,hb,e⟩:=List.mem_filterMap.mp hp
 cases q:h.get? b with
 | none=>rw[q]at e;cases e
 | some o=>
  rw[q]at e
  have e':(b,o)=p:=kJ e
  subst e'
  exact⟨hb,q⟩
theorem Inv.pinned{pins:List (Addr × Obj)}{σ:St}{H:Hp}{s:Shared}{fp:List Addr}(I:Inv X pins σ H s)(hf:∀ b∈fp,gR X pins H b)(ho:∀ b∈fp,∃ o,s.heap.get? b=some o/\∀ v,o.data ≠ .cell v):Inv X (pins++tL fp s.heap) σ H s:=
 I.rH fun p hp=>(gW.mp hp).elim (fun z=>I.pin p (List.mem_append_right _ z)) fun z=>by
  obtain⟨hb,e⟩:=Np z
  obtain⟨f0,f1,f2,_⟩:=hf p.1 hb
  obtain⟨o,e',d⟩:=ho p.1 hb
  rw[e]at e';cases e'
  exact⟨e,f0,f1,f2,d⟩
theorem Inv.vJ{pins pl:List (Addr × Obj)}{σ:St}{H:Hp}{s:Shared}(I:Inv X (pins++pl) σ H s):Inv X pins σ H s:=I.rH fun p hp=>I.pin p (List.mem_append_right _ (List.mem_append_left _ hp))
theorem cj{iter:Expr}{body:List Stmt}{wi:TI}{g:TG}{tb:TS}{pos:Pos}(hp:PassesOwn (model X.prog X.w) X.A X.env X.xe)(hc:X.calm=true)(hi:PI X tg iter wi)(hg:PG X tg g)(hb:Aq X body tb)
  (hs:∀ x,foldedSetIterable iter X.env x=pure x:=by intro _;rfl):PS X (.For tg iter body [] pos) (qG9 wi g tb):=by
 intro pins s σ H D I h
 refine wpAny_For (bJ (hi pins s σ H _ I h) fun v s1 h1=>bJ h1 fun itv s2 h2=>?_) hs
 obtain⟨it,fp,tn,J,H2,e,I2,T,st2,f2,W,⟨m0,w0⟩,turn⟩:=h2
 subst e
 -- what stays true of the iterator's objects through the loop
 have stat:∀ {H':Hp},(∀ b∈fp,H' b=none)->∀ b∈fp,gR X pins H' b:=fun hn b hb=>⟨hn b hb,(f2 b hb).2⟩
 refine codeAny_forLoop_any (fun n s' => ∃ i σ' H',Inv X pins σ' H' s'/\tn i s'.heap/\(∀ b∈fp,H' b=none)/\W i n σ' H') ?_ m0 ⟨0,σ,H2,I2,st2,fun b hb=>(f2 b hb).1,w0⟩
 rintro n s3 ⟨i,σ3,H3,I3,st3,fr3,w3⟩
 rcases turn i n σ3 H3 w3 with ⟨stop,qn⟩ | ⟨go,N,hN,step⟩
 ·refine wpAny_passesOwn hp (bJ (T.done X rfl rfl rfl hc i pins s3 σ3 H3 X.xe I3 (stat fr3) st3 stop) fun r s4 ⟨hr,I4⟩=>?_)
  subst hr
  exact wpAny_execs_nil ⟨σ3,H3,I4,qn⟩
 ·refine wpAny_passesOwn hp (bJ (T.item X rfl rfl rfl hc i pins s3 σ3 H3 X.xe I3 (stat fr3) st3 go) fun r s4 ⟨u,hr,h4⟩=>?_)
  subst hr
  refine wpAny_passesOwn hp (bJ h4 fun _ s5 ⟨x,H5,I5,r5,y5,xj,fr5⟩=>?_)
  have I5':=I5.pinned (stat fr5) (T.obj _ _ xj)
  refine wpAny_passesOwn hp (bJ (hg _ s5 σ3 H5 x u _ I5' r5 (step x H5 y5)) fun _ s6 ⟨σ6,H6,I6,q6⟩=>?_)
  refine wpAny_passesOwn hp (bJ (hb _ s6 σ6 H6 _ I6 q6) fun f s7 q7=>?_)
  have again:∀ {σ7:St} {H7:Hp},Inv X (pins++tL fp s5.heap) σ7 H7 s7->N σ7 H7->∃ m,m < n/\∃ i σ' H',Inv X pins σ' H' s7/\tn i s7.heap/\(∀ b∈fp,H' b=none)/\W i m σ' H':=fun {σ7 H7} I7 n7=>by
   obtain⟨m',hm,w7⟩:=hN σ7 H7 n7
   refine⟨m',hm,i+1,σ7,H7,I7.vJ,T.keep _ _ _ xj fun b hb o e=>(I7.pin (b,o) (List.mem_append_right _ (List.mem_append_right _ (lJ hb e)))).1,fun b hb=>?_,w7⟩
   obtain⟨o,e,d⟩:=T.obj _ _ xj b hb
   exact (I7.pin (b,o) (List.mem_append_right _ (List.mem_append_right _ (lJ hb e)))).2.1
  cases f with
  | next=>obtain⟨σ7,H7,I7,n7⟩:=q7;exact again I7 n7
  | cont=>obtain⟨σ7,H7,I7,n7⟩:=q7;exact again I7 n7
  | brk=>obtain⟨σ7,H7,I7,q7⟩:=q7;exact⟨σ7,H7,I7.vJ,q7⟩
  | ret v=>obtain⟨x7,σ7,H7,I7,r7,q7⟩:=q7;exact⟨x7,σ7,H7,I7.vJ,r7,q7⟩
end
theorem rW{K:bO}{a:Addr}{xs:List V}{g:TG}{tb:TS}{D:Ends}{σ:St}{H:Hp}(Pv:Nat->St->Hp->Prop)(h0:Pv 0 σ H)(hl:∀ i σ H,i<=xs.length->Pv i σ H->aQ K H a xs)
  (hs:∀ i x σ H,xs[i]? = some x->Pv i σ H->g x σ H fun σ2 H2=>tb { D with nx:=Pv (i+1),ct:=Pv (i+1),bk:=D.nx } σ2 H2) (hd:∀ σ H,Pv xs.length σ H->D.nx σ H) :
  ∃ W:Nat->Nat->St->Hp->Prop,(∃ m,W 0 m σ H)/\∀ i m σ H,W i m σ H →
   ((Itl K a).stop i H/\D.nx σ H) ∨ ((Itl K a).go i H/\∃ N:St->Hp->Prop,(∀ σ' H',N σ' H'->∃ m',m' < m/\W (i+1) m' σ' H')/\∀ x H',(Itl K a).VN i H x H'->g x σ H' fun σ2 H2=>tb { D with nx:=N,ct:=N,bk:=D.nx } σ2 H2):=by
 refine⟨fun i m σ H=>m=xs.length - i/\i<=xs.length/\Pv i σ H,⟨xs.length,by simp,Nat.zero_le _,h0⟩,?_⟩
 rintro i m σ H ⟨rfl,hi,p⟩
 have q:=hl i σ H hi p
 by_cases hlt:i < xs.length
 ·refine .inr ⟨⟨xs,xs[i],q,by simp [hlt]⟩,Pv (i+1),fun σ' H' p'=>⟨xs.length - (i+1),by lia,rfl,hlt,p'⟩,fun x H' y=>?_⟩
  obtain⟨e,y⟩:=y
  subst e
  exact hs i x σ _ (y xs q) p
 ·have e:i=xs.length:=by lia
  subst e
  exact .inl ⟨⟨xs,q,bT _⟩,hd σ H p⟩
theorem M4{K:bO}{a:Addr}{xs:List V}{g:TG}{tb:TS}{D:Ends}{σ:St}{H:Hp}(Pv:Nat->St->Hp->Prop)(h0:Pv 0 σ H)(hl:∀ i σ H,i<=xs.length->Pv i σ H->aL K H a xs)
  (hs:∀ i x σ H,xs[i]? = some x->Pv i σ H->g x σ H fun σ2 H2=>tb { D with nx:=Pv (i+1),ct:=Pv (i+1),bk:=D.nx } σ2 H2) (hd:∀ σ H,Pv xs.length σ H->D.nx σ H) :
  ∃ W:Nat->Nat->St->Hp->Prop,(∃ m,W 0 m σ H)/\∀ i m σ H,W i m σ H →
   ((Itt K a).stop i H/\D.nx σ H) ∨ ((Itt K a).go i H/\∃ N:St->Hp->Prop,(∀ σ' H',N σ' H'->∃ m',m' < m/\W (i+1) m' σ' H')/\∀ x H',(Itt K a).VN i H x H'->g x σ H' fun σ2 H2=>tb { D with nx:=N,ct:=N,bk:=D.nx } σ2 H2):=by
 refine⟨fun i m σ H=>m=xs.length - i/\i<=xs.length/\Pv i σ H,⟨xs.length,by simp,Nat.zero_le _,h0⟩,?_⟩
 rintro i m σ H ⟨rfl,hi,p⟩
 have q:=hl i σ H hi p
 by_cases hlt:i < xs.length
 ·refine .inr ⟨⟨xs,xs[i],q,by simp [hlt]⟩,Pv (i+1),fun σ' H' p'=>⟨xs.length - (i+1),by lia,rfl,hlt,p'⟩,fun x H' y=>?_⟩
  obtain⟨e,y⟩:=y
  subst e
  exact hs i x σ _ (y xs q) p
 ·have e:i=xs.length:=by lia
  subst e
  exact .inl ⟨⟨xs,q,bT _⟩,hd σ H p⟩
theorem cX{lo:Int}{n:Nat}{g:TG}{tb:TS}{D:Ends}{σ:St}{H:Hp}(Pv:Nat->St->Hp->Prop)(h0:Pv 0 σ H)
  (hs:∀ i σ H,i < n->Pv i σ H->g (.int (lo+i)) σ H fun σ2 H2=>tb { D with nx:=Pv (i+1),ct:=Pv (i+1),bk:=D.nx } σ2 H2) (hd:∀ σ H,Pv n σ H->D.nx σ H) :
  ∃ W:Nat->Nat->St->Hp->Prop,(∃ m,W 0 m σ H)/\∀ i m σ H,W i m σ H →
   ((Yd lo n).stop i H/\D.nx σ H) ∨ ((Yd lo n).go i H/\∃ N:St->Hp->Prop,(∀ σ' H',N σ' H'->∃ m',m' < m/\W (i+1) m' σ' H')/\∀ x H',(Yd lo n).VN i H x H'->g x σ H' fun σ2 H2=>tb { D with nx:=N,ct:=N,bk:=D.nx } σ2 H2):=by
 refine⟨fun i m σ H=>m=n - i/\i<=n/\Pv i σ H,⟨n,by simp,Nat.zero_le _,h0⟩,?_⟩
 rintro i m σ H ⟨rfl,hi,p⟩
 by_cases hlt:i < n
 ·refine .inr ⟨hlt,Pv (i+1),fun σ' H' p'=>⟨n - (i+1),by lia,rfl,hlt,p'⟩,fun x H' y=>?_⟩
  obtain⟨e,y⟩:=y
  subst e y
  exact hs i σ _ hlt p
 ·have e:i=n:=by lia
  subst e
  exact .inl ⟨bT _,hd σ H p⟩
abbrev R2:=V->V->Hp->VK->Prop
noncomputable def jK(X:Cx)(f:Value->Value->Sem Value)(r:R2):Prop:=
 ∀(pins:List (Addr × Obj))(s:Shared)(σ:St)(H:Hp)(x y:V)(v u:Value)(Q:VK),Inv X pins σ H s->RelV x v->RelV y u->r x y H Q →
  wpAny (model X.prog X.w) X.A (f v u) (EP X pins σ Q) X.xe s
noncomputable def UnR(X:Cx)(f:Value->Sem Value)(r:V->Hp->VK->Prop):Prop:=
 ∀(pins:List (Addr × Obj))(s:Shared)(σ:St)(H:Hp)(x:V)(v:Value)(Q:VK),Inv X pins σ H s->RelV x v->r x H Q →
  wpAny (model X.prog X.w) X.A (f v) (EP X pins σ Q) X.xe s
noncomputable def jz(X:Cx)(f:Value)(r:List V->Hp->VK->Prop):Prop:=
 ∀(pins:List (Addr × Obj))(s:Shared)(σ:St)(H:Hp)(xs:List V)(us:List Value)(Q:VK),Inv X pins σ H s->Vals xs us->r xs H Q →
  wpAny (model X.prog X.w) X.A (call f us) (EP X pins σ Q) X.xe s
noncomputable def tOp(r:R2)(ta tb:TE):TE:=fun σ H Q=>ta σ H fun x H1=>tb σ H1 fun y H2=>r x y H2 Q
noncomputable def tUn(r:V->Hp->VK->Prop)(ta:TE):TE:=fun σ H Q=>ta σ H fun x H1=>r x H1 Q
noncomputable def rI(C:Int->Int->Prop)(g:Int->Int->V):R2:=fun x y H Q => ∃ i j,x = .int i/\y = .int j/\C i j/\Q (g i j) H
noncomputable def N8(g:Int->Int->V):R2:=fun x y H Q => ∃ i j,x = .int i/\y = .int j/\Q (g i j) H
noncomputable def rU(g:Int->V):V->Hp->VK->Prop:=fun x H Q => ∃ i,x = .int i/\Q (g i) H
section
variable{X:Cx}{a b c:Expr}{ta tb tc:TE}{pos:Pos}
theorem qAW(ha:PE X a ta)(hb:PE X b tb){pins:List (Addr × Obj)}{s:Shared}{σ:St}{H:Hp}{R:V->V->Hp->Prop}(I:Inv X pins σ H s)
  (h:ta σ H fun x H1=>tb σ H1 fun y H2=>R x y H2) {Q:Value->Shared->Prop} {f:Value->Value->Sem Value}
  (hf:∀ v u s2 x y H2,Inv X pins σ H2 s2->RelV x v->RelV y u->R x y H2->wpAny (model X.prog X.w) X.A (f v u) Q X.xe s2) :
  wpAny (model X.prog X.w) X.A (eval a X.env) (fun v s₁=>wpAny (model X.prog X.w) X.A (eval b X.env) (fun u s₂=>wpAny (model X.prog X.w) X.A (f v u) Q X.xe s₂) X.xe s₁) X.xe s:=by
 refine bJ (ha pins s σ H _ I h) fun v s1 ⟨x,H1,I1,r1,q1⟩=>?_
 refine bJ (hb pins s1 σ H1 _ I1 q1) fun u s2 ⟨y,H2,I2,r2,q2⟩=>?_
 exact hf v u s2 x y H2 I2 r1 r2 q2
theorem yC{op:Operator}{r:R2}(ho:jK X (binaryOp op) r)(ha:PE X a ta)(hb:PE X b tb):PE X (.BinOp a op b pos) (tOp r ta tb):=by
 intro pins s σ H Q I h
 exact wpAny_BinOp (qAW ha hb I h fun v u s2 x y H2 I2 rx ry q=>ho pins s2 σ H2 x y v u Q I2 rx ry q)
theorem R5{op:UnaryOp}{r:V->Hp->VK->Prop}(ho:UnR X (unaryOp op) r)(ha:PE X a ta):PE X (.UnaryOp op a pos) (tUn r ta):=by
 intro pins s σ H Q I h
 exact UnaryOp_ (bJ (ha pins s σ H _ I h) fun v s1 ⟨x,H1,I1,r1,q1⟩=>ho pins s1 σ H1 x v Q I1 r1 q1)
theorem opI{f:Value->Value->Sem Value}{C:Int->Int->Prop}{g:Int->Int->Int}
  (rule:∀(i j:Int)(t u:Tok)(s:Shared)(Q:Value->Shared->Prop)(E:Value->Shared->Prop),C i j->Q (.int (g i j) s.toks) { s with toks:=s.toks+1 }->wpAny (model X.prog X.w) X.A (f (.int i t) (.int j u)) Q E s) :
  jK X f (rI C fun i j=>.int (g i j)):=by
 intro pins s σ H x y v u Q I rx ry h
 obtain⟨i,j,rfl,rfl,hc,q⟩:=h
 obtain⟨t,rfl⟩:=rx
 obtain⟨t',rfl⟩:=ry
 exact rule i j t t' s _ _ hc ⟨.int (g i j),H,I.tok _,⟨_,rfl⟩,q⟩
theorem ZM{f:Value->Value->Sem Value}{g:Int->Int->Int}
  (rule:∀(i j:Int)(t u:Tok)(s:Shared)(Q:Value->Shared->Prop)(E:Value->Shared->Prop),Q (.int (g i j) s.toks) { s with toks:=s.toks+1 }->wpAny (model X.prog X.w) X.A (f (.int i t) (.int j u)) Q E s) :
  jK X f (N8 fun i j=>.int (g i j)):=by
 intro pins s σ H x y v u Q I rx ry h
 obtain⟨i,j,rfl,rfl,q⟩:=h
 obtain⟨t,rfl⟩:=rx
 obtain⟨t',rfl⟩:=ry
 exact rule i j t t' s _ _ ⟨.int (g i j),H,I.tok _,⟨_,rfl⟩,q⟩
theorem WL{f:Value->Value->Sem Value}{g:Int->Int->Bool}
  (rule:∀(i j:Int)(t u:Tok)(s:Shared)(Q:Value->Shared->Prop)(E:Value->Shared->Prop),Q (.bool (g i j)) s->wpAny (model X.prog X.w) X.A (f (.int i t) (.int j u)) Q E s) :
  jK X f (N8 fun i j=>.bl (g i j)):=by
 intro pins s σ H x y v u Q I rx ry h
 obtain⟨i,j,rfl,rfl,q⟩:=h
 obtain⟨t,rfl⟩:=rx
 obtain⟨t',rfl⟩:=ry
 exact rule i j t t' s _ _ ⟨.bl (g i j),H,I,rfl,q⟩
noncomputable def qIH(i j:Int):Prop:=0 < j/\j < 1073741824
noncomputable def qIG(i j:Int):Prop:=0<=j/\j<=1000000/\i.natAbs < 2 ^ 64
noncomputable def Xr(i j:Int):Prop:=(-(2 ^ 64) < i/\i < 2 ^ 64) ∨ (-(2 ^ 64) < j/\j < 2 ^ 64)
theorem Xr.ok{i j:Int}(h:Xr i j):IntMulOk i j:=by
 rcases h with ⟨h1,h2⟩ | ⟨h1,h2⟩
 ·exact .of_left (intBits_le_64 h1 h2)
 ·exact .of_right (intBits_le_64 h1 h2)
theorem Hl(k:Nat):(0:Int)<=2 ^ k:=by
 rw[two_pow_cast]
 exact Int.natCast_nonneg _
theorem yF:jK X (binaryOp .Add) (N8 fun i j=>.int (i+j)):=ZM fun _ _ _ _ _ _ _ q=>add_int q
theorem jZ:jK X (binaryOp .Sub) (N8 fun i j=>.int (i - j)):=ZM fun _ _ _ _ _ _ _ q=>sub_int q
theorem fG:jK X (binaryOp .Mult) (rI Xr fun i j=>.int (i * j)):=opI fun _ _ _ _ _ _ _ hc q=>mul_int q hc.ok
theorem yL:jK X (binaryOp .FloorDiv) (rI qIH fun i j=>.int (i / j)):=opI fun i j _ _ _ _ _ hc q=>by
 have h1:(0:Int) < j:=hc.1
 have h2:j < 1073741824:=hc.2
 exact floordiv_int (by lia) (by rw[Int.fdiv_eq_ediv_of_nonneg i (by lia)];exact q) (.inl (PyProof.noPylong_small (by lia)))
theorem zY:jK X (binaryOp .Mod) (rI (fun _ j=>0 < j) fun i j=>.int (i % j)):=opI fun i j _ _ _ _ _ hc q=>by
 have h1:(0:Int) < j:=hc
 exact mod_int' (by lia) (by rw[Int.fmod_eq_emod_of_nonneg i (by lia)];exact q)
theorem RG:jK X (binaryOp .Pow) (rI qIG fun i j=>.int (i ^ j.toNat)):=opI fun _ _ _ _ _ _ _ hc q=>pow_int_small hc.1 hc.2.1 hc.2.2 q
theorem ZL:jK X (binaryOp .RShift) (rI (fun _ j=>0<=j) fun i j=>.int (i / 2 ^ j.toNat)):=opI fun i j _ _ _ _ _ hc q=>
 rshift_int hc (by rw[Int.fdiv_eq_ediv_of_nonneg i (Hl _)];exact q)
theorem RL:jK X (binaryOp .BitAnd) (N8 fun i j=>.int (Builtin.bitAnd i j)):=ZM fun _ _ _ _ _ _ _ q=>and_int q
theorem unI{f:Value->Sem Value}{g:Int->Int}
  (rule:∀(i:Int)(t:Tok)(s:Shared)(Q:Value->Shared->Prop)(E:Value->Shared->Prop),Q (.int (g i) s.toks) { s with toks:=s.toks+1 }->wpAny (model X.prog X.w) X.A (f (.int i t)) Q E s) :
  UnR X f (rU fun i=>.int (g i)):=by
 intro pins s σ H x v Q I rx h
 obtain⟨i,rfl,q⟩:=h
 obtain⟨t,rfl⟩:=rx
 exact rule i t s _ _ ⟨.int (g i),H,I.tok _,⟨_,rfl⟩,q⟩
theorem Hk:UnR X (unaryOp .USub) (rU fun i=>.int (-i)):=unI fun _ _ _ _ _ q=>neg_int q
noncomputable def Qj:V->V->Bool
 | .non,.non=>true | .non,.int _=>true | .int _,.non=>true | .non,.bl _=>true | .bl _,.non=>true | .non,.str _=>true | .str _,.non=>true
 | .int _,.int _=>true | .bl _,.bl _=>true | .str _,.str _=>true | .Q9 _,.Q9 _=>true
 | .int _,.str _=>true | .str _,.int _=>true | .bl _,.str _=>true | .str _,.bl _=>true
 | _,_=>false
noncomputable def rEq:R2:=fun x y H Q=>Qj x y=true/\Q (.bl (decide (x=y))) H
noncomputable def rNe:R2:=fun x y H Q=>Qj x y=true/\Q (.bl (!decide (x=y))) H
theorem MJ{i j:Int}:decide (V.int i=V.int j)=(i == j):=by
 rw[Bool.eq_iff_iff]
 simp
theorem UJ{i j:Bool}:decide (V.bl i=V.bl j)=(i == j):=by
 rw[Bool.eq_iff_iff]
 simp
theorem MF{i j:Str}:decide (V.str i=V.str j)=(i == j):=by
 rw[Bool.eq_iff_iff]
 simp
theorem MK{i j:Array UInt8}:decide (V.Q9 i=V.Q9 j)=(i.toList == j.toList):=by
 rw[Bool.eq_iff_iff]
 cases i
 cases j
 simp
theorem bD{pins:List (Addr × Obj)}{σ:St}{H:Hp}{s:Shared}{Q:VK}{k k':Bool}(I:Inv X pins σ H s)(q:Q (.bl k) H)(e:k=k'):EP X pins σ Q (.bool k') s:=by
 subst e
 exact⟨.bl k,H,I,rfl,q⟩
theorem yG:jK X (compareOp .Eq) rEq:=by
 intro pins s σ H x y v u Q I rx ry h
 obtain⟨hs,q⟩:=h
 cases x with
 | non=>
  cases rx
  cases y with
  | non=>cases ry;exact PySem.EqNone.eq_none_none (bD I q (by simp))
  | bl j=>cases ry;exact PySem.EqNone.eq_none_bool (bD I q (by simp))
  | int j=>obtain⟨t',rfl⟩:=ry;exact PySem.EqNone.eq_none_int (bD I q (by simp))
  | str j=>obtain⟨t',rfl⟩:=ry;exact PySem.EqNone.eq_none_str (bD I q (by simp))
  | _=>exact absurd (show false=true from hs) qX
 | bl i=>
  cases rx
  cases y with
  | non=>cases ry;exact PySem.EqNone.eq_bool_none (bD I q (by simp))
  | bl j=>cases ry;exact eq_bool (bD I q UJ)
  | str j=>obtain⟨t',rfl⟩:=ry;exact PySem.EqMixed.eq_bool_str (bD I q (by simp))
  | _=>exact absurd (show false=true from hs) qX
 | int i=>
  obtain⟨t,rfl⟩:=rx
  cases y with
  | non=>cases ry;exact PySem.EqNone.eq_int_none (bD I q (by simp))
  | int j=>obtain⟨t',rfl⟩:=ry;exact eq_int (bD I q MJ)
  | str j=>obtain⟨t',rfl⟩:=ry;exact PySem.EqMixed.eq_int_str (bD I q (by simp))
  | _=>exact absurd (show false=true from hs) qX
 | str i=>
  obtain⟨t,rfl⟩:=rx
  cases y with
  | non=>cases ry;exact PySem.EqNone.eq_str_none (bD I q (by simp))
  | bl j=>cases ry;exact PySem.EqMixed.eq_str_bool (bD I q (by simp))
  | int j=>obtain⟨t',rfl⟩:=ry;exact PySem.EqMixed.eq_str_int (bD I q (by simp))
  | str j=>obtain⟨t',rfl⟩:=ry;exact eq_str (bD I q MF)
  | _=>exact absurd (show false=true from hs) qX
 | Q9 i=>
  obtain⟨t,rfl⟩:=rx
  cases y with
  | Q9 j=>obtain⟨t',rfl⟩:=ry;exact PySem.W.eq_bytes (bD I q MK)
  | _=>exact absurd (show false=true from hs) qX
 | _=>cases y <;> exact absurd (show false=true from hs) qX
theorem mC:jK X (compareOp .NotEq) rNe:=by
 intro pins s σ H x y v u Q I rx ry h
 obtain⟨hs,q⟩:=h
 cases x with
 | non=>
  cases rx
  cases y with
  | non=>cases ry;exact PySem.EqNone.ne_none_none (bD I q (by simp))
  | bl j=>cases ry;exact PySem.EqNone.ne_none_bool (bD I q (by simp))
  | int j=>obtain⟨t',rfl⟩:=ry;exact PySem.EqNone.ne_none_int (bD I q (by simp))
  | str j=>obtain⟨t',rfl⟩:=ry;exact PySem.EqNone.ne_none_str (bD I q (by simp))
  | _=>exact absurd (show false=true from hs) qX
 | bl i=>
  cases rx
  cases y with
  | non=>cases ry;exact PySem.EqNone.ne_bool_none (bD I q (by simp))
  | bl j=>cases ry;exact ne_bool (bD I q (congrArg not UJ))
  | str j=>obtain⟨t',rfl⟩:=ry;exact PySem.EqMixed.ne_bool_str (bD I q (by simp))
  | _=>exact absurd (show false=true from hs) qX
 | int i=>
  obtain⟨t,rfl⟩:=rx
  cases y with
  | non=>cases ry;exact PySem.EqNone.ne_int_none (bD I q (by simp))
  | int j=>obtain⟨t',rfl⟩:=ry;exact ne_int (bD I q (congrArg not MJ))
  | str j=>obtain⟨t',rfl⟩:=ry;exact PySem.EqMixed.ne_int_str (bD I q (by simp))
  | _=>exact absurd (show false=true from hs) qX
 | str i=>
  obtain⟨t,rfl⟩:=rx
  cases y with
  | non=>cases ry;exact PySem.EqNone.ne_str_none (bD I q (by simp))
  | bl j=>cases ry;exact PySem.EqMixed.ne_str_bool (bD I q (by simp))
  | int j=>obtain⟨t',rfl⟩:=ry;exact PySem.EqMixed.ne_str_int (bD I q (by simp))
  | str j=>obtain⟨t',rfl⟩:=ry;exact ne_str (bD I q (congrArg not MF))
  | _=>exact absurd (show false=true from hs) qX
 | Q9 i=>
  obtain⟨t,rfl⟩:=rx
  cases y with
  | Q9 j=>obtain⟨t',rfl⟩:=ry;exact PySem.W.ne_bytes (bD I q (congrArg not MK))
  | _=>exact absurd (show false=true from hs) qX
 | _=>cases y <;> exact absurd (show false=true from hs) qX
theorem nJ:jK X (compareOp .Lt) (N8 fun i j=>.bl (decide (i < j))):=WL fun _ _ _ _ _ _ _ q=>lt_int q
theorem RJ:jK X (compareOp .LtE) (N8 fun i j=>.bl (decide (i<=j))):=WL fun _ _ _ _ _ _ _ q=>le_int q
theorem gM:jK X (compareOp .Gt) (N8 fun i j=>.bl (decide (j < i))):=WL fun _ _ _ _ _ _ _ q=>gt_int q
theorem RK:jK X (compareOp .GtE) (N8 fun i j=>.bl (decide (j<=i))):=WL fun _ _ _ _ _ _ _ q=>ge_int q
theorem Im:jK X (compareOp .Is) (fun x y H Q=>y = .non/\Q (.bl (decide (x = .non))) H):=by
 intro pins s σ H x y v u Q I rx ry h
 obtain⟨rfl,q⟩:=h
 cases ry
 refine is_none_gen (bD I q ?_)
 cases x <;> first
  | (cases rx;rfl)
  | (obtain⟨t,rfl⟩:=rx;rfl)
theorem W8:jK X (compareOp .IsNot) (fun x y H Q=>y = .non/\Q (.bl (!decide (x = .non))) H):=by
 intro pins s σ H x y v u Q I rx ry h
 obtain⟨rfl,q⟩:=h
 cases ry
 refine isnot_none_gen (bD I q ?_)
 cases x <;> first
  | (cases rx;rfl)
  | (obtain⟨t,rfl⟩:=rx;rfl)
theorem jK.or{f:Value->Value->Sem Value}{r r':R2}(h:jK X f r)(h':jK X f r'):jK X f (fun x y H Q=>r x y H Q ∨ r' x y H Q):=by
 intro pins s σ H x y v u Q I rx ry q
 rcases q with q | q
 ·exact h pins s σ H x y v u Q I rx ry q
 ·exact h' pins s σ H x y v u Q I rx ry q
theorem zR(b:Expr){op:CmpOp}(h:op ≠ .In:=by decide)(h2:op ≠ .NotIn:=by decide):behindInMarks op b=false:=by
 have e1:(op == CmpOp.In)=false:=by cases op <;> first | rfl | exact absurd rfl h
 have e2:(op == CmpOp.NotIn)=false:=by cases op <;> first | rfl | exact absurd rfl h2
 cases b <;> simp [behindInMarks,e1,e2]
theorem iG{op:CmpOp}{r:R2}(ho:jK X (compareOp op) r)(ha:PE X a ta)(hb:PE X b tb)(hm:behindInMarks op b=false):PE X (.Compare a [op] [b] pos) (tOp r ta tb):=by
 intro pins s σ H Q I h
 exact wpAny_Compare1 (qAW ha hb I h fun v u s2 x y H2 I2 rx ry q=>ho pins s2 σ H2 x y v u Q I2 rx ry q) hm
noncomputable def Xx(t:TE):TT:=fun σ H Q=>t σ H fun x H' => ∃ k,x = .bl k/\Q k H'
theorem zL{op:CmpOp}{r:R2}(ho:jK X (compareOp op) r)(ha:PE X a ta)(hb:PE X b tb)(hm:behindInMarks op b=false):PT X (.Compare a [op] [b] pos) (Xx (tOp r ta tb)):=by
 intro pins s σ H Q I h
 refine wpAny_isTrue_Compare1 (bJ (ha pins s σ H _ I h) fun v s1 ⟨x,H1,I1,r1,q1⟩=>bJ (hb pins s1 σ H1 _ I1 q1) fun u s2 ⟨y,H2,I2,r2,q2⟩=>
  bJ (ho pins s2 σ H2 x y v u _ I2 r1 r2 q2) fun c s3 ⟨z,H3,I3,r3,k,e,q3⟩=>?_) hm
 subst e
 cases r3
 exact wpAny_truthy_bool ⟨H3,I3,q3⟩
noncomputable def Yv(r r':R2)(ta tb tc:TE):TE:=fun σ H Q=>ta σ H fun x H1=>tb σ H1 fun y H2=>r x y H2 fun z H3 => ∃ k,z = .bl k ∧
 (if k=true then tc σ H3 fun w' H4=>r' y w' H4 Q else Q (.bl false) H3)
theorem R8{op op':CmpOp}{r r':R2}(ho:jK X (compareOp op) r)(ho':jK X (compareOp op') r')(ha:PE X a ta)(hb:PE X b tb)(hc:PE X c tc)
  (hm:lastMarks [op,op'] [b,c]=false:=by with_unfolding_all rfl):PE X (.Compare a [op,op'] [b,c] pos) (Yv r r' ta tb tc):=by
 intro pins s σ H Q I h
 refine Compare_chain (bJ (ha pins s σ H _ I h) fun v s1 ⟨x,H1,I1,r1,q1⟩=>chain_link (bJ (hb pins s1 σ H1 _ I1 q1) fun u s2 ⟨y,H2,I2,r2,q2⟩=>
  bJ (ho pins s2 σ H2 x y v u _ I2 r1 r2 q2) fun d s3 ⟨z,H3,I3,r3,k,e,q3⟩=>?_)) hm
 subst e
 cases r3
 refine wpAny_truthy_bool ?_
 cases k with
 | false=>exact ite_ff ⟨.bl false,H3,I3,rfl,q3⟩
 | true=>exact ite_tt (chain_last (bJ (hc pins s3 σ H3 _ I3 q3) fun w' s4 ⟨z',H4,I4,r4,q4⟩=>ho' pins s4 σ H4 y z' u w' Q I4 r2 r4 q4))
theorem tX:(sizeLine:Nat) < 2 ^ 63:=by rw[sizeLine_eq];decide
theorem wL:jK X (binaryOp .Add) (fun x y H Q => ∃ i j,x = .str i/\y = .str j/\i.length+j.length<=sizeLine/\Q (.str (i++j)) H):=by
 intro pins s σ H x y v u Q I rx ry h
 obtain⟨i,j,rfl,rfl,hz,q⟩:=h
 obtain⟨t,rfl⟩:=rx
 obtain⟨t',rfl⟩:=ry
 exact add_str (fun t' tk=>⟨.str (i++j),H,I.tok _,⟨_,rfl⟩,q⟩) hz
theorem vals1{x:V}{us:List Value}(r:Vals [x] us):∃ u,us=[u]/\RelV x u:=by
 cases r with
 | cons r1 r2=>cases r2;exact⟨_,rfl,r1⟩
theorem vals2{x y:V}{us:List Value}(r:Vals [x,y] us):∃ u w',us=[u,w']/\RelV x u/\RelV y w':=by
 cases r with
 | cons r1 r2=>
  cases r2 with
  | cons r3 r4=>cases r4;exact⟨_,_,rfl,r1,r3⟩
theorem PK(hc:X.calm=true):jz X (.builtin "max") (fun xs H Q => ∃ i j,xs=[.int i,.int j]/\Q (.int (if j > i then j else i)) H):=by
 intro pins s σ H xs us Q I r h
 obtain⟨i,j,rfl,q⟩:=h
 obtain⟨u,w',rfl,⟨t,rfl⟩,⟨t',rfl⟩⟩:=vals2 r
 refine max_two_ints (I.ok.hd hc) fun h' tk k=>⟨_,H,I.kept k,?_,q⟩
 by_cases hj:j > i
 ·rw[if_pos hj,if_pos hj];exact⟨_,rfl⟩
 ·rw[if_neg hj,if_neg hj];exact⟨_,rfl⟩
theorem PJ(hc:X.calm=true):jz X (.builtin "min") (fun xs H Q => ∃ i j,xs=[.int i,.int j]/\Q (.int (if j < i then j else i)) H):=by
 intro pins s σ H xs us Q I r h
 obtain⟨i,j,rfl,q⟩:=h
 obtain⟨u,w',rfl,⟨t,rfl⟩,⟨t',rfl⟩⟩:=vals2 r
 refine min_two_ints (I.ok.hd hc) fun h' tk k=>⟨_,H,I.kept k,?_,q⟩
 by_cases hj:j < i
 ·rw[if_pos hj,if_pos hj];exact⟨_,rfl⟩
 ·rw[if_neg hj,if_neg hj];exact⟨_,rfl⟩
theorem Af:jz X (.type "int") (fun xs H Q=>(∃ i,xs=[.int i]/\Q (.int i) H) ∨ ∃ k,xs=[.bl k]/\Q (.int (if k then 1 else 0)) H):=by
 intro pins s σ H xs us Q I r h
 rcases h with ⟨i,rfl,q⟩ | ⟨k,rfl,q⟩
 ·obtain⟨u,rfl,t,rfl⟩:=vals1 r
  exact call_int_int ⟨.int i,H,I,⟨_,rfl⟩,q⟩
 ·obtain⟨u,rfl,r1⟩:=vals1 r
  cases r1
  exact call_int_bool ⟨.int (if k then 1 else 0),H,I.tok _,⟨_,rfl⟩,q⟩
end
structure K6(h:Heap)(x dx C:Addr)(mA:Str->Option Value):Prop where
 obj:h.get? x=some (PySem.W.instObj C dx)
 ns:h.Ns1 dx mA
 ne:dx ≠ x
theorem Nz{h:Heap}{dx:Addr}{mA:Str->Option Value}(n:h.Ns1 dx mA):∃ od,h.get? dx=some od/\∀ name,PySem.W.lookIn name od=some (mA name):=by
 obtain⟨o,es,ep,ho,hd,hk,_,hm⟩:=n
 refine⟨o,ho,fun name=>?_⟩
 have e:=hm name
 unfold nsFind findBy at e
 rw[<-Array.find?_toList]at e
 unfold PySem.W.lookIn
 rw[hd]
 dsimp only
 split
 ·rename_i y q
  rw[q]at e
  exact congrArg some e
 ·rename_i q
  rw[q]at e
  have a:es.toList.any (·.refKey)=false:=by
   rw[List.any_eq_false]
   intro y hy
   obtain⟨z,t,hkey⟩:=hk y (Array.mem_toList_iff.mp hy)
   simp [DictEntry.refKey,hkey]
  have a':¬ es.toList.any (·.refKey)=true:=by rw[a];exact qX
  rw[if_neg a']
  exact congrArg some e
theorem K6.look{h:Heap}{x dx C:Addr}{mA:Str->Option Value}(I:K6 h x dx C mA):∃ od,PySem.W.InstAt h x (PySem.W.instObj C dx) C (some od)/\∀ name,PySem.W.lookIn name od=some (mA name):=
 let ⟨od,ho,hl⟩:=Nz I.ns
 ⟨od,⟨I.obj,rfl,rfl,ho⟩,hl⟩
section
variable{prog:Program}{w:World}{A:Around}{E:Value->Shared->Prop}{s:Shared}{K:bO}{x dx C f:Addr}{mA:Str->Option Value}{name:Str}{v:Value}
theorem get_map{expr:Bool}{Q:Value->Shared->Prop}(X:K.In s.heap)(I:K6 s.heap x dx C mA)(hg:PySem.W.plainGet K C name=true)(hh:PySem.W.hasDictIn K C=true)
  (ha:PySem.W.findIn K (.ref C) name=some none) (hv:mA name=some v) (hv':PySem.W.handedIn v=true) (h:Q v { s with toks:=s.toks+1 }) :
  wpAny (model prog w) A (getAttr (.ref x) name expr) Q E s:=by
 obtain⟨od,J,hl⟩:=I.look
 exact PySem.W.get_value X J (PySem.W.plainGet_of hg).1 (PySem.W.findObj_own hh ha rfl (by rw[hl,hv])) hv' h
theorem Tc{pl:Sem Bool}{Q:Value × List Value->Shared->Prop}(X:K.In s.heap)(I:K6 s.heap x dx C mA)(hg:PySem.W.plainGet K C name=true)
  (hf:PySem.W.findIn K (.ref C) name=some (some (.ref f))) (ht:PySem.W.isFn K (.ref f)=true) (hv:mA name=none) (h:Q (.ref f,[.ref x]) s) :
  wpAny (model prog w) A (getMethod (.ref x) name pl) Q E s:=by
 obtain⟨od,J,hl⟩:=I.look
 exact PySem.W.method_fn X J (PySem.W.plainGet_of hg).1 (PySem.W.plainGet_of hg).2 hf (beq_iff_eq.mp ht) (by show (PySem.W.lookIn name od).map (·.isSome)=some false;rw[hl,hv];rfl) h
theorem Ve{ns:List Str}{Q:Unit->Shared->Prop}(X:K.In s.heap)(I:K6 s.heap x dx C mA)
  (hs:PySem.W.findIn K (.ref C) "__setattr__" = some (some (.builtin "object.__setattr__"))) (hp:PySem.W.plainOver K C=true) (ht:PySem.W.takerIn K C name=some none) (hh:PySem.W.hasDictIn K C=true)
  (hw:PySem.Within mA ns) (hsz:ns.length<=sizeLine)
  (h:∀ h',K6 h' x dx C (fun y=>if y=name then some v else mA y)->Heap.SameBut dx s.heap h'->Q () { s with heap:=h',toks:=s.toks+2 }) :
  wpAny (model prog w) A (setAttr (.ref x) name v) Q E s:=by
 obtain⟨od,J,hl⟩:=I.look
 refine PySem.W.set_plain X J hs (PySem.W.osa_open (s:={ s with toks:=s.toks+1 }) (r:=none) X J hp ht fun b=>?_)
 obtain⟨cd,hc,hd'⟩:=PySem.W.any_some hh
 have hx:s.heap.get? x=some ⟨.ref C,some dx,.plain,#[]⟩:=I.obj
 refine wpAny_bind (wpAny_pure (wpAny_bind (wpAny_bind (wpAny_loadPart hx (wpAny_bind (PySem.W.Looks.here (s:={ s with toks:=s.toks+1 }) (PySem.W.looks_clsIn X hc) ?_))))))
 rw[hd']
 refine wpAny_pure (a:=some dx) (wpAny_bind (wpAny_pure (wpAny_bind ?_)))
 refine wpAny_nsSet1 (s:={ s with toks:=s.toks+1 }) I.ns fun h' hn2 hs2=>?_
 obtain⟨oD,esD,epD,hoD,hdD,hcD⟩:=hn2.count (PySem.Within.cons name v hw)
 refine wpAny_bind (wpAny_lookBehind hoD (by rw[hdD];exact pastItsLine_dict (Nat.le_trans hcD (by rw[eV];lia))) ?_)
 exact wpAny_pure (h _ ⟨(hs2.2 _ (Ne.symm I.ne)).trans I.obj,hn2,I.ne⟩ hs2)
theorem S7{R:Result->Shared->Prop}{vs:List Value}{kw:List (Str × Value)}(X:K.In s.heap)(hm:PySem.W.makesIn K C=true)
  (hi:PySem.W.findIn K (.ref C) "__init__" = some (some (.ref f))) (hf:PySem.W.typeIn K (.ref f)=some (.type "function"))
  (h:codeAny (model prog w) (A.under (.builtin "type.__call__" ⟨.ref C :: vs,kw⟩)) (.call (.ref f) ⟨.ref (s.heap.objs.size+1) :: vs,kw⟩) (PySem.W.InitBack (s.heap.objs.size+1) R)
   { s with heap:=(s.heap.push PySem.W.emptyDict).push (PySem.W.instObj C s.heap.objs.size) }) :
  codeAny (model prog w) A (.call (.ref C) ⟨vs,kw⟩) R s:=by
 obtain⟨hh,g,d,t,os⟩:=s
 exact PySem.W.make_core (PySem.W.makes_of X hm) (PySem.W.looks_findIn X hi) (fun self=>PySem.W.bind_fn X self hf) (.inl rfl) h
end
noncomputable def cQ(f:Str)(v:V):List (Str × V)->List (Str × V)
 | []=>[(f,v)]
 | (g,x) :: r=>if g=f then (g,v) :: r else (g,x) :: cQ f v r
theorem aO(f g:Str)(v:V):∀ fs:List (Str × V),(cQ f v fs).lookup g=if g=f then some v else fs.lookup g
 | []=>by
  show List.lookup g [(f,v)]=_
  by_cases h:g=f
  ·have hb:(g == f)=true:=beq_iff_eq.mpr h
   simp only[List.lookup,hb,if_pos h]
  ·have hb:(g == f)=false:=beq_eq_false_iff_ne.mpr h
   simp only[List.lookup,hb,if_neg h]
 | (k,x) :: r=>by
  have ih:=aO f g v r
  rw[show cQ f v ((k,x) :: r)=(if k=f then (k,v) :: r else (k,x) :: cQ f v r) from rfl]
  by_cases hk:k=f
  ·rw[if_pos hk]
   by_cases h:g=k
   ·have hb:(g == k)=true:=beq_iff_eq.mpr h
    simp only[List.lookup,hb,if_pos (h.trans hk)]
   ·have hb:(g == k)=false:=beq_eq_false_iff_ne.mpr h
    simp only[List.lookup,hb,if_neg (fun e:g=f=>h (e.trans hk.symm))]
  ·rw[if_neg hk]
   by_cases h:g=k
   ·have hb:(g == k)=true:=beq_iff_eq.mpr h
    simp only[List.lookup,hb,if_neg (fun e:g=f=>hk (h.symm.trans e))]
   ·have hb:(g == k)=false:=beq_eq_false_iff_ne.mpr h
    simp only[List.lookup,hb]
    exact ih
theorem tY(f:Str)(v:V):∀ fs:List (Str × V),f∈(cQ f v fs).map (·.1)/\∀ g,g∈fs.map (·.1)->g∈(cQ f v fs).map (·.1)
 | []=>⟨by simp [cQ],fun g h=>by simp at h⟩
 | (k,x) :: r=>by
  obtain⟨i1,i2⟩:=tY f v r
  rw[show cQ f v ((k,x) :: r)=(if k=f then (k,v) :: r else (k,x) :: cQ f v r) from rfl]
  by_cases hk:k=f
  ·rw[if_pos hk]
   subst hk
   exact⟨by simp,fun g h=>by simpa using h⟩
  ·rw[if_neg hk]
   refine⟨?_,fun g h=>?_⟩
   ·rw[List.map_cons]
    exact Hh _ i1
   ·rw[List.map_cons]at h ⊢
    rcases bY.mp h with e | e
    ·exact bY.mpr (.inl e)
    ·exact Hh _ (i2 g e)
theorem uT(f:Str)(v:V):∀ fs:List (Str × V),(cQ f v fs).length<=fs.length+1
 | []=>by simp [cQ]
 | (k,x) :: r=>by
  have ih:=uT f v r
  rw[show cQ f v ((k,x) :: r)=(if k=f then (k,v) :: r else (k,x) :: cQ f v r) from rfl]
  by_cases hk:k=f
  ·rw[if_pos hk,eV,eV];lia
  ·rw[if_neg hk,eV,eV];lia
theorem mU.some_of{v:V}{o:Option Value}(r:mU (some v) o):∃ u,o=some u/\RelV v u:=by
 cases o with
 | none=>exact (show False from r).elim
 | some u=>exact⟨u,rfl,r⟩
theorem mU.none_of{o:Option Value}(r:mU none o):o=none:=by
 cases o with
 | none=>rfl
 | some u=>exact (show False from r).elim
theorem Og{v:V}{u:Value}(r:RelV v u):PySem.W.handedIn u=true:=by
 cases v with
 | non=>cases (show u=Value.none from r);rfl
 | bl b=>cases (show u=Value.bool b from r);rfl
 | int i=>obtain⟨t,e⟩:=(show ∃ t,u=Value.int i t from r);cases e;rfl
 | str x=>obtain⟨t,e⟩:=(show ∃ t,u=Value.str x t from r);cases e;rfl
 | Q9 b=>obtain⟨t,e⟩:=(show ∃ t,u=Value.bytes b t from r);cases e;rfl
 | flt b=>obtain⟨t,e⟩:=(show ∃ t,u=Value.float b t from r);cases e;rfl
 | ref a=>cases (show u=Value.ref a from r);rfl
 | ty n=>cases (show u=Value.type n from r);rfl
section
variable{P:Program}{w:World}{H H':Hp}{h h':Heap}{a C dx:Addr}{fs fs':List (Str × V)}
theorem vB(hok:jL P w H h)(e:H a=some (.ins C dx fs)):∃ mA,K6 h a dx C mA/\(∀ f,mU (fs.lookup f) (mA f))/\PySem.Within mA (fs.map (·.1))/\fs.length<=1000/\H dx=some (.own a):=by
 obtain⟨d,z,ne,ob,mA,n,r,q⟩:=(show bN P w H h a (.ins C dx fs) from hok a _ e)
 exact⟨mA,⟨ob,n,ne⟩,r,q,z,d⟩
end
structure xY(K:bO)(C:Addr):Prop where
 pg:PySem.W.plainGet K C Str.empty=true
 hd:PySem.W.hasDictIn K C=true
 po:PySem.W.plainOver K C=true
 sa:PySem.W.findIn K (.ref C) "__setattr__" = some (some (.builtin "object.__setattr__"))
theorem xY.get{K:bO}{C:Addr}(c:xY K C)(f:Str):PySem.W.plainGet K C f=true:=c.pg
noncomputable def bf(K:bO)(C:Addr)(f:Str):Prop:=PySem.W.findIn K (.ref C) f=some none
theorem bf.taker{K:bO}{C:Addr}{f:Str}(n:bf K C f):PySem.W.takerIn K C f=some none:=by
 unfold PySem.W.takerIn
 rw[show PySem.W.findIn K (.ref C) f=some none from n]
 rfl
structure Con(K:bO)(C:Addr)(f:Str)(v:V)(u:Value):Prop where
 at_:PySem.W.findIn K (.ref C) f=some (some u)
 rel:RelV v u
 get:PySem.W.specialIn K u "__get__" = some none
 cp:PySem.W.copiedNames.contains f=false
structure Meth(K:bO)(C:Addr)(m:Str)(f:Addr):Prop where
 at_:PySem.W.findIn K (.ref C) m=some (some (.ref f))
 fn:PySem.W.isFn K (.ref f)=true
 kp:KI K f
section
variable{X:Cx}{pins:List (Addr × Obj)}{σ:St}{H:Hp}{s:Shared}{a C dx:Addr}{fs:List (Str × V)}{f:Str}{v:V}{A:Around}{E:Value->Shared->Prop}
theorem Jf{b:Bool}{Q:Value->Shared->Prop}(I:Inv X pins σ H s)(e:H a=some (.ins C dx fs))(c:xY X.K C)(n:bf X.K C f)(l:fs.lookup f=some v)
  (h:∀ u s',Inv X pins σ H s'->RelV v u->Q u s'):wpAny (model X.prog X.w) A (getAttr (.ref a) f b) Q E s:=by
 obtain⟨mA,O,r,_,_,_⟩:=vB I.hok e
 obtain⟨u,hu,ru⟩:=mU.some_of (v:=v) (o:=mA f) (by rw[<-l];exact r f)
 exact get_map I.mV O (c.get f) c.hd n hu (Og ru) (h u _ (I.tok _) ru)
theorem xG{m:Str}{g:Addr}{pl:Sem Bool}{Q:Value × List Value->Shared->Prop}(I:Inv X pins σ H s)(e:H a=some (.ins C dx fs))(c:xY X.K C)(k:Meth X.K C m g)(l:fs.lookup m=none)
  (h:Q (.ref g,[.ref a]) s):wpAny (model X.prog X.w) A (getMethod (.ref a) m pl) Q E s:=by
 obtain⟨mA,O,r,_,_,_⟩:=vB I.hok e
 have hn:mA m=none:=mU.none_of (by rw[<-l];exact r m)
 exact Tc I.mV O (c.get m) k.at_ k.fn hn h
theorem IK{y:V}{u:Value}{Q:Unit->Shared->Prop}(I:Inv X pins σ H s)(e:H a=some (.ins C dx fs))(c:xY X.K C)(n:bf X.K C f)(hl:fs.length < 1000)(ry:RelV y u)
  (h:∀ s',Inv X pins σ (upd H a (.ins C dx (cQ f y fs))) s'->Q () s'):wpAny (model X.prog X.w) A (setAttr (.ref a) f u) Q E s:=by
 obtain⟨mA,O,r,wi,_,ho⟩:=vB I.hok e
 have hz:(fs.map (·.1)).length<=sizeLine:=by rw[bZ,sizeLine_eq];lia
 refine Ve I.mV O c.sa c.po n.taker c.hd wi hz fun h' O' sb=>h _ ?_
 have hd:∃ o,h'.get? dx=some o:=let ⟨o,_,_,e',_⟩:=O'.ns;⟨o,e'⟩
 refine I.write (x:=a) (e:=dx) (by rw[e];exact True.intro) (.inr ho) (fun b q hb z=>(sb.2 b hb).trans z) hd ?_
 refine⟨by rw[zQ O.ne];exact ho,?_,O.ne,O'.obj,_,O'.ns,fun g=>?_,fun g hg=>?_⟩
 ·have:=uT f y fs;lia
 ·show mU ((cQ f y fs).lookup g) (if g=f then some u else mA g)
  rw[aO]
  by_cases q:g=f
  ·rw[if_pos q,if_pos q];exact ry
  ·rw[if_neg q,if_neg q];exact r g
 ·by_cases q:g=f
  ·rw[q];exact (tY f y fs).1
  ·refine (tY f y fs).2 g (wi g fun z=>hg ?_)
   show (if g=f then some u else mA g)=none
   rw[if_neg q];exact z
theorem Inv.made(I:Inv X pins σ H s):Inv X pins σ (upd (upd H s.heap.objs.size (.own (s.heap.objs.size+1))) (s.heap.objs.size+1) (.ins C s.heap.objs.size []))
  { s with heap:=(s.heap.push PySem.W.emptyDict).push (PySem.W.instObj C s.heap.objs.size) }:=by
 have e1:(s.heap.push PySem.W.emptyDict).get? s.heap.objs.size=some PySem.W.emptyDict:=xf s.heap rfl
 have e2:((s.heap.push PySem.W.emptyDict).push (PySem.W.instObj C s.heap.objs.size)).get? (s.heap.objs.size+1)=some (PySem.W.instObj C s.heap.objs.size):=by
  have:=xf (s.heap.push PySem.W.emptyDict) (o:=PySem.W.instObj C s.heap.objs.size) rfl
  rwa [Heap.size_push]at this
 have e3:(s.heap.push PySem.W.emptyDict).Ns s.heap.objs.size (fun _=>none):=⟨PySem.W.emptyDict,#[],_,e1,rfl,(fun e he=>absurd he (by simp)),fun _=>rfl⟩
 have I1:=I.laid (a:=s.heap.objs.size) (o:=.own (s.heap.objs.size+1)) (h':=s.heap.push PySem.W.emptyDict) (t':=s.toks) (fun b u q=>jJ _ q) (bT _) ⟨_,e1⟩
 refine I1.laid (a:=s.heap.objs.size+1) (o:=.ins C s.heap.objs.size []) (t':=s.toks) (fun b u q=>jJ _ q) (Nat.le_of_eq (Heap.size_push _ _)) ?_
 have ne:s.heap.objs.size ≠ s.heap.objs.size+1:=lu (Nat.lt_succ_self _)
 refine⟨by rw[zQ ne,zC],Nat.zero_le _,ne,e2,fun _=>none,(Heap.Ns1.of_empty e3).at fun o q=>jJ _ q,fun _=>True.intro,fun y hy=>absurd rfl hy⟩
theorem Xe{prog:Program}{w:World}{env:Env}{e:Expr}{f:Str}{pos:Pos}{s:Shared}{Q:Value->Shared->Prop}(hb:attributeBase e f env (eval e env)=eval e env)
  (h:wpAny (model prog w) A (eval e env) (fun o s₁=>wpAny (model prog w) A (getAttr o f true) Q E s₁) E s):wpAny (model prog w) A (eval (.Attribute e f pos) env) Q E s:=
 Attribute_any_ h (by rw[arm_eval_Attribute,hb])
end
noncomputable def qGA(K:bO)(ta:TE)(f:Str):TE:=fun σ H Q=>ta σ H fun x H1 => ∃ a C dx fs v,x = .ref a/\H1 a=some (.ins C dx fs)/\xY K C/\bf K C f/\fs.lookup f=some v/\Q v H1
noncomputable def qGH(K:bO)(ta tv:TE)(f:Str):TS:=fun D σ H=>tv σ H fun y H1=>ta σ H1 fun x H2 => ∃ a C dx fs,x = .ref a/\H2 a=some (.ins C dx fs)/\xY K C/\bf K C f/\fs.length < 1000 ∧
 D.nx σ (upd H2 a (.ins C dx (cQ f y fs)))
section
variable{X:Cx}{o e value:Expr}{f:Str}{pos pos' tpos:Pos}{ta tv:TE}
theorem cI(he:PE X e ta)(hb:attributeBase e f X.env (eval e X.env)=eval e X.env):PE X (.Attribute e f pos) (qGA X.K ta f):=by
 intro pins s σ H Q I h
 refine Xe hb (bJ (he pins s σ H _ I h) fun u s1 ⟨x,H1,I1,rx,a,C,dx,fs,v,ex,ea,c,n,l,q⟩=>?_)
 subst ex
 obtain rfl:u=Value.ref a:=rx
 exact Jf I1 ea c n l fun u' s2 I2 ru=>⟨v,H1,I2,ru,q⟩
theorem tK(ha:PE X o ta)(hv:PE X value tv)(hs:swapsWith value (some (.Attribute o f pos')) pos.line X.env=pure false):PS X (.Assign [.Attribute o f pos'] value pos) (qGH X.K ta tv f):=by
 intro pins s σ H D I h
 refine plainObj_wpAny_Assign_Attribute (bJ (hv pins s σ H _ I h) fun u s1 ⟨y,H1,I1,ry,q⟩=>bJ (ha pins s1 σ H1 _ I1 q) fun ov s2 ⟨x,H2,I2,rx,a,C,dx,fs,ex,ea,c,n,l,q2⟩=>?_) hs
 subst ex
 obtain rfl:ov=Value.ref a:=rx
 exact IK I2 ea c n l ry fun s3 I3=>⟨σ,_,I3,q2⟩
end
section
variable{X:Cx}{pins:List (Addr × Obj)}{σ:St}{H:Hp}{s:Shared}{A:Around}{E:Value->Shared->Prop}{Q:Value->Shared->Prop}{c:Value}{b:Bool}
inductive uH(K:bO)(H:Hp):V->Value->Prop where
 | non:uH K H .non (.type "NoneType")
 | bl (x:Bool):uH K H (.bl x) (.type "bool")
 | int (i:Int):uH K H (.int i) (.type "int")
 | str (x:Str):uH K H (.str x) (.type "str")
 | flt (x:UInt64):uH K H (.flt x) (.type "float")
 | lst {a:Addr} {xs:List V} (e:H a=some (.lst xs)):uH K H (.ref a) (.type "list")
 | Jg {a:Addr} {o:Obj} {xs:List V} (e:H a=some (.Jg o (.lst xs))):uH K H (.ref a) (.type "list")
 | tup {a:Addr} {xs:List V} (e:H a=some (.tup xs)):uH K H (.ref a) (.type "tuple")
 | dK {a:Addr} {kvs:List (Key × V)} (e:H a=some (.dK kvs)):uH K H (.ref a) (.type "dict")
 | dT {a:Addr} {kvs:List (List Key × V)} (e:H a=some (.dT kvs)):uH K H (.ref a) (.type "dict")
 | ins {a C dx:Addr} {fs:List (Str × V)} (e:H a=some (.ins C dx fs)) (cl:xY K C) (ha:PySem.W.findIn K (.ref C) "__class__" = some (some (.builtin "object.__class__")))
   (hn:PySem.W.specialIn K (.builtin "object.__class__") "__get__" = some (some (.builtin "getset_descriptor.__get__"))) (htk:PySem.W.takesIn K (.builtin "object.__class__")=some true)
   (hm:PySem.W.mroIn K C (.type "object")=some true):uH K H (.ref a) (.ref C)
theorem OJ{x:V}{u t:Value}(I:Inv X pins σ H s)(rx:RelV x u)(ty:uH X.K H x t)(e:PySem.W.kitOne X.K t c=some b)(h:∀ tk,Q (.bool b) { s with toks:=tk }) :
  wpAny (model X.prog X.w) A (call (.builtin "isinstance") [u,c]) Q E s:=by
 cases ty with
 | non=>cases (show u=Value.none from rx);exact PySem.W.kia_one PySem.W.kitx_none I.mV True.intro e (fun z=>nomatch z) h
 | bl y=>cases (show u=Value.bool y from rx);exact PySem.W.kia_one PySem.W.kitx_bool I.mV True.intro e (fun z=>nomatch z) h
 | int i=>obtain⟨t,q⟩:=(show ∃ t,u=Value.int i t from rx);cases q;exact PySem.W.kia_one PySem.W.kitx_int I.mV True.intro e (fun z=>nomatch z) h
 | str y=>obtain⟨t,q⟩:=(show ∃ t,u=Value.str y t from rx);cases q;exact PySem.W.kia_one PySem.W.kitx_str I.mV True.intro e (fun z=>nomatch z) h
 | flt y=>obtain⟨t,q⟩:=(show ∃ t,u=Value.float y t from rx);cases q;exact PySem.W.kia_one PySem.W.kitx_float I.mV True.intro e (fun z=>nomatch z) h
 | @lst a xs ea=>
  cases (show u=Value.ref a from rx)
  obtain⟨_,_,n,_,h1⟩:=(show bN X.prog X.w H s.heap a (.lst xs) from I.hok a _ ea)
  exact PySem.W.kia_one PySem.W.kitx_list I.mV ⟨_,h1,rfl⟩ e (fun z=>nomatch z) h
 | @Jg a ob xs ea=>
  cases (show u=Value.ref a from rx)
  obtain⟨_,_,_,n,_,h1⟩:=(show bN X.prog X.w H s.heap a (.Jg ob (.lst xs)) from I.hok a _ ea)
  exact PySem.W.kia_one PySem.W.kitx_list I.mV ⟨_,h1,rfl⟩ e (fun z=>nomatch z) h
 | @tup a xs ea=>
  cases (show u=Value.ref a from rx)
  obtain⟨_,_,_,p⟩:=(show bN X.prog X.w H s.heap a (.tup xs) from I.hok a _ ea)
  obtain⟨o,h1,h2,_⟩:=p
  exact PySem.W.kia_one PySem.W.kitx_tuple I.mV ⟨o,h1,h2⟩ e (fun z=>nomatch z) h
 | @dK a kvs ea=>
  cases (show u=Value.ref a from rx)
  obtain⟨_,_,vs,_,p⟩:=(show bN X.prog X.w H s.heap a (.dK kvs) from I.hok a _ ea)
  obtain⟨o,es,ep,h1,h2,_⟩:=p
  exact PySem.W.kia_one PySem.W.kitx_dict I.mV ⟨o,h1,h2.1⟩ e (fun z=>nomatch z) h
 | @dT a kvs ea=>
  cases (show u=Value.ref a from rx)
  obtain⟨_,_,xs,_,o,es,ep,h1,h2,_⟩:=(show bN X.prog X.w H s.heap a (.dT kvs) from I.hok a _ ea)
  exact PySem.W.kia_one PySem.W.kitx_dict I.mV ⟨o,h1,h2.1⟩ e (fun z=>nomatch z) h
 | @ins a C dx fs ea cl ha hn htk hm=>
  cases (show u=Value.ref a from rx)
  obtain⟨mA,O,_⟩:=vB I.hok ea
  obtain⟨od,J,_⟩:=O.look
  exact PySem.W.kia_one (PySem.W.kitx_own (cl.get _) cl.hd ha hn htk hm) I.mV J e (fun z=>nomatch z) h
end
structure fP(k:Nat)(A:Around):Prop where
 hd:A.handled=none
 dp:A.depth+3 * k+5 < recursionLimit
 un:A.units+16 * k+200 < cLine
theorem fP.mono{j k:Nat}{A:Around}(r:fP k A)(h:j<=k):fP j A:=⟨r.hd,by have:=r.dp;lia,by have:=r.un;lia⟩
theorem fP.deeper{k:Nat}{A:Around}(r:fP (k+1) A)(env:Env):fP k (A.deeper env):=
 ⟨r.hd,by have:=r.dp;show A.depth+1+3 * k+5 < _;lia,by have:=r.un;show A.units+3+16 * k+200 < _;lia⟩
theorem JL{A:Around}{C:Addr}{us:List Value}{kw:List (Str × Value)}:(A.under (.builtin "type.__call__" ⟨.ref C :: us,kw⟩)).depth=A.depth+1:=by
 first | rfl | simp [Around.under,Code.weight,Code.isCreation,Code.isGuard,Code.isCaller,Code.frames,Code.isFrame,guardIds]
theorem JK{A:Around}{C:Addr}{us:List Value}{kw:List (Str × Value)}:(A.under (.builtin "type.__call__" ⟨.ref C :: us,kw⟩)).units=A.units+1:=by
 first | rfl | simp [Around.under,Code.cUnits,Code.frames,Code.isFrame]
theorem fP.make{k:Nat}{A:Around}(r:fP (k+1) A)(C:Addr)(us:List Value)(kw:List (Str × Value)):fP k (A.under (.builtin "type.__call__" ⟨.ref C :: us,kw⟩)):=
 ⟨r.hd,by have:=r.dp;rw[JL];lia,by have:=r.un;rw[JK];lia⟩
theorem fP.depth{k:Nat}{A:Around}(r:fP k A):A.depth < recursionLimit:=by have:=r.dp;lia
theorem fP.units{k:Nat}{A:Around}(r:fP k A):A.units+64 < cLine:=by have:=r.un;lia
noncomputable def qBM:TA:=fun _ H Q=>Q [] H
noncomputable def Ke(ta:TE)(tr:TA):TA:=fun σ H Q=>ta σ H fun x H1=>tr σ H1 fun xs H2=>Q (x :: xs) H2
section
variable{X:Cx}{e:Expr}{es:List Expr}{te:TE}{t:TA}{pos:Pos}
theorem zD:PA X [] qBM:=fun _ _ _ _ H Q I h=>Calls.spliced_nil ⟨[],H,I,.nil,h⟩
theorem zA(ha:PE X e te)(hr:PA X es t)(hs:starEach (e :: es) X.env=(false,eval e X.env) :: starEach es X.env:=by rfl):PA X (e :: es) (Ke te t):=by
 intro pos pins s σ H Q I h
 rw[hs]
 show wpAny _ _ (spliced ((false,eval e X.env) :: backTo pos (starEach es X.env))) _ _ s
 refine Calls.spliced_cons (bJ (ha pins s σ H _ I h) fun u s1 ⟨x,H1,I1,r1,q1⟩=>?_)
 exact bJ (hr pos pins s1 σ H1 _ I1 q1) fun us s2 ⟨xs,H2,I2,r2,q2⟩=>⟨x :: xs,H2,I2,.cons r1 r2,q2⟩
noncomputable def qG3(t:TA):TE:=fun σ H Q=>t σ H fun xs H1=>xs.length<=sizeLine/\∀ p,H1 p=none->Q (.ref p) (upd H1 p (.tup xs))
noncomputable def qBR(t:TA):TE:=fun σ H Q=>t σ H fun xs H1=>xs.length<=sizeLine/\∀ p,H1 p=none->Q (.ref p) (upd H1 p (.lst xs))
theorem zW {x1} (h:PA X es t):PE X (.Tuple es x1 pos) (qG3 t):=by
 intro pins s σ H Q I hq
 refine wpAny_Tuple_spliced (bJ (h pos pins s σ H _ I hq) fun us s1 ⟨xs,H1,I1,r,z,q⟩=>⟨by rw[<-r.length];exact z,?_⟩)
 have hf:H1 s1.heap.objs.size=none:=I1.hok.fresh (bT _)
 refine⟨.ref s1.heap.objs.size,upd H1 s1.heap.objs.size (.tup xs),I1.laid (t':=s1.toks) (fun b u e=>jJ _ e) (bT _) ?_,rfl,q _ hf⟩
 exact⟨z,us,r,⟨_,xf _ rfl,rfl,_,rfl⟩⟩
theorem yK(h:PA X es t):PE X (.List es pos) (qBR t):=by
 intro pins s σ H Q I hq
 refine wpAny_List_spliced (bJ (h pos pins s σ H _ I hq) fun us s1 ⟨xs,H1,I1,r,z,q⟩=>⟨by rw[<-r.length];exact z,?_⟩)
 have hf:H1 s1.heap.objs.size=none:=I1.hok.fresh (bT _)
 refine⟨.ref s1.heap.objs.size,upd H1 s1.heap.objs.size (.lst xs),I1.laid (t':=s1.toks) (fun b u e=>jJ _ e) (bT _) ?_,rfl,q _ hf⟩
 exact⟨z,us,0,r,xf _ rfl⟩
end
abbrev Sp:=List V->Hp->VK->XK->Prop
abbrev KZ:=List Env->Hp->Shared->XK->Value->Shared->Prop
structure KR(P:Program)(w:World)(K:bO)(mg:Str->Option Value)(base:Heap)(A:Around)(outer:List Env)(s:Shared)(H:Hp):Prop where
 frames:A.frames=some outer
 mod:Mod K mg base
 bs:∀ b o,base.get? b=some o->s.heap.get? b=some o/\H b=none
 QB:base.objs.size<=s.heap.objs.size
 rT:s.heap.FunFrames base outer
 X5:∀ b∈frs outer,H b=none
 hok:jL P w H s.heap
 bare:AllBare s.gens
noncomputable def CE(outer:List Env)(P:Program)(w:World)(H:Hp)(s:Shared)(Q:VK)(u:Value)(s':Shared):Prop:=
 ∃ v H',s'.os=s.os/\AllBare s'.gens/\Un (frs outer) [] H H' s.heap s'.heap/\jL P w H' s'.heap/\RelV v u/\Q v H'
noncomputable def CR(CX:KZ)(outer:List Env)(P:Program)(w:World)(H:Hp)(s:Shared)(Q:VK)(E:XK)(r:Result)(s':Shared):Prop:=
 match r with
 | .ok (.ret u)=>CE outer P w H s Q u s'
 | .ok _=>False
 | .error e=>CX outer H s E e s'
structure aG(P:Program)(w:World)(K:bO)(mg:Str->Option Value)(base:Heap)(CX:KZ)(k:Nat)(f:Addr)(fd:FuncData)(ps:List Str)(sp:Sp):Prop where
 len:∀ vs H Q E,sp vs H Q E->vs.length=ps.length
 run:∀(A:Around)(outer:List Env)(s:Shared)(H:Hp)(args:Args)(us:List Value)(vs:List V)(Q:VK)(E:XK),fP k A->KR P w K mg base A outer s H->BindsTo s fd args (ps.zip us)->Vals vs us->sp vs H Q E →
  codeAny (model P w) A (.call (.ref f) args) (CR CX outer P w H s Q E) s
theorem aG.mono{P:Program}{w:World}{K:bO}{mg:Str->Option Value}{base:Heap}{CX:KZ}{j k:Nat}{f:Addr}{fd:FuncData}{ps:List Str}{sp:Sp}(F:aG P w K mg base CX j f fd ps sp)(h:j<=k) :
  aG P w K mg base CX k f fd ps sp:=⟨F.len,fun A outer s H args us vs Q E hr=>F.run A outer s H args us vs Q E (hr.mono h)⟩
theorem KR.make{P:Program}{w:World}{K:bO}{mg:Str->Option Value}{base:Heap}{A:Around}{outer:List Env}{s:Shared}{H:Hp}(e:KR P w K mg base A outer s H)(C:Addr)(us:List Value)(kw:List (Str × Value)) :
  KR P w K mg base (A.under (.builtin "type.__call__" ⟨.ref C :: us,kw⟩)) outer s H:=⟨by first | exact e.frames | (simpa [Around.under,Code.envs,Code.isFrame,pushEnvs] using e.frames),e.mod,e.bs,e.QB,e.rT,e.X5,e.hok,e.bare⟩
section
variable{X:Cx}{pins:List (Addr × Obj)}{σ:St}{H:Hp}{s s':Shared}
theorem Inv.env0(I:Inv X pins σ H s):KR X.prog X.w X.K X.mg X.base X.A X.stack s H:=
 ⟨I.ok.frames,I.ok.mod,I.bs,Nat.le_trans I.ok.QB I.sz,I.stack,I.qi,I.hok,I.bare⟩
theorem Inv.after{Q:VK}{u:Value}(I:Inv X pins σ H s)(h:CE X.stack X.prog X.w H s Q u s'):EP X pins σ Q u s':=by
 obtain⟨v,H',os,bare,un,hok,r,q⟩:=h
 obtain⟨hh,g,d,t,os'⟩:=s'
 obtain rfl:os'=s.os:=os
 exact⟨v,H',I.call (h':=hh) (g':=g) (d':=d) (t':=t) (ch:=[]) un hok bare (fun b z=>absurd z (by simp)),r,q⟩
end
noncomputable def qBY(sp:Sp)(mX:List V)(E:XK)(t:TA):TE:=fun σ H Q=>t σ H fun vs H1=>sp (vs++mX) H1 Q E
noncomputable def Xy(C:Addr)(m:Str)(sp:Sp)(mX:List V)(E:XK)(ta:TE)(t:TA):TE:=fun σ H Q=>ta σ H fun x H1 => ∃ a dx fs,x = .ref a/\H1 a=some (.ins C dx fs)/\fs.lookup m=none ∧
 t σ H1 fun vs H2=>sp (x :: (vs++mX)) H2 Q E
noncomputable def qBQ(C:Addr)(sp:Sp)(mX:List V)(E:XK)(t:TA):TE:=fun σ H Q=>t σ H fun vs H1 => ∀ x dx,H1 x=none->H1 dx=none->dx ≠ x →
 sp (.ref x :: (vs++mX)) (upd (upd H1 dx (.own x)) x (.ins C dx [])) (fun v H2=>v = .non/\Q (.ref x) H2) E
noncomputable def Binds(K:bO)(fd:FuncData)(ps:List Str)(ds:List Value):Prop:=
 ∀(s:Shared)(us:List Value),K.In s.heap->(us++ds).length=ps.length->BindsTo s fd ⟨us,[]⟩ (ps.zip (us++ds))
theorem Binds.all{K:bO}{fd:FuncData}{ps:List Str}(h:∀ us:List Value,us.length=ps.length->bindArgs fd ⟨us,[]⟩=pure (ps.zip us)):Binds K fd ps []:=fun s us _ hl=>by
 rw[gF]at hl ⊢
 exact .of_eq (h us hl)
noncomputable def Passes(CX:KZ)(X:Cx)(E:XK):Prop:=∀(pins:List (Addr × Obj))(σ:St)(H:Hp)(s:Shared)(e:Value)(s':Shared),Inv X pins σ H s->CX X.stack H s E e s'->X.xe e s'
section
variable{X:Cx}{CX:KZ}{k:Nat}{f C:Addr}{fd:FuncData}{ps:List Str}{sp:Sp}{mX:List V}{ds:List Value}{E:XK}{x m:Str}{p pos apos:Pos}{e o:Expr}{es:List Expr}{ta:TE}{t:TA}
theorem Ib{pins:List (Addr × Obj)}{σ:St}{H:Hp}{s:Shared}{Q:VK}{us:List Value}{vs:List V}(F:aG X.prog X.w X.K X.mg X.base CX k f fd ps sp)(hr:fP k X.A)(hb:Binds X.K fd ps ds)(hd:Vals mX ds)(hx:Passes CX X E)
  (I:Inv X pins σ H s) (r:Vals vs us) (h:sp (vs++mX) H Q E):wpAny (model X.prog X.w) X.A (call (.ref f) us) (EP X pins σ Q) X.xe s:=by
 have r2:Vals (vs++mX) (us++ds):=r.append hd
 have hl:(us++ds).length=ps.length:=by rw[<-r2.length];exact F.len _ _ _ _ h
 refine wpAny_call (codeAny_mono (F.run X.A X.stack s H ⟨us,[]⟩ (us++ds) (vs++mX) Q E hr I.env0 (hb s us I.mV hl) r2 h) fun r s' hq=>?_)
 cases r with
 | error e=>exact hx pins σ H s e s' I hq
 | ok fl=>
  cases fl with
  | ret u=>exact I.after hq
  | next=>exact False.elim hq
  | brk=>exact False.elim hq
  | cont=>exact False.elim hq
theorem zJ(F:aG X.prog X.w X.K X.mg X.base CX k f fd ps sp)(hr:fP k X.A)(hg:Gl X x)(hm:X.mg x=some (.ref f))(hk:PySem.W.keepIn X.K (.ref f)=true)(hb:Binds X.K fd ps ds)(hd:Vals mX ds)(hx:Passes CX X E)
  (ha:PA X (e :: es) t) (hdb:(x == ("__debug__" : Str))=false:=by decide) (he:starEach (e :: es) X.env=(false,eval e X.env) :: starEach es X.env:=by rfl) (hpl:(backTo pos (starEach es X.env)).any (·.1)=false:=by rfl) :
  PE X (.Call (.Name x p) (e :: es) [] pos) (qBY sp mX E t):=by
 intro pins s σ H Q I h
 refine wpAny_Call_Name_kw (p8 I hg hm ?_ hdb)
 refine PySem.W.callWith_K (h₀:=X.base) I.ok.mod.Zy hk (bJ (ha pos pins s σ H _ I h) fun us s1 ⟨vs,H1,I1,r,q⟩=>⟨I1.mV,?_⟩) he hpl
 exact Ib F hr hb hd hx I1 r q
theorem Bl{pl:Sem Bool}(he:PE X o ta)(c:xY X.K C)(hm:Meth X.K C m f)(F:aG X.prog X.w X.K X.mg X.base CX k f fd ps sp)(hr:fP k X.A)(hb:Binds X.K fd ps ds)(hd:Vals mX ds)(hx:Passes CX X E)(ha:PA X (e :: es) t)
  (hst:starEach (e :: es) X.env=(false,eval e X.env) :: starEach es X.env:=by rfl) (hpl:(backTo pos (starEach es X.env)).any (·.1)=false:=by rfl)
  (ht:eval (.Call (.Attribute o m apos) (e :: es) [] pos) X.env=(do
   let ov ← eval o X.env
   standAt apos.atName
   let (f,first) ← holding [ov] (getMethod ov m pl)
   callWith pos f first (backTo pos (starEach (e :: es) X.env)) (backToKw pos (keywordEach [] X.env))):=by rfl) :
  PE X (.Call (.Attribute o m apos) (e :: es) [] pos) (Xy C m sp mX E ta t):=by
 intro pins s σ H Q I h
 refine PySem.W.methodCall_KW (pl:=pl) (bJ (he pins s σ H _ I h) fun u s1 ⟨x,H1,I1,rx,a,dx,fs,ex,ea,l,q⟩=>?_) ht
 subst ex
 obtain rfl:u=Value.ref a:=rx
 refine xG I1 ea c hm l ?_
 refine PySem.W.callWith_K (first:=[.ref a]) (h₀:=X.base) I.ok.mod.Zy hm.kp (bJ (ha pos pins s1 σ H1 _ I1 q) fun us s2 ⟨vs,H2,I2,r,q2⟩=>⟨I2.mV,?_⟩) hst hpl
 exact Ib (us:=.ref a :: us) (vs:=.ref a :: vs) F hr hb hd hx I2 (.cons rfl r) q2
theorem wH{pl:Sem Bool}(he:PE X o ta)(c:xY X.K C)(hm:Meth X.K C m f)(F:aG X.prog X.w X.K X.mg X.base CX k f fd ps sp)(hr:fP k X.A)(hb:Binds X.K fd ps ds)(hd:Vals mX ds)(hx:Passes CX X E)
  (ht:eval (.Call (.Attribute o m apos) [] [] pos) X.env=(do
   let ov ← eval o X.env
   standAt apos.atName
   let (f,first) ← holding [ov] (getMethod ov m pl)
   callWith pos f first (backTo pos (starEach [] X.env)) (backToKw pos (keywordEach [] X.env))):=by rfl) :
  PE X (.Call (.Attribute o m apos) [] [] pos) (Xy C m sp mX E ta qBM):=by
 intro pins s σ H Q I h
 refine PySem.W.methodCall_KW (pl:=pl) (bJ (he pins s σ H _ I h) fun u s1 ⟨x,H1,I1,rx,a,dx,fs,ex,ea,l,q⟩=>?_) ht
 subst ex
 obtain rfl:u=Value.ref a:=rx
 refine xG I1 ea c hm l ?_
 exact PySem.W.callWith_K0 (first:=[.ref a]) I1.mV hm.kp (Ib (us:=[.ref a]) (vs:=[.ref a]) F hr hb hd hx I1 (.cons rfl .nil) q)
structure Mk(K:bO)(C f:Addr):Prop where
 makes:PySem.W.makesIn K C=true
 init:PySem.W.findIn K (.ref C) "__init__" = some (some (.ref f))
 fn:PySem.W.isFn K (.ref f)=true
 kp:KI K C
theorem Qq{pins:List (Addr × Obj)}{σ:St}{H:Hp}{s:Shared}{Q:VK}{us:List Value}{vs:List V}(M:Mk X.K C f)(F:aG X.prog X.w X.K X.mg X.base CX k f fd ps sp)(hr:fP (k+1) X.A)(hb:Binds X.K fd ps ds)(hd:Vals mX ds)
  (hx:Passes CX X E) (I:Inv X pins σ H s) (r:Vals vs us)
  (h:∀ x dx,H x=none->H dx=none->dx ≠ x->sp (.ref x :: (vs++mX)) (upd (upd H dx (.own x)) x (.ins C dx [])) (fun v H2=>v = .non/\Q (.ref x) H2) E) :
  wpAny (model X.prog X.w) X.A (call (.ref C) us) (EP X pins σ Q) X.xe s:=by
 have hq:=h (s.heap.objs.size+1) s.heap.objs.size (I.hok.fresh (Nat.le_succ _)) (I.hok.fresh (bT _)) (lu (Nat.lt_succ_self _))
 have I2:=Inv.made (C:=C) I
 have r2:Vals (V.ref (s.heap.objs.size+1) :: (vs++mX)) (Value.ref (s.heap.objs.size+1) :: (us++ds)):=.cons rfl (r.append hd)
 have hl:(Value.ref (s.heap.objs.size+1) :: us++ds).length=ps.length:=by
  have e:=r2.length
  rw[F.len _ _ _ _ hq]at e
  exact e.symm
 refine wpAny_call (S7 (f:=f) I.mV M.makes M.init (beq_iff_eq.mp M.fn) (codeAny_mono (F.run _ X.stack _ _ ⟨Value.ref (s.heap.objs.size+1) :: us,[]⟩ (Value.ref (s.heap.objs.size+1) :: (us++ds)) _ _ E (hr.make C us [])
  (I2.env0.make C us []) (hb _ (Value.ref (s.heap.objs.size+1) :: us) I2.mV hl) r2 hq) fun r s' hq'=>?_))
 cases r with
 | error e=>exact hx pins σ _ _ e s' I2 hq'
 | ok fl=>
  cases fl with
  | ret u=>
   obtain⟨v,H',I3,rv,ev,q3⟩:=I2.after hq'
   subst ev
   exact⟨rv,⟨V.ref (s.heap.objs.size+1),H',I3,rfl,q3⟩⟩
  | next=>exact False.elim hq'
  | brk=>exact False.elim hq'
  | cont=>exact False.elim hq'
theorem Bm(M:Mk X.K C f)(F:aG X.prog X.w X.K X.mg X.base CX k f fd ps sp)(hr:fP (k+1) X.A)(hg:Gl X x)(hm:X.mg x=some (.ref C))(hb:Binds X.K fd ps ds)(hd:Vals mX ds)(hx:Passes CX X E)
  (ha:PA X (e :: es) t) (hdb:(x == ("__debug__" : Str))=false:=by decide) (he:starEach (e :: es) X.env=(false,eval e X.env) :: starEach es X.env:=by rfl) (hpl:(backTo pos (starEach es X.env)).any (·.1)=false:=by rfl) :
  PE X (.Call (.Name x p) (e :: es) [] pos) (qBQ C sp mX E t):=by
 intro pins s σ H Q I h
 refine wpAny_Call_Name_kw (p8 I hg hm ?_ hdb)
 refine PySem.W.callWith_K (h₀:=X.base) I.ok.mod.Zy M.kp (bJ (ha pos pins s σ H _ I h) fun us s1 ⟨vs,H1,I1,r,q⟩=>⟨I1.mV,?_⟩) he hpl
 exact Qq M F hr hb hd hx I1 r q
end
section
variable{X:Cx}{CX:KZ}{k:Nat}{f C:Addr}{fd:FuncData}{ps ks:List Str}{sp:Sp}{E:XK}{x m:Str}{p pos apos kpos:Pos}{e o:Expr}{es:List Expr}{kws:List Keyword}{te ta:TE}{t tk:TA}{nm:Option Str}
structure KBinds(K:bO)(fd:FuncData)(ps ks:List Str)(g:List Value->List Value->List Value)(gV:List V->List V->List V):Prop where
 to:∀(s:Shared)(us ws:List Value),K.In s.heap->(g us ws).length=ps.length->BindsTo s fd ⟨us,ks.zip ws⟩ (ps.zip (g us ws))
 rel:∀ {vs:List V} {us:List Value} {zs:List V} {ws:List Value},Vals vs us->Vals zs ws->Vals (gV vs zs) (g us ws)
variable{g:List Value->List Value->List Value}{gV:List V->List V->List V}
end
structure aH(N P:List Str)(sc:Scope):Prop where
 kind:sc.kind = .function
 co:sc.isCoroutine=false
 gen:sc.isGenerator=false
 nd:N.Nodup
 pre:N.take P.length=P
 par:∀ x∈P,sc.names.lookup x=some .local ∨ sc.names.lookup x=some .cell
 JC:∀ y∈sc.names,y.2 ≠ .free
theorem Ag{kindOf:Str->Option NameKind}{x:Str}:∀ {binds:List (Str × Value)} {m:Str->Option Value},(∀ v,(x,v) ∉ binds)->bindL kindOf binds m x=m x
 | [],_,_=>rfl
 | (n,v) :: r,m,h=>by
  unfold bindL
  rw[Ag fun w hw=>h w (Hh _ hw)]
  split
  ·have:x ≠ n:=by rintro rfl;exact h v HX
   simp [this]
  ·rfl
theorem Ai{kindOf:Str->Option NameKind}{x:Str}:∀ {binds:List (Str × Value)} {m:Str->Option Value},(∀ v,(x,v) ∉ binds)->bindC kindOf binds m x=m x
 | [],_,_=>rfl
 | (n,v) :: r,m,h=>by
  unfold bindC
  rw[Ai fun w hw=>h w (Hh _ hw)]
  split
  ·rfl
  ·have:x ≠ n:=by rintro rfl;exact h v HX
   simp [this]
theorem Ah{kindOf:Str->Option NameKind}{x:Str}{v:Value}:∀ {P:List Str} {vs:List Value} {i:Nat} {m:Str->Option Value},P.Nodup->P[i]? = some x->vs[i]? = some v->kindOf x=some .local →
  bindL kindOf (P.zip vs) m x=some v
 | [],_,_,_,_,h,_,_=>by simp at h
 | _ :: _,[],_,_,_,_,h,_=>by simp at h
 | p :: P,w :: vs,0,m,nd,h1,h2,hk=>by
  simp at h1 h2;subst h1;subst h2
  show bindL kindOf ((p,w) :: P.zip vs) m p=_
  unfold bindL
  rw[Ag fun v hv=>(List.nodup_cons.mp nd).1 (List.of_mem_zip hv).1,if_pos hk]
  simp
 | p :: P,w :: vs,i+1,m,nd,h1,h2,hk=>by
  show bindL kindOf ((p,w) :: P.zip vs) m x=_
  unfold bindL
  exact Ah (i:=i) (List.nodup_cons.mp nd).2 (by simpa using h1) (by simpa using h2) hk
theorem Aj{kindOf:Str->Option NameKind}{x:Str}{v:Value}:∀ {P:List Str} {vs:List Value} {i:Nat} {m:Str->Option Value},P.Nodup->P[i]? = some x->vs[i]? = some v->kindOf x ≠ some .local →
  bindC kindOf (P.zip vs) m x=some v
 | [],_,_,_,_,h,_,_=>by simp at h
 | _ :: _,[],_,_,_,_,h,_=>by simp at h
 | p :: P,w :: vs,0,m,nd,h1,h2,hk=>by
  simp at h1 h2;subst h1;subst h2
  show bindC kindOf ((p,w) :: P.zip vs) m p=_
  unfold bindC
  rw[Ai fun v hv=>(List.nodup_cons.mp nd).1 (List.of_mem_zip hv).1,if_neg hk]
  simp
 | p :: P,w :: vs,i+1,m,nd,h1,h2,hk=>by
  show bindC kindOf ((p,w) :: P.zip vs) m x=_
  unfold bindC
  exact Aj (i:=i) (List.nodup_cons.mp nd).2 (by simpa using h1) (by simpa using h2) hk
noncomputable def start(N:List Str)(vs:List V):St:=vs.map some++List.replicate (N.length - vs.length) none
noncomputable def pK(CX:KZ)(P:Program)(w:World)(K:bO)(mg:Str->Option Value)(base:Heap)(N:List Str)(qual:Str)(scope:Scope)(f:Addr)(cd:Value)(A:Around)(outer:List Env)(s:Shared)(H:Hp)(E:XK):Cx where
 prog:=P
 w:=w
 K:=K
 mg:=mg
 base:=base
 A:=A.deeper (envOfC qual scope s.heap.objs.size f cd)
 N:=N
 s₀:=s
 H₀:=H
 env:=envOfC qual scope s.heap.objs.size f cd
 outer:=outer
 stack:=envOfC qual scope s.heap.objs.size f cd :: outer
 ex:=[]
 calm:=true
 fn:=fun _=>true
 pn:=[]
 xe:=fun e s'=>wpAny (model P w) (A.deeper (envOfC qual scope s.heap.objs.size f cd)) (leaving (envOfC qual scope s.heap.objs.size f cd) e) (fun _ s''=>CX outer H s E e s'') (fun e' s''=>CX outer H s E e' s'') s'
theorem Gr{sc:Scope}{n:Nat}{x:Str}(h:sc.names.lookup x=some .cell):∃ c,(cellsFrom n sc.names []).lookup x=some c:=by
 have q:=PySem.W.cellsFrom_some sc.names n [] (.inl h)
 exact Option.isSome_iff_exists.mp q
theorem Oa{CX:KZ}{P:Program}{w:World}{K:bO}{mg:Str->Option Value}{base:Heap}{N ps:List Str}{qual:Str}{scope:Scope}{f:Addr}{cd:Value}{A:Around}{outer:List Env}{s s1:Shared}{H:Hp}{E:XK}{us:List Value}{vs:List V}
  (S:aH N ps scope) (hd:A.handled=none) (e0:KR P w K mg base A outer s H) (hl:vs.length=ps.length) (r:Vals vs us)
  (x:InCallC s s.heap.objs.size (bindL (envOfC qual scope s.heap.objs.size f cd).kindOf (ps.zip us) fun _=>none) (cellsFrom (s.heap.objs.size+1) scope.names []) (bindC (envOfC qual scope s.heap.objs.size f cd).kindOf (ps.zip us) fun _=>none) s1) :
  Inv (pK CX P w K mg base N qual scope f cd A outer s H E) [] (start N vs) H s1:=by
 have hpl:ps.length<=N.length:=by have:=congrArg List.length S.pre;rw[gG]at this;lia
 obtain⟨h1,tk,rfl,hk⟩:=x.done
 have noA:∀ b:Addr,b ∉ (pK CX P w K mg base N qual scope f cd A outer s H E).ex:=fun b z=>absurd (show b∈([]:List Addr) from z) (by simp)
 refine⟨⟨e0.mod,S.kind,rfl,rfl,bT _,fun y z c h1 h2=>?_,fun y hy=>?_,fun y c _ h=>?_,fun _=>hd,Around.frames_deeper e0.frames,.inr ⟨rfl,rfl⟩,fun b z=>absurd z (noA b),e0.bs,e0.QB,fun b _ _=>noA b,fun b z=>absurd z (noA b),e0.rT,e0.X5⟩,
  rfl,e0.bare,Un.kept hk,⟨_,x.toInCall.ns,fun i y v h1 h2 h3=>?_⟩,fun y c h=>⟨_,x.cell y c h⟩,e0.hok.fresh (Nat.le_refl _),fun y c h=>?_,fun p hp=>absurd (show p∈([]:List (Addr × Obj)) from hp) (by simp),e0.hok.kept hk,?_⟩
 ·exact name_of_addr x.apart (PySem.mem_of_lookup h1) (PySem.mem_of_lookup h2)
 ·have hy:scope.names.lookup y=some .cell ∨ scope.names.lookup y=some .free:=hy
  rcases hy with hy | hy
  ·exact Gr hy
  ·exact absurd rfl (S.JC _ (PySem.mem_of_lookup hy))
 ·exact Nat.le_of_lt (x.above y c (PySem.mem_of_lookup h))
 ·have hi:i < vs.length:=by
   unfold start at h2
   by_cases hi:i < vs.length
   ·exact hi
   ·rw[List.getElem?_append_right (by simpa using hi)]at h2
    rw[List.getElem?_replicate]at h2
    split at h2 <;> cases h2
  have ha:vs[i]? = some v:=by
   unfold start at h2
   rw[List.getElem?_append_left (by simpa using hi),List.getElem?_map]at h2
   cases e:vs[i]? with
   | none=>rw[e]at h2;cases h2
   | some a=>rw[e]at h2;cases h2;rfl
  obtain⟨u,hu,rv⟩:=r.get ha
  have hp:ps[i]? = some y:=by
   rw[<-S.pre,List.getElem?_take_of_lt (by lia)];exact h1
  have ndP:ps.Nodup:=by rw[<-S.pre];exact S.nd.sublist (List.take_sublist _ _)
  refine⟨u,rv,?_⟩
  rcases S.par y (Mq hp) with k | k
  ·exact .inl ⟨k,Ah ndP hp hu k⟩
  ·obtain⟨c,e⟩:=Gr (n:=s.heap.objs.size+1) k
   refine .inr ⟨.inl k,c,e,?_⟩
   have q:=x.cell y c e
   rw[Aj ndP hp hu (by show scope.names.lookup y ≠ _;rw[k];decide)]at q
   exact q
 ·exact e0.hok.fresh (Nat.le_of_lt (x.above y c (PySem.mem_of_lookup h)))
 ·unfold start
  show _=N.length
  rw[fU,bZ,List.length_replicate]
  lia
theorem YM{CX:KZ}{P:Program}{w:World}{K:bO}{mg:Str->Option Value}{base:Heap}{k:Nat}{f:Addr}{name qual:Str}{params:Arguments}{body:List Stmt}{scope:Scope}{dV kV doc pm cdv ct oc:Value}{an od:Option Addr}
  {osl:Array (Option Value)} {N ps:List Str} {sp:Sp} (lk:K.lookup f=some ⟨oc,od,.func (PySem.W.fnOf name qual params body scope dV kV doc pm an cdv ct),osl⟩) (hcd:PySem.W.codeIn K cdv qual=true) (S:aH N ps scope)
  (len:∀ vs H Q E,sp vs H Q E->vs.length=ps.length)
  (hbody:∀(A:Around)(outer:List Env)(s:Shared)(H:Hp)(vs:List V)(Q:VK)(E:XK),fP k (A.deeper (envOfC qual scope s.heap.objs.size f cdv))->sp vs H Q E →
   ∃ t,Aq (pK CX P w K mg base N qual scope f cdv A outer s H E) body t/\t { nx:=fun _ H'=>Q .non H',rt:=Q } (start N vs) H) :
  aG P w K mg base CX (k+1) f (PySem.W.fnOf name qual params body scope dV kV doc pm an cdv ct) ps sp:=by
 refine⟨len,fun A outer s H args us vs Q E hr e0 hb r hsp=>?_⟩
 have hl:=len _ _ _ _ hsp
 have KX:K.In s.heap:=e0.mod.Zy.keeps fun b o e=>(e0.bs b o e).1
 have lim:s.heap.NoLimit:=e0.mod.nolimit.keeps fun b o e=>(e0.bs b o e).1
 have hkind:∀ y∈ps.zip us,scope.names.lookup y.1=some .local ∨ (scope.names.lookup y.1=some .cell/\((cellsFrom (s.heap.objs.size+1) scope.names []).lookup y.1).isSome=true):=fun ⟨n,v⟩ hy=>by
  rcases S.par n (List.of_mem_zip hy).1 with q | q
  ·exact .inl q
  ·exact .inr ⟨q,PySem.W.cellsFrom_some _ _ _ (.inl q)⟩
 refine codeAny_call_function hr.depth (KX _ _ lk) rfl S.co S.gen rfl (PySem.W.codeRec_of KX hcd) (hb _ _ _ _ ?_)
 refine wpAny_newFunctionEnv_cells S.kind hkind fun env he s1 x=>?_
 subst he
 refine⟨lim.keeps x.toInCall.keep,codeAny_func ?_⟩
 obtain⟨t,ht,hq⟩:=hbody A outer s H vs Q E (hr.deeper _) hsp
 have I:Inv (pK CX P w K mg base N qual scope f cdv A outer s H E) [] (start N vs) H s1:=Oa S hr.hd e0 hl r x
 refine wpAny_mono (ht [] s1 (start N vs) H _ I hq) (fun fl s' hs=>?_) fun e s' hs=>hs
 have fin:∀ {σ':St} {H':Hp} {v:V} {u:Value},Inv (pK CX P w K mg base N qual scope f cdv A outer s H E) [] σ' H' s'->RelV v u->Q v H'->CE outer P w H s Q u s':=
  fun {σ' H' v u} J rv q=>⟨v,H',J.os,J.bare,J.base,J.hok,rv,q⟩
 cases fl with
 | ret u=>
  obtain⟨v,σ',H',J,rv,q⟩:=hs
  exact fin J rv q
 | next=>
  obtain⟨σ',H',J,q⟩:=hs
  exact fin (v:=V.non) (u:=Value.none) J rfl q
 | brk=>
  obtain⟨_,_,_,q⟩:=hs
  exact False.elim q
 | cont=>
  obtain⟨_,_,_,q⟩:=hs
  exact False.elim q
section
variable{X:Cx}{x:Str}{p pos:Pos}{e:Expr}{es:List Expr}{t:TA}{id T:String}{r:List V->Hp->VK->Prop}
noncomputable def tCB(r:List V->Hp->VK->Prop)(t:TA):TE:=fun σ H Q=>t σ H fun vs H1=>r vs H1 Q
theorem zS(hc:jz X (.builtin id) r)(hg:Gl X x)(hm:X.mg x=none)(hv:bootBuiltins x=some (.builtin id))(ha:PA X (e :: es) t)(hn:x ≠ "__name__" := by decide)(hdb:(x == ("__debug__" : Str))=false:=by decide)
  (he:starEach (e :: es) X.env=(false,eval e X.env) :: starEach es X.env:=by rfl) (hpl:(backTo pos (starEach es X.env)).any (·.1)=false:=by rfl):PE X (.Call (.Name x p) (e :: es) [] pos) (tCB r t):=by
 intro pins s σ H Q I h
 refine wpAny_Call_Name_kw (nW I hg hm hv ?_ hn hdb)
 exact PyProof.Rows.callWith_builtin1 (bJ (ha pos pins s σ H _ I h) fun us s1 ⟨vs,H1,I1,r1,q1⟩=>hc pins s1 σ H1 vs us Q I1 r1 q1) he hpl
theorem yA(hc:jz X (.type T) r)(hg:Gl X x)(hm:X.mg x=none)(hv:bootBuiltins x=some (.type T))(ha:PA X (e :: es) t)(hn:x ≠ "__name__" := by decide)(hdb:(x == ("__debug__" : Str))=false:=by decide)
  (he:starEach (e :: es) X.env=(false,eval e X.env) :: starEach es X.env:=by rfl) (hpl:(backTo pos (starEach es X.env)).any (·.1)=false:=by rfl):PE X (.Call (.Name x p) (e :: es) [] pos) (tCB r t):=by
 intro pins s σ H Q I h
 refine wpAny_Call_Name_kw (nW I hg hm hv ?_ hn hdb)
 exact PyProof.Rows.callWith_type1 (bJ (ha pos pins s σ H _ I h) fun us s1 ⟨vs,H1,I1,r1,q1⟩=>hc pins s1 σ H1 vs us Q I1 r1 q1) he hpl
end
end L2
namespace HT
open PySem PyProof.Rows
section
open PySem.SeqAt
open PySem.AutoSeq1 (wpAny_loadPart')
open PySem.MeetsSeq PySem.MeetsSeq2 PySem.MeetsSeq3
end
section
variable{prog:Program}{w:World}{A:Around}{E:Value->Shared->Prop}{s:Shared}
theorem XX{t b:Addr}{vs ws:List Value}{Q:Value->Shared->Prop}(ht:IsTup s.heap t vs.toArray)(hb:IsTup s.heap b ws.toArray)(hv:vs ≠ [])
  (h1:ws=[]->Q (.ref t) s) (h2:ws ≠ []->Q (.ref s.heap.objs.size) { s with heap:=s.heap.push { cls:=.type "tuple",data:=.seq (vs++ws).toArray } })
  (hsz:vs.length+ws.length<=sizeLine):wpAny (model prog w) A (binaryOp .Add (.ref t) (.ref b)) Q E s:=by
 obtain⟨⟨cls,dd,data,sl⟩,ho,hc,n,hd⟩:=id ht
 obtain⟨⟨cls2,dd2,data2,sl2⟩,ho2,hc2,n2,hd2⟩:=id hb
 simp only at hc hd hc2 hd2
 subst hc hd hc2 hd2
 have e:vs.toArray++ws.toArray=(vs++ws).toArray:=by simp
 by_cases hw:ws=[]
 ·exact concat_meets ⟨_,ho,rfl⟩ ⟨_,ho2,rfl⟩ noFill_tuple_add seq_tuple_add PySem.F.slot_tuple_add PySem.F.entry_tuple_add (PySem.F.args_tuple_add_2 _ _)
   (tuple_addW1 t b vs.toArray ws.toArray n n2 dd dd2 sl sl2 (by simpa using hv) (by simp [hw])) ⟨ho,ho2,h1 hw⟩
 ·refine concat_meets ⟨_,ho,rfl⟩ ⟨_,ho2,rfl⟩ noFill_tuple_add seq_tuple_add PySem.F.slot_tuple_add PySem.F.entry_tuple_add (PySem.F.args_tuple_add_2 _ _)
   (tuple_addW2 t b vs.toArray ws.toArray n n2 dd dd2 sl sl2 (by simpa using hv) (by simpa using hw) (by rw[List.size_toArray,List.size_toArray];exact hsz)) ⟨ho,ho2,?_⟩
  rw[e]
  exact h2 hw
noncomputable def gJ(n d:Nat):Option Int->Nat
 | none=>d
 | some v=>if v < 0 then (v+(n:Int)).toNat else min v.toNat n
theorem El(n d:Nat):gJ n d none=d:=rfl
theorem v9(n d k:Nat):gJ n d (some (k:Int))=min k n:=by
 show (if (k:Int) < 0 then ((k:Int)+(n:Int)).toNat else min (k:Int).toNat n)=min k n
 rw[if_neg (by lia),VM]
theorem Z1(n d:Nat)(hd:d<=n)(o:Option Int):gJ n d o<=n:=by
 cases o with
 | none=>exact hd
 | some v=>
  show (if v < 0 then (v+(n:Int)).toNat else min v.toNat n)<=n
  by_cases hv:v < 0
  ·rw[if_pos hv];lia
  ·rw[if_neg hv];exact Nat.min_le_right _ _
theorem Mf(v:Int)(n d:Nat):(if v < 0 then max (v+(n:Int)) 0 else min v (n:Int))=((gJ n d (some v):Nat):Int):=by
 show (if v < 0 then max (v+(n:Int)) 0 else min v (n:Int))=(((if v < 0 then (v+(n:Int)).toNat else min v.toNat n):Nat):Int)
 by_cases hv:v < 0
 ·simp only[if_pos hv];lia
 ·simp only[if_neg hv];lia
theorem K3(lo hi:Option Int)(n:Nat):Builtin.Slice.sliceAdjust lo hi 1 (n:Int)=(((gJ n 0 lo:Nat):Int),((gJ n n hi:Nat):Int)):=by
 have h1:¬ ((1:Int) < 0):=by lia
 unfold Builtin.Slice.sliceAdjust
 simp only[h1,if_false]
 refine Prod.ext ?_ ?_
 ·cases lo with
  | none=>rfl
  | some v=>exact Mf v n 0
 ·cases hi with
  | none=>rfl
  | some v=>exact Mf v n n
theorem Ij(i j:Nat):Builtin.Slice.slicePlaces (i:Int) (j:Int) 1=j - i:=by
 unfold Builtin.Slice.slicePlaces
 have h1:(1:Int) > 0:=by lia
 simp only[h1,if_true,Int.ediv_one]
 split <;> lia
theorem vU{v:Value}{o:Option Int}{Q:Option Int->Shared->Prop}(p:IsPart v o)(h:Q o s):wpAny (model prog w) A (Builtin.Slice.slicePartIndex v) Q E s:=by
 cases p with
 | none=>exact slicePart_none h
 | int i t=>exact slicePart_int h
theorem tD{sl:Addr}{vl vu:Value}{lo hi:Option Int}{n:Nat}{Q:Int × Int × Nat->Shared->Prop}(hs:s.heap.IsSliceOf sl vl vu .none)(pl:IsPart vl lo)(pu:IsPart vu hi)
  (h:Q (((gJ n 0 lo:Nat):Int),1,gJ n n hi - gJ n 0 lo) s):wpAny (model prog w) A (Builtin.Slice.sliceApplied (.ref sl) (pure (n:Int))) Q E s:=by
 obtain⟨os,hos,hcs,hds⟩:=id hs
 unfold Builtin.Slice.sliceApplied Builtin.Slice.sliceFields
 refine wpAny_bind (wpAny_bind (wpAny_field hos hds (x:=vl) rfl (wpAny_bind (wpAny_field hos hds (x:=vu) rfl (wpAny_bind (wpAny_field hos hds (x:=.none) rfl (wpAny_pure ?_)))))))
 refine wpAny_bind (slicePart_none ?_)
 show wpAny _ _ (if ((1:Int) == 0)=true then _ else _) _ _ s
 rw[if_neg (by decide)]
 refine wpAny_bind (vU pl (wpAny_bind (vU pu (wpAny_bind (wpAny_pure ?_)))))
 show wpAny _ _ (match Builtin.Slice.sliceAdjust lo hi 1 (n:Int) with | (lo,hi)=>pure (lo,(1:Int),Builtin.Slice.slicePlaces lo hi 1)) _ _ s
 rw[K3 lo hi n]
 show wpAny _ _ (pure (((gJ n 0 lo:Nat):Int),(1:Int),Builtin.Slice.slicePlaces ((gJ n 0 lo:Nat):Int) ((gJ n n hi:Nat):Int) 1)) _ _ s
 rw[Ij]
 exact wpAny_pure h
theorem R3(xs:Array Value)(i k:Nat):((List.range k).filterMap fun (m:Nat)=>xs[((i:Int)+(m:Int) * 1).toNat]?).toArray=((xs.toList.drop i).take k).toArray:=by
 have e:(fun (m:Nat)=>xs[((i:Int)+(m:Int) * 1).toNat]?)=fun m=>xs[i+m]?:=by
  funext m
  have:((i:Int)+(m:Int) * 1).toNat=i+m:=by lia
  rw[this]
 rw[e]
 have:=pick_run xs i k
 rw[List.filterMap_map]at this
 have e2:((fun x=>xs[x]?) ∘ fun x=>i+x)=fun m=>xs[i+m]?:=rfl
 rw[e2]at this
 rw[this]
theorem rR{t sl:Addr}{items:Array Value}{vl vu:Value}{lo hi:Option Int}{Q:Value->Shared->Prop}(ht:IsTup s.heap t items)(hs:s.heap.IsSliceOf sl vl vu .none)(pl:IsPart vl lo)(pu:IsPart vu hi)
  (hw:¬ (gJ items.size 0 lo=0/\gJ items.size items.size hi=items.size))
  (h:Q (.ref s.heap.objs.size) { s with heap:=s.heap.push { cls:=.type "tuple",data:=.seq ((items.toList.drop (gJ items.size 0 lo)).take (gJ items.size items.size hi - gJ items.size 0 lo)).toArray } })
  (hsz:items.size<=sizeLine):wpAny (model prog w) A (getItem (.ref t) (.ref sl)) Q E s:=by
 have Lw:sizeOk (.seq ((items.toList.drop (gJ items.size 0 lo)).take (gJ items.size items.size hi - gJ items.size 0 lo)).toArray):=by
  show ((items.toList.drop (gJ items.size 0 lo)).take (gJ items.size items.size hi - gJ items.size 0 lo)).toArray.size<=sizeLine
  rw[qd,gG,List.length_drop,Array.length_toList]
  lia
 have hj:gJ items.size items.size hi<=items.size:=Z1 _ _ (bT _) hi
 obtain⟨os,hos,hcs,hds⟩:=id hs
 have hTs:s.TypeIs (.ref sl) "slice" := ⟨os,hos,hcs⟩
 unfold getItem
 try with_reducible refine wpAny_holding ?_
 first | refine wpAny_bind (wpAny_pure ?_) | skip
 refine wpAny_bind (wpAny_sequenceKey ht.typeIs (by decide) ?_)
 refine wpAny_bind (wpAny_callSpecial?_slot (name:=Str.ofString "__getitem__") ht.typeIs PyProof.Rows.slot_tuple_getitem
  (wpAny_call_entry PyProof.Rows.slot_tuple_getitem ht.typeIs entry_tuple_getitem ?_ (args_tuple_getitem _ _)))
 show wpAny _ _ (Builtin.Tuple.tupleItemsOf (.ref t) >>= _) _ _ s
 refine wpAny_bind (tupleItemsOf_ ht ?_)
 refine wpAny_bind (wpAny_typeOf hTs ?_)
 rw[if_pos (by decide)]
 refine wpAny_bind (tD hs pl pu ?_)
 have hno:¬ ((((gJ items.size 0 lo:Nat):Int) == 0 && (1:Int) == 1 && (gJ items.size items.size hi - gJ items.size 0 lo) == items.size)=true):=by
  intro q
  rw[Bool.and_eq_true,Bool.and_eq_true]at q
  have q1:((gJ items.size 0 lo:Nat):Int)=0:=eq_of_beq q.1.1
  have q2:gJ items.size items.size hi - gJ items.size 0 lo=items.size:=eq_of_beq q.2
  exact hw ⟨by lia,by lia⟩
 show wpAny _ _ (if (((gJ items.size 0 lo:Nat):Int) == 0 && (1:Int) == 1 && (gJ items.size items.size hi - gJ items.size 0 lo) == items.size)=true then _ else _) _ _ s
 rw[if_neg hno,R3]
 first
  | exact wpAny_bind (m:=Builtin.Tuple.tupleExact _) (wpAny_newObj_type (wpAny_pure ⟨_,rfl,wpAny_pure h⟩) Lw)
  | exact wpAny_bind (m:=Builtin.Tuple.tupleExact _) (wpAny_newObj_type (wpAny_bind (wpAny_pure (wpAny_pure ⟨_,rfl,wpAny_pure h⟩))) Lw)
  | exact wpAny_bind (wpAny_bind (m:=Builtin.Tuple.tupleExact _) (wpAny_newObj_type (wpAny_pure (wpAny_pure ⟨_,rfl,wpAny_pure h⟩)) Lw))
  | exact wpAny_bind (wpAny_bind (m:=Builtin.Tuple.tupleExact _) (wpAny_newObj_type (wpAny_pure ⟨_,rfl,wpAny_pure h⟩) Lw))
end
end HT
namespace L2
open PySem PySem.Spec PyProof.Rows
abbrev TO:=St->Hp->(Option Int->Hp->Prop)->Prop
noncomputable def PO(X:Cx)(e:Option Expr)(t:TO):Prop:=
 ∀(pins:List (Addr × Obj))(s:Shared)(σ:St)(H:Hp)(Q:Option Int->Hp->Prop),Inv X pins σ H s->t σ H Q →
  wpAny (model X.prog X.w) X.A (evalPart e X.env) (fun u s' => ∃ o H',Inv X pins σ H' s'/\IsPart u o/\Q o H') X.xe s
noncomputable def VV:TO:=fun _ H Q=>Q none H
noncomputable def qBK(t:TE):TO:=fun σ H Q=>t σ H fun x H1 => ∃ i,x = .int i/\Q (some i) H1
theorem intsAre_of{ns:List Int}:∀ {us:List Value},Vals (ns.map V.int) us->IntsAre us ns:=by
 induction ns with
 | nil=>intro us r;rw[List.map_nil]at r;cases r;exact .nil
 | cons n ns ih=>
  intro us r
  rw[List.map_cons]at r
  cases r with
  | cons r1 r2=>
   obtain⟨t,e⟩:=r1
   subst e
   exact .cons n t (ih r2)
section
variable{X:Cx}{e:Expr}{te:TE}{lo hi:Option Expr}{tl th:TO}{pos p2:Pos}
theorem lF:PO X none VV:=by
 intro pins s σ H Q I h
 rw[evalPart_none]
 exact wpAny_pure ⟨none,H,I,.none,h⟩
theorem lE(h:PE X e te):PO X (some e) (qBK te):=by
 intro pins s σ H Q I hw
 rw[evalPart_some]
 refine bJ (h pins s σ H _ I hw) fun u s1 ⟨x,H1,I1,r1,q1⟩=>?_
 obtain⟨i,rfl,q⟩:=q1
 obtain⟨t,rfl⟩:=r1
 exact⟨some i,H1,I1,.int i t,q⟩
noncomputable def SlR(X:Cx)(r:V->Option Int->Option Int->Hp->VK->Prop):Prop:=
 ∀(pins:List (Addr × Obj))(s:Shared)(σ:St)(H:Hp)(x:V)(v vl vu:Value)(lo hi:Option Int)(sl:Addr)(Q:VK),Inv X pins σ H s->RelV x v->s.heap.IsSliceOf sl vl vu .none->IsPart vl lo->IsPart vu hi->r x lo hi H Q →
  ∃ T id,typeLookup (.type T) "__getitem__" = pure (some (.builtin id))/\s.TypeIs v T/\wpAny (model X.prog X.w) X.A (getItem v (.ref sl)) (EP X pins σ Q) X.xe s
noncomputable def tSl(r:V->Option Int->Option Int->Hp->VK->Prop)(te:TE)(tl th:TO):TE:=fun σ H Q=>te σ H fun x H1=>tl σ H1 fun l H2=>th σ H2 fun u H3=>r x l u H3 Q
theorem ir{r:V->Option Int->Option Int->Hp->VK->Prop}(hr:SlR X r)(he:PE X e te)(hl:PO X lo tl)(hu:PO X hi th):PE X (.Subscript e (.Slice lo hi none p2) pos) (tSl r te tl th):=by
 intro pins s σ H Q I h
 refine Subscript_ (bJ (he pins s σ H _ I h) fun v s1 ⟨x,H1,I1,r1,q1⟩=>?_)
 refine wpAny_Slice (bJ (hl pins s1 σ H1 _ I1 q1) fun vl s2 ⟨l,H2,I2,pl,q2⟩=>bJ (hu pins s2 σ H2 _ I2 q2) fun vu s3 ⟨u,H3,I3,pu,q3⟩=>?_)
 rw[evalPart_none]
 refine wpAny_pure ?_
 have I4:Inv X pins σ H3 { s3 with heap:=s3.heap.push { cls:=.type "slice",data:=.fields #[vl,vu,.none] } }:=I3.kept (t':=s3.toks) fun b ob q=>jJ _ q
 obtain⟨T,id,hT,ht,hg⟩:=hr pins { s3 with heap:=s3.heap.push { cls:=.type "slice",data:=.fields #[vl,vu,.none] } } σ H3 x v vl vu l u s3.heap.objs.size Q I4 r1 (Heap.IsSliceOf.new ..) pl pu q3
 show wpAny (model X.prog X.w) X.A (subscriptTail e (.Slice lo hi none p2) v (.ref s3.heap.objs.size)) (EP X pins σ Q) X.xe { s3 with heap:=s3.heap.push { cls:=.type "slice",data:=.fields #[vl,vu,.none] } }
 exact tail_any (ops:=[.ref s3.heap.objs.size,v]) ht hT hg (by with_unfolding_all rfl)
noncomputable def qL(xs:List V)(lo hi:Option Int):List V:=(xs.drop (HT.gJ xs.length 0 lo)).take (HT.gJ xs.length xs.length hi - HT.gJ xs.length 0 lo)
theorem uc(xs:List V)(lo hi:Option Int):(qL xs lo hi).length<=xs.length:=by
 unfold qL
 rw[gG,List.length_drop]
 lia
noncomputable def qGI(K:bO):V->Option Int->Option Int->Hp->VK->Prop:=fun x lo hi H Q => ∃ a xs,x = .ref a/\aL K H a xs ∧
 ¬ (HT.gJ xs.length 0 lo=0/\HT.gJ xs.length xs.length hi=xs.length)/\∀ p,H p=none->Q (.ref p) (upd H p (.tup (qL xs lo hi)))
theorem Qg:SlR X (qGI X.K):=by
 intro pins s σ H x v vl vu lo hi sl Q I rx hs pl pu h
 obtain⟨a,xs,rfl,hx,hw,q⟩:=h
 cases rx
 obtain⟨its,r,ht,hz⟩:=I.tuple hx
 have hlen:its.toArray.size=xs.length:=by rw[qd];exact r.length.symm
 refine⟨"tuple",_,PyProof.Rows.slot_tuple_getitem.lookup,ht.typeIs,?_⟩
 refine HT.rR ht hs pl pu (by rw[hlen];exact hw) ?_ (by rw[hlen];exact hz)
 rw[hlen]
 refine⟨.ref s.heap.objs.size,_,I.laid (t':=s.toks) (o:=.tup (qL xs lo hi)) (fun b ob q=>jJ _ q) (bT _) ?_,rfl,q _ (I.hok.fresh (bT _))⟩
 exact⟨Nat.le_trans (uc xs lo hi) hz,_,(r.drop (HT.gJ xs.length 0 lo)).take (HT.gJ xs.length xs.length hi - HT.gJ xs.length 0 lo),IsTup.new _ _⟩
noncomputable def qCL(K:bO):R2:=fun x y H Q => ∃ a b xs ys,x = .ref a/\y = .ref b/\aL K H a xs/\aL K H b ys/\xs ≠ []/\xs.length+ys.length<=sizeLine ∧
 (ys=[]->Q (.ref a) H)/\(ys ≠ []->∀ p,H p=none->Q (.ref p) (upd H p (.tup (xs++ys))))
theorem Vals.rJ{xs:List V}{us:List Value}(r:Vals xs us):us=[] ↔ xs=[]:=by
 cases r with
 | nil=>simp
 | cons _ _=>simp
theorem Bq:jK X (binaryOp .Add) (qCL X.K):=by
 intro pins s σ H x y v u Q I rx ry h
 obtain⟨a,b,xs,ys,rfl,rfl,ha,hb,hx,hz,q1,q2⟩:=h
 cases rx
 cases ry
 obtain⟨its,r1,p1,_⟩:=I.tuple ha
 obtain⟨its2,r2,p2,_⟩:=I.tuple hb
 refine HT.XX p1 p2 (fun z=>hx (r1.rJ.mp z)) (fun z=>⟨.ref a,H,I,rfl,q1 (r2.rJ.mp z)⟩) (fun z=>?_) (by rw[<-r1.length,<-r2.length];exact hz)
 refine⟨.ref s.heap.objs.size,_,I.laid (t':=s.toks) (o:=.tup (xs++ys)) (fun b ob q=>jJ _ q) (bT _) ?_,rfl,q2 (fun w=>z (r2.rJ.mpr w)) _ (I.hok.fresh (bT _))⟩
 exact⟨by rw[fU];exact hz,_,r1.append r2,IsTup.new _ _⟩
end
noncomputable def YH(n:Nat)(i:Int):Option Nat:=if 0<=i then (if i < n then some i.toNat else none) else if -(n:Int)<=i then some (i+n).toNat else none
noncomputable def sY{α:Type}(xs:List α)(i:Int):Option α:=(YH xs.length i).bind fun j=>xs[j]?
theorem Lr{n:Nat}{i:Int}{j:Nat}(h:YH n i=some j):seqIndex? i n=some j/\j < n /\ -(n:Int)<=i/\i < n:=by
 unfold YH at h
 by_cases h0:0<=i
 ·rw[if_pos h0]at h
  by_cases h1:i < n
  ·rw[if_pos h1]at h
   have e:i.toNat=j:=kJ h
   exact⟨by rw[seqIndex_of h0 h1,e],by lia,by lia,h1⟩
  ·rw[if_neg h1]at h;cases h
 ·rw[if_neg h0]at h
  by_cases h1 : -(n:Int)<=i
  ·rw[if_pos h1]at h
   have e:(i+n).toNat=j:=kJ h
   exact⟨by rw[seqIndex_neg (by lia) h1,e],by lia,h1,by lia⟩
  ·rw[if_neg h1]at h;cases h
theorem Df{α:Type}{xs:List α}{i:Int}{v:α}(h:sY xs i=some v):∃ j,seqIndex? i xs.length=some j/\xs[j]? = some v/\j < xs.length /\ -(xs.length:Int)<=i/\i < xs.length:=by
 unfold sY at h
 cases e:YH xs.length i with
 | none=>rw[e]at h;cases h
 | some j=>
  rw[e]at h
  obtain⟨h1,h2,h3,h4⟩:=Lr e
  exact⟨j,h1,h,h2,h3,h4⟩
theorem yQ{α:Type}{xs:List α}{j:Nat}{v:α}(h:xs[j]? = some v):sY xs (j:Int)=some v:=by
 have hj:j < xs.length:=(mH.mp h).1
 have e:YH xs.length (j:Int)=some j:=by
  unfold YH
  rw[if_pos (by lia),if_pos (by lia)];simp
 unfold sY;rw[e];exact h
noncomputable def Mm(b:Expr):Prop:=∀ o i,subscripted b false o i=operate [o,i] (getItem o i)
noncomputable def IxR(X:Cx)(r:R2):Prop:=
 ∀(value slice:Expr)(pins:List (Addr × Obj))(s:Shared)(σ:St)(H:Hp)(x y:V)(v u:Value)(Q:VK),Inv X pins σ H s->RelV x v->RelV y u->r x y H Q →
  subscripted slice false v u=operate [v,u] (getItem v u)->wpAny (model X.prog X.w) X.A (subscriptTail value slice v u) (EP X pins σ Q) X.xe s
noncomputable def MtR(X:Cx)(id:String)(r:V->List V->Hp->VK->Prop):Prop:=
 ∀(pins:List (Addr × Obj))(s:Shared)(σ:St)(H:Hp)(x:V)(xs:List V)(v:Value)(us:List Value)(Q:VK),Inv X pins σ H s->RelV x v->Vals xs us->r x xs H Q →
  wpAny (model X.prog X.w) X.A (call (.builtin id) (v :: us)) (EP X pins σ Q) X.xe s
section
variable{X:Cx}{a b:Expr}{ta tb:TE}{pos:Pos}
theorem yB{r:R2}(hr:IxR X r)(ha:PE X a ta)(hb:PE X b tb)(hs:Mm b):PE X (.Subscript a b pos) (tOp r ta tb):=by
 intro pins s σ H Q I h
 exact Subscript_ (qAW ha hb I h fun v u s2 x y H2 I2 rx ry q=>hr a b pins s2 σ H2 x y v u Q I2 rx ry q (hs _ _))
noncomputable def qCK(K:bO):R2:=fun x y H Q => ∃ p xs i v,x = .ref p/\y = .int i/\aQ K H p xs/\sY xs i=some v/\Q v H
noncomputable def fY(K:bO):R2:=fun x y H Q => ∃ p xs i v,x = .ref p/\y = .int i/\aL K H p xs/\sY xs i=some v/\Q v H
noncomputable def qGL:R2:=fun x y H Q => ∃ z i c,x = .str z/\y = .int i/\z.length<=sizeLine/\sY z.cps.toList i=some c/\Q (.str ⟨#[c]⟩) H
theorem yU:IxR X (qCK X.K):=by
 intro value slice pins s σ H x y v u Q I rx ry h hs
 obtain⟨p,xs,i,z,rfl,rfl,hq,he,q⟩:=h
 cases rx
 obtain⟨t,rfl⟩:=ry
 obtain⟨its,r,pl,hz⟩:=I.list hq
 obtain⟨j,h1,h2,h3,h4,h5⟩:=Df he
 obtain⟨w,ew,Qp⟩:=r.get h2
 have hl:=r.length
 have hn:=tX
 have fin:EP X pins σ Q w s:=⟨z,H,I,Qp,q⟩
 by_cases h0:0<=i
 ·have hj:i.toNat=j:=by
   rw[seqIndex_of h0 h5]at h1
   exact kJ h1
  exact item_listR pl.isList h0 (by lia) (by rw[hj];simpa using ew) fin hs
 ·have hj:(i+(its.toArray.size:Int)).toNat=j:=by
   rw[seqIndex_neg (by lia) h4]at h1
   rw[qd,<-hl]
   exact kJ h1
  exact subscriptTail_builtinR (x:=w) pl.isList.typeIs slot_list_getitem.lookup
   (wpAny_getItem_list_neg (Q:=fun r s'=>r=w/\EP X pins σ Q r s') pl.isList (by lia) (by rw[List.size_toArray] <;> lia) (by lia) (by rw[hj];simpa using ew) ⟨rfl,fin⟩) hs
theorem zH:IxR X (fY X.K):=by
 intro value slice pins s σ H x y v u Q I rx ry h hs
 obtain⟨p,xs,i,z,rfl,rfl,hq,he,q⟩:=h
 cases rx
 obtain⟨t,rfl⟩:=ry
 obtain⟨its,r,pl,hz⟩:=I.tuple hq
 obtain⟨j,h1,h2,h3,h4,h5⟩:=Df he
 obtain⟨w,ew,Qp⟩:=r.get h2
 have hl:=r.length
 have hn:=tX
 have fin:EP X pins σ Q w s:=⟨z,H,I,Qp,q⟩
 exact subscriptTail_builtinR (x:=w) pl.typeIs slot_tuple_getitem.lookup
  (getItem_tuple (j:=j) (Q:=fun r s'=>r=w/\EP X pins σ Q r s') pl (by lia) (by lia) (by rw[List.size_toArray,<-hl];exact h1) (by simpa using ew) ⟨rfl,fin⟩) hs
theorem qA6:IxR X qGL:=by
 intro value slice pins s σ H x y v u Q I rx ry h hs
 obtain⟨z,i,c,rfl,rfl,hz,he,q⟩:=h
 obtain⟨t,rfl⟩:=rx
 obtain⟨t',rfl⟩:=ry
 obtain⟨j,h1,h2,h3,h4,h5⟩:=Df he
 have hl:z.cps.toList.length=z.length:=by simp [Str.length]
 rw[hl]at h1 h4 h5
 have hn:=tX
 exact tail_any (typeIs_str s z t) slot_str_getitem.lookup (getItem_str (c:=c) (by
  have e1:decide (i < -(2 ^ 63:Int))=false:=decide_eq_false (by lia)
  have e2:decide (i ≥ 2 ^ 63)=false:=decide_eq_false (by lia)
  rw[e1,e2,Bool.or_false]) (by rw[h1];simpa using h2) ⟨.str ⟨#[c]⟩,H,I.tok _,⟨_,rfl⟩,q⟩) hs
theorem JH(its:List Value)(n j:Nat)(u:Value):Obj.mapSeq (·.setIfInBounds j u) { cls:=.type "list",data:=.seq its.toArray n } = { cls:=.type "list",data:=.seq (its.set j u).toArray n }:=by
 simp [Obj.mapSeq]
theorem Inv.lst{pins:List (Addr × Obj)}{σ:St}{H:Hp}{s:Shared}{p:Addr}{xs:List V}(I:Inv X pins σ H s)(h:H p=some (.lst xs)) :
  ∃(its:List Value)(n:Nat),Vals xs its/\s.heap.get? p=some { cls:=.type "list",data:=.seq its.toArray n }/\xs.length<=sizeLine:=by
 obtain⟨z,its,n,r,e⟩:=I.hok p _ h
 exact⟨its,n,r,e,z⟩
theorem Inv.Zn{pins:List (Addr × Obj)}{σ:St}{H:Hp}{s:Shared}{p:Addr}{xs ys:List V}{its its':List Value}{n n':Nat}{f:Obj->Obj}(I:Inv X pins σ H s)(h:H p=some (.lst xs))
  (ho:s.heap.get? p=some { cls:=.type "list",data:=.seq its.toArray n }) (hf:f { cls:=.type "list",data:=.seq its.toArray n } = { cls:=.type "list",data:=.seq its'.toArray n' }) (r:Vals ys its') (hz:ys.length<=sizeLine) (t:Nat) :
  Inv X pins σ (upd H p (.lst ys)) { s with heap:=s.heap.update p f,toks:=t }:=by
 have e:(s.heap.update p f).get? p=some { cls:=.type "list",data:=.seq its'.toArray n' }:=by
  rw[Heap.get?_update_self f ho (by rw[hf] <;> rfl),hf]
 refine I.write (x:=p) (e:=p) (by rw[h];trivial) (.inl rfl) (fun b u hb q=>(Heap.get?_update_other _ _ (Ne.symm hb)).trans q) ⟨_,e⟩ ?_
 exact⟨hz,its',n',r,e⟩
noncomputable def qCI:V->V->V->Hp->(Hp->Prop)->Prop:=fun o i v H Q => ∃ p xs k j,o = .ref p/\i = .int k/\H p=some (.lst xs)/\YH xs.length k=some j/\Q (upd H p (.lst (xs.set j v)))
theorem set_list:qFT X qCI:=by
 intro pins s σ H o i v ov iv u Q I ro ri rv h
 obtain⟨p,xs,k,j,rfl,rfl,hp,hj,q⟩:=h
 cases ro
 obtain⟨t,rfl⟩:=ri
 obtain⟨its,n,r,ho,hz⟩:=I.lst hp
 obtain⟨h1,h2,h3,h4⟩:=Lr hj
 have hl:=r.length
 have hn:=tX
 have I':Inv X pins σ (upd H p (.lst (xs.set j v))) { s with heap:=s.heap.update p (Obj.mapSeq (·.setIfInBounds j u)) }:=
  I.Zn hp ho (JH its n j u) (r.set rv j) (by rw[List.length_set];exact hz) s.toks
 by_cases h0:0<=k
 ·have hk:k.toNat=j:=by
   rw[seqIndex_of h0 h4]at h1
   exact kJ h1
  exact PySem.W.ki_setAt ho h0 (by lia) (by rw[qd,<-hl];exact h4) (by rw[hk];exact⟨_,I',q⟩)
 ·have hk:(k+(its.toArray.size:Int)).toNat=j:=by
   rw[seqIndex_neg (by lia) h3]at h1
   rw[qd,<-hl]
   exact kJ h1
  exact PySem.W.ki_setBack ho (by lia) (by rw[qd,<-hl];exact h3) (by lia) (by rw[hk];exact⟨_,I',q⟩)
theorem BW(lo hi:Option Int)(n:Nat):(sliceBounds lo hi none n).1=((HT.gJ n 0 lo:Nat):Int)/\(sliceBounds lo hi none n).2.1=((HT.gJ n n hi:Nat):Int)/\(sliceBounds lo hi none n).2.2=1:=by
 refine⟨?_,?_,rfl⟩
 ·cases lo with
  | none=>simp [sliceBounds,HT.gJ]
  | some i=>
   simp only[sliceBounds,HT.gJ,Option.getD_none,show (1:Int) > 0 by decide,if_true]
   by_cases h:i < 0
   ·simp only[h,if_true] <;> lia
   ·simp only[h,if_false] <;> lia
 ·cases hi with
  | none=>simp [sliceBounds,HT.gJ]
  | some i=>
   simp only[sliceBounds,HT.gJ,Option.getD_none,show (1:Int) > 0 by decide,if_true]
   by_cases h:i < 0
   ·simp only[h,if_true] <;> lia
   ·simp only[h,if_false] <;> lia
theorem xm(its:List Value)(lo hi:Option Int):slicePick its.toArray lo hi none=((its.drop (HT.gJ its.length 0 lo)).take (HT.gJ its.length its.length hi - HT.gJ its.length 0 lo)).toArray:=by
 obtain⟨h1,h2,h3⟩:=BW lo hi its.toArray.size
 unfold slicePick
 rw[h1,h2,h3]
 simp only[sliceRange_one,pick_run,List.size_toArray] <;> rfl
noncomputable def qGJ(K:bO):V->Option Int->Option Int->Hp->VK->Prop:=fun x lo hi H Q => ∃ a xs,x = .ref a/\aQ K H a xs/\∀ p,H p=none->Q (.ref p) (upd H p (.lst (qL xs lo hi)))
theorem BX:SlR X (qGJ X.K):=by
 intro pins s σ H x v vl vu lo hi sl Q I rx hs pl pu h
 obtain⟨a,xs,rfl,hx,q⟩:=h
 cases rx
 obtain⟨its,r,ht,hz⟩:=I.list hx
 have hlen:=r.length
 refine⟨"list",_,slot_list_getitem.lookup,ht.isList.typeIs,?_⟩
 refine wpAny_getItem_list_slice ht.isList hs pl pu .none (by simp) ?_ (by rw[List.size_toArray] <;> lia)
 rw[xm,<-hlen]
 refine⟨.ref s.heap.objs.size,_,I.laid (t':=s.toks) (o:=.lst (qL xs lo hi)) (fun b ob q=>jJ _ q) (bT _) ?_,rfl,q _ (I.hok.fresh (bT _))⟩
 exact⟨Nat.le_trans (uc xs lo hi) hz,_,0,(r.drop (HT.gJ xs.length 0 lo)).take (HT.gJ xs.length xs.length hi - HT.gJ xs.length 0 lo),xf _ rfl⟩
noncomputable def jA:V->Bool
 | .non=>true
 | .bl _=>true
 | .int _=>true
 | .str _=>true
 | _=>false
noncomputable def Ot:V->V->Bool
 | .non,.non=>true
 | .bl a,.bl b=>a == b
 | .bl a,.int b=>(if a then 1 else 0) == b
 | .int a,.bl b=>a == (if b then 1 else 0)
 | .int a,.int b=>a == b
 | .str a,.str b=>a == b
 | _,_=>false
theorem Jr{A:Around}{s:Shared}{y x:V}{u v:Value}(ry:RelV y u)(rx:RelV x v)(fy:jA y=true)(fx:jA x=true):SeqAt.EqAt A s u v (Ot y x):=by
 cases y with
 | non=>
  cases ry
  cases x with
  | non=>cases rx;exact SeqAt.EqAt.same _
  | bl b=>cases rx;exact SeqAt.EqAt.none_bool b
  | int b=>obtain⟨t,rfl⟩:=rx;exact SeqAt.EqAt.none_int b t
  | str b=>obtain⟨t,rfl⟩:=rx;exact SeqAt.EqAt.none_str b t
  | _=>exact absurd (show false=true from fx) qX
 | bl a=>
  cases ry
  cases x with
  | non=>cases rx;exact SeqAt.EqAt.bool_none a
  | bl b=>cases rx;exact SeqAt.EqAt.bool_bool a b
  | int b=>obtain⟨t,rfl⟩:=rx;exact SeqAt.EqAt.bool_int a b t
  | str b=>obtain⟨t,rfl⟩:=rx;exact SeqAt.EqAt.bool_str a b t
  | _=>exact absurd (show false=true from fx) qX
 | int a=>
  obtain⟨t',rfl⟩:=ry
  cases x with
  | non=>cases rx;exact SeqAt.EqAt.int_none a t'
  | bl b=>cases rx;exact SeqAt.EqAt.int_bool a t' b
  | int b=>obtain⟨t,rfl⟩:=rx;exact SeqAt.EqAt.int_int a t' b t
  | str b=>obtain⟨t,rfl⟩:=rx;exact SeqAt.EqAt.int_str a t' b t
  | _=>exact absurd (show false=true from fx) qX
 | str a=>
  obtain⟨t',rfl⟩:=ry
  cases x with
  | non=>cases rx;exact SeqAt.EqAt.str_none a t'
  | bl b=>cases rx;exact SeqAt.EqAt.str_bool a t' b
  | int b=>obtain⟨t,rfl⟩:=rx;exact SeqAt.EqAt.str_int a t' b t
  | str b=>obtain⟨t,rfl⟩:=rx;exact SeqAt.EqAt.str_str a t' b t
  | _=>exact absurd (show false=true from fx) qX
 | _=>exact absurd (show false=true from fy) qX
noncomputable def Jq(x:V)(u:Value):Bool:=match u with
 | .none=>Ot .non x
 | .bool b=>Ot (.bl b) x
 | .int i _=>Ot (.int i) x
 | .str z _=>Ot (.str z) x
 | _=>false
theorem U0{x y:V}{u:Value}(r:RelV y u)(f:jA y=true):Jq x u=Ot y x:=by
 cases y with
 | non=>cases r;rfl
 | bl b=>cases r;rfl
 | int i=>obtain⟨t,rfl⟩:=r;rfl
 | str z=>obtain⟨t,rfl⟩:=r;rfl
 | _=>exact absurd (show false=true from f) qX
theorem sG{x:V}:∀ {xs:List V} {us:List Value},Vals xs us->xs.all jA=true->us.any (Jq x)=xs.any fun y=>Ot y x
 | _,_,.nil,_=>rfl
 | y :: xs,u :: us,.cons r t,f=>by
  rw[List.all_cons,Bool.and_eq_true]at f
  rw[List.any_cons,List.any_cons,U0 r f.1,sG t f.2]
theorem nT{A:Around}{s:Shared}{x:V}{v:Value}(rx:RelV x v)(fx:jA x=true):∀ {xs:List V} {us:List Value},Vals xs us->xs.all jA=true->∀ u∈us,SeqAt.EqAt A s u v (Jq x u)
 | _,_,.nil,_=>fun u hu=>by cases hu
 | y :: xs,u :: us,.cons r t,f=>fun u' hu=>by
  rw[List.all_cons,Bool.and_eq_true]at f
  rcases bY.mp hu with rfl | hu
  ·rw[U0 r f.1];exact Jr r rx f.1 fx
  ·exact nT rx fx t f.2 u' hu
noncomputable def inV(x:V)(xs:List V):Bool:=xs.any fun y=>Ot y x
noncomputable def rIn(K:bO)(neg:Bool):R2:=fun x y H Q => ∃ p xs,y = .ref p/\(aQ K H p xs ∨ aL K H p xs)/\jA x=true/\xs.all jA=true/\Q (.bl (if neg then !inV x xs else inV x xs)) H
theorem za:jK X (compareOp .In) (rIn X.K false):=by
 intro pins s σ H x y v u Q I rx ry h
 obtain⟨p,xs,rfl,hq,fx,fs,q⟩:=h
 cases ry
 rcases hq with hq | hq
 ·obtain⟨its,r,pl,hz⟩:=I.list hq
  refine SeqAt.in_listAt (Jq x) pl.isList (fun w hw=>nT rx fx r fs w (by simpa using hw)) ⟨.bl _,H,I,rfl,?_⟩
  rw[show its.toArray.any (Jq x)=its.any (Jq x) by simp,sG r fs]
  exact q
 ·obtain⟨its,r,pl,hz⟩:=I.tuple hq
  refine SeqAt.in_tupleAt (Jq x) pl (fun w hw=>nT rx fx r fs w (by simpa using hw)) ⟨.bl _,H,I,rfl,?_⟩
  rw[show its.toArray.any (Jq x)=its.any (Jq x) by simp,sG r fs]
  exact q
theorem lG:jK X (compareOp .NotIn) (rIn X.K true):=by
 intro pins s σ H x y v u Q I rx ry h
 obtain⟨p,xs,rfl,hq,fx,fs,q⟩:=h
 cases ry
 rcases hq with hq | hq
 ·obtain⟨its,r,pl,hz⟩:=I.list hq
  refine SeqAt.notIn_listAt (Jq x) pl.isList (fun w hw=>nT rx fx r fs w (by simpa using hw)) ⟨.bl _,H,I,rfl,?_⟩
  rw[show its.toArray.any (Jq x)=its.any (Jq x) by simp,sG r fs]
  exact q
 ·obtain⟨its,r,pl,hz⟩:=I.tuple hq
  refine SeqAt.notIn_tupleAt (Jq x) pl (fun w hw=>nT rx fx r fs w (by simpa using hw)) ⟨.bl _,H,I,rfl,?_⟩
  rw[show its.toArray.any (Jq x)=its.any (Jq x) by simp,sG r fs]
  exact q
theorem zN:jz X (.builtin "len") (fun xs H Q => ∃ p ys,xs=[.ref p]/\(aQ X.K H p ys ∨ aL X.K H p ys)/\Q (.int ys.length) H):=by
 intro pins s σ H xs us Q I r h
 obtain⟨p,ys,rfl,hq,q⟩:=h
 obtain⟨u,rfl,rx⟩:=vals1 r
 cases rx
 have hn:=tX
 rcases hq with hq | hq
 ·obtain⟨its,r',pl,hz⟩:=I.list hq
  have hlen:=r'.length
  exact Calls.call_len_list pl.isList (by simp only[List.size_toArray] <;> lia) ⟨.int ys.length,H,I.tok _,⟨s.toks+1,by rw[List.size_toArray,hlen]⟩,q⟩
 ·obtain⟨its,r',pl,hz⟩:=I.tuple hq
  have hlen:=r'.length
  exact len_tuple pl (by simp only[List.size_toArray] <;> lia) ⟨.int ys.length,H,I.tok _,⟨s.toks+1,by rw[List.size_toArray,hlen]⟩,q⟩
theorem DG:jz X (.builtin "len") (fun xs H Q => ∃ z,xs=[.str z]/\z.length<=sizeLine/\Q (.int z.length) H):=by
 intro pins s σ H xs us Q I r h
 obtain⟨z,rfl,hz,q⟩:=h
 obtain⟨u,rfl,t,rfl⟩:=vals1 r
 have hn:=tX
 exact len_str (by lia) ⟨.int z.length,H,I.tok _,⟨_,rfl⟩,q⟩
theorem cL:jz X (.type "list") (fun xs H Q => ∃ p ys,xs=[.ref p]/\(aQ X.K H p ys ∨ aL X.K H p ys)/\∀ l,H l=none->Q (.ref l) (upd H l (.lst ys))):=by
 intro pins s σ H xs us Q I r h
 obtain⟨p,ys,rfl,hq,q⟩:=h
 obtain⟨u,rfl,rx⟩:=vals1 r
 cases rx
 have fin:∀(its:List Value),Vals ys its->ys.length<=sizeLine->∀(h':Heap)(c':Nat),(∀ b o',s.heap.get? b=some o'->h'.get? b=some o') →
   h'.get? s.heap.objs.size=some { cls:=.type "list",dict:=none,data:=.seq its.toArray c',slots:=#[] }->EP X pins σ Q (.ref s.heap.objs.size) { s with heap:=h' }:=fun its r' hz h' c' kp e=>
  ⟨.ref s.heap.objs.size,_,I.laid (t':=s.toks) kp (bT _) (show bN X.prog X.w _ h' _ (.lst ys) from ⟨hz,its,c',r',e⟩),rfl,q _ (I.hok.fresh (bT _))⟩
 rcases hq with hq | hq
 ·obtain⟨its,r',pl,hz⟩:=I.list hq
  have hlen:=r'.length
  obtain⟨o,ho,hc,n,hd⟩:=pl.isList
  exact call_list_seq p (.inl rfl) ho hc hd (fun h' c' kp e=>fin its r' hz h' c' kp e) (by simp only[List.size_toArray] <;> lia)
 ·obtain⟨its,r',pl,hz⟩:=I.tuple hq
  have hlen:=r'.length
  obtain⟨o,ho,hc,n,hd⟩:=pl
  exact call_list_seq p (.inr rfl) ho hc hd (fun h' c' kp e=>fin its r' hz h' c' kp e) (by simp only[List.size_toArray] <;> lia)
theorem zX:jz X (.type "tuple") (fun xs H Q => ∃ p ys,xs=[.ref p]/\((aQ X.K H p ys/\∀ l,H l=none->Q (.ref l) (upd H l (.tup ys))) ∨ (aL X.K H p ys/\Q (.ref p) H))):=by
 intro pins s σ H xs us Q I r h
 obtain⟨p,ys,rfl,h⟩:=h
 obtain⟨u,rfl,rx⟩:=vals1 r
 cases rx
 rcases h with ⟨hq,q⟩ | ⟨hq,q⟩
 ·obtain⟨its,r',pl,hz⟩:=I.list hq
  have hlen:=r'.length
  refine call_tuple_list pl.isList (fun h' kp=>?_) (by simp only[List.size_toArray] <;> lia)
  have I1:Inv X pins σ H { s with heap:=h' }:=I.kept (t':=s.toks) kp
  have I2:Inv X pins σ (upd H h'.objs.size (.tup ys)) { s with heap:=h'.push { cls:=.type "tuple",data:=.seq its.toArray } }:=
   I1.laid (t':=s.toks) (fun b o e=>jJ _ e) (bT _) (show bN X.prog X.w _ _ _ (.tup ys) from ⟨hz,its,r',IsTup.new _ _⟩)
  exact⟨.ref h'.objs.size,_,I2,rfl,q _ (I1.hok.fresh (bT _))⟩
 ·obtain⟨its,r',pl,hz⟩:=I.tuple hq
  exact call_tuple_same pl ⟨.ref p,H,I,rfl,q⟩
noncomputable def tyV(K:bO)(T:String)(x:V)(H:Hp):Prop:=match x with
 | .str _=>T = "str"
 | .int _=>T = "int"
 | .ref p=>(T = "list" /\ ∃ xs,aQ K H p xs) ∨ (T = "tuple" /\ ∃ o,K.lookup p=some o/\o.cls = .type "tuple" /\ o.dict=none) ∨
   (T = "dict" /\ ((∃ kvs,H p=some (.dK kvs)) ∨ ∃ kvs,H p=some (.dT kvs))) ∨ (T = "set" /\ ∃ S n,H p=some (.set S n))
 | _=>False
theorem QH{pins:List (Addr × Obj)}{σ:St}{H:Hp}{s:Shared}{T:String}{x:V}{v:Value}(I:Inv X pins σ H s)(r:RelV x v)(ty:tyV X.K T x H) :
  s.TypeIs v T/\∀ a,v = .ref a->∃ ob,s.heap.get? a=some ob/\ob.dict=none:=by
 cases x with
 | str z=>
  obtain⟨t,rfl⟩:=r
  cases (show T = "str" from ty)
  exact⟨typeIs_str s z t,fun _ e=>nomatch e⟩
 | int i=>
  obtain⟨t,rfl⟩:=r
  cases (show T = "int" from ty)
  exact⟨typeIs_int s i t,fun _ e=>nomatch e⟩
 | ref p=>
  cases r
  rcases ty with ⟨rfl,xs,hq⟩ | ⟨rfl,o,hk,hc,hd⟩ | ⟨rfl,hk⟩ | ⟨rfl,S,n,hk⟩
  ·obtain⟨its,_,pl,_⟩:=I.list hq
   refine⟨pl.isList.typeIs,fun a e=>?_⟩
   cases e
   obtain⟨o,n,e,c,hd,_⟩:=pl
   exact⟨o,e,hd⟩
  ·refine⟨⟨o,I.mV p o hk,hc⟩,fun a e=>?_⟩
   cases e
   exact⟨o,I.mV _ o hk,hd⟩
  ·have z:∃ o,s.heap.get? p=some o/\o.ExactDict:=by
    rcases hk with ⟨kvs,hk⟩ | ⟨kvs,hk⟩
    ·obtain⟨_,_,_,_,o,_,_,e,ex,_⟩:=I.hok p _ hk
     exact⟨o,e,ex⟩
    ·obtain⟨_,_,_,_,o,_,_,e,ex,_⟩:=I.hok p _ hk
     exact⟨o,e,ex⟩
   obtain⟨o,e,ex⟩:=z
   refine⟨⟨o,e,ex.1⟩,fun a e2=>?_⟩
   cases e2
   exact⟨o,e,ex.2.1⟩
  ·obtain⟨o,_,_,_,e,ex,_⟩:=I.hok p _ hk
   refine⟨⟨o,e,ex.1⟩,fun a e2=>?_⟩
   cases e2
   exact⟨o,e,ex.2.1⟩
 | _=>exact False.elim ty
noncomputable def qGB(K:bO)(T:String)(r:V->List V->Hp->VK->Prop)(to:TE):TE:=fun σ H Q=>to σ H fun x H1=>tyV K T x H1/\r x [] H1 Q
noncomputable def tBM(K:bO)(T:String)(r:V->List V->Hp->VK->Prop)(to:TE)(t:TA):TE:=fun σ H Q=>to σ H fun x H1=>tyV K T x H1/\t σ H1 fun xs H2=>r x xs H2 Q
variable{o e:Expr}{es:List Expr}{to:TE}{t:TA}{name:Str}{apos cpos:Pos}{T id:String}{r:V->List V->Hp->VK->Prop}
theorem R9(pa:PlainAttrs T)(slot:Slot T name id)(hty:typeOf (.builtin id)=pure (.type "method_descriptor"))(hm:MtR X id r)(ho:PE X o to)
  (hbase:attributeBase o name X.env (eval o X.env)=eval o X.env:=by rfl) (hline:(apos.endLine == cpos.line)=true:=by rfl):PE X (.Call (.Attribute o name apos) [] [] cpos) (qGB X.K T r to):=by
 intro pins s σ H Q I h
 refine wpAny_Call_method0_late hbase hline (bJ (ho pins s σ H _ I h) fun v s1 ⟨x,H1,I1,r1,ty,q1⟩=>?_)
 obtain⟨h1,h2⟩:=QH I1 r1 ty
 exact⟨T,id,pa,slot,hty,h1,h2,Calls.callWith_builtin rfl (PySem.evalArgs_none (hm pins s1 σ H1 x [] v [] Q I1 r1 .nil q1))⟩
theorem dz(pa:PlainAttrs T)(slot:Slot T name id)(hty:typeOf (.builtin id)=pure (.type "method_descriptor"))(hm:MtR X id r)(ho:PE X o to)(ha:PA X (e :: es) t)
  (hbase:attributeBase o name X.env (eval o X.env)=eval o X.env:=by rfl)
  (hfew:((backTo cpos (starEach (e :: es) X.env)).all (fun x => !x.1) && (backToKw cpos (keywordEach [] X.env)).all (fun x=>x.1.isSome)
   && decide ((e :: es).length+([]:List Keyword).length+(if ([]:List Keyword).isEmpty then 0 else 1) < 30))=true:=by rfl)
  (hline:(apos.endLine == cpos.line)=true:=by rfl) (hs:starEach (e :: es) X.env=(false,eval e X.env) :: starEach es X.env:=by rfl) (hplain:(backTo cpos (starEach es X.env)).any (·.1)=false:=by rfl) :
  PE X (.Call (.Attribute o name apos) (e :: es) [] cpos) (tBM X.K T r to t):=by
 intro pins s σ H Q I h
 refine wpAny_Call_method_late hbase hfew hline rfl (bJ (ho pins s σ H _ I h) fun v s1 ⟨x,H1,I1,r1,ty,q1⟩=>?_)
 obtain⟨h1,h2⟩:=QH I1 r1 ty
 refine⟨T,id,pa,slot,hty,h1,h2,?_⟩
 have hA:=ha cpos pins s1 σ H1 _ I1 q1
 rw[hs]at hA ⊢
 refine Calls.callWith_builtin (by show (false || (backTo cpos (starEach es X.env)).any (·.1))=false;rw[hplain] <;> rfl) (Calls.evalArgs_plain ?_)
 exact bJ hA fun us s2 ⟨vs,H2,I2,r2,q2⟩=>hm pins s2 σ H2 x vs v us Q I2 r1 r2 q2
end
noncomputable def MtM(X:Cx)(id:String)(r:V->List V->Hp->VK->Prop):Prop:=
 ∀(pins:List (Addr × Obj))(s:Shared)(σ:St)(H:Hp)(x:V)(xs:List V)(v:Value)(us:List Value)(Q:VK),Inv X pins σ H s->RelV x v->Vals xs us->r x xs H Q →
  wpAny (model X.prog X.w) X.A (call (.builtin id) (v :: us)) (EP X pins σ Q) X.xe s
theorem Vals.one:∀ {x:V} {us:List Value},Vals [x] us->∃ u,us=[u]/\RelV x u
 | _,_,.cons r .nil=>⟨_,rfl,r⟩
theorem Vals.zero:∀ {us:List Value},Vals [] us->us=[]
 | _,.nil=>rfl
theorem Vals.dropLast{xs:List V}{us:List Value}(h:Vals xs us):Vals xs.dropLast us.dropLast:=by
 induction h with
 | nil=>exact .nil
 | cons r t ih=>
  cases t with
  | nil=>exact .nil
  | cons q t'=>exact .cons r ih
theorem Vals.eraseIdx:∀ {xs:List V} {us:List Value} (i:Nat),Vals xs us->Vals (xs.eraseIdx i) (us.eraseIdx i)
 | _,_,_,.nil=>.nil
 | _,_,0,.cons _ t=>t
 | _,_,i+1,.cons r t=>.cons r (Vals.eraseIdx i t)
theorem Vals.rep{xs:List V}{us:List Value}(h:Vals xs us):∀ k:Nat,Vals (List.replicate k xs).flatten (List.replicate k us).flatten
 | 0=>.nil
 | k+1=>by
  rw[List.replicate_succ,List.replicate_succ,List.flatten_cons,List.flatten_cons]
  exact Vals.append h (Vals.rep h k)
theorem Jp{α:Type}(l:List α):l.eraseIdx (l.length - 1)=l.dropLast:=by
 induction l with
 | nil=>rfl
 | cons a r ih=>
  cases r with
  | nil=>rfl
  | cons b r=>
   have e:(a :: b :: r).length - 1=((b :: r).length - 1)+1:=by
    have h1:(a :: b :: r).length=r.length+2:=rfl
    have h2:(b :: r).length=r.length+1:=rfl
    lia
   rw[e,List.eraseIdx_cons_succ,ih]
   all_goals rfl
theorem zx{α:Type}:∀(l:List α)(i:Nat),(l.eraseIdx i).length<=l.length
 | [],_=>bT _
 | _ :: _,0=>Nat.le_succ _
 | _ :: r,i+1=>Nat.succ_le_succ (zx r i)
theorem foldl_rep(its:List Value):∀(k:Nat)(acc:List Value),
  List.foldl (fun x1 x2=>x1++x2) acc.toArray (List.replicate k its.toArray)=(acc++(List.replicate k its).flatten).toArray
 | 0,acc=>by simp
 | k+1,acc=>by
  have e:acc.toArray++its.toArray=(acc++its).toArray:=by simp
  have e2:(acc++its)++(List.replicate k its).flatten=acc++(List.replicate (k+1) its).flatten:=by
   rw[List.replicate_succ,List.flatten_cons,List.append_assoc]
  rw[<-e2,<-foldl_rep its k (acc++its),<-e,List.replicate_succ,List.foldl_cons]
section
variable{X:Cx}{pins:List (Addr × Obj)}{σ:St}{H:Hp}{s:Shared}{l b:Addr}{xs ys zs:List V}
theorem Inv.SJ{its its':List Value}{n:Nat}{f:Array Value->Array Value}{t':Nat}(I:Inv X pins σ H s)(hH:H l=some (.lst xs))
  (e:s.heap.get? l=some { cls:=.type "list",data:=.seq its.toArray n }) (hf:f its.toArray=its'.toArray) (hv:Vals ys its') (hz:ys.length<=sizeLine) :
  Inv X pins σ (upd H l (.lst ys)) { s with heap:=s.heap.update l (Obj.mapSeq f),toks:=t' }:=by
 have q:=PySem.IsL.update e f
 rw[hf]at q
 refine I.write (x:=l) (e:=l) (by rw[hH];exact trivial) (.inl rfl) (fun b' u hb hu=>(Heap.get?_update_other s.heap (Obj.mapSeq f) (Ne.symm hb)).trans hu) ⟨_,q⟩ ?_
 exact⟨hz,its',_,hv,q⟩
theorem Inv.qH0{its:List Value}{t':Nat}(I:Inv X pins σ H s)(hv:Vals ys its)(hz:ys.length<=sizeLine) :
  Inv X pins σ (upd H s.heap.objs.size (.lst ys)) { s with heap:=s.heap.push { cls:=.type "list",data:=.seq its.toArray },toks:=t' }:=
 I.laid (fun _ _ q=>jJ _ q) (bT _) ⟨hz,its,0,hv,xf _ rfl⟩
theorem Inv.fresh(I:Inv X pins σ H s):H s.heap.objs.size=none:=I.hok.fresh (bT _)
theorem Inv.GJ(I:Inv X pins σ H s)(hH:H l=some (.lst xs)):xs.length<=sizeLine/\∃(its:List Value)(n:Nat),Vals xs its/\xs.length=its.length/\s.heap.get? l=some { cls:=.type "list",data:=.seq its.toArray n }:=by
 obtain⟨z,its,n,r,e⟩:=I.hok l _ hH
 exact⟨z,its,n,r,r.length,e⟩
theorem Rn{n:Nat}(h:n<=sizeLine):Builtin.List.listTooLong n=false:=by
 unfold Builtin.List.listTooLong
 exact decide_eq_false (by lia)
end
section
variable{X:Cx}
noncomputable def Vr:V->List V->Hp->VK->Prop:=fun x vs H Q => ∃ l xs y,x = .ref l/\vs=[y]/\H l=some (.lst xs)/\xs.length < sizeLine/\Q .non (upd H l (.lst (xs++[y])))
theorem yH:MtM X "list.append" Vr:=by
 intro pins s σ H x vs v us Q I rx rv h
 obtain⟨l,xs,y,rfl,rfl,hH,hz,q⟩:=h
 cases rx
 obtain⟨u,rfl,ru⟩:=rv.one
 obtain⟨z,its,n,r,hl,e⟩:=I.GJ hH
 refine call_meets F.slot_list_append ⟨_,e,rfl⟩ F.entry_list_append (F.args_list_append_2 _ _) (PySem.list_append l its.toArray n u (by rw[qd];lia)) ⟨e,?_⟩
 refine⟨.non,_,I.SJ (its':=its++[u]) hH e (by simp) (r.append (.cons ru .nil)) ?_,rfl,q⟩
 rw[fU,jf]
 lia
noncomputable def Vq:V->List V->Hp->VK->Prop:=fun x vs H Q => ∃ l b xs zs,x = .ref l/\vs=[.ref b]/\H l=some (.lst xs)/\H b=some (.lst zs)/\xs.length+zs.length<=sizeLine/\Q .non (upd H l (.lst (xs++zs)))
theorem iQ:MtM X "list.extend" Vq:=by
 intro pins s σ H x vs v us Q I rx rv h
 obtain⟨l,b,xs,zs,rfl,rfl,hH,hB,hz,q⟩:=h
 cases rx
 obtain⟨u,rfl,ru⟩:=rv.one
 cases ru
 obtain⟨z,its,n,r,hl,e⟩:=I.GJ hH
 obtain⟨z2,its2,n2,r2,hl2,e2⟩:=I.GJ hB
 have hsz:its.toArray.size+its2.toArray.size<=sizeLine:=by rw[qd,qd];lia
 have qDX:¬ (!its.toArray.isEmpty && Builtin.List.listTooLong (its.toArray.size+its2.toArray.size))=true:=by
  rw[Rn hsz,Bool.and_false]
  exact qX
 refine call_meets F.slot_list_extend ⟨_,e,rfl⟩ F.entry_list_extend (F.args_list_extend_2 _ _)
  (AutoSeq1.list_extend_list_list_0 l its.toArray n b its2.toArray n2 qDX (by rw[qd];lia) (by lia)) ⟨e,e2,?_⟩
 refine⟨.non,_,I.SJ (its':=its++its2) hH e (by simp) (r.append r2) ?_,rfl,q⟩
 rw[fU]
 lia
noncomputable def qGK:V->List V->Hp->VK->Prop:=fun x vs H Q => ∃ l xs y,x = .ref l/\vs=[]/\H l=some (.lst xs)/\xs[xs.length - 1]? = some y/\Q y (upd H l (.lst xs.dropLast))
theorem Ze:MtM X "list.pop" qGK:=by
 intro pins s σ H x vs v us Q I rx rv h
 obtain⟨l,xs,y,rfl,rfl,hH,hy,q⟩:=h
 cases rx
 have hus:=rv.zero
 subst hus
 obtain⟨z,its,n,r,hl,e⟩:=I.GJ hH
 obtain⟨u,hu,ru⟩:=r.get hy
 have hy':its.toArray[its.toArray.size - 1]? = some u:=by
  show its.toArray[its.length - 1]? = some u
  rw[<-Array.getElem?_toList,<-hl]
  exact hu
 refine call_meets F.slot_list_pop ⟨_,e,rfl⟩ F.entry_list_pop (F.args_list_pop_1 _) (MeetsSeq.list_pop_last l its.toArray n u hy' (by rw[qd];lia)) ⟨e,?_⟩
 refine⟨y,_,I.SJ (its':=its.dropLast) hH e ?_ r.dropLast ?_,ru,q⟩
 ·show its.toArray.eraseIdxIfInBounds (its.toArray.size - 1)=its.dropLast.toArray
  rw[qd,List.eraseIdxIfInBounds_toArray,Jp]
 ·rw[List.length_dropLast]
  lia
noncomputable def Z5:V->List V->Hp->VK->Prop:=fun x vs H Q => ∃ l xs i k y,x = .ref l/\vs=[.int i]/\H l=some (.lst xs) /\ -(2 ^ 63)<=i/\i < 2 ^ 63/\seqIndex? i xs.length=some k/\xs[k]? = some y/\Q y (upd H l (.lst (xs.eraseIdx k)))
theorem Rt:MtM X "list.pop" Z5:=by
 intro pins s σ H x vs v us Q I rx rv h
 obtain⟨l,xs,i,k,y,rfl,rfl,hH,h1,h2,hk,hy,q⟩:=h
 cases rx
 obtain⟨u,rfl,ru⟩:=rv.one
 obtain⟨t,rfl⟩:=ru
 obtain⟨z,its,n,r,hl,e⟩:=I.GJ hH
 obtain⟨w,hw,Qp⟩:=r.get hy
 refine call_meets F.slot_list_pop ⟨_,e,rfl⟩ F.entry_list_pop (F.args_list_pop_2 _ _)
  (MeetsSeq.list_pop_at l its.toArray n i t k w (fitsIndex_both h1 h2) (by rw[qd,<-hl];exact hk) (by rw[<-Array.getElem?_toList];exact hw) (by rw[qd];lia)) ⟨e,?_⟩
 refine⟨y,_,I.SJ (its':=its.eraseIdx k) hH e ?_ (r.eraseIdx k) ?_,Qp,q⟩
 ·show its.toArray.eraseIdxIfInBounds k=(its.eraseIdx k).toArray
  rw[List.eraseIdxIfInBounds_toArray]
 ·have:=zx xs k
  lia
noncomputable def Z6:V->List V->Hp->VK->Prop:=fun x vs H Q => ∃ l xs,x = .ref l/\vs=[]/\H l=some (.lst xs)/\Q .non (upd H l (.lst []))
theorem Rw:MtM X "list.clear" Z6:=by
 intro pins s σ H x vs v us Q I rx rv h
 obtain⟨l,xs,rfl,rfl,hH,q⟩:=h
 cases rx
 have hus:=rv.zero
 subst hus
 obtain⟨z,its,n,r,hl,e⟩:=I.GJ hH
 refine call_meets F.slot_list_clear ⟨_,e,rfl⟩ F.entry_list_clear (F.args_list_clear_1 _) (AutoSeq1.list_clear_list_0 l its.toArray n (by rw[qd];lia)) ⟨e,?_⟩
 exact⟨.non,_,I.SJ (its':=[]) (ys:=[]) hH e rfl .nil (Nat.zero_le _),rfl,q⟩
noncomputable def qGM:R2:=fun x y H Q => ∃ l b xs zs,x = .ref l/\y = .ref b/\H l=some (.lst xs)/\H b=some (.lst zs)/\xs.length+zs.length<=sizeLine/\∀ p,H p=none->Q (.ref p) (upd H p (.lst (xs++zs)))
theorem Br:jK X (binaryOp .Add) qGM:=by
 intro pins s σ H x y v u Q I rx ry h
 obtain⟨l,b,xs,zs,rfl,rfl,hH,hB,hz,q⟩:=h
 cases rx
 cases ry
 obtain⟨z,its,n,r,hl,e⟩:=I.GJ hH
 obtain⟨z2,its2,n2,r2,hl2,e2⟩:=I.GJ hB
 refine PySem.P.add_list e e2 ?_ (by rw[qd,qd];lia)
 have ea:its.toArray++its2.toArray=(its++its2).toArray:=by simp
 rw[ea]
 exact⟨.ref _,_,I.qH0 (t':=s.toks) (r.append r2) (by rw[fU];lia),rfl,q _ I.fresh⟩
theorem len_rep{α:Type}(xs:List α)(k:Nat):(List.replicate k xs).flatten.length=k * xs.length:=by
 induction k with
 | zero=>simp
 | succ k ih=>rw[List.replicate_succ,List.flatten_cons,fU,ih,Nat.succ_mul,Nat.add_comm]
end
section
variable{prog:Program}{w:World}{A:Around}{E:Value->Shared->Prop}{s:Shared}
end
section
variable{X:Cx}
end
end L2
namespace Att
open PySem PySem.W PySem.Calls PyProof.Rows
theorem um{P:Params}{h:Heap}:∀(ns:List Int)(vs:List Value),WellAll P h vs (ns.map WData.int)->IntsAre vs ns:=by
 intro ns
 induction ns with
 | nil=>
  intro vs w
  rw[List.map_nil]at w
  cases w
  exact .nil
 | cons n ns ih=>
  intro vs w
  rw[List.map_cons]at w
  cases w with
  | cons a b=>
   cases a
   exact .cons _ _ (ih _ b)
theorem Mx{l:OpenLaw}{n:Nat}(hn:l.most=some n){P:Params}{h:Heap}{args:List WData}{vals:List Value}
  (hpre:l.row.toRowW.claim.pre args=true) (hwl:WellAll P h vals args) :
  ∃ a vs ns,vals=[Value.ref a]/\args=[WData.list (ns.map WData.int)]/\h.get? a=some { cls:=.type "list",data:=.seq vs.toArray }/\IntsAre vs ns/\ns.length<=n:=by
 have hsh:WShape.hasAll [] args [.list .int]=true:=(pre_splitW hpre).1
 have hc:l.pre.holds [] { args:=args }=true:=(pre_splitW hpre).2
 obtain⟨d,r,rfl,h1,h2⟩:=hasAllW_cons hsh
 obtain rfl:=hasAllW_nil h2
 obtain⟨xs,rfl,h3⟩:=hasW_list h1
 obtain⟨ns,rfl⟩:=items_int h3
 have hlen:ns.length<=n:=by
  unfold OpenLaw.pre at hc
  have h4:(WTm.not (.lt (.lit (.int (n:Int))) (.len (.arg 0)))).holds [] { args:=[.list (ns.map .int)] }=true:=by
   have h4:=(holds_andW hc).1
   rw[hn]at h4
   exact h4
  have h5:=condW_of h4 (w_not (w_lt w_lit (w_len_list (w_arg rfl))))
  rw[bZ]at h5
  refine Nat.le_of_not_lt fun q=>?_
  have q':(n:Int) < ((ns.length:Nat):Int):=by lia
  first
   | (rw[decide_eq_true q']at h5;exact absurd h5 (by decide))
   | (simp at h5;lia)
 cases hwl with
 | cons w1 w2=>
  cases w2
  cases w1 with
  | list ho hall=>exact⟨_,_,ns,rfl,rfl,ho,um ns _ hall,hlen⟩
theorem NK(l:OpenLaw)(args:List WData):l.row.toRowW.claim.post args (.bool true) args=true:=
 postW_of (r:=l.row.toRowW) (X:=(true == true))
  (show WShape.has [] (.bool true) .bool=true by first | rfl | decide | simp [WShape.has,WShape.arms,WShape.armsAll])
  (show (WTm.eq .res (.lit (.bool true))).value [] { args:=args,res:=some (.bool true),after:=args }=some (.bool (true == true)) from w_eq_bool (w_res rfl) w_lit) rfl
theorem Gw{l:OpenLaw}{n:Nat}{q:Program}{loose:List Str}{XP:(Str->Option Value)->Heap->Prop}{YP:World->Heap->Prop}{d:DefRec}
  (hn:l.most=some n) (hdf:d.params.defaults=[])
  (call:∀(w:World)(s₀ s₁:Shared)(mg mb:Str->Option Value)(fa:Addr)(o:Obj)(pm cd doc:Value)(a:Addr)(vs:List Value)(ns:List Int),
   Ground q loose [] XP w s₀ mg mb s₁.heap->YP w s₁.heap →
   s₁.heap.get? fa=some o->o.data = .func (docDef d.name d.params d.body d.scope pm cd doc)->s₁.heap.CodeRec cd d.name->mg d.name=some (.ref fa) →
   s₁.heap.get? a=some { cls:=.type "list",data:=.seq vs.toArray }->IntsAre vs ns->ns.length<=n->s₁.gens = #[] →
   codeAny (model l.prog w) callerA (.call (.ref fa) ⟨[.ref a],[]⟩) (fun r s'=>r = .ok (.ret (.bool true))/\OldK s₁.heap s'.heap/\s'.os=s₁.os/\AllBare s'.gens) s₁) :
  WalkO q loose XP YP l.row.toRowW d [] (fun f vs=>PySem.call f vs):=by
 intro w s₀ s₁ mg mb G Y fa o pm cd doc dV kV ho hd hcd hD hmg hg args vals as hpre hlay hrd hwl hlo
 obtain rfl:dV = .none:=Dflts.none hD hdf
 obtain rfl:kV = .none:=Dflts.noKw hD
 obtain⟨a,vs,ns,rfl,rfl,hobj,hints,hlen⟩:=Mx hn hpre hwl
 refine enter_call (codeAny_mono (call w s₀ s₁ mg mb fa o pm cd doc a vs ns G Y ho (fd_plain hd) hcd hmg hobj hints hlen hg) fun r s' hq=>?_)
 obtain⟨rfl,h2,h3,h4⟩:=hq
 exact⟨.inl ⟨.bool true,.bool true,[],rfl,fun _=>rfl,.bool true,NK l _,fun _=>⟨List.Pairwise.nil,fun _ hm=>(nomatch hm)⟩⟩,h2,h3,h4⟩
section
variable{prog:Program}{w:World}{A:Around}{E:Value->Shared->Prop}{s:Shared}{K:Frag}
end
end Att
namespace L2
open PySem PySem.Spec PyProof.Rows
theorem jg:∀ {vs:List Value} {ns:List Int},IntsAre vs ns->Vals (ns.map V.int) vs
 | _,_,.nil=>.nil
 | _,_,.cons n t h=>.cons ⟨t,rfl⟩ (jg h)
noncomputable def Only(H:Hp):Prop:=∀ b,H b=none ∨ ∃ o xs,H b=some (.Jg o (.lst xs))
theorem law_call{P:Program}{w:World}{K:bO}{mg mb:Str->Option Value}{CX:KZ}{k:Nat}{fa a:Addr}{fd:FuncData}{x:Str}{sp:Sp}{s₁:Shared}{vs:List Value}{ns:List Int}
  (KX:K.In s₁.heap) (hns:s₁.heap.Ns mainGlobals mg) (hb:s₁.heap.Ns builtinsNs mb) (hbb:∀ x:Str,x ≠ "__name__" -> mb x=bootBuiltins x) (hlim:s₁.heap.NoLimit) (hg:s₁.gens = #[])
  (ha:s₁.heap.get? a=some { cls:=.type "list",data:=.seq vs.toArray }) (hi:IntsAre vs ns) (hl:ns.length<=sizeLine) (hr:fP k callerA)
  (F:∀ base:Heap,K.In base->base.Ns mainGlobals mg->aG P w K mg base CX k fa fd [x] sp) (hbind:∀(s:Shared)(u:Value),BindsTo s fd ⟨[u],[]⟩ [(x,u)])
  (hsp:∀ H:Hp,Only H->aQ K H a (ns.map V.int)->sp [.ref a] H (fun v _=>v = .bl true) fun _ _ _=>False)
  (hCX:∀ H e s',CX [] H s₁ (fun _ _ _=>False) e s'->False) :
  codeAny (model P w) callerA (.call (.ref fa) ⟨[.ref a],[]⟩) (fun r s'=>r = .ok (.ret (.bool true))/\OldK s₁.heap s'.heap/\s'.os=s₁.os/\AllBare s'.gens) s₁:=by
 have rv:=jg hi
 have lenV:=hi.length
 -- from an abstract heap in which nothing but the script may be tracked
 have core:∀ H:Hp,Only H->aQ K H a (ns.map V.int)->jL P w H s₁.heap->(∀ b,H b ≠ none->b=a)->(H a ≠ none->K.lookup a=none) →
   codeAny (model P w) callerA (.call (.ref fa) ⟨[.ref a],[]⟩) (fun r s'=>r = .ok (.ret (.bool true))/\OldK s₁.heap s'.heap/\s'.os=s₁.os/\AllBare s'.gens) s₁:=by
  intro H hO hS hok hA hK
  have Mi:∀ {b:Addr} {o:Obj},s₁.heap.get? b=some o->H b=none->(Cj s₁.heap H).get? b=some o:=fun e n=>TV e n
  have noA:∀ {b:Addr} {o:Obj} {es:Array DictEntry} {ep:Nat},s₁.heap.get? b=some o->o.data = .dict es ep->H b=none:=fun {b o es ep} e d=>by
   cases q:H b with
   | none=>rfl
   | some u=>
    have e':b=a:=hA b (by rw[q];simp)
    subst e'
    rw[ha]at e;cases e
    have d':Data.seq vs.toArray _=Data.dict es ep:=d
    cases d'
  have nsK:∀ {b:Addr} {m:Str->Option Value},s₁.heap.Ns b m->(Cj s₁.heap H).Ns b m:=fun {b m} ⟨o,es,ep,e,d,r⟩=>⟨o,es,ep,Mi e (noA e d),d,r⟩
  have hKb:K.In (Cj s₁.heap H):=fun b o e=>Mi (KX b o e) (by
   cases q:H b with
   | none=>rfl
   | some u=>
    have e':b=a:=hA b (by rw[q];simp)
    subst e'
    rw[hK (by rw[q];simp)]at e;cases e)
  have hM:Mod K mg (Cj s₁.heap H):=⟨hKb,nsK hns,⟨mb,nsK hb,hbb⟩,let ⟨mc,h1,h2⟩:=hlim;⟨mc,nsK h1,h2⟩⟩
  have e0:KR P w K mg (Cj s₁.heap H) callerA [] s₁ H:=⟨rfl,hM,fun b o e=>Wg e,Nat.le_of_eq (Oe _ _),trivial,fun b hb=>absurd (show b∈([]:List Addr) from hb) (by simp),hok,.of_eq hg⟩
  refine codeAny_mono ((F _ hKb (nsK hns)).run callerA [] s₁ H ⟨[.ref a],[]⟩ [.ref a] [.ref a] _ _ hr e0 (hbind s₁ (.ref a)) (.cons rfl .nil) (hsp H hO hS)) fun r s' h=>?_
  cases r with
  | error e=>exact (hCX H e s' h).elim
  | ok fl=>
   cases fl with
   | next=>exact False.elim h
   | brk=>exact False.elim h
   | cont=>exact False.elim h
   | ret u=>
    obtain⟨v,H',os,bare,un,hok',r',q⟩:=h
    have q':v = .bl true:=q
    subst q'
    obtain rfl:u=Value.bool true:=r'
    refine⟨rfl,OldK.of_keep fun b o e=>?_,os,bare⟩
    cases q:H b with
    | none=>exact un.keep b o e q (by intro z;exact absurd (show b∈([]:List Addr) from z) (by simp)) (by simp)
    | some u=>
     rcases hO b with z | ⟨ob,xs,z⟩
     ·rw[q]at z;cases z
     ·have z2:=un.uC b ob _ z
      obtain⟨e1,_⟩:=hok b _ z
      obtain⟨e2,_⟩:=hok' b _ z2
      rw[e]at e1;cases e1
      exact e2
 cases hk:K.lookup a with
 | some o=>
  -- the script is one of the module's own objects
  have e:=KX a o hk
  rw[ha]at e
  cases e
  refine core (fun _=>none) (fun _=>.inl rfl) (.inr ⟨_,vs.toArray,_,hk,rfl,rfl,rfl,by rw[List.size_toArray,lenV];exact hl,by simpa using rv⟩) (fun b u z=>by have z':(none:Option HO)=some u:=z;cases z') (fun b z=>absurd rfl z) fun z=>absurd rfl z
 | none=>
  refine core (fun b=>if b=a then some (.Jg { cls:=.type "list",data:=.seq vs.toArray } (.lst (ns.map V.int))) else none) (fun b=>?_) (.inl (.inr ⟨{ cls:=.type "list",data:=.seq vs.toArray },if_pos rfl⟩)) (fun b u z=>?_) (fun b z=>?_) fun _=>hk
  ·by_cases hb:b=a
   ·exact .inr ⟨_,_,if_pos hb⟩
   ·exact .inl (if_neg hb)
  ·by_cases hb:b=a
   ·have z':=(if_pos hb).symm.trans z
    cases z'
    subst hb
    exact⟨ha,by rw[bZ];exact hl,vs,_,rv,ha⟩
   ·have z':=(if_neg hb).symm.trans z
    cases z'
  ·by_cases hb:b=a
   ·exact hb
   ·exact absurd (if_neg hb) z
theorem VP{l:PySem.W.OpenLaw}{n k:Nat}{q:Program}{loose:List Str}{XP:(Str->Option Value)->Heap->Prop}{YP:World->Heap->Prop}{d:DefRec}{K:Params->bO}{CX:World->KZ}{sp:World->Sp}{x:Str}
  (hn:l.most=some n) (hn2:n<=sizeLine) (hdf:d.params.defaults=[]) (hr:fP k callerA)
  (hY:∀(w:World)(h:Heap),YP w h->(K w.params).In h)
  (F:∀(w:World)(mg:Str->Option Value)(fa:Addr)(h:Heap),(K w.params).In h->h.Ns mainGlobals mg->mg d.name=some (.ref fa) →
   ∃ fd:FuncData,(∀(s:Shared)(u:Value),BindsTo s fd ⟨[u],[]⟩ [(x,u)]) ∧
    ∀ base:Heap,(K w.params).In base->base.Ns mainGlobals mg->aG l.prog w (K w.params) mg base (CX w) k fa fd [x] (sp w))
  (hsp:∀(w:World)(H:Hp)(a:Addr)(ns:List Int),ns.length<=n->Only H->aQ (K w.params) H a (ns.map V.int)->sp w [.ref a] H (fun v _=>v = .bl true) fun _ _ _=>False)
  (hCX:∀(w:World)(H:Hp)(s:Shared)(e:Value)(s':Shared),CX w [] H s (fun _ _ _=>False) e s'->False) :
  PySem.W.WalkO q loose XP YP l.row.toRowW d [] (fun f vs=>PySem.call f vs):=by
 refine Att.Gw hn hdf fun w s₀ s₁ mg mb fa o pm cd doc a vs ns G Y ho hd hcd hmg hobj hints hlen hg=>?_
 have KX:=hY w _ Y
 obtain⟨fd,hb,hF⟩:=F w mg fa _ KX G.T.g hmg
 exact law_call KX G.T.g G.T.b G.T.builtins G.T.nolimit hg hobj hints (Nat.le_trans hlen hn2) hr hF hb (fun H hO hS=>hsp w H a ns hlen hO hS) fun H e s'=>hCX w H s₁ e s'
noncomputable def inClass(s:Stmt)(j:Nat):Stmt:=match s with
 | .ClassDef _ _ _ body _ _ _ _ _ _ _=>body.getD j (.Pass ⟨0,0,0,0⟩)
 | _=>.Pass ⟨0,0,0,0⟩
noncomputable def pC(s:Stmt):Arguments:=match s with
 | .FunctionDef _ a _ _ _ _ _ _ _ _=>a
 | _=>{ posonlyargs:=[],args:=[],vararg:=none,kwonlyargs:=[],kw_defaults:=[],kwarg:=none,defaults:=[] }
noncomputable def iJ(s:Stmt):List Stmt:=match s with
 | .FunctionDef _ _ b _ _ _ _ _ _ _=>b
 | _=>[]
noncomputable def aA(s:Stmt):Scope:=match s with
 | .FunctionDef _ _ _ _ _ _ sc _ _ _=>sc
 | _=>{ kind:=.function,names:=[],isGenerator:=false,isCoroutine:=false }
abbrev aY:KZ:=fun _ _ _ _ _ _=>False
abbrev E0:XK:=fun _ _ _=>False
theorem yE{X:Cx}:Passes aY X E0:=fun _ _ _ _ _ _ _ h=>h.elim
structure cz(K:bO)(x qual:Str)(st:Stmt)(f:Addr)(fd:FuncData):Prop where
 ex:∃(oc:Value)(od:Option Addr)(kV doc pm:Value)(an:Option Addr)(cdv ct:Value)(osl:Array (Option Value)),
  fd=PySem.W.fnOf x qual (pC st) (iJ st) (aA st) .none kV doc pm an cdv ct/\K.lookup f=some ⟨oc,od,.func fd,osl⟩/\PySem.W.codeIn K cdv qual=true
 kp:KI K f
section
variable{P:Program}{w:World}{K:bO}{mg:Str->Option Value}{base:Heap}
theorem cz.ok{x qual:Str}{st:Stmt}{f:Addr}{fd:FuncData}{N ps:List Str}{k:Nat}{sp:Sp}(F:cz K x qual st f fd)(S:aH N ps (aA st))(len:∀ vs H Q E,sp vs H Q E->vs.length=ps.length)
  (hbody:∀(cdv:Value)(A:Around)(outer:List Env)(s:Shared)(H:Hp)(vs:List V)(Q:VK)(E:XK),fP k (A.deeper (envOfC qual (aA st) s.heap.objs.size f cdv))->sp vs H Q E →
   ∃ t,Aq (pK aY P w K mg base N qual (aA st) f cdv A outer s H E).nox (iJ st) t/\t { nx:=fun _ H'=>Q .non H',rt:=Q } (start N vs) H):aG P w K mg base aY (k+1) f fd ps sp:=by
 obtain⟨oc,od,kV,doc,pm,an,cdv,ct,osl,rfl,lk,hcd⟩:=F.ex
 refine YM lk hcd S len fun A outer s H vs Q E hr hsp=>?_
 obtain⟨t,h,q⟩:=hbody cdv A outer s H vs Q E hr hsp
 exact⟨t,h.nox,q⟩
theorem cz.binds{x qual:Str}{st:Stmt}{f:Addr}{fd:FuncData}{ps:List Str}(F:cz K x qual st f fd)
  (h:∀(kV doc pm:Value)(an:Option Addr)(cdv ct:Value)(us:List Value),us.length=ps.length->bindArgs (PySem.W.fnOf x qual (pC st) (iJ st) (aA st) .none kV doc pm an cdv ct) ⟨us,[]⟩=pure (ps.zip us)):Binds K fd ps []:=by
 obtain⟨oc,od,kV,doc,pm,an,cdv,ct,osl,rfl,lk,hcd⟩:=F.ex
 exact .all (h kV doc pm an cdv ct)
theorem qAM{x qual:Str}{st:Stmt}{f:Addr}{oc:Value}{od an:Option Addr}{osl:Array (Option Value)}{kV doc pm cdv ct:Value}(l:K.lookup f=some ⟨oc,od,.func (PySem.W.fnOf x qual (pC st) (iJ st) (aA st) .none kV doc pm an cdv ct),osl⟩)
  (c:PySem.W.codeIn K cdv qual=true) (k:KI K f):cz K x qual st f (PySem.W.fnOf x qual (pC st) (iJ st) (aA st) .none kV doc pm an cdv ct):=⟨⟨oc,od,kV,doc,pm,an,cdv,ct,osl,rfl,l,c⟩,k⟩
end
theorem zV{n:Nat}(h:n<=1000):n < sizeLine:=Nat.lt_of_le_of_lt h (by decide)
section
variable{X:Cx}
theorem pv(i:Nat){x:Str}{pos:Pos}(hN:X.N[i]? = some x:=by rfl)(hv:Vis X.env.scope x:=by first | exact Or.inl rfl | exact Or.inr (Or.inl rfl) | exact Or.inr (Or.inr rfl))(hd:(x == ("__debug__" : Str))=false:=by decide)
  (hcd:(x == ("__classdict__" : Str))=false:=by decide):PE X (.Name x pos) (qBH i):=ZF hN hv hd hcd
end
theorem pJ{c A B:Prop} [Decidable c] (h1:c->A) (h2:¬ c->B):if c then A else B:=by
 by_cases h:c
 ·rw[if_pos h]
  exact h1 h
 ·rw[if_neg h]
  exact h2 h
noncomputable def aJ(H H':Hp):Prop:=∀ b o,H b=some o->H' b=some o
theorem aJ.refl(H:Hp):aJ H H:=fun _ _ h=>h
theorem aJ.trans{H H1 H2:Hp}(a:aJ H H1)(b:aJ H1 H2):aJ H H2:=fun c o h=>b c o (a c o h)
theorem aJ.free{H H':Hp}(e:aJ H H'){l:Addr}(h:H' l=Option.none):H l=Option.none:=by
 cases q:H l with
 | none=>rfl
 | some o=>
  rw[e l o q]at h
  cases h
theorem aJ.seq{K:bO}{H H':Hp}{a:Addr}{xs:List V}(e:aJ H H')(h:aQ K H a xs):aQ K H' a xs:=by
 rcases h with (h | ⟨o,h⟩) | h
 ·exact .inl (.inl (e _ _ h))
 ·exact .inl (.inr ⟨o,e _ _ h⟩)
 ·exact .inr h
end L2
set_option maxHeartbeats 4000000
namespace L2
theorem aK{T:Prop}(h:∀ G:Prop,(T->G)->G):T:=h T id
theorem aF{K:bO}{H:Hp}{p:PySem.Addr}{xs:List V}{i:Int}{v:V}{Z:V->Prop}(h1:aL K H p xs)(h2:sY xs i=some v)(h3:Z v):∃ p' xs' i' v',V.ref p = .ref p'/\V.int i = .int i'/\aL K H p' xs'/\sY xs' i'=some v'/\Z v':=⟨p,xs,i,v,rfl,rfl,h1,h2,h3⟩
theorem cC{K:bO}{H:Hp}{p:PySem.Addr}{xs:List V}{i:Int}{v:V}{Z:V->Prop}(h1:aQ K H p xs)(h2:sY xs i=some v)(h3:Z v):∃ p' xs' i' v',V.ref p = .ref p'/\V.int i = .int i'/\aQ K H p' xs'/\sY xs' i'=some v'/\Z v':=⟨p,xs,i,v,rfl,rfl,h1,h2,h3⟩
theorem fQ{p:PySem.Addr}{xs:List V}{E:PySem.Addr->Prop}{D:PySem.Addr->List V->Prop}{Z:PySem.Addr->List V->Prop}(e:E p)(d:D p xs)(z:Z p xs):∃ p' xs',E p'/\D p' xs'/\Z p' xs':=⟨p,xs,e,d,z⟩
theorem bA{i j:Int}{P:Int->Int->Prop}(h:P i j):∃ i' j',V.int i = .int i'/\V.int j = .int j'/\P i' j':=⟨i,j,rfl,rfl,h⟩
end L2
namespace qR
open PySem L2
noncomputable def top(i:Nat):Stmt:=PySem.Challenge.pw_nesthall_k32_tables_of_runs.main.body.getD i (.Pass ⟨0,0,0,0⟩)
abbrev uz:Stmt:=top 4
abbrev Bh:Stmt:=top 5
abbrev Ek:Stmt:=top 6
abbrev v7:Stmt:=top 7
abbrev oW:Stmt:=top 8
abbrev vp:Stmt:=top 10
abbrev Ky:Stmt:=top 11
abbrev sIn:Stmt:=top 12
abbrev Qo:Stmt:=top 13
abbrev rB:Stmt:=top 17
abbrev oV:Stmt:=top 18
abbrev LC:Stmt:=top 19
abbrev nA:Stmt:=top 21
abbrev rD:Stmt:=top 23
abbrev jo:Stmt:=top 24
abbrev rA:Stmt:=top 25
abbrev qz:Stmt:=top 26
abbrev vh:Stmt:=top 28
abbrev v8:Stmt:=top 29
abbrev qy:Stmt:=top 30
abbrev vm:Stmt:=top 31
abbrev ie:Stmt:=top 33
abbrev iZ:Stmt:=top 34
abbrev gH:Stmt:=top 35
abbrev oN:Stmt:=top 36
abbrev n6:Stmt:=top 37
abbrev eY:Stmt:=top 38
abbrev Bb:Stmt:=top 39
abbrev my:Stmt:=top 41
abbrev qp:Stmt:=top 42
abbrev uy:Stmt:=top 43
abbrev vZ:Stmt:=top 44
abbrev Bc:Stmt:=top 47
abbrev vf:Stmt:=top 48
abbrev LK:Stmt:=top 50
abbrev Bg:Stmt:=top 51
abbrev qt:Stmt:=top 52
abbrev qw:Stmt:=top 53
abbrev oU:Stmt:=top 54
abbrev iK:Stmt:=top 55
abbrev lD:Stmt:=top 56
abbrev Bf:Stmt:=top 57
abbrev jm:Stmt:=top 58
abbrev jn:Stmt:=top 59
abbrev Bd:Stmt:=top 60
abbrev jl:Stmt:=top 61
abbrev oO:Stmt:=top 62
abbrev qu:Stmt:=top 63
abbrev Mz:Stmt:=top 64
abbrev jQ:Stmt:=top 65
abbrev oR:Stmt:=top 66
abbrev uO:Stmt:=top 67
abbrev eZ:Stmt:=inClass (top 2) 0
abbrev Kz:Stmt:=inClass (top 15) 0
abbrev Vk:Stmt:=inClass (top 15) 1
abbrev Be:Stmt:=inClass (top 15) 2
abbrev qx:Stmt:=inClass (top 15) 3
abbrev iD:Stmt:=inClass (top 46) 0
abbrev fB:Stmt:=inClass (top 46) 1
abbrev qC9:Str := "_law_near"
end qR
namespace Ao
open PySem L2 qR
noncomputable def eQ(x q:Str)(st:Stmt)(pm cd:Value):FuncData:=PySem.W.fnOf x q (pC st) (iJ st) (aA st) .none .none .none pm none cd .none
noncomputable def eU(d:FuncData):Obj:=⟨.type "function",none,.func d,#[]⟩
noncomputable def fd1:FuncData:=eQ "_law_cell_at" "_law_cell_at" LK (.str "law_nesthall_k32_tables_of_runs" 648) (.ref 328)
noncomputable def fd2:FuncData:=eQ "_law_mixed" "_law_mixed" Bg (.str "law_nesthall_k32_tables_of_runs" 648) (.ref 335)
noncomputable def fd3:FuncData:=eQ "holds" "holds" nA (.str "nesthall.guards" 407) (.ref 172)
noncomputable def fd4:FuncData:=eQ "answers" "answers" rD (.str "nesthall.doors" 419) (.ref 179)
noncomputable def fd5:FuncData:=eQ "end_of" "end_of" Bh (.str "nesthall.nesting" 232) (.ref 59)
noncomputable def fd6:FuncData:=eQ "parent" "parent" uz (.str "nesthall.nesting" 232) (.ref 52)
noncomputable def fd7:FuncData:=eQ "lies_in" "lies_in" v7 (.str "nesthall.nesting" 232) (.ref 71)
noncomputable def fd8:FuncData:=eQ "hall_over" "hall_over" oW (.str "nesthall.nesting" 232) (.ref 78)
noncomputable def fd9:FuncData:=eQ "kids" "kids" Ek (.str "nesthall.nesting" 232) (.ref 64)
noncomputable def qFB:FuncData:=eQ "bears_goal" "bears_goal" vp (.str "nesthall.goings" 279) (.ref 83)
noncomputable def qFA:FuncData:=eQ "next_in" "next_in" Ky (.str "nesthall.goings" 279) (.ref 90)
noncomputable def qF9:FuncData:=eQ "goings_in" "goings_in" sIn (.str "nesthall.goings" 279) (.ref 97)
noncomputable def qF8:FuncData:=eQ "goings_out" "goings_out" Qo (.str "nesthall.goings" 279) (.ref 102)
noncomputable def qF7:FuncData:=eQ "plain_ones" "plain_ones" vh (.str "nesthall.stands" 458) (.ref 201)
noncomputable def qF6:FuncData:=eQ "kept_of" "kept_of" v8 (.str "nesthall.stands" 458) (.ref 208)
noncomputable def qF5:FuncData:=eQ "keeping" "keeping" qy (.str "nesthall.stands" 458) (.ref 215)
noncomputable def qF4:FuncData:=eQ "is_outdone" "is_outdone" jo (.str "nesthall.doors" 419) (.ref 184)
noncomputable def qF3:FuncData:=eQ "chosen" "chosen" rA (.str "nesthall.doors" 419) (.ref 189)
noncomputable def qF2:FuncData:=eQ "changed" "changed" rB (.str "nesthall.deeds" 370) (.ref 151)
noncomputable def qF1:FuncData:=eQ "recorded" "recorded" oV (.str "nesthall.deeds" 370) (.ref 158)
noncomputable def qF0:FuncData:=eQ "done" "done" LC (.str "nesthall.deeds" 370) (.ref 165)
noncomputable def qEZ:FuncData:=eQ "sizes_of" "sizes_of" ie (.str "nesthall.passing" 494) (.ref 225)
noncomputable def qEY:FuncData:=eQ "rooms_left" "rooms_left" eY (.str "nesthall.passing" 494) (.ref 252)
noncomputable def qEX:FuncData:=eQ "steps_in" "steps_in" iZ (.str "nesthall.passing" 494) (.ref 230)
noncomputable def qEW:FuncData:=eQ "steps_out" "steps_out" gH (.str "nesthall.passing" 494) (.ref 235)
noncomputable def qEV:FuncData:=eQ "stepped" "stepped" oN (.str "nesthall.passing" 494) (.ref 242)
noncomputable def qEU:FuncData:=eQ "goals_of" "goals_of" qz (.str "nesthall.doors" 419) (.ref 196)
noncomputable def qET:FuncData:=eQ "passed" "passed" n6 (.str "nesthall.passing" 494) (.ref 247)
noncomputable def qES:FuncData:=eQ "turn" "turn" Bb (.str "nesthall.passing" 494) (.ref 259)
noncomputable def qER:FuncData:=eQ "rested" "rested" my (.str "nesthall.runs" 556) (.ref 264)
noncomputable def qEQ:FuncData:=eQ "begun" "begun" qp (.str "nesthall.runs" 556) (.ref 269)
noncomputable def qEP:FuncData:=eQ "after" "after" uy (.str "nesthall.runs" 556) (.ref 276)
noncomputable def qEO:FuncData:=eQ "said" "said" vZ (.str "nesthall.runs" 556) (.ref 281)
noncomputable def qEN:FuncData:=eQ "lamps" "lamps" vm (.str "nesthall.stands" 458) (.ref 220)
noncomputable def qEM:FuncData:=eQ "move" "move" Bc (.str "nesthall.tables" 587) (.ref 316)
noncomputable def qEL:FuncData:=eQ "flat" "flat" vf (.str "nesthall.tables" 587) (.ref 321)
noncomputable def qEK:FuncData:=eQ "_law_name" "_law_name" qt (.str "law_nesthall_k32_tables_of_runs" 648) (.ref 342)
noncomputable def qEJ:FuncData:=eQ "_law_deed" "_law_deed" qw (.str "law_nesthall_k32_tables_of_runs" 648) (.ref 349)
noncomputable def qEI:FuncData:=eQ "_law_deeds" "_law_deeds" oU (.str "law_nesthall_k32_tables_of_runs" 648) (.ref 356)
noncomputable def qEH:FuncData:=eQ "_law_guard" "_law_guard" iK (.str "law_nesthall_k32_tables_of_runs" 648) (.ref 363)
noncomputable def qEG:FuncData:=eQ "_law_depths" "_law_depths" lD (.str "law_nesthall_k32_tables_of_runs" 648) (.ref 370)
noncomputable def qEF:FuncData:=eQ "_law_rooms" "_law_rooms" Bf (.str "law_nesthall_k32_tables_of_runs" 648) (.ref 377)
noncomputable def qEE:FuncData:=eQ "_law_doors" "_law_doors" jm (.str "law_nesthall_k32_tables_of_runs" 648) (.ref 382)
noncomputable def qED:FuncData:=eQ "_law_chart" "_law_chart" jn (.str "law_nesthall_k32_tables_of_runs" 648) (.ref 387)
noncomputable def qEC:FuncData:=eQ "_law_whole" "_law_whole" Bd (.str "law_nesthall_k32_tables_of_runs" 648) (.ref 394)
noncomputable def qEB:FuncData:=eQ "_law_words" "_law_words" jl (.str "law_nesthall_k32_tables_of_runs" 648) (.ref 399)
noncomputable def qEA:FuncData:=eQ "_law_texts" "_law_texts" oO (.str "law_nesthall_k32_tables_of_runs" 648) (.ref 406)
noncomputable def qE9:FuncData:=eQ "_law_move" "_law_move" qu (.str "law_nesthall_k32_tables_of_runs" 648) (.ref 413)
noncomputable def qE8:FuncData:=eQ "_law_row" "_law_row" Mz (.str "law_nesthall_k32_tables_of_runs" 648) (.ref 418)
noncomputable def qE7:FuncData:=eQ "_law_ordered" "_law_ordered" jQ (.str "law_nesthall_k32_tables_of_runs" 648) (.ref 425)
noncomputable def qE6:FuncData:=eQ "_law_found" "_law_found" oR (.str "law_nesthall_k32_tables_of_runs" 648) (.ref 432)
noncomputable def X8:FuncData:=eQ "law" "law" uO (.str "law_nesthall_k32_tables_of_runs" 648) (.ref 439)
noncomputable def Tv:FuncData:=eQ "__init__" "Letters.__init__" Kz (.str "nesthall.letters" 316) (.ref 116)
noncomputable def Tu:FuncData:=eQ "add" "Letters.add" Vk (.str "nesthall.letters" 316) (.ref 123)
noncomputable def Tt:FuncData:=eQ "taken" "Letters.taken" Be (.str "nesthall.letters" 316) (.ref 130)
noncomputable def Tq:FuncData:=eQ "waiting" "Letters.waiting" qx (.str "nesthall.letters" 316) (.ref 137)
noncomputable def Tp:FuncData:=eQ "__init__" "Finds.__init__" iD (.str "nesthall.tables" 587) (.ref 295)
noncomputable def Tn:FuncData:=eQ "row_of" "Finds.row_of" fB (.str "nesthall.tables" 587) (.ref 302)
noncomputable def Tj:FuncData:=eQ "__init__" "TooWide.__init__" eZ (.str "nesthall.errors" 187) (.ref 40)
noncomputable def kE(P:Params)(x:Str)(n:Nat)(v:Value):DictEntry:=⟨PyData.keyHash P x,.str x n,v⟩
noncomputable def cO(x q:Str)(a:Nat)(l n:Int)(r:Nat)(k:Int):Obj:=⟨.type "code",none,.fields #[.str x a,.str q (a+1),.str "/claim/cut.py" (a+2),.int l 0,.int n 0,.int 0 0,.int 0 0,.int 3 0,.ref r,.bool true,.int 181 0,.ref (r+1),.none,.ref (r+2),.ref (r+3),.ref (r+4),.int k 0,.int l 0,.str "/claim/cut.py" (k.toNat+1)],#[]⟩
noncomputable def cN(x q:Str)(a:Nat)(l n:Int)(r:Nat)(k:Int):Obj:=⟨.type "code",none,.fields #[.str x a,.str q (a+1),.str "/claim/cut.py" (a+2),.int l 0,.int n 0,.int 0 0,.int 0 0,.int 3 0,.ref r,.bool true,.int 181 0,.ref (r+1),.none,.none,.none,.ref (r+2),.int k 0,.int l 0,.str "/claim/cut.py" (k.toNat+1)],#[]⟩
noncomputable def KO(P:Params):bO:=[
 (3,⟨.type "dict",none,.dict #[kE P "__name__" 165 (.str "law_nesthall_k32_tables_of_runs" 648),kE P "__doc__" 166 .none,kE P "__package__" 167 .none,kE P "__loader__" 168 (.builtin "__main__.__loader__#opaque"),kE P "__spec__" 169 .none,kE P "__annotations__" 170 (.ref 6),kE P "__builtins__" 171 (.ref 4),kE P "__file__" 173 (.str "/claim/cut.py" 172),kE P "__cached__" 174 .none,kE P "NestError" 206 (.ref 24),kE P "TooWide" 231 (.ref 44),kE P "parent" 243 (.ref 53),kE P "end_of" 253 (.ref 60),kE P "kids" 259 (.ref 65),kE P "lies_in" 268 (.ref 72),kE P "hall_over" 278 (.ref 79),kE P "bears_goal" 286 (.ref 84),kE P "next_in" 297 (.ref 91),kE P "goings_in" 309 (.ref 98),kE P "goings_out" 315 (.ref 103),kE P "Letters" 369 (.ref 141),kE P "changed" 383 (.ref 152),kE P "recorded" 393 (.ref 159),kE P "done" 406 (.ref 166),kE P "holds" 418 (.ref 173),kE P "answers" 434 (.ref 180),kE P "is_outdone" 440 (.ref 185),kE P "chosen" 446 (.ref 190),kE P "goals_of" 457 (.ref 197),kE P "plain_ones" 465 (.ref 202),kE P "kept_of" 475 (.ref 209),kE P "keeping" 487 (.ref 216),kE P "lamps" 493 (.ref 221),kE P "sizes_of" 501 (.ref 226),kE P "steps_in" 507 (.ref 231),kE P "steps_out" 513 (.ref 236),kE P "stepped" 528 (.ref 243),kE P "passed" 534 (.ref 248),kE P "rooms_left" 540 (.ref 253),kE P "turn" 555 (.ref 260),kE P "rested" 563 (.ref 265),kE P "begun" 569 (.ref 270),kE P "after" 580 (.ref 277),kE P "said" 586 (.ref 282),kE P "Finds" 630 (.ref 306),kE P "move" 641 (.ref 317),kE P "flat" 647 (.ref 322),kE P "_law_cell_at" 657 (.ref 329),kE P "_law_mixed" 669 (.ref 336),kE P "_law_name" 679 (.ref 343),kE P "_law_deed" 691 (.ref 350),kE P "_law_deeds" 706 (.ref 357),kE P "_law_guard" 718 (.ref 364),kE P "_law_depths" 728 (.ref 371),kE P "_law_rooms" 746 (.ref 378),kE P "_law_doors" 752 (.ref 383),kE P "_law_chart" 758 (.ref 388),kE P "_law_whole" 765 (.ref 395),kE P "_law_words" 771 (.ref 400),kE P "_law_texts" 780 (.ref 407),kE P "_law_move" 792 (.ref 414),kE P "_law_row" 798 (.ref 419),kE P "_law_ordered" 808 (.ref 426),kE P "_law_found" 817 (.ref 433),kE P "law" 834 (.ref 440)] 65,#[]⟩),
 (328,cO "_law_cell_at" "_law_cell_at" 650 266 2 323 655),
 (329,eU fd1),
 (335,cO "_law_mixed" "_law_mixed" 658 270 3 330 667),
 (336,eU fd2),
 (172,cO "holds" "holds" 409 104 3 167 416),
 (173,eU fd3),
 (179,cO "answers" "answers" 421 120 3 174 432),
 (180,eU fd4),
 (59,cO "end_of" "end_of" 244 16 2 54 251),
 (60,eU fd5),
 (52,cO "parent" "parent" 234 10 2 47 241),
 (53,eU fd6),
 (71,cO "lies_in" "lies_in" 260 25 3 66 266),
 (72,eU fd7),
 (78,cO "hall_over" "hall_over" 269 27 3 73 276),
 (79,eU fd8),
 (64,cN "kids" "kids" 254 22 2 61 257),
 (65,eU fd9),
 (83,cN "bears_goal" "bears_goal" 281 35 3 80 284),
 (84,eU qFB),
 (90,cO "next_in" "next_in" 287 38 3 85 295),
 (91,eU qFA),
 (97,cO "goings_in" "goings_in" 298 46 3 92 307),
 (98,eU qF9),
 (102,cN "goings_out" "goings_out" 310 54 3 99 313),
 (103,eU qF8),
 (201,cN "plain_ones" "plain_ones" 460 146 2 198 463),
 (202,eU qF7),
 (208,cO "kept_of" "kept_of" 466 148 3 203 473),
 (209,eU qF6),
 (215,cO "keeping" "keeping" 476 153 4 210 485),
 (216,eU qF5),
 (184,cN "is_outdone" "is_outdone" 435 128 3 181 438),
 (185,eU qF4),
 (189,cN "chosen" "chosen" 441 133 3 186 444),
 (190,eU qF3),
 (151,cO "changed" "changed" 372 80 3 146 381),
 (152,eU qF2),
 (158,cO "recorded" "recorded" 384 89 3 153 391),
 (159,eU qF1),
 (165,cO "done" "done" 394 96 4 160 404),
 (166,eU qF0),
 (225,cN "sizes_of" "sizes_of" 496 162 1 222 499),
 (226,eU qEZ),
 (252,cN "rooms_left" "rooms_left" 535 194 1 249 538),
 (253,eU qEY),
 (230,cN "steps_in" "steps_in" 502 164 2 227 505),
 (231,eU qEX),
 (235,cN "steps_out" "steps_out" 508 166 2 232 511),
 (236,eU qEW),
 (242,cO "stepped" "stepped" 514 168 4 237 526),
 (243,eU qEV),
 (196,cO "goals_of" "goals_of" 447 137 3 191 455),
 (197,eU qEU),
 (247,cN "passed" "passed" 529 177 4 244 532),
 (248,eU qET),
 (259,cO "turn" "turn" 541 196 4 254 553),
 (260,eU qES),
 (264,cN "rested" "rested" 558 208 4 261 561),
 (265,eU qER),
 (269,cN "begun" "begun" 564 219 1 266 567),
 (270,eU qEQ),
 (276,cO "after" "after" 570 227 3 271 578),
 (277,eU qEP),
 (281,cN "said" "said" 581 231 1 278 584),
 (282,eU qEO),
 (220,cN "lamps" "lamps" 488 159 2 217 491),
 (221,eU qEN),
 (316,cO "move" "move" 631 252 4 311 639),
 (317,eU qEM),
 (321,cN "flat" "flat" 642 255 2 318 645),
 (322,eU qEL),
 (342,cO "_law_name" "_law_name" 670 277 2 337 677),
 (343,eU qEK),
 (349,cO "_law_deed" "_law_deed" 680 281 3 344 689),
 (350,eU qEJ),
 (356,cO "_law_deeds" "_law_deeds" 692 296 5 351 704),
 (357,eU qEI),
 (363,cO "_law_guard" "_law_guard" 707 303 4 358 716),
 (364,eU qEH),
 (370,cO "_law_depths" "_law_depths" 719 319 2 365 726),
 (371,eU qEG),
 (377,cO "_law_rooms" "_law_rooms" 729 324 4 372 744),
 (378,eU qEF),
 (382,cN "_law_doors" "_law_doors" 747 342 5 379 750),
 (383,eU qEE),
 (387,cN "_law_chart" "_law_chart" 753 362 1 384 756),
 (388,eU qED),
 (394,cO "_law_whole" "_law_whole" 759 380 1 389 763),
 (395,eU qEC),
 (399,cN "_law_words" "_law_words" 766 382 1 396 769),
 (400,eU qEB),
 (406,cO "_law_texts" "_law_texts" 772 384 2 401 778),
 (407,eU qEA),
 (413,cO "_law_move" "_law_move" 781 391 5 408 790),
 (414,eU qE9),
 (418,cN "_law_row" "_law_row" 793 398 4 415 796),
 (419,eU qE8),
 (425,cO "_law_ordered" "_law_ordered" 799 408 1 420 806),
 (426,eU qE7),
 (432,cO "_law_found" "_law_found" 809 419 2 427 815),
 (433,eU qE6),
 (439,cO "law" "law" 818 425 1 434 832),
 (440,eU X8),
 (141,⟨.type "type",none,.cls ⟨"Letters",[.type "object"],[.ref 141,.type "object"],140,"Letters",true,[],[],false,none,false⟩,#[none,none,some (.str "Letters" 318),some (.str "Letters" 326),some (.builtin "object.__new__"),some (.bool true)]⟩),
 (140,⟨.type "dict",none,.dict #[kE P "__module__" 325 (.str "nesthall.letters" 316),kE P "__firstlineno__" 329 (.int (60) 328),kE P "__init__" 337 (.ref 117),kE P "add" 345 (.ref 124),kE P "taken" 352 (.ref 131),kE P "waiting" 359 (.ref 138),kE P "__static_attributes__" 362 (.ref 139),kE P "__dict__" 364 (.ref 142),kE P "__weakref__" 366 (.ref 143),kE P "__doc__" 367 .none] 4,#[]⟩),
 (116,cO "__init__" "Letters.__init__" 330 62 2 111 335),
 (117,eU Tv),
 (123,cO "add" "Letters.add" 338 66 2 118 343),
 (124,eU Tu),
 (130,cO "taken" "Letters.taken" 346 72 1 125 350),
 (131,eU Tt),
 (137,cO "waiting" "Letters.waiting" 353 77 1 132 357),
 (138,eU Tq),
 (306,⟨.type "type",none,.cls ⟨"Finds",[.type "object"],[.ref 306,.type "object"],305,"Finds",true,[],[],false,none,false⟩,#[none,none,some (.str "Finds" 589),some (.str "Finds" 597),some (.builtin "object.__new__"),some (.bool true)]⟩),
 (305,⟨.type "dict",none,.dict #[kE P "__module__" 596 (.str "nesthall.tables" 587),kE P "__firstlineno__" 600 (.int (234) 599),kE P "__init__" 608 (.ref 296),kE P "row_of" 618 (.ref 303),kE P "__static_attributes__" 623 (.ref 304),kE P "__dict__" 625 (.ref 307),kE P "__weakref__" 627 (.ref 308),kE P "__doc__" 628 .none] 4,#[]⟩),
 (295,cO "__init__" "Finds.__init__" 601 236 2 290 606),
 (296,eU Tp),
 (302,cO "row_of" "Finds.row_of" 609 242 3 297 616),
 (303,eU Tn),
 (44,⟨.type "type",none,.cls ⟨"TooWide",[.ref 24],[.ref 44,.ref 24,.type "ValueError",.type "Exception",.type "BaseException",.type "object"],43,"TooWide",true,[],[],false,none,false⟩,#[some (.ref 28),none,some (.str "TooWide" 207),some (.str "TooWide" 215),some (.builtin "ValueError.__new__"),some (.bool true)]⟩),
 (43,⟨.type "dict",none,.dict #[kE P "__module__" 214 (.str "nesthall.errors" 187),kE P "__firstlineno__" 218 (.int (4) 217),kE P "__init__" 226 (.ref 41),kE P "__static_attributes__" 228 (.ref 42),kE P "__doc__" 229 .none] 2,#[]⟩),
 (40,cO "__init__" "TooWide.__init__" 219 6 2 35 224),
 (41,eU Tj),
 (24,⟨.type "type",none,.cls ⟨"NestError",[.type "ValueError"],[.ref 24,.type "ValueError",.type "Exception",.type "BaseException",.type "object"],23,"NestError",true,[],[.ref 44],false,none,false⟩,#[some (.ref 15),none,some (.str "NestError" 189),some (.str "NestError" 197),some (.builtin "ValueError.__new__"),some (.bool true)]⟩),
 (23,⟨.type "dict",none,.dict #[kE P "__module__" 196 (.str "nesthall.errors" 187),kE P "__firstlineno__" 200 (.int (2) 199),kE P "__static_attributes__" 201 (.ref 22),kE P "__weakref__" 203 (.ref 25),kE P "__doc__" 204 .none] 3,#[]⟩),
 (2,⟨.none,none,.dict #[] 0,#[]⟩)]
noncomputable def KA:List Addr:=[3,328,329,335,336,172,173,179,180,59,60,52,53,71,72,78,79,64,65,83,84,90,91,97,98,102,103,201,202,208,209,215,216,184,185,189,190,151,152,158,159,165,166,225,226,252,253,230,231,235,236,242,243,196,197,247,248,259,260,264,265,269,270,276,277,281,282,220,221,316,317,321,322,342,343,349,350,356,357,363,364,370,371,377,378,382,383,387,388,394,395,399,400,406,407,413,414,418,419,425,426,432,433,439,440,141,140,116,117,123,124,130,131,137,138,306,305,295,296,302,303,44,43,40,41,24,23,2]
noncomputable def PW:Program:=PySem.Challenge.pw_nesthall_k32_tables_of_runs
noncomputable def QV:Program:=PySem.W.view PW [67]
noncomputable def LS:List Str:=[Str.ofString "__name__",Str.ofString "NestError",Str.ofString "TooWide",Str.ofString "parent",Str.ofString "end_of",Str.ofString "kids",Str.ofString "lies_in",Str.ofString "hall_over",Str.ofString "bears_goal",Str.ofString "next_in",Str.ofString "goings_in",Str.ofString "goings_out",Str.ofString "Letters",Str.ofString "changed",Str.ofString "recorded",Str.ofString "done",Str.ofString "holds",Str.ofString "answers",Str.ofString "is_outdone",Str.ofString "chosen",Str.ofString "goals_of",Str.ofString "plain_ones",Str.ofString "kept_of",Str.ofString "keeping",Str.ofString "lamps",Str.ofString "sizes_of",Str.ofString "steps_in",Str.ofString "steps_out",Str.ofString "stepped",Str.ofString "passed",Str.ofString "rooms_left",Str.ofString "turn",Str.ofString "rested",Str.ofString "begun",Str.ofString "after",Str.ofString "said",Str.ofString "Finds",Str.ofString "move",Str.ofString "flat",Str.ofString "_law_cell_at",Str.ofString "_law_mixed",Str.ofString "_law_name",Str.ofString "_law_deed",Str.ofString "_law_deeds",Str.ofString "_law_guard",Str.ofString "_law_depths",Str.ofString "_law_rooms",Str.ofString "_law_doors",Str.ofString "_law_chart",Str.ofString "_law_whole",Str.ofString "_law_words",Str.ofString "_law_texts",Str.ofString "_law_move",Str.ofString "_law_row",Str.ofString "_law_ordered",Str.ofString "_law_found"]
noncomputable def HK:PySem.W.Hook:=PySem.W.kHook KO KA fun _=>by kernel_rfl
noncomputable def qAR:Stmt->Pos
 | .FunctionDef _ _ _ _ _ _ _ _ _ p=>p
 | _=>⟨0,0,0,0⟩
noncomputable def Jt:DefRec:=⟨"law",pC uO,iJ uO,aA uO,qAR uO⟩
theorem len0{P:List Value->Prop}(h:P [])(xs:List Value)(e:xs.length=0):P xs:=by
 cases xs with
 | nil=>exact h
 | cons a ys=>cases e
theorem SQ{n:Nat}{P:List Value->Prop}(h:∀ a (ys:List Value),ys.length=n->P (a :: ys))(xs:List Value)(e:xs.length=n+1):P xs:=by
 cases xs with
 | nil=>cases e
 | cons a ys=>exact h a ys (Nat.succ.inj e)
theorem wV{P:List Value->Prop}(h:∀ a,P [a])(xs:List Value)(e:xs.length=1):P xs:=SQ (fun a=>len0 (h a)) xs e
theorem mL{P:List Value->Prop}(h:∀ a b,P [a,b])(xs:List Value)(e:xs.length=2):P xs:=SQ (fun a=>wV (h a)) xs e
theorem lL{P:List Value->Prop}(h:∀ a b c,P [a,b,c])(xs:List Value)(e:xs.length=3):P xs:=SQ (fun a=>mL (h a)) xs e
theorem wU{P:List Value->Prop}(h:∀ a b c d,P [a,b,c,d])(xs:List Value)(e:xs.length=4):P xs:=SQ (fun a=>lL (h a)) xs e
theorem Zq{P:List Value->Prop}(h:∀ a b c d f,P [a,b,c,d,f])(xs:List Value)(e:xs.length=5):P xs:=SQ (fun a=>wU (h a)) xs e
set_option maxHeartbeats 0 in
theorem left:PySem.W.LeftO PW QV LS (fun s=>PySem.W.xlAt QV [] s && PySem.W.recOk [] s) HK.obs HK.val 6538:=fun w=>by kernel_rfl
theorem hdef:PySem.W.defOf QV "law" = some (Jt,[]):=by kernel_rfl
theorem hok:(PySem.W.chainsOk QV && PySem.W.opensWell PW && (PySem.W.frees PySem.Challenge.rw_nesthall_k32_tables_of_runs.row.toRowW && PySem.Challenge.rw_nesthall_k32_tables_of_runs.row.within.isEmpty))=true:=by kernel_rfl
theorem hbare:PW.bare:=⟨rfl,rfl,rfl,rfl,rfl,by decide +kernel⟩
theorem hkw:PySem.W.kwWritten? Jt.params.kwonlyargs Jt.params.kw_defaults=some []:=by kernel_rfl
theorem hthe:PW.theDef "law" = some (Jt.params,Jt.body,Jt.scope):=by kernel_rfl
abbrev NS(x:Str)(a:Addr):Prop:=∀ P:Params,PySem.W.nsIn (KO P) mainGlobals x=some (some (.ref a))
abbrev NZ(x:Str):Prop:=∀ P:Params,PySem.W.nsIn (KO P) mainGlobals x=some none
abbrev FU(x q:Str)(st:Stmt)(a:Addr)(d:FuncData):Prop:=∀ P:Params,cz (KO P) x q st a d
theorem fM{x q:Str}{st:Stmt}{a:Addr}{pm cd:Value}(h:∀ P:Params,(KO P).lookup a=some (eU (eQ x q st pm cd))/\PySem.W.codeIn (KO P) cd q=true/\PySem.W.keepIn (KO P) (.ref a)=true:=by exact fun _=>⟨by kernel_rfl,by kernel_rfl,by kernel_rfl⟩):FU x q st a (eQ x q st pm cd):=fun P=>qAM (h P).1 (h P).2.1 (h P).2.2
theorem a1:NS "_law_cell_at" 329:=fun P=>by kernel_rfl
theorem u1:FU "_law_cell_at" "_law_cell_at" LK 329 fd1:=fM
theorem a2:NS "_law_mixed" 336:=fun P=>by kernel_rfl
theorem u2:FU "_law_mixed" "_law_mixed" Bg 336 fd2:=fM
theorem a3:NS "holds" 173:=fun P=>by kernel_rfl
theorem u3:FU "holds" "holds" nA 173 fd3:=fM
theorem a4:NS "answers" 180:=fun P=>by kernel_rfl
theorem u4:FU "answers" "answers" rD 180 fd4:=fM
theorem a5:NS "end_of" 60:=fun P=>by kernel_rfl
theorem u5:FU "end_of" "end_of" Bh 60 fd5:=fM
theorem a6:NS "parent" 53:=fun P=>by kernel_rfl
theorem u6:FU "parent" "parent" uz 53 fd6:=fM
theorem a7:NS "lies_in" 72:=fun P=>by kernel_rfl
theorem u7:FU "lies_in" "lies_in" v7 72 fd7:=fM
theorem a8:NS "hall_over" 79:=fun P=>by kernel_rfl
theorem u8:FU "hall_over" "hall_over" oW 79 fd8:=fM
theorem a9:NS "kids" 65:=fun P=>by kernel_rfl
theorem u9:FU "kids" "kids" Ek 65 fd9:=fM
theorem a10:NS "bears_goal" 84:=fun P=>by kernel_rfl
theorem u10:FU "bears_goal" "bears_goal" vp 84 qFB:=fM
theorem a11:NS "next_in" 91:=fun P=>by kernel_rfl
theorem Yr:FU "next_in" "next_in" Ky 91 qFA:=fM
theorem a12:NS "goings_in" 98:=fun P=>by kernel_rfl
theorem u12:FU "goings_in" "goings_in" sIn 98 qF9:=fM
theorem a13:NS "goings_out" 103:=fun P=>by kernel_rfl
theorem Xv:FU "goings_out" "goings_out" Qo 103 qF8:=fM
theorem a14:NS "plain_ones" 202:=fun P=>by kernel_rfl
theorem u14:FU "plain_ones" "plain_ones" vh 202 qF7:=fM
theorem a15:NS "kept_of" 209:=fun P=>by kernel_rfl
theorem u15:FU "kept_of" "kept_of" v8 209 qF6:=fM
theorem a16:NS "keeping" 216:=fun P=>by kernel_rfl
theorem u16:FU "keeping" "keeping" qy 216 qF5:=fM
theorem a17:NS "is_outdone" 185:=fun P=>by kernel_rfl
theorem u17:FU "is_outdone" "is_outdone" jo 185 qF4:=fM
theorem a18:NS "chosen" 190:=fun P=>by kernel_rfl
theorem u18:FU "chosen" "chosen" rA 190 qF3:=fM
theorem a19:NS "changed" 152:=fun P=>by kernel_rfl
theorem u19:FU "changed" "changed" rB 152 qF2:=fM
theorem a20:NS "recorded" 159:=fun P=>by kernel_rfl
theorem u20:FU "recorded" "recorded" oV 159 qF1:=fM
theorem a21:NS "done" 166:=fun P=>by kernel_rfl
theorem u21:FU "done" "done" LC 166 qF0:=fM
theorem a22:NS "sizes_of" 226:=fun P=>by kernel_rfl
theorem u22:FU "sizes_of" "sizes_of" ie 226 qEZ:=fM
theorem a23:NS "rooms_left" 253:=fun P=>by kernel_rfl
theorem u23:FU "rooms_left" "rooms_left" eY 253 qEY:=fM
theorem a24:NS "steps_in" 231:=fun P=>by kernel_rfl
theorem u24:FU "steps_in" "steps_in" iZ 231 qEX:=fM
theorem a25:NS "steps_out" 236:=fun P=>by kernel_rfl
theorem u25:FU "steps_out" "steps_out" gH 236 qEW:=fM
theorem a26:NS "stepped" 243:=fun P=>by kernel_rfl
theorem u26:FU "stepped" "stepped" oN 243 qEV:=fM
theorem a27:NS "goals_of" 197:=fun P=>by kernel_rfl
theorem u27:FU "goals_of" "goals_of" qz 197 qEU:=fM
theorem a28:NS "passed" 248:=fun P=>by kernel_rfl
theorem u28:FU "passed" "passed" n6 248 qET:=fM
theorem a29:NS "turn" 260:=fun P=>by kernel_rfl
theorem u29:FU "turn" "turn" Bb 260 qES:=fM
theorem a30:NS "rested" 265:=fun P=>by kernel_rfl
theorem u30:FU "rested" "rested" my 265 qER:=fM
theorem a31:NS "begun" 270:=fun P=>by kernel_rfl
theorem u31:FU "begun" "begun" qp 270 qEQ:=fM
theorem a32:NS "after" 277:=fun P=>by kernel_rfl
theorem u32:FU "after" "after" uy 277 qEP:=fM
theorem a33:NS "said" 282:=fun P=>by kernel_rfl
theorem u33:FU "said" "said" vZ 282 qEO:=fM
theorem a34:NS "lamps" 221:=fun P=>by kernel_rfl
theorem u34:FU "lamps" "lamps" vm 221 qEN:=fM
theorem a35:NS "move" 317:=fun P=>by kernel_rfl
theorem Yq:FU "move" "move" Bc 317 qEM:=fM
theorem a36:NS "flat" 322:=fun P=>by kernel_rfl
theorem u36:FU "flat" "flat" vf 322 qEL:=fM
theorem a37:NS "_law_name" 343:=fun P=>by kernel_rfl
theorem u37:FU "_law_name" "_law_name" qt 343 qEK:=fM
theorem a38:NS "_law_deed" 350:=fun P=>by kernel_rfl
theorem u38:FU "_law_deed" "_law_deed" qw 350 qEJ:=fM
theorem a39:NS "_law_deeds" 357:=fun P=>by kernel_rfl
theorem u39:FU "_law_deeds" "_law_deeds" oU 357 qEI:=fM
theorem a40:NS "_law_guard" 364:=fun P=>by kernel_rfl
theorem u40:FU "_law_guard" "_law_guard" iK 364 qEH:=fM
theorem a41:NS "_law_depths" 371:=fun P=>by kernel_rfl
theorem u41:FU "_law_depths" "_law_depths" lD 371 qEG:=fM
theorem a42:NS "_law_rooms" 378:=fun P=>by kernel_rfl
theorem u42:FU "_law_rooms" "_law_rooms" Bf 378 qEF:=fM
theorem a43:NS "_law_doors" 383:=fun P=>by kernel_rfl
theorem u43:FU "_law_doors" "_law_doors" jm 383 qEE:=fM
theorem a44:NS "_law_chart" 388:=fun P=>by kernel_rfl
theorem u44:FU "_law_chart" "_law_chart" jn 388 qED:=fM
theorem a45:NS "_law_whole" 395:=fun P=>by kernel_rfl
theorem u45:FU "_law_whole" "_law_whole" Bd 395 qEC:=fM
theorem a46:NS "_law_words" 400:=fun P=>by kernel_rfl
theorem u46:FU "_law_words" "_law_words" jl 400 qEB:=fM
theorem a47:NS "_law_texts" 407:=fun P=>by kernel_rfl
theorem u47:FU "_law_texts" "_law_texts" oO 407 qEA:=fM
theorem a48:NS "_law_move" 414:=fun P=>by kernel_rfl
theorem u48:FU "_law_move" "_law_move" qu 414 qE9:=fM
theorem a49:NS "_law_row" 419:=fun P=>by kernel_rfl
theorem u49:FU "_law_row" "_law_row" Mz 419 qE8:=fM
theorem a50:NS "_law_ordered" 426:=fun P=>by kernel_rfl
theorem u50:FU "_law_ordered" "_law_ordered" jQ 426 qE7:=fM
theorem a51:NS "_law_found" 433:=fun P=>by kernel_rfl
theorem u51:FU "_law_found" "_law_found" oR 433 qE6:=fM
theorem a52:NS "law" 440:=fun P=>by kernel_rfl
theorem u52:FU "law" "law" uO 440 X8:=fM
theorem qFS(P:Params):PySem.W.findIn (KO P) (.ref 141) "__init__" = some (some (.ref 117)):=by kernel_rfl
theorem qDL(P:Params):PySem.W.isFn (KO P) (.ref 117)=true:=by kernel_rfl
theorem qBG:FU "__init__" "Letters.__init__" Kz 117 Tv:=fM
theorem qFR(P:Params):PySem.W.findIn (KO P) (.ref 141) "add" = some (some (.ref 124)):=by kernel_rfl
theorem qDK(P:Params):PySem.W.isFn (KO P) (.ref 124)=true:=by kernel_rfl
theorem qBF:FU "add" "Letters.add" Vk 124 Tu:=fM
theorem qFQ(P:Params):PySem.W.findIn (KO P) (.ref 141) "taken" = some (some (.ref 131)):=by kernel_rfl
theorem qDJ(P:Params):PySem.W.isFn (KO P) (.ref 131)=true:=by kernel_rfl
theorem qBE:FU "taken" "Letters.taken" Be 131 Tt:=fM
theorem qFP(P:Params):PySem.W.findIn (KO P) (.ref 141) "waiting" = some (some (.ref 138)):=by kernel_rfl
theorem qDI(P:Params):PySem.W.isFn (KO P) (.ref 138)=true:=by kernel_rfl
theorem qBD:FU "waiting" "Letters.waiting" qx 138 Tq:=fM
theorem qFO(P:Params):PySem.W.findIn (KO P) (.ref 306) "__init__" = some (some (.ref 296)):=by kernel_rfl
theorem qDH(P:Params):PySem.W.isFn (KO P) (.ref 296)=true:=by kernel_rfl
theorem qBC:FU "__init__" "Finds.__init__" iD 296 Tp:=fM
theorem qFN(P:Params):PySem.W.findIn (KO P) (.ref 306) "row_of" = some (some (.ref 303)):=by kernel_rfl
theorem qDG(P:Params):PySem.W.isFn (KO P) (.ref 303)=true:=by kernel_rfl
theorem qBB:FU "row_of" "Finds.row_of" fB 303 Tn:=fM
theorem qBA:FU "__init__" "TooWide.__init__" eZ 41 Tj:=fM
theorem aC0:NS "Letters" 141:=fun P=>by kernel_rfl
theorem Cy(P:Params):xY (KO P) 141:=⟨by kernel_rfl,by kernel_rfl,by kernel_rfl,by kernel_rfl⟩
theorem qD5(P:Params):PySem.W.makesIn (KO P) 141=true/\PySem.W.keepIn (KO P) (.ref 141)=true:=⟨by kernel_rfl,by kernel_rfl⟩
theorem oZ(P:Params):PySem.W.findIn (KO P) (.ref 141) "most" = some none:=by kernel_rfl
theorem eG(P:Params):PySem.W.findIn (KO P) (.ref 141) "events" = some none:=by kernel_rfl
theorem aC1:NS "Finds" 306:=fun P=>by kernel_rfl
theorem PB(P:Params):xY (KO P) 306:=⟨by kernel_rfl,by kernel_rfl,by kernel_rfl,by kernel_rfl⟩
theorem qD4(P:Params):PySem.W.makesIn (KO P) 306=true/\PySem.W.keepIn (KO P) (.ref 306)=true:=⟨by kernel_rfl,by kernel_rfl⟩
theorem oY(P:Params):PySem.W.findIn (KO P) (.ref 306) "most" = some none:=by kernel_rfl
theorem eF(P:Params):PySem.W.findIn (KO P) (.ref 306) "stands" = some none:=by kernel_rfl
theorem iu(P:Params):PySem.W.findIn (KO P) (.ref 306) "paths" = some none:=by kernel_rfl
theorem iH(P:Params):PySem.W.findIn (KO P) (.ref 306) "numbers" = some none:=by kernel_rfl
theorem aC2:NS "TooWide" 44:=fun P=>by kernel_rfl
theorem aC3:NS "NestError" 24:=fun P=>by kernel_rfl
theorem z1:NZ "len" := fun P=>by kernel_rfl
theorem z2:NZ "max" := fun P=>by kernel_rfl
theorem z3:NZ "min" := fun P=>by kernel_rfl
theorem z4:NZ "range" := fun P=>by kernel_rfl
theorem z5:NZ "list" := fun P=>by kernel_rfl
theorem z6:NZ "tuple" := fun P=>by kernel_rfl
theorem z7:NZ "isinstance" := fun P=>by kernel_rfl
theorem z8:NZ "int" := fun P=>by kernel_rfl
theorem z9:NZ "bool" := fun P=>by kernel_rfl
theorem z10:NZ "sorted" := fun P=>by kernel_rfl
theorem z11:NZ "any" := fun P=>by kernel_rfl
theorem z12:NZ "enumerate" := fun P=>by kernel_rfl
theorem z13:NZ "str" := fun P=>by kernel_rfl
theorem Jo(P:Params):PySem.W.keepIn (KO P) (.ref 44)=true:=by kernel_rfl
theorem Jl(P:Params):PySem.W.exmOne (KO P) (.ref 44) (.ref 44)=some true:=by kernel_rfl
theorem fE1(P:Params):PySem.W.specialIn (KO P) (.ref 24) "__getattribute__" = some (some (.builtin "type.__getattribute__")):=by kernel_rfl
theorem fE2(P:Params):PySem.W.readsIn (KO P) 24 (.type "type")=true:=by kernel_rfl
theorem fE3(P:Params):PySem.W.findCls (KO P) (.ref 24) (.type "type") "__init__" = some (.val (.builtin "ValueError.__init__")):=by kernel_rfl
end Ao
namespace L2
open PySem PyProof.Rows
theorem okS{P:Program}{w:World}{K:bO}{mg:Str->Option Value}{base:Heap}{x qual:Str}{st:Stmt}{f:Addr}{fd:FuncData}{N ps:List Str}{k:Nat}{sp:Sp}(sc:Scope)(hsc:aA st=sc)(F:cz K x qual st f fd)(S:aH N ps sc)(len:∀ vs H Q E,sp vs H Q E->vs.length=ps.length)
  (hbody:∀(cdv:Value)(A:Around)(outer:List Env)(s:Shared)(H:Hp)(vs:List V)(Q:VK)(E:XK),fP k (A.deeper (envOfC qual sc s.heap.objs.size f cdv))->sp vs H Q E →
   ∃ t,Aq (pK aY P w K mg base N qual sc f cdv A outer s H E).nox (iJ st) t/\t { nx:=fun _ H'=>Q .non H',rt:=Q } (start N vs) H):aG P w K mg base aY (k+1) f fd ps sp:=by
 subst hsc
 exact F.ok S len hbody
end L2
namespace L2
open PySem PySem.Spec PyProof.Rows
section
variable{X:Cx}{pins:List (Addr × Obj)}{σ:St}{H:Hp}{s:Shared}{a:Addr}{o:HO}
theorem jL.adopt{P:Program}{w:World}{h:Heap}(x:jL P w H h)(hn:H a=none)(new:bN P w (upd H a o) h a o):jL P w (upd H a o) h:=fun b u e=>by
 by_cases hb:b=a
 ·subst hb;rw[zC]at e;cases e;exact new
 ·rw[zQ hb]at e
  exact (x b u e).stay (fun c v _ q=>q) (fun c q=>by rw[zQ (zM q hn)];exact q) fun c xs q=>by rw[zQ (zM q hn)];exact q
theorem Inv.adopt(I:Inv X pins σ H s)(f:gR X pins H a)(new:bN X.prog X.w (upd H a o) s.heap a o):Inv X pins σ (upd H a o) s:=by
 obtain⟨hn,hL,hfs,hex,hc,hp⟩:=f
 refine⟨I.ok,I.os,I.bare,⟨I.base.keep,I.base.slot,fun b ob e n hx=>?_,I.base.there,fun b xs e=>?_,fun b ob u e=>?_,fun b ps e=>?_⟩,I.loc,I.cell,by rw[zQ (Ne.symm hL)];exact I.free,fun x c e=>by rw[zQ (hc x c e)];exact I.jU x c e,fun p q=>?_,jL.adopt I.hok hn new,I.len⟩
 ·have nb:b ≠ a:=fun z=>by
   rcases hex with z' | z'
   ·exact hx (z ▸ z')
   ·exact absurd (gf e) (by rw[z];exact Nat.not_lt.mpr z')
  rw[zQ nb]
  exact I.base.free b ob e n hx
 ·have q:=I.base.tups b xs e
  rw[zQ (zM q hn)]
  exact q
 ·have q:=I.base.uC b ob u e
  rw[zQ (zM q hn)]
  exact q
 ·obtain⟨m,q⟩:=I.base.ue b ps e
  exact⟨m,by rw[zQ (zM q hn)];exact q⟩
 ·obtain⟨e,n,r⟩:=I.pin p q
  exact⟨e,by rw[zQ (hp p q)];exact n,r⟩
end
theorem ju{α β:Type}{f:α->β->Sem (ForInStep β)}{g:α->β->β}:∀(l:List α)(c:β),(∀ x∈l,∀ c,f x c=pure (.yield (g x c)))->forIn l c f=pure (l.foldl (fun c x=>g x c) c)
 | [],_,_=>rfl
 | x :: l,c,h=>by
  rw[List.forIn_cons,h x HX,pure_bind]
  exact ju l (g x c) fun y hy=>h y (Hh _ hy)
noncomputable def clG(env:Env)(x:Str × NameKind)(c:List (Str × Addr)):List (Str × Addr):=if (x.2 == NameKind.free)=true then (x.1,(env.cells.lookup x.1).getD 0) :: c else c
noncomputable def mO(env:Env)(scope:Scope):List (Str × Addr):=scope.names.foldl (fun c x=>clG env x c) []
theorem qM{env:Env}{scope:Scope}(h:∀ y∈scope.names,y.2 = .free->∃ c,env.cells.lookup y.1=some c):closureFor scope env=pure (mO env scope):=by
 simp only[closureFor]
 rw[ju (g:=clG env) scope.names [] (fun x hx c=>by
  obtain⟨n,k⟩:=x
  unfold clG
  by_cases hk:(k == NameKind.free)=true
  ·obtain⟨a,ha⟩:=h _ hx (by simpa using hk)
   have ha':env.cells.lookup n=some a:=ha
   simp only[hk,if_true,cellOf,ha',pure_bind,Option.getD_some]
  ·have hk':(k == NameKind.free)=false:=Bool.eq_false_iff.mpr hk
   simp only[hk',Bool.false_eq_true,if_false])]
 rfl
theorem rn{env:Env}:∀(l:List (Str × NameKind))(cs:List (Str × Addr)),(∀ y∈l,y.2 = .free->∃ c,env.cells.lookup y.1=some c)->(∀ y c,cs.lookup y=some c->env.cells.lookup y=some c) →
  (∀ y c,(l.foldl (fun c x=>clG env x c) cs).lookup y=some c->env.cells.lookup y=some c)/\∀ y,((cs.lookup y).isSome=true ∨ (y,NameKind.free)∈l)->((l.foldl (fun c x=>clG env x c) cs).lookup y).isSome=true
 | [],cs,_,h=>⟨h,fun y hy=>hy.elim id fun z=>absurd z (by simp)⟩
 | (n,k) :: l,cs,hf,h=>by
  have hf':∀ y∈l,y.2 = .free->∃ c,env.cells.lookup y.1=some c:=fun y hy=>hf y (Hh _ hy)
  rw[List.foldl_cons]
  by_cases hk:k = .free
  ·subst hk
   obtain⟨a,ha⟩:=hf (n,.free) HX rfl
   have ha':env.cells.lookup n=some a:=ha
   have e:clG env (n,.free) cs=(n,a) :: cs:=by
    unfold clG
    rw[if_pos (by rfl)]
    show (n,(env.cells.lookup n).getD 0) :: cs=_
    rw[ha']
    rfl
   rw[e]
   have ih:=rn l ((n,a) :: cs) hf' (fun y c hy=>by
    rw[List.lookup_cons]at hy
    cases hb:y == n with
    | true=>
     rw[hb]at hy
     rw[eq_of_beq hb]
     exact ha'.trans hy
    | false=>
     rw[hb]at hy
     exact h y c hy)
   refine⟨ih.1,fun y hy=>ih.2 y ?_⟩
   rcases hy with hy | hy
   ·left
    rw[List.lookup_cons]
    cases y == n with
    | true=>rfl
    | false=>exact hy
   ·rcases bY.mp hy with hy | hy
    ·left
     rw[(Prod.mk.inj hy).1,List.lookup_cons]
     simp
    ·exact .inr hy
  ·have e:clG env (n,k) cs=cs:=by
    unfold clG
    rw[if_neg (by simpa using hk)]
   rw[e]
   have ih:=rn l cs hf' h
   refine⟨ih.1,fun y hy=>ih.2 y ?_⟩
   rcases hy with hy | hy
   ·exact .inl hy
   ·rcases bY.mp hy with hy | hy
    ·exact absurd (Prod.mk.inj hy).2.symm hk
    ·exact .inr hy
theorem dN{env:Env}:∀ {names:List (Str × NameKind)} {x:Str},names.lookup x=some .free →
  (names.map fun (n,k)=>if (k == NameKind.free && env.scope.kind == .function && env.kindOf n == some .cell) then (n,NameKind.cell) else (n,k)).lookup x ≠ some .local
 | [],_,h=>by simp at h
 | (n,k) :: r,x,h=>by
  have ih:=@dN env r x
  show List.lookup x ((if (k == NameKind.free && env.scope.kind == .function && env.kindOf n == some .cell)=true then (n,NameKind.cell) else (n,k)) :: _) ≠ _
  cases hx:x == n with
  | true=>
   simp only[List.lookup_cons,hx]at h
   cases h
   split
   ·simp [List.lookup_cons,hx]
   ·simp [List.lookup_cons,hx]
  | false=>
   simp only[List.lookup_cons,hx]at h
   by_cases hc:(k == NameKind.free && env.scope.kind == .function && env.kindOf n == some .cell)=true
   ·rw[if_pos hc];simp only[List.lookup_cons,hx];exact ih h
   ·rw[if_neg hc];simp only[List.lookup_cons,hx];exact ih h
theorem mD{env:Env}{scope:Scope}{y:Str}(nc:∀ z∈scope.names,z.2 ≠ .cell)(h:(relabel scope env).names.lookup y=some .cell ∨ (relabel scope env).names.lookup y=some .free):(y,NameKind.free)∈scope.names:=by
 have go:∀ k,(k=NameKind.cell ∨ k=NameKind.free)->(relabel scope env).names.lookup y=some k->(y,NameKind.free)∈scope.names:=fun k hk e=>by
  have m:=PySem.mem_of_lookup e
  obtain⟨⟨n,k'⟩,hm,e'⟩:=iU.mp m
  by_cases hc:(k' == NameKind.free && env.scope.kind == .function && env.kindOf n == some .cell)=true
  ·have e2:(n,NameKind.cell)=(y,k):=by
    rw[<-e']
    show _=(if (k' == NameKind.free && env.scope.kind == .function && env.kindOf n == some .cell)=true then (n,NameKind.cell) else (n,k'))
    rw[if_pos hc]
   have hk':k' = .free:=by
    simp only[Bool.and_eq_true,beq_iff_eq]at hc
    exact hc.1.1
   rw[<-(Prod.mk.inj e2).1,<-hk']
   exact hm
  ·have e2:(n,k')=(y,k):=by
    rw[<-e']
    show _=(if (k' == NameKind.free && env.scope.kind == .function && env.kindOf n == some .cell)=true then (n,NameKind.cell) else (n,k'))
    rw[if_neg hc]
   rcases hk with hk | hk
   ·exact absurd ((Prod.mk.inj e2).2.trans hk) (nc _ hm)
   ·rw[<-(Prod.mk.inj e2).1,<-hk,<-(Prod.mk.inj e2).2]
    exact hm
 rcases h with h | h
 ·exact go _ (.inl rfl) h
 ·exact go _ (.inr rfl) h
noncomputable def cJ(X:Cx)(N:List Str)(scope:Scope)(C:Addr)(s:Shared)(H:Hp)(ex:List Addr)(pn:List (Addr × Obj))(E:Value->Shared->Prop):Cx where
 prog:=X.prog
 w:=X.w
 K:=X.K
 mg:=X.mg
 base:=X.base
 A:=X.A
 N:=N
 s₀:=s
 H₀:=H
 env:=compEnvC scope (mO X.env scope) C X.env
 outer:=X.stack
 stack:=X.stack
 ex:=ex
 fn:=fun _=>false
 calm:=X.calm
 pn:=pn
 xe:=E
structure bI(osc:Scope)(N:List Str)(scope:Scope)(x:Str)(aa:List (Nat × Str)):Prop where
 kind:scope.kind = .function
 hx:scope.names.lookup x=some .local
 zj:∀ y∈scope.names,y.2 ≠ .cell
 Rp:∀ y∈scope.names,y.2 = .local->scope.names.lookup y.1=some .local
 free:∀ y∈scope.names,y.2 = .free->osc.names.lookup y.1=some .cell ∨ osc.names.lookup y.1=some .free
 cap:∀ p∈aa,N[p.1]? = some p.2/\scope.names.lookup p.2=some .free
 nd:(x :: aa.map (·.2)).Nodup
noncomputable def uE(aa:List (Nat × Str))(σ:St):St:=aa.map fun p=>(σ[p.1]?).getD none
noncomputable def HD(X:Cx)(ifs:List Expr)(tc:TT):Prop:=
 ∀(pins:List (Addr × Obj))(s:Shared)(σ:St)(H:Hp)(Q:Bool->Hp->Prop),Inv X pins σ H s->tc σ H Q →
  wpAny (model X.prog X.w) X.A (forIn ifs true fun c r=>if r=true then do let ok ← isTrue c X.env (eval c X.env);pure (ForInStep.yield ok) else pure (ForInStep.yield r)) (TP X pins σ Q) X.xe s
noncomputable def qG2:TT:=fun _ H Q=>Q true H
theorem cR{X:Cx}:HD X [] qG2:=fun _ _ _ H _ I h=>by
 simp only[List.forIn_nil]
 exact wpAny_pure ⟨H,I,h⟩
theorem dC{X:Cx}{c:Expr}{tc:TT}(h:PT X c tc):HD X [c] tc:=by
 intro pins s σ H Q I hq
 simp only[List.forIn_cons,List.forIn_nil,if_true]
 exact wpAny_bind (wpAny_bind (wpAny_mono (h pins s σ H Q I hq) (fun b s' hb=>wpAny_pure (wpAny_pure hb)) fun _ _ x=>x))
noncomputable def kY(J:It)(cs:St)(tc:TT)(te:TE)(H1:Hp)(Z:List V->Hp->Prop):Prop:=
 ∃ W:Nat->Nat->List V->Hp->Prop,(∃ m,W 0 m [] H1)/\∀ i m acc H,W i m acc H →
  (J.stop i H/\Z acc H) ∨ (J.go i H/\∃ N:List V->Hp->Prop,(∀ a H',N a H'->∃ m',m' < m/\W (i+1) m' a H') ∧
   ∀ x H',J.VN i H x H'->tc (some x :: cs) H' fun b H2=>if b=true then te (some x :: cs) H2 fun v H3=>acc.length < sizeLine/\N (acc++[v]) H3 else N acc H2)
noncomputable def QL(wi:TI)(aa:List (Nat × Str))(tc:TT)(te:TE):TE:=fun σ H Q=>wi σ H fun J H1=>kY J (uE aa σ) tc te H1 fun acc H2 => ∀ p,H2 p=none->Q (.ref p) (upd H2 p (.lst acc))
theorem Ae{X:Cx}{elt iter:Expr}{x:Str}{ns:List Str}{px pos:Pos}{ifs:List Expr}{scope:Scope}{it D:Addr}{fp:List Addr}{tn:Nat->Heap->Prop}{J:It}{tc:TT}{te:TE}{Z:List V->Hp->Prop}{R:Result->Shared->Prop}
  {cs:St} {o:Option V} {H:Hp} {s:Shared} (hc:X.calm=true) (hN:X.N=x :: ns) (nd:X.N.Nodup) (hx:X.env.scope.names.lookup x=some .local) (I:Inv X [] (o :: cs) H s) (T:Turn X.prog X.w X.K (.Name x px) J fp it tn) (st:tn 0 s.heap) (hf:∀ b∈fp,gR X [] H b)
  (hD:gR X [] H D) (hDf:D ∉ fp) (pl:s.heap.PlainList D #[]) (wz:HD X ifs tc) (helt:PE X elt te) (hW:kY J cs tc te H Z) (hxe:X.xe=notedBy (model X.prog X.w) X.A X.env fun e s'=>R (.error e) s')
  (hR:∀(s':Shared)(H':Hp)(acc:List V)(its:List Value)(o':Option V),Inv X [] (o' :: cs) H' s'->s'.heap.PlainList D its.toArray->Vals acc its->acc.length<=sizeLine->H' D=none->Z acc H'->R (.ok .next) s') :
  codeAny (model X.prog X.w) X.A (.compLoop (.ListComp elt [⟨.Name x px,iter,ifs,0⟩] scope pos) 0 (.ref it) (.ref D) X.env) R s:=by
 obtain⟨W,⟨m0,w0⟩,turn⟩:=hW
 refine codeAny_compLoop_tests (fun n s' => ∃(i:Nat)(acc:List V)(its:List Value)(H':Hp)(o':Option V),Inv X [] (o' :: cs) H' s'/\tn i s'.heap/\(∀ b∈fp,H' b=none)/\H' D=none/\s'.heap.PlainList D its.toArray/\Vals acc its/\acc.length<=sizeLine/\W i n acc H') ?_ m0
  ⟨0,[],[],H,o,I,st,fun b hb=>(hf b hb).1,hD.1,pl,.nil,Nat.zero_le _,w0⟩
 rintro n s3 ⟨i,acc,its,H3,o3,I3,st3,fr3,hD3,⟨nD,gD⟩,va,hl,w3⟩
 rw[<-hxe]
 -- the list is pinned through the turn
 have I4:Inv X [(D,{ cls:=.type "list",data:=.seq its.toArray nD })] (o3 :: cs) H3 s3:=I3.rH fun p hp=>by
  obtain rfl:p=(D,{ cls:=.type "list",data:=.seq its.toArray nD }):=by simpa using hp
  exact⟨gD,hD3,hD.2.1,hD.2.2.1,fun v z=>by cases (show Data.seq its.toArray nD=Data.cell v from z)⟩
 have stat:∀ {H':Hp},(∀ b∈fp,H' b=none)->∀ b∈fp,gR X [(D,{ cls:=.type "list",data:=.seq its.toArray nD })] H' b:=fun hn b hb=>by
  obtain⟨_,f1,f2,f3,f4,f5⟩:=hf b hb
  refine⟨hn b hb,f1,f2,f3,f4,fun p hp=>?_⟩
  rcases gW.mp hp with z | z
  ·exact f5 p (List.mem_append_left _ z)
  ·obtain rfl:p=(D,{ cls:=.type "list",data:=.seq its.toArray nD }):=by simpa using z
   exact fun e=>hDf (by rw[show D=b from e];exact hb)
 rcases turn i n acc H3 w3 with ⟨stop,z⟩ | ⟨go,N,hNn,step⟩
 ·refine bJ (T.done X rfl rfl rfl hc i _ s3 (o3 :: cs) H3 X.xe I4 (stat fr3) st3 stop) fun r s4 ⟨hr,I5⟩=>?_
  subst hr
  exact hR s4 H3 acc its o3 (I5.rH fun p hp=>absurd hp (by simp)) ⟨nD,(I5.pin _ (List.mem_append_right _ (List.mem_singleton.mpr rfl))).1⟩ va hl hD3 z
 ·refine bJ (T.item X rfl rfl rfl hc i _ s3 (o3 :: cs) H3 X.xe I4 (stat fr3) st3 go) fun r s4 ⟨u,hr,h4⟩=>?_
  subst hr
  have e0:(letOwnedTupleGo (.Name x px) (.ref it) u >>= fun _=>assign (.Name x px) X.env u)=assign (.Name x px) X.env u:=rfl
  show wpAny _ _ (assign (.Name x px) X.env u) _ _ s4
  rw[<-e0]
  refine wpAny_bind (bJ h4 fun _ s5 ⟨xv,H5,I5,r5,y5,xj,fr5⟩=>?_)
  have I5':=I5.pinned (stat fr5) (T.obj _ _ xj)
  refine wpAny_assign_Name (mY (i:=0) I5' nd (by rw[hN] <;> rfl) (.inl hx) r5 (fun s6 I6=>?_) (.inr hx))
  have I6':Inv X ([(D,{ cls:=.type "list",data:=.seq its.toArray nD })]++tL fp s5.heap) (some xv :: cs) H5 s6:=I6
  -- what stays of the iterator and of the list,at any later state of the turn
  have later:∀ {σ':St} {H':Hp} {s':Shared},Inv X ([(D,{ cls:=.type "list",data:=.seq its.toArray nD })]++tL fp s5.heap) σ' H' s' →
    Inv X [] σ' H' s'/\tn (i+1) s'.heap/\(∀ b∈fp,H' b=none)/\H' D=none/\s'.heap.get? D=some { cls:=.type "list",data:=.seq its.toArray nD }:=fun {σ' H' s'} J'=>by
   have pD:=J'.pin (D,{ cls:=.type "list",data:=.seq its.toArray nD }) (List.mem_append_right _ (List.mem_append_left _ (dJ.mpr rfl)))
   refine⟨J'.rH fun p hp=>absurd hp (by simp),T.keep _ _ _ xj fun b hb ob e=>(J'.pin (b,ob) (List.mem_append_right _ (List.mem_append_right _ (lJ hb e)))).1,fun b hb=>?_,pD.2.1,pD.1⟩
   obtain⟨ob,e,_⟩:=T.obj _ _ xj b hb
   exact (J'.pin (b,ob) (List.mem_append_right _ (List.mem_append_right _ (lJ hb e)))).2.1
  refine bJ (wz _ s6 (some xv :: cs) H5 _ I6' (step xv H5 y5)) fun b s7 ⟨H7,I7,q7⟩=>?_
  cases b with
  | false=>
   obtain⟨m',hm,w7⟩:∃ m',m' < n/\W (i+1) m' acc H7:=hNn acc H7 q7
   obtain⟨l1,l2,l3,l4,l5⟩:=later I7
   exact⟨m',hm,i+1,acc,its,H7,some xv,l1,l2,l3,l4,⟨nD,l5⟩,va,hl,w7⟩
  | true=>
   have q7':te (some xv :: cs) H7 fun v H3=>acc.length < sizeLine/\N (acc++[v]) H3:=q7
   show wpAny _ _ (eval elt X.env) _ _ s7
   refine bJ (helt _ s7 (some xv :: cs) H7 _ I7 q7') fun u8 s8 ⟨v,H8,I8,r8,hlt,n8⟩=>?_
   obtain⟨m',hm,w8⟩:=hNn _ _ n8
   obtain⟨l1,l2,l3,l4,l5⟩:=later I8
   have hlen:=va.length
   refine wpAny_list_append_plain (hsz:=by simp only[List.size_toArray];lia) ⟨nD,l5⟩ fun h9 pl9 sb9=>?_
   refine⟨m',hm,i+1,acc++[v],its++[u8],H8,some xv,l1.turned (t':=s8.toks) (fun b ob hb e=>(sb9.2 b hb).trans e) l4 hD.2.1 hD.2.2.2.1 hD.2.2.2.2.1 hD.2.2.2.2.2,?_,l3,l4,by simpa using pl9,va.append (.cons r8 .nil),?_,w8⟩
   ·exact T.keep _ _ _ l2 fun b hb ob e=>(sb9.2 b (fun z=>hDf (z ▸ hb))).trans e
   ·rw[fU,jf]
    lia
section
variable{X:Cx}{elt iter:Expr}{x:Str}{px pos:Pos}{ifs:List Expr}{scope:Scope}{aa:List (Nat × Str)}{wi:TI}{tc:TT}{te:TE}
theorem Inv.vL{pins:List (Addr × Obj)}{σ:St}{H:Hp}{s:Shared}{b:Addr}(I:Inv X pins σ H s)(h1:b ≠ X.env.locals)(h2:b ∉ X.fs):b ∉ frs X.stack:=fun z=>(bY.mp (I.Hr b z)).elim h1 h2
theorem xP{pins:List (Addr × Obj)}{σ:St}{H:Hp}{s:Shared}{E:Value->Shared->Prop}{it:Addr}{fp:List Addr}{tn:Nat->Heap->Prop}{J:It}{Z:List V->Hp->Prop}{RR:Value->Addr->Result->Shared->Prop}
  (hc:X.calm=true) (S:bI X.env.scope X.N scope x aa) (I:Inv X pins σ H s) (T:Turn X.prog X.w X.K (.Name x px) J fp it tn) (st:tn 0 s.heap) (hf:∀ b∈fp,gR X pins H b)
  (wz:∀ C s H ex pn E,HD (cJ X (x :: aa.map (·.2)) scope C s H ex pn E) ifs tc) (helt:∀ C s H ex pn E,PE (cJ X (x :: aa.map (·.2)) scope C s H ex pn E) elt te)
  (hW:kY J (uE aa σ) tc te H Z)
  (hRR:∀(s':Shared)(H':Hp)(acc:List V)(its:List Value)(D C:Addr)(m:Str->Option Value),Inv X pins σ H' s'->s'.heap.PlainList D its.toArray->Vals acc its->acc.length<=sizeLine->gR X pins H' D->gR X pins H' C->D ≠ C->s'.heap.Ns C m->Z acc H'->RR (.ref D) C (.ok .next) s') :
  wpAny (model X.prog X.w) X.A (newList []) (fun acc s₃=>wpAny (model X.prog X.w) X.A (newFunctionEnv scope X.env.globals (mO X.env scope) [] X.env.qual none .none (some X.env)) (fun cenv s₄=>
   codeAny (model X.prog X.w) X.A (.compStart (.ListComp elt [⟨.Name x px,iter,ifs,0⟩] scope pos) 0 (.ref it) acc { cenv with scope:=relabel scope X.env }) (RR acc cenv.locals) s₄) E s₃) E s:=by
 refine wpAny_newObj_type (wpAny_newFunctionEnv S.zj (by intro y hy;simp at hy) (fun h₁ hns₁ hsb₁=>?_) S.kind)
 dsimp only at hns₁ hsb₁ ⊢
 have hI3:Inv X pins σ H { s with heap:=s.heap.push { cls:=.type "list",dict:=none,data:=.seq ([]:List Value).toArray } }:=I.kept (t':=s.toks) fun b u e=>jJ _ e
 have gD3:(s.heap.push { cls:=.type "list",dict:=none,data:=.seq ([]:List Value).toArray }).get? s.heap.objs.size=some { cls:=.type "list",dict:=none,data:=.seq ([]:List Value).toArray }:=xf _ rfl
 have Jc:(s.heap.push { cls:=.type "list",dict:=none,data:=.seq ([]:List Value).toArray }).objs.size=s.heap.objs.size+1:=Heap.size_push _ _
 generalize VH:s.heap.push { cls:=.type "list",dict:=none,data:=.seq ([]:List Value).toArray }=h3 at hns₁ hsb₁ hI3 gD3 Jc ⊢
 have k3:∀ b u,s.heap.get? b=some u->h3.get? b=some u:=fun b u e=>VH ▸ jJ _ e
 have VD:∀ b u,h3.get? b=some u->h₁.get? b=some u:=fun b u e=>(hsb₁.2 b (lu (gf e))).trans (jJ _ e)
 have k1:∀ b u,s.heap.get? b=some u->h₁.get? b=some u:=fun b u e=>VD b u (k3 b u e)
 have hDC:s.heap.objs.size ≠ h3.objs.size:=by rw[Jc];exact lu (Nat.lt_succ_self _)
 have fD:gR X pins H s.heap.objs.size:=I.xH (bT _) (I.hok.fresh (bT _))
 have fC:gR X pins H h3.objs.size:=I.xH (by rw[Jc];exact Nat.le_succ _) (I.hok.fresh (by rw[Jc];exact Nat.le_succ _))
 have lfp:∀ b∈fp,b < s.heap.objs.size:=fun b hb=>let ⟨_,e,_⟩:=T.obj _ _ st b hb;gf e
 have hDf:s.heap.objs.size ∉ fp:=fun z=>Nat.lt_irrefl _ (lfp _ z)
 -- the P0 cells are cells around
 have hfree:∀ y∈scope.names,y.2 = .free->∃ c,X.env.cells.lookup y.1=some c:=fun y hy e=>I.ok.has y.1 (S.free y hy e)
 obtain⟨sub,has⟩:=rn scope.names [] hfree (fun y c e=>by simp at e)
 have pW:∀ y c,(mO X.env scope).lookup y=some c->X.env.cells.lookup y=some c:=sub
 have Je:∀ y,(y,NameKind.free)∈scope.names->∃ c,(mO X.env scope).lookup y=some c:=fun y hy=>Option.isSome_iff_exists.mp (has y (.inr hy))
 have inj:∀ b∈s.heap.objs.size :: fp,gR X pins H b:=fun b hb=>(bY.mp hb).elim (fun z=>z ▸ fD) (hf b)
 have ltC:∀ b∈s.heap.objs.size :: fp,b ≠ h3.objs.size:=fun b hb=>(bY.mp hb).elim (fun z=>z ▸ hDC) fun z=>lu (by rw[Jc];exact Nat.lt_succ_of_lt (lfp b z))
 have I1:Inv (cJ X (x :: aa.map (·.2)) scope h3.objs.size { s with heap:=h3 } H (s.heap.objs.size :: fp) (X.pn++pins)
   (notedBy (model X.prog X.w) X.A (compEnvC scope (mO X.env scope) h3.objs.size X.env) fun e s'=>RR (.ref s.heap.objs.size) h3.objs.size (.error e) s')) [] (none :: uE aa σ) H { s with heap:=h₁,toks:=s.toks+([]:List (Str × Value)).length }:=by
  refine⟨⟨I.ok.mod,S.kind,I.ok.glob,I.ok.blt,bT _,fun y z c e1 e2=>I.ok.inj y z c (pW _ _ e1) (pW _ _ e2),fun y hy=>Je y (mD S.zj hy),fun y c e=>(nomatch e),I.ok.hd,I.ok.frames,.inl rfl,fun b hb=>⟨ltC b hb,fun y c e=>(inj b hb).2.2.2.2.1 y c (pW y c e)⟩,
    fun b ob e=>⟨k3 b ob (I.bs b ob e).1,(I.bs b ob e).2⟩,?_,fun b ob e z=>?_,fun b hb=>I.vL (inj b hb).2.1 (inj b hb).2.2.1,?_,I.qi⟩,
   rfl,I.bare,Un.kept VD,⟨_,hns₁,fun i y v e1 e2 e3=>?_⟩,fun y c e=>?_,fC.1,fun y c e=>I.jU y c (pW y c e),fun p hp=>?_,I.hok.kept k1,?_⟩
  ·exact Nat.le_trans I.ok.QB (Nat.le_trans I.sz (by show s.heap.objs.size<=h3.objs.size;rw[Jc];exact Nat.le_succ _))
  ·rcases (inj b z).2.2.2.1 with w1 | w1
   ·exact I.ok.JD b ob e w1
   ·exact absurd (Dr (gf e) I.ok.QB) (Nat.not_lt.mpr w1)
  ·exact Heap.FunFrames.of_keeps (fun b ob e _=>⟨ob,k3 b ob e,rfl⟩) I.stack
  ·cases i with
   | zero=>cases e2
   | succ i=>
    have e1':(aa.map (·.2))[i]? = some y:=e1
    have e2':(uE aa σ)[i]? = some (some v):=e2
    unfold uE at e2'
    rw[cZ]at e1' e2'
    cases ep:aa[i]? with
    | none=>rw[ep]at e1';cases e1'
    | some p=>
     rw[ep]at e1' e2'
     obtain rfl:p.2=y:=kJ e1'
     have Cq:(σ[p.1]?).getD none=some v:=kJ e2'
     have hσ:σ[p.1]? = some (some v):=by
      cases es:σ[p.1]? with
      | none=>rw[es]at Cq;cases Cq
      | some w1=>rw[es]at Cq;exact congrArg some Cq
     obtain⟨cN,cF⟩:=S.cap p (Mq ep)
     have mF:(p.2,NameKind.free)∈scope.names:=PySem.mem_of_lookup cF
     have oF:=S.free _ mF rfl
     obtain⟨m,hn,hlook⟩:=I.loc
     obtain⟨u,ru,lk⟩:=hlook p.1 p.2 v cN hσ (.inr oF)
     refine⟨u,ru,.inr ⟨?_,?_⟩⟩
     ·rcases e3 with z | z
      ·exact absurd z (dN cF)
      ·exact z
     ·obtain⟨c,ec⟩:=Je p.2 mF
      refine⟨c,ec,?_⟩
      rcases lk with ⟨z,_⟩ | ⟨_,c',ec',ob,ho,hd⟩
      ·have z':X.env.scope.names.lookup p.2=some .local:=z
       rw[z']at oF
       rcases oF with q | q <;> cases q
      ·have ee:=(pW _ _ ec).symm.trans ec'
       cases ee
       exact⟨ob,k1 _ _ ho,hd⟩
  ·obtain⟨v,ob,ho,hd⟩:=I.cell y c (pW y c e)
   exact⟨v,ob,k1 _ _ ho,hd⟩
  ·have hp':p∈X.pn++pins:=by
    rcases gW.mp hp with z | z
    ·exact z
    ·exact absurd z (by simp)
   obtain⟨e,n,ne,nf,d⟩:=I.pin p hp'
   refine⟨k1 _ _ e,n,lu ?_,I.vL ne nf,d⟩
   show p.1 < h3.objs.size
   rw[Jc]
   exact Nat.lt_succ_of_lt (gf e)
  ·show (none :: uE aa σ).length=(x :: aa.map (·.2)).length
   simp [uE]
 have hf1:∀ b∈s.heap.objs.size :: fp,gR (cJ X (x :: aa.map (·.2)) scope h3.objs.size { s with heap:=h3 } H (s.heap.objs.size :: fp) (X.pn++pins)
   (notedBy (model X.prog X.w) X.A (compEnvC scope (mO X.env scope) h3.objs.size X.env) fun e s'=>RR (.ref s.heap.objs.size) h3.objs.size (.error e) s')) [] H b:=fun b hb=>by
  obtain⟨f0,f1,f2,f3,f4,f5⟩:=inj b hb
  refine⟨f0,ltC b hb,I.vL f1 f2,.inl hb,fun y c e=>f4 y c (pW y c e),fun p hp=>f5 p ?_⟩
  rcases gW.mp hp with z | z
  ·exact z
  ·exact absurd z (by simp)
 have st1:tn 0 h₁:=T.keep _ _ _ st fun b _ ob e=>k1 b ob e
 have loop:codeAny (model X.prog X.w) X.A (.compLoop (.ListComp elt [⟨.Name x px,iter,ifs,0⟩] scope pos) 0 (.ref it) (.ref s.heap.objs.size) (compEnvC scope (mO X.env scope) h3.objs.size X.env)) (RR (.ref s.heap.objs.size) h3.objs.size) { s with heap:=h₁,toks:=s.toks+([]:List (Str × Value)).length }:=by
  refine Ae (X:=cJ X (x :: aa.map (·.2)) scope h3.objs.size { s with heap:=h3 } H (s.heap.objs.size :: fp) (X.pn++pins) (notedBy (model X.prog X.w) X.A (compEnvC scope (mO X.env scope) h3.objs.size X.env) fun e s'=>RR (.ref s.heap.objs.size) h3.objs.size (.error e) s'))
   hc rfl S.nd (lookup_relabel_local S.hx) I1 T st1 (fun b hb=>hf1 b (Hh _ hb)) (hf1 _ HX) hDf ⟨0,VD _ _ gD3⟩ (wz _ _ _ _ _ _) (helt _ _ _ _ _ _) hW rfl ?_
  intro s' H' acc its o' J1 Vy va hlen nD z
  have u1:Un (frs X.stack) (s.heap.objs.size :: fp) H H' h3 s'.heap:=J1.base
  have J2:Inv X pins σ H' s':=Inv.call' (s:={ s with heap:=h3 }) hI3 J1.os u1 J1.hok J1.bare fun b hb=>by
   obtain⟨_,f1,_,f3,f4,f5⟩:=inj b hb
   exact⟨f3,f1,f4,f5⟩
  obtain⟨m,hn,_⟩:=J1.loc
  exact hRR s' H' acc its _ _ m J2 Vy va hlen ⟨nD,fD.2⟩ ⟨J1.free,fC.2⟩ hDC hn z
 exact codeAny_compStart_list loop (T.self _ 0 _ _ _ st1 loop)
theorem yT(hc:X.calm=true)(S:bI X.env.scope X.N scope x aa)(hi:PI X (.Name x px) iter wi)
  (wz:∀ C s H ex pn E,HD (cJ X (x :: aa.map (·.2)) scope C s H ex pn E) ifs tc) (helt:∀ C s H ex pn E,PE (cJ X (x :: aa.map (·.2)) scope C s H ex pn E) elt te)
  (hs:∀ x,foldedSetIterable iter X.env x=pure x:=by intro _;rfl):PE X (.ListComp elt [⟨.Name x px,iter,ifs,0⟩] scope pos) (QL wi aa tc te):=by
 intro pins s σ H Q I h
 have hfree:∀ y∈scope.names,y.2 = .free->∃ c,X.env.cells.lookup y.1=some c:=fun y hy e=>I.ok.has y.1 (S.free y hy e)
 rw[eval_ListComp]
 refine wpAny_comprehension_free (use:=none) rfl hs (qM hfree) S.kind S.Rp (bJ (hi pins s σ H _ I h) fun v s1 h1=>bJ h1 fun itv s2 h2=>?_)
 obtain⟨it,fp,tn,J,H2,e,I2,T,st2,f2,hW⟩:=h2
 subst e
 refine xP (RR:=fun acc C=>compPost (model X.prog X.w) X.A X.xe none (EP X pins σ Q) acc C) hc S I2 T st2 f2 wz helt hW ?_
 intro s' H' acc its D C m J2 Vy va hlen fD fC hDC hn z
 obtain⟨nD,gD⟩:=Vy
 refine⟨m,hn,fun h'' sb=>?_⟩
 have J3:Inv X pins σ H' { s' with heap:=h'' }:=J2.turned (t':=s'.toks) (fun b ob hb e=>(sb.2 b hb).trans e) fC.1 fC.2.1 fC.2.2.2.1 fC.2.2.2.2.1 fC.2.2.2.2.2
 exact⟨.ref D,upd H' D (.lst acc),J3.adopt fD ⟨hlen,its,nD,va,(sb.2 D hDC).trans gD⟩,rfl,z D fD.1⟩
theorem vA{i:Nat}{y:Str}{py spos:Pos}(hc:X.calm=true)(hN:X.N.Nodup)(hi':X.N[i]? = some y)(hy:Loc X.env.scope y)(S:bI X.env.scope X.N scope x aa)(hi:PI X (.Name x px) iter wi)
  (wz:∀ C s H ex pn E,HD (cJ X (x :: aa.map (·.2)) scope C s H ex pn E) ifs tc) (helt:∀ C s H ex pn E,PE (cJ X (x :: aa.map (·.2)) scope C s H ex pn E) elt te)
  (hsw:swapsWith (.ListComp elt [⟨.Name x px,iter,ifs,0⟩] scope pos) (some (.Name y py)) spos.line X.env=pure true:=by rfl) (hs:∀ x,foldedSetIterable iter X.env x=pure x:=by intro _;rfl)
  (hfn:X.fn y=true ∨ X.env.scope.names.lookup y=some .local:=by first | exact .inl rfl | exact .inr rfl | assumption):PS X (.Assign [.Name y py] (.ListComp elt [⟨.Name x px,iter,ifs,0⟩] scope pos) spos) (QM (QL wi aa tc te) (Gi i)):=by
 intro pins s σ H D0 I h
 have hfree:∀ y∈scope.names,y.2 = .free->∃ c,X.env.cells.lookup y.1=some c:=fun y hy e=>I.ok.has y.1 (S.free y hy e)
 rw[exec_Assign_Name_used _ _ _ _ hsw]
 refine wpAny_bind (wpAny_standAt (wpAny_bind ?_))
 show wpAny _ _ (do let _ ← comprehension (.ListComp elt [⟨.Name x px,iter,ifs,0⟩] scope pos) scope X.env _ (newList []) false (eval iter X.env) (some (assign (.Name y py) X.env))) _ _ s
 refine wpAny_bind (wpAny_mono (wpAny_comprehension_free (use:=some (assign (.Name y py) X.env)) (Q:=fun _ s'=>SP X pins D0 .next s') rfl hs (qM hfree) S.kind S.Rp
  (bJ (hi pins s σ H _ I h) fun v s1 h1=>bJ h1 fun itv s2 h2=>?_)) (fun _ s' hq=>wpAny_pure (wpAny_pure hq)) fun _ _ e=>e)
 obtain⟨it,fp,tn,J,H2,e,I2,T,st2,f2,hW⟩:=h2
 subst e
 refine xP (RR:=fun acc C=>compPost (model X.prog X.w) X.A X.xe (some (assign (.Name y py) X.env)) (fun _ s'=>SP X pins D0 .next s') acc C) hc S I2 T st2 f2 wz helt hW ?_
 intro s' H' acc its D C m J2 Vy va hlen fD fC hDC hn z
 obtain⟨nD,gD⟩:=Vy
 have J3:Inv X pins σ (upd H' D (.lst acc)) s':=J2.adopt fD ⟨hlen,its,nD,va,gD⟩
 show wpAny _ _ (assign (.Name y py) X.env (.ref D)) _ _ s'
 refine wpAny_assign_Name (t6 J3 hN hi' hy (show RelV (.ref D) (.ref D) from rfl) (fun s4 J4 ⟨a,sa,ha⟩=>?_) hfn)
 have hCa:C ≠ a:=by
  rcases ha with q | q
  ·rw[q];exact fC.2.1
  ·exact (fC.2.2.2.2.1 y a q).symm
 refine⟨m,hn.sameBut sa hCa,fun h'' sb=>?_⟩
 exact⟨_,_,J4.turned (t':=s4.toks) (fun b ob hb e=>(sb.2 b hb).trans e) (by rw[zQ (Ne.symm hDC)];exact fC.1) fC.2.1 fC.2.2.2.1 fC.2.2.2.2.1 fC.2.2.2.2.2,z D fD.1⟩
end
theorem Cw{J:It}{cs:St}{tc:TT}{te:TE}{H1:Hp}{Z:List V->Hp->Prop}(n:Nat)(Pv:Nat->List V->Hp->Prop)(h0:Pv 0 [] H1)(hd:∀ acc H,Pv n acc H->J.stop n H/\Z acc H)
  (hs:∀ i acc H,i < n->Pv i acc H->J.go i H/\∀ x H',J.VN i H x H'->tc (some x :: cs) H' fun b H2=>if b=true then te (some x :: cs) H2 fun v H3=>acc.length < sizeLine/\Pv (i+1) (acc++[v]) H3 else Pv (i+1) acc H2) :
  kY J cs tc te H1 Z:=by
 refine⟨fun i m acc H=>m=n - i/\i<=n/\Pv i acc H,⟨n,by simp,Nat.zero_le _,h0⟩,?_⟩
 rintro i m acc H ⟨rfl,hi,p⟩
 by_cases hlt:i < n
 ·obtain⟨g,y⟩:=hs i acc H hlt p
  exact .inr ⟨g,Pv (i+1),fun a H' q=>⟨n - (i+1),by lia,rfl,hlt,q⟩,y⟩
 ·have e:i=n:=by lia
  subst e
  exact .inl (hd acc H p)
theorem lV{lo:Int}{n:Nat}{cs:St}{tc:TT}{te:TE}{H1:Hp}{Z:List V->Hp->Prop}(Pv:Nat->List V->Hp->Prop)(h0:Pv 0 [] H1)
  (hs:∀ i acc H,i < n->Pv i acc H->tc (some (.int (lo+i)) :: cs) H fun b H2=>if b=true then te (some (.int (lo+i)) :: cs) H2 fun v H3=>acc.length < sizeLine/\Pv (i+1) (acc++[v]) H3 else Pv (i+1) acc H2)
  (hd:∀ acc H,Pv n acc H->Z acc H):kY (Yd lo n) cs tc te H1 Z:=
 Cw n Pv h0 (fun acc H p=>⟨bT _,hd acc H p⟩) fun i acc H hi p=>⟨hi,fun x H' y=>by
  obtain⟨e,y⟩:=y
  subst e y
  exact hs i acc _ hi p⟩
theorem yS{K:bO}{a:Addr}{xs:List V}{cs:St}{tc:TT}{te:TE}{H1:Hp}{Z:List V->Hp->Prop}(Pv:Nat->List V->Hp->Prop)(h0:Pv 0 [] H1)(hl:∀ i acc H,Pv i acc H->aQ K H a xs)
  (hs:∀ i x acc H,xs[i]? = some x->Pv i acc H->tc (some x :: cs) H fun b H2=>if b=true then te (some x :: cs) H2 fun v H3=>acc.length < sizeLine/\Pv (i+1) (acc++[v]) H3 else Pv (i+1) acc H2)
  (hd:∀ acc H,Pv xs.length acc H->Z acc H):kY (Itl K a) cs tc te H1 Z:=
 Cw xs.length Pv h0 (fun acc H p=>⟨⟨xs,hl _ _ _ p,Nat.le_refl _⟩,hd acc H p⟩) fun i acc H hi p=>⟨⟨xs,xs[i],hl _ _ _ p,by simp [hi]⟩,fun x H' y=>by
  obtain⟨e,y⟩:=y
  subst e
  exact hs i x acc _ (y xs (hl _ _ _ p)) p⟩
theorem jx{K:bO}{a:Addr}{xs:List V}{cs:St}{tc:TT}{te:TE}{H1:Hp}{Z:List V->Hp->Prop}(Pv:Nat->List V->Hp->Prop)(h0:Pv 0 [] H1)(hl:∀ i acc H,Pv i acc H->aL K H a xs)
  (hs:∀ i x acc H,xs[i]? = some x->Pv i acc H->tc (some x :: cs) H fun b H2=>if b=true then te (some x :: cs) H2 fun v H3=>acc.length < sizeLine/\Pv (i+1) (acc++[v]) H3 else Pv (i+1) acc H2)
  (hd:∀ acc H,Pv xs.length acc H->Z acc H):kY (Itt K a) cs tc te H1 Z:=
 Cw xs.length Pv h0 (fun acc H p=>⟨⟨xs,hl _ _ _ p,Nat.le_refl _⟩,hd acc H p⟩) fun i acc H hi p=>⟨⟨xs,xs[i],hl _ _ _ p,by simp [hi]⟩,fun x H' y=>by
  obtain⟨e,y⟩:=y
  subst e
  exact hs i x acc _ (y xs (hl _ _ _ p)) p⟩
noncomputable def Hg(z:Str):It:=⟨fun i _=>i < z.cps.size,fun i H x H'=>H'=H/\∃ c,z.cps[i]? = some c/\x = .str ⟨#[c]⟩,fun i _=>z.cps.size<=i⟩
section
variable{X:Cx}{tg:Expr}
end
section
variable{X:Cx}
theorem Qh:SlR X (fun x lo hi H Q => ∃ z,x = .str z/\z.length<=sizeLine/\Q (.str (Txt.slice z lo hi)) H):=by
 intro pins s σ H x v vl vu lo hi sl Q I rx hs pl pu h
 obtain⟨z,rfl,hz,q⟩:=h
 obtain⟨t,rfl⟩:=rx
 have fin:∀(l u:Option (Int × Tok)),s.heap.IsSlice sl l u none->l.map (·.1)=lo->u.map (·.1)=hi->wpAny (model X.prog X.w) X.A (getItem (.str z t) (.ref sl)) (EP X pins σ Q) X.xe s:=fun l u h1 h2 h3=>by
  subst h2 h3
  exact wpAny_getItem_str_slice (l:=l) (u:=u) (st:=none) h1 rfl (post_val_or_str ⟨Nat.le_trans (Txt.slice_le z _ _) hz,fun t' k=>⟨.str _,H,I.tok _,⟨_,rfl⟩,q⟩⟩)
 refine⟨"str",_,F.slot_str_getitem.lookup,typeIs_str _ _ _,?_⟩
 cases pl with
 | none=>
  cases pu with
  | none=>exact fin none none hs rfl rfl
  | int j uj=>exact fin none (some (j,uj)) hs rfl rfl
 | int i ui=>
  cases pu with
  | none=>exact fin (some (i,ui)) none hs rfl rfl
  | int j uj=>exact fin (some (i,ui)) (some (j,uj)) hs rfl rfl
end
section
variable{X:Cx}{a b c:Expr}{ta tb:TE}{pos:Pos}
end
theorem jy{α:Type}{xs:List α}{i:Int}(h0:0<=i)(h1:i < (xs.length:Int)):∃ v∈xs,sY xs i=some v:=by
 have hk:i.toNat < xs.length:=by lia
 have e:xs[i.toNat]? = some xs[i.toNat]:=fu hk
 refine⟨xs[i.toNat],kO hk,?_⟩
 have q:=yQ e
 rw[Int.toNat_of_nonneg h0]at q
 exact q
theorem Mj{ns:List Int}{i:Int}(h0:0<=i)(h1:i < (ns.length:Int)):∃ v:Int,sY (ns.map V.int) i=some (.int v):=by
 obtain⟨v,hv,e⟩:=jy (xs:=ns.map V.int) h0 (by rw[bZ];exact h1)
 obtain⟨n,_,rfl⟩:=iU.mp hv
 exact⟨n,e⟩
theorem zI{n:Nat}(h:n<=1000):n<=sizeLine:=Nat.le_of_lt (zV h)
theorem Zg(x:Int):Builtin.bitAnd x 2147483647=x % 2147483648:=PySem.W.kbt_mask x 31
theorem YD(x:Int):0<=Builtin.bitAnd x 2147483647/\Builtin.bitAnd x 2147483647 < 2147483648:=by
 rw[Zg]
 lia
section
variable{X:Cx}{st:Stmt}{rest:List Stmt}{t u:TS}
noncomputable def qBW(t u:TS):TS:=fun D σ H => ∃ M:St->Hp->Prop,t { D with nx:=M } σ H/\∀ σ' H',M σ' H'->u D σ' H'
theorem zZ(h1:PS X st t)(h2:Aq X rest u):Aq X (st :: rest) (qBW t u):=by
 intro pins s σ H D I h
 obtain⟨M,h,hM⟩:=h
 refine wpAny_execs_cons (bJ (h1 pins s σ H { D with nx:=M } I h) fun f s1 q=>?_)
 cases f with
 | next=>
  obtain⟨σ',H',I',q⟩:=q
  exact h2 pins s1 σ' H' D I' (hM σ' H' q)
 | ret v=>exact q
 | brk=>exact q
 | cont=>exact q
end
theorem zF{H:Hp}{p:Addr}(h:H p=none)(o:HO):aJ H (upd H p o):=fun b u q=>by rw[zQ (zM q h)];exact q
noncomputable def qBV(t:TE):TE:=fun σ H Q => ∃ M:VK,t σ H M/\∀ v H',M v H'->Q v H'
theorem q9{X:Cx}{e:Expr}{t:TE}(h:PE X e t):PE X e (qBV t):=by
 intro pins s σ H Q I ⟨M,hM,hQ⟩
 exact bJ (h pins s σ H M I hM) fun u s' ⟨v,H',I',r,m⟩=>⟨v,H',I',r,hQ v H' m⟩
noncomputable def qBU(t:TT):TT:=fun σ H Q => ∃ M:Bool->Hp->Prop,t σ H M/\∀ b H',M b H'->Q b H'
theorem bQ{X:Cx}{e:Expr}{t:TT}(h:PT X e t):PT X e (qBU t):=by
 intro pins s σ H Q I ⟨M,hM,hQ⟩
 exact bJ (h pins s σ H M I hM) fun b s' ⟨H',I',m⟩=>⟨H',I',hQ b H' m⟩
end L2
namespace L2
open PySem
theorem fO{N P:List Str}{sc:Scope}(kind:sc.kind = .function:=by rfl)(co:sc.isCoroutine=false:=by rfl)(gen:sc.isGenerator=false:=by rfl)(nd:N.Nodup:=by decide +kernel)(pre:N.take P.length=P:=by rfl)
  (par:∀ x∈P,sc.names.lookup x=some .local ∨ sc.names.lookup x=some .cell:=by decide +kernel) (JC:∀ y∈sc.names,y.2 ≠ .free:=by decide +kernel):aH N P sc:=⟨kind,co,gen,nd,pre,par,JC⟩
theorem xO{osc:Scope}{N:List Str}{scope:Scope}{x:Str}{aa:List (Nat × Str)}(kind:scope.kind = .function:=by rfl)(hx:scope.names.lookup x=some .local:=by rfl)(zj:∀ y∈scope.names,y.2 ≠ .cell:=by decide +kernel)
  (Rp:∀ y∈scope.names,y.2 = .local->scope.names.lookup y.1=some .local:=by decide +kernel) (free:∀ y∈scope.names,y.2 = .free->osc.names.lookup y.1=some .cell ∨ osc.names.lookup y.1=some .free:=by decide +kernel)
  (cap:∀ p∈aa,N[p.1]? = some p.2/\scope.names.lookup p.2=some .free:=by decide +kernel) (nd:(x :: aa.map (·.2)).Nodup:=by decide +kernel):bI osc N scope x aa:=⟨kind,hx,zj,Rp,free,cap,nd⟩
end L2
namespace HT
open PySem PySem.Spec PyProof.Rows
section
variable{prog:Program}{w:World}{A:Around}{E:Value->Shared->Prop}{s:Shared}
end
end HT
namespace L2
open PySem PySem.Spec PyProof.Rows
section
variable{X:Cx}
end
section
variable{κ:Type} [DecidableEq κ]
noncomputable def dD(kvs:List (κ × V))(k:κ):Option V:=(kvs.find? fun kv=>decide (kv.1=k)).map (·.2)
noncomputable def putK(kvs:List (κ × V))(k:κ)(v:V):List (κ × V):=
 if (kvs.any fun kv=>decide (kv.1=k))=true then kvs.map (fun kv=>if kv.1=k then (kv.1,v) else kv) else kvs++[(k,v)]
theorem c7{p:κ × V}{r:List (κ × V)}{k:κ}(e:p.1=k):dD (p :: r) k=some p.2:=by simp [dD,List.find?_cons,e]
theorem cA{p:κ × V}{r:List (κ × V)}{k:κ}(e:¬ p.1=k):dD (p :: r) k=dD r k:=by simp [dD,List.find?_cons,e]
theorem jh(k:κ):∀ kvs:List (κ × V),(kvs.any fun kv=>decide (kv.1=k))=(dD kvs k).isSome
 | []=>rfl
 | p :: r=>by
  rw[List.any_cons]
  by_cases e:p.1=k
  ·simp only[c7 e,decide_eq_true e,Bool.true_or,Option.isSome_some]
  ·rw[cA e,decide_eq_false e,Bool.false_or];exact jh k r
theorem Dy(k j:κ)(y:V):∀ kvs:List (κ × V),dD (kvs.map fun kv=>if kv.1=k then (kv.1,y) else kv) j=(dD kvs j).map fun x=>if j=k then y else x
 | []=>rfl
 | p :: r=>by
  have ih:=Dy k j y r
  rw[List.map_cons]
  by_cases h:p.1=k
  ·rw[if_pos h]
   by_cases e:p.1=j
   ·rw[c7 (p:=(p.1,y)) e,c7 e,Option.map_some,if_pos (e.symm.trans h)]
   ·rw[cA (p:=(p.1,y)) e,cA e,ih]
  ·rw[if_neg h]
   by_cases e:p.1=j
   ·rw[c7 (p:=p) e,c7 e,Option.map_some,if_neg (fun z=>h (e.trans z))]
   ·rw[cA (p:=p) e,cA e,ih]
theorem yd(k j:κ)(y:V):∀ kvs:List (κ × V),dD kvs k=none->dD (kvs++[(k,y)]) j=if j=k then some y else dD kvs j
 | [],_=>by
  by_cases e:k=j
  ·rw[if_pos e.symm];exact c7 (p:=(k,y)) e
  ·rw[if_neg (fun z=>e z.symm)];exact cA (p:=(k,y)) e
 | p :: r,hn=>by
  rw[List.cons_append]
  have hk:¬ p.1=k:=fun z=>by rw[c7 z]at hn;cases hn
  rw[cA hk]at hn
  have ih:=yd k j y r hn
  by_cases e:p.1=j
  ·rw[c7 e,c7 e,if_neg (fun z=>hk (e.trans z))]
  ·rw[cA e,cA e,ih]
theorem QD(kvs:List (κ × V))(k j:κ)(y:V):dD (putK kvs k y) j=if j=k then some y else dD kvs j:=by
 unfold putK
 by_cases a:(kvs.any fun kv=>decide (kv.1=k))=true
 ·rw[if_pos a,Dy]
  rw[jh]at a
  by_cases e:j=k
  ·obtain⟨x,hx⟩:=Option.isSome_iff_exists.mp a
   rw[if_pos e,e,hx,Option.map_some,if_pos rfl]
  ·rw[if_neg e]
   cases dD kvs j with
   | none=>rfl
   | some x=>rw[Option.map_some,if_neg e]
 ·rw[if_neg a]
  refine yd k j y kvs ?_
  rw[jh]at a
  cases q:dD kvs k with
  | none=>rfl
  | some x=>rw[q]at a;exact (a rfl).elim
theorem uR(kvs:List (κ × V))(k:κ)(v:V):(putK kvs k v).length<=kvs.length+1:=by
 unfold putK
 split
 ·rw[bZ];lia
 ·rw[fU,eV,List.length_nil];lia
theorem Qx{kvs:List (κ × V)}{k:κ}(v:V)(h:dD kvs k=none):putK kvs k v=kvs++[(k,v)]:=by
 unfold putK
 rw[jh,h]
 exact if_neg (by decide)
theorem mU.uA{o:Option V}{u:Option Value}(r:mU o u):o.isSome=u.isSome:=by
 cases o with
 | none=>cases u with
  | none=>rfl
  | some _=>exact (show False from r).elim
 | some _=>cases u with
  | none=>exact (show False from r).elim
  | some _=>rfl
theorem KV.val{kvs:List (κ × V)}{vs:List (κ × Value)}(r:KV kvs vs)(k:κ):mU (dD kvs k) (valueAt vs k):=by
 unfold KV at r
 induction r with
 | nil=>exact True.intro
 | @cons p q ps qs h t ih=>
  obtain⟨h1,h2⟩:=h
  by_cases e:p.1=k
  ·have e':q.1=k:=h1.symm.trans e
   have b:valueAt (q :: qs) k=some q.2:=by simp [valueAt,List.find?_cons,e']
   rw[c7 e,b];exact h2
  ·have e':¬ q.1=k:=fun z=>e (h1.trans z)
   have b:valueAt (q :: qs) k=valueAt qs k:=by simp [valueAt,List.find?_cons,e']
   rw[cA e,b];exact ih
theorem KV.any{kvs:List (κ × V)}{vs:List (κ × Value)}(r:KV kvs vs)(k:κ):(kvs.any fun kv=>decide (kv.1=k))=vs.any fun kv=>decide (kv.1=k):=by
 unfold KV at r
 induction r with
 | nil=>rfl
 | cons h t ih=>rw[List.any_cons,List.any_cons,ih,h.1]
theorem KV.repl{kvs:List (κ × V)}{vs:List (κ × Value)}(r:KV kvs vs)(k:κ){y:V}{u:Value}(ry:RelV y u) :
  KV (kvs.map fun kv=>if kv.1=k then (kv.1,y) else kv) (vs.map fun kv=>if kv.1=k then (kv.1,u) else kv):=by
 unfold KV at r ⊢
 induction r with
 | nil=>exact .nil
 | @cons p q ps qs h t ih=>
  rw[List.map_cons,List.map_cons]
  refine .cons ?_ ih
  obtain⟨h1,h2⟩:=h
  by_cases e:p.1=k
  ·rw[if_pos e,if_pos (h1.symm.trans e)];exact⟨h1,ry⟩
  ·rw[if_neg e,if_neg (fun z=>e (h1.trans z))];exact⟨h1,h2⟩
theorem KV.put{kvs:List (κ × V)}{vs:List (κ × Value)}(r:KV kvs vs)(k:κ){y:V}{u:Value}(ry:RelV y u):KV (putK kvs k y) (stored vs k u):=by
 unfold putK stored
 rw[r.any k]
 by_cases e:(vs.any fun kv=>decide (kv.1=k))=true
 ·rw[if_pos e,if_pos e];exact r.repl k ry
 ·rw[if_neg e,if_neg e];exact Paired.snoc r ⟨rfl,ry⟩
theorem KV.keys{kvs:List (κ × V)}{vs:List (κ × Value)}(r:KV kvs vs):kvs.map (·.1)=vs.map (·.1):=by
 unfold KV at r
 induction r with
 | nil=>rfl
 | cons h t ih=>rw[List.map_cons,List.map_cons,ih,h.1]
theorem KV.length{kvs:List (κ × V)}{vs:List (κ × Value)}(r:KV kvs vs):kvs.length=vs.length:=Paired.length r
end
theorem Gf{P:Program}{w:World}{k:Key}{u:Value}(r:RelV (kV k) u):(bj P w).is k u=true:=by
 cases k with
 | inl i=>obtain⟨t,e⟩:=(show ∃ t,u=Value.int i t from r);subst e;exact Fw P w i t
 | inr x=>obtain⟨t,e⟩:=(show ∃ t,u=Value.str x t from r);subst e;exact Fv P w x t
theorem Ab{P:Program}{w:World}:∀ {ks:List Key} {us:List Value},Vals (ks.map kV) us->ItemsAre (bj P w) ks us
 | [],_,r=>by rw[List.map_nil]at r;cases r;exact .nil
 | k :: ks,_,r=>by
  rw[List.map_cons]at r
  cases r with
  | cons h t=>exact .cons (Gf h) (Ab t)
abbrev KT(H:Hp):List (List Key × V)->List (List Key × Addr × Value)->Prop:=Paired fun p q=>p.1=q.1/\H q.2.1=some (.tup (p.1.map kV))/\RelV p.2 q.2.2
theorem KT.val{H:Hp}{kvs:List (List Key × V)}{xs:List (List Key × Addr × Value)}(r:KT H kvs xs)(k:List Key):mU (dD kvs k) ((atKey xs k).map (·.2)):=by
 induction r with
 | nil=>exact True.intro
 | @cons p q ps qs h t ih=>
  obtain⟨h1,_,h2⟩:=h
  by_cases e:p.1=k
  ·have e':q.1=k:=h1.symm.trans e
   have b:atKey (q :: qs) k=some q.2:=by simp [atKey,List.find?_cons,e']
   rw[c7 e,b];exact h2
  ·have e':¬ q.1=k:=fun z=>e (h1.trans z)
   have b:atKey (q :: qs) k=atKey qs k:=by simp [atKey,List.find?_cons,e']
   rw[cA e,b];exact ih
theorem KT.repl{H:Hp}{kvs:List (List Key × V)}{xs:List (List Key × Addr × Value)}(r:KT H kvs xs)(k:List Key){y:V}{u:Value}(ry:RelV y u) :
  KT H (kvs.map fun kv=>if kv.1=k then (kv.1,y) else kv) (xs.map (putAt k u)):=by
 induction r with
 | nil=>exact .nil
 | @cons p q ps qs h t ih=>
  rw[List.map_cons,List.map_cons]
  refine .cons ?_ ih
  obtain⟨h1,h2,h3⟩:=h
  unfold putAt
  by_cases e:p.1=k
  ·rw[if_pos e,if_pos (h1.symm.trans e)];exact⟨h1,h2,ry⟩
  ·rw[if_neg e,if_neg (fun z=>e (h1.trans z))];exact⟨h1,h2,h3⟩
theorem KT.put{H:Hp}{kvs:List (List Key × V)}{xs:List (List Key × Addr × Value)}(r:KT H kvs xs)(k:List Key){b:Addr}{y:V}{u:Value}(hb:H b=some (.tup (k.map kV)))(ry:RelV y u) :
  KT H (putK kvs k y) (storedH xs k b u):=by
 have e:(kvs.any fun kv=>decide (kv.1=k))=(atKey xs k).isSome:=by
  rw[jh,(r.val k).uA,Option.isSome_map]
 unfold putK storedH
 rw[e]
 by_cases q:(atKey xs k).isSome=true
 ·rw[if_pos q,if_pos q];exact r.repl k ry
 ·rw[if_neg q,if_neg q];exact Paired.snoc r ⟨rfl,hb,ry⟩
theorem KT.keeps{H H':Hp}{kvs:List (List Key × V)}{xs:List (List Key × Addr × Value)}(r:KT H kvs xs)(ht:∀ b ys,H b=some (.tup ys)->H' b=some (.tup ys)):KT H' kvs xs:=
 Paired.Zh r fun _ _ z=>⟨z.1,ht _ _ z.2.1,z.2.2⟩
section
variable{P:Program}{w:World}{H:Hp}{h:Heap}{a:Addr}
theorem Y6{u:HO}(ok:jL P w H h)(e:Rd H a u):bN P w H h a u:=e.ok ok
theorem M9{kvs:List (Key × V)}(ok:jL P w H h)(e:Rd H a (.dK kvs)):kvs.length<=sizeLine/\(a == sysModules)=false/\∃ vs,KV kvs vs/\h.DictOf (bj P w) a vs:=
 show bN P w H h a (.dK kvs) from Y6 ok e
theorem YT{kvs:List (Key × V)}(ok:jL P w H h)(e:H a=some (.dK kvs)):kvs.length<=sizeLine/\(a == sysModules)=false/\∃ vs,KV kvs vs/\h.DictOf (bj P w) a vs:=M9 ok (.inl e)
theorem CQ{ks:List Key}(ok:jL P w H h)(e:H a=some (.tup (ks.map kV))):(tupleKind (bj P w)).is h ks a:=by
 obtain⟨_,its,r,o,h1,h2,n,h3⟩:=(show bN P w H h a (.tup (ks.map kV)) from ok a _ e)
 exact⟨o,its.toArray,n,h1,h2,h3,by simpa using Ab r⟩
theorem M6{kvs:List (List Key × V)}(ok:jL P w H h)(e:Rd H a (.dT kvs)):kvs.length<=sizeLine/\(a == sysModules)=false ∧
  ∃ xs,KT H kvs xs/\h.DictOfH (tupleKind (bj P w)) a xs:=by
 obtain⟨z,y,xs,r,o,es,ep,h1,h2,h3,h4,h5⟩:=(show bN P w H h a (.dT kvs) from Y6 ok e)
 refine⟨z,y,xs,r,o,es,ep,h1,h2,h3,h4,fun x hx=>?_,h5⟩
 have all:∀ {l:List (List Key × V)} {m:List (List Key × Addr × Value)},KT H l m->∀ x∈m,(tupleKind (bj P w)).is h x.1 x.2.1:=by
  intro l m q
  induction q with
  | nil=>intro x hx;exact nomatch hx
  | @cons p q ps qs hq t ih=>
   intro x hx
   rcases bY.mp hx with e | hx
   ·subst e
    exact CQ ok (by rw[<-hq.1];exact hq.2.1)
   ·exact ih x hx
 exact all r x hx
theorem qFD{kvs:List (List Key × V)}(ok:jL P w H h)(e:H a=some (.dT kvs)):kvs.length<=sizeLine/\(a == sysModules)=false ∧
  ∃ xs,KT H kvs xs/\h.DictOfH (tupleKind (bj P w)) a xs:=M6 ok (.inl e)
end
noncomputable def Dp(H:Hp)(a:Addr)(y:V)(r:Option V):Prop:=
 (∃ kvs k,Rd H a (.dK kvs)/\y=kV k/\r=dD kvs k) ∨ ∃ kvs k b,Rd H a (.dT kvs)/\y = .ref b/\H b=some (.tup (k.map kV))/\r=dD kvs k
noncomputable def V1(H:Hp)(a:Addr)(y v:V)(H':Hp):Prop:=
 (∃ kvs k,H a=some (.dK kvs)/\y=kV k/\kvs.length < sizeLine/\H'=upd H a (.dK (putK kvs k v))) ∨
 ∃ kvs k b,H a=some (.dT kvs)/\y = .ref b/\H b=some (.tup (k.map kV))/\kvs.length < sizeLine/\H'=upd H a (.dT (putK kvs k v))
theorem Dp.k{H:Hp}{a:Addr}{kvs:List (Key × V)}{k:Key}(e:H a=some (.dK kvs)):Dp H a (kV k) (dD kvs k):=.inl ⟨kvs,k,.inl e,rfl,rfl⟩
theorem V1.k{H:Hp}{a:Addr}{kvs:List (Key × V)}{k:Key}{v:V}(e:H a=some (.dK kvs))(hl:kvs.length < sizeLine):V1 H a (kV k) v (upd H a (.dK (putK kvs k v))):=.inl ⟨kvs,k,e,rfl,hl,rfl⟩
section
variable{X:Cx}{pins:List (Addr × Obj)}{σ:St}{H:Hp}{s:Shared}{a:Addr}{y v:V}{u r:Value}{o:Option V}{A:Around}{E:Value->Shared->Prop}
theorem Inv.big(I:Inv X pins σ H s):sysModules < s.heap.objs.size:=by
 have h:mainGlobals < s.heap.objs.size:=(I.mod.glob.keeps I.bk).lt
 exact Nat.lt_trans (by decide) h
theorem Ox{Q:Value->Shared->Prop}(hu:A.units+1 < cLine)(I:Inv X pins σ H s)(g:Dp H a y (some v))(ry:RelV y u)(h:∀ w' s',Inv X pins σ H s'->RelV v w'->Q w' s') :
  wpAny (model X.prog X.w) A (getItem (.ref a) u) Q E s:=by
 rcases g with ⟨kvs,k,e,ey,l⟩ | ⟨kvs,k,b,e,ey,eb,l⟩
 ·subst ey
  obtain⟨z,hd,vs,rel,dd⟩:=M9 I.hok e
  obtain⟨w',hw,Qp⟩:=mU.some_of (v:=v) (o:=valueAt vs k) (by rw[l];exact rel.val k)
  exact wpAny_getItem_of (Gf ry) dd.mapOf hw (h w' _ (I.tok _) Qp)
 ·subst ey
  cases (show u=Value.ref b from ry)
  obtain⟨z,hd,xs,rel,dd⟩:=M6 I.hok e
  obtain⟨w',hw,Qp⟩:=mU.some_of (v:=v) (o:=(atKey xs k).map (·.2)) (by rw[l];exact rel.val k)
  obtain⟨p,hp,hp2⟩:=Option.map_eq_some_iff.mp hw
  refine wpAny_getItem_heap (tupleKind_room_in1 hu) (CQ I.hok eb) dd hp ?_
  rw[hp2]
  exact h w' _ (I.tok _) Qp
theorem XQ{Q:Value->Shared->Prop}(hu:A.units+1 < cLine)(I:Inv X pins σ H s)(g:Dp H a y o)(ry:RelV y u)(h:∀ s',Inv X pins σ H s'->Q (.bool (!o.isSome)) s') :
  wpAny (model X.prog X.w) A (compareOp .NotIn u (.ref a)) Q E s:=by
 rcases g with ⟨kvs,k,e,ey,l⟩ | ⟨kvs,k,b,e,ey,eb,l⟩
 ·subst ey
  obtain⟨z,hd,vs,rel,dd⟩:=M9 I.hok e
  refine wpAny_notIn_of (Gf ry) hd dd.mapOf ?_
  rw[<-(rel.val k).uA,<-l]
  exact h _ (I.tok _)
 ·subst ey
  cases (show u=Value.ref b from ry)
  obtain⟨z,hd,xs,rel,dd⟩:=M6 I.hok e
  refine wpAny_notIn_heap (tupleKind_room_in1 hu) (CQ I.hok eb) hd dd ?_
  have q:=(rel.val k).uA
  rw[Option.isSome_map]at q
  rw[<-q,<-l]
  exact h _ (I.tok _)
theorem Cv{h':Heap}{t':Nat}{ob:HO}(I:Inv X pins σ H s)(mu:Mut (H a))(hs:Heap.SameBut a s.heap h')(he:∃ q,h'.get? a=some q)(new:bN X.prog X.w (upd H a ob) h' a ob) :
  Inv X pins σ (upd H a ob) { s with heap:=h',toks:=t' }:=
 I.write (x:=a) (e:=a) mu (.inl rfl) (fun b q hb z=>(hs.2 b hb).trans z) he new
theorem qAQ{P:Program}{w:World}{H':Hp}{h':Heap}{kvs:List (Key × V)}{vs:List (Key × Value)}(z:kvs.length<=sizeLine)(hd:(a == sysModules)=false)(rel:KV kvs vs)(dd:h'.DictOf (bj P w) a vs) :
  bN P w H' h' a (.dK kvs):=⟨z,hd,vs,rel,dd⟩
theorem Ow{H':Hp}{Q:Unit->Shared->Prop}(hu:A.units+1 < cLine)(I:Inv X pins σ H s)(g:V1 H a y v H')(ry:RelV y u)(rv:RelV v r)(h:∀ s',Inv X pins σ H' s'->Q () s') :
  wpAny (model X.prog X.w) A (setItem (.ref a) u r) Q E s:=by
 rcases g with ⟨kvs,k,e,ey,l,eH⟩ | ⟨kvs,k,b,e,ey,eb,l,eH⟩
 ·subst ey eH
  obtain⟨z,hd,vs,rel,dd⟩:=YT I.hok e
  have hz:vs.length<=sizeLine:=by rw[<-rel.length];exact z
  have hl:(putK kvs k v).length<=sizeLine:=by have:=uR kvs k v;lia
  refine wpAny_setItem_pairs (hsz:=hz) (Gf ry) dd fun h' YW hs=>h _ ?_
  have he:∃ q,h'.get? a=some q:=let ⟨q,_,_,hq,_⟩:=YW;⟨q,hq⟩
  exact Cv I (by rw[e];exact True.intro) hs he (qAQ hl hd (rel.put k rv) YW)
 ·subst ey eH
  cases (show u=Value.ref b from ry)
  obtain⟨z,hd,xs,rel,dd⟩:=qFD I.hok e
  have hz:xs.length<=sizeLine:=by rw[<-Paired.length rel];exact z
  have hl:(putK kvs k v).length<=sizeLine:=by have:=uR kvs k v;lia
  refine wpAny_setItem_heap (hsz:=hz) (tupleKind_room_in1 hu) (CQ I.hok eb) dd fun h' YW hs=>h _ ?_
  obtain⟨q,es,ep,hq,h2,h3,h4,_,h5⟩:=YW
  refine Cv I (by rw[e];exact True.intro) hs ⟨q,hq⟩ ⟨hl,hd,_,(rel.put k eb rv).keeps fun c ys ec=>?_,q,es,ep,hq,h2,h3,h4,h5⟩
  rw[zQ (fH ec e (fun z=>nomatch z))]
  exact ec
end
section
variable{X:Cx}{pins:List (Addr × Obj)}{σ:St}{H:Hp}{s:Shared}{a:Addr}{kvs:List (Key × V)}{k:Key}{u:Value}{A:Around}{E:Value->Shared->Prop}
end
noncomputable def qB2(i:Expr):Prop:=∀ ov iv,subscripted i false ov iv=operate [ov,iv] (getItem ov iv)
theorem Kf{prog:Program}{w:World}{A:Around}{E:Value->Shared->Prop}{s:Shared}{env:Env}{value slice:Expr}{pos:Pos}{T id:String}{Q:Value->Shared->Prop}
  (hl:typeLookup (.type T) "__getitem__" = pure (some (.builtin id))) (hs:qB2 slice)
  (h:wpAny (model prog w) A (eval value env) (fun o s₁=>wpAny (model prog w) A (eval slice env) (fun i s₂=>s₂.TypeIs o T/\wpAny (model prog w) A (getItem o i) Q E s₂) E s₁) E s) :
  wpAny (model prog w) A (eval (.Subscript value slice pos) env) Q E s:=by
 refine Subscript_ (wpAny_mono h (fun o s₁ h₁=>wpAny_mono h₁ (fun i s₂ h₂=>?_) fun _ _ x=>x) fun _ _ x=>x)
 obtain⟨hT,h₂⟩:=h₂
 unfold subscriptTail
 refine wpAny_bind ?_
 rw[getitemInPython_of_ne hT.not_modules]
 refine wpAny_bind (wpAny_specialOf hT hl ?_)
 have fin:wpAny (model prog w) A (subscripted slice false o i) (fun r s₃=>wpAny (model prog w) A (letTemporaryGo value o r >>= fun _=>pure r) Q E s₃) E s₂:=by
  rw[hs o i]
  exact wpAny_operating (wpAny_mono h₂ (fun r s₃ h₃=>wpAny_bind (wpAny_letTemporaryGo (wpAny_pure h₃))) fun _ _ x=>x)
 first
  | exact wpAny_pure (wpAny_bind fin)
  | exact wpAny_bind (wpAny_pure (wpAny_bind fin))
  | exact wpAny_bind fin
theorem Gm{X:Cx}{pins:List (Addr × Obj)}{σ:St}{H:Hp}{s:Shared}{a:Addr}{y:V}{o:Option V}(I:Inv X pins σ H s)(g:Dp H a y o):s.TypeIs (.ref a) "dict" := by
 rcases g with ⟨kvs,k,e,_,_⟩ | ⟨kvs,k,b,e,_,_,_⟩
 ·obtain⟨_,_,vs,_,dd⟩:=M9 I.hok e
  exact dd.typeIs
 ·obtain⟨_,_,xs,_,dd⟩:=M6 I.hok e
  exact dd.typeIs
noncomputable def qBT(td ty:TE):TE:=fun σ H Q=>td σ H fun x H1=>ty σ H1 fun y H2 => ∃ a v,x = .ref a/\Dp H2 a y (some v)/\Q v H2
noncomputable def Va(ty td:TE):TE:=fun σ H Q=>ty σ H fun y H1=>td σ H1 fun x H2 => ∃ a o,x = .ref a/\Dp H2 a y o/\Q (.bl (!o.isSome)) H2
noncomputable def qCC(td ty tv:TE):TS:=fun D σ H=>tv σ H fun v H1=>td σ H1 fun x H2=>ty σ H2 fun y H3 => ∃ a H4,x = .ref a/\V1 H3 a y v H4/\D.nx σ H4
section
variable{X:Cx}{o i e value:Expr}{pos pos' tpos:Pos}{td ty tv:TE}
theorem W4(hu:X.A.units+1 < cLine)(ho:PE X o td)(hi:PE X i ty)(hs:qB2 i):PE X (.Subscript o i pos) (qBT td ty):=by
 intro pins s σ H Q I h
 refine Kf PySem.F.slot_dict_getitem.lookup hs (bJ (ho pins s σ H _ I h) fun u s1 ⟨x,H1,I1,rx,q1⟩=>bJ (hi pins s1 σ H1 _ I1 q1) fun iv s2 ⟨y,H2,I2,ry,a,v,ex,g,q2⟩=>?_)
 subst ex
 obtain rfl:u=Value.ref a:=rx
 exact⟨Gm I2 g,Ox hu I2 g ry fun w' s3 I3 Qp=>⟨v,H2,I3,Qp,q2⟩⟩
theorem NQ(hu:X.A.units+1 < cLine)(hi:PE X i ty)(ho:PE X o td):PC X .NotIn i o (Va ty td):=by
 intro pins s σ H Q I h
 refine bJ (hi pins s σ H _ I h) fun iv s1 ⟨y,H1,I1,ry,q1⟩=>bJ (ho pins s1 σ H1 _ I1 q1) fun u s2 ⟨x,H2,I2,rx,a,ov,ex,g,q2⟩=>?_
 subst ex
 obtain rfl:u=Value.ref a:=rx
 exact XQ hu I2 g ry fun s3 I3=>⟨.bl (!ov.isSome),H2,I3,rfl,q2⟩
theorem Vw(hu:X.A.units+1 < cLine)(ho:PE X o td)(hi:PE X i ty)(hv:PE X value tv)(hs:swapsWith value (some (.Subscript o i pos')) pos.line X.env=pure false) :
  PS X (.Assign [.Subscript o i pos'] value pos) (qCC td ty tv):=by
 intro pins s σ H D I h
 refine wpAny_Assign_Subscript (bJ (hv pins s σ H _ I h) fun r s1 ⟨v,H1,I1,rv,q1⟩=>bJ (ho pins s1 σ H1 _ I1 q1) fun u s2 ⟨x,H2,I2,rx,q2⟩=>bJ (hi pins s2 σ H2 _ I2 q2) fun iv s3 ⟨y,H3,I3,ry,a,H4,ex,g,q3⟩=>?_) hs
 subst ex
 obtain rfl:u=Value.ref a:=rx
 exact Ow hu I3 g ry rv fun s4 I4=>⟨σ,H4,I4,q3⟩
end
theorem U8{P:Program}{w:World}{H:Hp}(h:Heap)(hb:sysModules < h.objs.size):bN P w H (h.push { cls:=.type "dict",data:=.dict #[] }) h.objs.size (.dK []):=
 ⟨Nat.zero_le _,beq_eq_false_iff_ne.mpr (Ne.symm (lu hb)),[],.nil,Heap.DictOf.new h⟩
noncomputable def Yu:TE:=fun _ H Q => ∀ p,H p=none->Q (.ref p) (upd H p (.dK []))
section
variable{X:Cx}{pos:Pos}
theorem R7:PE X (.Dict [] [] pos) Yu:=fun pins s σ H Q I h=>
 wpAny_Dict_empty ⟨.ref s.heap.objs.size,_,I.laid (a:=s.heap.objs.size) (o:=.dK []) (t':=s.toks) (fun _ _ q=>jJ _ q) (bT _) (U8 s.heap I.big),rfl,h _ (I.hok.fresh (bT _))⟩
end
structure M1(X:Cx)(o:Expr)(m:Str)(apos:Pos)(e:Expr)(cpos:Pos):Prop where
 base:attributeBase o m X.env (eval o X.env)=eval o X.env
 few:((backTo cpos (starEach [e] X.env)).all (fun x => !x.1) && (backToKw cpos (keywordEach [] X.env)).all (fun x=>x.1.isSome)
  && decide (([e]:List Expr).length+([]:List Keyword).length+(if ([]:List Keyword).isEmpty then 0 else 1) < 30))=true
 line:(apos.endLine == cpos.line)=true
 trees:backTo cpos (starEach [e] X.env)=[(false,eval e X.env)]
structure M2(X:Cx)(o:Expr)(m:Str)(apos:Pos)(e f:Expr)(cpos:Pos):Prop where
 base:attributeBase o m X.env (eval o X.env)=eval o X.env
 few:((backTo cpos (starEach [e,f] X.env)).all (fun x => !x.1) && (backToKw cpos (keywordEach [] X.env)).all (fun x=>x.1.isSome)
  && decide (([e,f]:List Expr).length+([]:List Keyword).length+(if ([]:List Keyword).isEmpty then 0 else 1) < 30))=true
 line:(apos.endLine == cpos.line)=true
 trees:backTo cpos (starEach [e,f] X.env)=[(false,eval e X.env),(false,eval f X.env)]
section
variable{X:Cx}{pins:List (Addr × Obj)}{σ:St}{H:Hp}{s:Shared}{a:Addr}{y d:V}{u r:Value}{o:Option V}{A:Around}{E:Value->Shared->Prop}
end
section
variable{X:Cx}{o e f:Expr}{apos cpos:Pos}{td ty tx:TE}
end
section
variable{X:Cx}{pins:List (Addr × Obj)}{σ:St}{H:Hp}{s:Shared}{a:Addr}{kvs:List (Key × V)}{A:Around}{E:Value->Shared->Prop}
end
section
variable{X:Cx}{pins:List (Addr × Obj)}{σ:St}{H:Hp}{s:Shared}{a:Addr}{y:V}{u:Value}{A:Around}{E:Value->Shared->Prop}
end
end L2
namespace So
open PySem PyProof.Rows
set_option maxRecDepth 100000
section
variable{prog:Program}{w:World}{A:Around}{E:Value->Shared->Prop}{s:Shared}
theorem Hz{T:String}{o:Obj}{p:Addr}{its:List Value}{ns:List Int}{n:Nat}{Q:Value->Shared->Prop}(hT:T = "list" ∨ T = "tuple")(ho:s.heap.get? p=some o)(hc:o.cls = .type T)(hd:o.data = .seq its.toArray n)(hI:IntsAre its ns)(h64:its.length < 64)
  (fin:∀(h1 h':Heap)(q:Addr)(out:Array Value)(rs:List Int)(e:Nat),IntsAre out.toList rs->rs.Perm ns->rs.Pairwise (· <= ·)->h1.objs.size<=q->h'.get? q=some (seqObj "list" out e)->(∀ b o,s.heap.get? b=some o->h1.get? b=some o)->(∀ b o,h1.get? b=some o->h'.get? b=some o)->Q (.ref q) { s with heap:=h' }) :
  wpAny (model prog w) A (call (.builtin "sorted") [.ref p]) Q E s:=by
 refine Calls.call_function_entry kind_sorted plain_sorted entry_sorted (args_sorted1 _) ?_
 unfold Builtin.«sorted»
 refine wpAny_bind (m:=checkCount "sorted" 1 1 _) (wpAny_pure ?_)
 refine wpAny_bind (wpAny_collect_seq p hT ho hc hd (fun h1 k1=>?_) (by rw[qd,sizeLine_eq];lia))
 refine wpAny_bind (wpAny_newList ?_ (by show its.length<=_;rw[sizeLine_eq];lia))
 have g1:(h1.push (seqObj "list" its.toArray 0)).get? h1.objs.size=some (seqObj "list" its.toArray 0):=xf _ rfl
 refine wpAny_bind (wpAny_holding (wpAny_call_entry slot_list_sort ⟨_,g1,rfl⟩ entry_list_sort (list_sort_tree (s:={ s with heap:=h1.push (seqObj "list" its.toArray 0) }) g1 hI h64 fun out ns' a1 a2 a3=>⟨_,rfl,?_⟩) (args_list_sort _)))
 obtain⟨e,he⟩:=sortedHeap_at (out:=out) g1
 refine wpAny_pure ⟨_,rfl,fin h1 _ h1.objs.size out ns' e a1 a2 a3 (bT _) he k1 fun b ob hb=>?_⟩
 have lb:b < h1.objs.size:=gf hb
 rw[sortedHeap_old (lu lb) (by rw[Heap.size_push];exact Nat.lt_succ_of_lt lb)]
 exact jJ _ hb
theorem vR{T:String}{o:Obj}{p:Addr}{its:List Value}{ns:List Int}{n:Nat}{Q:Value->Shared->Prop}(hT:T = "list" ∨ T = "tuple")(ho:s.heap.get? p=some o)(hc:o.cls = .type T)(hd:o.data = .seq its.toArray n)(hI:IntsAre its ns)(h64:its.length < 64)
  (fin:∀(h1 h':Heap)(q:Addr)(out:Array Value)(rs:List Int)(e:Nat),IntsAre out.toList rs->rs.Perm ns->rs.Pairwise (· ≥ ·)->h1.objs.size<=q->h'.get? q=some (seqObj "list" out e)->(∀ b o,s.heap.get? b=some o->h1.get? b=some o)->(∀ b o,h1.get? b=some o->h'.get? b=some o)->Q (.ref q) { s with heap:=h' }) :
  wpAny (model prog w) A (call (.builtin "sorted") [.ref p] [(Str.ofString "reverse",.bool true)]) Q E s:=by
 refine call_function_entry_kw kind_sorted plain_sorted entry_sorted (args_sorted_rev _ _) ?_
 unfold Builtin.«sorted»
 refine wpAny_bind (m:=checkCount "sorted" 1 1 _) (wpAny_pure ?_)
 refine wpAny_bind (wpAny_collect_seq p hT ho hc hd (fun h1 k1=>?_) (by rw[qd,sizeLine_eq];lia))
 refine wpAny_bind (wpAny_newList ?_ (by show its.length<=_;rw[sizeLine_eq];lia))
 have g1:(h1.push (seqObj "list" its.toArray 0)).get? h1.objs.size=some (seqObj "list" its.toArray 0):=xf _ rfl
 refine wpAny_bind (wpAny_holding (wpAny_call_entry_kw slot_list_sort ⟨_,g1,rfl⟩ entry_list_sort (list_sort_tree_rev (b:=true) (s:={ s with heap:=h1.push (seqObj "list" its.toArray 0) }) g1 hI h64 fun out ns' a1 a2 a3=>⟨_,rfl,?_⟩) (args_list_sort_rev _ _)))
 obtain⟨e,he⟩:=sortedHeap_at (out:=out) g1
 refine wpAny_pure ⟨_,rfl,fin h1 _ h1.objs.size out ns' e a1 a2 a3 (bT _) he k1 fun b ob hb=>?_⟩
 have lb:b < h1.objs.size:=gf hb
 rw[sortedHeap_old (lu lb) (by rw[Heap.size_push];exact Nat.lt_succ_of_lt lb)]
 exact jJ _ hb
end
end So
namespace L2
open PySem PySem.Spec PyProof.Rows
section
variable{X:Cx}
noncomputable def Lf(K:bO)(le:Int->Int->Prop):List V->Hp->VK->Prop:=fun xs H Q => ∃(p:Addr)(ns:List Int),xs=[.ref p]/\(aQ K H p (ns.map V.int) ∨ aL K H p (ns.map V.int))/\ns.length < 64/\∀(q:Addr)(rs:List Int),H q=none->rs.Perm ns->rs.Pairwise le->Q (.ref q) (upd H q (.lst (rs.map V.int)))
theorem Inv.Qi{pins:List (Addr × Obj)}{σ:St}{H:Hp}{s:Shared}{p:Addr}{ns:List Int}(I:Inv X pins σ H s)(h:aQ X.K H p (ns.map V.int) ∨ aL X.K H p (ns.map V.int)) :
  ∃(T:String)(o:Obj)(its:List Value)(n:Nat),(T = "list" ∨ T = "tuple")/\s.heap.get? p=some o/\o.cls = .type T/\o.data = .seq its.toArray n/\IntsAre its ns:=by
 rcases h with h | h
 ·obtain⟨its,r,pl,_⟩:=I.list h
  obtain⟨o,ho,hc,n,hd⟩:=pl.isList
  exact⟨"list",o,its,n,.inl rfl,ho,hc,hd,intsAre_of r⟩
 ·obtain⟨its,r,pl,_⟩:=I.tuple h
  obtain⟨o,ho,hc,n,hd⟩:=pl
  exact⟨"tuple",o,its,n,.inr rfl,ho,hc,hd,intsAre_of r⟩
theorem nu:jz X (.builtin "sorted") (Lf X.K (· <= ·)):=by
 intro pins s σ H xs us Q I r h
 obtain⟨p,ns,rfl,hq,h64,q⟩:=h
 obtain⟨u,rfl,rx⟩:=vals1 r
 cases rx
 obtain⟨T,o,its,n,hT,ho,hc,hd,hI⟩:=I.Qi hq
 have hl:=hI.length
 refine So.Hz hT ho hc hd hI (by lia) fun h1 h' q' out rs e i1 i2 i3 i4 i5 i6 i7=>?_
 have J:Inv X pins σ H { s with heap:=h1 }:=I.kept (t':=s.toks) i6
 have lr:=i2.length_eq
 have i5':h'.get? q'=some { cls:=.type "list",data:=.seq out.toList.toArray e }:=by
  rw[i5]
 exact⟨.ref q',_,J.laid (h':=h') (t':=s.toks) (o:=.lst (rs.map V.int)) i7 i4 ⟨by rw[bZ];exact zI (by lia),out.toList,e,jg i1,i5'⟩,rfl,q q' rs (J.hok.fresh i4) i2 i3⟩
noncomputable def Yt(K:bO)(t:TA):TE:=fun σ H Q=>t σ H fun vs H1=>Lf K (· ≥ ·) vs H1 Q
theorem wF{a:Expr}{t:TA}{p1 pos kp pd:Pos}{j:Nat}(hg:Gl X "sorted")(hm:X.mg "sorted" = none)(ha:PA X [a] t)(he:starEach [a] X.env=[(false,eval a X.env)]:=by rfl) :
  PE X (.Call (.Name "sorted" p1) [a] [⟨some "reverse",.Constant (.bool true) j pd,kp⟩] pos) (Yt X.K t):=by
 intro pins s σ H Q I h
 refine wpAny_Call_Name_kw (nW I hg hm PyProof.Rows.boot_sorted ?_)
 refine PyProof.Rows.callWith_kw (bJ (ha pos pins s σ H _ I h) fun us s1 ⟨vs,H1,I1,r1,q1⟩=>?_) (by rw[he];rfl) (by rw[he];rfl) rfl rfl
 refine PyProof.Rows.kws_cons (wpAny_Constant_bool (PyProof.Rows.kws_nil ?_))
 obtain⟨p,ns,rfl,hq,h64,q⟩:=q1
 obtain⟨u,rfl,rx⟩:=vals1 r1
 cases rx
 obtain⟨T,o,its,n,hT,ho,hc,hd,hI⟩:=I1.Qi hq
 have hl:=hI.length
 refine So.vR hT ho hc hd hI (by lia) fun h1 h' q' out rs e i1 i2 i3 i4 i5 i6 i7=>?_
 have J:Inv X pins σ H1 { s1 with heap:=h1 }:=I1.kept (t':=s1.toks) i6
 have lr:=i2.length_eq
 have i5':h'.get? q'=some { cls:=.type "list",data:=.seq out.toList.toArray e }:=by
  rw[i5]
 exact⟨.ref q',_,J.laid (h':=h') (t':=s1.toks) (o:=.lst (rs.map V.int)) i7 i4 ⟨by rw[bZ];exact zI (by lia),out.toList,e,jg i1,i5'⟩,rfl,q q' rs (J.hok.fresh i4) i2 i3⟩
end
theorem gK:∀(a b:List Nat),a.Pairwise (· < ·)->b.Pairwise (· < ·)->(∀ k,k∈a ↔ k∈b)->a=b
 | [],[],_,_,_=>rfl
 | [],y :: b,_,_,h=>absurd ((h y).mpr List.mem_cons_self) (by simp)
 | x :: a,[],_,_,h=>absurd ((h x).mp List.mem_cons_self) (by simp)
 | x :: a,y :: b,ha,hb,h=>by
  obtain⟨a1,a2⟩:=List.pairwise_cons.mp ha
  obtain⟨b1,b2⟩:=List.pairwise_cons.mp hb
  have e:x=y:=by
   have h1:=(h x).mp HX
   have h2:=(h y).mpr HX
   rcases bY.mp h1 with e | h1
   ·exact e
   ·rcases bY.mp h2 with e | h2
    ·exact e.symm
    ·have:=a1 y h2
     have:=b1 x h1
     lia
  subst e
  congr 1
  refine gK a b a2 b2 fun k=>?_
  have hk:=h k
  rw[bY,bY]at hk
  constructor
  ·intro z
   rcases hk.mp (.inr z) with e | z'
   ·subst e
    have:=a1 k z
    lia
   ·exact z'
  ·intro z
   rcases hk.mpr (.inr z) with e | z'
   ·subst e
    have:=b1 k z
    lia
   ·exact z'
theorem zp:∀ os:List Nat,os.map (Int.toNat ∘ fun j:Nat=>(j:Int))=os
 | []=>rfl
 | x :: l=>by
  rw[List.map_cons,zp l]
  rfl
theorem yu{rs:List Int}{os:List Nat}(h:rs.Perm (os.map fun j:Nat=>(j:Int))):∃ ms:List Nat,rs=ms.map (fun j:Nat=>(j:Int))/\ms.Perm os:=by
 refine⟨rs.map Int.toNat,?_,?_⟩
 ·rw[List.map_map]
  have:∀ x∈rs,((fun j:Nat=>(j:Int)) ∘ Int.toNat) x=x:=fun x hx=>by
   obtain⟨o,_,rfl⟩:=iU.mp (h.mem_iff.mp hx)
   rfl
  rw[List.map_congr_left this,List.map_id']
 ·have:=h.map Int.toNat
  rw[List.map_map]at this
  rw[zp]at this
  exact this
theorem cW(os:List Nat):(os.map fun j:Nat=>V.int (j:Int))=(os.map fun j:Nat=>(j:Int)).map V.int:=by
 rw[List.map_map]
 rfl
theorem mZ{rs:List Int}{os:List Nat}(h:rs.Perm (os.map fun j:Nat=>(j:Int)))(hs:rs.Pairwise (· <= ·))(hn:os.Nodup):∃ ms:List Nat,rs=ms.map (fun j:Nat=>(j:Int))/\ms.Pairwise (· < ·)/\ms.Perm os:=by
 obtain⟨ms,rfl,hp⟩:=yu h
 refine⟨ms,rfl,?_,hp⟩
 have nd:ms.Nodup:=hp.nodup_iff.mpr hn
 rw[List.pairwise_map]at hs
 exact (hs.and nd).imp fun ⟨h1,h2⟩=>by lia
theorem uL{rs:List Int}{os:List Nat}(h:rs.Perm (os.map fun j:Nat=>(j:Int)))(hs:rs.Pairwise (· ≥ ·))(hn:os.Pairwise (· < ·)):rs=os.reverse.map (fun j:Nat=>(j:Int)):=by
 obtain⟨ms,rfl,hp⟩:=yu h
 congr 1
 have nd:ms.Nodup:=hp.nodup_iff.mpr (hn.imp fun z=>lu z)
 rw[List.pairwise_map]at hs
 have hm:ms.reverse.Pairwise (· < ·):=by
  rw[List.pairwise_reverse]
  exact (hs.and nd).imp fun ⟨h1,h2⟩=>by lia
 have e:=gK ms.reverse os hm hn fun k=>by rw[List.mem_reverse];exact hp.mem_iff
 rw[<-e,List.reverse_reverse]
end L2
namespace So
open PySem PyProof.Rows
set_option maxRecDepth 100000
theorem Wz:typeLookup (.type "dict") "__len__" = pure (some (.builtin "dict.__len__")):=by rw[typeLookup_type,builtinLookup_eq_fast];kernel_rfl
theorem uX:∀ {vs:List Value} {ns:List Int},vs.length=ns.length->(∀(i:Nat)(n:Int),ns[i]? = some n->∃ t,vs[i]? = some (Value.int n t))->IntsAre vs ns
 | [],[],_,_=>.nil
 | [],n :: ns,h,_=>by simp at h
 | v :: vs,[],h,_=>by simp at h
 | v :: vs,n :: ns,h,k=>by
  obtain⟨t,ht⟩:=k 0 n rfl
  have e:v=Value.int n t:=by simpa using ht
  subst e
  exact .cons n t (uX (by simpa using h) fun i m hi=>by simpa using k (i+1) m (by simpa using hi))
section
variable{prog:Program}{w:World}{A:Around}{E:Value->Shared->Prop}{s:Shared}{a:Addr}
theorem Gq{kvs:List (L2.Key × Value)}{ns:List Int}{Q:List Value->Shared->Prop}(hh:A.handled=none)(hd:(a == sysModules)=false)(hD:s.heap.DictOf (L2.bj prog w) a kvs)(hk:kvs.map (·.1)=ns.map Sum.inl)(hn:ns.length<=1000)
  (fin:∀(h':Heap)(vs:List Value)(tk:Nat),IntsAre vs ns->(∀ b o,s.heap.get? b=some o->h'.get? b=some o)->Q vs { s with heap:=h',toks:=tk }) :
  wpAny (model prog w) A (collect (.ref a)) Q E s:=by
 have lk:kvs.length=ns.length:=by
  have:=congrArg List.length hk
  simpa using this
 obtain⟨o,es,ep,ho,rest⟩:=hD
 have hc:=rest.1
 have la:a < s.heap.objs.size:=gf ho
 have hA:s.heap.DictAt (L2.bj prog w) a kvs ep:=⟨o,es,ho,rest⟩
 unfold collect;refine wpAny_bind (wpAny_runValue (codeAny_builtin F.entry_proto_collect ?_));rw[Around.under_plainId F.plain_proto_collect _]
 show wpAny _ A.in1 (newList [] >>= fun l=>again (.builtin "list.__iadd__" ⟨[l,.ref a],[]⟩)) _ _ s;refine wpAny_bind (wpAny_newObj_type ?_)
 refine wpAny_pure ⟨plainId_quiet F.plain_list_iadd _,codeAny_builtin F.entry_list_iadd ?_⟩;rw[Around.under_plainId F.plain_list_iadd _]
 have g0:(s.heap.push { cls:=.type "list",data:=.seq ([]:List Value).toArray }).get? s.heap.objs.size=some { cls:=.type "list",data:=.seq ([]:List Value).toArray }:=xf s.heap rfl
 have other:Builtin.List.listSameRef (.ref s.heap.objs.size) (.ref a)=false:=by simp [Builtin.List.listSameRef];exact Nat.ne_of_gt la
 have hA1:=hA.at' (h':=s.heap.push { cls:=.type "list",data:=.seq ([]:List Value).toArray }) fun o e=>jJ _ e
 have ty1:Shared.TypeIs { s with heap:=s.heap.push { cls:=.type "list",data:=.seq ([]:List Value).toArray } } (.ref a) "dict" := hA1.dictOf.typeIs
 show wpAny _ A.in1 (Builtin.List.listExtendWith (.ref s.heap.objs.size) (.ref a) (.ref s.heap.objs.size)) _ _ _;unfold Builtin.List.listExtendWith
 refine wpAny_bind (wpAny_typeOf ty1 ?_);rw[if_neg (by rw[other];decide)]
 refine wpAny_bind (wpAny_pyIter_dict hd hA1 ?_)
 generalize eo:({ cls:=.type "dict_keyiterator",data:=.fields #[.ref a,.int 0 0,.int kvs.length 0,.int ep 0] }:Obj)=oi
 generalize eh:(s.heap.push { cls:=.type "list",data:=.seq ([]:List Value).toArray }).push oi=h2
 have sz1:(s.heap.push { cls:=.type "list",data:=.seq ([]:List Value).toArray }).objs.size=s.heap.objs.size+1:=Heap.size_push _ _
 have Sv:∀ b ob,(s.heap.push { cls:=.type "list",data:=.seq ([]:List Value).toArray }).get? b=some ob->h2.get? b=some ob:=fun b ob e=>by
  rw[<-eh]
  exact jJ _ e
 have gI:h2.get? (s.heap.push { cls:=.type "list",data:=.seq ([]:List Value).toArray }).objs.size=some oi:=by
  rw[<-eh,<-eo]
  exact xf _ rfl
 rw[show (s.heap.push { cls:=.type "list",data:=.seq ([]:List Value).toArray }).objs.size=s.heap.objs.size+1 from sz1]at gI ⊢
 have g2:=Sv _ _ g0
 have YL:=hA1.at' (h':=h2) fun o e=>Sv _ _ e
 have ty2:Shared.TypeIs { s with heap:=h2 } (.ref a) "dict" := YL.dictOf.typeIs
 refine wpAny_bind (wpAny_holding ?_);unfold Builtin.List.listLengthHint
 refine wpAny_bind (wpAny_specialOf ty2 Wz ?_)
 (generalize hid:("dict.__len__" : String)=id0;(fail_if_success (clear hid id0));wp_delta;rw[show splitId id0=some ("dict","__len__") from by subst hid;decide +kernel])
 refine wpAny_bind (wpAny_isInstance (b:=true) ty2 (by rw[isSubtype_type];kernel_rfl) ?_)
 subst hid
 show wpAny _ A.in1 (typeOf (.ref a) >>= _) _ _ _
 refine wpAny_bind (wpAny_typeOf ty2 ?_)
 refine wpAny_pure ?_
 rw[if_pos (by decide)]
 refine wpAny_bind (wpAny_rule (wpAny_bind ?_))
 show wpAny _ A.in1 (updateSeq s.heap.objs.size (·.push .none) >>= fun _=>updateSeq s.heap.objs.size (·.pop)) _ _ _;refine wpAny_bind (wpAny_updateSeq g2 rfl ?_)
 have g3:=Heap.get?_update_self (Obj.mapSeq (·.push Value.none)) g2 rfl
 refine wpAny_updateSeq g3 rfl ?_
 have g4:=Heap.get?_update_self (Obj.mapSeq (·.pop)) g3 rfl
 have YG:∀ b ob,b ≠ s.heap.objs.size->h2.get? b=some ob->((h2.update s.heap.objs.size (Obj.mapSeq (·.push Value.none))).update s.heap.objs.size (Obj.mapSeq (·.pop))).get? b=some ob:=fun b ob hb e=>(Heap.get?_update_other _ _ (Ne.symm hb)).trans ((Heap.get?_update_other _ _ (Ne.symm hb)).trans e)
 have qCW:s.heap.objs.size ∉ [s.heap.objs.size+1,a]:=by
  simp only[List.mem_cons,List.not_mem_nil,or_false,not_or]
  exact⟨by lia,Nat.ne_of_gt la⟩
 have W:=(Walks.dictKeys (prog:=prog) (w:=w) (knd:=L2.bj prog w) (A:=A.in1) (by simp [hh]) (s.heap.objs.size+1) a (Nat.ne_of_lt (Nat.lt_succ_of_lt la)) kvs ep).toS
 have it2:h2.IsKeyIter (s.heap.objs.size+1) a 0 kvs.length ep:=⟨oi,gI,by rw[<-eo],by rw[<-eo];rfl⟩
 have EY:=W.frame 0 { s with heap:=h2 } ((h2.update s.heap.objs.size (Obj.mapSeq (·.push Value.none))).update s.heap.objs.size (Obj.mapSeq (·.pop))) s.toks ⟨it2,YL⟩ (bT _) fun b hb ob e=>YG b ob (fun z=>qCW (z ▸ hb)) e
 refine wpAny_pure ⟨plainId_quiet F.plain_extend_loop _,codeAny_extend_loopS W (by rw[lk,sizeLine_eq];lia) _ qCW _ kvs.length 0 _ _ _ rfl (Nat.zero_le _) EY g4 (ItemsOf.nil _) fun s' acc' c' hm hS' hacc=>?_⟩
 show wpAny _ A (load s.heap.objs.size >>= _) _ _ s';refine wpAny_bind (wpAny_load hS' ?_)
 have e1:s'.gens=s.gens:=hm.gens
 have e2:s'.drawn=s.drawn:=hm.drawn
 have e3:s'.os=s.os:=hm.os
 obtain⟨h',g',d',tk',os'⟩:=s'
 have e1':g'=s.gens:=e1
 have e2':d'=s.drawn:=e2
 have e3':os'=s.os:=e3
 subst e1' e2' e3'
 refine wpAny_pure ?_
 refine fin h' acc'.toList tk' (uX (by rw[Array.length_toList,hacc.1,lk]) fun i n hi=>?_) fun b ob e=>?_
 ·have li:i < acc'.size:=by
   have:=(mH.mp hi).1
   rw[hacc.1,lk]
   exact this
  obtain⟨k,x,hx,his⟩:=hacc.2 i acc'[i] (by simp [li])
  have hk':(kvs.map (·.1))[i]? = some k:=by rw[cZ,hx];rfl
  rw[hk,cZ,hi]at hk'
  have ek:Sum.inl n=k:=kJ hk'
  subst ek
  obtain⟨tk,e5⟩:=Value.isInt_shape (k:=n) (v:=acc'[i]) his
  exact⟨tk,by simp [li,e5]⟩
 ·have lb:b < s.heap.objs.size:=gf e
  refine hm.heap b ob ?_ (YG b ob (lu lb) (Sv b ob (jJ _ e)))
  simp only[List.mem_cons,List.not_mem_nil,or_false,not_or]
  exact⟨lu lb,lu (Nat.lt_succ_of_lt lb)⟩
theorem I9{kvs:List (L2.Key × Value)}{ns:List Int}{Q:Value->Shared->Prop}(hh:A.handled=none)(hd:(a == sysModules)=false)(hD:s.heap.DictOf (L2.bj prog w) a kvs)(hk:kvs.map (·.1)=ns.map Sum.inl)(h64:ns.length < 64)
  (fin:∀(h1 h':Heap)(tk:Nat)(q:Addr)(out:Array Value)(rs:List Int)(e:Nat),IntsAre out.toList rs->rs.Perm ns->rs.Pairwise (· <= ·)->h1.objs.size<=q->h'.get? q=some (seqObj "list" out e)->(∀ b o,s.heap.get? b=some o->h1.get? b=some o)->(∀ b o,h1.get? b=some o->h'.get? b=some o)->Q (.ref q) { s with heap:=h',toks:=tk }) :
  wpAny (model prog w) A (call (.builtin "sorted") [.ref a]) Q E s:=by
 refine Calls.call_function_entry kind_sorted plain_sorted entry_sorted (args_sorted1 _) ?_
 unfold Builtin.«sorted»
 refine wpAny_bind (m:=checkCount "sorted" 1 1 _) (wpAny_pure ?_)
 refine wpAny_bind (Gq (by first | exact hh | simp [hh]) hd hD hk (by lia) fun h1 vs tk i1 k1=>?_)
 have hl:=i1.length
 refine wpAny_bind (wpAny_newList ?_ (by rw[hl,sizeLine_eq];lia))
 have g1:(h1.push (seqObj "list" vs.toArray 0)).get? h1.objs.size=some (seqObj "list" vs.toArray 0):=xf _ rfl
 refine wpAny_bind (wpAny_holding (wpAny_call_entry slot_list_sort ⟨_,g1,rfl⟩ entry_list_sort (list_sort_tree (s:={ s with heap:=h1.push (seqObj "list" vs.toArray 0),toks:=tk }) g1 i1 (by lia) fun out ns' a1 a2 a3=>⟨_,rfl,?_⟩) (args_list_sort _)))
 obtain⟨e,he⟩:=sortedHeap_at (out:=out) g1
 refine wpAny_pure ⟨_,rfl,fin h1 _ tk h1.objs.size out ns' e a1 a2 a3 (bT _) he k1 fun b ob hb=>?_⟩
 have lb:b < h1.objs.size:=gf hb
 rw[sortedHeap_old (lu lb) (by rw[Heap.size_push];exact Nat.lt_succ_of_lt lb)]
 exact jJ _ hb
end
end So
namespace L2
open PySem PySem.Spec PyProof.Rows
section
variable{X:Cx}
noncomputable def Qw:List V->Hp->VK->Prop:=fun xs H Q => ∃(p:Addr)(kvs:List (Key × V))(ns:List Int),xs=[.ref p]/\H p=some (.dK kvs)/\kvs.map (·.1)=ns.map Sum.inl/\ns.length < 64/\∀(q:Addr)(rs:List Int),H q=none->ns.Nodup->rs.Perm ns->rs.Pairwise (· <= ·)->Q (.ref q) (upd H q (.lst (rs.map V.int)))
theorem Cz(hca:X.calm=true):jz X (.builtin "sorted") Qw:=by
 intro pins s σ H xs us Q I r h
 obtain⟨p,kvs,ns,rfl,hq,hk,h64,q⟩:=h
 obtain⟨u,rfl,rx⟩:=vals1 r
 cases rx
 obtain⟨z,hd,vs,rel,dd⟩:=YT I.hok hq
 have hk':vs.map (·.1)=ns.map Sum.inl:=by rw[<-rel.keys,hk]
 have nd:ns.Nodup:=by
  obtain⟨ep,hA⟩:=dd.dictAt
  have h1:=hA.nodup
  rw[hk']at h1
  exact (List.pairwise_map.mp h1).imp fun z e=>z (by rw[e])
 refine So.I9 (I.ok.hd hca) hd dd hk' h64 fun h1 h' tk q' out rs e i1 i2 i3 i4 i5 i6 i7=>?_
 have J:Inv X pins σ H { s with heap:=h1 }:=I.kept (t':=s.toks) i6
 have lr:=i2.length_eq
 have i5':h'.get? q'=some { cls:=.type "list",data:=.seq out.toList.toArray e }:=by
  rw[i5]
 exact⟨.ref q',_,J.laid (h':=h') (t':=tk) (o:=.lst (rs.map V.int)) i7 i4 ⟨by rw[bZ];exact zI (by lia),out.toList,e,jg i1,i5'⟩,rfl,q q' rs (J.hok.fresh i4) nd i2 i3⟩
end
end L2
namespace PySem
open Sem (wp)
open AutoSeq1 (wpAny_loadPart')
set_option maxRecDepth 100000
section
variable{prog:Program}{w:World}{A:Around}{E:Value->Shared->Prop}{s:Shared}
theorem Bu{q tt:Addr}{i:Nat}{vs:Array Value}{x:Value}{Q:Value->Shared->Prop}(g:s.heap.IsTupleIter q tt i)(gt:s.heap.IsTuple tt vs)(gx:vs[i]? = some x)
  (hQ:∀ h',h'.IsTupleIter q tt (i+1)->Heap.SameBut q s.heap h'->Q x { s with heap:=h' }):wpAny (model prog w) A (Builtin.SmallTypes.nextOf (.ref q)) Q E s:=by
 obtain⟨ob,go,gc,gd⟩:=id g
 obtain⟨ot,got,_,nt,gdt⟩:=gt
 unfold Builtin.SmallTypes.nextOf
 refine wpAny_bind (wpAny_callSpecial?_slot (name:=Str.ofString "__next__") g.typeIs F.slot_tuple_iterator_next (wpAny_call_entry F.slot_tuple_iterator_next g.typeIs F.entry_tuple_iterator_next ?_ (F.args_tuple_iterator_next_1 _)))
 show wpAny _ _ (field (.ref q) 0 >>= _) _ _ s
 refine wpAny_bind (wpAny_field go gd (x:=.ref tt) rfl ?_)
 show wpAny _ _ (if (Value.ref tt == Value.none)=true then _ else _) _ _ s
 rw[if_neg (show ¬ ((Value.ref tt == Value.none)=true) from qX)]
 show wpAny _ _ (field (.ref q) 1 >>= _) _ _ s
 refine wpAny_bind (wpAny_field go gd (x:=.int i 0) rfl ?_)
 show wpAny _ _ (seqItems? (.ref tt) >>= _) _ _ s
 refine wpAny_bind (wpAny_seqItems got gdt ?_)
 simp only[Int.toNat_natCast,gx]
 refine wpAny_bind (wpAny_setField go gd (by simp) (wpAny_pure ⟨x,rfl,wpAny_pure (hQ _ ?_ (Heap.SameBut.update ..))⟩))
 exact⟨_,Heap.get?_update_self _ go (Obj.isFreed_of_fields (Obj.data_mapFields gd _)),(Obj.cls_mapFields ..).trans gc,by rw[Obj.data_mapFields gd];simp [rawInt]⟩
theorem uQ{q tt:Addr}{i:Nat}{vs:Array Value}{Q:Value->Shared->Prop}(hh:A.handled=none)(g:s.heap.IsTupleIter q tt i)(gt:s.heap.IsTuple tt vs)(gx:vs[i]? = none)
  (hE:∀ h' e,Heap.ExtBut q s.heap h'->(∃ o,h'.get? e=some o/\o.cls = .type "StopIteration")->E (.ref e) { s with heap:=h' }):wpAny (model prog w) A (Builtin.SmallTypes.nextOf (.ref q)) Q E s:=by
 obtain⟨ob,go,gc,gd⟩:=id g
 obtain⟨ot,got,_,nt,gdt⟩:=gt
 unfold Builtin.SmallTypes.nextOf
 refine wpAny_bind (wpAny_callSpecial?_slot (name:=Str.ofString "__next__") g.typeIs F.slot_tuple_iterator_next (wpAny_call_entry F.slot_tuple_iterator_next g.typeIs F.entry_tuple_iterator_next ?_ (F.args_tuple_iterator_next_1 _)))
 show wpAny _ _ (field (.ref q) 0 >>= _) _ _ s
 refine wpAny_bind (wpAny_field go gd (x:=.ref tt) rfl ?_)
 show wpAny _ _ (if (Value.ref tt == Value.none)=true then _ else _) _ _ s
 rw[if_neg (show ¬ ((Value.ref tt == Value.none)=true) from qX)]
 show wpAny _ _ (field (.ref q) 1 >>= _) _ _ s
 refine wpAny_bind (wpAny_field go gd (x:=.int i 0) rfl ?_)
 show wpAny _ _ (seqItems? (.ref tt) >>= _) _ _ s
 refine wpAny_bind (wpAny_seqItems got gdt ?_)
 simp only[Int.toNat_natCast,gx]
 refine wpAny_bind (wpAny_rule (wpAny_bind (wpAny_setField go gd (by simp) ?_)))
 show wpAny _ _ ((newExc (.type "StopIteration") []) >>= _) _ _ _
 refine wpAny_bind ?_
 simp only[newExc,newTuple]
 refine (wpAny_bind (wpAny_newObj_type ?_ (by size_fits)))
 refine (wpAny_bind (m:=firstArgMember _ _) (wpAny_of_eq (a:=Value.none) (by first | rfl | (simp only[firstArgMember];rfl)) ?_))
 refine (wpAny_newObj_type ?_ (by size_fits))
 simp only[raiseNew]
 refine wpAny_bind (wpAny_handled ?_)
 (first | rw[show A.in1.handled=none from hh] | rw[hh])
 refine (wpAny_bind (wpAny_pure (wpAny_throw ?_)))
 exact (hE _ _ (((Heap.SameBut.update ..).extBut.push _).push _) ⟨_,xf _ rfl,rfl⟩)
end
theorem U5{prog:Program}{w:World}{A:Around}(hh:A.handled=none)(q tt:Addr)(hne:tt ≠ q)(vs:Array Value) :
  Draws prog w A q [q,tt] vs.size (fun i v=>vs[i]? = some v) (fun i h=>h.IsTupleIter q tt i/\h.IsTuple tt vs) where
 live:=fun _ _ st=>let ⟨o,ho,_⟩:=st.1;⟨o,ho⟩
 frame:=fun _ _ _ st hk=>⟨st.1.at fun o e=>hk q (by simp) o e,st.2.at fun o e=>hk tt (by simp) o e⟩
 item:=fun i s Q E hi st hQ=>by
  refine Bu st.1 st.2 (x:=vs[i]) (by simp [hi]) fun h' hit' hs'=>?_
  exact hQ _ h' s.toks (by simp [hi]) ⟨hit',st.2.extBut hs'.extBut hne⟩ hs'
 done:=fun s Q E st hE=>uQ hh st.1 st.2 (by simp) hE
theorem U3(l:Addr)(vs:Array Value)(n:Nat)(dct:Option Addr)(sl:Array (Option Value)) :
  Meets (Builtin.«enumerate.__new__» ⟨[.type "enumerate",.ref l],[]⟩) (fun _ R s=>s.heap.get? l=some { cls:=.type "tuple",dict:=dct,data:=.seq vs n,slots:=sl } ∧
   R (.ok (.ret (.ref (s.heap.push { cls:=.type "tuple_iterator",data:=.fields #[.ref l,.int 0 0] }).objs.size)))
    { s with heap:=(s.heap.push { cls:=.type "tuple_iterator",data:=.fields #[.ref l,.int 0 0] }).push { cls:=.type "enumerate",data:=.fields #[.none,.bool false,.ref s.heap.objs.size,rawInt 0,.none,.none] } }):=
 .of_wp fun prog w A R s h=>by
  obtain⟨hp,g,d,tk,os⟩:=s
  obtain⟨hl,h⟩:=h
  have hsub:=sub_enumerate
  have hL:Heap.IsTuple (Shared.heap ⟨hp,g,d,tk,os⟩) l vs:=⟨_,hl,rfl,n,rfl⟩
  wp_walk using wpAny_loadPart' hl
  refine wpAny_stack_any fun st=>wpAny_pure ?_
  split
  ·rename_i c _ _ _ _ _
   cases (c == Value.type "enumerate")
   ·wp_walk using wpAny_loadPart' hl,wpAny_pyIter_tuple hL
    exact⟨_,rfl,h⟩
   ·wp_walk using wpAny_loadPart' hl,wpAny_pyIter_tuple hL
    exact⟨_,rfl,h⟩
  ·wp_walk using wpAny_loadPart' hl,wpAny_pyIter_tuple hL
   exact⟨_,rfl,h⟩
theorem PN{prog:Program}{w:World}{A:Around}{E:Value->Shared->Prop}{s:Shared}{l:Addr}{vs:Array Value}{Q:Value->Shared->Prop}(hL:s.heap.IsTuple l vs)
  (h:∀ h',IsEnum h' (s.heap.objs.size+1) s.heap.objs.size 0 .none->h'.IsTupleIter s.heap.objs.size l 0->h'.objs.size=s.heap.objs.size+2 →
   (∀ b o,s.heap.get? b=some o->h'.get? b=some o)->Q (.ref (s.heap.objs.size+1)) { s with heap:=h' }) :
  wpAny (model prog w) A (call (.type "enumerate") [.ref l]) Q E s:=by
 obtain⟨⟨c,dct,dt,sl⟩,hl,hc,n,hd⟩:=hL
 replace hc:c = .type "tuple" := hc
 replace hd:dt = .seq vs n:=hd
 subst hc hd
 refine callType_new F.called_enumerate (by decide) (F.typeCall_enumerate_1 _) (F.newCall_enumerate_1 _) (fun obj=>F.args_object_init_2 obj _) F.entry_enumerate_new (U3 l vs n dct sl) ⟨hl,?_⟩
 have hz:(s.heap.push { cls:=.type "tuple_iterator",data:=.fields #[.ref l,.int 0 0] }).objs.size=s.heap.objs.size+1:=Heap.size_push ..
 show _/\_
 rw[hz]
 have he:IsEnum ((s.heap.push { cls:=.type "tuple_iterator",data:=.fields #[.ref l,.int 0 0] }).push
   { cls:=.type "enumerate",data:=.fields #[.none,.bool false,.ref s.heap.objs.size,rawInt 0,.none,.none] }) (s.heap.objs.size+1) s.heap.objs.size 0 .none:=by
  have:=xf (s.heap.push { cls:=.type "tuple_iterator",data:=.fields #[.ref l,.int 0 0] })
   (o:={ cls:=.type "enumerate",data:=.fields #[.none,.bool false,.ref s.heap.objs.size,rawInt 0,.none,.none] }) rfl
  rw[hz]at this
  exact this
 exact⟨⟨_,he,rfl⟩,h _ he ⟨_,jJ _ (xf _ rfl),rfl,rfl⟩ (by rw[Heap.size_push,hz]) fun b o x=>jJ _ (jJ _ x)⟩
theorem U4{prog:Program}{w:World}{A:Around}{E:Value->Shared->Prop}{s:Shared}{e q tt:Addr}{vs:Array Value}{i:Nat}{j:Int}{old:Value}{Q:Option Value->Shared->Prop}(hh:A.handled=none)(he:IsEnum s.heap e q j old)(g:s.heap.IsTupleIter q tt i)(gt:s.heap.IsTuple tt vs)(gx:vs[i]? = none)
  (hQ:∀ h',Heap.ExtBut q s.heap h'->Q none { s with heap:=h' }):wpAny (model prog w) A (pyNext (.ref e)) Q E s:=by
 have hT:s.TypeIs (.ref e) "enumerate" := ⟨_,he,rfl⟩
 unfold pyNext
 refine wpAny_bind (wpAny_attempt (wpAny_callSpecial?_slot (name:=Str.ofString "__next__") hT F.slot_enumerate_next (wpAny_call_entry F.slot_enumerate_next hT F.entry_enumerate_next ?_ (F.args_enumerate_next_1 _))))
 show wpAny _ _ (field (.ref e) 2 >>= _) _ _ _
 refine wpAny_bind (wpAny_field he rfl (x:=.ref q) rfl ?_)
 refine wpAny_bind (uQ (A:=A.in1) hh g gt gx fun h' x he' hx'=>?_)
 obtain⟨o,ho,hc⟩:=hx'
 refine (wpAny_bind (wpAny_isInstance (T := "StopIteration") (b:=true) ⟨o,ho,hc⟩ isSubtype_stop ?_))
 exact wpAny_pure (hQ _ he')
end PySem
namespace L2
open PySem PySem.Spec PyProof.Rows
section
variable{X:Cx}{pins:List (Addr × Obj)}{σ:St}{H:Hp}{s:Shared}{h':Heap}
theorem Inv.Kd{t':Nat}{ts:List Addr}(I:Inv X pins σ H s)(k:∀ b o,b ∉ ts->s.heap.get? b=some o->h'.get? b=some o)(hf:∀ b∈ts,gR X pins H b):Inv X pins σ H { s with heap:=h',toks:=t' }:=by
 have nit:∀ b u,H b=some u->b ∉ ts:=fun b u e z=>by
  rw[(hf b z).1]at e
  cases e
 refine I.step (g':=s.gens) (d':=s.drawn) (ch:=ts) (fun b hb=>?_) (fun b o _ _ hc e _=>k b o hc e) (fun b o _ _ hc e _=>⟨o.slots,k b o hc e⟩) (fun _ _ _ _ n=>n) (fun b o hc e=>⟨o,k b o hc e⟩) (fun _ _ e=>e) (fun _ _ _ e=>e) (fun b ps e=>⟨#[],by rw[e];simp⟩) (fun m hm=>?_) (fun b u e=>?_) I.bare
 ·obtain⟨f0,f1,f2,f3,f4,f5⟩:=hf b hb
  exact⟨f3,f1,f4,f5⟩
 ·obtain⟨o,es,ep,ho,r⟩:=hm
  exact⟨o,es,ep,k _ o (fun z=>(hf _ z).2.1 rfl) ho,r⟩
 ·refine (I.hok b u e).stay (fun c v hc q=>k c v ?_ q) (fun _ q=>q) fun _ _ q=>q
  rcases hc with z | z
  ·rw[z]
   exact nit b u e
  ·exact nit c _ z
end
noncomputable def Ite(K:bO)(a:Addr):It:=
 ⟨fun i H => ∃ xs x,aL K H a xs/\xs[i]? = some x,fun i H v H' => ∃(t:Addr)(x:V),v = .ref t/\H t=none/\(∀ xs,aL K H a xs->xs[i]? = some x)/\H'=upd H t (.tup [.int (i:Int),x]),fun i H => ∃ xs,aL K H a xs/\xs.length<=i⟩
theorem Mu{P:Program}{w:World}{K:bO}{es:List Expr}{k:Nat}{pos:Pos}(a e q:Addr):Turn P w K (.Tuple es k pos) (Ite K a) [e,q] e (fun i h=>(∃ old,IsEnum h e q (i:Nat) old)/\h.IsTupleIter q a i) where
 mem:=by simp
 obj:=fun i h st b hb=>by
  obtain⟨⟨old,he⟩,o,ho,hc,hd⟩:=st
  rcases bY.mp hb with rfl | hb
  ·refine⟨_,he,fun v z=>?_⟩
   have z2:Data.fields _=Data.cell v:=z
   cases z2
  ·rw[dJ.mp hb]
   exact⟨o,ho,fun v z=>by rw[hd]at z;cases z⟩
 keep:=fun i h h' st k=>by
  obtain⟨⟨old,he⟩,hq⟩:=st
  exact⟨⟨old,k e (by simp) _ he⟩,hq.at fun o z=>k q (by simp) o z⟩
 item:=by
  intro X hP hw hK hc i pins s σ H E I hf st hg
  subst hP hw hK
  obtain⟨xs,x,hq,hx⟩:=hg
  obtain⟨its,rv,p,hz⟩:=I.tuple hq
  obtain⟨u,hu,ru⟩:=rv.get hx
  obtain⟨⟨old,he⟩,hit⟩:=st
  have pt:s.heap.IsTuple a its.toArray:=p
  have naq:a ≠ q:=fun z=>by
   obtain⟨o1,g1,c1,_⟩:=pt
   obtain⟨o2,g2,c2,_⟩:=hit
   rw[z,g2]at g1
   cases g1
   rw[c2]at c1
   injection c1 with c1
   exact absurd c1 (by decide)
  have neq:e ≠ q:=fun z=>by
   obtain⟨o2,g2,c2,_⟩:=hit
   rw[<-z]at g2
   have g3:=g2.symm.trans he
   cases g3
   have c3:Value.type "enumerate" = Value.type "tuple_iterator" := c2
   injection c3 with c3
   exact absurd c3 (by decide)
  have nea:e ≠ a:=fun z=>by
   obtain⟨o1,g1,c1,_⟩:=pt
   rw[<-z]at g1
   have g3:=g1.symm.trans he
   cases g3
   have c3:Value.type "enumerate" = Value.type "tuple" := c1
   injection c3 with c3
   exact absurd c3 (by decide)
  have D:=U5 (prog:=X.prog) (w:=X.w) (A:=X.A.in1) (I.ok.hd hc) q a naq its.toArray
  have hlt:i < its.toArray.size:=by
   have:=(mH.mp hu).1
   simpa using this
  have hnew:H s.heap.objs.size=none:=I.hok.fresh (bT _)
  refine wpAny_pyNext_enum_itemD D he ⟨hit,pt⟩ hlt neq (by simp [neq,nea]) fun y h1 tk hy ho hs1 hT hsz hk=>?_
  obtain rfl:y=u:=by
   rw[List.getElem?_toArray,hu]at hy
   exact (kJ hy).symm
  refine⟨_,rfl,wpAny_letOwnedTupleGo_enum ho fun h2 he2 sb=>?_⟩
  have nse:s.heap.objs.size ≠ e:=Nat.ne_of_gt (gf he)
  have nsq:s.heap.objs.size ≠ q:=by
   obtain⟨o2,g2,_⟩:=hit
   exact Nat.ne_of_gt (gf g2)
  have kk:∀ b o,b ∉ [e,q]->s.heap.get? b=some o->h2.get? b=some o:=fun b o hb g=>by
   have b1:b ≠ e:=fun z=>hb (by simp [z])
   have b2:b ≠ q:=fun z=>hb (by simp [z])
   exact (sb.2 b b1).trans (hk b o b1 b2 g)
  have I1:Inv X pins σ H { s with heap:=h2,toks:=tk+1 }:=I.Kd kk hf
  have I2:Inv X pins σ (upd H s.heap.objs.size (.tup [.int (i:Int),x])) { s with heap:=h2,toks:=tk+1 }:=by
   refine Inv.adopt I1 (I.xH (bT _) hnew) ⟨by show 2<=sizeLine;decide,[.int i tk,y],.cons ⟨tk,rfl⟩ (.cons ru .nil),?_⟩
   exact⟨_,(sb.2 _ nse).trans hT,rfl,_,rfl⟩
  refine⟨.ref s.heap.objs.size,_,I2,rfl,⟨_,x,rfl,hnew,fun ys hy=>by rw[I.yg hy hq];exact hx,rfl⟩,⟨⟨y,by have:=he2;simpa using this⟩,hs1.1.at fun o g=>(sb.2 q (Ne.symm neq)).trans g⟩,fun b hb=>?_⟩
  have nb:b ≠ s.heap.objs.size:=by
   rcases bY.mp hb with rfl | hb
   ·exact Ne.symm nse
   ·rw[dJ.mp hb]
    exact Ne.symm nsq
  rw[zQ nb]
  exact (hf b hb).1
 done:=by
  intro X hP hw hK hc i pins s σ H E I hf st hg
  subst hP hw hK
  obtain⟨xs,hq,hx⟩:=hg
  obtain⟨its,rv,p,hz⟩:=I.tuple hq
  obtain⟨⟨old,he⟩,hit⟩:=st
  have pt:s.heap.IsTuple a its.toArray:=p
  have hl:=rv.length
  have hnone:its.toArray[i]? = none:=by simp;lia
  refine U4 (I.ok.hd hc) he hit pt hnone fun h2 eb=>⟨rfl,?_⟩
  exact I.Kd (t':=s.toks) (fun b o hb g=>eb b o (fun z=>hb (by simp [z])) g) hf
 self:=fun _ _ _ _ _ st h=>by
  obtain⟨⟨old,he⟩,_⟩:=st
  exact wpAny_pyIter_enum he h
section
variable{X:Cx}{es:List Expr}{k:Nat}{tpos:Pos}
noncomputable def qDN(K:bO)(ta:TA):TI:=fun σ H R=>ta σ H fun vs H1 => ∃ a,vs=[.ref a]/\(∃ xs,aL K H1 a xs)/\R (Ite K a) H1
theorem Vz{l:Expr}{ta:TA}{p pos:Pos}(hg:Gl X "enumerate")(hm:X.mg "enumerate" = none)(ha:PA X [l] ta)(hs:starEach [l] X.env=[(false,eval l X.env)]:=by rfl):PI X (.Tuple es k tpos) (.Call (.Name "enumerate" p) [l] [] pos) (qDN X.K ta):=by
 intro pins s σ H R I h
 refine Call_ (nW I hg hm boot_enumerate (PyProof.Rows.callWith_type1 (bJ (ha pos pins s σ H _ I h) fun us s1 ⟨vs,H1,I1,r1,q1⟩=>?_) hs rfl))
 obtain⟨a,e,⟨xs,hq⟩,q⟩:=q1
 subst e
 cases r1 with
 | cons r rr=>
  cases rr
  cases r
  obtain⟨its,rv,p,hz⟩:=I1.tuple hq
  refine PN (show s1.heap.IsTuple a its.toArray from p) fun h' he hit hsz hk=>?_
  refine wpAny_pyIter_enum he ?_
  have I2:Inv X pins σ H1 { s1 with heap:=h' }:=I1.kept (t':=s1.toks) hk
  refine⟨s1.heap.objs.size+1,[s1.heap.objs.size+1,s1.heap.objs.size],_,_,H1,rfl,I2,Mu a _ _,⟨⟨.none,by simpa using he⟩,hit⟩,fun b hb=>?_,q⟩
  rcases bY.mp hb with rfl | hb
  ·exact I1.xH (Nat.le_succ _) (I1.hok.fresh (Nat.le_succ _))
  ·rw[dJ.mp hb]
   exact I1.xH (bT _) (I1.hok.fresh (bT _))
end
theorem Tf{K:bO}{a:Addr}{xs:List V}{g:TG}{tb:TS}{D:Ends}{σ:St}{H:Hp}(Pv:Nat->St->Hp->Prop)(h0:Pv 0 σ H)(hl:∀ i σ H,i<=xs.length->Pv i σ H->aL K H a xs)
  (hs:∀ i x σ H t,xs[i]? = some x->Pv i σ H->H t=none->g (.ref t) σ (upd H t (.tup [.int (i:Int),x])) fun σ2 H2=>tb { D with nx:=Pv (i+1),ct:=Pv (i+1),bk:=D.nx } σ2 H2) (hd:∀ σ H,Pv xs.length σ H->D.nx σ H) :
  ∃ W:Nat->Nat->St->Hp->Prop,(∃ m,W 0 m σ H)/\∀ i m σ H,W i m σ H →
   ((Ite K a).stop i H/\D.nx σ H) ∨ ((Ite K a).go i H/\∃ N:St->Hp->Prop,(∀ σ' H',N σ' H'->∃ m',m' < m/\W (i+1) m' σ' H')/\∀ x H',(Ite K a).VN i H x H'->g x σ H' fun σ2 H2=>tb { D with nx:=N,ct:=N,bk:=D.nx } σ2 H2):=by
 refine⟨fun i m σ H=>m+i=xs.length/\Pv i σ H,⟨xs.length,rfl,h0⟩,?_⟩
 rintro i m σ H ⟨hm,p⟩
 have hq:=hl i σ H (by lia) p
 by_cases hlt:i < xs.length
 ·refine .inr ⟨⟨xs,xs[i],hq,by simp [hlt]⟩,Pv (i+1),fun σ' H' p'=>⟨m - 1,by lia,by lia,p'⟩,fun v H' y=>?_⟩
  obtain⟨t,x,rfl,ht,hx,rfl⟩:=y
  exact hs i x σ H t (hx xs hq) p ht
 ·obtain rfl:i=xs.length:=by lia
  exact .inl ⟨⟨xs,hq,bT _⟩,hd σ H p⟩
end L2
namespace L2
open PySem
noncomputable def qAT:Expr->Option V
 | .Constant (.int i) _ _=>some (.int i)
 | .Constant (.str z) _ _=>some (.str z)
 | .UnaryOp .USub (.Constant (.int i) _ _) _=>some (.int (-i))
 | _=>none
noncomputable def Ma:List Expr->Option (List V)
 | []=>some []
 | e :: es=>match qAT e,Ma es with
  | some v,some vs=>some (v :: vs)
  | _,_=>none
section
variable{X:Cx}
theorem qAS{e:Expr}{v:V}(h:qAT e=some v):PE X e (fun _ H Q=>Q v H)/\∀ es,starEach (e :: es) X.env=(false,eval e X.env) :: starEach es X.env:=by
 unfold qAT at h
 split at h
 ·cases h
  exact⟨zB,fun _=>rfl⟩
 ·cases h
  exact⟨zP,fun _=>rfl⟩
 ·cases h
  refine⟨fun pins s σ H Q I h=>?_,fun _=>rfl⟩
  exact (R5 Hk zB) pins s σ H Q I ⟨_,rfl,h⟩
 ·cases h
theorem yx:∀ {es:List Expr} {vs:List V},Ma es=some vs->PA X es (fun _ H Q=>Q vs H)
 | [],vs,h=>by
  cases h
  exact zD
 | e :: es,vs,h=>by
  unfold Ma at h
  split at h
  ·rename_i v vs' h1 h2
   cases h
   obtain⟨a,b⟩:=qAS (X:=X) h1
   exact zA a (yx h2) (b es)
  ·cases h
end
structure RE(X:Cx)(e:Expr)(t:TE):Prop where
 p:PE X e t
structure RS(X:Cx)(st:Stmt)(t:TS):Prop where
 p:PS X st t
structure RSs(X:Cx)(st:List Stmt)(t:TS):Prop where
 p:Aq X st t
structure RA(X:Cx)(es:List Expr)(t:TA):Prop where
 p:PA X es t
section
variable{X:Cx}{e a b c:Expr}{es:List Expr}{te ta tb:TE}{tc:TT}{tr:TA}{pos:Pos}{st:Stmt}{ss rest:List Stmt}{t u:TS}
theorem qCG(h:RS X st t):RSs X [st] t:=⟨zG h.p⟩
theorem ig(h:RS X st t)(h2:RSs X rest u):RSs X (st :: rest) (qBJ t u):=⟨zE h.p h2.p⟩
theorem qCH(h:RS X st t)(h2:RSs X rest u):RSs X (st :: rest) (qBW t u):=⟨zZ h.p h2.p⟩
theorem Ew(h:PS X st t):RS X st t:=⟨h⟩
theorem Ex{i:Nat}{x:Str}{pos':Pos}(hN:X.N.Nodup)(hi:X.N[i]? = some x)(hx:Loc X.env.scope x)(he:RE X e te)(hs:swapsWith e (some (.Name x pos')) pos.line X.env=pure false:=by rfl)(hf:X.fn x=true ∨ X.env.scope.names.lookup x=some .local:=by first | exact .inl rfl | exact .inr rfl | assumption):RS X (.Assign [.Name x pos'] e pos) (QM te (Gi i)):=⟨zK hN hi hx he.p hs hf⟩
theorem Ez(ha:RE X a ta)(hb:PE X b tb)(hs:Mm b):RE X (.Subscript a b pos) (tOp (qCK X.K) ta tb):=⟨yB yU ha.p hb hs⟩
theorem Ey(h:RA X es tr):RE X (.List es pos) (qBR tr):=⟨yK h.p⟩
theorem wC{vs:List V}(h:Ma es=some vs):RA X es (fun _ H Q=>Q vs H):=⟨yx h⟩
theorem Eu(ha:PE X e te)(hr:RA X es tr)(hs:∀ es,starEach (e :: es) X.env=(false,eval e X.env) :: starEach es X.env:=by intro _;rfl):RA X (e :: es) (Ke te tr):=⟨zA ha hr.p (hs es)⟩
end
end L2
namespace L2
open PySem PySem.Spec PyProof.Rows
section
variable{X:Cx}
theorem range_any(n:Nat)(f:Nat->Bool)(bs:List Bool)(hl:bs.length=n)(hf:∀ i b,bs[i]? = some b->f i=b):(List.range n).any f=bs.any id:=by
 rw[Bool.eq_iff_iff,List.any_eq_true,List.any_eq_true]
 constructor
 ·rintro⟨i,hi,h⟩
  have hi':i < bs.length:=by rw[hl];exact List.mem_range.mp hi
  rw[hf i _ (fu hi')]at h
  exact⟨_,kO hi',h⟩
 ·rintro⟨b,hb,h⟩
  obtain⟨i,e⟩:=List.mem_iff_getElem?.mp hb
  have hi:=(mH.mp e).1
  exact⟨i,List.mem_range.mpr (by lia),by rw[hf i b e];exact h⟩
theorem uF(hc:X.calm=true):jz X (.builtin "any") (fun xs H Q => ∃(p:Addr)(bs:List Bool),xs=[.ref p]/\aQ X.K H p (bs.map V.bl)/\Q (.bl (bs.any id)) H):=by
 intro pins s σ H xs us Q I r h
 obtain⟨p,bs,rfl,hq,q⟩:=h
 obtain⟨u,rfl,rx⟩:=vals1 r
 cases rx
 obtain⟨its,rv,pl,hz⟩:=I.list hq
 have hlen:=rv.length
 rw[bZ]at hlen
 have hlt:p < s.heap.objs.size:=by
  obtain⟨o,ho,_⟩:=pl.isList
  exact gf ho
 refine call_any_walk (wpAny_pyIter_list pl.isList ?_)
 refine⟨s.heap.objs.size,[s.heap.objs.size,p],[s.heap.objs.size],its.toArray.size,fun i v=>its.toArray[i]? = some v,fun i h=>h.IsListIter s.heap.objs.size p i/\h.IsList p its.toArray,fun i=>(bs[i]?).getD true,rfl,
  Walks.list (A:=X.A.in1) (I.ok.hd hc) _ _ (lu hlt) _,⟨⟨_,xf _ rfl,rfl,rfl⟩,pl.isList.at fun o e=>jJ _ e⟩,?_,?_⟩
 ·intro i v s' Q' E' hv hQ'
  have hi:i < bs.length:=by
   have:=(Array.getElem?_eq_some_iff.mp hv).1
   simp only[List.size_toArray]at this
   lia
  have e:bs[i]? = some bs[i]:=fu hi
  obtain⟨u,hu,ru⟩:=rv.get (i:=i) (x:=V.bl bs[i]) (by rw[cZ,e];rfl)
  have hv':its[i]? = some v:=by simpa using hv
  rw[hu]at hv'
  cases hv'
  cases ru
  have hQ2:Q' ((bs[i]?).getD true) s':=hQ'
  rw[e]at hQ2
  exact wpAny_truthy_bool hQ2
 ·intro h' tk k
  refine⟨.bl (bs.any id),H,I.kept (t':=tk) (h':=h') fun b u e=>k b u (fun z=>?_) (jJ _ e),?_,q⟩
  ·have z':b=s.heap.objs.size:=by simpa using z
   exact absurd (gf e) (by rw[z'];exact Nat.lt_irrefl _)
  ·show Value.bool _=Value.bool _
   rw[range_any its.toArray.size _ bs (by simp only[List.size_toArray];exact hlen) fun i b e=>by rw[e];rfl]
end
noncomputable def Itd(top:Int)(n:Nat):It:=⟨fun i _=>i < n,fun i H x H'=>H'=H/\x = .int (top - i),fun i _=>n<=i⟩
theorem Mv{P:Program}{w:World}{K:bO}{tg:Expr}(it:Addr)(top:Int)(n:Nat):Turn P w K tg (Itd top n) [it] it (fun i h=>IsRangeIter h it (top+(i:Nat) * (-1)) ((n:Int) - (i:Nat)) (-1)) where
 mem:=by simp
 obj:=fun i h st b hb=>by
  obtain rfl:b=it:=by simpa using hb
  refine⟨_,st,fun v z=>?_⟩
  have z2:Data.fields _=Data.cell v:=z
  cases z2
 keep:=fun i h h' st k=>k it (by simp) _ st
 item:=by
  intro X hP hw hK hc i pins s σ H E I hf st hg
  subst hP hw hK
  obtain⟨f0,f1,_,f3,f4,f5⟩:=hf it (by simp)
  refine (Walks.range (prog:=X.prog) (w:=X.w) (I.ok.hd hc) it top (-1) n).item i s _ _ hg st fun v h' tk hv st' kk=>?_
  obtain⟨t,rfl⟩:=hv
  have I1:Inv X pins σ H { s with heap:=h',toks:=tk }:=I.turned (fun b o hb e=>kk b o (by simpa using hb) e) f0 f1 f3 f4 f5
  have ev:top+(i:Int) * (-1)=top - i:=by lia
  refine⟨_,rfl,M3 (s:={ s with heap:=h',toks:=tk }) (n := "range_iterator") st' rfl rfl (by decide) ⟨.int (top - i),H,I1,⟨t,by rw[<-ev]⟩,⟨rfl,rfl⟩,st',fun b hb=>(hf b hb).1⟩⟩
 done:=by
  intro X hP hw hK hc i pins s σ H E I hf st hg
  subst hP hw hK
  obtain⟨f0,f1,_,f3,f4,f5⟩:=hf it (by simp)
  have hn:n<=i:=hg
  exact wpAny_pyNext_range_end (I.ok.hd hc) st (by lia) fun h' eb=>⟨rfl,I.turned (t':=s.toks) (fun b o hb e=>eb b o hb e) f0 f1 f3 f4 f5⟩
 self:=fun _ _ _ _ _ st h=>wpAny_pyIter_rangeiter st h
section
variable{X:Cx}{tg:Expr}
theorem XJ{pins:List (Addr × Obj)}{σ:St}{H:Hp}{s:Shared}{R:It->Hp->Prop}{E:Value->Shared->Prop}{x y:Int}{t u v:Tok}{tk:Nat}(I:Inv X pins σ H s)(h1 : -(2 ^ 62)<=x)(h2:x < 2 ^ 62)(h3 : -(2 ^ 62)<=y)(h4:y < 2 ^ 62)
  (q:R (Itd x (x - y).toNat) H):wpAny (model X.prog X.w) X.A (pyIter (.ref s.heap.objs.size)) (PIE X pins σ tg R) E { s with heap:=s.heap.push { cls:=.type "range",data:=.fields #[.int x t,.int y u,.int (-1) v] },toks:=tk }:=by
 refine wpAny_pyIter_range (IsRange.new ..) (PySem.W.small_down h1 h2 h3 h4) ?_
 have I1:Inv X pins σ H { s with heap:=s.heap.push { cls:=.type "range",data:=.fields #[.int x t,.int y u,.int (-1) v] },toks:=tk }:=I.kept fun b o e=>jJ _ e
 refine⟨(s.heap.push { cls:=.type "range",data:=.fields #[.int x t,.int y u,.int (-1) v] }).objs.size,[(s.heap.push { cls:=.type "range",data:=.fields #[.int x t,.int y u,.int (-1) v] }).objs.size],_,_,H,rfl,
  I1.kept (t':=tk) fun b o e=>jJ _ e,Mv _ x (x - y).toNat,?_,fun b hb=>?_,q⟩
 ·have e1:x+((0:Nat):Int) * (-1)=x:=by simp
  have e2:(((x - y).toNat:Nat):Int) - ((0:Nat):Int)=Builtin.Range.rangeSize x y (-1):=by rw[PySem.W.rangeSize_downNat];simp
  show IsRangeIter _ _ (x+((0:Nat):Int) * (-1)) ((((x - y).toNat:Nat):Int) - ((0:Nat):Int)) (-1)
  rw[e1,e2]
  exact xf _ rfl
 ·obtain rfl:b=(s.heap.push { cls:=.type "range",data:=.fields #[.int x t,.int y u,.int (-1) v] }).objs.size:=by simpa using hb
  exact I1.xH (bT _) (I1.hok.fresh (bT _))
noncomputable def qDO(ta:TA):TI:=fun σ H R=>ta σ H fun vs H1 => ∃ i:Int,vs=[.int i,.int (-1),.int (-1)] /\ -1<=i/\i < 2 ^ 62/\R (Itd i (i - (-1)).toNat) H1
theorem W0{a b c:Expr}{ta:TA}{p pos:Pos}(hg:Gl X "range")(hm:X.mg "range" = none)(ha:PA X [a,b,c] ta)(hs:starEach [a,b,c] X.env=[(false,eval a X.env),(false,eval b X.env),(false,eval c X.env)]:=by rfl)(hs2:starEach [b,c] X.env=[(false,eval b X.env),(false,eval c X.env)]:=by rfl) :
  PI X tg (.Call (.Name "range" p) [a,b,c] [] pos) (qDO ta):=by
 intro pins s σ H R I h
 refine Call_ (nW I hg hm boot_range (PyProof.Rows.callWith_type1 (bJ (ha pos pins s σ H _ I h) fun us s1 ⟨vs,H1,I1,r1,q1⟩=>?_) (by rw[hs,hs2]) (by rw[hs2];rfl)))
 obtain⟨i,e,q1,q2,q⟩:=q1
 subst e
 cases r1 with
 | cons r rr=>
  cases rr with
  | cons r' rr=>
   cases rr with
   | cons r2 rr=>
    cases rr
    obtain⟨t,rfl⟩:=r
    obtain⟨t',rfl⟩:=r'
    obtain⟨t2,rfl⟩:=r2
    exact call_range_3 (by decide) (XJ I1 (by lia) q2 (by decide) (by decide) q) (.inl (PyProof.noPylong_small (by decide)))
end
theorem Tg{top:Int}{n:Nat}{g:TG}{tb:TS}{D:Ends}{σ:St}{H:Hp}(Pv:Nat->St->Hp->Prop)(h0:Pv 0 σ H)
  (hs:∀ i σ H,i < n->Pv i σ H->g (.int (top - i)) σ H fun σ2 H2=>tb { D with nx:=Pv (i+1),ct:=Pv (i+1),bk:=D.nx } σ2 H2) (hd:∀ σ H,Pv n σ H->D.nx σ H) :
  ∃ W:Nat->Nat->St->Hp->Prop,(∃ m,W 0 m σ H)/\∀ i m σ H,W i m σ H →
   ((Itd top n).stop i H/\D.nx σ H) ∨ ((Itd top n).go i H/\∃ N:St->Hp->Prop,(∀ σ' H',N σ' H'->∃ m',m' < m/\W (i+1) m' σ' H')/\∀ x H',(Itd top n).VN i H x H'->g x σ H' fun σ2 H2=>tb { D with nx:=N,ct:=N,bk:=D.nx } σ2 H2):=by
 refine⟨fun i m σ H=>m+i=n/\Pv i σ H,⟨n,rfl,h0⟩,?_⟩
 rintro i m σ H ⟨hm,p⟩
 by_cases hlt:i < n
 ·refine .inr ⟨hlt,Pv (i+1),fun σ' H' p'=>⟨m - 1,by lia,by lia,p'⟩,fun x H' y=>?_⟩
  obtain⟨rfl,rfl⟩:=y
  exact hs i σ _ hlt p
 ·obtain rfl:i=n:=by lia
  exact .inl ⟨bT _,hd σ H p⟩
section
variable{X:Cx}
end
end L2
namespace PySem
open Sem (wp)
namespace Rv
section
variable{prog:Program}{w:World}{A:Around}{E:Value->Shared->Prop}{s:Shared}{I:Addr}{fp wr:List Addr}{G:Array GenState->Array GenState->Prop}{n:Nat}{P:Nat->Value->Prop}{St:Nat->Shared->Prop}
end
end Rv
end PySem
namespace L2
open PySem PySem.Spec PyProof.Rows
section
variable{X:Cx}
theorem FW:jK X (binaryOp .Add) (fun x y H Q => ∃(a b:Addr)(ys:List V),x = .ref a/\y = .ref b/\aL X.K H a []/\aL X.K H b ys/\Q (.ref b) H):=by
 intro pins s σ H x y v u Q I rx ry h
 obtain⟨a,b,ys,rfl,rfl,ha,hb,q⟩:=h
 cases rx
 cases ry
 obtain⟨its,r1,p1,_⟩:=I.tuple ha
 obtain⟨its2,r2,p2,_⟩:=I.tuple hb
 have e0:its=[]:=r1.rJ.mpr rfl
 subst e0
 obtain⟨⟨cls,dd,data,sl⟩,ho,hc,n,hd⟩:=id p1
 obtain⟨⟨cls2,dd2,data2,sl2⟩,ho2,hc2,n2,hd2⟩:=id p2
 simp only at hc hd hc2 hd2
 subst hc hd hc2 hd2
 exact concat_meets ⟨_,ho,rfl⟩ ⟨_,ho2,rfl⟩ noFill_tuple_add seq_tuple_add PySem.F.slot_tuple_add PySem.F.entry_tuple_add (PySem.F.args_tuple_add_2 _ _) (tuple_addW0 a b _ _ n n2 dd dd2 sl sl2 (by simp)) ⟨ho,ho2,⟨.ref b,H,I,rfl,q⟩⟩
end
end L2
namespace L2
open PySem
section
variable{X:Cx}
theorem Tz{x:V}(h:jA x=true):Ot x x=true:=by
 cases x with
 | non=>rfl
 | bl b=>exact beq_self_eq_true b
 | int b=>exact beq_self_eq_true b
 | str b=>exact beq_self_eq_true b
 | _=>exact absurd (show false=true from h) qX
end
inductive Dq(K:bO)(H:Hp):Nat->V->V->Prop where
 | flat {n:Nat} {x:V}:jA x=true->Dq K H n x x
 | same {n:Nat} {a:Addr}:Dq K H n (.ref a) (.ref a)
 | tup {n:Nat} {a b:Addr} {xs ys:List V}:aL K H a xs->aL K H b ys->xs.length=ys.length->(∀(j:Nat)(x y:V),xs[j]? = some x->ys[j]? = some y->Dq K H n x y)->Dq K H (n+1) (.ref a) (.ref b)
 | lst {n:Nat} {a b:Addr} {xs ys:List V}:aQ K H a xs->aQ K H b ys->xs.length=ys.length->(∀(j:Nat)(x y:V),xs[j]? = some x->ys[j]? = some y->Dq K H n x y)->Dq K H (n+1) (.ref a) (.ref b)
theorem Vals.at_of{xs:List V}{us:List Value}(r:Vals xs us){j:Nat}(h:j < us.length):∃ x,xs[j]? = some x/\RelV x us[j]:=by
 have hl:=r.length
 have hx:xs[j]? = some xs[j]:=fu (by lia)
 obtain⟨u,hu,ru⟩:=r.get hx
 rw[fu h]at hu
 exact⟨_,hx,kJ hu ▸ ru⟩
section
variable{X:Cx}{pins:List (Addr × Obj)}{σ:St}{H:Hp}{s:Shared}
theorem Dq.Ou(I:Inv X pins σ H s){n:Nat}{x y:V}(d:Dq X.K H n x y):∀ {A:Around} {u v:Value},RelV x u->RelV y v->A.units+n < cLine->SeqAt.EqAt A s u v true:=by
 induction d with
 | @flat n x f=>
  intro A u v ru rv _
  have:=Jr (A:=A) (s:=s) ru rv f f
  rw[Tz f]at this
  exact this
 | same=>
  intro A u v ru rv _
  cases ru
  cases rv
  exact SeqAt.EqAt.same _
 | @tup n a b xs ys ha hb hl _ ih=>
  intro A u v ru rv hu
  cases ru
  cases rv
  obtain⟨its,r1,p1,_⟩:=I.tuple ha
  obtain⟨its2,r2,p2,_⟩:=I.tuple hb
  have l1:=r1.length
  have l2:=r2.length
  by_cases e:a=b
  ·subst e
   exact SeqAt.EqAt.same _
  refine SeqAt.EqAt.of_refs e ?_
  have:=SeqAt.RcAt.tuples (A:=A) (s:=s) (e:=fun _=>true) p1 p2 (by lia) (fun j h1 h2=>?_)
  ·have e2:((List.range (min its.toArray.size its2.toArray.size)).all (fun _=>true) && its.toArray.size == its2.toArray.size)=true:=by
    rw[qd,qd,<-l1,<-l2,hl]
    simp
   rw[e2]at this
   exact this
  ·have h1':j < its.length:=by simpa using h1
   have h2':j < its2.length:=by simpa using h2
   obtain⟨x,hx,rx⟩:=r1.at_of h1'
   obtain⟨y,hy,ry⟩:=r2.at_of h2'
   have:=ih j x y hx hy (A:=A.in1) rx ry (by show A.in1.units+n < cLine;simp;lia)
   simpa using this
 | @lst n a b xs ys ha hb hl _ ih=>
  intro A u v ru rv hu
  cases ru
  cases rv
  obtain⟨its,r1,p1,_⟩:=I.list ha
  obtain⟨its2,r2,p2,_⟩:=I.list hb
  have l1:=r1.length
  have l2:=r2.length
  by_cases e:a=b
  ·subst e
   exact SeqAt.EqAt.same _
  refine SeqAt.EqAt.of_refs e ?_
  have:=SeqAt.RcAt.lists (A:=A) (s:=s) (e:=fun _=>true) p1.isList p2.isList (by rw[qd,qd,<-l1,<-l2,hl]) (by lia) (fun j h1 h2=>?_)
  ·have e2:(List.range its.toArray.size).all (fun _=>true)=true:=by simp
   rw[e2]at this
   exact this
  ·have h1':j < its.length:=by simpa using h1
   have h2':j < its2.length:=by simpa using h2
   obtain⟨x,hx,rx⟩:=r1.at_of h1'
   obtain⟨y,hy,ry⟩:=r2.at_of h2'
   have:=ih j x y hx hy (A:=A.in1) rx ry (by show A.in1.units+n < cLine;simp;lia)
   simpa using this
end
section
variable{X:Cx}
theorem Li(hu:X.A.units+64 < cLine):jK X (compareOp .Eq) (fun x y H Q => ∃ a b xs ys n,x = .ref a/\y = .ref b/\aQ X.K H a xs/\aQ X.K H b ys/\xs.length=ys.length/\(∀(j:Nat)(x y:V),xs[j]? = some x->ys[j]? = some y->Dq X.K H n x y)/\n<=60/\Q (.bl true) H):=by
 intro pins s σ H x y v u Q I rx ry h
 obtain⟨a,b,xs,ys,n,rfl,rfl,ha,hb,hl,dq,hn,q⟩:=h
 cases rx
 cases ry
 obtain⟨its,r1,p1,_⟩:=I.list ha
 obtain⟨its2,r2,p2,_⟩:=I.list hb
 have l1:=r1.length
 have l2:=r2.length
 refine SeqAt.RcAt.lists (e:=fun _=>true) p1.isList p2.isList (by rw[qd,qd,<-l1,<-l2,hl]) (by lia) (fun j h1 h2=>?_) X.prog X.w X.xe _ ?_
 ·have h1':j < its.length:=by simpa using h1
  have h2':j < its2.length:=by simpa using h2
  obtain⟨x,hx,rx⟩:=r1.at_of h1'
  obtain⟨y,hy,ry⟩:=r2.at_of h2'
  have:=(dq j x y hx hy).Ou I (A:=X.A.in1) rx ry (by show X.A.in1.units+n < cLine;simp;lia)
  simpa using this
 ·have e:(List.range its.toArray.size).all (fun _=>true)=true:=by
   simp
  rw[e]
  exact⟨.bl true,H,I,rfl,q⟩
theorem WK(hu:X.A.units+64 < cLine):jK X (compareOp .Eq) (fun x y H Q => ∃ a b xs ys n,x = .ref a/\y = .ref b/\aL X.K H a xs/\aL X.K H b ys/\xs.length=ys.length/\(∀(j:Nat)(x y:V),xs[j]? = some x->ys[j]? = some y->Dq X.K H n x y)/\n<=60/\Q (.bl true) H):=by
 intro pins s σ H x y v u Q I rx ry h
 obtain⟨a,b,xs,ys,n,rfl,rfl,ha,hb,hl,dq,hn,q⟩:=h
 cases rx
 cases ry
 obtain⟨its,r1,p1,_⟩:=I.tuple ha
 obtain⟨its2,r2,p2,_⟩:=I.tuple hb
 have l1:=r1.length
 have l2:=r2.length
 refine SeqAt.RcAt.tuples (e:=fun _=>true) p1 p2 (by lia) (fun j h1 h2=>?_) X.prog X.w X.xe _ ?_
 ·have h1':j < its.length:=by simpa using h1
  have h2':j < its2.length:=by simpa using h2
  obtain⟨x,hx,rx⟩:=r1.at_of h1'
  obtain⟨y,hy,ry⟩:=r2.at_of h2'
  have:=(dq j x y hx hy).Ou I (A:=X.A.in1) rx ry (by show X.A.in1.units+n < cLine;simp;lia)
  simpa using this
 ·have e:((List.range (min its.toArray.size its2.toArray.size)).all (fun _=>true) && its.toArray.size == its2.toArray.size)=true:=by
   rw[List.size_toArray,List.size_toArray,<-l1,<-l2,hl];simp
  rw[e]
  exact⟨.bl true,H,I,rfl,q⟩
theorem W9(hu:X.A.units+64 < cLine):jK X (compareOp .NotEq) (fun x y H Q => ∃ a b xs ys n,x = .ref a/\y = .ref b/\aL X.K H a xs/\aL X.K H b ys/\xs.length=ys.length/\(∀(j:Nat)(x y:V),xs[j]? = some x->ys[j]? = some y->Dq X.K H n x y)/\n<=60/\Q (.bl false) H):=by
 intro pins s σ H x y v u Q I rx ry h
 obtain⟨a,b,xs,ys,n,rfl,rfl,ha,hb,hl,dq,hn,q⟩:=h
 cases rx
 cases ry
 obtain⟨its,r1,p1,_⟩:=I.tuple ha
 obtain⟨its2,r2,p2,_⟩:=I.tuple hb
 have l1:=r1.length
 have l2:=r2.length
 refine SeqAt.RcNeAt.tuples (e:=fun _=>true) p1 p2 (by lia) (fun j h1 h2=>?_) X.prog X.w X.xe _ ?_
 ·have h1':j < its.length:=by simpa using h1
  have h2':j < its2.length:=by simpa using h2
  obtain⟨x,hx,rx⟩:=r1.at_of h1'
  obtain⟨y,hy,ry⟩:=r2.at_of h2'
  have:=(dq j x y hx hy).Ou I (A:=X.A.in1) rx ry (by show X.A.in1.units+n < cLine;simp;lia)
  simpa using this
 ·have e:(!((List.range (min its.toArray.size its2.toArray.size)).all (fun _=>true) && its.toArray.size == its2.toArray.size))=false:=by
   rw[List.size_toArray,List.size_toArray,<-l1,<-l2,hl];simp
  rw[e]
  exact⟨.bl false,H,I,rfl,q⟩
end
inductive Dc(K:bO)(H:Hp):Nat->V->V->Bool->Prop where
 | flat {n:Nat} {x y:V}:jA x=true->jA y=true->Dc K H n x y (Ot x y)
 | like {n:Nat} {x y:V}:Dq K H n x y->Dc K H n x y true
 | tup {n:Nat} {a b:Addr} {xs ys:List V} {e:Nat->Bool}:a ≠ b->aL K H a xs->aL K H b ys->(∀(j:Nat)(x y:V),xs[j]? = some x->ys[j]? = some y->Dc K H n x y (e j))->Dc K H (n+1) (.ref a) (.ref b) ((List.range (min xs.length ys.length)).all e && xs.length == ys.length)
section
variable{X:Cx}{pins:List (Addr × Obj)}{σ:St}{H:Hp}{s:Shared}
theorem Dc.Ou(I:Inv X pins σ H s){n:Nat}{x y:V}{b:Bool}(d:Dc X.K H n x y b):∀ {A:Around} {u v:Value},RelV x u->RelV y v->A.units+n < cLine->SeqAt.EqAt A s u v b:=by
 induction d with
 | flat f g=>exact fun ru rv _=>Jr ru rv f g
 | like d=>exact fun ru rv hu=>d.Ou I ru rv hu
 | @tup n a b xs ys e ne ha hb _ ih=>
  intro A u v ru rv hu
  cases ru
  cases rv
  obtain⟨its,r1,p1,_⟩:=I.tuple ha
  obtain⟨its2,r2,p2,_⟩:=I.tuple hb
  have l1:=r1.length
  have l2:=r2.length
  refine SeqAt.EqAt.of_refs ne ?_
  have:=SeqAt.RcAt.tuples (A:=A) (s:=s) (e:=e) p1 p2 (by lia) (fun j h1 h2=>?_)
  ·rw[qd,qd,<-l1,<-l2]at this
   exact this
  ·have h1':j < its.length:=by simpa using h1
   have h2':j < its2.length:=by simpa using h2
   obtain⟨x,hx,rx⟩:=r1.at_of h1'
   obtain⟨y,hy,ry⟩:=r2.at_of h2'
   have:=ih j x y hx hy (A:=A.in1) rx ry (by show A.in1.units+n < cLine;simp;lia)
   simpa using this
end
section
variable{X:Cx}
theorem WD(hu:X.A.units+64 < cLine):jK X (compareOp .In) (fun x y H Q => ∃(p:Addr)(xs:List V)(n:Nat),y = .ref p/\aQ X.K H p xs/\n<=60/\(∀ z∈xs,Dc X.K H n z x false)/\Q (.bl false) H):=by
 intro pins s σ H x y v u Q I rx ry h
 obtain⟨p,xs,n,rfl,hq,n60,hz,q⟩:=h
 cases ry
 obtain⟨its,r,pl,_⟩:=I.list hq
 refine SeqAt.in_listAt (fun _=>false) pl.isList (fun w hw=>?_) ⟨.bl _,H,I,rfl,?_⟩
 ·have hw':w∈its:=by simpa using hw
  obtain⟨j,hj,e⟩:=List.mem_iff_getElem.mp hw'
  obtain⟨z,hz1,rz⟩:=r.at_of hj
  rw[e]at rz
  exact (hz z (List.mem_of_getElem? hz1)).Ou I rz rx (by show X.A.in1.units+n < cLine;simp;lia)
 ·have:(its.toArray.any fun _=>false)=false:=by simp
  rw[this]
  exact q
theorem Xh{α:Type} [DecidableEq α] (as bs:List α):((List.range (min as.length bs.length)).all (fun j=>decide (as[j]? = bs[j]?)) && as.length == bs.length)=decide (as=bs):=by
 rw[Bool.eq_iff_iff,decide_eq_true_iff,Bool.and_eq_true,List.all_eq_true,beq_iff_eq]
 constructor
 ·rintro⟨h,hl⟩
  apply List.ext_getElem?
  intro i
  by_cases c:i < as.length
  ·exact of_decide_eq_true (h i (List.mem_range.mpr (by lia)))
  ·rw[List.getElem?_eq_none (by lia),List.getElem?_eq_none (by lia)]
 ·intro h
  subst h
  exact⟨fun j _=>decide_eq_true rfl,rfl⟩
end
end L2
namespace Tr
noncomputable def pO(ds:List Int)(d:Int):Nat->Option Nat
 | 0=>none
 | j+1=>if ds.getD j 0 < d then some j else pO ds d j
noncomputable def par(ds:List Int)(k:Nat):Option Nat:=pO ds (ds.getD k 0) k
theorem qC{ds:List Int}{d:Int}:∀ {k j:Nat},j < k->ds.getD j 0 < d->(∀ i,j < i->i < k->d<=ds.getD i 0)->pO ds d k=some j
 | 0,j,h,_,_=>by lia
 | k+1,j,h,hd,ha=>by
  unfold pO
  by_cases e:j=k
  ·subst e
   rw[if_pos hd]
  ·have:=ha k (by lia) (by lia)
   rw[if_neg (by lia)]
   exact qC (by lia) hd fun i h1 h2=>ha i h1 (by lia)
theorem wI{ds:List Int}{d:Int}:∀ {k:Nat},(∀ i,i < k->d<=ds.getD i 0)->pO ds d k=none
 | 0,_=>rfl
 | k+1,h=>by
  unfold pO
  have:=h k (by lia)
  rw[if_neg (by lia)]
  exact wI fun i hi=>h i (by lia)
theorem wJ{ds:List Int}{d:Int}:∀ {k j:Nat},pO ds d k=some j->j < k/\ds.getD j 0 < d/\∀ i,j < i->i < k->d<=ds.getD i 0
 | 0,j,h=>by cases h
 | k+1,j,h=>by
  unfold pO at h
  split at h
  ·cases h
   exact⟨by lia,by assumption,fun i h1 h2=>by lia⟩
  ·rename_i hn
   obtain⟨a,b,c⟩:=wJ h
   refine⟨by lia,b,fun i h1 h2=>?_⟩
   by_cases e:i=k
   ·subst e
    lia
   ·exact c i h1 (by lia)
theorem nH{ds:List Int}{k j:Nat}(h:par ds k=some j):j < k:=(wJ h).1
structure Good(ds:List Int):Prop where
 pos:0 < ds.length
 first:ds.getD 0 0=0
 next:∀ k,k+1 < ds.length->1<=ds.getD (k+1) 0/\ds.getD (k+1) 0<=ds.getD k 0+1
theorem Good.nonneg{ds:List Int}(g:Good ds):∀ k,k < ds.length->0<=ds.getD k 0
 | 0,_=>by rw[g.first];exact Int.le_refl _
 | k+1,h=>by have:=g.next k h;lia
theorem Good.snoc{ds:List Int}{v:Int}(g:Good ds)(h1:1<=v)(h2:v<=ds.getD (ds.length - 1) 0+1):Good (ds++[v]):=by
 have hp:=g.pos
 have old:∀ k,k < ds.length->(ds++[v]).getD k 0=ds.getD k 0:=fun k hk=>by
  rw[kW,kW,QC hk]
 have new:(ds++[v]).getD ds.length 0=v:=by
  rw[kW,Yn (bT _)]
  simp
 refine⟨by simp,by rw[old 0 hp];exact g.first,fun k hk=>?_⟩
 rw[fU,jf]at hk
 by_cases e:k+1 < ds.length
 ·rw[old _ e,old k (by lia)]
  exact g.next k e
 ·have e':k+1=ds.length:=by lia
  rw[old k (by lia),e',new,show k=ds.length - 1 by lia]
  exact⟨h1,h2⟩
theorem Good.one:Good [0]:=⟨by decide,rfl,fun k h=>by simp at h⟩
structure Above(ds:List Int)(k:Nat)(s:List Nat):Prop where
 len:(s.length:Int)=ds.getD k 0+1
 top:s[(ds.getD k 0).toNat]? = some k
 le:∀(i v:Nat),s[i]? = some v->v<=k/\ds.getD v 0=(i:Int)/\∀ j,v < j->j<=k->(i:Int) < ds.getD j 0
noncomputable def fc(ds:List Int)(r n:Nat):List Nat:=(List.range n).filter fun j=>par ds j == some r
noncomputable def kids(ds:List Int)(r:Nat):List Nat:=fc ds r ds.length
theorem jR(ds:List Int)(r n:Nat):fc ds r (n+1)=fc ds r n++if par ds n == some r then [n] else []:=by
 unfold fc
 rw[List.range_succ,List.filter_append]
 congr 1
 rw[List.filter_cons]
 simp
theorem JW(ds:List Int)(r n:Nat):(fc ds r n).length<=n:=by
 unfold fc
 refine Nat.le_trans (qe _ _) ?_
 simp
noncomputable def QG(ds:List Int):Nat->Nat->List Nat
 | 0,_=>[]
 | f+1,k=>match par ds k with
  | none=>[]
  | some j=>j :: QG ds f j
noncomputable def ups(ds:List Int)(k:Nat):List Nat:=QG ds k k
theorem vI(ds:List Int):∀(f k:Nat),k<=f->QG ds f k=QG ds k k
 | f,0,_=>by
  cases f with
  | zero=>rfl
  | succ f=>rfl
 | 0,k+1,h=>by lia
 | f+1,k+1,h=>by
  show (match par ds (k+1) with | none=>[] | some j=>j :: QG ds f j)=(match par ds (k+1) with | none=>[] | some j=>j :: QG ds k j)
  cases e:par ds (k+1) with
  | none=>rfl
  | some j=>
   have hj:=nH e
   show j :: QG ds f j=j :: QG ds k j
   rw[vI ds f j (by lia),vI ds k j (by lia)]
theorem vH{ds:List Int}{k:Nat}(h:par ds k=none):ups ds k=[]:=by
 unfold ups
 cases k with
 | zero=>rfl
 | succ k=>
  show (match par ds (k+1) with | none=>[] | some j=>j :: QG ds k j)=[]
  rw[h]
theorem qg{ds:List Int}{k j:Nat}(h:par ds k=some j):ups ds k=j :: ups ds j:=by
 have hj:=nH h
 unfold ups
 cases k with
 | zero=>lia
 | succ k=>
  show (match par ds (k+1) with | none=>[] | some j=>j :: QG ds k j)=_
  rw[h]
  show j :: QG ds k j=_
  rw[vI ds k j (by lia)]
theorem QF{ds:List Int}:∀ {k v:Nat},v∈ups ds k->v < k:=by
 intro k
 induction k using Nat.strongRecOn with
 | ind k ih=>
  intro v hv
  cases e:par ds k with
  | none=>
   rw[vH e]at hv
   cases hv
  | some j=>
   have hj:=nH e
   rw[qg e]at hv
   rcases bY.mp hv with rfl | h
   ·exact hj
   ·have:=ih j hj h
    lia
noncomputable def hall(ds:List Int)(isOne:Nat->Bool)(a b:Nat):Option Nat:=(ups ds a).find? fun x=>(ups ds b).contains x && isOne x
noncomputable def bK(ds:List Int)(a b:Nat):Bool:=(ups ds a).contains b
theorem GK{ds:List Int}{a b j:Nat}(h:par ds a=some j):bK ds a b=(j == b || bK ds j b):=by
 unfold bK
 rw[qg h,List.contains_cons]
 congr 1
 exact Bool.eq_iff_iff.mpr ⟨fun z=>by simpa using (eq_of_beq z).symm,fun z=>by simpa using (eq_of_beq z).symm⟩
structure Aw(ds:List Int)(k e:Nat):Prop where
 lt:k < e
 le:e<=ds.length
 ins:∀ j,k < j->j < e->ds.getD k 0 < ds.getD j 0
 out:e < ds.length->ds.getD e 0<=ds.getD k 0
theorem FT{ds:List Int}{d:Int}:∀ {k:Nat},pO ds d k=none->∀ i,i < k->d<=ds.getD i 0
 | 0,_,i,h=>by lia
 | k+1,e,i,h=>by
  unfold pO at e
  split at e
  ·cases e
  ·rename_i hn
   by_cases q:i=k
   ·subst q
    lia
   ·exact FT e i (by lia)
theorem Lg{ds:List Int}{k j:Nat}:par ds j=some k ↔ k < j/\ds.getD k 0 < ds.getD j 0/\∀ i,k < i->i < j->ds.getD j 0<=ds.getD i 0:=
 ⟨fun h=>wJ h,fun ⟨a,b,c⟩=>qC a b c⟩
theorem Wm{ds:List Int}:∀(a b:Nat),b∈ups ds a ↔ b < a/\∀ j,b < j->j<=a->ds.getD b 0 < ds.getD j 0:=by
 intro a
 induction a using Nat.strongRecOn with
 | ind a ih=>
  intro b
  cases e:par ds a with
  | none=>
   rw[vH e]
   refine⟨fun z=>(by cases z),fun ⟨h1,h2⟩=>?_⟩
   have:=FT e b h1
   have:=h2 a h1 (bT _)
   lia
  | some p=>
   obtain⟨hp,hd,ha⟩:=Lg.mp e
   rw[qg e,bY,ih p hp b]
   constructor
   ·rintro (rfl | ⟨h1,h2⟩)
    ·refine⟨hp,fun j j1 j2=>?_⟩
     by_cases q:j=a
     ·rw[q]
      exact hd
     ·have:=ha j j1 (by lia)
      lia
    ·refine⟨by lia,fun j j1 j2=>?_⟩
     by_cases q:j<=p
     ·exact h2 j j1 q
     ·have z:=h2 p h1 (bT _)
      by_cases q2:j=a
      ·rw[q2]
       lia
      ·have:=ha j (by lia) (by lia)
       lia
   ·rintro⟨h1,h2⟩
    by_cases q:b=p
    ·exact .inl q
    ·right
     have z:=h2 a h1 (bT _)
     by_cases q2:p < b
     ·have:=ha b q2 h1
      lia
     ·exact⟨by lia,fun j j1 j2=>h2 j j1 (by lia)⟩
theorem wR{ds:List Int}{a b e:Nat}(h:Aw ds b e)(ha:a < ds.length):bK ds a b=(decide (b < a) && decide (a < e)):=by
 unfold bK
 rw[Bool.eq_iff_iff,List.contains_iff_mem,Wm,Bool.and_eq_true,decide_eq_true_iff,decide_eq_true_iff]
 constructor
 ·rintro⟨h1,h2⟩
  refine⟨h1,?_⟩
  by_cases q:a < e
  ·exact q
  ·have:=h2 e h.lt (by lia)
   have:=h.out (by lia)
   lia
 ·rintro⟨h1,h2⟩
  exact⟨h1,fun j j1 j2=>h.ins j j1 (by lia)⟩
theorem Lh{ds:List Int}(g:Good ds){j k e:Nat}(h:Aw ds k e)(hj:j < ds.length):(par ds j=some k) ↔ (k < j/\j < e/\ds.getD j 0=ds.getD k 0+1):=by
 rw[Lg]
 constructor
 ·rintro⟨h1,h2,h3⟩
  refine⟨h1,?_,?_⟩
  ·by_cases q:j < e
   ·exact q
   ·have:=h.out (by have:=h.lt;lia)
    by_cases q2:j=e
    ·subst q2
     lia
    ·have:=h3 e h.lt (by lia)
     lia
  ·have n:=g.next k (by lia)
   by_cases q:j=k+1
   ·subst q
    lia
   ·have:=h3 (k+1) (by lia) (by lia)
    lia
 ·rintro⟨h1,h2,h3⟩
  refine⟨h1,by lia,fun i i1 i2=>?_⟩
  have:=h.ins i i1 (by lia)
  lia
theorem wY(ds:List Int)(k:Nat):∀ n,n<=k+1->fc ds k n=[]
 | 0,_=>rfl
 | n+1,h=>by
  rw[jR,wY ds k n (by lia),if_neg]
  ·rfl
  ·intro z
   have:=nH (eq_of_beq z)
   lia
theorem uW{ds:List Int}(g:Good ds){k e:Nat}(h:Aw ds k e):∀ n,e+n<=ds.length->fc ds k (e+n)=fc ds k e
 | 0,_=>rfl
 | n+1,hn=>by
  rw[show e+(n+1)=(e+n)+1 by lia,jR,uW g h n (by lia),if_neg,gF]
  intro z
  have:=(Lh g h (by lia)).mp (eq_of_beq z)
  lia
theorem Su{ds:List Int}(g:Good ds){k e:Nat}(h:Aw ds k e):kids ds k=fc ds k e:=by
 have q:=uW g h (ds.length - e) (by have:=h.le;lia)
 rw[show e+(ds.length - e)=ds.length by have:=h.le;lia]at q
 exact q
noncomputable def bears(ds:List Int)(gs:List Nat)(k:Nat):Bool:=gs.any fun g=>g == k || bK ds g k
noncomputable def next(ds:List Int)(al:Nat->Bool)(gs:List Nat)(p:Nat):List Nat:=
 if al p=true then kids ds p else match (kids ds p).find? (bears ds gs) with
  | some k=>[k]
  | none=>(kids ds p).take 1
inductive oH(ds:List Int)(al:Nat->Bool)(gs:List Nat)(un:Option Nat):Nat->Prop where
 | top:un=none->oH ds al gs un 0
 | root {p k:Nat}:k∈next ds al gs p->un=some p->oH ds al gs un k
 | low {p k:Nat}:k∈next ds al gs p->oH ds al gs un p->oH ds al gs un k
theorem oH.kid{ds:List Int}{al:Nat->Bool}{gs:List Nat}{un:Option Nat}{p k:Nat}(h:k∈next ds al gs p)(h':un=some p ∨ oH ds al gs un p):oH ds al gs un k:=by
 rcases h' with e | g
 ·exact .root h e
 ·exact .low h g
theorem wN{ds:List Int}{r k:Nat}:k∈kids ds r ↔ k < ds.length/\par ds k=some r:=by
 unfold kids fc
 rw[mJ,List.mem_range]
 exact⟨fun ⟨a,b⟩=>⟨a,eq_of_beq b⟩,fun ⟨a,b⟩=>⟨a,by rw[b];exact beq_self_eq_true _⟩⟩
theorem zy(ds:List Int)(p:Nat):(kids ds p).Pairwise (· < ·):=by
 unfold kids fc
 exact List.pairwise_lt_range.filter _
theorem Fp{ds:List Int}{al:Nat->Bool}{gs:List Nat}{p k:Nat}(h:k∈next ds al gs p):k∈kids ds p:=by
 unfold next at h
 split at h
 ·exact h
 ·split at h
  ·rename_i k' e
   rw[dJ.mp h]
   exact List.mem_of_find?_eq_some e
  ·exact List.mem_of_mem_take h
theorem iw{ds:List Int}{al:Nat->Bool}{gs:List Nat}{p k:Nat}(h:k∈next ds al gs p):par ds k=some p:=(wN.mp (Fp h)).2
theorem Lj{ds:List Int}{al:Nat->Bool}{gs:List Nat}{p k:Nat}(h:k∈next ds al gs p):k < ds.length:=(wN.mp (Fp h)).1
theorem zg(ds:List Int)(al:Nat->Bool)(gs:List Nat)(p:Nat):(next ds al gs p).Pairwise (· < ·):=by
 unfold next
 split
 ·exact zy ds p
 ·split
  ·exact List.pairwise_singleton _ _
  ·exact (zy ds p).sublist (List.take_sublist _ _)
theorem oH.lt{ds:List Int}{al:Nat->Bool}{gs:List Nat}{un:Option Nat}{k:Nat}(pos:0 < ds.length)(h:oH ds al gs un k):k < ds.length:=by
 cases h with
 | top=>exact pos
 | root h _=>exact Lj h
 | low h _=>exact Lj h
theorem oH.over{ds:List Int}{al:Nat->Bool}{gs:List Nat}{un:Option Nat}{k:Nat}(h:oH ds al gs un k):∀ u,un=some u->u < k:=by
 induction h with
 | top e=>intro u e';rw[e]at e';cases e'
 | root h hp=>
  intro u e
  rw[e]at hp
  cases hp
  exact nH (iw h)
 | low h _ ih=>
  intro u e
  have:=nH (iw h)
  have:=ih u e
  lia
structure oG(ds:List Int)(al:Nat->Bool)(gs:List Nat)(un:Option Nat)(gone ahead:List Nat):Prop where
 nd:(gone++ahead).Nodup
 ok:∀ x∈gone++ahead,oH ds al gs un x
 fr:∀ x∈gone++ahead,par ds x=un ∨ ∃ g∈gone,par ds x=some g
 st:un=none->0∈gone++ahead
 su:∀ u,un=some u->∀ x∈next ds al gs u,x∈gone++ahead
 cl:∀ g∈gone,∀ x∈next ds al gs g,x∈gone++ahead
theorem fZ{l:List Nat}(h:l.Pairwise (· < ·)):l.Nodup:=h.imp fun z=>lu z
theorem oG.none(ds:List Int)(al:Nat->Bool)(gs:List Nat):oG ds al gs none [] [0]:=
 ⟨by simp,fun x hx=>by rw[List.mem_singleton.mp hx];exact .top rfl,fun x hx=>by rw[List.mem_singleton.mp hx];exact .inl rfl,fun _=>List.mem_singleton.mpr rfl,fun u e=>(by cases e),fun g hg=>(by cases hg)⟩
theorem oG.some(ds:List Int)(al:Nat->Bool)(gs:List Nat)(u:Nat):oG ds al gs (some u) [] (next ds al gs u):=
 ⟨fZ (zg ds al gs u),fun x hx=>.kid hx (.inl rfl),fun x hx=>.inl (iw hx),fun e=>(by cases e),fun v e x hx=>by cases e;exact hx,fun g hg=>(by cases hg)⟩
theorem oG.step{ds:List Int}{al:Nat->Bool}{gs:List Nat}{un:Option Nat}{gone a:List Nat}{r:Nat}(w:oG ds al gs un gone (a++[r])):oG ds al gs un (gone++[r]) (a++next ds al gs r):=by
 have gr:oH ds al gs un r:=w.ok r (by simp)
 have sub:∀ x,x∈gone++(a++[r])->x∈(gone++[r])++(a++next ds al gs r):=fun x hx=>by
  simp only[List.mem_append,List.mem_singleton]at hx ⊢
  rcases hx with h | h | h
  ·exact .inl (.inl h)
  ·exact .inr (.inl h)
  ·exact .inl (.inr h)
 have nr:r ∉ gone:=fun z=>by
  have:=(List.nodup_append.mp w.nd).2.2 r z r (by simp)
  exact this rfl
 have new:∀ x∈next ds al gs r,x ∉ gone++(a++[r]):=fun x hx z=>by
  have e:=iw hx
  rcases w.fr x z with h | ⟨g,hg,h⟩
  ·rw[e]at h
   exact absurd (gr.over r h.symm) (Nat.lt_irrefl _)
  ·rw[e]at h
   cases h
   exact nr hg
 have p1:((gone++[r])++(a++next ds al gs r)).Perm ((gone++(a++[r]))++next ds al gs r):=by
  rw[List.append_assoc,List.append_assoc]
  refine List.Perm.append_left gone ?_
  rw[<-List.append_assoc]
  refine List.Perm.append_right _ ?_
  exact List.perm_append_comm
 refine⟨?_,fun x hx=>?_,fun x hx=>?_,fun e=>sub _ (w.st e),fun u e x hx=>sub _ (w.su u e x hx),fun g hg x hx=>?_⟩
 ·refine p1.nodup_iff.mpr (List.nodup_append.mpr ⟨w.nd,fZ (zg ds al gs r),fun x hx y hy e=>?_⟩)
  subst e
  exact new x hy hx
 ·rcases gW.mp (p1.mem_iff.mp hx) with h | h
  ·exact w.ok x h
  ·exact .kid h (.inr gr)
 ·rcases gW.mp (p1.mem_iff.mp hx) with h | h
  ·rcases w.fr x h with h | ⟨g,hg,h⟩
   ·exact .inl h
   ·exact .inr ⟨g,List.mem_append_left _ hg,h⟩
  ·exact .inr ⟨r,by simp,iw h⟩
 ·rcases gW.mp hg with h | h
  ·exact sub _ (w.cl g h x hx)
  ·rw[dJ.mp h]at hx
   simp [hx]
theorem oG.done{ds:List Int}{al:Nat->Bool}{gs:List Nat}{un:Option Nat}{gone:List Nat}(w:oG ds al gs un gone [])(k:Nat):k∈gone ↔ oH ds al gs un k:=by
 constructor
 ·intro h
  exact w.ok k (by simpa using h)
 ·intro h
  induction h with
  | top e=>simpa using w.st e
  | root hk hp=>simpa using w.su _ hp _ hk
  | low hk _ ih=>simpa using w.cl _ ih _ hk
theorem nO:∀(n:Nat)(l:List Nat),l.Nodup->(∀ k∈l,k < n)->l.length<=n
 | 0,l,_,h=>by
  cases l with
  | nil=>exact bT _
  | cons x l=>exact absurd (h x HX) (Nat.not_lt_zero _)
 | n+1,l,hd,h=>by
  have e:=nO n (l.filter (· ≠ n)) (hd.filter _) fun k hk=>by
   obtain⟨a,b⟩:=mJ.mp hk
   have:=h k a
   have:k ≠ n:=by simpa using b
   lia
  have:l.length<=(l.filter (· ≠ n)).length+1:=by
   clear e h
   induction l with
   | nil=>exact Nat.zero_le _
   | cons x l ih=>
    obtain⟨h1,h2⟩:=List.nodup_cons.mp hd
    by_cases c:x=n
    ·subst c
     have:l.filter (· ≠ x)=l:=by
      rw[List.filter_eq_self]
      intro a ha
      have:a ≠ x:=fun z=>h1 (z ▸ ha)
      simpa using this
     rw[List.filter_cons,if_neg (by simp),this]
     exact bT _
    ·rw[List.filter_cons,if_pos (by simpa using c),List.length_cons,List.length_cons]
     have:=ih h2
     lia
  lia
theorem oG.len{ds:List Int}{al:Nat->Bool}{gs:List Nat}{un:Option Nat}{gone ahead:List Nat}(pos:0 < ds.length)(w:oG ds al gs un gone ahead):gone.length+ahead.length<=ds.length:=by
 rw[<-fU]
 exact nO _ _ w.nd fun k hk=>(w.ok k hk).lt pos
noncomputable def VL(ds:List Int)(al:Nat->Bool)(gs:List Nat)(un:Option Nat)(os:List Nat):Prop:=os.Pairwise (· < ·)/\∀ k,k∈os ↔ oH ds al gs un k
theorem VL.unique{ds:List Int}{al:Nat->Bool}{gs:List Nat}{un:Option Nat}{a b:List Nat}(h1:VL ds al gs un a)(h2:VL ds al gs un b):a=b:=
 L2.gK a b h1.1 h2.1 fun k=>(h1.2 k).trans (h2.2 k).symm
theorem VL.lt{ds:List Int}{al:Nat->Bool}{gs:List Nat}{un:Option Nat}{os:List Nat}(pos:0 < ds.length)(h:VL ds al gs un os):∀ o∈os,o < ds.length:=fun o ho=>((h.2 o).mp ho).lt pos
theorem VL.len{ds:List Int}{al:Nat->Bool}{gs:List Nat}{un:Option Nat}{os:List Nat}(pos:0 < ds.length)(h:VL ds al gs un os):os.length<=ds.length:=nO _ _ (fZ h.1) (h.lt pos)
theorem Rq{ds:List Int}{al:Nat->Bool}{gs:List Nat}{p:Nat}(h:al p=true):next ds al gs p=kids ds p:=by
 unfold next
 rw[if_pos h]
noncomputable def under(ds:List Int)(k:Nat):Option Nat->Bool
 | none=>true
 | some u=>bK ds k u
theorem yf{ds:List Int}{un:Option Nat}{k p:Nat}(h:par ds k=some p)(hu:un=some p ∨ under ds p un=true):under ds k un=true:=by
 cases un with
 | none=>rfl
 | some u=>
  show bK ds k u=true
  rw[GK h,Bool.or_eq_true]
  rcases hu with e | e
  ·injection e with e
   left
   rw[e]
   exact beq_self_eq_true _
  ·exact .inr e
theorem oH.under{ds:List Int}{al:Nat->Bool}{gs:List Nat}{un:Option Nat}{k:Nat}(h:oH ds al gs un k):under ds k un=true:=by
 induction h with
 | top e=>
  subst e
  rfl
 | root hk hp=>exact yf (iw hk) (.inl hp)
 | low hk _ ih=>exact yf (iw hk) (.inr ih)
end Tr
namespace L2
open PySem PySem.Spec PyProof.Rows
section
variable{X:Cx}
theorem bW:jz X (.builtin "isinstance") (fun xs H Q => ∃(x:V)(T:String)(t:Value)(b:Bool),xs=[x,.ty T]/\uH X.K H x t/\PySem.W.kitOne X.K t (.type T)=some b/\Q (.bl b) H):=by
 intro pins s σ H xs us Q I r h
 obtain⟨x,T,t,b,rfl,ty,e,q⟩:=h
 obtain⟨u,w',rfl,r1,r2⟩:=vals2 r
 cases (show w'=Value.type T from r2)
 exact OJ I r1 ty e fun tk=>⟨.bl b,H,I.tok tk,rfl,q⟩
theorem Zw(K:bO):PySem.W.kitOne K (.type "int") (.type "int")=some true:=by rfl
theorem Zx(K:bO):PySem.W.kitOne K (.type "int") (.type "bool")=some false:=by rfl
end
end L2
namespace L2
open PySem
theorem Q6{c:Bool}{A B:Prop}(h:c=true)(a:A):if c=true then A else B:=by rw[if_pos h];exact a
theorem lQ{c:Bool}{A B:Prop}(h:c=false)(b:B):if c=true then A else B:=by rw[if_neg (by rw[h];decide)];exact b
end L2
namespace sS
open PySem L2
inductive Gd where
 | yes
 | is (b n:Int)
 | under (b n:Int)
 | inn (r:Int)
 | neg (g:Gd)
 | both (g h:Gd)
 | either (g h:Gd)
noncomputable def Gd.ht:Gd->Nat
 | .yes=>1
 | .is _ _=>1
 | .under _ _=>1
 | .inn _=>1
 | .neg g=>g.ht+1
 | .both g h=>1+max g.ht h.ht
 | .either g h=>1+max g.ht h.ht
theorem Gd.qA9:∀ g:Gd,1<=g.ht
 | .yes=>bT _
 | .is _ _=>bT _
 | .under _ _=>bT _
 | .inn _=>bT _
 | .neg _=>Nat.succ_le_succ (Nat.zero_le _)
 | .both _ _=>Nat.le_add_right _ _
 | .either _ _=>Nat.le_add_right _ _
noncomputable def at0(bx:List Int)(b:Int):Int:=bx.getD b.toNat 0
noncomputable def Gd.holds(op bx:List Int):Gd->Bool
 | .yes=>true
 | .is b n=>decide (V.int (at0 bx b)=V.int n)
 | .under b n=>decide (at0 bx b < n)
 | .inn r=>inV (.int r) (op.map V.int)
 | .neg g => !(g.holds op bx)
 | .both g h=>g.holds op bx && h.holds op bx
 | .either g h=>g.holds op bx || h.holds op bx
noncomputable def Gd.ok(nb:Nat):Gd->Prop
 | .yes=>True
 | .is b _=>0<=b/\b < (nb:Int)
 | .under b _=>0<=b/\b < (nb:Int)
 | .inn _=>True
 | .neg g=>g.ok nb
 | .both g h=>g.ok nb/\h.ok nb
 | .either g h=>g.ok nb/\h.ok nb
noncomputable def aB(H H':Hp):Prop:=∀ b xs,H b=some (.tup xs)->H' b=some (.tup xs)
theorem aB.trans{H H1 H2:Hp}(a:aB H H1)(b:aB H1 H2):aB H H2:=fun c xs h=>b c xs (a c xs h)
theorem aB.of{H H':Hp}(s:aJ H H'):aB H H':=fun b xs h=>s b _ h
theorem aB.lst{H:Hp}{p:Addr}{xs:List V}(h:H p=some (.lst xs))(o:HO):aB H (upd H p o):=fun b ys e=>by
 rw[zQ (fH e h (by intro z;cases z))]
 exact e
theorem aB.new{H:Hp}{p:Addr}(h:H p=none)(o:HO):aB H (upd H p o):=.of (zF h o)
theorem dR{H H':Hp}{p:Addr}(hp:H p=none)(s:aJ H H')(o:HO):aJ H (upd H' p o):=fun b u e=>by
 rw[zQ (zM e hp)]
 exact s b u e
inductive jd(H:Hp):V->Gd->Prop where
 | yes {a:Addr}:H a=some (.tup [.str "yes"])->jd H (.ref a) .yes
 | is {a:Addr} {b n:Int}:H a=some (.tup [.str "is",.int b,.int n])->jd H (.ref a) (.is b n)
 | under {a:Addr} {b n:Int}:H a=some (.tup [.str "under",.int b,.int n])->jd H (.ref a) (.under b n)
 | inn {a:Addr} {r:Int}:H a=some (.tup [.str "in",.int r])->jd H (.ref a) (.inn r)
 | neg {a:Addr} {v:V} {g:Gd}:H a=some (.tup [.str "not",v])->jd H v g->jd H (.ref a) (.neg g)
 | both {a:Addr} {v u:V} {g h:Gd}:H a=some (.tup [.str "both",v,u])->jd H v g->jd H u h->jd H (.ref a) (.both g h)
 | either {a:Addr} {v u:V} {g h:Gd}:H a=some (.tup [.str "either",v,u])->jd H v g->jd H u h->jd H (.ref a) (.either g h)
theorem jd.mono{H H':Hp}{v:V}{g:Gd}(x:jd H v g)(k:aB H H'):jd H' v g:=by
 induction x with
 | yes e=>exact .yes (k _ _ e)
 | is e=>exact .is (k _ _ e)
 | under e=>exact .under (k _ _ e)
 | inn e=>exact .inn (k _ _ e)
 | neg e _ i=>exact .neg (k _ _ e) i
 | both e _ _ i j=>exact .both (k _ _ e) i j
 | either e _ _ i j=>exact .either (k _ _ e) i j
theorem yN{x y:Str}{A B:Prop}(h:¬ x=y)(b:B):if decide (V.str x=V.str y)=true then A else B:=by
 rw[if_neg]
 ·exact b
 ·intro z
  have z':=of_decide_eq_true z
  injection z' with z''
  exact h z''
theorem yO{x:Str}{A B:Prop}(a:A):if decide (V.str x=V.str x)=true then A else B:=by
 rw[if_pos (decide_eq_true rfl)]
 exact a
theorem xT{bx:List Int}{b:Int}(h0:0<=b)(h1:b < (bx.length:Int)):sY (bx.map V.int) b=some (.int (at0 bx b)):=by
 have hk:b.toNat < bx.length:=by lia
 have e:(bx.map V.int)[b.toNat]? = some (.int (at0 bx b)):=by
  rw[cZ,fu hk]
  unfold at0
  rw[kW,fu hk]
  rfl
 have q:=yQ e
 rw[Int.toNat_of_nonneg h0]at q
 exact q
theorem uB(op:List Int):(op.map V.int).all jA=true:=by
 rw[List.all_eq_true]
 intro x hx
 obtain⟨n,_,rfl⟩:=iU.mp hx
 rfl
end sS
namespace Dh
open PySem L2 sS
structure Rm where
 nm:Str
 kind:Str
 depth:Int
 keeps:Str
 wW:Str
 ins:V
 outs:V
noncomputable def K5(H:Hp)(v:V)(r:Rm):Prop:=∃ a:Addr,v = .ref a/\H a=some (.tup [.str r.nm,.str r.kind,.int r.depth,.str r.keeps,.str r.wW,r.ins,r.outs])
inductive gj(H:Hp):List V->List Rm->Prop where
 | nil:gj H [] []
 | cons {v:V} {r:Rm} {vs:List V} {rs:List Rm}:K5 H v r->gj H vs rs->gj H (v :: vs) (r :: rs)
theorem K5.mono{H H':Hp}{v:V}{r:Rm}(x:K5 H v r)(k:aB H H'):K5 H' v r:=by
 obtain⟨a,e,h⟩:=x
 exact⟨a,e,k _ _ h⟩
theorem gj.mono{H H':Hp}{vs:List V}{rs:List Rm}(x:gj H vs rs)(k:aB H H'):gj H' vs rs:=by
 induction x with
 | nil=>exact .nil
 | cons h _ ih=>exact .cons (h.mono k) ih
theorem gj.length{H:Hp}{vs:List V}{rs:List Rm}(x:gj H vs rs):vs.length=rs.length:=by
 induction x with
 | nil=>rfl
 | cons _ _ ih=>rw[eV,eV,ih]
theorem gj.snoc{H:Hp}{vs:List V}{rs:List Rm}{v:V}{r:Rm}(x:gj H vs rs)(y:K5 H v r):gj H (vs++[v]) (rs++[r]):=by
 induction x with
 | nil=>exact .cons y .nil
 | cons h _ ih=>exact .cons h ih
theorem gj.get{H:Hp}{vs:List V}{rs:List Rm}(x:gj H vs rs):∀ {k:Nat} {r:Rm},rs[k]? = some r->∃ v,vs[k]? = some v/\K5 H v r:=by
 induction x with
 | nil=>intro k r h;simp at h
 | cons h _ ih=>
  intro k r e
  cases k with
  | zero=>
   simp at e
   subst e
   exact⟨_,rfl,h⟩
  | succ k=>exact ih (by simpa using e)
noncomputable def cV(H:Hp)(t:Addr)(rs:List Rm):Prop:=∃ vs,H t=some (.tup vs)/\gj H vs rs
theorem cV.mono{H H':Hp}{t:Addr}{rs:List Rm}(x:cV H t rs)(k:aB H H'):cV H' t rs:=by
 obtain⟨vs,h,r⟩:=x
 exact⟨vs,k _ _ h,r.mono k⟩
noncomputable def aD(rs:List Rm):List Int:=rs.map (·.depth)
theorem yV(rs:List Rm):(aD rs).length=rs.length:=bZ _
theorem iR{rs:List Rm}{k:Nat}{r:Rm}(h:rs[k]? = some r):(aD rs).getD k 0=r.depth:=by
 unfold aD
 rw[kW,cZ,h]
 rfl
theorem cV.at{H:Hp}{t:Addr}{rs:List Rm}(x:cV H t rs){k:Nat}(h:k < rs.length):∃(vs:List V)(a:Addr)(r:Rm),H t=some (.tup vs)/\vs.length=rs.length/\rs[k]? = some r/\sY vs ((k:Nat):Int)=some (.ref a)/\H a=some (.tup [.str r.nm,.str r.kind,.int r.depth,.str r.keeps,.str r.wW,r.ins,r.outs]):=by
 obtain⟨vs,hv,hr⟩:=x
 have e:rs[k]? = some rs[k]:=fu h
 obtain⟨v,h1,a,rfl,h2⟩:=hr.get e
 exact⟨vs,a,rs[k],hv,hr.length,e,yQ h1,h2⟩
noncomputable def Fit(rs:List Rm):Prop:=∀(k:Nat)(r:Rm),rs[k]? = some r->if k+1 < rs.length/\(aD rs).getD k 0 < (aD rs).getD (k+1) 0 then (r.kind = "one" ∨ r.kind = "all") else r.kind = "plain"
end Dh
namespace KY
open PySem L2 sS
inductive Dd where
 | say (w:Str)
 | set (b n:Int)
 | add (b n:Int)
 | send (e:Int)
inductive uK(H:Hp):V->Dd->Prop where
 | say {a:Addr} {w:Str}:H a=some (.tup [.str "say",.str w])->uK H (.ref a) (.say w)
 | set {a:Addr} {b n:Int}:H a=some (.tup [.str "set",.int b,.int n])->uK H (.ref a) (.set b n)
 | add {a:Addr} {b n:Int}:H a=some (.tup [.str "add",.int b,.int n])->uK H (.ref a) (.add b n)
 | send {a:Addr} {e:Int}:H a=some (.tup [.str "send",.int e])->uK H (.ref a) (.send e)
theorem uK.mono{H H':Hp}{v:V}{d:Dd}(x:uK H v d)(k:aB H H'):uK H' v d:=by
 cases x with
 | say e=>exact .say (k _ _ e)
 | set e=>exact .set (k _ _ e)
 | add e=>exact .add (k _ _ e)
 | send e=>exact .send (k _ _ e)
noncomputable def Dd.upd(sz bx:List Int):Dd->List Int
 | .set b n=>bx.set b.toNat n
 | .add b n=>bx.set b.toNat ((at0 bx b+n) % at0 sz b)
 | _=>bx
noncomputable def Dd.box:Dd->Option Int
 | .set b _=>some b
 | .add b _=>some b
 | _=>none
noncomputable def Dd.ok(nb:Nat)(d:Dd):Prop:=∀ b,d.box=some b->0<=b/\b < (nb:Int)
theorem Dd.Kc(sz bx:List Int)(d:Dd):(d.upd sz bx).length=bx.length:=by
 cases d <;> simp [Dd.upd]
theorem Xf{xs:List Int}{b:Int}(h0:0<=b)(h1:b < (xs.length:Int)):at0 xs b∈xs:=by
 unfold at0
 have hk:b.toNat < xs.length:=by lia
 rw[kW,fu hk]
 exact kO hk
noncomputable def ym:Sp:=fun vs H Q _ => ∃(vd:V)(tb ts:Addr)(d:Dd)(bx sz:List Int),vs=[vd,.ref tb,.ref ts]/\uK H vd d/\H tb=some (.tup (bx.map V.int))/\H ts=some (.tup (sz.map V.int))/\d.ok bx.length/\bx.length=sz.length/\bx.length<=6/\(∀ z∈sz,0 < z) ∧
 ∀(t:Addr)(H':Hp),aJ H H'->H' t=some (.tup ((d.upd sz bx).map V.int))->Q (.ref t) H'
end KY
namespace Uk
open PySem L2 sS
abbrev LA:=Hp->Addr->List Addr->Nat->List Int->Prop
structure qFV(C:Addr)(L:LA):Prop where
 keep:∀ {H H':Hp} {p:Addr} {fp:List Addr} {m:Nat} {l:List Int},L H p fp m l->(∀ b∈fp,∀ o,H b=some o->H' b=some o)->L H' p fp m l
 there:∀ {H:Hp} {p:Addr} {fp:List Addr} {m:Nat} {l:List Int},L H p fp m l->∀ b∈fp,H b ≠ none
 obj:∀ {H:Hp} {p:Addr} {fp:List Addr} {m:Nat} {l:List Int},L H p fp m l->∃(dx:Addr)(fs:List (Str × V)),H p=some (.ins C dx fs)/\fs.lookup ("add" : Str)=none/\fs.lookup ("taken" : Str)=none/\fs.lookup ("waiting" : Str)=none
structure bR(H H':Hp)(fp fp':List Addr):Prop where
 own:∀ b∈fp',b∈fp ∨ H b=none
 rest:∀ b o,H b=some o->b ∉ fp->H' b=some o
noncomputable def added(m:Nat)(l:List Int)(e:Int):List Int:=if l.length < m then l++[e] else l
theorem Pk{m:Nat}{l:List Int}{e:Int}(h:l.length<=m):(added m l e).length<=m:=by
 unfold added
 split
 ·rw[fU,jf]
  lia
 ·exact h
noncomputable def first:List Int->V
 | []=>.non
 | e :: _=>.int e
noncomputable def Hw(C:Addr)(L:LA):Sp:=fun vs H Q _ => ∃(p dx:Addr)(m:Nat),vs=[.ref p,.int (m:Int)]/\H p=some (.ins C dx [])/\m<=12/\∀(fp:List Addr)(H':Hp),L H' p fp m []->(∀ b∈fp,b=p ∨ H b=none)->(∀ b o,H b=some o->b ≠ p->H' b=some o)->Q .non H'
noncomputable def Y5(L:LA):Sp:=fun vs H Q _ => ∃(p:Addr)(fp:List Addr)(m:Nat)(l:List Int)(e:Int),vs=[.ref p,.int e]/\L H p fp m l/\l.length<=m/\m<=12/\∀(fp':List Addr)(H':Hp),L H' p fp' m (added m l e)->bR H H' fp fp'->Q (.bl (decide (l.length < m))) H'
noncomputable def Kg(L:LA):Sp:=fun vs H Q _ => ∃(p:Addr)(fp:List Addr)(m:Nat)(l:List Int),vs=[.ref p]/\L H p fp m l/\l.length<=m/\m<=12/\∀(fp':List Addr)(H':Hp),L H' p fp' m l.tail->bR H H' fp fp'->Q (first l) H'
noncomputable def yh(L:LA):Sp:=fun vs H Q _ => ∃(p:Addr)(fp:List Addr)(m:Nat)(l:List Int),vs=[.ref p]/\L H p fp m l/\l.length<=m/\m<=12/\∀(q:Addr)(fp':List Addr)(H':Hp),L H' p fp' m l->bR H H' fp fp'->H q=none->q ∉ fp'->H' q=some (.lst (l.map V.int))->Q (.ref q) H'
end Uk
namespace KY
open PySem L2 sS Uk
inductive Rc where
 | say (w:Str)
 | put (b v:Int)
 | send (e:Int)
 | lost (e:Int)
noncomputable def Rc.row:Rc->List V
 | .say w=>[.str "say",.str w]
 | .put b v=>[.str "put",.int b,.int v]
 | .send e=>[.str "send",.int e]
 | .lost e=>[.str "lost",.int e]
inductive jE(H:Hp):List V->List Rc->Prop where
 | nil:jE H [] []
 | cons {a:Addr} {r:Rc} {vs:List V} {rs:List Rc}:H a=some (.tup r.row)->jE H vs rs->jE H (.ref a :: vs) (r :: rs)
theorem jE.mono{H H':Hp}{vs:List V}{rs:List Rc}(x:jE H vs rs)(k:aB H H'):jE H' vs rs:=by
 induction x with
 | nil=>exact .nil
 | cons h _ ih=>exact .cons (k _ _ h) ih
theorem jE.length{H:Hp}{vs:List V}{rs:List Rc}(x:jE H vs rs):vs.length=rs.length:=by
 induction x with
 | nil=>rfl
 | cons _ _ ih=>rw[eV,eV,ih]
theorem jE.snoc{H:Hp}{vs:List V}{rs:List Rc}{a:Addr}{r:Rc}(x:jE H vs rs)(y:H a=some (.tup r.row)):jE H (vs++[.ref a]) (rs++[r]):=by
 induction x with
 | nil=>exact .cons y .nil
 | cons h _ ih=>exact .cons h ih
inductive gU(H:Hp):List V->List Dd->Prop where
 | nil:gU H [] []
 | cons {v:V} {d:Dd} {vs:List V} {ds:List Dd}:uK H v d->gU H vs ds->gU H (v :: vs) (d :: ds)
theorem gU.mono{H H':Hp}{vs:List V}{ds:List Dd}(x:gU H vs ds)(k:aB H H'):gU H' vs ds:=by
 induction x with
 | nil=>exact .nil
 | cons h _ ih=>exact .cons (h.mono k) ih
theorem gU.length{H:Hp}{vs:List V}{ds:List Dd}(x:gU H vs ds):vs.length=ds.length:=by
 induction x with
 | nil=>rfl
 | cons _ _ ih=>rw[eV,eV,ih]
theorem gU.snoc{H:Hp}{vs:List V}{ds:List Dd}{v:V}{d:Dd}(x:gU H vs ds)(y:uK H v d):gU H (vs++[v]) (ds++[d]):=by
 induction x with
 | nil=>exact .cons y .nil
 | cons h _ ih=>exact .cons h ih
theorem gU.get{H:Hp}{vs:List V}{ds:List Dd}(x:gU H vs ds):∀ {k:Nat} {v:V},vs[k]? = some v->∃ d,ds[k]? = some d/\uK H v d:=by
 induction x with
 | nil=>intro k v h;simp at h
 | cons h _ ih=>
  intro k v e
  cases k with
  | zero=>
   simp at e
   subst e
   exact⟨_,rfl,h⟩
  | succ k=>exact ih (by simpa using e)
noncomputable def Dd.Zo(m:Nat)(l:List Int):Dd->List Int
 | .send e=>added m l e
 | _=>l
noncomputable def Dd.rc(sz:List Int)(m:Nat)(bx l:List Int):Dd->Rc
 | .say w=>.say w
 | .set b n=>.put b (at0 ((Dd.set b n).upd sz bx) b)
 | .add b n=>.put b (at0 ((Dd.add b n).upd sz bx) b)
 | .send e=>if l.length < m then .send e else .lost e
noncomputable def wA(sz:List Int):List Dd->List Int->List Int
 | [],bx=>bx
 | d :: ds,bx=>wA sz ds (d.upd sz bx)
noncomputable def w5(m:Nat):List Dd->List Int->List Int
 | [],l=>l
 | d :: ds,l=>w5 m ds (d.Zo m l)
noncomputable def ug(sz:List Int)(m:Nat):List Dd->List Int->List Int->List Rc
 | [],_,_=>[]
 | d :: ds,bx,l=>d.rc sz m bx l :: ug sz m ds (d.upd sz bx) (d.Zo m l)
theorem yt(sz:List Int)(d:Dd):∀(ds:List Dd)(bx:List Int),wA sz (ds++[d]) bx=d.upd sz (wA sz ds bx)
 | [],bx=>rfl
 | x :: ds,bx=>yt sz d ds _
theorem yr(m:Nat)(d:Dd):∀(ds:List Dd)(l:List Int),w5 m (ds++[d]) l=d.Zo m (w5 m ds l)
 | [],l=>rfl
 | x :: ds,l=>yr m d ds _
theorem yq(sz:List Int)(m:Nat)(d:Dd):∀(ds:List Dd)(bx l:List Int),ug sz m (ds++[d]) bx l=ug sz m ds bx l++[d.rc sz m (wA sz ds bx) (w5 m ds l)]
 | [],bx,l=>rfl
 | x :: ds,bx,l=>by
  show _ :: ug sz m (ds++[d]) _ _=_ :: (ug sz m ds _ _++_)
  rw[yq sz m d ds]
  rfl
theorem w6(sz:List Int):∀(ds:List Dd)(bx:List Int),(wA sz ds bx).length=bx.length
 | [],bx=>rfl
 | d :: ds,bx=>by
  show (wA sz ds (d.upd sz bx)).length=_
  rw[w6 sz ds,d.Kc]
theorem vy{m:Nat}:∀(ds:List Dd)(l:List Int),l.length<=m->(w5 m ds l).length<=m
 | [],l,h=>h
 | d :: ds,l,h=>by
  show (w5 m ds (d.Zo m l)).length<=m
  refine vy ds _ ?_
  cases d with
  | send e=>exact Pk h
  | _=>exact h
theorem rE(sz:List Int)(m:Nat):∀(ds:List Dd)(bx l:List Int),(ug sz m ds bx l).length=ds.length
 | [],_,_=>rfl
 | d :: ds,bx,l=>by
  show (ug sz m ds _ _).length+1=ds.length+1
  rw[rE sz m ds]
noncomputable def xN(fp:List Addr)(H:Hp):Hp:=fun b=>if b∈fp then none else H b
theorem pF{fp:List Addr}{H:Hp}{b:Addr}{o:HO}(h:xN fp H b=some o):H b=some o/\b ∉ fp:=by
 unfold xN at h
 split at h
 ·cases h
 ·exact⟨h,by assumption⟩
theorem rZ{fp:List Addr}{H:Hp}{b:Addr}{o:HO}(h:H b=some o)(n:b ∉ fp):xN fp H b=some o:=by
 unfold xN
 rw[if_neg n]
 exact h
theorem MT{fp:List Addr}{H:Hp}{b:Addr}(h:b∈fp):xN fp H b=none:=by
 unfold xN
 rw[if_pos h]
noncomputable def Qe(L:LA):Sp:=fun vs H Q _ => ∃(td tb ts p:Addr)(ds:List Dd)(bx sz l:List Int)(dv:List V)(fp:List Addr)(m:Nat)(G:Hp),vs=[.ref td,.ref tb,.ref ts,.ref p]/\aJ G H/\(∀ b∈fp,G b=none)/\G td=some (.tup dv)/\gU G dv ds/\G tb=some (.tup (bx.map V.int))/\G ts=some (.tup (sz.map V.int))/\L H p fp m l ∧
 (∀ d∈ds,d.ok bx.length)/\ds.length<=8/\bx.length=sz.length/\bx.length<=6/\(∀ z∈sz,0 < z)/\l.length<=m/\m<=12 ∧
 ∀(t tb' pr:Addr)(rv:List V)(fp':List Addr)(H':Hp),L H' p fp' m (w5 m ds l)->bR H H' fp fp'->H' t=some (.tup [.ref tb',.ref pr])->H' tb'=some (.tup ((wA sz ds bx).map V.int))->tb' ∉ fp'->H' pr=some (.lst rv)->H pr=none->jE H' rv (ug sz m ds bx l)->Q (.ref t) H'
end KY
namespace L2
open PySem
section
variable{X:Cx}{es:List Expr}{te:TE}{t:TA}
theorem qCP{o:UnaryOp}{e:Expr}{p:Pos}(ha:PE X (.UnaryOp o e p) te)(hr:PA X es t):PA X (.UnaryOp o e p :: es) (Ke te t):=zA ha hr rfl
theorem qGQ{o:Operator}{a b:Expr}{p:Pos}(ha:PE X (.BinOp a o b p) te)(hr:PA X es t):PA X (.BinOp a o b p :: es) (Ke te t):=zA ha hr rfl
end
end L2
namespace L2
open PySem PySem.Spec PyProof.Rows
section
variable{X:Cx}{a b c:Expr}{ta tb tc:TE}{pos:Pos}
noncomputable def qBX(p p':Int->Int->Bool)(ta tb tc:TE):TE:=fun σ H Q=>ta σ H fun x H1=>tb σ H1 fun y H2 => ∃ i j k,x = .int i/\y = .int j/\tc σ H2 (fun z H3=>z = .int k/\H3=H2)/\Q (.bl (p i j && p' j k)) H2
theorem ZG{op op':CmpOp}{p p':Int->Int->Bool}(ho:jK X (compareOp op) (N8 fun i j=>.bl (p i j)))(ho':jK X (compareOp op') (N8 fun i j=>.bl (p' i j)))(ha:PE X a ta)(hb:PE X b tb)(hc:PE X c tc)
  (hm:lastMarks [op,op'] [b,c]=false:=by with_unfolding_all rfl):PE X (.Compare a [op,op'] [b,c] pos) (qBX p p' ta tb tc):=by
 intro pins s σ H Q I h
 refine Compare_chain (bJ (ha pins s σ H _ I h) fun v s1 ⟨x,H1,I1,r1,q1⟩=>chain_link (bJ (hb pins s1 σ H1 _ I1 q1) fun u s2 ⟨y,H2,I2,r2,q2⟩=>?_)) hm
 obtain⟨i,j,k,rfl,rfl,tq,q⟩:=q2
 refine bJ (ho pins s2 σ H2 _ _ v u (fun z H3=>z = .bl (p i j)/\H3=H2) I2 r1 r2 ⟨i,j,rfl,rfl,rfl,rfl⟩) fun d s3 ⟨z,H3,I3,r3,e1,e2⟩=>?_
 subst e1 e2
 cases r3
 refine wpAny_truthy_bool ?_
 cases e:p i j with
 | false=>
  rw[e,Bool.false_and]at q
  exact ite_ff ⟨.bl false,_,I3,rfl,q⟩
 | true=>
  rw[e,Bool.true_and]at q
  exact ite_tt (chain_last (bJ (hc pins s3 σ _ _ I3 tq) fun w' s4 ⟨z',H4,I4,r4,e3,e4⟩=>by
   subst e3 e4
   exact ho' pins s4 σ _ _ _ u w' Q I4 r2 r4 ⟨j,k,rfl,rfl,q⟩))
theorem Qz{op op':CmpOp}{p p':Int->Int->Bool}(ho:jK X (compareOp op) (N8 fun i j=>.bl (p i j)))(ho':jK X (compareOp op') (N8 fun i j=>.bl (p' i j)))(ha:PE X a ta)(hb:PE X b tb)(hc:PE X c tc)
  (hm:lastMarks [op,op'] [b,c]=false:=by with_unfolding_all rfl):PT X (.Compare a [op,op'] [b,c] pos) (Xx (qBX p p' ta tb tc)):=by
 intro pins s σ H Q I h
 refine isTrue_chain (bJ (ha pins s σ H _ I h) fun v s1 ⟨x,H1,I1,r1,q1⟩=>test_link (bJ (hb pins s1 σ H1 _ I1 q1) fun u s2 ⟨y,H2,I2,r2,q2⟩=>?_)) hm
 obtain⟨i,j,k,rfl,rfl,tq,kk,ek,q⟩:=q2
 cases ek
 refine bJ (ho pins s2 σ H2 _ _ v u (fun z H3=>z = .bl (p i j)/\H3=H2) I2 r1 r2 ⟨i,j,rfl,rfl,rfl,rfl⟩) fun d s3 ⟨z,H3,I3,r3,e1,e2⟩=>?_
 subst e1 e2
 cases r3
 refine wpAny_truthy_bool ?_
 cases e:p i j with
 | false=>
  rw[e,Bool.false_and]at q
  exact ite_ff ⟨_,I3,q⟩
 | true=>
  rw[e,Bool.true_and]at q
  refine ite_tt (test_last (bJ (hc pins s3 σ _ _ I3 tq) fun w' s4 ⟨z',H4,I4,r4,e3,e4⟩=>?_))
  subst e3 e4
  refine bJ (ho' pins s4 σ _ _ _ u w' (fun z H5=>z = .bl (p' j k)/\H5=H4) I4 r2 r4 ⟨j,k,rfl,rfl,rfl,rfl⟩) fun d' s5 ⟨z2,H5,I5,r5,e5,e6⟩=>?_
  subst e5 e6
  cases r5
  exact wpAny_truthy_bool ⟨_,I5,q⟩
end
theorem fV{c:Bool}{A B:Prop}(h1:c=true->A)(h2:c=false->B):if c=true then A else B:=by
 cases c with
 | true=>
  rw[if_pos rfl]
  exact h1 rfl
 | false=>
  rw[if_neg qX]
  exact h2 rfl
section
variable{X:Cx}
theorem tQ:fillsNumberSlot (.type "tuple") "mul" = pure false:=
 PySem.fillsNumberSlot_seq (id := "tuple.__mul__") (r:=some (.builtin "tuple.__rmul__")) F.slot_tuple_mul.lookup (by decide +kernel) F.slot_tuple_rmul.lookup (by decide +kernel)
theorem Bj:seqRepeat? (.type "tuple")=pure (some (.builtin "tuple.__mul__")):=by
 unfold seqRepeat?
 rw[PySem.seqSlot_of (T := "tuple") (name := "__mul__") (id := "tuple.__mul__") F.slot_tuple_mul.lookup (by decide +kernel),PySem.seqSlot_of (T := "tuple") (name := "__rmul__") (id := "tuple.__rmul__") F.slot_tuple_rmul.lookup (by decide +kernel)]
 rfl
theorem Ih(a:Int)(t:Tok)(l:Addr)(items:Array Value)(n:Nat)(dd:Option Addr)(sl:Array (Option Value)) :
  Meets (Builtin.«int.__rmul__» ⟨[.int a t,.ref l],[]⟩) (fun _ R s=>s.heap.get? l=some { cls:=.type "tuple",dict:=dd,data:=.seq items n,slots:=sl }/\R (.ok (.ret Value.notImplemented)) s):=
 .of_wp fun prog w A R s h=>by obtain⟨hp,g,d,tk,os⟩:=s;obtain⟨hl,h⟩:=h;wp_walk;exact⟨_,rfl,h⟩
theorem QK(l:Addr)(items:Array Value)(n:Nat)(dd:Option Addr)(sl:Array (Option Value))(x:Int)(u:Tok)(hx:x=1) :
  Meets (Builtin.«tuple.__mul__» ⟨[.ref l,.int x u],[]⟩) (fun _ R s=>s.heap.get? l=some { cls:=.type "tuple",dict:=dd,data:=.seq items n,slots:=sl }/\R (.ok (.ret (Value.ref l))) { s with heap:=s.heap,toks:=s.toks }):=
 .of_wp fun prog w A R s h=>by
  subst hx
  obtain⟨hp,g,d,tk,os⟩:=s;obtain⟨hl,h⟩:=h
  have f1:=AutoSeq1.idx_int
  wp_walk using wpAny_loadPart' hl
  exact⟨_,rfl,h⟩
theorem QJ(l:Addr)(items:Array Value)(n:Nat)(dd:Option Addr)(sl:Array (Option Value))(x:Int)(u:Tok)(h2:2<=x)(hc:¬ items.isEmpty=true)(hz:items.size * x<=(sizeLine:Int))(hf:((List.replicate x.toNat items).foldl (· ++ ·) #[]).size<=sizeLine) :
  Meets (Builtin.«tuple.__mul__» ⟨[.ref l,.int x u],[]⟩) (fun _ R s=>s.heap.get? l=some { cls:=.type "tuple",dict:=dd,data:=.seq items n,slots:=sl }/\R (.ok (.ret (Value.ref s.heap.objs.size))) { s with heap:=s.heap.push { cls:=Value.type "tuple",data:=Data.seq ((List.replicate x.toNat items).foldl (· ++ ·) #[]) },toks:=s.toks }):=
 .of_wp fun prog w A R s h=>by
  obtain⟨hp,g,d,tk,os⟩:=s;obtain⟨hl,h⟩:=h
  have f1:=AutoSeq1.idx_int
  have hp0:1<=items.size:=by
   refine Nat.pos_of_ne_zero fun z=>hc ?_
   rw[Array.isEmpty_iff]
   exact Array.eq_empty_of_size_eq_zero z
  have hxs:x<=(sizeLine:Int):=by
   have:(1:Int) * x<=items.size * x:=Int.mul_le_mul_of_nonneg_right (by lia) (by lia)
   lia
  have e1:(sizeLine:Int) < 2 ^ 62:=by decide
  have c1:¬ (decide (x < -(2 ^ 63)) || decide (x ≥ 2 ^ 63))=true:=by
   rw[decide_eq_false (by lia),decide_eq_false (by lia)]
   decide
  have c2:¬ (items.isEmpty || x == 1)=true:=by
   intro z
   rcases Bool.or_eq_true_iff.mp z with z | z
   ·exact hc z
   ·have:=eq_of_beq z
    lia
  have c3:¬ (decide (x<=0) || items.isEmpty)=true:=by
   intro z
   rcases Bool.or_eq_true_iff.mp z with z | z
   ·have:=of_decide_eq_true z
    lia
   ·exact hc z
  have e2:(sizeLine:Int) < (2 ^ 63 - 1) / 8:=by decide
  have c4:¬ ((items.size:Int) * x > (2 ^ 63 - 1) / 8):=by lia
  have c5:¬ Builtin.Tuple.tupleTooMany ((items.size:Int) * x)=true:=by
   unfold Builtin.Tuple.tupleTooMany
   intro z
   have:=of_decide_eq_true z
   lia
  wp_walk using wpAny_loadPart' hl
  refine wpAny_ite_false (decide_eq_false c1) ?_
  wp_walk using wpAny_loadPart' hl
  refine wpAny_ite_false (decide_eq_false c2) ?_
  wp_walk using wpAny_loadPart' hl
  refine wpAny_ite_false (decide_eq_false c3) ?_
  wp_walk using wpAny_loadPart' hl
  refine wpAny_ite_false (decide_eq_false c4) ?_
  wp_walk using wpAny_loadPart' hl
  exact⟨_,rfl,h⟩
noncomputable def qCJ(K:bO):R2:=fun x y H Q => ∃ a k xs,x = .ref a/\y = .int k/\aL K H a xs/\xs ≠ []/\1<=k/\xs.length * k<=(sizeLine:Int)/\(k=1->Q (.ref a) H)/\(2<=k->∀ p,H p=none->Q (.ref p) (upd H p (.tup (List.replicate k.toNat xs).flatten)))
theorem W7:jK X (binaryOp .Mult) (qCJ X.K):=by
 intro pins s σ H x y v u Q I rx ry h
 obtain⟨a,k,xs,rfl,rfl,ha,hne,hk,hz,q1,q2⟩:=h
 cases rx
 obtain⟨t,rfl⟩:=ry
 obtain⟨its,r1,p1,_⟩:=I.tuple ha
 have hl:=r1.length
 have hni:its ≠ []:=fun z=>hne (r1.rJ.mp z)
 obtain⟨⟨cls,dd,data,sl⟩,ho,hc,n,hd⟩:=id p1
 simp only at hc hd
 subst hc hd
 have f0:∀ m:Nat,List.foldl (fun x1 x2=>x1++x2) #[] (List.replicate m its.toArray)=(List.replicate m its).flatten.toArray:=fun m=>by
  have:=foldl_rep its m []
  rw[List.nil_append]at this
  exact this
 have hmul:(List.replicate k.toNat xs).flatten.length<=sizeLine:=by
  rw[len_rep]
  have e:((k.toNat * xs.length:Nat):Int)=xs.length * k:=by
   rw[Int.natCast_mul,Int.toNat_of_nonneg (by lia),Int.mul_comm]
  lia
 refine wpAny_binaryOp_repeat_ref (T := "tuple") (U := "int") (by decide) ⟨_,ho,rfl⟩ (fun s'=>typeIs_int s' k t) tQ F.fills_int_mul F.slot_int_rmul Bj F.slot_int_index.lookup
  (call_meets F.slot_int_rmul (typeIs_int s k t) F.entry_int_rmul (F.args_int_rmul_2 _ _) (Ih k t a its.toArray n dd sl) ⟨ho,rfl,⟨_,ho,rfl⟩,?_⟩)
 by_cases h1:k=1
 ·exact call_meets F.slot_tuple_mul ⟨_,ho,rfl⟩ F.entry_tuple_mul (F.args_tuple_mul_2 _ _) (QK a its.toArray n dd sl k t h1) ⟨ho,⟨.ref a,H,I,rfl,q1 h1⟩⟩
 ·have h2:2<=k:=by lia
  refine call_meets F.slot_tuple_mul ⟨_,ho,rfl⟩ F.entry_tuple_mul (F.args_tuple_mul_2 _ _) (QJ a its.toArray n dd sl k t h2 (by simpa using hni) (by rw[List.size_toArray,<-hl];exact hz) ?_) ⟨ho,?_⟩
  ·rw[f0,qd,len_rep,<-hl,<-len_rep]
   exact hmul
  ·rw[f0]
   refine⟨.ref s.heap.objs.size,_,I.laid (t':=s.toks) (o:=.tup (List.replicate k.toNat xs).flatten) (fun b ob q=>jJ _ q) (bT _) ?_,rfl,q2 h2 _ (I.hok.fresh (bT _))⟩
   exact⟨hmul,_,r1.rep k.toNat,IsTup.new _ _⟩
end
end L2
namespace PySem
structure jD(prog:Program)(w:World)(K:Type) [DecidableEq K] (d:Nat) where
 has:Nat->Heap->K->Value->Prop
 hsh:K->Int
 Js:K->Nat
 one:∀ {i:Nat} {h:Heap} {v:Value} {x y:K},has i h x v->has i h y v->x=y
 stay:∀ {i:Nat} {h h':Heap} {v:Value} {x:K},has i h x v->(∀ a o its n,h.get? a=some o->o.data = .seq its n->h'.get? a=some o)->has i h' x v
 hashed:∀ {i:Nat} {A:Around} {E:Value->Shared->Prop} {s:Shared} {x:K} {v:Value} {Q:Int->Shared->Prop},A.units+d < cLine->has i s.heap x v->Q (hsh x) { s with toks:=s.toks+Js x }->wpAny (model prog w) A (pyHash v) Q E s
 same:∀ {i:Nat} {A:Around} {E:Value->Shared->Prop} {s:Shared} {x y:K} {u v:Value} {Q:Bool->Shared->Prop},A.units+d < cLine->has i s.heap x u->has i s.heap y v->Q (decide (x=y)) s->wpAny (model prog w) A (eqBool u v) Q E s
 still:∀ {i:Nat} {A:Around} {E:Value->Shared->Prop} {s:Shared} {x:K} {v:Value} {Q:Bool->Shared->Prop} (n:Nat),d<=n->has i s.heap x v->Q true s->wpAny (model prog w) A (eqIsQuiet n v) Q E s
noncomputable def jD.leaf{prog:Program}{w:World}{K:Type} [DecidableEq K] (knd:KeyKind prog w K):jD prog w K 0 where
 has:=fun _ _ k v=>knd.is k v=true
 hsh:=knd.hash
 Js:=fun _=>1
 one:=fun hx hy=>knd.inj _ _ _ hx hy
 stay:=fun hx _=>hx
 hashed:=fun _ hx q=>knd.pyHash hx q
 same:=fun _ hx hy q=>knd.eqBool hx hy q
 still:=fun n _ hx q=>by
  rw[eqIsQuiet_byValue n (knd.byValue _ _ hx)]
  exact wpAny_pure q
noncomputable def jD.two{prog:Program}{w:World}{K L:Type} [DecidableEq K] [DecidableEq L] {d:Nat} (F:jD prog w K d) (G:jD prog w L d):jD prog w (K ⊕ L) d where
 has:=fun i h k v=>match k with
  | .inl x=>i=0/\F.has 0 h x v
  | .inr y=>i ≠ 0/\G.has i h y v
 hsh:=fun k=>match k with
  | .inl x=>F.hsh x
  | .inr y=>G.hsh y
 Js:=fun k=>match k with
  | .inl x=>F.Js x
  | .inr y=>G.Js y
 one:=by
  rintro i h v (x | x) (y | y) ⟨e1,hx⟩ ⟨e2,hy⟩
  ·rw[F.one hx hy]
  ·exact absurd e1 e2
  ·exact absurd e2 e1
  ·rw[G.one hx hy]
 stay:=by
  rintro i h h' v (x | x) ⟨e1,hx⟩ k
  ·exact⟨e1,F.stay hx k⟩
  ·exact⟨e1,G.stay hx k⟩
 hashed:=by
  rintro i A E s (x | x) v Q hu ⟨e1,hx⟩ q
  ·exact F.hashed hu hx q
  ·exact G.hashed hu hx q
 same:=by
  rintro i A E s (x | x) (y | y) u v Q hu ⟨e1,hx⟩ ⟨e2,hy⟩ q
  ·refine F.same hu hx hy ?_
   rw[show decide (x=y)=decide ((Sum.inl x:K ⊕ L)=Sum.inl y) from decide_eq_decide.mpr ⟨fun z=>by rw[z],fun z=>Sum.inl.inj z⟩]
   exact q
  ·exact absurd e1 e2
  ·exact absurd e2 e1
  ·refine G.same hu hx hy ?_
   rw[show decide (x=y)=decide ((Sum.inr x:K ⊕ L)=Sum.inr y) from decide_eq_decide.mpr ⟨fun z=>by rw[z],fun z=>Sum.inr.inj z⟩]
   exact q
 still:=by
  rintro i A E s (x | x) v Q n hn ⟨e1,hx⟩ q
  ·exact F.still n hn hx q
  ·exact G.still n hn hx q
noncomputable def jD.up{prog:Program}{w:World}{K:Type} [DecidableEq K] {d:Nat} (F:jD prog w K d) (e:Nat) (le:d<=e):jD prog w K e where
 has:=F.has
 hsh:=F.hsh
 Js:=F.Js
 one:=F.one
 stay:=F.stay
 hashed:=fun hu hx q=>F.hashed (by lia) hx q
 same:=fun hu hx hy q=>F.same (by lia) hx hy q
 still:=fun n hn hx q=>F.still n (by lia) hx q
section
variable{prog:Program}{w:World}{K:Type} [DecidableEq K] {d:Nat} (F:jD prog w K d)
inductive Hg(h:Heap):Nat->List K->List Value->Prop
 | nil {i:Nat}:Hg h i [] []
 | cons {i:Nat} {k:K} {v:Value} {ks:List K} {vs:List Value}:F.has i h k v->Hg h (i+1) ks vs->Hg h i (k :: ks) (v :: vs)
noncomputable def uq(h:Heap)(ks:List K)(v:Value):Prop:=∃ a o its n,v = .ref a/\h.get? a=some o/\o.cls = .type "tuple" /\ o.data = .seq its n/\Hg F h 0 ks its.toList
variable {F}
theorem Hg.one{h:Heap}{i:Nat}{x y:List K}{vs:List Value}(hx:Hg F h i x vs)(hy:Hg F h i y vs):x=y:=by
 induction hx generalizing y with
 | nil=>
  cases hy
  rfl
 | cons a _ ih=>
  cases hy with
  | cons b t=>rw[F.one a b,ih t]
theorem Hg.stay{h h':Heap}{i:Nat}{x:List K}{vs:List Value}(hx:Hg F h i x vs)(k:∀ a o its n,h.get? a=some o->o.data = .seq its n->h'.get? a=some o):Hg F h' i x vs:=by
 induction hx with
 | nil=>exact .nil
 | cons a _ ih=>exact .cons (F.stay a k) ih
noncomputable def qAA(F:jD prog w K d)(ks:List K):Int:=reduceHash (Builtin.Tuple.tupleHashOf (ks.map F.hsh))
noncomputable def qAO(F:jD prog w K d)(ks:List K):Nat:=(ks.map F.Js).sum+1
variable{A:Around}{E:Value->Shared->Prop}{s:Shared}
theorem Wx{ks:List K}{v:Value}{Q:Int->Shared->Prop}(hu:A.units+(d+1) < cLine)(hk:uq F s.heap ks v)(h:Q (qAA F ks) { s with toks:=s.toks+qAO F ks }):wpAny (model prog w) A (pyHash v) Q E s:=by
 obtain⟨a,o,its,n,rfl,ho,oc,od,hi⟩:=hk
 have ty:s.TypeIs (.ref a) "tuple" := ⟨o,ho,oc⟩
 unfold pyHash
 (first | unfold pyHashByItsType | skip)
 (first | refine wpAny_bind (wpAny_cRoomFor_or (.inr (by lia)) ?_) | skip)
 refine wpAny_bind (wpAny_specialOf ty PySem.F.slot_tuple_hash.lookup ?_)
 show wpAny _ _ (if (some (Value.builtin "tuple.__hash__") == some Value.none)=true then _ else _) Q E s
 rw[if_neg (by rw[beq_builtin_none];simp)]
 refine wpAny_bind (wpAny_specialOf ty PySem.F.slot_tuple_hash.lookup ?_)
 show wpAny _ _ (callSpecialIfBoundUnlessNone? (Value.ref a) "__hash__" _ >>= _) Q E s
 refine wpAny_bind (wpAny_callSpecialIfBoundUnlessNone?_slot ty PySem.F.slot_tuple_hash (wpAny_call_entry PySem.F.slot_tuple_hash ty PySem.F.entry_tuple_hash ?_ (PySem.F.args_tuple_hash_1 _)))
 show wpAny _ _ (Builtin.Tuple.tupleItemsOf (Value.ref a) >>= _) _ _ s
 refine wpAny_bind (wpAny_tupleItemsOf ho od (wpAny_bind ?_))
 rw[<-Array.forIn_toList]
 refine wpAny_forIn_list _
  (fun rest (b:Array Int) s' => ∃ i dn left,ks=dn++left/\Hg F s.heap i left rest/\b.toList=dn.map F.hsh/\s' = { s with toks:=s.toks+(dn.map F.Js).sum }) _ ?_ ?_ _ _ ⟨0,[],ks,rfl,hi,rfl,rfl⟩
 ·rintro x rest b s' ⟨i,dn,left,rfl,hl,hb,rfl⟩
  cases hl with
  | @cons _ k _ ks' _ h1 hl'=>
   refine wpAny_bind (F.hashed (s:={ s with toks:=s.toks+(dn.map F.Js).sum }) (by show A.units+1+d < cLine;lia) h1 ?_)
   (first
    | exact wpAny_pure ⟨i+1,dn++[k],ks',by simp,hl',by simp [hb],by simp [Nat.add_assoc]⟩
    | exact wpAny_bind (wpAny_pure (wpAny_pure ⟨i+1,dn++[k],ks',by simp,hl',by simp [hb],by simp [Nat.add_assoc]⟩)))
 ·rintro b s' ⟨i,dn,left,rfl,hl,hb,rfl⟩
  cases hl
  rw[gF]at h
  show wpAny _ _ (retInt (Builtin.Tuple.tupleHashOf b.toList)) _ _ _
  rw[hb]
  refine wpAny_ret_mkInt ?_
  show wpAny _ _ (if (decide (-(2:Int) ^ 63<=Builtin.Tuple.tupleHashOf (dn.map F.hsh)) && decide (Builtin.Tuple.tupleHashOf (dn.map F.hsh) < 2 ^ 63))=true then _ else _) Q E _
  unfold qAA reduceHash qAO at h
  by_cases hr:(decide (-(2:Int) ^ 63<=Builtin.Tuple.tupleHashOf (dn.map F.hsh)) && decide (Builtin.Tuple.tupleHashOf (dn.map F.hsh) < 2 ^ 63))=true
  ·rw[if_pos hr]at h ⊢
   exact wpAny_pure (by simpa [Nat.add_assoc] using h)
  ·rw[if_neg hr]at h ⊢
   exact wpAny_bind (wpAny_rule (wpAny_pure (by simpa [Nat.add_assoc] using h)))
theorem Gk{x y:List K}{a b:Addr}{P:Fin->Shared->Prop}(hu:A.units+d < cLine)(hx:uq F s.heap x (.ref a))(hy:uq F s.heap y (.ref b))(h:P (.done (.ret (.bool (decide (x=y))))) s):wpAny (model prog w) A (Builtin.«tuple.__eq__» ⟨[.ref a,.ref b],[]⟩) P E s:=by
 obtain⟨a',oa,xs,na,ea,hoa,_,hda,hia⟩:=hx
 obtain⟨b',ob,ys,nb,eb,hob,hcb,hdb,hib⟩:=hy
 cases ea
 cases eb
 have tb:s.TypeIs (.ref b) "tuple" := ⟨ob,hob,hcb⟩
 show wpAny _ _ (isInstance (Value.ref b) (.type "tuple") >>= _) _ _ s
 refine wpAny_bind (wpAny_isInstance tb isSubtype_tuple_tuple ?_)
 simp only[Bool.not_true,Bool.false_eq_true,if_false]
 refine wpAny_bind (wpAny_tupleItemsOf hoa hda (wpAny_bind (wpAny_tupleItemsOf hob hdb (wpAny_bind ?_))))
 refine wpAny_forIn_list _
  (fun rest r s'=>r.1=none/\s'=s/\∃ i x' y' xs' ys',rest=List.zip xs' ys'/\Hg F s.heap i x' xs'/\Hg F s.heap i y' ys'/\decide (x'=y')=decide (x=y)/\(xs'.length == ys'.length)=(xs.size == ys.size))
  _ ?_ ?_ _ _ ⟨rfl,rfl,0,x,y,xs.toList,ys.toList,rfl,hia,hib,rfl,by simp⟩
 ·rintro⟨u,v⟩ rest r s' ⟨hr,rfl,i,x',y',xs',ys',hz,hx',hy',hdec,hlen⟩
  cases hx' with
  | nil=>simp at hz
  | @cons _ k1 u' x'' xs'' h1 hx''=>
   cases hy' with
   | nil=>simp at hz
   | @cons _ k2 v' y'' ys'' h2 hy''=>
    simp only[List.zip_cons_cons,List.cons.injEq,Prod.mk.injEq]at hz
    obtain⟨⟨rfl,rfl⟩,rfl⟩:=hz
    refine wpAny_bind (F.same (x:=k1) (y:=k2) hu h1 h2 ?_)
    by_cases hk:k1=k2
    ·subst hk
     rw[decide_eq_true rfl]
     simp only[Bool.not_true,Bool.false_eq_true,if_false]
     refine wpAny_pure ⟨rfl,rfl,i+1,x'',y'',xs'',ys'',rfl,hx'',hy'',?_,by simpa using hlen⟩
     rw[<-hdec]
     by_cases hxy:x''=y''
     ·simp [hxy]
     ·simp [hxy]
    ·rw[decide_eq_false hk]
     simp only[Bool.not_false,if_true]
     have hf:decide (x=y)=false:=by
      rw[<-hdec]
      simp [hk]
     rw[hf]at h
     exact wpAny_bind (wpAny_pure (wpAny_pure (wpAny_pure h)))
 ·rintro⟨r1,r2⟩ s' ⟨hr,rfl,i,x',y',xs',ys',hz,hx',hy',hdec,hlen⟩
  simp only at hr
  subst hr
  refine wpAny_pure ?_
  have fin:(xs.size == ys.size)=decide (x=y):=by
   rw[<-hdec,<-hlen]
   cases hx' with
   | nil=>
    cases hy' with
    | nil=>simp
    | cons _ _=>simp
   | cons _ _=>
    cases hy' with
    | nil=>simp
    | cons _ _=>simp at hz
  show P (.done (.ret (.bool (xs.size == ys.size)))) s'
  rw[fin]
  exact h
theorem qC7{x y:List K}{u v:Value}{Q:Bool->Shared->Prop}(hu:A.units+(d+1) < cLine)(hx:uq F s.heap x u)(hy:uq F s.heap y v)(h:Q (decide (x=y)) s):wpAny (model prog w) A (eqBool u v) Q E s:=by
 obtain⟨a,oa,xs,na,rfl,hoa,hca,hda,hia⟩:=id hx
 obtain⟨b,ob,ys,nb,rfl,hob,hcb,hdb,hib⟩:=id hy
 have ta:s.TypeIs (.ref a) "tuple" := ⟨oa,hoa,hca⟩
 have tb:s.TypeIs (.ref b) "tuple" := ⟨ob,hob,hcb⟩
 unfold eqBool
 (try with_reducible refine wpAny_holding ?_)
 show wpAny _ _ (if (Value.ref a == Value.ref b)=true then _ else _) Q E s
 by_cases hab:(Value.ref a == Value.ref b)=true
 ·rw[if_pos hab]
  have e:a=b:=by
   have:=eq_of_beq hab
   injection this
  subst e
  rw[hoa]at hob
  cases hob
  rw[hda]at hdb
  cases hdb
  obtain rfl:=hia.one hib
  exact wpAny_bind (wpAny_rule (wpAny_pure (by simpa using h)))
 ·rw[if_neg hab]
  exact wpAny_bind (wpAny_richCompare_same_room (op:=.Eq) ta tb PySem.F.slot_tuple_eq
   (wpAny_call_entry PySem.F.slot_tuple_eq ta PySem.F.entry_tuple_eq (Gk (by show A.units+1+d < cLine;lia) hx hy ⟨_,rfl,(fun e=>nomatch e),wpAny_truthy_bool h⟩) (PySem.F.args_tuple_eq_2 _ _)) (by lia))
theorem Yx{ks:List K}{v:Value}{Q:Bool->Shared->Prop}(n:Nat)(hn:d+1<=n)(hk:uq F s.heap ks v)(h:Q true s):wpAny (model prog w) A (eqIsQuiet n v) Q E s:=by
 obtain⟨a,o,its,m,rfl,ho,hc,hd,hi⟩:=hk
 have ty:s.TypeIs (.ref a) "tuple" := ⟨o,ho,hc⟩
 obtain⟨n,rfl⟩:∃ k,n=k+1:=⟨n - 1,by lia⟩
 unfold eqIsQuiet
 refine wpAny_bind (wpAny_specialOf ty PySem.F.slot_tuple_eq.lookup ?_)
 show wpAny _ _ (isInstance (Value.ref a) (.type "tuple") >>= _) _ _ s
 refine wpAny_bind (wpAny_isInstance ty isSubtype_tuple_tuple ?_)
 simp only[Bool.not_true,Bool.false_eq_true,if_false]
 refine wpAny_bind (wpAny_seqItems ho hd (wpAny_bind ?_))
 show wpAny _ _ (forIn its _ _) _ _ s
 rw[<-Array.forIn_toList]
 refine wpAny_forIn_list _ (fun rest r s'=>r.1=none/\s'=s/\∃ i left,Hg F s.heap i left rest) _ ?_ ?_ _ _ ⟨rfl,rfl,0,ks,hi⟩
 ·rintro v rest r s' ⟨hr,rfl,i,left,hl⟩
  cases hl with
  | @cons _ k _ ks' _ h1 hl'=>
   refine wpAny_bind (F.still n (by lia) h1 ?_)
   simp only[Bool.not_true,Bool.false_eq_true,if_false]
   exact wpAny_pure ⟨rfl,rfl,i+1,ks',hl'⟩
 ·rintro⟨r1,r2⟩ s' ⟨hr,rfl,_⟩
  simp only at hr
  subst hr
  exact wpAny_pure h
theorem uq.one{h:Heap}{v:Value}{x y:List K}(hx:uq F h x v)(hy:uq F h y v):x=y:=by
 obtain⟨a,o,its,n,rfl,ho,_,hd,hi⟩:=hx
 obtain⟨a',o',its',n',e,ho',_,hd',hi'⟩:=hy
 cases e
 rw[ho]at ho'
 cases ho'
 rw[hd]at hd'
 cases hd'
 exact hi.one hi'
noncomputable def jD.tup(F:jD prog w K d):jD prog w (List K) (d+1) where
 has:=fun _ h ks v=>uq F h ks v
 hsh:=qAA F
 Js:=qAO F
 one:=fun hx hy=>hx.one hy
 stay:=fun hx k=>by
  obtain⟨a,o,its,n,e,ho,hc,hd,hi⟩:=hx
  exact⟨a,o,its,n,e,k _ _ _ _ ho hd,hc,hd,hi.stay k⟩
 hashed:=fun hu hx q=>Wx hu hx q
 same:=fun hu hx hy q=>qC7 hu hx hy q
 still:=fun n hn hx q=>Yx n hn hx q
noncomputable def jD.heap(F:jD prog w K d)(le:d<=8):HeapKind prog w K where
 is:=fun h k a=>F.has 0 h k (.ref a)
 hash:=F.hsh
 draws:=F.Js
 room:=fun A=>A.units+d < cLine
 inj:=fun hx hy=>F.one hx hy
 keeps:=fun hx ho hd hs=>F.stay hx fun a o its n ha hs'=>by
  refine (hs.2 a ?_).trans ha
  rintro rfl
  rw[ha]at ho
  cases ho
  rw[hs']at hd
  exact nomatch hd
 pyHash:=fun hu hx q=>F.hashed hu hx q
 eqBool:=fun hu hx hy q=>F.same hu hx hy q
 quiet:=fun hx q=>F.still 8 le hx q
end
end PySem
namespace L2
open PySem PySem.Spec PyProof.Rows
structure bz(K:Type) [DecidableEq K] (d:Nat) where
 inn:Nat->Hp->K->V->Prop
 mono:∀ {i:Nat} {H H':Hp} {k:K} {v:V},inn i H k v->(∀ b xs,H b=some (.tup xs)->H' b=some (.tup xs))->inn i H' k v
 fam:∀(P:Program)(w:World),jD P w K d
 ok:∀ {P:Program} {w:World} {H:Hp} {h:Heap} {i:Nat} {k:K} {v:V} {u:Value},jL P w H h->inn i H k v->RelV v u->(fam P w).has i h k u
noncomputable def bz.leaf:bz Key 0 where
 inn:=fun _ _ k v=>v=kV k
 mono:=fun x _=>x
 fam:=fun P w=>jD.leaf (bj P w)
 ok:=fun _ x r=>by
  subst x
  exact Gf r
section
variable{K L:Type} [DecidableEq K] [DecidableEq L] {d:Nat}
noncomputable def bz.up(F:bz K d)(e:Nat)(le:d<=e):bz K e where
 inn:=F.inn
 mono:=F.mono
 fam:=fun P w=>(F.fam P w).up e le
 ok:=fun a b c=>F.ok a b c
noncomputable def bz.two(F:bz K d)(G:bz L d):bz (K ⊕ L) d where
 inn:=fun i H k v=>match k with
  | .inl x=>i=0/\F.inn 0 H x v
  | .inr y=>i ≠ 0/\G.inn i H y v
 mono:=by
  rintro i H H' (k | k) v ⟨e,x⟩ h
  ·exact⟨e,F.mono x h⟩
  ·exact⟨e,G.mono x h⟩
 fam:=fun P w=>(F.fam P w).two (G.fam P w)
 ok:=by
  rintro P w H h i (k | k) v u hk ⟨e,x⟩ r
  ·exact⟨e,F.ok hk x r⟩
  ·exact⟨e,G.ok hk x r⟩
inductive ur(F:bz K d)(H:Hp):Nat->List K->List V->Prop
 | nil {i:Nat}:ur F H i [] []
 | cons {i:Nat} {k:K} {v:V} {ks:List K} {vs:List V}:F.inn i H k v->ur F H (i+1) ks vs->ur F H i (k :: ks) (v :: vs)
theorem ur.mono{F:bz K d}{H H':Hp}{i:Nat}{ks:List K}{vs:List V}(x:ur F H i ks vs)(h:∀ b xs,H b=some (.tup xs)->H' b=some (.tup xs)):ur F H' i ks vs:=by
 induction x with
 | nil=>exact .nil
 | cons a _ ih=>exact .cons (F.mono a h) ih
theorem ur.ok{F:bz K d}{P:Program}{w:World}{H:Hp}{h:Heap}(hk:jL P w H h){i:Nat}{ks:List K}{vs:List V}(x:ur F H i ks vs):∀ {us:List Value},Vals vs us->PySem.Hg (F.fam P w) h i ks us:=by
 induction x with
 | nil=>
  intro us r
  cases r
  exact .nil
 | cons a _ ih=>
  intro us r
  cases r with
  | cons r1 r2=>exact .cons (F.ok hk a r1) (ih r2)
noncomputable def bz.tup(F:bz K d):bz (List K) (d+1) where
 inn:=fun _ H ks v => ∃(a:Addr)(vs:List V),v = .ref a/\H a=some (.tup vs)/\ur F H 0 ks vs
 mono:=by
  rintro i H H' k v ⟨a,vs,e,h1,h2⟩ h
  exact⟨a,vs,e,h _ _ h1,h2.mono h⟩
 fam:=fun P w=>(F.fam P w).tup
 ok:=by
  rintro P w H h i k v u hk ⟨a,vs,rfl,h1,h2⟩ r
  cases (show u=Value.ref a from r)
  obtain⟨_,its,rv,o,g1,g2,n,g3⟩:=(show bN P w H h a (.tup vs) from hk a _ h1)
  exact⟨a,o,its.toArray,n,rfl,g1,g2,g3,by simpa using h2.ok hk rv⟩
noncomputable def VJ(P:Program)(w:World)(F:bz K d)(le:d<=8)(a:Addr)(xs:List (K × Addr × V))(h:Heap):Prop:=
 xs.length<=sizeLine/\(a == sysModules)=false/\∃ ys:List (K × Addr × Value),Paired (fun (p:K × Addr × V) (q:K × Addr × Value)=>p.1=q.1/\p.2.1=q.2.1/\RelV p.2.2 q.2.2) xs ys ∧
  ∃ o es ep,h.get? a=some o/\o.ExactDict/\o.data = .dict es ep/\es.toList=ys.map (entryOfKey ((F.fam P w).heap le))/\(ys.map (·.1)).Nodup
noncomputable def DN(P:Program)(w:World)(F:bz K d)(le:d<=8)(H:Hp)(a:Addr)(kvs:List (K × V)):Prop:=
 ∃ xs:List (K × Addr × V),kvs=xs.map (fun x=>(x.1,x.2.2))/\H a=some (.ext (VJ P w F le a xs))/\∀ x∈xs,F.inn 0 H x.1 (.ref x.2.1)
theorem DN.mono{P:Program}{w:World}{F:bz K d}{le:d<=8}{H H':Hp}{a:Addr}{kvs:List (K × V)}(x:DN P w F le H a kvs)(h:∀ b xs,H b=some (.tup xs)->H' b=some (.tup xs))(e:H' a=H a):DN P w F le H' a kvs:=by
 obtain⟨xs,h1,h2,h3⟩:=x
 exact⟨xs,h1,by rw[e];exact h2,fun y hy=>F.mono (h3 y hy) h⟩
abbrev Xj(p:K × Addr × V)(q:K × Addr × Value):Prop:=p.1=q.1/\p.2.1=q.2.1/\RelV p.2.2 q.2.2
theorem wD{xs:List (K × Addr × V)}{ys:List (K × Addr × Value)}(r:Paired Xj xs ys)(k:K):(dD (xs.map fun x=>(x.1,x.2.2)) k=none/\atKey ys k=none) ∨ ∃ v p,dD (xs.map fun x=>(x.1,x.2.2)) k=some v/\atKey ys k=some p/\RelV v p.2:=by
 induction r with
 | nil=>exact .inl ⟨rfl,rfl⟩
 | @cons p q ps qs h _ ih=>
  obtain⟨e1,e2,e3⟩:=h
  by_cases e:p.1=k
  ·refine .inr ⟨p.2.2,q.2,c7 (p:=(p.1,p.2.2)) e,?_,e3⟩
   unfold atKey
   rw[List.find?_cons,show decide (q.1=k)=true from decide_eq_true (by rw[<-e1];exact e)]
   rfl
  ·have e':atKey (q :: qs) k=atKey qs k:=by
    unfold atKey
    rw[List.find?_cons,show decide (q.1=k)=false from decide_eq_false (by rw[<-e1];exact e)]
   rw[List.map_cons,cA (p:=(p.1,p.2.2)) e,e']
   exact ih
theorem DN.at{P:Program}{w:World}{F:bz K d}{le:d<=8}{H:Hp}{h:Heap}{a:Addr}{kvs:List (K × V)}(x:DN P w F le H a kvs)(hk:jL P w H h) :
  ∃(xs:List (K × Addr × V))(ys:List (K × Addr × Value)),kvs=xs.map (fun x=>(x.1,x.2.2))/\H a=some (.ext (VJ P w F le a xs))/\(∀ x∈xs,F.inn 0 H x.1 (.ref x.2.1))/\xs.length<=sizeLine/\(a == sysModules)=false/\Paired Xj xs ys/\h.DictOfH ((F.fam P w).heap le) a ys:=by
 obtain⟨xs,h1,h2,h3⟩:=x
 obtain⟨⟨z,y,ys,r,o,es,ep,g1,g2,g3,g4,g5⟩,_⟩:=(show bN P w H h a (.ext (VJ P w F le a xs)) from hk a _ h2)
 refine⟨xs,ys,h1,h2,h3,z,y,r,o,es,ep,g1,g2,g3,g4,?_,g5⟩
 have all:∀ {l:List (K × Addr × V)} {m:List (K × Addr × Value)},Paired Xj l m->(∀ x∈l,F.inn 0 H x.1 (.ref x.2.1))->∀ x∈m,((F.fam P w).heap le).is h x.1 x.2.1:=by
  intro l m q
  induction q with
  | nil=>intro _ x hx;exact nomatch hx
  | @cons p q ps qs hq t ih=>
   intro hl x hx
   rcases bY.mp hx with e | hx
   ·subst e
    have:=F.ok hk (hl p HX) (show RelV (.ref p.2.1) (Value.ref p.2.1) from rfl)
    rw[hq.1,hq.2.1]at this
    exact this
   ·exact ih (fun y hy=>hl y (Hh _ hy)) x hx
 exact all r h3
theorem U7{P:Program}{w:World}{F:bz K d}{le:d<=8}{a:Addr}{xs:List (K × Addr × V)}:∀ h1 h2:Heap,VJ P w F le a xs h1->(∀ o,h1.get? a=some o->h2.get? a=some o)->VJ P w F le a xs h2:=by
 rintro h1 h2 ⟨z,y,ys,r,o,es,ep,g1,g⟩ k
 exact⟨z,y,ys,r,o,es,ep,k _ g1,g⟩
theorem U6{P:Program}{w:World}{F:bz K d}{le:d<=8}{H:Hp}{h:Heap}{a:Addr}{xs:List (K × Addr × V)}{ys:List (K × Addr × Value)}(z:xs.length<=sizeLine)(y:(a == sysModules)=false)(r:Paired Xj xs ys)(dd:h.DictOfH ((F.fam P w).heap le) a ys):bN P w H h a (.ext (VJ P w F le a xs)):=by
 obtain⟨o,es,ep,g1,g2,g3,g4,_,g5⟩:=dd
 exact⟨⟨z,y,ys,r,o,es,ep,g1,g2,g3,g4,g5⟩,⟨o,g1⟩,U7⟩
end
section
variable{X:Cx}{K:Type} [DecidableEq K] {d:Nat} {F:bz K d} {le:d<=8}
noncomputable def qBO(P:Program)(w:World)(F:bz K d)(le:d<=8):TE:=fun _ H Q => ∀ p H',H p=none->H'=upd H p (.ext (VJ P w F le p []))->DN P w F le H' p []->Q (.ref p) H'
theorem W2{pos:Pos}(F:bz K d)(le:d<=8):PE X (.Dict [] [] pos) (qBO X.prog X.w F le):=fun pins s σ H Q I h=>
 wpAny_Dict_empty ⟨.ref s.heap.objs.size,_,I.laid (a:=s.heap.objs.size) (o:=.ext (VJ X.prog X.w F le s.heap.objs.size [])) (t':=s.toks) (fun _ _ q=>jJ _ q) (bT _) (U6 (ys:=[]) (Nat.zero_le _) (beq_eq_false_iff_ne.mpr (Ne.symm (lu I.big))) .nil (Heap.DictOfH.new s.heap)),rfl,h _ _ (I.hok.fresh (bT _)) rfl ⟨[],rfl,zC,fun x hx=>by cases hx⟩⟩
noncomputable def qBP(P:Program)(w:World)(F:bz K d)(le:d<=8)(td ty:TE):TE:=fun σ H Q=>td σ H fun x H1=>ty σ H1 fun y H2 => ∃(a b:Addr)(kvs:List (K × V))(k:K)(v:V),x = .ref a/\y = .ref b/\DN P w F le H2 a kvs/\F.inn 0 H2 k (.ref b)/\dD kvs k=some v/\Q v H2
theorem W3{o i:Expr}{pos:Pos}{td ty:TE}(hu:X.A.units+64 < cLine)(F:bz K d)(le:d<=8)(ho:PE X o td)(hi:PE X i ty)(hs:qB2 i):PE X (.Subscript o i pos) (qBP X.prog X.w F le td ty):=by
 intro pins s σ H Q I h
 refine Kf PySem.F.slot_dict_getitem.lookup hs (bJ (ho pins s σ H _ I h) fun u s1 ⟨x,H1,I1,rx,q1⟩=>bJ (hi pins s1 σ H1 _ I1 q1) fun iv s2 ⟨y,H2,I2,ry,a,b,kvs,k,v,ex,ey,D,hk,l,q2⟩=>?_)
 subst ex
 subst ey
 obtain rfl:u=Value.ref a:=rx
 obtain rfl:iv=Value.ref b:=ry
 obtain⟨xs,ys,e1,e2,e3,z,hd,r,dd⟩:=D.at I2.hok
 rcases wD r k with ⟨h1,_⟩ | ⟨v',p,h1,h2,h3⟩
 ·rw[e1,h1]at l
  cases l
 ·rw[e1,h1]at l
  cases l
  exact⟨dd.typeIs,wpAny_getItem_heap (show X.A.units+1+d < cLine by lia) (F.ok I2.hok hk rfl) dd h2 ⟨_,H2,I2.tok _,h3,q2⟩⟩
end
section
variable{prog:Program}{w:World}{K:Type} [DecidableEq K] {knd:HeapKind prog w K} {A:Around} {E:Value->Shared->Prop} {s:Shared}
end
section
variable{X:Cx}{K:Type} [DecidableEq K] {d:Nat}
end
end L2
namespace PySem
noncomputable def jD.sw{prog:Program}{w:World}{K L:Type} [DecidableEq K] [DecidableEq L] {d:Nat} (p:Nat->Bool) (F:jD prog w K d) (G:jD prog w L d):jD prog w (K ⊕ L) d where
 has:=fun i h k v=>match k with
  | .inl x=>p i=true/\F.has i h x v
  | .inr y=>p i=false/\G.has i h y v
 hsh:=fun k=>match k with
  | .inl x=>F.hsh x
  | .inr y=>G.hsh y
 Js:=fun k=>match k with
  | .inl x=>F.Js x
  | .inr y=>G.Js y
 one:=by
  rintro i h v (x | x) (y | y) ⟨e1,hx⟩ ⟨e2,hy⟩
  ·rw[F.one hx hy]
  ·rw[e1]at e2;cases e2
  ·rw[e1]at e2;cases e2
  ·rw[G.one hx hy]
 stay:=by
  rintro i h h' v (x | x) ⟨e1,hx⟩ k
  ·exact⟨e1,F.stay hx k⟩
  ·exact⟨e1,G.stay hx k⟩
 hashed:=by
  rintro i A E s (x | x) v Q hu ⟨e1,hx⟩ q
  ·exact F.hashed hu hx q
  ·exact G.hashed hu hx q
 same:=by
  rintro i A E s (x | x) (y | y) u v Q hu ⟨e1,hx⟩ ⟨e2,hy⟩ q
  ·refine F.same hu hx hy ?_
   rw[show decide (x=y)=decide ((Sum.inl x:K ⊕ L)=Sum.inl y) from decide_eq_decide.mpr ⟨fun z=>by rw[z],fun z=>Sum.inl.inj z⟩]
   exact q
  ·rw[e1]at e2;cases e2
  ·rw[e1]at e2;cases e2
  ·refine G.same hu hx hy ?_
   rw[show decide (x=y)=decide ((Sum.inr x:K ⊕ L)=Sum.inr y) from decide_eq_decide.mpr ⟨fun z=>by rw[z],fun z=>Sum.inr.inj z⟩]
   exact q
 still:=by
  rintro i A E s (x | x) v Q n hn ⟨e1,hx⟩ q
  ·exact F.still n hn hx q
  ·exact G.still n hn hx q
end PySem
namespace L2
open PySem PySem.Spec PyProof.Rows
section
variable{K L:Type} [DecidableEq K] [DecidableEq L] {d:Nat}
noncomputable def bz.sw(p:Nat->Bool)(F:bz K d)(G:bz L d):bz (K ⊕ L) d where
 inn:=fun i H k v=>match k with
  | .inl x=>p i=true/\F.inn i H x v
  | .inr y=>p i=false/\G.inn i H y v
 mono:=by
  rintro i H H' (k | k) v ⟨e,x⟩ h
  ·exact⟨e,F.mono x h⟩
  ·exact⟨e,G.mono x h⟩
 fam:=fun P w=>(F.fam P w).sw p (G.fam P w)
 ok:=by
  rintro P w H h i (k | k) v u hk ⟨e,x⟩ r
  ·exact⟨e,F.ok hk x r⟩
  ·exact⟨e,G.ok hk x r⟩
end
section
variable{X:Cx}{K:Type} [DecidableEq K] {d:Nat}
noncomputable def qG7(P:Program)(w:World)(F:bz K d)(le:d<=8)(ty td:TE):TE:=fun σ H Q=>ty σ H fun y H1=>td σ H1 fun x H2 => ∃(a b:Addr)(kvs:List (K × V))(k:K),x = .ref a/\y = .ref b/\DN P w F le H2 a kvs/\F.inn 0 H2 k (.ref b)/\Q (.bl (dD kvs k).isSome) H2
theorem ZJ{i o:Expr}{ty td:TE}(hu:X.A.units+64 < cLine)(F:bz K d)(le:d<=8)(hi:PE X i ty)(ho:PE X o td):PC X .In i o (qG7 X.prog X.w F le ty td):=by
 intro pins s σ H Q I h
 refine bJ (hi pins s σ H _ I h) fun iv s1 ⟨y,H1,I1,ry,q1⟩=>bJ (ho pins s1 σ H1 _ I1 q1) fun u s2 ⟨x,H2,I2,rx,a,b,kvs,k,ex,ey,D,hk,q2⟩=>?_
 subst ex ey
 obtain rfl:u=Value.ref a:=rx
 obtain rfl:iv=Value.ref b:=ry
 obtain⟨xs,ys,e1,e2,e3,z,hd,r,dd⟩:=D.at I2.hok
 refine wpAny_in_heap (show X.A.units+1+d < cLine by lia) (F.ok I2.hok hk rfl) hd dd ⟨.bl (dD kvs k).isSome,H2,I2.tok _,?_,q2⟩
 show Value.bool _=Value.bool _
 rcases wD r k with ⟨h1,h2⟩ | ⟨v',p,h1,h2,h3⟩
 ·rw[h2,e1,h1];rfl
 ·rw[h2,e1,h1];rfl
noncomputable def qCA(P:Program)(w:World)(F:bz K d)(le:d<=8)(td ty tv:TE):TS:=fun D σ H=>tv σ H fun v H1=>td σ H1 fun x H2=>ty σ H2 fun y H3 => ∃(a b:Addr)(kvs:List (K × V))(k:K),x = .ref a/\y = .ref b/\DN P w F le H3 a kvs/\F.inn 0 H3 k (.ref b) ∧
 kvs.length < sizeLine/\dD kvs k=none/\∀ o,(∃ φ,o=HO.ext φ)->DN P w F le (upd H3 a o) a (kvs++[(k,v)])->D.nx σ (upd H3 a o)
theorem storedH_new{xs:List (K × Addr × Value)}{k:K}{a:Addr}{v:Value}(h:atKey xs k=none):storedH xs k a v=xs++[(k,a,v)]:=by
 unfold storedH
 rw[h]
 exact if_neg (by decide)
theorem Vu{o i value:Expr}{td ty tv:TE}{pos pos':Pos}(hu:X.A.units+64 < cLine)(F:bz K d)(le:d<=8)(ho:PE X o td)(hi:PE X i ty)(hv:PE X value tv)(hs:swapsWith value (some (.Subscript o i pos')) pos.line X.env=pure false) :
  PS X (.Assign [.Subscript o i pos'] value pos) (qCA X.prog X.w F le td ty tv):=by
 intro pins s σ H D I h
 refine wpAny_Assign_Subscript (bJ (hv pins s σ H _ I h) fun r s1 ⟨v,H1,I1,rv,q1⟩=>bJ (ho pins s1 σ H1 _ I1 q1) fun u s2 ⟨x,H2,I2,rx,q2⟩=>bJ (hi pins s2 σ H2 _ I2 q2) fun iv s3 ⟨y,H3,I3,ry,a,b,kvs,k,ex,ey,dn,hk,hl,hn,q3⟩=>?_) hs
 subst ex ey
 obtain rfl:u=Value.ref a:=rx
 obtain rfl:iv=Value.ref b:=ry
 obtain⟨xs,ys,e1,e2,e3,z,hd,rr,dd⟩:=dn.at I3.hok
 have lr:=rr.length
 have lk:kvs.length=xs.length:=by rw[e1,bZ]
 have hy:atKey ys k=none:=by
  rcases wD rr k with ⟨_,h2⟩ | ⟨v',p',h1,h2,h3⟩
  ·exact h2
  ·rw[<-e1,hn]at h1
   cases h1
 refine wpAny_setItem_heap (hsz:=by lia) (show X.A.units+1+d < cLine by lia) (F.ok I3.hok hk rfl) dd fun h' YW hs'=>?_
 rw[storedH_new hy]at YW
 have hq:∃ q,h'.get? a=some q:=by
  obtain⟨q,_,_,g,_⟩:=YW
  exact⟨q,g⟩
 have I4:Inv X pins σ (upd H3 a (.ext (VJ X.prog X.w F le a (xs++[(k,b,v)])))) { s3 with heap:=h',toks:=s3.toks+((F.fam X.prog X.w).heap le).draws k }:=
  Cv I3 (by rw[e2];exact True.intro) hs' hq (U6 (by rw[fU,jf];lia) hd (rr.snoc ⟨rfl,rfl,rv⟩) YW)
 have kt:∀ c zs,H3 c=some (.tup zs)->upd H3 a (.ext (VJ X.prog X.w F le a (xs++[(k,b,v)]))) c=some (.tup zs):=fun c zs g=>by
  rw[zQ (fH g e2 (fun z=>by cases z))]
  exact g
 refine⟨σ,_,I4,q3 _ ⟨_,rfl⟩ ⟨xs++[(k,b,v)],by rw[kI,e1];rfl,zC,fun x hx=>?_⟩⟩
 rcases gW.mp hx with hx | hx
 ·exact F.mono (e3 x hx) kt
 ·rw[dJ.mp hx]
  exact F.mono hk kt
end
end L2
namespace L2
open PySem
section
variable{X:Cx}{K:Type} [DecidableEq K] {d:Nat}
theorem op_eqF(hu:X.A.units+64 < cLine)(F:bz K d)(hd:d<=8):jK X (compareOp .Eq) (fun x y H Q => ∃(a b:Addr)(k1 k2:List K),x = .ref a/\y = .ref b/\F.tup.inn 0 H k1 (.ref a)/\F.tup.inn 0 H k2 (.ref b)/\Q (.bl (decide (k1=k2))) H):=by
 intro pins s σ H x y v u Q I rx ry h
 obtain⟨a,b,k1,k2,rfl,rfl,i1,i2,q⟩:=h
 cases rx
 cases ry
 have h1:uq (F.fam X.prog X.w) s.heap k1 (.ref a):=F.tup.ok I.hok i1 rfl
 have h2:uq (F.fam X.prog X.w) s.heap k2 (.ref b):=F.tup.ok I.hok i2 rfl
 obtain⟨a',oa,xs,na,ea,hoa,hca,hda,hia⟩:=id h1
 cases ea
 obtain⟨b',ob,ys,nb,eb,hob,hcb,hdb,hib⟩:=id h2
 cases eb
 have ta:s.TypeIs (.ref a) "tuple" := ⟨oa,hoa,hca⟩
 have tb:s.TypeIs (.ref b) "tuple" := ⟨ob,hob,hcb⟩
 exact wpAny_richCompare_same_room (op:=.Eq) ta tb PySem.F.slot_tuple_eq
  (wpAny_call_entry PySem.F.slot_tuple_eq ta PySem.F.entry_tuple_eq (Gk (by show X.A.units+1+d < cLine;omega) h1 h2 ⟨_,rfl,(fun e=>nomatch e),.bl (decide (k1=k2)),H,I,rfl,q⟩) (PySem.F.args_tuple_eq_2 _ _)) (by omega)
end
noncomputable def qID(M:Model)(Γ:Ctx)(p:Pos)(t:Sem Fin)(fs:List Frame)(s:Shared)(e:End)(s':Shared):Prop:=match fs with
 | F :: fs => ∃ e1 s1,Runs M (Γ.over (F :: fs)) p t [] s e1 s1/\(match e1 with
  | .ret r=>(match F with
   | .ret k _ _ _ c₁ p₁ _=>Runs M (Γ.goto c₁) p₁ (k r) fs s1 e s'
   | .gen g k _ c₁ p₁=>Runs M (Γ.goto c₁) p₁ (k (End.ret r).result) fs (s1.setGen g .finished) e s')
  | .susp v g₀ l₀ k₀ c₀ p₀ fs₀=>(match splitAtGen (F :: fs) with
   | none=>e = .susp v g₀ l₀ k₀ c₀ p₀ (fs₀++F :: fs)/\s'=s1
   | some (pre,(g,k,c₁,p₁),rest)=>Runs M (Γ.goto c₁) p₁ (k (.yielded v)) rest (s1.setGen g (End.susp v g₀ l₀ k₀ c₀ p₀ (fs₀++pre)).genState) e s'))
 | []=>match t with
  | .pure (.done f)=>e = .ret (.ok f)/\s'=s
  | .pure (.again c)=>Runs M (Γ.goto c) p (M.den c) [] s e s'
  | .raise x=>e = .ret (.error x)/\s'=s
  | .rule _ k=>Runs M Γ p (k ()) [] s e s'
  | .at p' k=>Runs M Γ p' (k ()) [] s e s'
  | .load a _ k => ∃ o,s.heap.get? a=some o/\Runs M Γ p (k o) [] s e s'
  | .update a _ f k=>Runs M Γ p (k ()) [] { s with heap:=s.heap.update a f } e s'
  | .loadIfAlive a k=>Runs M Γ p (k (s.heap.get? a)) [] s e s'
  | .point _ k=>Runs M Γ p (k ()) [] s e s'
  | .alloc o k=>Runs M Γ p (k s.heap.objs.size) [] { s with heap:=s.heap.push o } e s'
  | .fresh k=>Runs M Γ p (k s.toks) [] { s with toks:=s.toks+1 } e s'
  | .ask k=>Runs M Γ p (k { program:=M.prog,params:=M.w.params }) [] s e s'
  | .choose src n k=>Runs M Γ p (k (M.w.draws src (s.drawn.get src) % n)) [] { s with drawn:=s.drawn.bump src } e s'
  | .os q _ k=>Runs M Γ p (k (Os.step s.os q).snd) [] { s with os:=(Os.step s.os q).fst } e s'
  | .handled own k=>Runs M Γ p (k (if own=true then Γ.own else Γ.handled)) [] s e s'
  | .genState g k => ∃ st,s.gens[g]? = some st/\Runs M Γ p (k st.seen) [] s e s'
  | .stack k=>Runs M Γ p (k ((Γ.code,p) :: Γ.below)) [] s e s'
  | .thread k=>Runs M Γ p (k 0) [] s e s'
  | .newGen c k=>Runs M Γ p (k s.gens.size) [] { s with gens:=s.gens.push (.fresh c) } e s'
  | .call c h g l k => ∃ e1 s1,Runs M (Γ.enter c h p) p (M.den c) [] s e1 s1/\(match e1 with
   | .ret r=>Runs M Γ p (k r) [] s1 e s'
   | .susp v g₀ l₀ k₀ c₀ p₀ fs=>e = .susp v g₀ l₀ k₀ c₀ p₀ (fs++[Frame.ret k h g l Γ.code p []])/\s'=s1)
  | .yield v g l k=>e = .susp v g l k Γ.code p []/\s'=s
  | .resume g r _ k => ∃ st,s.gens[g]? = some st/\(match st with
   | .fresh c=>(match r with
    | .send v=>(v = .none/\∃ e1 s1,Runs M (Γ.wake c p) p (M.den c) [] (s.setGen g .running) e1 s1/\Runs M Γ p (k e1.result) [] (s1.setGen g e1.genState) e s') ∨ (v ≠ .none/\Runs M Γ p (k .justStarted) [] s e s')
    | .throw x=>Runs M Γ p (k (.raised x)) [] (s.setGen g .finished) e s')
   | .suspended k₀ _ c₀ p₀ fs _ => ∃ e1 s1,Runs M (Γ.wake c₀ p) p₀ (k₀ r) fs (s.setGen g .running) e1 s1/\Runs M Γ p (k e1.result) [] (s1.setGen g e1.genState) e s'
   | .running=>Runs M Γ p (k .running) [] s e s'
   | .finished=>Runs M Γ p (k .finished) [] s e s')
  | _=>True
theorem aN{M:Model}{Γ:Ctx}{p:Pos}{t:Sem Fin}{fs:List Frame}{s s':Shared}{e:End}(h:Runs M Γ p t fs s e s'):qID M Γ p t fs s e s':=by
 cases h with
 | done=>exact⟨rfl,rfl⟩
 | raise=>exact⟨rfl,rfl⟩
 | again _ h=>exact h
 | load h1 h2=>exact⟨_,h1,h2⟩
 | update _ h=>exact h
 | choose _ h=>exact h
 | genState h1 h2=>exact⟨_,h1,h2⟩
 | call h1 h2=>exact⟨_,_,h1,h2⟩
 | callSusp h1=>exact⟨_,_,h1,rfl,rfl⟩
 | yield=>exact⟨rfl,rfl⟩
 | resumeFresh h1 h2 _ h4=>exact⟨_,h1,.inl ⟨rfl,_,_,h2,h4⟩⟩
 | resumeSuspended h1 h2 _ h4=>exact⟨_,h1,_,_,h2,h4⟩
 | resumeJustStarted h1 h2 h3=>exact⟨_,h1,.inr ⟨h2,h3⟩⟩
 | resumeThrowFresh h1 h2=>exact⟨_,h1,h2⟩
 | resumeRunning h1 h2=>exact⟨_,h1,h2⟩
 | resumeFinished h1 h2=>exact⟨_,h1,h2⟩
 | segRet h1 h2=>exact⟨_,_,h1,h2⟩
 | segGen h1 h2=>exact⟨_,_,h1,h2⟩
 | segSuspOut h1 h2=>
  refine⟨_,_,h2,?_⟩
  show (match splitAtGen _ with | none=>_ | some (pre,(g,k,c₁,p₁),rest)=>_)
  rw[h1]
  exact⟨rfl,rfl⟩
 | segSuspGen h1 h2 _ h4=>
  refine⟨_,_,h2,?_⟩
  show (match splitAtGen _ with | none=>_ | some (pre,(g,k,c₁,p₁),rest)=>_)
  rw[h1]
  exact h4
 | rule h=>exact h
 | «at» h=>exact h
 | loadIfAlive h=>exact h
 | point h=>exact h
 | alloc h=>exact h
 | fresh h=>exact h
 | ask h=>exact h
 | os h=>exact h
 | handled h=>exact h
 | stack h=>exact h
 | thread h=>exact h
 | newGen h=>exact h
theorem vq{M:Model}{Γ:Ctx}{p:Pos}{t:Sem Fin}{fs:List Frame}{s s':Shared}{e:End}(h:Runs M Γ p t fs s e s') :
  ∀ {e2:End} {s2:Shared},Runs M Γ p t fs s e2 s2->e=e2/\s'=s2:=by
 induction h with
 | done=>intro e2 s2 h2;obtain⟨rfl,rfl⟩:=aN h2;exact⟨rfl,rfl⟩
 | raise=>intro e2 s2 h2;obtain⟨rfl,rfl⟩:=aN h2;exact⟨rfl,rfl⟩
 | again _ _ ih=>intro e2 s2 h2;exact ih (aN h2)
 | load h1 _ ih=>
  intro e2 s2 h2
  obtain⟨o,ho,h⟩:=aN h2
  cases h1.symm.trans ho
  exact ih h
 | update _ _ ih=>intro e2 s2 h2;exact ih (aN h2)
 | choose _ _ ih=>intro e2 s2 h2;exact ih (aN h2)
 | genState h1 _ ih=>
  intro e2 s2 h2
  obtain⟨o,ho,h⟩:=aN h2
  cases h1.symm.trans ho
  exact ih h
 | call _ _ ih1 ih2=>
  intro e2 s2 h2
  obtain⟨e1,s1,h,h'⟩:=aN h2
  obtain⟨rfl,rfl⟩:=ih1 h
  exact ih2 h'
 | callSusp _ ih=>
  intro e2 s2 h2
  obtain⟨e1,s1,h,h'⟩:=aN h2
  obtain⟨rfl,rfl⟩:=ih h
  exact⟨h'.1.symm,h'.2.symm⟩
 | yield=>intro e2 s2 h2;obtain⟨rfl,rfl⟩:=aN h2;exact⟨rfl,rfl⟩
 | resumeFresh h1 _ _ _ ih1 ih2=>
  intro e2 s2 h2
  obtain⟨st,ho,h⟩:=aN h2
  cases h1.symm.trans ho
  rcases h with ⟨_,e1,s1,h,h'⟩ | ⟨z,_⟩
  ·obtain⟨rfl,rfl⟩:=ih1 h
   exact ih2 h'
  ·exact absurd rfl z
 | resumeSuspended h1 _ _ _ ih1 ih2=>
  intro e2 s2 h2
  obtain⟨st,ho,h⟩:=aN h2
  cases h1.symm.trans ho
  obtain⟨e1,s1,h,h'⟩:=h
  obtain⟨rfl,rfl⟩:=ih1 h
  exact ih2 h'
 | resumeJustStarted h1 nz _ ih=>
  intro e2 s2 h2
  obtain⟨st,ho,h⟩:=aN h2
  cases h1.symm.trans ho
  rcases h with ⟨z,_⟩ | ⟨_,h⟩
  ·exact absurd z nz
  ·exact ih h
 | resumeThrowFresh h1 _ ih=>
  intro e2 s2 h2
  obtain⟨st,ho,h⟩:=aN h2
  cases h1.symm.trans ho
  exact ih h
 | resumeRunning h1 _ ih=>
  intro e2 s2 h2
  obtain⟨st,ho,h⟩:=aN h2
  cases h1.symm.trans ho
  exact ih h
 | resumeFinished h1 _ ih=>
  intro e2 s2 h2
  obtain⟨st,ho,h⟩:=aN h2
  cases h1.symm.trans ho
  exact ih h
 | segRet _ _ ih1 ih2=>
  intro e2 s2 h2
  obtain⟨e1,s1,h,h'⟩:=aN h2
  obtain⟨rfl,rfl⟩:=ih1 h
  exact ih2 h'
 | segGen _ _ ih1 ih2=>
  intro e2 s2 h2
  obtain⟨e1,s1,h,h'⟩:=aN h2
  obtain⟨rfl,rfl⟩:=ih1 h
  exact ih2 h'
 | segSuspOut hs _ ih=>
  intro e2 s2 h2
  obtain⟨e1,s1,h,h'⟩:=aN h2
  obtain⟨rfl,rfl⟩:=ih h
  simp only[hs]at h'
  exact⟨h'.1.symm,h'.2.symm⟩
 | segSuspGen hs _ _ _ ih1 ih2=>
  intro e2 s2 h2
  obtain⟨e1,s1,h,h'⟩:=aN h2
  obtain⟨rfl,rfl⟩:=ih1 h
  simp only[hs]at h'
  exact ih2 h'
 | rule _ ih=>intro e2 s2 h2;exact ih (aN h2)
 | «at» _ ih=>intro e2 s2 h2;exact ih (aN h2)
 | loadIfAlive _ ih=>intro e2 s2 h2;exact ih (aN h2)
 | point _ ih=>intro e2 s2 h2;exact ih (aN h2)
 | alloc _ ih=>intro e2 s2 h2;exact ih (aN h2)
 | fresh _ ih=>intro e2 s2 h2;exact ih (aN h2)
 | ask _ ih=>intro e2 s2 h2;exact ih (aN h2)
 | os _ ih=>intro e2 s2 h2;exact ih (aN h2)
 | handled _ ih=>intro e2 s2 h2;exact ih (aN h2)
 | stack _ ih=>intro e2 s2 h2;exact ih (aN h2)
 | thread _ ih=>intro e2 s2 h2;exact ih (aN h2)
 | newGen _ ih=>intro e2 s2 h2;exact ih (aN h2)
theorem Yo{α:Type}(M:Model)(Γ:Ctx)(t:Sem α):∀(Q Q':α->Pos->Shared->Prop)(E E':Value->Pos->Shared->Prop)(p:Pos)(s:Shared),Sem.wp M Γ t Q E p s->Sem.wp M Γ t Q' E' p s →
  Sem.wp M Γ t (fun a p' s'=>Q a p' s'/\Q' a p' s') (fun e p' s'=>E e p' s'/\E' e p' s') p s:=by
 induction t with
 | pure a=>intro Q Q' E E' p s h h';exact⟨h,h'⟩
 | raise e=>intro Q Q' E E' p s h h';exact⟨h,h'⟩
 | load a _ k ih=>intro Q Q' E E' p s h h';obtain⟨o,ho,h⟩:=h;obtain⟨o',ho',h'⟩:=h';cases ho.symm.trans ho';exact⟨o,ho,ih o _ _ _ _ p s h h'⟩
 | update a _ f k ih=>intro Q Q' E E' p s h h';exact⟨h.1,ih () _ _ _ _ p _ h.2 h'.2⟩
 | choose src m k ih=>intro Q Q' E E' p s h h';exact⟨h.1,ih _ _ _ _ _ p _ h.2 h'.2⟩
 | call c hd g l k ih=>
  intro Q Q' E E' p s h h'
  obtain⟨r,s1,x,h⟩:=h
  obtain⟨r',Vn,x',h'⟩:=h'
  obtain⟨q1,q2⟩:=vq x x'
  cases q1;cases q2
  exact⟨r,s1,x,ih _ _ _ _ _ p _ h h'⟩
 | genState g k ih=>intro Q Q' E E' p s h h';obtain⟨o,ho,h⟩:=h;obtain⟨o',ho',h'⟩:=h';cases ho.symm.trans ho';exact⟨o,ho,ih _ _ _ _ _ p s h h'⟩
 | resume g r l k ih=>
  intro Q Q' E E' p s h h'
  obtain⟨r1,s1,x,h⟩:=h
  obtain⟨r',Vn,x',h'⟩:=h'
  have q:r1=r'/\s1=Vn:=by
   unfold Wakes at x x'
   revert x x'
   generalize s.gens[g]? = gg
   intro x x'
   cases gg with
   | none=>exact x.elim
   | some st=>
    cases st with
    | fresh c=>
     cases r with
     | throw y=>exact⟨x.1.trans x'.1.symm,x.2.trans x'.2.symm⟩
     | send v=>
      cases v with
      | none=>
       obtain⟨e1,t1,y1,_,rfl,rfl⟩:=x
       obtain⟨e2,t2,y2,_,rfl,rfl⟩:=x'
       obtain⟨rfl,rfl⟩:=vq y1 y2
       exact⟨rfl,rfl⟩
      | _=>exact⟨x.1.trans x'.1.symm,x.2.trans x'.2.symm⟩
    | suspended=>
     obtain⟨e1,t1,y1,_,rfl,rfl⟩:=x
     obtain⟨e2,t2,y2,_,rfl,rfl⟩:=x'
     obtain⟨rfl,rfl⟩:=vq y1 y2
     exact⟨rfl,rfl⟩
    | running=>exact⟨x.1.trans x'.1.symm,x.2.trans x'.2.symm⟩
    | finished=>exact⟨x.1.trans x'.1.symm,x.2.trans x'.2.symm⟩
  obtain⟨rfl,rfl⟩:=q
  exact⟨_,_,x,ih _ _ _ _ _ p _ h h'⟩
 | _=>intros;first | assumption | (rename_i ih _ _ _ _ _ _ h h';exact ih _ _ _ _ _ _ _ h h')
theorem Hj{α:Type}{M:Model}{A:Around}{t:Sem α}{Q Q':α->Shared->Prop}{E E':Value->Shared->Prop}{s:Shared}(h:wpAny M A t Q E s)(h':wpAny M A t Q' E' s) :
  wpAny M A t (fun a s'=>Q a s'/\Q' a s') (fun e s'=>E e s'/\E' e s') s:=fun Γ p hΓ=>Yo M Γ t _ _ _ _ p s (h Γ p hΓ) (h' Γ p hΓ)
theorem du{α:Type}{M:Model}{A:Around}{t:Sem α}{Q Q':α->Shared->Prop}{E:Value->Shared->Prop}{s:Shared}(h:wpAny M A t Q E s)(h':wpAny M A t Q' E s):wpAny M A t (fun a s'=>Q a s'/\Q' a s') E s:=
 wpAny_mono (Hj h h') (fun _ _ z=>z) fun _ _ z=>z.1
end L2
namespace L2
open PySem PySem.Spec PyProof.Rows
noncomputable def DictAt(h:Heap)(e:Addr)(dd:Option Addr):Prop:=∃ ob,h.get? e=some ob/\ob.dict=dd
theorem U9(o:Obj)(f:Array Value->Array Value):(o.mapFields f).dict=o.dict:=by
 obtain⟨c,d,dt,sl⟩:=o
 cases dt <;> rfl
theorem DictAt.upd{h:Heap}{a e:Addr}{f:Array Value->Array Value}{dd:Option Addr}{o:Obj}{vs:Array Value}(x:DictAt h e dd)(ha:h.get? a=some o)(hd:o.data = .fields vs):DictAt (h.update a (Obj.mapFields f)) e dd:=by
 obtain⟨ob,q,r⟩:=x
 by_cases z:a=e
 ·subst z
  rw[ha]at q
  cases q
  exact⟨_,Heap.get?_update_self _ ha (Obj.isFreed_of_fields (Obj.data_mapFields hd f)),(U9 _ _).trans r⟩
 ·exact⟨ob,(Heap.get?_update_other _ _ z).trans q,r⟩
theorem DictAt.push{h:Heap}{e:Addr}{dd:Option Addr}(x:DictAt h e dd)(o:Obj):DictAt (h.push o) e dd:=
 let ⟨ob,q,r⟩:=x;⟨ob,jJ _ q,r⟩
section
variable{M:Model}{A:Around}{E:Value->Shared->Prop}{s:Shared}{base:Heap}{env:Env}{outer:List Env}{L e:Addr}{cls a0:Value}{dd:Option Addr}
theorem uY{fl:Value}(ht:s.heap.TracedAtW base e cls a0 fl)(x:DictAt s.heap e dd):wpAny M A (setFlight (.ref e) none) (fun _ s'=>DictAt s'.heap e dd) E s:=by
 obtain⟨oe,vs,T,oT,ts,he,_,hd,h1,_,_,hT,hdT,h3⟩:=ht
 unfold setFlight
 refine wpAny_bind (wpAny_field he hd h1 ?_)
 rw[if_pos (show (Value.ref T != Value.none)=true by simp)]
 exact wpAny_setField hT hdT (Array.getElem?_eq_some_iff.mp h3).1 (x.upd hT hdT)
theorem lR{oe:Obj}{vs:Array Value}{head:Value}{b:Bool}{Q:Unit->Shared->Prop}(hfr:A.frames=some (env :: outer))(hl:s.heap.FunFrames base (env :: outer))(hf:env.frame=some L)
  (he:s.heap.get? e=some oe) (hd:oe.data = .fields vs) (hsz:1 < vs.size) (x:DictAt s.heap e dd)
  (hq:∀(h1:Heap)(T:Addr)(oT:Obj)(ts:Array Value),DictAt h1 e dd->(∃ oe' vs',h1.get? e=some oe'/\oe'.data = .fields vs'/\vs'[1]? = some (.ref T))->h1.get? T=some oT->oT.data = .fields ts->3 < ts.size->Q () { s with heap:=h1 }) :
  wpAny M A (do let a ← frameOf env;let pl ← entryPlaceOf L b;let c ← EntryCells.newEntry head a .none (rawInt L) .none pl;setField (.ref e) 1 c) Q E s:=by
 refine wpAny_bind (wpAny_frameOf_fun hfr hl hf fun h1 hs=>?_)
 refine wpAny_bind (wpAny_entryPlaceOf fun pl hpl=>?_)
 unfold EntryCells.newEntry newFields
 refine wpAny_bind (wpAny_newObj_type ?_ (hpl.sizeOk5 _ _ _ _ _))
 obtain⟨sl,e1⟩:=hs.2.2 e oe he
 have x1:DictAt h1 e dd:=by
  obtain⟨ob,q,r⟩:=x
  rw[he]at q
  cases q
  exact⟨_,e1,r⟩
 have e2:=jJ (h:=h1) { cls:=.type "traceback",dict:=none,data:=.fields ([head,.ref L,.none,rawInt L,.none]++(if pl.isEmpty then List.replicate 6 Value.none else pl)).toArray } e1
 have hd2:({ oe with slots:=sl }:Obj).data = .fields vs:=hd
 have ne:e ≠ h1.objs.size:=lu (gf e1)
 refine wpAny_setField e2 hd2 hsz (hq _ h1.objs.size { cls:=.type "traceback",dict:=none,data:=.fields ([head,.ref L,.none,rawInt L,.none]++(if pl.isEmpty then List.replicate 6 Value.none else pl)).toArray } _ ((x1.push _).upd e2 hd2) ?_ ?_ rfl ?_)
 ·exact⟨_,_,Heap.get?_update_self _ e2 (Obj.isFreed_of_fields (Obj.data_mapFields hd2 _)),Obj.data_mapFields hd2 _,by simp [hsz]⟩
 ·exact (Heap.get?_update_other _ _ ne).trans (xf h1 rfl)
 ·simp only[List.size_toArray,List.length_append,List.length_cons,List.length_nil]
  lia
theorem zf(hfr:A.frames=some (env :: outer))(hf:env.frame=some L)(hfl:Heap.FlyingW base (env :: outer) e cls a0 s.heap)(x:DictAt s.heap e dd):wpAny M A (noteFrame (.ref e) env) (fun _ s'=>DictAt s'.heap e dd) E s:=by
 obtain⟨_,_,hl,oe,vs,T,oT,ts,he,_,hd,h1,_,hTe,hT,hdT,h3⟩:=hfl
 unfold noteFrame
 simp only[hf]
 refine wpAny_bind (wpAny_field he hd h1 ?_)
 rw[if_pos (show (Value.ref T != Value.none)=true by simp)]
 refine wpAny_bind (wpAny_field hT hdT h3 ?_)
 rw[if_neg (show ¬ ((Value.none == rawInt L)=true) by simp [rawInt])]
 refine wpAny_bind (wpAny_setField hT hdT (Array.getElem?_eq_some_iff.mp h3).1 ?_)
 refine lR hfr (hl.of_keeps fun b o hb hnf=>⟨o,(Heap.get?_update_other _ _ fun z=>?_).trans hb,rfl⟩) hf ((Heap.get?_update_other _ _ hTe).trans he) hd (Array.getElem?_eq_some_iff.mp h1).1 (x.upd hT hdT) fun _ _ _ _ z _ _ _ _=>z
 rw[<-z,hT]at hb
 cases hb
 exact hnf ts hdT
theorem JT(hfr:A.frames=some (env :: outer))(hf:env.frame=some L)(hfl:Heap.FlyingW base (env :: outer) e cls a0 s.heap)(x:DictAt s.heap e dd):wpAny M A (leaving env (.ref e)) (fun _ s'=>DictAt s'.heap e dd) E s:=by
 unfold leaving
 refine wpAny_bind (wpAny_mono (du (wpAny_looks_onW (Q:=fun _ s'=>Heap.HeldW base (env :: outer) e cls a0 L s'.heap) hfr hf hfl fun h' k _=>k) (zf hfr hf hfl x)) (fun _ s1 z=>?_) fun _ _ z=>z)
 exact uY z.1.2.2.2 z.2
theorem Jk{oe:Obj}{vs:Array Value}(hfr:A.frames=some (env :: outer))(hl:s.heap.FunFrames base (env :: outer))(hf:env.frame=some L)(he:s.heap.get? e=some oe)(hd:oe.data = .fields vs)(h1:vs[1]? = some .none)
  (x:DictAt s.heap e dd):wpAny M A (leaving env (.ref e)) (fun _ s'=>DictAt s'.heap e dd) E s:=by
 unfold leaving noteFrame
 simp only[hf]
 refine wpAny_bind (wpAny_bind (wpAny_field he hd h1 ?_))
 rw[if_neg (by decide)]
 refine lR hfr hl hf he hd (Array.getElem?_eq_some_iff.mp h1).1 x fun h2 T oT ts x2 ⟨oe',vs',q1,q2,q3⟩ q4 q5 q6=>?_
 unfold setFlight
 refine wpAny_bind (wpAny_field q1 q2 q3 ?_)
 rw[if_pos (show (Value.ref T != Value.none)=true by simp)]
 exact wpAny_setField q4 q5 q6 (x2.upd q4 q5)
end
section
variable{M:Model}{A:Around}{E:Value->Shared->Prop}{s:Shared}{base:Heap}{env:Env}{outer l:List Env}{L e:Addr}{cls a0:Value}{dd:Option Addr}{Q:Unit->Shared->Prop}
theorem JS(hfr:A.frames=some (env :: outer))(hf:env.frame=some L)(hfl:Heap.FlyingW base (env :: outer) e cls a0 s.heap)(x:DictAt s.heap e dd)
  (hQ:∀ h',Heap.FlyingW base outer e cls a0 h'->s.heap.UpToSlots h'->DictAt h' e dd->Q () { s with heap:=h' }):wpAny M A (leaving env (.ref e)) Q E s:=
 wpAny_mono (du (wpAny_leaves_onW (Q:=fun _ s' => ∃ h',s' = { s with heap:=h' }/\Heap.FlyingW base outer e cls a0 h'/\s.heap.UpToSlots h') hfr hf hfl fun h' k1 k2=>⟨h',rfl,k1,k2⟩) (JT hfr hf hfl x))
  (fun _ _ ⟨⟨h',z,k1,k2⟩,k3⟩=>by subst z;exact hQ h' k1 k2 k3) fun _ _ z=>z
theorem Ny(hfr:A.frames=some (env :: outer))(hf:env.frame=some L)(hfl:Heap.FlyingW base (env :: outer) e cls a0 s.heap)(x:DictAt s.heap e dd)
  (hQ:∀ h',Heap.HeldW base (env :: outer) e cls a0 L h'->s.heap.UpToSlots h'->DictAt h' e dd->Q () { s with heap:=h' }):wpAny M A (noteFrame (.ref e) env) Q E s:=
 wpAny_mono (du (wpAny_looks_onW (Q:=fun _ s' => ∃ h',s' = { s with heap:=h' }/\Heap.HeldW base (env :: outer) e cls a0 L h'/\s.heap.UpToSlots h') hfr hf hfl fun h' k1 k2=>⟨h',rfl,k1,k2⟩) (zf hfr hf hfl x))
  (fun _ _ ⟨⟨h',z,k1,k2⟩,k3⟩=>by subst z;exact hQ h' k1 k2 k3) fun _ _ z=>z
theorem Zr(hh:Heap.HeldW base l e cls a0 L s.heap)(x:DictAt s.heap e dd)(hQ:∀ h',Heap.FlyingW base l e cls a0 h'->s.heap.UpToSlots h'->DictAt h' e dd->Q () { s with heap:=h' }):wpAny M A (setFlight (.ref e) none) Q E s:=
 wpAny_mono (du (wpAny_landsW (Q:=fun _ s' => ∃ h',s' = { s with heap:=h' }/\Heap.FlyingW base l e cls a0 h'/\s.heap.UpToSlots h') hh fun h' k1 k2=>⟨h',rfl,k1,k2⟩) (uY hh.2.2.2 x))
  (fun _ _ ⟨⟨h',z,k1,k2⟩,k3⟩=>by subst z;exact hQ h' k1 k2 k3) fun _ _ z=>z
theorem GP{oe:Obj}{vs:Array Value}(hfr:A.frames=some (env :: outer))(hf:env.frame=some L)(hkb:base.StaysIn s.heap)(hl:s.heap.FunFrames base (env :: outer))(hb:base.get? e=none)
  (he:s.heap.get? e=some oe) (hd:oe.data = .fields vs) (h1:vs[1]? = some .none) (h0:vs[0]? = some a0)
  (hQ:∀ h',Heap.FlyingW base outer e oe.cls a0 h'->s.heap.UpToSlots h'->DictAt h' e oe.dict->Q () { s with heap:=h' }):wpAny M A (leaving env (.ref e)) Q E s:=
 wpAny_mono (du (wpAny_leaving_firstW (Q:=fun _ s' => ∃ h',s' = { s with heap:=h' }/\Heap.LeftW base (env :: outer) e oe.cls a0 s.heap h') hfr hl hf he hkb hb hd h1 h0 fun h' k=>⟨h',rfl,k⟩) (Jk hfr hl hf he hd h1 ⟨oe,he,rfl⟩))
  (fun _ _ ⟨⟨h',z,k1,⟨_,_,k2⟩,k3,k4⟩,k5⟩=>by subst z;exact hQ h' ⟨k1,hb,k2,k3⟩ k4 k5) fun _ _ z=>z
end
noncomputable def qY(P:Program)(w:World):KZ:=fun outer H s E e s'=>
 ∃(ea:Addr)(cls a0:Value)(H':Hp)(B:Heap),e = .ref ea/\s'.os=s.os/\AllBare s'.gens/\Heap.FlyingW B outer ea cls a0 s'.heap ∧
  jL P w H' s'.heap/\Un (frs outer) [] H H' s.heap s'.heap/\(∀ b,(H' b).isSome=true->∃ o,s'.heap.get? b=some o/\B.get? b=some o) ∧
  (∀ b o,s.heap.get? b=some o->b ∉ frs outer->∃ o',s'.heap.get? b=some o'/\B.get? b=some o')/\∃ dd,DictAt s'.heap ea dd/\E cls dd H'
section
variable{P:Program}{w:World}{H H':Hp}{h h0 h1 h2 B:Heap}{a:Addr}{o:HO}{fs:List Addr}
theorem bN.there(x:bN P w H h a o):∃ ob,h.get? a=some ob:=by
 cases o with
 | lst xs=>obtain⟨_,_,_,_,e⟩:=x;exact⟨_,e⟩
 | tup xs=>obtain⟨_,_,_,ob,e,_⟩:=x;exact⟨ob,e⟩
 | dK kvs=>obtain⟨_,_,_,_,ob,_,_,e,_⟩:=x;exact⟨ob,e⟩
 | dT kvs=>obtain⟨_,_,_,_,ob,_,_,e,_⟩:=x;exact⟨ob,e⟩
 | set S n=>obtain⟨ob,_,_,_,e,_⟩:=x;exact⟨ob,e⟩
 | ins C dx fs=>obtain⟨_,_,_,e,_⟩:=x;exact⟨_,e⟩
 | own y=>exact x
 | xd fs=>obtain⟨_,⟨ob,_,_,e,_⟩,_⟩:=x;exact⟨ob,e⟩
 | rng lo hi=>obtain⟨_,_,_,e⟩:=x;exact⟨_,e⟩
 | Jg ob u=>obtain⟨e,_⟩:=x;exact⟨_,e⟩
 | Xw ps=>exact⟨_,x⟩
 | met f y=>exact⟨_,x⟩
 | ext φ=>obtain⟨_,e,_⟩:=x;exact e
theorem jL.flown(hok:jL P w H h)(hB:∀ b,(H b).isSome=true->∃ ob,h.get? b=some ob/\B.get? b=some ob)(st:B.StaysIn h2):jL P w H h2:=fun a o e=>
 (hok a o e).stay (fun b u hb q=>by
  have hs:(H b).isSome=true:=by
   rcases hb with z | z
   ·rw[z,e];rfl
   ·rw[z];rfl
  obtain⟨ob,e1,e2⟩:=hB b hs
  rw[q]at e1
  cases e1
  exact st b _ e2) (fun _ q=>q) fun _ _ q=>q
theorem Un.flown(un:Un fs [] H H' h0 h1)(hC:∀ b ob,h0.get? b=some ob->b ∉ fs->∃ o',h1.get? b=some o'/\B.get? b=some o')(st:B.StaysIn h2)(sl:h1.UpToSlots h2)
  (fr:∀ b∈fs,H b=none/\∃ ob,h0.get? b=some ob/\∀ vs,ob.data ≠ .fields vs):Un fs [] H H' h0 h2:=by
 have slot:∀ b ob,h0.get? b=some ob->H b=none->b∈fs->∃ sl,h2.get? b=some { ob with slots:=sl }:=fun b ob q n hb=>by
  obtain⟨_,o1,e1,nf⟩:=fr b hb
  rw[q]at e1
  cases e1
  obtain⟨s1,e2⟩:=un.slot b ob q n hb (by simp)
  obtain⟨s2,e3⟩:=sl b _ e2 nf
  exact⟨s2,e3⟩
 refine⟨fun b ob q n hb hx=>?_,fun b ob q n hb _=>slot b ob q n hb,fun b ob q n hx=>un.free b ob q n hx,fun b ob q hx=>?_,un.tups,un.uC,un.ue⟩
 ·obtain⟨o',e1,e2⟩:=hC b ob q hb
  rw[un.keep b ob q n hb hx]at e1
  cases e1
  exact st b _ e2
 ·by_cases hb:b∈fs
  ·obtain⟨s2,e⟩:=slot b ob q (fr b hb).1 hb
   exact⟨_,e⟩
  ·obtain⟨o',_,e2⟩:=hC b ob q hb
   exact⟨o',st b _ e2⟩
end
section
variable{P:Program}{w:World}{K:bO}{mg:Str->Option Value}{base:Heap}{N:List Str}{qual:Str}{scope:Scope}{f:Addr}{cd:Value}{A:Around}{outer:List Env}{s:Shared}{H:Hp}{E E':XK}
theorem j8{env:Env}{L:Addr}{l:List Env}(h:env.frame=some L):frs (env :: l)=L :: frs l:=by
 unfold frs
 rw[List.filterMap_cons,h]
theorem Inv.frames{X:Cx}{pins:List (Addr × Obj)}{σ:St}{H:Hp}{s:Shared}(I:Inv X pins σ H s):∀ b∈frs X.stack,H b=none/\∃ ob,s.heap.get? b=some ob/\∀ vs,ob.data ≠ .fields vs:=
 fun b hb=>⟨I.qi b hb,let ⟨_,ob,e,nf⟩:=I.stack.mem hb;⟨ob,e,nf⟩⟩
theorem Inv.tO{X:Cx}{pins:List (Addr × Obj)}{σ:St}{H:Hp}{s:Shared}(I:Inv X pins σ H s):∀ b∈frs X.outer,X.H₀ b=none/\∃ ob,X.s₀.heap.get? b=some ob/\∀ vs,ob.data ≠ .fields vs:=
 fun b hb=>⟨I.ok.X5 b hb,let ⟨_,ob,e,nf⟩:=I.ok.rT.mem hb;⟨ob,e,nf⟩⟩
theorem Y8(hE:∀ c d H,E' c d H->E c d H):Passes (qY P w) (pK (qY P w) P w K mg base N qual scope f cd A outer s H E) E':=by
 intro pins σ H1 s1 e s' I h
 obtain⟨ea,cls,a0,H',B,rfl,ho,hg,fl,hok,un,hB,hC,dd,hdd,hq⟩:=h
 have nL:∀ b ob,s.heap.get? b=some ob->b ≠ s.heap.objs.size:=fun b ob q=>lu (gf q)
 have J:=I.call' ho un hok hg (fun _ z=>nomatch z)
 have ub:Un (frs outer) [] H H' s.heap s'.heap:=J.base
 have YK:∀ b ob,s.heap.get? b=some ob->b ∉ frs outer->∃ o',s'.heap.get? b=some o'/\B.get? b=some o':=fun b ob q hb=>by
  obtain⟨o1,e1⟩:=I.base.there b ob q (by show b ∉ ([]:List Addr);simp)
  refine hC b o1 e1 fun z=>?_
  rw[show frs (pK (qY P w) P w K mg base N qual scope f cd A outer s H E).stack=s.heap.objs.size :: frs outer from j8 rfl]at z
  exact (bY.mp z).elim (nL b ob q) hb
 show wpAny _ _ (leaving _ (.ref ea)) _ _ s'
 refine JS (L:=s.heap.objs.size) I.ok.frames rfl fl hdd fun h' Jj sl dk=>?_
 refine⟨ea,cls,a0,H',B,rfl,ho.trans I.os,hg,Jj,hok.flown hB Jj.1,ub.flown YK Jj.1 sl I.tO,fun b hb=>?_,fun b ob q hb=>?_,dd,dk,hE _ _ _ hq⟩
 ·obtain⟨ob,_,e2⟩:=hB b hb
  exact⟨ob,Jj.1 b _ e2,e2⟩
 ·obtain⟨o',_,e2⟩:=YK b ob q hb
  exact⟨o',Jj.1 b _ e2,e2⟩
noncomputable def del(H:Hp)(e:Addr):Hp:=fun b=>if b=e then none else H b
theorem rY{H:Hp}{e:Addr}:del H e e=none:=if_pos rfl
theorem lU{H:Hp}{e b:Addr}(h:b ≠ e):del H e b=H b:=if_neg h
noncomputable def Loose(o:Option HO):Prop:=o=none ∨ ∃ φ,o=some (.ext φ)
section
variable{P:Program}{w:World}{H H':Hp}{h h':Heap}{e:Addr}{fs ex:List Addr}
theorem Loose.ne{b:Addr}{o:HO}(l:Loose (H e))(q:H b=some o)(n:∀ φ,o ≠ .ext φ):b ≠ e:=fun z=>by
 subst z
 rcases l with y | ⟨φ,y⟩
 ·rw[q]at y;cases y
 ·rw[q]at y;cases y;exact n φ rfl
theorem jL.del(x:jL P w H h)(l:Loose (H e)):jL P w (L2.del H e) h:=fun a o q=>by
 by_cases z:a=e
 ·subst z
  rw[rY]at q
  cases q
 ·rw[lU z]at q
  refine (x a o q).stay (fun _ _ _ y=>y) (fun b y=>?_) fun b xs y=>?_
  ·rw[lU (l.ne y fun _=>nofun)];exact y
  ·rw[lU (l.ne y fun _=>nofun)];exact y
theorem Un.del(u:Un fs ex H H' h h')(l:Loose (H' e)):Un fs ex H (L2.del H' e) h h':=by
 refine⟨u.keep,u.slot,fun b o q n x=>?_,u.there,fun b xs q=>?_,fun b o v q=>?_,fun b ps q=>?_⟩
 ·by_cases z:b=e
  ·rw[z,rY]
  ·rw[lU z];exact u.free b o q n x
 ·have y:=u.tups b xs q
  rw[lU (l.ne y fun _=>nofun)];exact y
 ·have y:=u.uC b o v q
  rw[lU (l.ne y fun _=>nofun)];exact y
 ·obtain⟨m,y⟩:=u.ue b ps q
  exact⟨m,by rw[lU (l.ne y fun _=>nofun)];exact y⟩
end
noncomputable def Uu(X:Cx)(E:XK):Prop:=∀(pins:List (Addr × Obj))(σ:St)(H:Hp)(s:Shared)(e C:Addr)(a0:Value)(oe:Obj)(vs:Array Value),Inv X pins σ H s->X.s₀.heap.get? e=none->Loose (H e)->s.heap.get? e=some oe->oe.cls = .ref C →
 oe.data = .fields vs->vs[0]? = some a0->vs[1]? = some .none->E (.ref C) oe.dict (del H e)->X.xe (.ref e) s
theorem qAN:Uu (pK (qY P w) P w K mg base N qual scope f cd A outer s H E) E:=by
 intro pins σ H1 s1 e C a0 oe vs I en hl he hc hd h0 h1 hq
 have es:frs (pK (qY P w) P w K mg base N qual scope f cd A outer s H E).stack=s.heap.objs.size :: frs outer:=j8 rfl
 generalize hS:e :: frs (pK (qY P w) P w K mg base N qual scope f cd A outer s H E).stack=S
 have hin:∀ env∈(pK (qY P w) P w K mg base N qual scope f cd A outer s H E).stack,∀ b,env.frame=some b->b∈S:=
  fun env he b hb=>hS ▸ Hh _ (List.mem_filterMap.mpr ⟨env,he,hb⟩)
 have inB:∀ b ob,s1.heap.get? b=some ob->b ≠ e->b ∉ frs (pK (qY P w) P w K mg base N qual scope f cd A outer s H E).stack->(PySem.W.hideAll s1.heap S).get? b=some ob:=
  fun b ob q z hb=>PySem.W.hideAll_get _ q (by rw[<-hS];exact fun y=>(bY.mp y).elim z hb)
 have hB:∀ b,(del H1 e b).isSome=true->∃ ob,s1.heap.get? b=some ob/\(PySem.W.hideAll s1.heap S).get? b=some ob:=fun b hb=>by
  obtain⟨u,hu⟩:=Option.isSome_iff_exists.mp hb
  have z:b ≠ e:=fun z=>by rw[z,rY]at hu;cases hu
  rw[lU z]at hu
  obtain⟨ob,q⟩:=(I.hok b u hu).there
  exact⟨ob,q,inB b ob q z fun y=>by rw[I.qi b y]at hu;cases hu⟩
 have YK:∀ b ob,s.heap.get? b=some ob->b ∉ frs outer->∃ o',s1.heap.get? b=some o'/\(PySem.W.hideAll s1.heap S).get? b=some o':=fun b ob q hb=>by
  obtain⟨o1,e1⟩:=I.base.there b ob q (by show b ∉ ([]:List Addr);simp)
  refine⟨o1,e1,inB b o1 e1 (fun z=>?_) fun z=>?_⟩
  ·subst z
   have en':s.heap.get? b=none:=en
   rw[q]at en'
   cases en'
  ·rw[es]at z
   exact (bY.mp z).elim (lu (gf q)) hb
 have ub:Un (frs outer) [] H (del H1 e) s.heap s1.heap:=Un.del I.base hl
 show wpAny _ _ (leaving _ (.ref e)) _ _ _
 refine GP (L:=s.heap.objs.size) (base:=PySem.W.hideAll s1.heap S) I.ok.frames rfl (fun b ob q=>PySem.W.of_hideAll _ q) (PySem.W.funFrames_hide I.stack hin) (PySem.W.hideAll_none _ (by rw[<-hS];exact HX)) he hd h1 h0 fun h2 fl sl dk=>?_
 rw[hc]at fl
 refine⟨e,.ref C,a0,del H1 e,_,rfl,I.os,I.bare,fl,(I.hok.del hl).flown hB fl.1,ub.flown YK fl.1 sl I.tO,fun b hb=>?_,fun b ob q hb=>?_,_,dk,hq⟩
 ·obtain⟨ob,_,e2⟩:=hB b hb
  exact⟨ob,fl.1 b _ e2,e2⟩
 ·obtain⟨o',_,e2⟩:=YK b ob q hb
  exact⟨o',fl.1 b _ e2,e2⟩
end
abbrev VB:List Value:=[.type "ValueError",.type "Exception",.type "BaseException",.type "object"]
theorem Inv.qCX{X:Cx}{pins:List (Addr × Obj)}{σ:St}{H:Hp}{s:Shared}{e:Addr}(I:Inv X pins σ H s)(hx:X.ex=[])(q:s.heap.get? e=none):X.s₀.heap.get? e=none:=by
 cases z:X.s₀.heap.get? e with
 | none=>rfl
 | some o=>
  obtain⟨o',y⟩:=I.base.there e o z (by rw[hx];simp)
  rw[q]at y
  cases y
theorem Inv.Ro{X:Cx}{pins:List (Addr × Obj)}{σ:St}{H:Hp}{s:Shared}{e:Addr}(I:Inv X pins σ H s)(q:s.heap.get? e=none):H e=none:=by
 cases z:H e with
 | none=>rfl
 | some o=>
  obtain⟨o',y⟩:=(I.hok e o z).there
  rw[q]at y
  cases y
noncomputable def XP(X:Cx)(pins:List (Addr × Obj))(E:St->XK)(e:Value)(s':Shared):Prop:=∃ σ1 H1 s1,Inv X pins σ1 H1 s1/\qY X.prog X.w X.stack H1 s1 (E σ1) e s'
abbrev TEX:=St->Hp->VK->XK->Prop
abbrev TSX:=Ends->(St->XK)->St->Hp->Prop
noncomputable def PEX(X:Cx)(e:Expr)(t:TEX):Prop:=∀(pins:List (Addr × Obj))(s:Shared)(σ:St)(H:Hp)(Q:VK)(E:St->XK),Inv X pins σ H s->t σ H Q (E σ)->wpAny (model X.prog X.w) X.A (eval e X.env) (EP X pins σ Q) (XP X pins E) s
noncomputable def PSX(X:Cx)(st:List Stmt)(t:TSX):Prop:=∀(pins:List (Addr × Obj))(s:Shared)(σ:St)(H:Hp)(D:Ends)(E:St->XK),Inv X pins σ H s->t D E σ H->wpAny (model X.prog X.w) X.A (execs st X.env) (SP X pins D) (XP X pins E) s
section
variable{X:Cx}{k:Nat}{f C:Addr}{fd:FuncData}{ps:List Str}{sp:Sp}{mX:List V}{ds:List Value}{x m:Str}{p pos pos':Pos}{e:Expr}{es:List Expr}{t:TA}{tx:TEX}
noncomputable def Yw(sp:Sp)(mX:List V)(t:TA):TEX:=fun σ H Q E=>t σ H fun vs H1=>sp (vs++mX) H1 Q E
theorem Vp{pins:List (Addr × Obj)}{σ:St}{H:Hp}{s:Shared}{Q:VK}{E:St->XK}{us:List Value}{vs:List V}(F:aG X.prog X.w X.K X.mg X.base (qY X.prog X.w) k f fd ps sp)(hr:fP k X.A)(hb:Binds X.K fd ps ds)(hd:Vals mX ds)
  (I:Inv X pins σ H s) (r:Vals vs us) (h:sp (vs++mX) H Q (E σ)):wpAny (model X.prog X.w) X.A (call (.ref f) us) (EP X pins σ Q) (XP X pins E) s:=by
 have r2:Vals (vs++mX) (us++ds):=r.append hd
 have hl:(us++ds).length=ps.length:=by
  rw[<-r2.length]
  exact F.len _ _ _ _ h
 refine wpAny_call (codeAny_mono (F.run X.A X.stack s H ⟨us,[]⟩ (us++ds) (vs++mX) Q (E σ) hr I.env0 (hb s us I.mV hl) r2 h) fun r s' z=>?_)
 cases r with
 | error e=>exact⟨σ,H,s,I,z⟩
 | ok fl=>
  cases fl with
  | ret u=>exact I.after z
  | next=>exact False.elim z
  | brk=>exact False.elim z
  | cont=>exact False.elim z
theorem R4(F:aG X.prog X.w X.K X.mg X.base (qY X.prog X.w) k f fd ps sp)(hr:fP k X.A)(hg:Gl X x)(hm:X.mg x=some (.ref f))(hk:PySem.W.keepIn X.K (.ref f)=true)(hb:Binds X.K fd ps ds)(hd:Vals mX ds)
  (ha:PA X.nox (e :: es) t) (hdb:(x == ("__debug__" : Str))=false:=by decide) (he:starEach (e :: es) X.env=(false,eval e X.env) :: starEach es X.env:=by rfl) (hpl:(backTo pos (starEach es X.env)).any (·.1)=false:=by rfl) :
  PEX X (.Call (.Name x p) (e :: es) [] pos) (Yw sp mX t):=by
 intro pins s σ H Q E I h
 refine wpAny_Call_Name_kw (p8 I hg hm ?_ hdb)
 refine PySem.W.callWith_K (h₀:=X.base) I.ok.mod.Zy hk (wpAny_mono (ha pos pins s σ H _ (I.wish _) h) (fun us s1 z=>?_) fun _ _ z=>z.elim) he hpl
 refine aK fun G_ g_=>?_
 obtain⟨vs,H1,I1,r,q⟩:=z
 refine g_ ?_
 clear g_ G_
 exact⟨I1.gY.mV,Vp F hr hb hd I1.gY r q⟩
theorem Vs{i:Nat}(hN:X.N.Nodup)(hi:X.N[i]? = some x)(hx:Loc X.env.scope x)(he:PEX X e tx)(hs:swapsWith e (some (.Name x pos')) pos.line X.env=pure false:=by rfl)(hf:X.fn x=true ∨ X.env.scope.names.lookup x=some .local:=by first | exact .inl rfl | exact .inr rfl | assumption) :
  PSX X [.Assign [.Name x pos'] e pos] (fun D E σ H=>tx σ H (fun v H1=>D.nx (σ.set i (some v)) H1) (E σ)):=by
 intro pins s σ H D E I h
 refine wpAny_execs_cons (wpAny_Assign_Name (bJ (he pins s σ H _ E I h) fun v s1 ⟨y,H1,I1,r1,q1⟩=>?_) hs)
 exact mY I1 hN hi hx r1 (fun s2 I2=>wpAny_execs_nil ⟨_,H1,I2,q1⟩) hf
end
abbrev Cx.inH(X:Cx)(e:Addr):Cx:={ X with A:=X.A.mark (some (.ref e)),calm:=false,xe:=fun _ _=>False }
section
variable{X:Cx}{pins:List (Addr × Obj)}{σ:St}{H:Hp}{s:Shared}{ea:Addr}
theorem Inv.inH(I:Inv X pins σ H s)(ea:Addr):Inv (X.inH ea) pins σ H s:=
 ⟨⟨I.ok.mod,I.ok.kind,I.ok.glob,I.ok.blt,I.ok.above,I.ok.inj,I.ok.has,I.ok.cab,(fun z=>Bool.noConfusion z),I.ok.frames,I.ok.stk,I.ok.exf,I.ok.bs,I.ok.QB,I.ok.JD,I.ok.Tw,I.ok.rT,I.ok.X5⟩,I.os,I.bare,I.base,I.loc,I.cell,I.free,I.jU,I.pin,I.hok,I.len⟩
theorem Inv.unH(I:Inv (X.inH ea) pins σ H s)(ok:X.Ok):Inv X pins σ H s:=⟨ok,I.os,I.bare,I.base,I.loc,I.cell,I.free,I.jU,I.pin,I.hok,I.len⟩
theorem SP.unH{D:Ends}{f:Flow}{s':Shared}(ok:X.Ok)(h:SP (X.inH ea) pins D f s'):SP X pins D f s':=by
 cases f with
 | next=>obtain⟨σ',H',I,q⟩:=h;exact⟨σ',H',I.unH ok,q⟩
 | brk=>obtain⟨σ',H',I,q⟩:=h;exact⟨σ',H',I.unH ok,q⟩
 | cont=>obtain⟨σ',H',I,q⟩:=h;exact⟨σ',H',I.unH ok,q⟩
 | ret u=>obtain⟨v,σ',H',I,r,q⟩:=h;exact⟨v,σ',H',I.unH ok,r,q⟩
variable{C:Addr}{x:Str}{np hpos pos:Pos}{body:List Stmt}{b0:Stmt}{suite:List Stmt}{tb:TSX}{th:TS}
end
end L2
namespace L2
open PySem PySem.Spec PyProof.Rows PySem.W
structure ExcQ(K:Frag)(C:Addr):Prop where
 ga:findIn K (.ref C) "__getattribute__" = some (some (.builtin "BaseException.__getattribute__"))
 no:findIn K (.ref C) "__getattr__" = some none
 cl:findIn K (.ref C) "__class__" = some (some (.builtin "object.__class__"))
 ob:mroIn K C (.type "object")=some true
 be:mroIn K C (.type "BaseException")=some true
 is:(clsIn K C).isSome=true
section
variable{prog:Program}{w:World}{A:Around}{E:Value->Shared->Prop}{h:Heap}{g:Array GenState}{d:Drawn}{t:Nat}{os:OsState}{a C:Addr}{o:Obj}{K:Frag}
end
section
variable{X:Cx}
end
end L2
namespace L2
open PySem PySem.Spec PyProof.Rows
section
variable{X:Cx}{pins:List (Addr × Obj)}{σ:St}{H:Hp}{s:Shared}{ea C:Addr}{x n:Str}{np hpos pos:Pos}{body orelse:List Stmt}{b0:Stmt}{suite:List Stmt}{tb:TSX}{th te:TS}
noncomputable def qBI(K:bO)(C:Addr)(tb:TSX)(th te:TS):TS:=fun D σ H=>tb { D with nx:=te D } (fun σ' cls _ H'=>PySem.W.exmOne K cls (.ref C)=some true/\th D σ' H') σ H
theorem Vt(hb:PSX X body tb)(hg:Gl X x)(hm:X.mg x=some (.ref C))(hh:∀ e:Addr,Aq (X.inH e) (b0 :: suite) th)(hel:Aq X orelse te)(hst:X.stack=X.env :: X.outer:=by rfl)(hfr:X.env.frame=some X.env.locals:=by rfl)(hdb:(x == ("__debug__" : Str))=false:=by decide) :
  PS X (.Try body [.ExceptHandler (some (.Name x np)) none (b0 :: suite) hpos] orelse [] pos) (qBI X.K C tb th te):=by
 intro pins s σ H D I h
 refine wpAny_Try_except (wpAny_mono (hb pins s σ H _ _ I h) (fun f s1 q=>?_) fun e s1 q=>?_)
 ·cases f with
  | next=>
   obtain⟨σ',H',I',q⟩:=q
   exact hel pins s1 σ' H' D I' q
  | brk=>exact q
  | cont=>exact q
  | ret u=>exact q
 obtain⟨σ1,H1,s0,I1,ea,cls,a0,H',B,rfl,ho,hgn,fl,hok,un,hB,hC,_,_,hmt,hth⟩:=q
 have Te:=I1.ok.frames
 rw[hst]at fl Te
 refine wpAny_looks_onW Te hfr fl fun h4 Ly sl4=>wpAny_landsW Ly fun h5 fl5 sl5=>?_
 have u5:=un.flown hC fl5.1 (sl4.trans sl5) I1.frames
 have J5:Inv X pins σ1 H' { s1 with heap:=h5 }:=I1.call' ho u5 (hok.flown hB fl5.1) hgn (fun _ z=>nomatch z)
 obtain⟨ob,hob,hoc⟩:=fl5.there
 refine wpAny_handleBy_cons (codeAny_handlers_test (p8 (J5.inH ea) hg hm ?_ hdb)) (by intro z;cases z)
 have LT:PySem.W.Looks (model X.prog X.w) h5 (typeOf (.ref ea)) cls:=by
  rw[<-hoc]
  exact (PySem.W.Looks.ld hob).andThen .now
 refine (PySem.W.exm_one J5.mV LT hmt).here (codeAny_handlers_suite ?_)
 refine lands_againW fl5 fun h6 fl6 sl6=>?_
 have u6:=un.flown hC fl6.1 ((sl4.trans sl5).trans sl6) I1.frames
 have J6:Inv X pins σ1 H' { s1 with heap:=h6 }:=I1.call' ho u6 (hok.flown hB fl6.1) hgn (fun _ z=>nomatch z)
 exact wpAny_mono (hh ea pins _ σ1 H' D (J6.inH ea) hth) (fun f s7 q=>q.unH I1.ok) fun _ _ z=>z.elim
end
section
variable{X:Cx}
end
section
variable{P:Program}{w:World}{K:bO}{mg:Str->Option Value}{base:Heap}
theorem cz.okX{x qual:Str}{st:Stmt}{f:Addr}{fd:FuncData}{N ps:List Str}{k:Nat}{sp:Sp}(F:cz K x qual st f fd)(S:aH N ps (aA st))(len:∀ vs H Q E,sp vs H Q E->vs.length=ps.length)
  (hbody:∀(cdv:Value)(A:Around)(outer:List Env)(s:Shared)(H:Hp)(vs:List V)(Q:VK)(E:XK),fP k (A.deeper (envOfC qual (aA st) s.heap.objs.size f cdv))->sp vs H Q E →
   ∃ t,Aq (pK (qY P w) P w K mg base N qual (aA st) f cdv A outer s H E) (iJ st) t/\t { nx:=fun _ H'=>Q .non H',rt:=Q } (start N vs) H):aG P w K mg base (qY P w) (k+1) f fd ps sp:=by
 refine aK fun G_ g_=>?_
 obtain⟨oc,od,kV,doc,pm,an,cdv,ct,osl,rfl,lk,hcd⟩:=F.ex
 refine g_ ?_
 clear g_ G_
 exact YM lk hcd S len fun A outer s H vs Q E hr hsp=>hbody cdv A outer s H vs Q E hr hsp
end
end L2
namespace L2
open PySem PySem.Spec PyProof.Rows PySem.W
noncomputable def qK(K:Frag)(C fI:Addr):Bool:=match K.lookup C with
 | some ⟨.type "type",_,.cls cd,sl⟩=>(match cd.mro,sl.toList with
  | .ref C1 :: bm,[_,_,_,_,some (.builtin n),_]=>C1 == C && (n == "ValueError.__new__" && (!cd.hasDel && (cd.hasDict && (tailIn K VB bm && (nsOkIn K cd.ns && (nsIn K cd.ns "__init__" == some (some (.ref fI)) && isFn K (.ref fI)))))))
  | _,_=>false)
 | _=>false
noncomputable def HQ(h:Heap)(C fI:Addr):Prop:=∃ bm N nm qn bs sn sub ab col dd k0 k1 k2 k3 k5 mN oI,h.get? C=some (excClassObj nm qn C N bs bm true sn sub ab col dd k0 k1 k2 k3 k5 "ValueError.__new__")/\h.Ns N mN ∧
 mN "__init__" = some (.ref fI)/\OwnTail h VB bm/\h.get? fI=some oI/\oI.cls = .type "function"
theorem Wj{K:Frag}{h:Heap}{N:Addr}{mg:Str->Option Value}{n:Str}{v:Value}(X:K.In h)(G:h.Ns N mg)(e:nsIn K N n=some (some v)):mg n=some v:=by
 obtain⟨o,es,ep,ho,hd,_,hf⟩:=G
 unfold nsIn at e
 split at e
 ·rename_i c d es1 n1 sl q
  have z:=X _ _ q
  rw[ho]at z
  cases z
  cases hd
  split at e
  ·rename_i he
   cases e
   rw[<-hf]
   unfold nsFind findBy
   rw[<-Array.find?_toList,he]
   rfl
  ·split at e <;> cases e
 ·cases e
theorem HQ.of{K:Frag}{h:Heap}{C fI:Addr}(q:qK K C fI=true)(X:K.In h):HQ h C fI:=by
 unfold qK at q
 split at q
 ·rename_i ddc cdc slc lk
  split at q
  ·rename_i C1 bm k0 k1 k2 k3 n k5 em es
   simp only[Bool.and_eq_true,beq_iff_eq,Bool.not_eq_true']at q
   obtain⟨q1,q2,q3,q3d,q4,q5,q6,q7⟩:=q
   subst q1 q2
   obtain⟨nm,bs,mro,ns,qn,hd,sn,sub,ab,col,del⟩:=cdc
   simp only at em q3 q5 q6 q3d
   subst em q3 q3d
   obtain⟨l⟩:=slc
   simp only at es
   subst es
   have z:∃ oI,h.get? fI=some oI/\oI.cls = .type "function" := by
    unfold isFn at q7
    have q8:=beq_iff_eq.mp q7
    simp only[typeIn]at q8
    cases lf:K.lookup fI with
    | none=>rw[lf]at q8;cases q8
    | some ob=>rw[lf]at q8;exact⟨ob,X _ _ lf,kJ q8⟩
   obtain⟨oI,z1,z2⟩:=z
   exact⟨bm,ns,nm,qn,bs,sn,sub,ab,col,ddc,k0,k1,k2,k3,k5,_,oI,X _ _ lk,.of_isNs (isNs_of_in X q5),Wj X (.of_isNs (isNs_of_in X q5)) q6,tail_of_in X q4,z1,z2⟩
  ·cases q
 ·cases q
section
variable{prog:Program}{w:World}{A:Around}{E:Value->Shared->Prop}{h:Heap}{g:Array GenState}{d:Drawn}{t:Nat}{os:OsState}{C fI:Addr}
theorem PL{rest:List Value}{Q:Value->Shared->Prop}(c:HQ h C fI)(hrest:rest.length<=sizeLine)
  (hq:∀ h' e,Heap.MadeExcOf h h' e (.ref C) rest->wpAny (model prog w) (A.under (.builtin "type.__call__" ⟨.ref C :: rest,[]⟩)) (call (.ref fI) (.ref e :: rest)) (fun r s'=>r = .none/\Q (.ref e) s') E ⟨h',g,d,t,os⟩) :
  wpAny (model prog w) A (call (.ref C) rest) Q E ⟨h,g,d,t,os⟩:=by
 obtain⟨bm,N,nm,qn,bs,sn,sub,ab,col,dd,k0,k1,k2,k3,k5,mN,oI,hC,hn,hi,T,hfI,hfc⟩:=c
 have F:=PySem.F.excBase_ValueError
 have f1:=tc_lookup
 have f2:=tc_bind (.ref C)
 have hT:(⟨h,g,d,t,os⟩:Shared).TypeIs (.ref C) "type" := ⟨_,hC,rfl⟩
 refine wpAny_call (codeAny_of_tree ?_)
 show wpAny _ _ (callAny (.ref C) _) _ _ _
 repeat (any_goals (first | assumption | with_reducible refine wpAny_loadPart_at hC ?_ | wp_step))
 refine⟨rfl,codeAny_call_builtin_at (Code.quiet_builtin _ (by decide +kernel)) entry_typeCall (wpAny_check_type_call_sub hC ?_)⟩
 repeat (first | with_reducible refine wpAny_loadPart_at hC ?_ | with_reducible refine wpAny_madeBy_exc hC ?_ | wp_step)
 refine codeAny_call_builtin_code (Code.quiet_builtin _ F.quiet) (wpAny_check_new_subT F T hC (codeAny_exc_new_subT F T hC ?_ hrest))
 show wpAny _ _ _ _ _ ⟨(h.push { cls:=.type "tuple",data:=.seq rest.toArray }).push { cls:=.ref C,data:=.fields #[.ref h.objs.size,.none,.none,.none,.bool false,.none] },g,d,t,os⟩
 generalize hh2:(h.push { cls:=.type "tuple",data:=.seq rest.toArray }).push { cls:=.ref C,data:=.fields #[.ref h.objs.size,.none,.none,.none,.bool false,.none] }=h2
 have k2:∀ b o,h.get? b=some o->h2.get? b=some o:=fun b o e=>by rw[<-hh2];exact jJ _ (jJ _ e)
 have hget:h2.get? (h.objs.size+1)=some { cls:=.ref C,data:=.fields #[.ref h.objs.size,.none,.none,.none,.bool false,.none] }:=by rw[<-hh2];heap_get
 have htup:h2.get? h.objs.size=some { cls:=.type "tuple",data:=.seq rest.toArray }:=by rw[<-hh2];exact jJ _ (Heap.get?_push_at rfl rfl)
 have hcC:(Value.ref C :: bm).contains (.ref C)=true:=by simp
 have hC2:=k2 _ _ hC
 unfold isInstance
 repeat (first | with_reducible refine wpAny_loadPart_at hget ?_ | (with_reducible refine wpAny_isSubtype_exc hC2 ?_;rw[hcC]) | wp_step)
 show wpAny _ _ (typeLookup (.ref C) _) _ _ _
 refine wpAny_typeLookup_tail hC2 (hn.keeps k2) (T.keeps k2) F.mroIs F.init.lookup ?_
 rw[hi]
 refine wpAny_holding (wpAny_bind ?_)
 unfold bindSpecial
 refine wpAny_bind (wpAny_typeOf (T := "function") ⟨_,k2 _ _ hfI,hfc⟩ ?_)
 rw[if_pos (by decide)]
 refine wpAny_pure (wpAny_bind (wpAny_mono (hq _ (h.objs.size+1) ⟨k2,Heap.get?_none_of_le (Nat.le_succ _),h.objs.size,hget,Heap.get?_none_of_le (bT _),htup⟩) (fun r s' hr=>?_) fun _ _ x=>x))
 obtain⟨rfl,hQ⟩:=hr
 wp_walk
 exact hQ
end
section
variable{M:Model}{A:Around}{E:Value->Shared->Prop}{env:Env}{C fI:Addr}
theorem Ii{s:Shared}{x:Sem Value}{Q:Flow->Shared->Prop}(hh:A.handled=none)
  (h:wpAny M A x (fun v s₁ => ∃ e oe vs,v = .ref e/\HQ s₁.heap C fI/\s₁.heap.get? e=some oe/\oe.cls = .ref C/\oe.data = .fields vs/\vs[1]? = some .none/\E (.ref e) s₁) E s) :
  wpAny M A (raiseStmt env (some x) none) Q E s:=by
 unfold raiseStmt
 refine wpAny_bind (wpAny_mono h (fun v s₁ h₁=>?_) fun _ _ x=>x)
 obtain⟨e,oe,vs,rfl,⟨bm,N,nm,qn,bs,sn,sub,ab,col,dd,k0,k1,k2,k3,k5,mN,oI,hC,hn,hi,T,hfI,hfc⟩,he,hc,hd,h1,hE⟩:=h₁
 have hcB:(Value.ref C :: bm).contains (.type "BaseException")=true:=by rw[List.contains_cons,T.hasType PySem.F.excBase_ValueError.hasBase,Bool.or_true]
 obtain⟨hp,g,d,tk,os⟩:=s₁
 obtain⟨c1,d1,dt,sl⟩:=oe
 simp only at hc hd
 subst hc hd
 have fld:∀ {Q':Value->Shared->Prop},Q' .none ⟨hp,g,d,tk,os⟩->wpAny M A (field (.ref e) 1) Q' E ⟨hp,g,d,tk,os⟩:=fun z=>wpAny_field he rfl h1 z
 repeat (first | with_reducible refine wpAny_loadPart_at he ?_ | with_reducible refine wpAny_loadPart_at hC ?_ | (with_reducible refine wpAny_isSubtype_exc hC ?_;rw[hcB]) | with_reducible refine fld ?_ | wp_step)
 exact wpAny_raiseNew_none hh hE
end
noncomputable def qB3(e C:Addr)(dd:Option Addr)(h:Heap):Prop:=∃ t0:Addr,h.get? e=some { cls:=.ref C,dict:=dd,data:=.fields #[.ref t0,.none,.none,.none,.bool false,.none] }
noncomputable def uh(e C:Addr)(dd:Option Addr):HO:=.ext (qB3 e C dd)
theorem Bv{P:Program}{w:World}{H:Hp}{h:Heap}{e C:Addr}{dd:Option Addr}(x:qB3 e C dd h):bN P w H h e (uh e C dd):=
 ⟨x,let ⟨_,q⟩:=x;⟨_,q⟩,fun _ _ ⟨t0,q⟩ k=>⟨t0,k _ q⟩⟩
section
variable{X:Cx}{pins:List (Addr × Obj)}{σ:St}{H:Hp}{s:Shared}
theorem Inv.laidN{a:Addr}{o:HO}{h':Heap}{t':Nat}(I:Inv X pins σ H s)(k:∀ b u,s.heap.get? b=some u->h'.get? b=some u)(hp:s.heap.get? a=none)(new:bN X.prog X.w (upd H a o) h' a o) :
  Inv X pins σ (upd H a o) { s with heap:=h',toks:=t' }:=by
 have hn:H a=none:=I.Ro hp
 refine I.un ⟨fun b u q _ _ _=>k b u q,fun b u q _ _ _=>⟨u.slots,k b u q⟩,fun b u q n _=>?_,fun b u q _=>⟨u,k b u q⟩,fun b xs q=>?_,fun b u xs q=>?_,fun b ps q=>⟨#[],?_⟩⟩ fun b u q=>?_
 ·rw[zQ (fun z=>by subst z;rw[hp]at q;cases q)];exact n
 ·rw[zQ (zM q hn)];exact q
 ·rw[zQ (zM q hn)];exact q
 ·rw[zQ (zM q hn),q];simp
 ·by_cases hb:b=a
  ·subst hb
   rw[zC]at q
   cases q
   exact new
  ·rw[zQ hb]at q
   exact (I.hok b u q).stay (fun c v _ z=>k c v z) (fun c z=>by rw[zQ (zM z hn)];exact z) fun c xs z=>by rw[zQ (zM z hn)];exact z
end
noncomputable def VR(C:Addr)(sp:Sp)(mX:List V)(E:XK)(t:TA):TS:=fun _ σ H=>t σ H fun vs H1=>vs.length<=sizeLine/\∀ e,H1 e=none →
 sp (.ref e :: (vs++mX)) (upd H1 e (uh e C none)) (fun v H2=>v = .non/\∃ dd,H2 e=some (uh e C dd)/\E (.ref C) dd (del H2 e)) E0
theorem NB{X:Cx}{k:Nat}{C fI:Addr}{fd:FuncData}{ps:List Str}{sp:Sp}{mX:List V}{ds:List Value}{x:Str}{np cpos pos:Pos}{e0:Expr}{rest:List Expr}{t:TA}{E:XK}(hx:Uu X E)(hc:X.calm=true)(hg:Gl X x)
  (hm:X.mg x=some (.ref C)) (hC:qK X.K C fI=true) (hk:keepIn X.K (.ref C)=true) (F:aG X.prog X.w X.K X.mg X.base (qY X.prog X.w) k fI fd ps sp) (hr:fP (k+1) X.A) (hb:Binds X.K fd ps ds) (hd:Vals mX ds)
  (ha:PA X (e0 :: rest) t) (hex:X.ex=[]:=by rfl) (hdb:(x == ("__debug__" : Str))=false:=by decide)
  (he:starEach (e0 :: rest) X.env=(false,eval e0 X.env) :: starEach rest X.env:=by rfl) (hpl:(backTo cpos (starEach rest X.env)).any (·.1)=false:=by rfl) :
  PS X (.Raise (some (.Call (.Name x np) (e0 :: rest) [] cpos)) none pos) (VR C sp mX E t):=by
 intro pins s σ H D I h
 rw[arm_exec_Raise]
 simp only[evalOpt,Option.map]
 refine wpAny_bind (wpAny_standAt (Ii (C:=C) (fI:=fI) (I.ok.hd hc) (wpAny_bind (wpAny_mono ?_ (fun v s₃ h₃=>wpAny_bind (wpAny_standAt (wpAny_pure h₃))) fun _ _ x=>x))))
 refine wpAny_Call_Name_kw (p8 I hg hm ?_ hdb)
 refine callWith_K (h₀:=X.base) I.ok.mod.Zy hk (bJ (ha cpos pins s σ H _ I h) fun us s1 ⟨vs,H1,I1,r,q1,q⟩=>⟨I1.mV,?_⟩) he hpl
 obtain⟨hh,g,d,tk,os⟩:=s1
 refine PL (HQ.of hC I1.mV) (by rw[List.nil_append,<-r.length];exact q1) fun h' e hm=>?_
 obtain⟨t0,z1,_,_⟩:=hm.there
 have hH:H1 e=none:=I1.Ro hm.new
 have I2:=I1.laidN (o:=uh e C none) (t':=tk) hm.keeps hm.new (Bv ⟨t0,z1⟩)
 have hq:=q e hH
 have r2:Vals (V.ref e :: (vs++mX)) (Value.ref e :: (us++ds)):=.cons rfl (r.append hd)
 have hl:(Value.ref e :: us++ds).length=ps.length:=by
  have z:=r2.length
  rw[F.len _ _ _ _ hq]at z
  exact z.symm
 refine wpAny_call (codeAny_mono (F.run _ X.stack _ _ ⟨Value.ref e :: us,[]⟩ (Value.ref e :: (us++ds)) _ _ E0 (hr.make C us []) (I2.env0.make C us []) (hb _ (Value.ref e :: us) I2.mV hl) r2 hq) fun r s' z=>?_)
 cases r with
 | error e=>obtain⟨_,_,_,_,_,_,_,_,_,_,_,_,_,_,_,y⟩:=z;exact y.elim
 | ok fl=>
  cases fl with
  | ret u=>
   obtain⟨v,H',I3,rv,ev,dd,y1,y2⟩:=I2.after z
   subst ev
   obtain⟨⟨t1,y3⟩,_⟩:=I3.hok e _ y1
   exact⟨rv,e,_,_,rfl,HQ.of hC I3.mV,y3,rfl,rfl,rfl,hx pins σ H' s' e C (.ref t1) _ _ I3 (I1.qCX hex hm.new) (.inr ⟨_,y1⟩) y3 rfl rfl rfl rfl y2⟩
  | next=>exact False.elim z
  | brk=>exact False.elim z
  | cont=>exact False.elim z
section
variable{prog:Program}{w:World}{A:Around}{E:Value->Shared->Prop}{s:Shared}{C fI e t0:Addr}{dd:Option Addr}
theorem PX{rest:List Value}{Q:Value->Shared->Prop}(c:HQ s.heap C fI)(he:s.heap.get? e=some { cls:=.ref C,dict:=dd,data:=.fields #[.ref t0,.none,.none,.none,.bool false,.none] })(hrest:rest.length<=sizeLine)
  (h:∀ h',qB3 e C dd h'->(∀ b o,b ≠ e->s.heap.get? b=some o->h'.get? b=some o)->Q .none { s with heap:=h' }):wpAny (model prog w) A (call (.builtin "ValueError.__init__") (.ref e :: rest)) Q E s:=by
 obtain⟨bm,N,nm,qn,bs,sn,sub,ab,col,d1,k0,k1,k2,k3,k5,mN,oI,hC,hn,hi,T,hfI,hfc⟩:=c
 have F:=PySem.F.excBase_ValueError
 obtain⟨hp,g,d,tk,os⟩:=s
 refine wpAny_call (codeAny_call_builtin F.init.plain F.initEntry (wpAny_check_init_subT F T hC he rfl ?_))
 unfold Builtin.«BaseException.__init__»
 dsimp only
 rw[if_neg (by simp)]
 unfold newTuple Builtin.BaseException.bexcPut
 have Lz:=jJ (h:=hp) { cls:=.type "tuple",data:=.seq rest.toArray } he
 refine wpAny_bind (wpAny_newObj_type (wpAny_bind (wpAny_bind (wpAny_field Lz rfl rfl (wpAny_bind (wpAny_setField Lz rfl (by show 0 < 6;decide) ?_))))) (by show rest.toArray.size<=sizeLine;rw[qd];exact hrest))
 refine wpAny_letGo (wpAny_pure (h _ ⟨hp.objs.size,?_⟩ fun b o hb ho=>?_))
 ·rw[Heap.get?_update_self _ Lz rfl]
  rfl
 ·rw[Heap.get?_update_other _ _ (Ne.symm hb)]
  exact jJ _ ho
end
noncomputable def tBase(K:Frag)(t:TA):TS:=fun D σ H=>t σ H fun vs H1 => ∃ e C fI dd xs,vs = .ref e :: xs/\xs.length<=sizeLine/\qK K C fI=true/\H1 e=some (uh e C dd)/\D.nx σ (upd H1 e (uh e C dd))
theorem Vx{X:Cx}{B:Addr}{x:Str}{np ap cpos pos:Pos}{e0:Expr}{rest:List Expr}{t:TA}{pl:Sem Bool}(hg:Gl X x)(hm:X.mg x=some (.ref B))(hsp:specialIn X.K (.ref B) "__getattribute__" = some (some (.builtin "type.__getattribute__")))
  (hrd:readsIn X.K B (.type "type")=true) (hf:findCls X.K (.ref B) (.type "type") "__init__" = some (.val (.builtin "ValueError.__init__"))) (ha:PA X (e0 :: rest) t) (hdb:(x == ("__debug__" : Str))=false:=by decide)
  (he:starEach (e0 :: rest) X.env=(false,eval e0 X.env) :: starEach rest X.env:=by rfl) (hpl:(backTo cpos (starEach rest X.env)).any (·.1)=false:=by rfl)
  (ht:eval (.Call (.Attribute (.Name x np) "__init__" ap) (e0 :: rest) [] cpos) X.env=(do
   let ov ← eval (.Name x np) X.env
   standAt ap.atName
   let (f,first) ← holding [ov] (getMethod ov "__init__" pl)
   callWith cpos f first (backTo cpos (starEach (e0 :: rest) X.env)) (backToKw cpos (keywordEach [] X.env))):=by rfl)
  (hs:swapsWith (.Call (.Attribute (.Name x np) "__init__" ap) (e0 :: rest) [] cpos) none pos.line X.env=pure false:=by rfl) :
  PS X (.Expr (.Call (.Attribute (.Name x np) "__init__" ap) (e0 :: rest) [] cpos) pos) (tBase X.K t):=by
 intro pins s σ H D I h
 refine wpAny_Expr_any (Q:=SP X pins D) ?_ I.quiet hs
 refine methodCall_KW (pl:=pl) (p8 I hg hm ?_ hdb) ht
 refine method_cls I.mV hsp (cls_value I.mV hrd hf rfl ?_)
 refine callWith_builtin1 (bJ (ha cpos pins _ σ H _ (I.tok _) h) fun us s1 ⟨vs,H1,I1,r,z⟩=>?_) he hpl
 obtain⟨e,C,fI,dd,xs,rfl,q1,q2,q3,q4⟩:=z
 obtain⟨u,ws,rfl,r1,r2⟩:∃ u ws,us=u :: ws/\RelV (.ref e) u/\Vals xs ws:=by
  cases r with
  | cons a b=>exact⟨_,_,rfl,a,b⟩
 cases (show u=Value.ref e from r1)
 obtain⟨⟨t0,y⟩,_⟩:=I1.hok e _ q3
 refine PX (HQ.of q2 I1.mV) y (by rw[<-r2.length];exact q1) fun h' nx k=>?_
 exact⟨σ,_,I1.write (x:=e) (e:=e) (t':=s1.toks) (by rw[q3];exact True.intro) (.inl rfl) k (let ⟨_,z⟩:=nx;⟨_,z⟩) (Bv nx),q4⟩
end L2
namespace L2
open PySem PySem.Spec PyProof.Rows PySem.W
open Builtin Builtin.ObjectAttr
noncomputable def RC:List Value->Bool
 | .ref _ :: r=>RC r
 | l=>l == VB
theorem uP(self:Value):∀ {l:List Value},RC l=true->refuseLoop self "__setattr__" l=pure ()
 | .ref c :: r,e=>by rw[refuseLoop_ref];exact uP self (l:=r) e
 | [],e=>by cases e
 | .none :: r,e=>by cases e
 | .bool b :: r,e=>by cases e
 | .int i t :: r,e=>by cases e
 | .float _ _ :: r,e=>by cases e
 | .str _ _ :: r,e=>by cases e
 | .type n :: r,e=>by
  rw[show (Value.type n :: r)=VB from beq_iff_eq.mp e]
  exact PySem.F.store_ValueError.passes self
 | .builtin n :: r,e=>by cases e
 | .notImplemented :: r,e=>by cases e
 | .ellipsis :: r,e=>by cases e
structure Xp(K:Frag)(C:Addr)(f:Str):Prop where
 sa:findIn K (.ref C) "__setattr__" = some (some (.builtin "object.__setattr__"))
 no:findIn K (.ref C) f=some none
 ok:((clsIn K C).any fun cd=>RC cd.mro && cd.hasDict)=true
 ob:mroIn K C (.type "object")=some true
section
variable{prog:Program}{w:World}{A:Around}{E:Value->Shared->Prop}{s:Shared}{K:Frag}{e C:Addr}{f:Str}{v:Value}{vs:Array Value}
theorem Vf{Q:Unit->Shared->Prop}(X:K.In s.heap)(q:Xp K C f)(he:s.heap.get? e=some { cls:=.ref C,dict:=none,data:=.fields vs })
  (h:∀ h' t',h'.get? e=some { cls:=.ref C,dict:=some s.heap.objs.size,data:=.fields vs }->h'.Ns1 s.heap.objs.size (fun y=>if y=f then some v else none)->(∀ b o,b ≠ e->s.heap.get? b=some o->h'.get? b=some o) →
   Q () { s with heap:=h',toks:=t' }):wpAny (model prog w) A (setAttr (.ref e) f v) Q E s:=by
 have I:InstAt s.heap e { cls:=.ref C,dict:=none,data:=.fields vs } C none:=⟨he,rfl,rfl,True.intro⟩
 refine set_plain X I q.sa ?_
 have SF:=PySem.F.store_object
 obtain⟨cd,hc,ho⟩:=any_some q.ok
 obtain⟨hp,hd⟩:=Bool.and_eq_true_iff.mp ho
 have sub:Looks (model prog w) s.heap (isInstance (.ref e) (.type "object")) true:=I.type.andThen (looks_mroIn X q.ob)
 refine codeAny_call_builtin SF.slot.plain SF.entry (@check_slot (model prog w) _ _ { s with toks:=s.toks+1 } "object.__setattr__" "object" "__setattr__" (.ref e) [.str f s.toks,v] [] _ SF.kind SF.split sub (SF.args (.ref e) (.str f s.toks) v) ?_)
 have hm:Looks (model prog w) s.heap (mroOf (.ref C)) cd.mro:=(looks_clsIn X hc).andThen .now
 rw[osa_eq,refuse_eq]
 refine wpAny_bind (wpAny_bind (Looks.here (s:={ s with toks:=s.toks+1 }) I.type (wpAny_bind (Looks.here (s:={ s with toks:=s.toks+1 }) hm ?_))))
 rw[uP _ hp]
 refine wpAny_pure (wpAny_bind (Looks.here (s:={ s with toks:=s.toks+1 }) I.type (wpAny_bind (Looks.here (s:={ s with toks:=s.toks+1 }) (looks_findIn X q.no) (wpAny_bind (wpAny_pure ?_))))))
 show wpAny _ _ (storeInOwnDict (.ref e) (.ref C) (.str f s.toks) f v false) _ _ _
 refine wpAny_bind (wpAny_pure (wpAny_bind (wpAny_bind (wpAny_loadPart he (wpAny_bind (Looks.here (s:={ s with toks:=s.toks+1 }) (looks_clsIn X hc) ?_))))))
 rw[hd]
 have hxs:e ≠ s.heap.objs.size:=lu (gf he)
 have Lz:(s.heap.push { cls:=.type "dict",data:=.dict #[] }).get? e=some { cls:=.ref C,dict:=none,data:=.fields vs }:=jJ _ he
 refine wpAny_bind (wpAny_alloc' (wpAny_bind (wpAny_update' Lz (wpAny_pure ?_))))
 have e2:((s.heap.push { cls:=.type "dict",data:=.dict #[] }).update e fun o=>{ cls:=o.cls,dict:=some s.heap.objs.size,data:=o.data,slots:=o.slots }).get? s.heap.objs.size=some { cls:=.type "dict",data:=.dict #[] }:=
  (Heap.get?_update_ne _ _ _ _ hxs.symm).trans (Heap.get?_push_at rfl rfl)
 have e3:((s.heap.push { cls:=.type "dict",data:=.dict #[] }).update e fun o=>{ cls:=o.cls,dict:=some s.heap.objs.size,data:=o.data,slots:=o.slots }).get? e=some { cls:=.ref C,dict:=some s.heap.objs.size,data:=.fields vs }:=
  Heap.get?_update_self _ Lz rfl
 have hnd:((s.heap.push { cls:=.type "dict",data:=.dict #[] }).update e fun o=>{ cls:=o.cls,dict:=some s.heap.objs.size,data:=o.data,slots:=o.slots }).Ns s.heap.objs.size (fun _=>none):=
  ⟨_,#[],_,e2,rfl,fun e he=>absurd he (by simp),fun _=>rfl⟩
 refine wpAny_bind (wpAny_pure (wpAny_bind ?_))
 refine wpAny_nsSet1 (Heap.Ns1.of_empty hnd) fun h' hn' hs=>?_
 obtain⟨oD,esD,epD,hoD,hdD,hcD⟩:=hn'.count (Within.cons f v Within.nil)
 refine wpAny_bind (wpAny_lookBehind hoD (by rw[hdD];exact pastItsLine_dict (Nat.le_trans hcD (by rw[eV,List.length_nil,sizeLine_eq];lia))) ?_)
 refine wpAny_pure (h h' _ ((hs.2 e hxs).trans e3) hn' fun b o hb ho=>?_)
 exact (hs.2 b (lu (gf ho))).trans ((Heap.get?_update_ne _ _ _ _ hb).trans (jJ _ ho))
end
section
variable{prog:Program}{w:World}{A:Around}{E:Value->Shared->Prop}{K:Frag}{a C dx:Addr}{f:Str}{v:Value}{o:Obj}{mA:Str->Option Value}
end
noncomputable def qCB(K:Frag)(ta tv:TE)(f:Str):TS:=fun D σ H=>tv σ H fun y H1=>ta σ H1 fun x H2 => ∃ e C,x = .ref e/\H2 e=some (uh e C none)/\Xp K C f/\∀ dx,H2 dx=none->dx ≠ e->D.nx σ (upd (upd H2 dx (.xd [(f,y)])) e (uh e C (some dx)))
section
variable{X:Cx}{e o value:Expr}{ta tv:TE}{f:Str}{pos pos':Pos}
theorem Vv(ha:PE X o ta)(hv:PE X value tv)(hs:swapsWith value (some (.Attribute o f pos')) pos.line X.env=pure false):PS X (.Assign [.Attribute o f pos'] value pos) (qCB X.K ta tv f):=by
 intro pins s σ H D I h
 refine plainObj_wpAny_Assign_Attribute (bJ (hv pins s σ H _ I h) fun u s1 ⟨y,H1,I1,ry,q⟩=>bJ (ha pins s1 σ H1 _ I1 q) fun ov s2 ⟨x,H2,I2,rx,e,C,ex,ea,n,q2⟩=>?_) hs
 subst ex
 obtain rfl:ov=Value.ref e:=rx
 obtain⟨⟨t0,z⟩,_⟩:=I2.hok e _ ea
 have hf:H2 s2.heap.objs.size=none:=I2.fresh
 have ne:s2.heap.objs.size ≠ e:=Nat.ne_of_gt (gf z)
 refine Vf I2.mV n z fun h' t' z1 z2 z3=>⟨σ,_,?_,q2 _ hf ne⟩
 have d1:∃ ob,h'.get? s2.heap.objs.size=some ob:=let ⟨ob,_,_,e,_⟩:=z2;⟨ob,e⟩
 have hnew:s2.heap.get? s2.heap.objs.size=none:=Heap.get?_none_of_le (bT _)
 refine I2.un ⟨fun b u q n _ _=>z3 b u (fun y=>by subst y;rw[n]at ea;cases ea) q,fun b u q n _ _=>⟨u.slots,z3 b u (fun y=>by subst y;rw[n]at ea;cases ea) q⟩,fun b u q n _=>?_,fun b u q _=>?_,fun b xs q=>?_,fun b u xs q=>?_,fun b ps q=>⟨#[],?_⟩⟩ fun b u q=>?_
 ·rw[zQ (fun y=>by subst y;rw[n]at ea;cases ea),zQ (fun y=>by subst y;rw[hnew]at q;cases q)];exact n
 ·by_cases hb:b=e
  ·subst hb;exact⟨_,z1⟩
  ·exact⟨u,z3 b u hb q⟩
 ·rw[zQ (fH q ea nofun),zQ (zM q hf)];exact q
 ·rw[zQ (fH q ea nofun),zQ (zM q hf)];exact q
 ·rw[zQ (fH q ea nofun),zQ (zM q hf),q];simp
 ·by_cases hb:b=e
  ·subst hb
   rw[zC]at q
   cases q
   exact Bv ⟨t0,z1⟩
  ·rw[zQ hb]at q
   by_cases hx:b=s2.heap.objs.size
   ·subst hx
    rw[zC]at q
    cases q
    refine⟨_,z2,fun y=>?_⟩
    by_cases k:y=f
    ·subst k
     show mU (List.lookup y [(y,_)]) (if y=y then some u else none)
     rw[if_pos rfl,List.lookup_cons_self]
     exact ry
    ·show mU (List.lookup y [(f,_)]) (if y=f then some u else none)
     have z5:(y == f)=false:=by simpa using k
     rw[if_neg k,List.lookup_cons,z5]
     exact True.intro
   ·rw[zQ hx]at q
    refine (I2.hok b u q).stay (fun c v hc y=>z3 c v (fun k=>?_) y) (fun c y=>?_) fun c xs y=>?_
    ·rcases hc with k2 | k2
     ·exact hb (k2.symm.trans k)
     ·rw[k,ea]at k2;cases k2
    ·rw[zQ (fH y ea nofun),zQ (zM y hf)];exact y
    ·rw[zQ (fH y ea nofun),zQ (zM y hf)];exact y
end
end L2
namespace L2
open PySem PySem.Spec PyProof.Rows
section
variable{M:Model}{A:Around}{E:Value->Shared->Prop}{s:Shared}{base:Heap}{env:Env}{outer:List Env}{L e:Addr}{cls a0 fl:Value}{dd:Option Addr}{Q:Unit->Shared->Prop}
theorem O1(hfr:A.frames=some (env :: outer))(hf:env.frame=some L)(hkb:base.StaysIn s.heap)(hb:base.get? e=none)(hl:s.heap.FunFrames base (env :: outer))(ht:s.heap.TracedAtW base e cls a0 fl)(x:DictAt s.heap e dd)
  (hQ:∀ h',Heap.FlyingW base outer e cls a0 h'->s.heap.UpToSlots h'->DictAt h' e dd->Q () { s with heap:=h' }):wpAny M A (leaving env (.ref e)) Q E s:=by
 by_cases hfl:fl=rawInt L
 ·subst hfl
  unfold leaving
  refine wpAny_bind (wpAny_noteFrame_againW hf ht (Zr ⟨hkb,hb,hl,ht⟩ x fun h' ⟨k1,k2,⟨_,_,k3⟩,k4⟩ sl dk=>hQ h' ⟨k1,k2,k3,k4⟩ sl dk))
 ·obtain⟨oe,vs,T,oT,ts,he,⟨hc,h0⟩,hd,h1,hnT,hTe,hT,hdT,h3⟩:=ht
  subst hc
  unfold leaving noteFrame
  simp only[hf]
  refine wpAny_bind (wpAny_bind (wpAny_field he hd h1 ?_))
  rw[if_pos (show (Value.ref T != Value.none)=true by simp)]
  refine wpAny_bind (wpAny_field hT hdT h3 ?_)
  rw[if_neg (show ¬ ((fl == rawInt L)=true) by simpa using hfl)]
  refine wpAny_bind (wpAny_setField hT hdT (Array.getElem?_eq_some_iff.mp h3).1 ?_)
  have other:∀ b,b ≠ T->(s.heap.update T (Obj.mapFields (·.setIfInBounds 3 Value.none))).get? b=s.heap.get? b:=fun b z=>Heap.get?_update_other _ _ (Ne.symm z)
  have Fo:∀ b o,s.heap.get? b=some o->(∀ vs,o.data ≠ .fields vs)->b ≠ T:=fun b o z1 z2 z=>by
   subst z
   rw[hT]at z1
   cases z1
   exact z2 ts hdT
  have hl1:(s.heap.update T (Obj.mapFields (·.setIfInBounds 3 Value.none))).FunFrames base (env :: outer):=hl.of_keeps fun b o z1 z2=>⟨o,(other b (Fo b o z1 z2)).trans z1,rfl⟩
  have Lz:=(other e (Ne.symm hTe)).trans he
  have x1:DictAt (s.heap.update T (Obj.mapFields (·.setIfInBounds 3 Value.none))) e dd:=x.upd hT hdT
  have hsz:=(Array.getElem?_eq_some_iff.mp h1).1
  refine wpAny_mono (du (wpAny_newEntryW (s:={ s with heap:=s.heap.update T (Obj.mapFields (·.setIfInBounds 3 Value.none)) }) (Q:=fun _ s' => ∃ h',s' = { s with heap:=h' }/\Heap.LeftW base (env :: outer) e oe.cls a0 (s.heap.update T (Obj.mapFields (·.setIfInBounds 3 Value.none))) h') hfr hl1 hf Lz
   (fun b o z=>(other b fun q=>by rw[q,hnT]at z;cases z).trans (hkb b o z)) hb hd hsz h0 fun h' k=>⟨h',rfl,k⟩)
   (lR (s:={ s with heap:=s.heap.update T (Obj.mapFields (·.setIfInBounds 3 Value.none)) }) (Q:=fun _ s'=>wpAny M A (setFlight (.ref e) none) (fun _ s2=>DictAt s2.heap e dd) E s') hfr hl1 hf Lz hd hsz x1 fun h2 T2 oT2 ts2 y1 ⟨oe',vs',q1,q2,q3⟩ q4 q5 q6=>?_))
   (fun _ s2 z=>wpAny_mono (du z.1 z.2) (fun _ s3 ⟨⟨h',y,k1,⟨_,_,k2⟩,k3,k4⟩,k5⟩=>by subst y;exact hQ h' ⟨k1,hb,k2,k3⟩ (fun b o z1 z2=>k4 b o ((other b (Fo b o z1 z2)).trans z1) z2) k5) fun _ _ y=>y) fun _ _ y=>y
  unfold setFlight
  refine wpAny_bind (wpAny_field q1 q2 q3 ?_)
  rw[if_pos (show (Value.ref T2 != Value.none)=true by simp)]
  exact wpAny_setField q4 q5 q6 (y1.upd q4 q5)
end
noncomputable def sJ(X:Cx)(E:XK):Prop:=∀(pins:List (Addr × Obj))(σ:St)(H1:Hp)(s1:Shared)(ea:Addr)(cls a0 fl:Value)(dd:Option Addr)(H':Hp)(B:Heap)(s':Shared),Inv X pins σ H1 s1->s'.os=X.s₀.os->AllBare s'.gens →
 B.StaysIn s'.heap->B.get? ea=none->s'.heap.FunFrames B X.stack->s'.heap.TracedAtW B ea cls a0 fl->jL X.prog X.w H' s'.heap->Un (frs X.outer) [] X.H₀ H' X.s₀.heap s'.heap->(∀ b,(H' b).isSome=true->∃ o,s'.heap.get? b=some o/\B.get? b=some o) →
 (∀ b o,X.s₀.heap.get? b=some o->b ∉ frs X.outer->∃ o',s'.heap.get? b=some o'/\B.get? b=some o')->DictAt s'.heap ea dd->E cls dd H'->X.xe (.ref ea) s'
section
variable{P:Program}{w:World}{K:bO}{mg:Str->Option Value}{base:Heap}{N:List Str}{qual:Str}{scope:Scope}{f:Addr}{cd:Value}{A:Around}{outer:List Env}{s:Shared}{H:Hp}{E E':XK}
theorem qCO(hE:∀ c d H,E' c d H->E c d H):sJ (pK (qY P w) P w K mg base N qual scope f cd A outer s H E) E':=by
 intro pins σ H1 s1 ea cls a0 fl dd H' B s' I ho hg st hb hl ht hok un hB hC hdd hq
 show wpAny _ _ (leaving _ (.ref ea)) _ _ s'
 refine O1 (L:=s.heap.objs.size) I.ok.frames rfl st hb hl ht hdd fun h' Jj sl dk=>?_
 refine⟨ea,cls,a0,H',B,rfl,ho,hg,Jj,hok.flown hB Jj.1,un.flown hC Jj.1 sl I.tO,fun b hb=>?_,fun b ob q hb=>?_,dd,dk,hE _ _ _ hq⟩
 ·obtain⟨ob,_,e2⟩:=hB b hb
  exact⟨ob,Jj.1 b _ e2,e2⟩
 ·obtain⟨o',_,e2⟩:=hC b ob q hb
  exact⟨o',Jj.1 b _ e2,e2⟩
end
section
variable{X:Cx}{pins:List (Addr × Obj)}{σ:St}{H2:Hp}{s2:Shared}{C:Addr}{m:Str->Option Value}{sc:Scope}{cl:List (Str × Addr)}{EX:XK}
theorem UT{Qv:Value->Shared->Prop}{use:Option (Value->Sem Unit)}{acc e:Value}{s':Shared}(hp:sJ X EX)(hex:X.ex=[])(I:Inv X pins σ H2 s2)(hn:s2.heap.Ns C m)(hC:H2 C=none)(hCs:C ∉ frs X.stack)(YK:X.s₀.heap.get? C=none)
  (hst:X.stack=X.env :: X.outer) (hfr:X.env.frame=some X.env.locals)
  (h:qY X.prog X.w X.stack H2 s2 EX e s'):notedBy (model X.prog X.w) X.A (compEnvC sc cl C X.env) (fun e s3=>compPost (model X.prog X.w) X.A X.xe use Qv acc C (.error e) s3) e s':=by
 obtain⟨ea,cls,a0,H',B,rfl,ho,hgn,fl,hok,un,hB,hCc,dd,hdd,hq⟩:=h
 have Te:=I.ok.frames
 rw[hst]at fl Te
 show wpAny _ _ (noteFrame (.ref ea) X.env) _ _ s'
 refine Ny Te hfr fl hdd fun h4 Ly sl4 dk4=>?_
 obtain⟨oC,esC,epC,gC,rC⟩:=id hn
 have bC:B.get? C=some oC:=by
  obtain⟨o',z1,z2⟩:=hCc C oC gC hCs
  rw[un.keep C oC gC hC hCs (by simp)]at z1
  cases z1
  exact z2
 have hC1:H' C=none:=un.free C oC gC hC (by simp)
 refine⟨m,⟨oC,esC,epC,Ly.1 _ _ bC,rC⟩,fun h5 sb cenv _=>?_⟩
 obtain⟨k1,k2,k3,oe,vs,T,oT,ts,he,hcl,hd,h1,hnT,hTe,hT,hdT,h3⟩:=Ly
 have neC:ea ≠ C:=fun z=>by rw[z,bC]at k2;cases k2
 have nTC:T ≠ C:=fun z=>by rw[z,bC]at hnT;cases hnT
 have e5:h5.get? ea=some oe:=(sb.2 ea neC).trans he
 have T5:h5.get? T=some oT:=(sb.2 T nTC).trans hT
 have sz3:=(Array.getElem?_eq_some_iff.mp h3).1
 unfold PySem.passOn
 refine wpAny_bind (wpAny_field e5 hd h1 ?_)
 rw[if_neg (show ¬ ((Value.ref T == Value.none)=true) by simp)]
 refine wpAny_bind (m:=setFlight (.ref ea) cenv.frame) ?_
 unfold setFlight
 refine wpAny_bind (wpAny_field e5 hd h1 ?_)
 rw[if_pos (show (Value.ref T != Value.none)=true by simp)]
 refine wpAny_setField T5 hdT sz3 (wpAny_throw ?_)
 generalize hfv:(cenv.frame.elim Value.none fun f=>rawInt f)=fv
 generalize hh6:h5.update T (Obj.mapFields (·.setIfInBounds 3 fv))=h6
 have o6:∀ b,b ≠ T->h6.get? b=h5.get? b:=fun b z=>by rw[<-hh6];exact Heap.get?_update_other _ _ (Ne.symm z)
 have T6:h6.get? T=some (oT.mapFields (·.setIfInBounds 3 fv)):=by rw[<-hh6];exact Heap.get?_update_self _ T5 (Obj.isFreed_of_fields (Obj.data_mapFields hdT _))
 have e6:h6.get? ea=some oe:=(o6 ea (Ne.symm hTe)).trans e5
 have J3:=I.call' ho un hok hgn (fun _ z=>nomatch z)
 have EY:∀ b o,B.get? b=some o->b ≠ C->h6.get? b=some o:=fun b o z1 z2=>(o6 b (fun y=>by rw[y,hnT]at z1;cases z1)).trans ((sb.2 b z2).trans (k1 b o z1))
 -- the base without the block's names
 have gB:∀ b o,B.get? b=some o->b ≠ C->(PySem.W.hideAll B [C]).get? b=some o:=fun b o z1 z2=>PySem.W.hideAll_get _ z1 (by simpa using z2)
 have hBn:∀ b,B.get? b=none->(PySem.W.hideAll B [C]).get? b=none:=fun b z=>by
  cases q:(PySem.W.hideAll B [C]).get? b with
  | none=>rfl
  | some o=>have:=PySem.W.of_hideAll _ q;rw[z]at this;cases this
 have nC:∀ b,(PySem.W.hideAll B [C]).get? b ≠ none->b ≠ C:=fun b z y=>z (by rw[y];exact PySem.W.hideAll_none _ (by simp))
 have keep6:∀ b o,b ≠ C->b ≠ T->s'.heap.get? b=some o->(∀ vs,o.data ≠ .fields vs)->∃ sl,h6.get? b=some { o with slots:=sl }:=fun b o z1 z2 z3 z4=>by
  obtain⟨sl,y⟩:=sl4 b o z3 z4
  exact⟨sl,(o6 b z2).trans ((sb.2 b z1).trans y)⟩
 have noT:∀ b o,h4.get? b=some o->(∀ vs,o.data ≠ .fields vs)->b ≠ T:=fun b o z1 z2 z=>by
  subst z
  rw[hT]at z1
  cases z1
  exact z2 ts hdT
 have fr6:h6.FunFrames (PySem.W.hideAll B [C]) X.stack:=by
  rw[hst]at hCs ⊢
  have go:∀ l:List Env,C ∉ frs l->h4.FunFrames B l->h6.FunFrames (PySem.W.hideAll B [C]) l:=by
   intro l
   induction l with
   | nil=>exact fun _ z=>z
   | cons env l ih=>
    intro hc ⟨hcl,⟨L,o,q1,q2,q3,q4⟩,hr⟩
    have hne:L ≠ C:=fun z=>hc (by rw[j8 q1,z];exact HX)
    refine⟨hcl,⟨L,o,q1,hBn L q2,?_,q4⟩,ih (fun z=>hc (by rw[j8 q1];exact Hh _ z)) hr⟩
    exact (o6 L (noT L o q3 q4)).trans ((sb.2 L hne).trans q3)
  exact go _ hCs k3
 refine hp pins σ H2 s2 ea cls a0 fv dd H' (PySem.W.hideAll B [C]) { s' with heap:=h6 } I (ho.trans I.os) hgn (fun b o z=>EY b o (PySem.W.of_hideAll _ z) (nC b (by rw[z];simp))) (hBn _ k2) fr6
  ⟨oe,vs,T,_,_,e6,hcl,hd,h1,hBn _ hnT,hTe,T6,Obj.data_mapFields hdT _,by simp [sz3]⟩ ?_ ?_ (fun b z=>?_) (fun b o z1 z2=>?_) ?_ hq
 ·refine hok.flown (B:=PySem.W.hideAll B [C]) (fun b z=>?_) fun b o z=>EY b o (PySem.W.of_hideAll _ z) (nC b (by rw[z];simp))
  obtain⟨o,y1,y2⟩:=hB b z
  have hne:b ≠ C:=fun k=>by rw[k,hC1]at z;cases z
  exact⟨o,y1,gB b o y2 hne⟩
 ·have ub:Un (frs X.outer) [] X.H₀ H' X.s₀.heap s'.heap:=by
   have:=J3.base
   rw[hex]at this
   exact this
  have sub:∀ b,b∈frs X.outer->b∈frs X.stack:=fun b z=>by rw[hst,j8 hfr];exact Hh _ z
  have c0:∀ b o,X.s₀.heap.get? b=some o->b ≠ C:=fun b o z y=>by rw[y,YK]at z;cases z
  have slot:∀ b o,X.s₀.heap.get? b=some o->X.H₀ b=none->b∈frs X.outer->∃ sl,h6.get? b=some { o with slots:=sl }:=fun b o z1 z2 z3=>by
   obtain⟨s1,y1⟩:=ub.slot b o z1 z2 z3 (by simp)
   obtain⟨_,o1,y2,nf⟩:=I.tO b z3
   rw[z1]at y2
   cases y2
   obtain⟨s2,y3⟩:=sl4 b _ y1 nf
   have y4:b ≠ T:=noT b _ y3 nf
   exact⟨s2,(o6 b y4).trans ((sb.2 b (c0 b _ z1)).trans y3)⟩
  have old:∀ b o,X.s₀.heap.get? b=some o->b ∉ frs X.outer->∃ o',s'.heap.get? b=some o'/\B.get? b=some o':=fun b o z1 z2=>by
   obtain⟨o1,y1⟩:=I.base.there b o z1 (by rw[hex];simp)
   refine hCc b o1 y1 fun y=>?_
   rw[hst,j8 hfr]at y
   rcases bY.mp y with k | k
   ·exact lu (Dr (gf z1) I.ok.above) k
   ·exact z2 k
  refine⟨fun b o z1 z2 z3 z4=>?_,fun b o z1 z2 z3 _=>slot b o z1 z2 z3,ub.free,fun b o z1 _=>?_,ub.tups,ub.uC,ub.ue⟩
  ·obtain⟨o',y1,y2⟩:=old b o z1 z3
   rw[ub.keep b o z1 z2 z3 z4]at y1
   cases y1
   exact EY b _ y2 (c0 b _ z1)
  ·by_cases z3:b∈frs X.outer
   ·obtain⟨_,y⟩:=slot b o z1 (I.tO b z3).1 z3
    exact⟨_,y⟩
   ·obtain⟨o',_,y2⟩:=old b o z1 z3
    exact⟨o',EY b _ y2 (c0 b _ z1)⟩
 ·obtain⟨o,y1,y2⟩:=hB b z
  have hne:b ≠ C:=fun k=>by rw[k,hC1]at z;cases z
  exact⟨o,EY b o y2 hne,gB b o y2 hne⟩
 ·obtain⟨o1,y1⟩:=I.base.there b o z1 (by rw[hex];simp)
  have hne:b ≠ C:=fun y=>by rw[y,YK]at z1;cases z1
  obtain⟨o',_,y2⟩:=hCc b o1 y1 fun y=>by
   rw[hst,j8 hfr]at y
   rcases bY.mp y with k | k
   ·exact lu (Dr (gf z1) I.ok.above) k
   ·exact z2 k
  exact⟨o',EY b _ y2 hne,gB b _ y2 hne⟩
 ·obtain⟨o1,y1,y2⟩:=dk4
  have:h4.get? ea=some o1:=y1
  rw[he]at this
  cases this
  exact⟨_,e6,y2⟩
end
section
variable{X:Cx}{elt iter:Expr}{x:Str}{px pos:Pos}{ifs:List Expr}{scope:Scope}{aa:List (Nat × Str)}{wi:TI}{tc:TT}{te:TE}
theorem Gp{EX:XK}{pins:List (Addr × Obj)}{σ:St}{H:Hp}{s:Shared}{E:Value->Shared->Prop}{it:Addr}{fp:List Addr}{tn:Nat->Heap->Prop}{J:It}{Z:List V->Hp->Prop}{RR:Value->Addr->Result->Shared->Prop}
  (hc:X.calm=true) (S:bI X.env.scope X.N scope x aa) (I:Inv X pins σ H s) (T:Turn X.prog X.w X.K (.Name x px) J fp it tn) (st:tn 0 s.heap) (hf:∀ b∈fp,gR X pins H b)
  (wz:∀ C s H ex pn E,HD (cJ X (x :: aa.map (·.2)) scope C s H ex pn E) ifs tc) (helt:∀ C s H ex pn E,Passes (qY X.prog X.w) (cJ X (x :: aa.map (·.2)) scope C s H ex pn E) EX->PE (cJ X (x :: aa.map (·.2)) scope C s H ex pn E) elt te)
  (hER:∀(D C:Addr)(H2:Hp)(s2:Shared)(m:Str->Option Value)(e:Value)(s':Shared),Inv X pins σ H2 s2->s2.heap.Ns C m->gR X pins H2 C->qY X.prog X.w X.stack H2 s2 EX e s'->notedBy (model X.prog X.w) X.A (compEnvC scope (mO X.env scope) C X.env) (fun e s'=>RR (.ref D) C (.error e) s') e s')
  (hW:kY J (uE aa σ) tc te H Z)
  (hRR:∀(s':Shared)(H':Hp)(acc:List V)(its:List Value)(D C:Addr)(m:Str->Option Value),Inv X pins σ H' s'->s'.heap.PlainList D its.toArray->Vals acc its->acc.length<=sizeLine->gR X pins H' D->gR X pins H' C->D ≠ C->s'.heap.Ns C m->Z acc H'->RR (.ref D) C (.ok .next) s') :
  wpAny (model X.prog X.w) X.A (newList []) (fun acc s₃=>wpAny (model X.prog X.w) X.A (newFunctionEnv scope X.env.globals (mO X.env scope) [] X.env.qual none .none (some X.env)) (fun cenv s₄=>
   codeAny (model X.prog X.w) X.A (.compStart (.ListComp elt [⟨.Name x px,iter,ifs,0⟩] scope pos) 0 (.ref it) acc { cenv with scope:=relabel scope X.env }) (RR acc cenv.locals) s₄) E s₃) E s:=by
 refine wpAny_newObj_type (wpAny_newFunctionEnv S.zj (by intro y hy;simp at hy) (fun h₁ hns₁ hsb₁=>?_) S.kind)
 dsimp only at hns₁ hsb₁ ⊢
 have hI3:Inv X pins σ H { s with heap:=s.heap.push { cls:=.type "list",dict:=none,data:=.seq ([]:List Value).toArray } }:=I.kept (t':=s.toks) fun b u e=>jJ _ e
 have gD3:(s.heap.push { cls:=.type "list",dict:=none,data:=.seq ([]:List Value).toArray }).get? s.heap.objs.size=some { cls:=.type "list",dict:=none,data:=.seq ([]:List Value).toArray }:=xf _ rfl
 have Jc:(s.heap.push { cls:=.type "list",dict:=none,data:=.seq ([]:List Value).toArray }).objs.size=s.heap.objs.size+1:=Heap.size_push _ _
 generalize VH:s.heap.push { cls:=.type "list",dict:=none,data:=.seq ([]:List Value).toArray }=h3 at hns₁ hsb₁ hI3 gD3 Jc ⊢
 have k3:∀ b u,s.heap.get? b=some u->h3.get? b=some u:=fun b u e=>VH ▸ jJ _ e
 have VD:∀ b u,h3.get? b=some u->h₁.get? b=some u:=fun b u e=>(hsb₁.2 b (lu (gf e))).trans (jJ _ e)
 have k1:∀ b u,s.heap.get? b=some u->h₁.get? b=some u:=fun b u e=>VD b u (k3 b u e)
 have hDC:s.heap.objs.size ≠ h3.objs.size:=by rw[Jc];exact lu (Nat.lt_succ_self _)
 have fD:gR X pins H s.heap.objs.size:=I.xH (bT _) (I.hok.fresh (bT _))
 have fC:gR X pins H h3.objs.size:=I.xH (by rw[Jc];exact Nat.le_succ _) (I.hok.fresh (by rw[Jc];exact Nat.le_succ _))
 have lfp:∀ b∈fp,b < s.heap.objs.size:=fun b hb=>let ⟨_,e,_⟩:=T.obj _ _ st b hb;gf e
 have hDf:s.heap.objs.size ∉ fp:=fun z=>Nat.lt_irrefl _ (lfp _ z)
 -- the P0 cells are cells around
 have hfree:∀ y∈scope.names,y.2 = .free->∃ c,X.env.cells.lookup y.1=some c:=fun y hy e=>I.ok.has y.1 (S.free y hy e)
 obtain⟨sub,has⟩:=rn scope.names [] hfree (fun y c e=>by simp at e)
 have pW:∀ y c,(mO X.env scope).lookup y=some c->X.env.cells.lookup y=some c:=sub
 have Je:∀ y,(y,NameKind.free)∈scope.names->∃ c,(mO X.env scope).lookup y=some c:=fun y hy=>Option.isSome_iff_exists.mp (has y (.inr hy))
 have inj:∀ b∈s.heap.objs.size :: fp,gR X pins H b:=fun b hb=>(bY.mp hb).elim (fun z=>z ▸ fD) (hf b)
 have ltC:∀ b∈s.heap.objs.size :: fp,b ≠ h3.objs.size:=fun b hb=>(bY.mp hb).elim (fun z=>z ▸ hDC) fun z=>lu (by rw[Jc];exact Nat.lt_succ_of_lt (lfp b z))
 have I1:Inv (cJ X (x :: aa.map (·.2)) scope h3.objs.size { s with heap:=h3 } H (s.heap.objs.size :: fp) (X.pn++pins)
   (notedBy (model X.prog X.w) X.A (compEnvC scope (mO X.env scope) h3.objs.size X.env) fun e s'=>RR (.ref s.heap.objs.size) h3.objs.size (.error e) s')) [] (none :: uE aa σ) H { s with heap:=h₁,toks:=s.toks+([]:List (Str × Value)).length }:=by
  refine⟨⟨I.ok.mod,S.kind,I.ok.glob,I.ok.blt,bT _,fun y z c e1 e2=>I.ok.inj y z c (pW _ _ e1) (pW _ _ e2),fun y hy=>Je y (mD S.zj hy),fun y c e=>(nomatch e),I.ok.hd,I.ok.frames,.inl rfl,fun b hb=>⟨ltC b hb,fun y c e=>(inj b hb).2.2.2.2.1 y c (pW y c e)⟩,
    fun b ob e=>⟨k3 b ob (I.bs b ob e).1,(I.bs b ob e).2⟩,?_,fun b ob e z=>?_,fun b hb=>I.vL (inj b hb).2.1 (inj b hb).2.2.1,?_,I.qi⟩,
   rfl,I.bare,Un.kept VD,⟨_,hns₁,fun i y v e1 e2 e3=>?_⟩,fun y c e=>?_,fC.1,fun y c e=>I.jU y c (pW y c e),fun p hp=>?_,I.hok.kept k1,?_⟩
  ·exact Nat.le_trans I.ok.QB (Nat.le_trans I.sz (by show s.heap.objs.size<=h3.objs.size;rw[Jc];exact Nat.le_succ _))
  ·rcases (inj b z).2.2.2.1 with w1 | w1
   ·exact I.ok.JD b ob e w1
   ·exact absurd (Dr (gf e) I.ok.QB) (Nat.not_lt.mpr w1)
  ·exact Heap.FunFrames.of_keeps (fun b ob e _=>⟨ob,k3 b ob e,rfl⟩) I.stack
  ·cases i with
   | zero=>cases e2
   | succ i=>
    have e1':(aa.map (·.2))[i]? = some y:=e1
    have e2':(uE aa σ)[i]? = some (some v):=e2
    unfold uE at e2'
    rw[cZ]at e1' e2'
    cases ep:aa[i]? with
    | none=>rw[ep]at e1';cases e1'
    | some p=>
     rw[ep]at e1' e2'
     obtain rfl:p.2=y:=kJ e1'
     have Cq:(σ[p.1]?).getD none=some v:=kJ e2'
     have hσ:σ[p.1]? = some (some v):=by
      cases es:σ[p.1]? with
      | none=>rw[es]at Cq;cases Cq
      | some w1=>rw[es]at Cq;exact congrArg some Cq
     obtain⟨cN,cF⟩:=S.cap p (Mq ep)
     have mF:(p.2,NameKind.free)∈scope.names:=PySem.mem_of_lookup cF
     have oF:=S.free _ mF rfl
     obtain⟨m,hn,hlook⟩:=I.loc
     obtain⟨u,ru,lk⟩:=hlook p.1 p.2 v cN hσ (.inr oF)
     refine⟨u,ru,.inr ⟨?_,?_⟩⟩
     ·rcases e3 with z | z
      ·exact absurd z (dN cF)
      ·exact z
     ·obtain⟨c,ec⟩:=Je p.2 mF
      refine⟨c,ec,?_⟩
      rcases lk with ⟨z,_⟩ | ⟨_,c',ec',ob,ho,hd⟩
      ·have z':X.env.scope.names.lookup p.2=some .local:=z
       rw[z']at oF
       rcases oF with q | q <;> cases q
      ·have ee:=(pW _ _ ec).symm.trans ec'
       cases ee
       exact⟨ob,k1 _ _ ho,hd⟩
  ·obtain⟨v,ob,ho,hd⟩:=I.cell y c (pW y c e)
   exact⟨v,ob,k1 _ _ ho,hd⟩
  ·have hp':p∈X.pn++pins:=by
    rcases gW.mp hp with z | z
    ·exact z
    ·exact absurd z (by simp)
   obtain⟨e,n,ne,nf,d⟩:=I.pin p hp'
   refine⟨k1 _ _ e,n,lu ?_,I.vL ne nf,d⟩
   show p.1 < h3.objs.size
   rw[Jc]
   exact Nat.lt_succ_of_lt (gf e)
  ·show (none :: uE aa σ).length=(x :: aa.map (·.2)).length
   simp [uE]
 have hf1:∀ b∈s.heap.objs.size :: fp,gR (cJ X (x :: aa.map (·.2)) scope h3.objs.size { s with heap:=h3 } H (s.heap.objs.size :: fp) (X.pn++pins)
   (notedBy (model X.prog X.w) X.A (compEnvC scope (mO X.env scope) h3.objs.size X.env) fun e s'=>RR (.ref s.heap.objs.size) h3.objs.size (.error e) s')) [] H b:=fun b hb=>by
  obtain⟨f0,f1,f2,f3,f4,f5⟩:=inj b hb
  refine⟨f0,ltC b hb,I.vL f1 f2,.inl hb,fun y c e=>f4 y c (pW y c e),fun p hp=>f5 p ?_⟩
  rcases gW.mp hp with z | z
  ·exact z
  ·exact absurd z (by simp)
 have st1:tn 0 h₁:=T.keep _ _ _ st fun b _ ob e=>k1 b ob e
 have hpass:Passes (qY X.prog X.w) (cJ X (x :: aa.map (·.2)) scope h3.objs.size { s with heap:=h3 } H (s.heap.objs.size :: fp) (X.pn++pins)
   (notedBy (model X.prog X.w) X.A (compEnvC scope (mO X.env scope) h3.objs.size X.env) fun e s'=>RR (.ref s.heap.objs.size) h3.objs.size (.error e) s')) EX:=by
  intro pins2 σ2 H2 s2 e s' J1 hcx
  have u1:Un (frs X.stack) (s.heap.objs.size :: fp) H H2 h3 s2.heap:=J1.base
  have J2:Inv X pins σ H2 s2:=Inv.call' (s:={ s with heap:=h3 }) hI3 J1.os u1 J1.hok J1.bare fun b hb=>by
   obtain⟨_,f1,_,f3,f4,f5⟩:=inj b hb
   exact⟨f3,f1,f4,f5⟩
  obtain⟨m,hn,_⟩:=J1.loc
  exact hER s.heap.objs.size h3.objs.size H2 s2 m e s' J2 hn ⟨J1.free,fC.2⟩ hcx
 have loop:codeAny (model X.prog X.w) X.A (.compLoop (.ListComp elt [⟨.Name x px,iter,ifs,0⟩] scope pos) 0 (.ref it) (.ref s.heap.objs.size) (compEnvC scope (mO X.env scope) h3.objs.size X.env)) (RR (.ref s.heap.objs.size) h3.objs.size) { s with heap:=h₁,toks:=s.toks+([]:List (Str × Value)).length }:=by
  refine Ae (X:=cJ X (x :: aa.map (·.2)) scope h3.objs.size { s with heap:=h3 } H (s.heap.objs.size :: fp) (X.pn++pins) (notedBy (model X.prog X.w) X.A (compEnvC scope (mO X.env scope) h3.objs.size X.env) fun e s'=>RR (.ref s.heap.objs.size) h3.objs.size (.error e) s'))
   hc rfl S.nd (lookup_relabel_local S.hx) I1 T st1 (fun b hb=>hf1 b (Hh _ hb)) (hf1 _ HX) hDf ⟨0,VD _ _ gD3⟩ (wz _ _ _ _ _ _) (helt _ _ _ _ _ _ hpass) hW rfl ?_
  intro s' H' acc its o' J1 Vy va hlen nD z
  have u1:Un (frs X.stack) (s.heap.objs.size :: fp) H H' h3 s'.heap:=J1.base
  have J2:Inv X pins σ H' s':=Inv.call' (s:={ s with heap:=h3 }) hI3 J1.os u1 J1.hok J1.bare fun b hb=>by
   obtain⟨_,f1,_,f3,f4,f5⟩:=inj b hb
   exact⟨f3,f1,f4,f5⟩
  obtain⟨m,hn,_⟩:=J1.loc
  exact hRR s' H' acc its _ _ m J2 Vy va hlen ⟨nD,fD.2⟩ ⟨J1.free,fC.2⟩ hDC hn z
 exact codeAny_compStart_list loop (T.self _ 0 _ _ _ st1 loop)
theorem R0{EX:XK}{i:Nat}{y:Str}{py spos:Pos}(hpa:sJ X EX)(hc:X.calm=true)(hN:X.N.Nodup)(hi':X.N[i]? = some y)(hy:Loc X.env.scope y)(S:bI X.env.scope X.N scope x aa)(hi:PI X (.Name x px) iter wi)
  (wz:∀ C s H ex pn E,HD (cJ X (x :: aa.map (·.2)) scope C s H ex pn E) ifs tc) (helt:∀ C s H ex pn E,Passes (qY X.prog X.w) (cJ X (x :: aa.map (·.2)) scope C s H ex pn E) EX->PE (cJ X (x :: aa.map (·.2)) scope C s H ex pn E) elt te)
  (hsw:swapsWith (.ListComp elt [⟨.Name x px,iter,ifs,0⟩] scope pos) (some (.Name y py)) spos.line X.env=pure true:=by rfl) (hs:∀ x,foldedSetIterable iter X.env x=pure x:=by intro _;rfl) (hex:X.ex=[]:=by rfl) (hst:X.stack=X.env :: X.outer:=by rfl) (hfr:X.env.frame=some X.env.locals:=by rfl)
  (hfn:X.fn y=true ∨ X.env.scope.names.lookup y=some .local:=by first | exact .inl rfl | exact .inr rfl | assumption):PS X (.Assign [.Name y py] (.ListComp elt [⟨.Name x px,iter,ifs,0⟩] scope pos) spos) (QM (QL wi aa tc te) (Gi i)):=by
 intro pins s σ H D0 I h
 have hfree:∀ y∈scope.names,y.2 = .free->∃ c,X.env.cells.lookup y.1=some c:=fun y hy e=>I.ok.has y.1 (S.free y hy e)
 rw[exec_Assign_Name_used _ _ _ _ hsw]
 refine wpAny_bind (wpAny_standAt (wpAny_bind ?_))
 show wpAny _ _ (do let _ ← comprehension (.ListComp elt [⟨.Name x px,iter,ifs,0⟩] scope pos) scope X.env _ (newList []) false (eval iter X.env) (some (assign (.Name y py) X.env))) _ _ s
 refine wpAny_bind (wpAny_mono (wpAny_comprehension_free (use:=some (assign (.Name y py) X.env)) (Q:=fun _ s'=>SP X pins D0 .next s') rfl hs (qM hfree) S.kind S.Rp
  (bJ (hi pins s σ H _ I h) fun v s1 h1=>bJ h1 fun itv s2 h2=>?_)) (fun _ s' hq=>wpAny_pure (wpAny_pure hq)) fun _ _ e=>e)
 obtain⟨it,fp,tn,J,H2,e,I2,T,st2,f2,hW⟩:=h2
 subst e
 refine Gp (RR:=fun acc C=>compPost (model X.prog X.w) X.A X.xe (some (assign (.Name y py) X.env)) (fun _ s'=>SP X pins D0 .next s') acc C) hc S I2 T st2 f2 wz helt (fun D C H2 s2 m e s' J hn f hcx=>UT hpa hex J hn f.1 (J.vL f.2.1 f.2.2.1) (Heap.get?_none_of_le (f.2.2.2.1.elim (fun z=>by rw[hex]at z;cases z) id)) hst hfr hcx) hW ?_
 intro s' H' acc its D C m J2 Vy va hlen fD fC hDC hn z
 obtain⟨nD,gD⟩:=Vy
 have J3:Inv X pins σ (upd H' D (.lst acc)) s':=J2.adopt fD ⟨hlen,its,nD,va,gD⟩
 show wpAny _ _ (assign (.Name y py) X.env (.ref D)) _ _ s'
 refine wpAny_assign_Name (t6 J3 hN hi' hy (show RelV (.ref D) (.ref D) from rfl) (fun s4 J4 ⟨a,sa,ha⟩=>?_) hfn)
 have hCa:C ≠ a:=by
  rcases ha with q | q
  ·rw[q];exact fC.2.1
  ·exact (fC.2.2.2.2.1 y a q).symm
 refine⟨m,hn.sameBut sa hCa,fun h'' sb=>?_⟩
 exact⟨_,_,J4.turned (t':=s4.toks) (fun b ob hb e=>(sb.2 b hb).trans e) (by rw[zQ (Ne.symm hDC)];exact fC.1) fC.2.1 fC.2.2.2.1 fC.2.2.2.2.1 fC.2.2.2.2.2,z D fD.1⟩
end
section
variable{M:Model}{A:Around}{E:Value->Shared->Prop}{s:Shared}{base:Heap}{env:Env}{outer:List Env}{L e:Addr}{cls a0 fl:Value}{dd:Option Addr}{Q:Unit->Shared->Prop}
theorem Rj(hfr:A.frames=some (env :: outer))(hf:env.frame=some L)(hkb:base.StaysIn s.heap)(hb:base.get? e=none)(hl:s.heap.FunFrames base (env :: outer))(ht:s.heap.TracedAtW base e cls a0 fl)(x:DictAt s.heap e dd)
  (hQ:∀ h',Heap.HeldW base (env :: outer) e cls a0 L h'->s.heap.UpToSlots h'->DictAt h' e dd->Q () { s with heap:=h' }):wpAny M A (noteFrame (.ref e) env) Q E s:=by
 by_cases hfl:fl=rawInt L
 ·subst hfl
  exact wpAny_noteFrame_againW hf ht (hQ s.heap ⟨hkb,hb,hl,ht⟩ (Heap.UpToSlots.refl _) x)
 ·obtain⟨oe,vs,T,oT,ts,he,⟨hc,h0⟩,hd,h1,hnT,hTe,hT,hdT,h3⟩:=ht
  subst hc
  unfold noteFrame
  simp only[hf]
  refine wpAny_bind (wpAny_field he hd h1 ?_)
  rw[if_pos (show (Value.ref T != Value.none)=true by simp)]
  refine wpAny_bind (wpAny_field hT hdT h3 ?_)
  rw[if_neg (show ¬ ((fl == rawInt L)=true) by simpa using hfl)]
  refine wpAny_bind (wpAny_setField hT hdT (Array.getElem?_eq_some_iff.mp h3).1 ?_)
  have other:∀ b,b ≠ T->(s.heap.update T (Obj.mapFields (·.setIfInBounds 3 Value.none))).get? b=s.heap.get? b:=fun b z=>Heap.get?_update_other _ _ (Ne.symm z)
  have Fo:∀ b o,s.heap.get? b=some o->(∀ vs,o.data ≠ .fields vs)->b ≠ T:=fun b o z1 z2 z=>by
   subst z
   rw[hT]at z1
   cases z1
   exact z2 ts hdT
  have hl1:(s.heap.update T (Obj.mapFields (·.setIfInBounds 3 Value.none))).FunFrames base (env :: outer):=hl.of_keeps fun b o z1 z2=>⟨o,(other b (Fo b o z1 z2)).trans z1,rfl⟩
  have Lz:=(other e (Ne.symm hTe)).trans he
  have hsz:=(Array.getElem?_eq_some_iff.mp h1).1
  refine wpAny_mono (du (wpAny_entryW (s:={ s with heap:=s.heap.update T (Obj.mapFields (·.setIfInBounds 3 Value.none)) }) (Q:=fun _ s' => ∃ h',s' = { s with heap:=h' }/\Heap.NotedW base (env :: outer) e oe.cls a0 (rawInt L) (s.heap.update T (Obj.mapFields (·.setIfInBounds 3 Value.none))) h') hfr hl1 hf Lz
   (fun b o z=>(other b fun q=>by rw[q,hnT]at z;cases z).trans (hkb b o z)) hb hd hsz h0 fun h' k=>⟨h',rfl,k⟩)
   (lR (s:={ s with heap:=s.heap.update T (Obj.mapFields (·.setIfInBounds 3 Value.none)) }) (Q:=fun _ s'=>DictAt s'.heap e dd) hfr hl1 hf Lz hd hsz (x.upd hT hdT) fun _ _ _ _ z _ _ _ _=>z))
   (fun _ s3 ⟨⟨h',y,k1,k2,k3,k4⟩,k5⟩=>by subst y;exact hQ h' ⟨k1,hb,k2,k3⟩ (fun b o z1 z2=>k4 b o ((other b (Fo b o z1 z2)).trans z1) z2) k5) fun _ _ y=>y
end
noncomputable def qB8(X:Cx)(E:XK)(e:Value)(s':Shared):Prop:=∃(ea:Addr)(cls a0 fl:Value)(dd:Option Addr)(H':Hp)(B:Heap),e = .ref ea/\X.A.frames=some X.stack/\(∀ b∈frs X.outer,X.H₀ b=none/\∃ ob,X.s₀.heap.get? b=some ob/\∀ vs,ob.data ≠ .fields vs)/\s'.os=X.s₀.os/\AllBare s'.gens ∧
 B.StaysIn s'.heap/\B.get? ea=none/\s'.heap.FunFrames B X.stack/\s'.heap.TracedAtW B ea cls a0 fl/\jL X.prog X.w H' s'.heap/\Un (frs X.outer) [] X.H₀ H' X.s₀.heap s'.heap/\(∀ b,(H' b).isSome=true->∃ o,s'.heap.get? b=some o/\B.get? b=some o) ∧
 (∀ b o,X.s₀.heap.get? b=some o->b ∉ frs X.outer->∃ o',s'.heap.get? b=some o'/\B.get? b=some o')/\DictAt s'.heap ea dd/\E cls dd H'
section
variable{X:Cx}{E:XK}
theorem X7(hst:X.stack=X.env :: X.outer)(hfr:X.env.frame=some X.env.locals):PassesOwn (model X.prog X.w) X.A X.env (qB8 X E):=by
 rintro e s' ⟨ea,cls,a0,fl,dd,H',B,rfl,hA,hO,ho,hg,st,hb,hl,ht,hok,un,hB,hC,hdd,hq⟩
 have hA':=hA
 rw[hst]at hA' hl
 refine Rj hA' hfr st hb hl ht hdd fun h' held sl dk=>?_
 obtain⟨k1,k2,k3,oe,vs,T,oT,ts,he,hcl,hd,h1,hnT,hTe,hT,hdT,h3⟩:=held
 have sz3:=(Array.getElem?_eq_some_iff.mp h3).1
 refine wpAny_bind (wpAny_field he hd h1 ?_)
 rw[if_neg (show ¬ ((Value.ref T == Value.none)=true) by simp)]
 show wpAny _ _ (setFlight (.ref ea) X.env.frame) _ _ _
 unfold setFlight
 refine wpAny_bind (wpAny_field he hd h1 ?_)
 rw[if_pos (show (Value.ref T != Value.none)=true by simp)]
 refine wpAny_setField hT hdT sz3 ?_
 generalize hfv:(X.env.frame.elim Value.none fun f=>rawInt f)=fv
 generalize hh6:h'.update T (Obj.mapFields (·.setIfInBounds 3 fv))=h6
 have o6:∀ b,b ≠ T->h6.get? b=h'.get? b:=fun b z=>by rw[<-hh6];exact Heap.get?_update_other _ _ (Ne.symm z)
 have T6:h6.get? T=some (oT.mapFields (·.setIfInBounds 3 fv)):=by rw[<-hh6];exact Heap.get?_update_self _ hT (Obj.isFreed_of_fields (Obj.data_mapFields hdT _))
 have noT:∀ b o,h'.get? b=some o->(∀ vs,o.data ≠ .fields vs)->b ≠ T:=fun b o z1 z2 z=>by
  subst z
  rw[hT]at z1
  cases z1
  exact z2 ts hdT
 have Mw:B.StaysIn h6:=fun b o z=>(o6 b (fun y=>by rw[y,hnT]at z;cases z)).trans (k1 b o z)
 have sl6:s'.heap.UpToSlots h6:=fun b o z1 z2=>by
  obtain⟨sl1,y⟩:=sl b o z1 z2
  exact⟨sl1,(o6 b (noT b _ y z2)).trans y⟩
 refine⟨ea,cls,a0,fv,dd,H',B,rfl,hA,hO,ho,hg,Mw,hb,?_,⟨oe,vs,T,_,_,(o6 ea (Ne.symm hTe)).trans he,hcl,hd,h1,hnT,hTe,T6,Obj.data_mapFields hdT _,by simp [sz3]⟩,hok.flown hB Mw,un.flown hC Mw sl6 hO,fun b z=>?_,fun b o z1 z2=>?_,?_,hq⟩
 ·rw[hst]
  exact k3.of_keeps fun b o z1 z2=>⟨o,(o6 b (noT b o z1 z2)).trans z1,rfl⟩
 ·obtain⟨o,_,y⟩:=hB b z
  exact⟨o,Mw b o y,y⟩
 ·obtain⟨o',_,y⟩:=hC b o z1 z2
  exact⟨o',Mw b _ y,y⟩
 ·obtain⟨o1,y1,y2⟩:=dk
  have:h'.get? ea=some o1:=y1
  rw[he]at this
  cases this
  exact⟨_,(o6 ea (Ne.symm hTe)).trans he,y2⟩
theorem ZK{E':XK}(hE:∀ c d H,E' c d H->E c d H):sJ (X.wish (qB8 X E)) E':=by
 intro pins σ H1 s1 ea cls a0 fl dd H' B s' I ho hg st hb hl ht hok un hB hC hdd hq
 have I0:Inv X pins σ H1 s1:=I.gY
 exact⟨ea,cls,a0,fl,dd,H',B,rfl,I0.ok.frames,I0.tO,ho,hg,st,hb,hl,ht,hok,un,hB,hC,hdd,hE _ _ _ hq⟩
theorem Z8{st:Stmt}{t:TS}(hp:sJ X E)(h:PS (X.wish (qB8 X E)) st t):PS X st t:=fun pins s σ H D I hw=>
 wpAny_mono (h pins s σ H D (I.wish _) hw) (fun _ _ q=>q.gY) fun e s' ⟨ea,cls,a0,fl,dd,H',B,z,_,_,k1,k2,k3,k4,k5,k6,k7,k8,k9,k10,k11,k12⟩=>by
  subst z
  exact hp pins σ H s ea cls a0 fl dd H' B s' I k1 k2 k3 k4 k5 k6 k7 k8 k9 k10 k11 k12
end
end L2
namespace qR
open PySem L2
noncomputable def BL(K:bO):Sp:=fun vs H Q _ => ∃(a:Addr)(ns:List Int)(k:Int),vs=[.ref a,.int k]/\aQ K H a (ns.map V.int)/\ns.length<=63/\∀ v:Int,Q (.int v) H
noncomputable def kZ(K:bO):Sp:=fun vs H Q _ => ∃(a:Addr)(ns:List Int)(k salt:Int),vs=[.ref a,.int k,.int salt]/\aQ K H a (ns.map V.int)/\ns.length<=63/\(0<=k/\k<=1000000)/\(0<=salt/\salt<=1000) ∧
 ∀ r:Int,0<=r->r < 2147483648->Q (.int r) H
section
variable{P:Program}{w:World}{K:bO}{mg:Str->Option Value}{base:Heap}
theorem scC:aH ["_law_script","_law_k"] ["_law_script","_law_k"] (aA LK):=fO
theorem Wf{f:Addr}{fd:FuncData}(F:cz K "_law_cell_at" "_law_cell_at" LK f fd)(ml:mg "len" = none):aG P w K mg base aY 1 f fd ["_law_script","_law_k"] (BL K):=by
 refine F.ok scC (fun vs H Q E h=>?_) (fun cdv A outer s H vs Q E hr h=>?_)
 ·refine aK fun G_ g_=>?_
  obtain⟨a,ns,k,rfl,_⟩:=h
  refine g_ ?_
  clear g_ G_
  rfl
 refine aK fun G_ g_=>?_
 obtain⟨a,ns,k,rfl,hS,h63,q⟩:=h
 refine g_ ?_
 clear g_ G_
 refine⟨_,zE (yD (zL yG (zS zN rfl ml bV (zA (pv 0) zD)) zB (zR _)) (zG (zO zB)) zT)
  (zG (zO (yB yU (pv 0) (yC zY (pv 1) (zS zN rfl ml bV (zA (pv 0) zD))) (fun _ _=>rfl)))),?_⟩
 have hl:(ns.map V.int).length=ns.length:=bZ _
 refine⟨_,rfl,a,_,rfl,.inl hS,rfl,_,rfl,?_⟩
 refine pJ (fun c=>?_) (fun c=>?_)
 ·exact q 0
 ·have c':¬ V.int (((ns.map V.int).length:Nat):Int)=V.int 0:=of_decide_eq_false (Bool.eq_false_iff.mpr c)
  have hp:(0:Int) < (((ns.map V.int).length:Nat):Int):=by
   rw[hl]at c' ⊢
   have:ns.length ≠ 0:=fun z=>c' (by rw[z];rfl)
   lia
  obtain⟨v,hv⟩:=Mj (ns:=ns) (i:=k % (((ns.map V.int).length:Nat):Int)) (pU _ (by lia)) (by have:=qZ k hp;rw[hl]at this ⊢;exact this)
  exact⟨_,rfl,_,rfl,_,rfl,a,_,rfl,.inl hS,_,_,rfl,rfl,hp,a,_,_,_,rfl,rfl,hS,hv,q v⟩
theorem scM:aH ["_law_script","_law_k","_law_salt","_law_cell","_law_lap",qC9] ["_law_script","_law_k","_law_salt"] (aA Bg):=fO
theorem pP{i j:Int}(h0:0<=i)(h1:i < 18446744073709551616):Xr i j:=.inl ⟨by lia,by lia⟩
theorem RV{f g:Addr}{fd gd:FuncData}(F:cz K "_law_mixed" "_law_mixed" Bg f fd)(G:aG P w K mg base aY 1 g gd ["_law_script","_law_k"] (BL K))(bG:Binds K gd ["_law_script","_law_k"] [])(kG:KI K g)(mG:mg "_law_cell_at" = some (.ref g))
  (ml:mg "len" = none) (mm:mg "max" = none):aG P w K mg base aY 2 f fd ["_law_script","_law_k","_law_salt"] (kZ K):=by
 refine F.ok scM (fun vs H Q E h=>?_) (fun cdv A outer s H vs Q E hr h=>?_)
 ·refine aK fun G_ g_=>?_
  obtain⟨a,ns,k,salt,rfl,_⟩:=h
  refine g_ ?_
  clear g_ G_
  rfl
 refine aK fun G_ g_=>?_
 obtain⟨a,ns,k,salt,rfl,hS,h63,hk,hs,q⟩:=h
 refine g_ ?_
 clear g_ G_
 refine⟨_,zE (zK (i:=3) scM.nd rfl (Or.inl rfl) (zJ G hr rfl mG kG bG .nil yE (zA (pv 0) (zA (pv 1) zD))))
  (zE (zK (i:=4) scM.nd rfl (Or.inl rfl) (yC yL (pv 1) (zS (PK rfl) rfl mm PyProof.Rows.boot_max (zA zB (zA (zS zN rfl ml bV (zA (pv 0) zD)) zD)))))
  (zE (zK (i:=5) scM.nd rfl (Or.inl rfl) (yC yF (yC yF (yC yF (yC RL (pv 3) zB) (yC fG (yC fG zB (pv 1)) (pv 1))) (yC fG (yC fG zB (pv 2)) (pv 2))) zB))
  (zE (zK (i:=5) scM.nd rfl (Or.inl rfl) (yC zY (yC fG (pv 5) zB) zB))
  (zE (zK (i:=5) scM.nd rfl (Or.inl rfl) (yC zY (yC fG (pv 5) (pv 5)) zB))
  (zG (zO (yC RL (yC yF (yC ZL (pv 3) (yC fG zB (yC yF (pv 2) (yC fG zB (pv 4))))) (pv 5)) zB))))))),?_⟩
 have hl:(ns.map V.int).length=ns.length:=bZ _
 refine⟨_,rfl,_,rfl,a,ns,k,rfl,hS,h63,fun v=>?_⟩
 -- lap
 refine⟨_,rfl,_,rfl,a,_,rfl,.inl hS,_,_,rfl,bA ?_⟩
 have hM:0 < (if (((ns.map V.int).length:Nat):Int) > 1 then (((ns.map V.int).length:Nat):Int) else 1)/\(if (((ns.map V.int).length:Nat):Int) > 1 then (((ns.map V.int).length:Nat):Int) else 1) < 1073741824:=by
  rw[hl]
  split <;> lia
 refine⟨hM,?_⟩
 have qHS:0<=k / (if (((ns.map V.int).length:Nat):Int) > 1 then (((ns.map V.int).length:Nat):Int) else 1):=Int.ediv_nonneg hk.1 (Int.le_of_lt hM.1)
 -- near
 refine⟨_,rfl,bA ⟨_,rfl,bA ⟨pP (by decide) (by decide),_,rfl,bA ⟨pP (by lia) (by lia),_,_,rfl,rfl,_,rfl,bA ⟨pP (by decide) (by decide),_,rfl,bA ⟨pP (by lia) (by lia),_,_,rfl,rfl,bA ?_⟩⟩⟩⟩⟩⟩
 refine⟨_,rfl,bA ⟨.inr ⟨by decide,by decide⟩,_,_,rfl,rfl,(by show (0:Int) < 2147483647;decide),?_⟩⟩
 have b1:=pU ((Builtin.bitAnd v 2147483647+1009 * k * k+7919 * salt * salt+12) * 48271) (show (2147483647:Int) ≠ 0 by decide)
 have b2:=qZ ((Builtin.bitAnd v 2147483647+1009 * k * k+7919 * salt * salt+12) * 48271) (show (0:Int) < 2147483647 by decide)
 refine⟨_,rfl,_,rfl,bA ⟨pP b1 (Int.lt_trans b2 (by decide)),_,_,rfl,rfl,(by show (0:Int) < 2147483629;decide),?_⟩⟩
 refine⟨_,rfl,_,rfl,_,rfl,bA ⟨pP (by decide) (by decide),_,_,rfl,rfl,bA ⟨pP (by decide) (by decide),_,_,rfl,rfl,?_,_,rfl,bA (bA ?_)⟩⟩⟩
 ·have nn:∀ lap:Int,0<=lap->0<=31 * (salt+128 * lap):=fun lap h=>by lia
  exact nn _ qHS
 ·exact q _ (YD _).1 (YD _).2
end
end qR
namespace qR
open PySem L2 sS
noncomputable def pV:Option Nat->V
 | none=>.non
 | some j=>.int (j:Int)
noncomputable def aC(s:List Nat):List V:=s.map fun j:Nat=>V.int (j:Int)
theorem Gn(xs:List V){d:Int}(h:0<=d):qL xs none (some d)=xs.take d.toNat:=by
 show (xs.drop 0).take ((if d < 0 then (d+(xs.length:Int)).toNat else min d.toNat xs.length) - 0)=_
 rw[if_neg (by lia),List.drop_zero,Nat.sub_zero,List.take_eq_take_iff]
 lia
end qR
namespace qR
open PySem L2 sS Dh
theorem zm(os:List Nat):(aC os).all jA=true:=by
 rw[List.all_eq_true]
 intro x hx
 obtain⟨n,_,rfl⟩:=iU.mp hx
 rfl
theorem Lk{os:List Nat}{j:Int}(h:inV (.int j) (aC os)=true):∃ o∈os,(o:Int)=j:=by
 unfold inV aC at h
 rw[List.any_map,List.any_eq_true]at h
 obtain⟨o,ho,e⟩:=h
 exact⟨o,ho,by simpa [Ot] using e⟩
theorem Fq{os:List Nat}{i:Int}(h0:0<=i)(h1:i < (os.length:Int)):∃ o∈os,sY (aC os) i=some (.int (o:Int)):=by
 obtain⟨v,hv,e⟩:=jy (xs:=aC os) (i:=i) h0 (by unfold aC;rw[bZ];exact h1)
 obtain⟨o,ho,rfl⟩:=iU.mp hv
 exact⟨o,ho,e⟩
theorem zU(os:List Nat):(aC os).length=os.length:=bZ _
theorem iM(os:List Nat)(k:Nat):aC os++[.int (k:Int)]=aC (os++[k]):=by
 unfold aC
 rw[kI]
 rfl
end qR
namespace jc
open PySem L2 qR sS Dh
theorem gQ{os:List Nat}{f:Nat->Bool}{i o:Nat}(h:os[i]? = some o):(os.take (i+1)).filter f=(os.take i).filter f++(if f o=true then [o] else []):=by
 rw[jN,h,List.filter_append]
 congr 1
 show [o].filter f=_
 rw[List.filter_cons]
 split <;> rfl
theorem yR{os:List Nat}{i:Nat}{x:V}(h:(aC os)[i]? = some x):∃ hi:i < os.length,x = .int ((os[i]:Nat):Int):=by
 have hi:i < os.length:=by
  have:=(mH.mp h).1
  rw[zU]at this
  exact this
 refine⟨hi,?_⟩
 unfold aC at h
 rw[cZ,fu hi]at h
 exact (kJ h).symm
end jc
namespace K02
open PySem L2 qR sS
abbrev nA:Stmt:=qR.nA
noncomputable def kh(n:Nat):Sp:=fun vs H Q _ => ∃(vg:V)(o b:Addr)(g:Gd)(op bx:List Int),vs=[vg,.ref o,.ref b]/\jd H vg g/\H o=some (.tup (op.map V.int))/\H b=some (.tup (bx.map V.int))/\g.ok bx.length/\g.ht<=n/\Q (.bl (g.holds op bx)) H
section
variable{P:Program}{w:World}{K:bO}{mg:Str->Option Value}{base:Heap}
theorem Ej:aH ["guard","opening","boxes","kind"] ["guard","opening","boxes"] (aA nA):=fO
theorem RX{n:Nat}{f:Addr}{fd:FuncData}(F:cz K "holds" "holds" nA f fd)(lg:aG P w K mg base aY n f fd ["guard","opening","boxes"] (kh n))(dY:Binds K fd ["guard","opening","boxes"] [])(lN:KI K f)(dX:mg "holds" = some (.ref f)) :
  aG P w K mg base aY (n+1) f fd ["guard","opening","boxes"] (kh (n+1)):=by
 refine F.ok Ej (fun vs H Q E h=>?_) (fun cdv A outer s H vs Q E hr h=>?_)
 ·refine aK fun G_ g_=>?_
  obtain⟨vg,o,b,g,op,bx,rfl,_⟩:=h
  refine g_ ?_
  clear g_ G_
  rfl
 refine aK fun G_ g_=>?_
 obtain⟨vg,o,b,g,op,bx,rfl,hg,ho,hb,hok,hht,q⟩:=h
 refine g_ ?_
 clear g_ G_
 refine⟨_,(zE (zK (i:=3) Ej.nd rfl (Or.inl rfl) (yB zH (pv 0) zB (fun _ _=>rfl)))
  (zE (yD (zL yG (pv 3) zP (zR _))
  (zG (zO eE))
  zT)
  (zE (yD (zL yG (pv 3) zP (zR _))
  (zG (zO (iG yG (yB zH (pv 2) (yB zH (pv 0) zB (fun _ _=>rfl)) (fun _ _=>rfl)) (yB zH (pv 0) zB (fun _ _=>rfl)) (zR _))))
  zT)
  (zE (yD (zL yG (pv 3) zP (zR _))
  (zG (zO (iG nJ (yB zH (pv 2) (yB zH (pv 0) zB (fun _ _=>rfl)) (fun _ _=>rfl)) (yB zH (pv 0) zB (fun _ _=>rfl)) (zR _))))
  zT)
  (zE (yD (zL yG (pv 3) zP (zR _))
  (zG (zO (iG za (yB zH (pv 0) zB (fun _ _=>rfl)) (pv 1) rfl)))
  zT)
  (zE (yD (zL yG (pv 3) zP (zR _))
  (zG (zO (R6 (zJ lg hr rfl dX lN dY .nil yE (zA (yB zH (pv 0) zB (fun _ _=>rfl)) (zA (pv 1) (zA (pv 2) zD)))))))
  zT)
  (zE (yD (zL yG (pv 3) zP (zR _))
  (zG (zO (Bo (zJ lg hr rfl dX lN dY .nil yE (zA (yB zH (pv 0) zB (fun _ _=>rfl)) (zA (pv 1) (zA (pv 2) zD)))) (wG (zJ lg hr rfl dX lN dY .nil yE (zA (yB zH (pv 0) zB (fun _ _=>rfl)) (zA (pv 1) (zA (pv 2) zD))))))))
  zT)
  (zG (zO (qCM (zJ lg hr rfl dX lN dY .nil yE (zA (yB zH (pv 0) zB (fun _ _=>rfl)) (zA (pv 1) (zA (pv 2) zD)))) (wG (zJ lg hr rfl dX lN dY .nil yE (zA (yB zH (pv 0) zB (fun _ _=>rfl)) (zA (pv 1) (zA (pv 2) zD))))))))))))))),?_⟩
 cases hg with
 | @yes a e=>
  exact⟨_,rfl,aF (aL.of e) rfl ⟨_,rfl,rfl,_,rfl,yO q⟩⟩
 | @is a c m e=>
  refine⟨_,rfl,aF (aL.of e) rfl ⟨_,rfl,rfl,_,rfl,yN (by decide +kernel) ⟨_,rfl,rfl,_,rfl,yO ?_⟩⟩⟩
  exact⟨_,rfl,_,rfl,aF (aL.of e) rfl (aF (aL.of hb) (xT hok.1 hok.2) ⟨_,rfl,aF (aL.of e) rfl ⟨rfl,q⟩⟩)⟩
 | @under a c m e=>
  refine⟨_,rfl,aF (aL.of e) rfl ⟨_,rfl,rfl,_,rfl,yN (by decide +kernel) ⟨_,rfl,rfl,_,rfl,yN (by decide +kernel) ⟨_,rfl,rfl,_,rfl,yO ?_⟩⟩⟩⟩
  exact⟨_,rfl,_,rfl,aF (aL.of e) rfl (aF (aL.of hb) (xT hok.1 hok.2) ⟨_,rfl,aF (aL.of e) rfl (bA q)⟩)⟩
 | @inn a r e=>
  refine⟨_,rfl,aF (aL.of e) rfl ⟨_,rfl,rfl,_,rfl,yN (by decide +kernel) ⟨_,rfl,rfl,_,rfl,yN (by decide +kernel) ⟨_,rfl,rfl,_,rfl,yN (by decide +kernel) ⟨_,rfl,rfl,_,rfl,yO ?_⟩⟩⟩⟩⟩
  exact⟨_,rfl,aF (aL.of e) rfl ⟨_,rfl,fQ rfl (.inr (aL.of ho)) ⟨rfl,uB op,q⟩⟩⟩
 | @neg a v g e hg=>
  have h1:g.ht+1<=n+1:=hht
  refine⟨_,rfl,aF (aL.of e) rfl ⟨_,rfl,rfl,_,rfl,yN (by decide +kernel) ⟨_,rfl,rfl,_,rfl,yN (by decide +kernel) ⟨_,rfl,rfl,_,rfl,yN (by decide +kernel) ⟨_,rfl,rfl,_,rfl,yN (by decide +kernel) ⟨_,rfl,rfl,_,rfl,yO ?_⟩⟩⟩⟩⟩⟩
  exact⟨_,rfl,aF (aL.of e) rfl ⟨_,rfl,_,rfl,v,o,b,g,op,bx,rfl,hg,ho,hb,hok,by lia,_,rfl,q⟩⟩
 | @both a v u g h e hg hh=>
  have h1:1+max g.ht h.ht<=n+1:=hht
  refine⟨_,rfl,aF (aL.of e) rfl ⟨_,rfl,rfl,_,rfl,yN (by decide +kernel) ⟨_,rfl,rfl,_,rfl,yN (by decide +kernel) ⟨_,rfl,rfl,_,rfl,yN (by decide +kernel) ⟨_,rfl,rfl,_,rfl,yN (by decide +kernel) ⟨_,rfl,rfl,_,rfl,yN (by decide +kernel) ⟨_,rfl,rfl,_,rfl,yO ?_⟩⟩⟩⟩⟩⟩⟩
  refine⟨_,rfl,aF (aL.of e) rfl ⟨_,rfl,_,rfl,v,o,b,g,op,bx,rfl,hg,ho,hb,hok.1,by lia,_,rfl,?_⟩⟩
  have q':Q (.bl (g.holds op bx && h.holds op bx)) H:=q
  refine pJ (fun c=>?_) (fun c=>?_)
  ·rw[c,Bool.true_and]at q'
   exact⟨_,rfl,aF (aL.of e) rfl ⟨_,rfl,_,rfl,u,o,b,h,op,bx,rfl,hh,ho,hb,hok.2,by lia,q'⟩⟩
  ·rw[Bool.eq_false_iff.mpr c,Bool.false_and]at q'
   exact q'
 | @either a v u g h e hg hh=>
  have h1:1+max g.ht h.ht<=n+1:=hht
  refine⟨_,rfl,aF (aL.of e) rfl ⟨_,rfl,rfl,_,rfl,yN (by decide +kernel) ⟨_,rfl,rfl,_,rfl,yN (by decide +kernel) ⟨_,rfl,rfl,_,rfl,yN (by decide +kernel) ⟨_,rfl,rfl,_,rfl,yN (by decide +kernel) ⟨_,rfl,rfl,_,rfl,yN (by decide +kernel) ⟨_,rfl,rfl,_,rfl,yN (by decide +kernel) ?_⟩⟩⟩⟩⟩⟩⟩
  refine⟨_,rfl,aF (aL.of e) rfl ⟨_,rfl,_,rfl,v,o,b,g,op,bx,rfl,hg,ho,hb,hok.1,by lia,_,rfl,?_⟩⟩
  have q':Q (.bl (g.holds op bx || h.holds op bx)) H:=q
  refine pJ (fun c=>?_) (fun c=>?_)
  ·rw[c,Bool.true_or]at q'
   exact q'
  ·rw[Bool.eq_false_iff.mpr c,Bool.false_or]at q'
   exact⟨_,rfl,aF (aL.of e) rfl ⟨_,rfl,_,rfl,u,o,b,h,op,bx,rfl,hh,ho,hb,hok.2,by lia,q'⟩⟩
theorem J9{f:Addr}{fd:FuncData}:aG P w K mg base aY 0 f fd ["guard","opening","boxes"] (kh 0):=by
 have no:∀ vs H Q E,¬ kh 0 vs H Q E:=fun vs H Q E h=>by
  refine aK fun G_ g_=>?_
  obtain⟨vg,o,b,g,op,bx,_,_,_,_,_,h2,_⟩:=h
  refine g_ ?_
  clear g_ G_
  have:=g.qA9
  lia
 exact⟨fun vs H Q E h=>absurd h (no vs H Q E),fun A outer s H args us vs Q E _ _ _ _ h=>absurd h (no vs H Q E)⟩
theorem An{f:Addr}{fd:FuncData}(F:cz K "holds" "holds" nA f fd)(dY:Binds K fd ["guard","opening","boxes"] [])(dX:mg "holds" = some (.ref f)):∀ n:Nat,aG P w K mg base aY n f fd ["guard","opening","boxes"] (kh n)
 | 0=>J9
 | n+1=>RX F (An F dY dX n) dY F.kp dX
end
end K02
namespace HS
open PySem L2 qR sS
inductive Al{α:Type}(R:V->α->Prop):List V->List α->Prop where
 | nil:Al R [] []
 | cons {v:V} {r:α} {vs:List V} {rs:List α}:R v r->Al R vs rs->Al R (v :: vs) (r :: rs)
theorem Al.mono{α:Type}{R R':V->α->Prop}{vs:List V}{rs:List α}(x:Al R vs rs)(k:∀ v r,R v r->R' v r):Al R' vs rs:=by
 induction x with
 | nil=>exact .nil
 | cons h _ ih=>exact .cons (k _ _ h) ih
theorem Al.length{α:Type}{R:V->α->Prop}{vs:List V}{rs:List α}(x:Al R vs rs):vs.length=rs.length:=by
 induction x with
 | nil=>rfl
 | cons _ _ ih=>rw[eV,eV,ih]
theorem Al.snoc{α:Type}{R:V->α->Prop}{vs:List V}{rs:List α}{v:V}{r:α}(x:Al R vs rs)(y:R v r):Al R (vs++[v]) (rs++[r]):=by
 induction x with
 | nil=>exact .cons y .nil
 | cons h _ ih=>exact .cons h ih
theorem Al.get{α:Type}{R:V->α->Prop}{vs:List V}{rs:List α}(x:Al R vs rs):∀ {k:Nat} {r:α},rs[k]? = some r->∃ v,vs[k]? = some v/\R v r:=by
 induction x with
 | nil=>intro k r h;simp at h
 | cons h _ ih=>
  intro k r e
  cases k with
  | zero=>
   simp at e
   subst e
   exact⟨_,rfl,h⟩
  | succ k=>exact ih (by simpa using e)
structure Dg where
 room:Int
 ev:Int
 g:Gd
noncomputable def Xq(H:Hp)(v:V)(d:Dg):Prop:=∃(a:Addr)(gv x3 x4 x5:V),v = .ref a/\H a=some (.tup [.int d.room,.int d.ev,gv,x3,x4,x5])/\jd H gv d.g
noncomputable def hit(op bx:List Int)(room ev:Int)(d:Dg):Bool:=decide (V.int d.room=V.int room) && (decide (V.int d.ev=V.int ev) && d.g.holds op bx)
noncomputable def fst(op bx:List Int)(room ev:Int):List Dg->Nat->Option Nat
 | [],_=>none
 | d :: r,b=>if hit op bx room ev d=true then some b else fst op bx room ev r (b+1)
theorem Gj(op bx:List Int)(room ev:Int)(d:Dg):∀(ds:List Dg)(b:Nat),fst op bx room ev (ds++[d]) b=match fst op bx room ev ds b with
  | some k=>some k
  | none=>if hit op bx room ev d=true then some (b+ds.length) else none
 | [],b=>by
  show (if hit op bx room ev d=true then some b else none)=_
  rfl
 | x :: ds,b=>by
  show (if hit op bx room ev x=true then some b else fst op bx room ev (ds++[d]) (b+1))=match (if hit op bx room ev x=true then some b else fst op bx room ev ds (b+1)) with
   | some k=>some k
   | none=>if hit op bx room ev d=true then some (b+(ds.length+1)) else none
  by_cases h:hit op bx room ev x=true
  ·rw[if_pos h,if_pos h]
  ·rw[if_neg h,if_neg h,Gj op bx room ev d ds (b+1),show b+1+ds.length=b+(ds.length+1) by lia]
noncomputable def dI(op bx:List Int)(ds:List Dg)(room ev:Int):Option Nat:=if inV (.int room) (op.map V.int)=true then fst op bx room ev ds 0 else none
theorem Gx(op bx:List Int)(ds:List Dg)(d:Dg)(room ev:Int):dI op bx (ds++[d]) room ev=if inV (.int room) (op.map V.int)=true/\dI op bx ds room ev=none/\hit op bx room ev d=true then some ds.length else dI op bx ds room ev:=by
 unfold dI
 by_cases h:inV (.int room) (op.map V.int)=true
 ·rw[if_pos h,if_pos h,Gj,Nat.zero_add]
  cases fst op bx room ev ds 0 with
  | some k=>
   show some k=if _ then _ else some k
   rw[if_neg (fun z=>by cases z.2.1)]
  | none=>
   show (if hit op bx room ev d=true then some ds.length else none)=if (inV (.int room) (op.map V.int)=true/\(none:Option Nat)=none/\hit op bx room ev d=true) then some ds.length else none
   by_cases y:hit op bx room ev d=true
   ·rw[if_pos y,if_pos ⟨h,rfl,y⟩]
   ·rw[if_neg y,if_neg (fun z=>y z.2.2)]
 ·rw[if_neg h,if_neg h,if_neg (fun z=>h z.1)]
theorem uB(os:List Int):(os.map V.int).all jA=true:=by
 rw[List.all_eq_true]
 intro x hx
 obtain⟨n,_,rfl⟩:=iU.mp hx
 rfl
noncomputable def yo(n:Nat):Sp:=fun vs H Q _ => ∃(pc FN pd o b:Addr)(op bx:List Int)(ds:List Dg)(dv:List V)(x0 x1 x2 x3 x4 x5 x:V)(ev:Int),vs=[.ref pc,.ref FN,.int ev]/\H pc=some (.tup [x0,x1,x2,x3,x4,x5,.ref pd])/\H pd=some (.tup dv)/\Al (Xq H) dv ds/\H FN=some (.tup [.ref o,.ref b,x])/\H o=some (.tup (op.map V.int))/\H b=some (.tup (bx.map V.int))/\(∀ d∈ds,d.g.ok bx.length/\d.g.ht<=n)/\ds.length<=1000 ∧
 ∀(p:Addr)(kvs:List (Key × V))(H':Hp),aJ H H'->H' p=some (.dK kvs)->(∀ r:Int,dD kvs (Sum.inl r)=(dI op bx ds r ev).map fun k:Nat=>V.int (k:Int))->(∃ ks:List Int,kvs.map (·.1)=ks.map Sum.inl/\ks.length<=ds.length)->H p=none->Q (.ref p) H'
section
variable{P:Program}{w:World}{K:bO}{mg:Str->Option Value}{base:Heap}
theorem fX:aH ["chart","stand","event","opening","by_room","number","door","room"] ["chart","stand","event"] (aA rD):=fO
theorem J0{n:Nat}{f gh:Addr}{fd dh:FuncData}(F:cz K "answers" "answers" rD f fd)(lg:aG P w K mg base aY n gh dh ["guard","opening","boxes"] (K02.kh n))(dY:Binds K dh ["guard","opening","boxes"] [])(lN:KI K gh)(dX:mg "holds" = some (.ref gh))
  (GD:mg "enumerate" = none):aG P w K mg base aY (n+1) f fd ["chart","stand","event"] (yo n):=by
 refine F.ok fX (fun vs H Q E h=>?_) (fun cdv A outer s H vs Q E hr h=>?_)
 ·refine aK fun G_ g_=>?_
  obtain⟨pc,FN,pd,o,b,op,bx,ds,dv,x0,x1,x2,x3,x4,x5,x,ev,rfl,_⟩:=h
  refine g_ ?_
  clear g_ G_
  rfl
 refine aK fun G_ g_=>?_
 obtain⟨pc,FN,pd,o,b,op,bx,ds,dv,x0,x1,x2,x3,x4,x5,x,ev,rfl,TQ,hpd,hds,hst,ho,hb,hok,l1000,q⟩:=h
 refine g_ ?_
 clear g_ G_
 have hu:=Nat.lt_of_le_of_lt (Nat.add_le_add_left (show 1<=64 by decide) _) hr.units
 refine⟨_,(zE (zK (i:=3) fX.nd rfl (Or.inl rfl) (yB zH (pv 1) zB (fun _ _=>rfl)))
  (zE (zK (i:=4) fX.nd rfl (Or.inl rfl) R7)
  (zZ (cj PassesOwn.never rfl (Vz rfl GD (zA (yB zH (pv 0) zB (fun _ _=>rfl)) zD)) (Il rfl (il (yJ (i:=5) fX.nd rfl (Or.inl rfl)) (il (yJ (i:=6) fX.nd rfl (Or.inl rfl)) Bk)))
  (zE (zK (i:=7) fX.nd rfl (Or.inl rfl) (yB zH (pv 6) zB (fun _ _=>rfl)))
  (zG (yD (bQ (PW.pt (pw_and (zL yG (yB zH (pv 6) zB (fun _ _=>rfl)) (pv 2) (zR _)) (pw_and (zL za (pv 7) (pv 3) rfl) (pw_and (Qy (NQ hu (pv 7) (pv 4))) (yP (cH (zJ lg hr rfl dX lN dY .nil yE (zA (yB zH (pv 6) zB (fun _ _=>rfl)) (zA (pv 3) (zA (yB zH (pv 1) zB (fun _ _=>rfl)) zD)))))))))))
  (zG (Vw hu (pv 4) (pv 7) (pv 5) rfl))
  zT))))
  (zG (zO (pv 4)))))),?_⟩
 have ldv:=hds.length
 refine⟨_,rfl,aF (aL.of hst) rfl (fun pb hpb=>?_)⟩
 have s1:=zF hpb (.dK [])
 refine⟨fun σ' H' => ∃ kvs:List (Key × V),aJ H H'/\H' pb=some (.dK kvs)/\(∀ r:Int,dD kvs (Sum.inl r)=(dI op bx ds r ev).map fun k:Nat=>V.int (k:Int))/\(∃ ks:List Int,kvs.map (·.1)=ks.map Sum.inl/\ks.length<=ds.length)/\∃ o5 o6 o7:Option V,σ'=[some (.ref pc),some (.ref FN),some (.int ev),some (.ref o),some (.ref pb),o5,o6,o7],?_,?_⟩
 ·refine⟨_,rfl,aF (aL.of (s1 _ _ TQ)) rfl ⟨pd,rfl,⟨_,aL.of (s1 _ _ hpd)⟩,?_⟩⟩
  refine Tf (K:=K) (a:=pd) (xs:=dv) (fun i σ' H' => ∃ kvs:List (Key × V),aJ H H'/\H' pb=some (.dK kvs)/\(∃ ks:List Int,kvs.map (·.1)=ks.map Sum.inl/\ks.length<=i)/\(∀ r:Int,dD kvs (Sum.inl r)=(dI op bx (ds.take i) r ev).map fun k:Nat=>V.int (k:Int))/\∃ o5 o6 o7:Option V,σ'=[some (.ref pc),some (.ref FN),some (.int ev),some (.ref o),some (.ref pb),o5,o6,o7])
   ⟨[],s1,zC,⟨[],rfl,bT _⟩,(fun r=>by
    unfold dI
    rw[List.take_zero]
    split <;> rfl),_,_,_,rfl⟩ (fun i σ' H' _ ⟨_,s',_⟩=>aL.of (s' _ _ hpd)) ?_ ?_
  ·rintro i x' σ' H3 t1 hx ⟨kvs,s3,h3,⟨ks,hks,lks⟩,VF,o5,o6,o7,rfl⟩ ht1
   have l3:kvs.length<=i:=by
    have:=congrArg List.length hks
    rw[bZ,bZ]at this
    lia
   have hi:i < ds.length:=by
    have:=(mH.mp hx).1
    lia
   have ed:=fu hi
   refine aK fun G_ g_=>?_
   obtain⟨v,hv,ad,gv,y3,y4,y5,rfl,had,hgd⟩:=hds.get ed
   refine g_ ?_
   clear g_ G_
   rw[hv]at hx
   obtain rfl:=kJ hx
   have hgk:=hok _ (kO hi)
   generalize hdd:ds[i]=d at had hgd hgk ed
   have et:ds.take (i+1)=ds.take i++[d]:=by
    rw[jN,ed]
    rfl
   have elt:(ds.take i).length=i:=by
    rw[gG]
    lia
   have s4:=s3.trans (zF ht1 (.tup [.int (i:Int),.ref ad]))
   have h4:=(zF ht1 (.tup [.int (i:Int),.ref ad])) _ _ h3
   refine⟨t1,_,rfl,aL.of zC,rfl,_,_,rfl,_,_,rfl,rfl,?_⟩
   generalize upd H3 t1 (.tup [.int (i:Int),.ref ad])=H4 at s4 h4 ⊢
   refine⟨_,rfl,aF (aL.of (s4 _ _ had)) rfl ?_⟩
   refine⟨fun c H'=>H'=H4/\c=(decide (V.int d.ev=V.int ev) && (inV (.int d.room) (op.map V.int) && (!(dD kvs (Sum.inl d.room)).isSome && d.g.holds op bx))),?_,?_⟩
   ·refine⟨_,rfl,aF (aL.of (s4 _ _ had)) rfl ⟨_,rfl,rfl,_,rfl,fV (fun c1=>?_) (fun c1=>⟨rfl,?_⟩)⟩⟩
    ·have c1:decide (V.int d.ev=V.int ev)=true:=c1
     rw[c1,Bool.true_and]
     refine⟨_,rfl,_,rfl,fQ rfl (.inr (aL.of (s4 _ _ ho))) ⟨rfl,uB op,_,rfl,fV (fun c2=>?_) (fun c2=>⟨rfl,?_⟩)⟩⟩
     ·have c2:inV (.int d.room) (op.map V.int)=true:=c2
      rw[c2,Bool.true_and]
      refine⟨_,rfl,_,rfl,pb,_,rfl,Dp.k (k:=Sum.inl d.room) h4,_,rfl,fV (fun c3=>?_) (fun c3=>⟨rfl,?_⟩)⟩
      ·rw[c3,Bool.true_and]
       exact⟨_,rfl,aF (aL.of (s4 _ _ had)) rfl ⟨_,rfl,_,rfl,aF (aL.of (s4 _ _ hst)) rfl ⟨gv,o,b,d.g,op,bx,rfl,hgd.mono (aB.of s4),s4 _ _ ho,s4 _ _ hb,hgk.1,hgk.2,_,rfl,rfl,rfl⟩⟩⟩
      ·rw[c3]
       rfl
     ·have c2:inV (.int d.room) (op.map V.int)=false:=c2
      rw[c2]
      rfl
    ·have c1:decide (V.int d.ev=V.int ev)=false:=c1
     rw[c1]
     rfl
   rintro c H5 ⟨rfl,hc⟩
   refine fV (fun c1=>?_) (fun c1=>?_)
   ·rw[c1]at hc
    have hc':=hc.symm
    simp only[Bool.and_eq_true,Bool.not_eq_true']at hc'
    refine aK fun G_ g_=>?_
    obtain⟨e1,e2,e3,e4⟩:=hc'
    refine g_ ?_
    clear g_ G_
    have e5:dI op bx (ds.take i) d.room ev=none:=by
     have:=VF d.room
     cases z:dI op bx (ds.take i) d.room ev with
     | none=>rfl
     | some k=>
      rw[z]at this
      rw[this]at e3
      cases e3
    refine⟨_,rfl,_,rfl,_,rfl,pb,_,rfl,V1.k (k:=Sum.inl d.room) h4 (zV (by lia)),putK kvs (Sum.inl d.room) (.int (i:Int)),dR hpb s4 _,zC,⟨ks++[d.room],by rw[Qx _ (by have:=VF d.room;rw[e5]at this;exact this),List.map_append,List.map_append,hks];rfl,by rw[List.length_append];simp;lia⟩,fun r=>?_,_,_,_,rfl⟩
    rw[QD,et,Gx,elt]
    by_cases z:(Sum.inl r:Key)=Sum.inl d.room
    ·have z':r=d.room:=by injection z
     subst z'
     rw[if_pos rfl,if_pos ⟨e2,e5,by
      unfold hit
      rw[decide_eq_true rfl,e1,e4]
      rfl⟩]
     rfl
    ·rw[if_neg z,if_neg (fun y=>z (by
      have y2:=y.2.2
      unfold hit at y2
      simp only[Bool.and_eq_true]at y2
      have y3:=of_decide_eq_true y2.1
      injection y3 with y4
      rw[y4]))]
     exact VF r
   ·rw[c1]at hc
    refine⟨kvs,s4,h4,⟨ks,hks,by lia⟩,fun r=>?_,_,_,_,rfl⟩
    rw[et,Gx,if_neg (fun y=>?_)]
    ·exact VF r
    ·refine aK fun G_ g_=>?_
     obtain⟨y1,y2,y3⟩:=y
     refine g_ ?_
     clear g_ G_
     unfold hit at y3
     simp only[Bool.and_eq_true]at y3
     refine aK fun G_ g_=>?_
     obtain⟨z1,z2,z3⟩:=y3
     refine g_ ?_
     clear g_ G_
     have z4:=of_decide_eq_true z1
     injection z4 with z5
     subst z5
     have:=VF d.room
     rw[y2]at this
     rw[z2,y1,this,z3]at hc
     cases hc
  ·rintro σ' H3 aZ
   refine aK fun G_ g_=>?_
   obtain⟨kvs,s3,h3,⟨ks,hks,lks⟩,VF,r⟩:=aZ
   refine g_ ?_
   clear g_ G_
   rw[uw (by lia)]at VF
   exact⟨kvs,s3,h3,VF,⟨ks,hks,by lia⟩,r⟩
 rintro σ' H3 aZ
 refine aK fun G_ g_=>?_
 obtain⟨kvs,s3,h3,VF,hks,o5,o6,o7,rfl⟩:=aZ
 refine g_ ?_
 clear g_ G_
 exact⟨_,rfl,q pb kvs H3 s3 h3 VF hks hpb⟩
end
end HS
namespace jc
open PySem L2 qR sS Dh
noncomputable def Ed:Sp:=fun vs H Q _ => ∃(t:Addr)(rs:List Rm)(k:Nat),vs=[.ref t,.int (k:Int)]/\cV H t rs/\rs.length<=40/\k < rs.length/\∀ e:Nat,Tr.Aw (aD rs) k e->Q (.int (e:Int)) H
section
variable{P:Program}{w:World}{K:bO}{mg:Str->Option Value}{base:Heap}
theorem tG:aH ["rooms","room","depth","other"] ["rooms","room"] (aA Bh):=fO
theorem ZV{f:Addr}{fd:FuncData}(F:cz K "end_of" "end_of" Bh f fd)(az:mg "range" = none)(aP:mg "len" = none):aG P w K mg base aY 1 f fd ["rooms","room"] Ed:=by
 refine F.ok tG (fun vs H Q E h=>?_) (fun cdv A outer s H vs Q E hr h=>?_)
 ·refine aK fun G_ g_=>?_
  obtain⟨t,rs,k,rfl,_⟩:=h
  refine g_ ?_
  clear g_ G_
  rfl
 refine aK fun G_ g_=>?_
 obtain⟨t,rs,k,rfl,hR,pQ,hk,q⟩:=h
 refine g_ ?_
 clear g_ G_
 refine⟨_,(zE (zK (i:=2) tG.nd rfl (Or.inl rfl) (yB zH (yB zH (pv 0) (pv 1) (fun _ _=>rfl)) zB (fun _ _=>rfl)))
  (zZ (cj PassesOwn.never rfl (tM rfl az (zA (yC yF (pv 1) zB) (zA (zS zN rfl aP bV (zA (pv 0) zD)) zD))) (yJ (i:=3) tG.nd rfl (Or.inl rfl))
  (zG (yD (zL RJ (yB zH (yB zH (pv 0) (pv 3) (fun _ _=>rfl)) zB (fun _ _=>rfl)) (pv 2) (zR _))
  (zG (zO (pv 3)))
  zT)))
  (zG (zO (zS zN rfl aP bV (zA (pv 0) zD)))))),?_⟩
 refine aK fun G_ g_=>?_
 obtain⟨vs,a,r,ht,hl,hr0,hat,ha⟩:=hR.at hk
 refine g_ ?_
 clear g_ G_
 have ed:=iR hr0
 have dl:=yV rs
 refine⟨_,rfl,_,rfl,t,vs,_,_,rfl,rfl,aL.of ht,hat,aF (aL.of ha) rfl ?_⟩
 refine⟨fun σ' H'=>H'=H/\Tr.Aw (aD rs) k rs.length/\∃ o3:Option V,σ'=[some (.ref t),some (.int (k:Int)),some (.int r.depth),o3],?_,?_⟩
 ·refine⟨_,rfl,bA ⟨_,rfl,fQ rfl (.inr (aL.of ht)) ⟨_,_,rfl,⟨by lia,by lia,by lia,by lia⟩,?_⟩⟩⟩
  refine cX (fun i σ' H'=>H'=H/\(∀ j,k < j->j < k+1+i->(aD rs).getD k 0 < (aD rs).getD j 0)/\∃ o3:Option V,σ'=[some (.ref t),some (.int (k:Int)),some (.int r.depth),o3]) ⟨rfl,fun j j1 j2=>by lia,none,rfl⟩ ?_ ?_
  ·rintro i σ' H' hi aZ
   refine aK fun G_ g_=>?_
   obtain⟨rfl,hin,o3,rfl⟩:=aZ
   have hj:k+1+i < rs.length:=by lia
   obtain⟨vs2,a2,r2,Lx,hl2,hr2,xF,ha2⟩:=hR.at hj
   refine g_ ?_
   clear g_ G_
   rw[ht]at Lx
   cases Lx
   have YS:=iR hr2
   have ej:(k:Int)+1+(i:Int)=((k+1+i:Nat):Int):=by lia
   refine⟨_,rfl,_,rfl,t,vs,_,_,rfl,rfl,aL.of ht,(by rw[ej];exact xF),aF (aL.of ha2) rfl ⟨_,rfl,bA ⟨_,rfl,?_⟩⟩⟩
   refine pJ (fun c=>?_) (fun c=>?_)
   ·have c':=of_decide_eq_true c
    refine⟨_,rfl,?_⟩
    have z:=q (k+1+i) ⟨by lia,by lia,hin,fun _=>by rw[YS,ed];exact c'⟩
    rw[<-ej]at z
    exact z
   ·have c':¬ r2.depth<=r.depth:=fun z=>c (decide_eq_true z)
    refine⟨rfl,fun j j1 j2=>?_,_,rfl⟩
    by_cases y:j=k+1+i
    ·rw[y,YS,ed]
     lia
    ·exact hin j j1 (by lia)
  ·rintro σ' H' aZ
   refine aK fun G_ g_=>?_
   obtain⟨rfl,hin,o3,rfl⟩:=aZ
   refine g_ ?_
   clear g_ G_
   exact⟨rfl,⟨hk,by lia,fun j j1 j2=>hin j j1 (by lia),fun z=>by lia⟩,o3,rfl⟩
 rintro σ' H' aZ
 refine aK fun G_ g_=>?_
 obtain⟨rfl,he,o3,rfl⟩:=aZ
 refine g_ ?_
 clear g_ G_
 refine⟨_,rfl,fQ rfl (.inr (aL.of ht)) ?_⟩
 have z:=q _ he
 rw[<-hl]at z
 exact z
noncomputable def Eb:Sp:=fun vs H Q _ => ∃(t:Addr)(rs:List Rm)(k:Nat),vs=[.ref t,.int (k:Int)]/\cV H t rs/\Tr.Good (aD rs)/\rs.length<=40/\k < rs.length/\∀ H',aJ H H'->Q (pV (Tr.par (aD rs) k)) H'
theorem tE:aH ["rooms","room","depth","other"] ["rooms","room"] (aA uz):=fO
theorem Ng{f:Addr}{fd:FuncData}(F:cz K "parent" "parent" uz f fd)(az:mg "range" = none):aG P w K mg base aY 1 f fd ["rooms","room"] Eb:=by
 refine F.ok tE (fun vs H Q E h=>?_) (fun cdv A outer s H vs Q E hr h=>?_)
 ·refine aK fun G_ g_=>?_
  obtain⟨t,rs,k,rfl,_⟩:=h
  refine g_ ?_
  clear g_ G_
  rfl
 refine aK fun G_ g_=>?_
 obtain⟨t,rs,k,rfl,hR,good,pQ,hk,q⟩:=h
 refine g_ ?_
 clear g_ G_
 refine⟨_,(zE (zK (i:=2) tE.nd rfl (Or.inl rfl) (yB zH (yB zH (pv 0) (pv 1) (fun _ _=>rfl)) zB (fun _ _=>rfl)))
  (zZ (cj PassesOwn.never rfl (W0 rfl az (qGQ (yC jZ (pv 1) zB) (qCP (R5 Hk zB) (qCP (R5 Hk zB) zD)))) (yJ (i:=3) tE.nd rfl (Or.inl rfl))
  (zG (yD (zL nJ (yB zH (yB zH (pv 0) (pv 3) (fun _ _=>rfl)) zB (fun _ _=>rfl)) (pv 2) (zR _))
  (zG (zO (pv 3)))
  zT)))
  (zG (zO jX)))),?_⟩
 refine aK fun G_ g_=>?_
 obtain⟨vs,a,r,ht,hl,hr0,hat,ha⟩:=hR.at hk
 refine g_ ?_
 clear g_ G_
 have ed:=iR hr0
 refine⟨_,rfl,_,rfl,t,vs,_,_,rfl,rfl,aL.of ht,hat,aF (aL.of ha) rfl ?_⟩
 refine⟨fun σ' H'=>H'=H/\Tr.par (aD rs) k=none,?_,?_⟩
 ·refine⟨_,rfl,bA ⟨_,rfl,_,rfl,(k:Int) - 1,rfl,by lia,by lia,?_⟩⟩
  refine Tg (fun i σ' H'=>H'=H/\(∀ j,k<=j+i->j < k->(aD rs).getD k 0<=(aD rs).getD j 0)/\∃ o3:Option V,σ'=[some (.ref t),some (.int (k:Int)),some (.int r.depth),o3]) ⟨rfl,fun j j1 j2=>by lia,none,rfl⟩ ?_ ?_
  ·rintro i σ' H' hi aZ
   refine aK fun G_ g_=>?_
   obtain⟨rfl,hin,o3,rfl⟩:=aZ
   have hi':i < k:=by lia
   have hj:k - 1 - i < rs.length:=by lia
   obtain⟨vs2,a2,r2,Lx,hl2,hr2,xF,ha2⟩:=hR.at hj
   refine g_ ?_
   clear g_ G_
   rw[ht]at Lx
   cases Lx
   have YS:=iR hr2
   have ej:(k:Int) - 1 - (i:Int)=((k - 1 - i:Nat):Int):=by lia
   refine⟨_,rfl,_,rfl,t,vs,_,_,rfl,rfl,aL.of ht,(by rw[ej];exact xF),aF (aL.of ha2) rfl ⟨_,rfl,bA ⟨_,rfl,?_⟩⟩⟩
   refine pJ (fun c=>?_) (fun c=>?_)
   ·have c':=of_decide_eq_true c
    refine⟨_,rfl,?_⟩
    have e:Tr.par (aD rs) k=some (k - 1 - i):=Tr.qC (by lia) (by rw[YS,ed];exact c') fun j j1 j2=>hin j (by lia) j2
    have z:=q _ (aJ.refl _)
    rw[e]at z
    rw[ej]
    exact z
   ·have c':¬ r2.depth < r.depth:=fun z=>c (decide_eq_true z)
    refine⟨rfl,fun j j1 j2=>?_,_,rfl⟩
    by_cases y:j=k - 1 - i
    ·rw[y,YS,ed]
     lia
    ·exact hin j (by lia) j2
  ·rintro σ' H' aZ
   refine aK fun G_ g_=>?_
   obtain⟨rfl,hin,o3,rfl⟩:=aZ
   refine g_ ?_
   clear g_ G_
   exact⟨rfl,Tr.wI fun j hj=>hin j (by lia) hj⟩
 rintro σ' H' ⟨rfl,e⟩
 have z:=q _ (aJ.refl _)
 rw[e]at z
 exact z
noncomputable def Hv:Sp:=fun vs H Q _ => ∃(t:Addr)(rs:List Rm)(one other:Nat),vs=[.ref t,.int (one:Int),.int (other:Int)]/\cV H t rs/\Tr.Good (aD rs)/\rs.length<=40/\one < rs.length/\other < rs.length/\∀ H',aJ H H'->Q (.bl (Tr.bK (aD rs) one other)) H'
theorem IW:aH ["rooms","one","other"] ["rooms","one","other"] (aA v7):=fO
theorem WX{n:Nat}{f ge:Addr}{fd de:FuncData}(F:cz K "lies_in" "lies_in" v7 f fd)(jH:aG P w K mg base aY n ge de ["rooms","room"] Ed)(jC:Binds K de ["rooms","room"] [])(j7:KI K ge)(iz:mg "end_of" = some (.ref ge)) :
  aG P w K mg base aY (n+1) f fd ["rooms","one","other"] Hv:=by
 refine F.ok IW (fun vs H Q E h=>?_) (fun cdv A outer s H vs Q E hr h=>?_)
 ·refine aK fun G_ g_=>?_
  obtain⟨t,rs,one,other,rfl,_⟩:=h
  refine g_ ?_
  clear g_ G_
  rfl
 refine aK fun G_ g_=>?_
 obtain⟨t,rs,one,other,rfl,hR,good,pQ,h1,h2,q⟩:=h
 refine g_ ?_
 clear g_ G_
 have q':=q H (aJ.refl _)
 have dl:=yV rs
 refine⟨_,(zG (zO (R8 nJ nJ (pv 2) (pv 1) (zJ jH hr rfl iz j7 jC .nil yE (zA (pv 0) (zA (pv 2) zD)))))),?_⟩
 refine⟨_,rfl,_,rfl,bA ⟨_,rfl,?_⟩⟩
 refine pJ (fun c=>?_) (fun c=>?_)
 ·have c':=of_decide_eq_true c
  refine⟨_,rfl,_,rfl,t,rs,other,rfl,hR,pQ,h2,fun e he=>(bA ?_)⟩
  rw[Tr.wR he (by lia),decide_eq_true (show other < one by lia),Bool.true_and]at q'
  have e2:decide (one < e)=decide ((one:Int) < (e:Int)):=decide_eq_decide.mpr (by lia)
  rw[e2]at q'
  exact q'
 ·have c':¬ (other:Int) < (one:Int):=fun z=>c (decide_eq_true z)
  have e1:Tr.bK (aD rs) one other=false:=by
   unfold Tr.bK
   rw[Bool.eq_false_iff]
   intro z
   have:=Tr.QF (List.contains_iff_mem.mp z)
   lia
  rw[e1]at q'
  exact q'
end
end jc
namespace K9
open PySem L2 qR sS Dh
noncomputable def isOne(rs:List Rm)(x:Nat):Bool:=match rs[x]? with
 | some r=>decide (V.str r.kind=V.str "one")
 | none=>false
noncomputable def Qd:Sp:=fun vs H Q _ => ∃(t:Addr)(rs:List Rm)(one other:Nat),vs=[.ref t,.int (one:Int),.int (other:Int)]/\cV H t rs/\Tr.Good (aD rs)/\rs.length<=40/\one < rs.length/\other < rs.length/\∀ H',aJ H H'->Q (pV (Tr.hall (aD rs) (isOne rs) one other)) H'
noncomputable def hgt:Option Nat->Nat
 | none=>0
 | some j=>j+1
end K9
namespace jc
open PySem L2 qR sS Dh
section
variable{P:Program}{w:World}{K:bO}{mg:Str->Option Value}{base:Heap}
theorem Oh(ds:List Int)(f:Nat->Bool)(b:Nat)(k:Nat):Tr.hall ds f k b=match Tr.par ds k with
  | none=>none
  | some j=>if ((Tr.ups ds b).contains j && f j)=true then some j else Tr.hall ds f j b:=by
 unfold Tr.hall
 cases e:Tr.par ds k with
 | none=>
  rw[Tr.vH e]
  rfl
 | some j=>
  rw[Tr.qg e,List.find?_cons]
  show _=if ((Tr.ups ds b).contains j && f j)=true then some j else _
  cases h:((Tr.ups ds b).contains j && f j) with
  | true=>rfl
  | false=>rfl
theorem lC:aH ["rooms","one","other","hall"] ["rooms","one","other"] (aA oW):=fO
theorem Wb{n:Nat}{f gp gl:Addr}{fd dp dl':FuncData}(F:cz K "hall_over" "hall_over" oW f fd)(HJ:aG P w K mg base aY n gp dp ["rooms","room"] Eb)(Gu:Binds K dp ["rooms","room"] [])(Gb:KI K gp)(Fy:mg "parent" = some (.ref gp))
  (pI:aG P w K mg base aY n gl dl' ["rooms","one","other"] Hv) (pG:Binds K dl' ["rooms","one","other"] []) (pA:KI K gl) (ou:mg "lies_in" = some (.ref gl)) :
  aG P w K mg base aY (n+1) f fd ["rooms","one","other"] K9.Qd:=by
 refine F.ok lC (fun vs H Q E h=>?_) (fun cdv A outer s H vs Q E hr h=>?_)
 ·refine aK fun G_ g_=>?_
  obtain⟨t,rs,one,other,rfl,_⟩:=h
  refine g_ ?_
  clear g_ G_
  rfl
 refine aK fun G_ g_=>?_
 obtain⟨t,rs,one,other,rfl,hR,good,pQ,h1,h2,q⟩:=h
 refine g_ ?_
 clear g_ G_
 refine⟨_,(zE (zK (i:=3) lC.nd rfl (Or.inl rfl) (zJ HJ hr rfl Fy Gb Gu .nil yE (zA (pv 0) (zA (pv 1) zD))))
  (zZ (rG PassesOwn.never (zL W8 (pv 3) jX (zR _))
  (zE (yD (bQ (PW.pt (pw_and (zL yG (yB zH (yB zH (pv 0) (pv 3) (fun _ _=>rfl)) zB (fun _ _=>rfl)) zP (zR _)) (yP (cH (zJ pI hr rfl ou pA pG .nil yE (zA (pv 0) (zA (pv 2) (zA (pv 3) zD)))))))))
  (zG (zO (pv 3)))
  zT)
  (zG (zK (i:=3) lC.nd rfl (Or.inl rfl) (zJ HJ hr rfl Fy Gb Gu .nil yE (zA (pv 0) (zA (pv 3) zD)))))))
  (zG (zO jX)))),?_⟩
 refine⟨_,rfl,_,rfl,t,rs,one,rfl,hR,good,pQ,h1,fun H1 s1=>?_⟩
 refine⟨fun σ' H'=>aJ H H'/\Tr.hall (aD rs) (K9.isOne rs) one other=none,?_,?_⟩
 ·refine⟨fun m σ' H' => ∃ k:Nat,k < rs.length/\m=K9.hgt (Tr.par (aD rs) k)/\aJ H H'/\Tr.hall (aD rs) (K9.isOne rs) one other=Tr.hall (aD rs) (K9.isOne rs) k other/\σ'=[some (.ref t),some (.int (one:Int)),some (.int (other:Int)),some (pV (Tr.par (aD rs) k))],⟨_,one,h1,rfl,s1,rfl,rfl⟩,?_⟩
  rintro m σ' H' aZ
  refine aK fun G_ g_=>?_
  obtain⟨k,hk,rfl,s2,hh,rfl⟩:=aZ
  refine g_ ?_
  clear g_ G_
  have hs:=Oh (aD rs) (K9.isOne rs) other k
  cases e:Tr.par (aD rs) k with
  | none=>
   rw[e]at hs
   exact⟨_,rfl,rfl,_,rfl,lQ rfl ⟨s2,hh.trans hs⟩⟩
  | some j=>
   rw[e]at hs
   have hj:j < rs.length:=Nat.lt_trans (Tr.nH e) hk
   have hR2:=hR.mono (aB.of s2)
   refine aK fun G_ g_=>?_
   obtain⟨vs,a,r,ht,hl,hr0,hat,ha⟩:=hR2.at hj
   refine g_ ?_
   clear g_ G_
   have io:K9.isOne rs j=decide (V.str r.kind=V.str "one"):=by
    unfold K9.isOne
    rw[hr0]
   refine⟨_,rfl,rfl,_,rfl,Q6 rfl ?_⟩
   refine⟨fun σ' H2=>aJ H H2/\Tr.hall (aD rs) (K9.isOne rs) one other=Tr.hall (aD rs) (K9.isOne rs) j other/\σ'=[some (.ref t),some (.int (one:Int)),some (.int (other:Int)),some (pV (Tr.par (aD rs) j))],?_,?_⟩
   ·rintro σ' H2 aZ
    refine aK fun G_ g_=>?_
    obtain⟨s3,hh2,rfl⟩:=aZ
    refine g_ ?_
    clear g_ G_
    refine⟨K9.hgt (Tr.par (aD rs) j),?_,j,hj,rfl,s3,hh2,rfl⟩
    cases e2:Tr.par (aD rs) j with
    | none=>show 0 < j+1;lia
    | some i=>have:=Tr.nH e2;show i+1 < j+1;lia
   ·refine⟨fun b H2=>aJ H' H2/\b=((Tr.ups (aD rs) other).contains j && K9.isOne rs j),?_,?_⟩
    ·refine⟨_,rfl,_,rfl,t,vs,_,_,rfl,rfl,aL.of ht,hat,aF (aL.of ha) rfl ⟨rfl,_,rfl,?_⟩⟩
     refine pJ (fun c=>?_) (fun c=>?_)
     ·refine⟨_,rfl,_,rfl,_,rfl,t,rs,other,j,rfl,hR2,good,pQ,h2,hj,fun H2 s3=>⟨_,rfl,s3,?_⟩⟩
      rw[io,c,Bool.and_true]
      rfl
     ·refine⟨aJ.refl _,?_⟩
      rw[io,Bool.eq_false_iff.mpr c,Bool.and_false]
    ·rintro b H2 ⟨s3,rfl⟩
     refine pJ (fun c=>?_) (fun c=>?_)
     ·refine⟨_,rfl,?_⟩
      have z:=q H2 (s2.trans s3)
      rw[hh,hs]at z
      simp only[c,if_true]at z
      exact z
     ·refine⟨_,rfl,_,rfl,t,rs,j,rfl,hR.mono (aB.of (s2.trans s3)),good,pQ,hj,fun H3 s4=>⟨(s2.trans s3).trans s4,?_,rfl⟩⟩
      rw[hh,hs]
      simp only[c,if_false]
      rfl
 rintro σ' H' ⟨s2,e⟩
 have z:=q _ s2
 rw[e]at z
 exact z
noncomputable def Qc:Sp:=fun vs H Q _ => ∃(t:Addr)(rs:List Rm)(k:Nat),vs=[.ref t,.int (k:Int)]/\cV H t rs/\Tr.Good (aD rs)/\rs.length<=40/\k < rs.length/\∀(p:Addr)(H':Hp),aJ H H'->H p=none->H' p=some (.lst (aC (Tr.kids (aD rs) k)))->Q (.ref p) H'
theorem Kw:aH ["rooms","room","depth"] ["rooms","room"] (aA Ek):=fO
theorem WY{n:Nat}{f ge:Addr}{fd de:FuncData}(F:cz K "kids" "kids" Ek f fd)(jH:aG P w K mg base aY n ge de ["rooms","room"] Ed)(jC:Binds K de ["rooms","room"] [])(j7:KI K ge)(iz:mg "end_of" = some (.ref ge))(az:mg "range" = none) :
  aG P w K mg base aY (n+1) f fd ["rooms","room"] Qc:=by
 refine F.ok Kw (fun vs H Q E h=>?_) (fun cdv A outer s H vs Q E hr h=>?_)
 ·refine aK fun G_ g_=>?_
  obtain⟨t,rs,k,rfl,_⟩:=h
  refine g_ ?_
  clear g_ G_
  rfl
 refine aK fun G_ g_=>?_
 obtain⟨t,rs,k,rfl,hR,good,pQ,hk,q⟩:=h
 refine g_ ?_
 clear g_ G_
 refine⟨_,(zE (zK (i:=2) Kw.nd rfl (Or.inr rfl) (yC yF (yB zH (yB zH (pv 0) (pv 1) (fun _ _=>rfl)) zB (fun _ _=>rfl)) zB))
  (zG (zO (yT (aa:=[(2,"depth"),(0,"rooms")]) rfl (show bI (aA Ek) ["rooms","room","depth"] _ _ _ from xO) (tM rfl az (zA (yC yF (pv 1) zB) (zA (zJ jH hr rfl iz j7 jC .nil yE (zA (pv 0) (zA (pv 1) zD))) zD))) (fun _ _ _ _ _ _=>dC (zL yG (yB (r:=fY K) zH (yB (r:=fY K) zH (pv 2) (pv 0) (fun _ _=>rfl)) zB (fun _ _=>rfl)) (pv 1) (zR _))) (fun _ _ _ _ _ _=>(pv 0)))))),?_⟩
 refine aK fun G_ g_=>?_
 obtain⟨vs,a,r,ht,hl,hr0,hat,ha⟩:=hR.at hk
 refine g_ ?_
 clear g_ G_
 have ed:=iR hr0
 have dl:=yV rs
 refine⟨_,rfl,_,rfl,t,vs,_,_,rfl,rfl,aL.of ht,hat,aF (aL.of ha) rfl (bA ?_)⟩
 refine⟨_,rfl,bA ⟨_,rfl,_,rfl,t,rs,k,rfl,hR,pQ,hk,fun e he=>?_⟩⟩
 have Lz:=he.lt
 have he2:=he.le
 refine⟨_,_,rfl,⟨by lia,by lia,by lia,by lia⟩,?_⟩
 refine lV (fun i acc H'=>H'=H/\acc=aC (Tr.fc (aD rs) k (k+1+i))) ⟨rfl,by rw[Tr.wY _ _ _ (by lia)];rfl⟩ (fun i acc H' hi ⟨e1,e2⟩=>?_) (fun acc H' ⟨e1,e2⟩ p hp=>?_)
 ·subst e1 e2
  have hj:k+1+i < rs.length:=by lia
  refine aK fun G_ g_=>?_
  obtain⟨vs2,a2,r2,Lx,hl2,hr2,xF,ha2⟩:=hR.at hj
  refine g_ ?_
  clear g_ G_
  rw[ht]at Lx
  cases Lx
  have YS:=iR hr2
  have ej:(k:Int)+1+(i:Int)=((k+1+i:Nat):Int):=by lia
  have pe:=Tr.Lh good he (j:=k+1+i) (by lia)
  refine⟨_,rfl,_,rfl,t,vs,_,_,rfl,rfl,aL.of ht,(by rw[ej];exact xF),aF (aL.of ha2) rfl ⟨_,rfl,rfl,_,rfl,?_⟩⟩
  refine pJ (fun c=>?_) (fun c=>?_)
  ·have c':=of_decide_eq_true c
   injection c' with c'
   refine⟨_,rfl,?_,rfl,?_⟩
   ·unfold aC
    have:=Tr.JW (aD rs) k (k+1+i)
    exact zV (by rw[bZ];lia)
   ·rw[show k+1+(i+1)=(k+1+i)+1 by lia,Tr.jR,if_pos (by rw[pe.mpr ⟨by lia,by lia,by rw[YS,ed];exact c'⟩];simp),ej]
    unfold aC
    rw[kI]
    rfl
  ·refine⟨rfl,?_⟩
   rw[show k+1+(i+1)=(k+1+i)+1 by lia,Tr.jR,if_neg,gF]
   intro z
   have y:=(pe.mp (eq_of_beq z)).2.2
   rw[YS,ed]at y
   exact c (decide_eq_true (by rw[y]))
 ·subst e1 e2
  refine q p _ (zF hp _) hp ?_
  rw[zC,Tr.Su good he,show k+1+((e:Int) - ((k:Int)+1)).toNat=e by lia]
end
end jc
namespace K8
open PySem L2 qR sS Dh
noncomputable def under(ds:List Int)(o:Nat):Option Nat->Bool
 | none=>true
 | some u=>Tr.bK ds o u
noncomputable def jY(ds:List Int)(un:Option Nat)(os:List Nat):List Nat:=(os.filter fun o=>under ds o un).reverse
noncomputable def QT:Sp:=fun vs H Q _ => ∃(t sV:Addr)(rs:List Rm)(un:Option Nat)(os:List Nat),vs=[.ref t,pV un,.ref sV]/\cV H t rs/\Tr.Good (aD rs)/\rs.length<=40/\(∀ u,un=some u->u < rs.length)/\H sV=some (.tup (aC os))/\(∀ o∈os,o < rs.length)/\os.length<=40/\os.Pairwise (· < ·) ∧
 ∀(p:Addr)(H':Hp),aJ H H'->H p=none->H' p=some (.lst (aC (jY (aD rs) un os)))->Q (.ref p) H'
theorem Wv(k:Nat)(os:List Nat):inV (.int (k:Int)) (aC os)=decide (k∈os):=by
 rw[Bool.eq_iff_iff,decide_eq_true_iff]
 constructor
 ·intro h
  obtain⟨o,ho,e⟩:=Lk h
  rw[show k=o by lia]
  exact ho
 ·intro h
  unfold inV aC
  rw[List.any_map,List.any_eq_true]
  exact⟨k,h,by simp [Ot]⟩
end K8
namespace jc
open PySem L2 qR sS Dh
section
variable{P:Program}{w:World}{K:bO}{mg:Str->Option Value}{base:Heap}
theorem pM:aH ["rooms","under","opening","end"] ["rooms","under","opening"] (aA Qo):=fO
theorem xx{n:Nat}{f ge:Addr}{fd de:FuncData}(F:cz K "goings_out" "goings_out" Qo f fd)(jH:aG P w K mg base aY n ge de ["rooms","room"] Ed)(jC:Binds K de ["rooms","room"] [])(j7:KI K ge)(iz:mg "end_of" = some (.ref ge))(dU:mg "sorted" = none) :
  aG P w K mg base aY (n+1) f fd ["rooms","under","opening"] K8.QT:=by
 refine F.ok pM (fun vs H Q E h=>?_) (fun cdv A outer s H vs Q E hr h=>?_)
 ·refine aK fun G_ g_=>?_
  obtain⟨t,sV,rs,un,os,rfl,_⟩:=h
  refine g_ ?_
  clear g_ G_
  rfl
 refine aK fun G_ g_=>?_
 obtain⟨t,sV,rs,un,os,rfl,hR,good,pQ,hun,hto,hos,los,inc,q⟩:=h
 refine g_ ?_
 clear g_ G_
 refine⟨_,(zE (yD (zL Im (pv 1) jX (zR _))
  (zG (zO (wF rfl dU (zA (pv 2) zD))))
  zT)
  (zE (zK (i:=3) pM.nd rfl (Or.inr rfl) (zJ jH hr rfl iz j7 jC .nil yE (zA (pv 0) (zA (pv 1) zD))))
  (zG (zO (wF rfl dU (zA (yT (aa:=[(1,"under"),(3,"end")]) rfl (show bI (aA Qo) ["rooms","under","opening","end"] _ _ _ from xO) (nF (pv 2)) (fun _ _ _ _ _ _=>dC (Qz nJ nJ (pv 1) (pv 0) (pv 2))) (fun _ _ _ _ _ _=>(pv 0))) zD)))))),?_⟩
 have dl:=yV rs
 cases un with
 | none=>
  refine⟨_,rfl,rfl,_,rfl,Q6 rfl ⟨_,rfl,sV,_,rfl,.inr (aL.of (by rw[<-cW];exact hto)),by rw[bZ];lia,fun p rs' hp perm QQ=>?_⟩⟩
  have e:=uL perm QQ inc
  subst e
  refine q p _ (zF hp _) hp ?_
  rw[zC]
  show some (HO.lst _)=some (HO.lst (aC (K8.jY (aD rs) none os)))
  rw[show K8.jY (aD rs) none os=os.reverse by
   unfold K8.jY
   rw[(List.filter_eq_self (p:=fun o=>K8.under (aD rs) o none)).mpr fun _ _=>rfl],<-cW]
  rfl
 | some u=>
  have hu:=hun u rfl
  refine⟨_,rfl,rfl,_,rfl,lQ rfl ⟨_,rfl,_,rfl,t,rs,u,rfl,hR,pQ,hu,fun e he=>?_⟩⟩
  refine⟨_,rfl,sV,rfl,⟨_,aL.of hto⟩,?_⟩
  refine jx (K:=K) (a:=sV) (xs:=aC os) (fun i acc H'=>H'=H/\acc=aC ((os.take i).filter fun o=>Tr.bK (aD rs) o u)) ⟨rfl,rfl⟩ (fun i acc H' ⟨e,_⟩=>by subst e;exact aL.of hto) (fun i x acc H' hx ⟨e1,e2⟩=>?_) (fun acc H' ⟨e1,e2⟩ p hp=>?_)
  ·subst e1 e2
   obtain⟨hi,rfl⟩:=yR hx
   have ho:=hos _ (kO hi)
   have el:=Tr.wR he (a:=os[i]) (by lia)
   refine⟨_,rfl,_,rfl,_,_,(e:Int),rfl,rfl,⟨_,rfl,rfl,rfl⟩,_,rfl,?_⟩
   have ec:(decide ((u:Int) < ((os[i]:Nat):Int)) && decide (((os[i]:Nat):Int) < (e:Int)))=Tr.bK (aD rs) os[i] u:=by
    rw[el]
    congr 1
    ·exact decide_eq_decide.mpr (by lia)
    ·exact decide_eq_decide.mpr (by lia)
   rw[gQ (fu hi)]
   have ll:=qe (fun o=>Tr.bK (aD rs) o u) (os.take i)
   rw[gG]at ll
   refine fV (fun c=>?_) (fun c=>?_)
   ·have c':Tr.bK (aD rs) os[i] u=true:=ec.symm.trans c
    rw[if_pos c',<-iM]
    exact⟨_,rfl,zV (by rw[zU];lia),rfl,rfl⟩
   ·have c':Tr.bK (aD rs) os[i] u=false:=ec.symm.trans c
    rw[if_neg (by rw[c'];exact qX),gF]
    exact⟨rfl,rfl⟩
  subst e1 e2
  rw[uw (by rw[zU];exact bT _)]
  have ll:=qe (fun o=>Tr.bK (aD rs) o u) os
  refine⟨p,_,rfl,.inl (aQ.of (by rw[zC];unfold aC;rw[cW])),by rw[bZ];lia,fun p2 rs' hp2 perm QQ=>?_⟩
  have e:=uL perm QQ (inc.filter _)
  subst e
  refine q p2 _ ((zF hp _).trans (zF hp2 _)) ((zF hp _).free hp2) ?_
  rw[zC,<-cW]
  rfl
noncomputable def kindAt(rs:List Rm)(p:Nat):Str:=(rs.map (·.kind)).getD p ("" : Str)
theorem Lq{rs:List Rm}{p:Nat}{r:Rm}(h:rs[p]? = some r):kindAt rs p=r.kind:=by
 unfold kindAt
 rw[kW,cZ,h]
 rfl
noncomputable def Pj(rs:List Rm)(p:Nat):Bool:=decide (kindAt rs p=("all" : Str))
noncomputable def pH(H:Hp)(pg:Addr)(rs:List Rm)(gs:List Nat):Prop:=H pg=some (.lst (aC gs))/\(∀ g∈gs,g < rs.length)/\gs.length<=100
theorem pH.mono{H H':Hp}{pg:Addr}{rs:List Rm}{gs:List Nat}(h:pH H pg rs gs)(s:aJ H H'):pH H' pg rs gs:=⟨s _ _ h.1,h.2⟩
noncomputable def Ks:Sp:=fun vs H Q _ => ∃(t pg:Addr)(rs:List Rm)(k:Nat)(gs:List Nat),vs=[.ref t,.int (k:Int),.ref pg]/\cV H t rs/\rs.length<=40/\k < rs.length/\pH H pg rs gs/\∀ H',aJ H H'->Q (.bl (Tr.bears (aD rs) gs k)) H'
noncomputable def QW:Sp:=fun vs H Q _ => ∃(t pg:Addr)(rs:List Rm)(k:Nat)(gs:List Nat),vs=[.ref t,.int (k:Int),.ref pg]/\cV H t rs/\Tr.Good (aD rs)/\rs.length<=40/\k < rs.length/\pH H pg rs gs ∧
 ∀(p:Addr)(H':Hp),aJ H H'->H p=none->H' p=some (.lst (aC (Tr.next (aD rs) (Pj rs) gs k)))->Q (.ref p) H'
noncomputable def Yy:Sp:=fun vs H Q _ => ∃(t pg:Addr)(rs:List Rm)(un:Option Nat)(gs:List Nat),vs=[.ref t,pV un,.ref pg]/\cV H t rs/\Tr.Good (aD rs)/\rs.length<=40/\(∀ u,un=some u->u < rs.length)/\pH H pg rs gs ∧
 ∀(p:Addr)(ms:List Nat)(H':Hp),aJ H H'->H p=none->H' p=some (.lst (aC ms))->Tr.VL (aD rs) (Pj rs) gs un ms->Q (.ref p) H'
theorem pN:aH ["rooms","room","goals","end"] ["rooms","room","goals"] (aA vp):=fO
theorem yW{n:Nat}{f ge:Addr}{fd de:FuncData}(F:cz K "bears_goal" "bears_goal" vp f fd)(jH:aG P w K mg base aY n ge de ["rooms","room"] Ed)(jC:Binds K de ["rooms","room"] [])(j7:KI K ge)(iz:mg "end_of" = some (.ref ge))(Lp:mg "any" = none) :
  aG P w K mg base aY (n+1) f fd ["rooms","room","goals"] Ks:=by
 refine F.ok pN (fun vs H Q E h=>?_) (fun cdv A outer s H vs Q E hr h=>?_)
 ·refine aK fun G_ g_=>?_
  obtain⟨t,pg,rs,k,gs,rfl,_⟩:=h
  refine g_ ?_
  clear g_ G_
  rfl
 refine aK fun G_ g_=>?_
 obtain⟨t,pg,rs,k,gs,rfl,hR,pQ,hk,hG,q⟩:=h
 refine g_ ?_
 clear g_ G_
 refine⟨_,(zE (zK (i:=3) pN.nd rfl (Or.inr rfl) (zJ jH hr rfl iz j7 jC .nil yE (zA (pv 0) (zA (pv 1) zD))))
  (zG (zO (zS (uF rfl) rfl Lp PyProof.Rows.boot_any (zA (yT (aa:=[(1,"room"),(3,"end")]) rfl (show bI (aA vp) ["rooms","room","goals","end"] _ _ _ from xO) (yM (pv 2)) (fun _ _ _ _ _ _=>cR) (fun _ _ _ _ _ _=>(ZG RJ nJ (pv 1) (pv 0) (pv 2)))) zD))))),?_⟩
 refine aK fun G_ g_=>?_
 obtain⟨hg,hgl,hg100⟩:=hG
 refine g_ ?_
 clear g_ G_
 have dl:=yV rs
 refine⟨_,rfl,_,rfl,t,rs,k,rfl,hR,pQ,hk,fun e he=>?_⟩
 refine⟨_,rfl,pg,rfl,⟨_,aQ.of hg⟩,?_⟩
 refine yS (K:=K) (a:=pg) (xs:=aC gs) (fun i acc H'=>H'=H/\acc=((gs.take i).map fun g:Nat=>(decide ((k:Int)<=(g:Int)) && decide ((g:Int) < (e:Int)))).map V.bl) ⟨rfl,rfl⟩ (fun i acc H' ⟨e,_⟩=>by subst e;exact aQ.of hg) (fun i x acc H' hx ⟨e1,e2⟩=>?_) (fun acc H' ⟨e1,e2⟩ p hp=>?_)
 ·subst e1 e2
  obtain⟨hi,rfl⟩:=yR hx
  refine⟨_,rfl,_,rfl,_,_,(e:Int),rfl,rfl,⟨_,rfl,rfl,rfl⟩,zV (by rw[bZ,bZ,gG];lia),rfl,?_⟩
  rw[jN,fu hi,kI,kI]
  rfl
 subst e1 e2
 rw[uw (by rw[zU];exact bT _)]
 refine⟨p,_,rfl,aQ.of zC,?_⟩
 have z:=q (upd H' p (.lst ((gs.map fun g:Nat=>(decide ((k:Int)<=(g:Int)) && decide ((g:Int) < (e:Int)))).map V.bl))) (zF hp _)
 have ee:(gs.map fun g:Nat=>(decide ((k:Int)<=(g:Int)) && decide ((g:Int) < (e:Int)))).any id=Tr.bears (aD rs) gs k:=by
  unfold Tr.bears
  rw[List.any_map,Bool.eq_iff_iff,List.any_eq_true,List.any_eq_true]
  have Lz:=he.lt
  have pt:∀ g∈gs,((id ∘ fun g:Nat=>(decide ((k:Int)<=(g:Int)) && decide ((g:Int) < (e:Int)))) g=true ↔ (g == k || Tr.bK (aD rs) g k)=true):=fun g hg'=>by
   have:=hgl g hg'
   rw[Tr.wR he (by lia)]
   show (decide ((k:Int)<=(g:Int)) && decide ((g:Int) < (e:Int)))=true ↔ _
   rw[Bool.or_eq_true,Bool.and_eq_true,Bool.and_eq_true,decide_eq_true_iff,decide_eq_true_iff,decide_eq_true_iff,decide_eq_true_iff,beq_iff_eq]
   lia
  exact⟨fun ⟨g,a,b⟩=>⟨g,a,(pt g a).mp b⟩,fun ⟨g,a,b⟩=>⟨g,a,(pt g a).mpr b⟩⟩
 rw[ee]
 exact z
theorem pY:aH ["rooms","room","goals","own","kid"] ["rooms","room","goals"] (aA Ky):=fO
theorem Iu{n:Nat}{f gk gb:Addr}{fd dk db:FuncData}(F:cz K "next_in" "next_in" Ky f fd)
  (qB6:aG P w K mg base aY n gk dk ["rooms","room"] Qc) (qAY:Binds K dk ["rooms","room"] []) (qA4:KI K gk) (Zj:mg "kids" = some (.ref gk))
  (Dm:aG P w K mg base aY n gb db ["rooms","room","goals"] Ks) (DY:Binds K db ["rooms","room","goals"] []) (Cd:KI K gb) (CJ:mg "bears_goal" = some (.ref gb)) :
  aG P w K mg base aY (n+1) f fd ["rooms","room","goals"] QW:=by
 refine F.ok pY (fun vs H Q E h=>?_) (fun cdv A outer s H vs Q E hr h=>?_)
 ·refine aK fun G_ g_=>?_
  obtain⟨t,pg,rs,k,gs,rfl,_⟩:=h
  refine g_ ?_
  clear g_ G_
  rfl
 refine aK fun G_ g_=>?_
 obtain⟨t,pg,rs,k,gs,rfl,hR,good,pQ,hk,hG,q⟩:=h
 refine g_ ?_
 clear g_ G_
 refine⟨_,(zE (zK (i:=3) pY.nd rfl (Or.inl rfl) (zJ qB6 hr rfl Zj qA4 qAY .nil yE (zA (pv 0) (zA (pv 1) zD))))
  (zE (yD (zL yG (yB zH (yB zH (pv 0) (pv 1) (fun _ _=>rfl)) zB (fun _ _=>rfl)) zP (zR _))
  (zG (zO (pv 3)))
  zT)
  (zZ (cj PassesOwn.never rfl (yM (pv 3)) (yJ (i:=4) pY.nd rfl (Or.inl rfl))
  (zG (yD (cH (zJ Dm hr rfl CJ Cd DY .nil yE (zA (pv 0) (zA (pv 4) (zA (pv 2) zD)))))
  (zG (zO (yK (zA (pv 4) zD))))
  zT)))
  (zG (zO (ir BX (pv 3) lF (lE zB))))))),?_⟩
 refine aK fun G_ g_=>?_
 obtain⟨vs,a,r,ht,hl,hr0,hat,ha⟩:=hR.at hk
 refine g_ ?_
 clear g_ G_
 have dl:=yV rs
 refine⟨_,rfl,_,rfl,t,rs,k,rfl,hR,good,pQ,hk,fun po H1 s1 npo hpo=>?_⟩
 refine⟨_,rfl,_,rfl,t,vs,_,_,rfl,rfl,aL.of (s1 _ _ ht),hat,aF (aL.of (s1 _ _ ha)) rfl ⟨rfl,_,rfl,?_⟩⟩
 have eal:Pj rs k=decide (V.str r.kind=V.str ("all" : Str)):=by
  unfold Pj
  rw[Lq hr0]
  exact decide_eq_decide.mpr ⟨fun z=>by rw[z],fun z=>by injection z⟩
 refine fV (fun c=>?_) (fun c=>?_)
 ·refine⟨_,rfl,q po H1 s1 npo ?_⟩
  rw[Tr.Rq (eal.trans c)]
  exact hpo
 have nal:Pj rs k=false:=eal.trans c
 have kl:∀ x∈Tr.kids (aD rs) k,x < rs.length:=fun x hx=>by
  have:=(Tr.wN.mp hx).1
  lia
 have eN:Tr.next (aD rs) (Pj rs) gs k=match (Tr.kids (aD rs) k).find? (Tr.bears (aD rs) gs) with
   | some j=>[j]
   | none=>(Tr.kids (aD rs) k).take 1:=by
  unfold Tr.next
  rw[if_neg (by rw[nal];exact qX)]
  all_goals (cases (Tr.kids (aD rs) k).find? (Tr.bears (aD rs) gs) <;> rfl)
 generalize hks:Tr.kids (aD rs) k=ks at hpo kl eN
 refine⟨fun σ' H'=>aJ H1 H'/\(∀ x∈ks,Tr.bears (aD rs) gs x=false)/\∃ o4:Option V,σ'=[some (.ref t),some (.int (k:Int)),some (.ref pg),some (.ref po),o4],?_,?_⟩
 ·refine⟨_,rfl,po,rfl,⟨_,aQ.of hpo⟩,?_⟩
  refine rW (K:=K) (a:=po) (xs:=aC ks) (fun i σ' H'=>aJ H1 H'/\(∀ x∈ks.take i,Tr.bears (aD rs) gs x=false)/\∃ o4:Option V,σ'=[some (.ref t),some (.int (k:Int)),some (.ref pg),some (.ref po),o4])
   ⟨aJ.refl _,fun x hx=>(by rw[List.take_zero]at hx;cases hx),_,rfl⟩ (fun i σ' H' _ ⟨s2,_⟩=>aQ.of (s2 _ _ hpo)) ?_ ?_
  ·rintro j x σ' H2 hx aZ
   refine aK fun G_ g_=>?_
   obtain⟨s2,hno,o4,rfl⟩:=aZ
   obtain⟨hj,rfl⟩:=yR hx
   refine g_ ?_
   clear g_ G_
   have hlt:=kl _ (kO hj)
   refine⟨_,rfl,_,rfl,_,rfl,t,pg,rs,ks[j],gs,rfl,hR.mono (aB.of (s1.trans s2)),pQ,hlt,hG.mono (s1.trans s2),fun H3 s3=>⟨_,rfl,?_⟩⟩
   refine fV (fun c=>?_) (fun c=>?_)
   ·refine⟨_,rfl,zI (by show 1<=1000;decide),fun p hp=>q p _ ((s1.trans (s2.trans s3)).trans (zF hp _)) ((s1.trans (s2.trans s3)).free hp) ?_⟩
    have ef:ks.find? (Tr.bears (aD rs) gs)=some ks[j]:=by
     rw[List.find?_eq_some_iff_getElem]
     exact⟨c,j,hj,rfl,fun i hi=>by rw[hno _ (by rw[List.mem_take_iff_getElem];exact⟨i,by lia,rfl⟩)];rfl⟩
    rw[zC,eN,ef]
    rfl
   ·refine⟨s2.trans s3,fun x hx=>?_,_,rfl⟩
    rw[jN,fu hj]at hx
    rcases gW.mp hx with h | h
    ·exact hno x h
    ·rw[dJ.mp h]
     exact c
  ·rintro σ' H2 aZ
   refine aK fun G_ g_=>?_
   obtain⟨s2,hno,o4,rfl⟩:=aZ
   refine g_ ?_
   clear g_ G_
   rw[uw (by rw[zU];exact bT _)]at hno
   exact⟨s2,hno,_,rfl⟩
 rintro σ' H2 aZ
 refine aK fun G_ g_=>?_
 obtain⟨s2,hno,o4,rfl⟩:=aZ
 refine g_ ?_
 clear g_ G_
 refine⟨_,rfl,_,rfl,po,_,rfl,aQ.of (s2 _ _ hpo),fun p hp=>q p _ ((s1.trans s2).trans (zF hp _)) ((s1.trans s2).free hp) ?_⟩
 have ef:ks.find? (Tr.bears (aD rs) gs)=none:=by
  rw[List.find?_eq_none]
  intro x hx
  rw[hno x hx]
  exact qX
 rw[zC,eN,ef,Gn _ (by decide)]
 show some (HO.lst ((aC ks).take 1))=some (HO.lst (aC (ks.take 1)))
 unfold aC
 rw[List.map_take]
theorem iC:aH ["rooms","under","goals","ahead","gone","room"] ["rooms","under","goals"] (aA sIn):=fO
theorem Bt{n:Nat}{f gn:Addr}{fd dn:FuncData}(F:cz K "goings_in" "goings_in" sIn f fd)
  (Av:aG P w K mg base aY n gn dn ["rooms","room","goals"] QW) (Am:Binds K dn ["rooms","room","goals"] []) (Aa:KI K gn) (zr:mg "next_in" = some (.ref gn))
  (aP:mg "len" = none) (dU:mg "sorted" = none):aG P w K mg base aY (n+1) f fd ["rooms","under","goals"] Yy:=by
 refine F.ok iC (fun vs H Q E h=>?_) (fun cdv A outer s H vs Q E hr h=>?_)
 ·refine aK fun G_ g_=>?_
  obtain⟨t,pg,rs,un,gs,rfl,_⟩:=h
  refine g_ ?_
  clear g_ G_
  rfl
 refine aK fun G_ g_=>?_
 obtain⟨t,pg,rs,un,gs,rfl,hR,good,pQ,hun,hG,q⟩:=h
 refine g_ ?_
 clear g_ G_
 refine⟨_,(zE (zK (i:=3) iC.nd rfl (Or.inl rfl) (q9 (FQ (zL Im (pv 1) jX (zR _)) (yK (zA zB zD)) (zJ Av hr rfl zr Aa Am .nil yE (zA (pv 0) (zA (pv 1) (zA (pv 2) zD)))))))
  (zE (zK (i:=4) iC.nd rfl (Or.inl rfl) (yK zD))
  (zZ (rG PassesOwn.never (zL gM (zS zN rfl aP bV (zA (pv 3) zD)) zB (zR _))
  (zE (zK (i:=5) iC.nd rfl (Or.inl rfl) (R9 jM PySem.F.slot_list_pop PySem.F.type_list_pop Ze (pv 3)))
  (zE (yI (dz jM sy sZ yH (pv 4) (zA (pv 5) zD)))
  (zG (yI (dz jM PySem.F.slot_list_extend PySem.F.type_list_extend iQ (pv 3) (zA (zJ Av hr rfl zr Aa Am .nil yE (zA (pv 0) (zA (pv 5) (zA (pv 2) zD)))) zD)))))))
  (zG (zO (zS nu rfl dU PyProof.Rows.boot_sorted (zA (pv 4) zD))))))),?_⟩
 have dl:=yV rs
 have pos:=good.pos
 refine⟨fun v H' => ∃(pa:Addr)(ah:List Nat),v = .ref pa/\aJ H H'/\H pa=none/\H' pa=some (.lst (aC ah))/\Tr.oG (aD rs) (Pj rs) gs un [] ah,?_,?_⟩
 ·cases un with
  | none=>exact⟨_,rfl,rfl,_,rfl,Q6 rfl ⟨zI (by show 1<=1000;decide),fun p hp=>⟨p,[0],rfl,zF hp _,hp,zC,Tr.oG.none _ _ _⟩⟩⟩
  | some u=>exact⟨_,rfl,rfl,_,rfl,lQ rfl ⟨_,rfl,_,rfl,_,rfl,t,pg,rs,u,gs,rfl,hR,good,pQ,hun u rfl,hG,fun p H1 s1 np hp=>⟨p,_,rfl,s1,np,hp,Tr.oG.some _ _ _ u⟩⟩⟩
 rintro _ H1 aZ
 refine aK fun G_ g_=>?_
 obtain⟨pa,ah,rfl,s1,npa,hpa,wk⟩:=aZ
 refine g_ ?_
 clear g_ G_
 refine⟨Nat.zero_le _,fun pn hpn=>?_⟩
 have Zc:H pn=none:=s1.free hpn
 have ne:pn ≠ pa:=fun e=>by
  rw[e,hpa]at hpn
  cases hpn
 refine⟨fun σ' H' => ∃ gone:List Nat,aJ H H'/\H' pn=some (.lst (aC gone))/\Tr.oG (aD rs) (Pj rs) gs un gone []/\∃ o5:Option V,σ'=[some (.ref t),some (pV un),some (.ref pg),some (.ref pa),some (.ref pn),o5],?_,?_⟩
 ·refine⟨fun m σ' H' => ∃(gone ahead:List Nat),m=rs.length - gone.length/\aJ H H'/\H' pa=some (.lst (aC ahead))/\H' pn=some (.lst (aC gone))/\Tr.oG (aD rs) (Pj rs) gs un gone ahead/\∃ o5:Option V,σ'=[some (.ref t),some (pV un),some (.ref pg),some (.ref pa),some (.ref pn),o5],
   ⟨_,[],ah,rfl,s1.trans (zF hpn _),(zF hpn _) _ _ hpa,zC,wk,_,rfl⟩,?_⟩
  rintro m σ' H2 aZ
  refine aK fun G_ g_=>?_
  obtain⟨gone,ahead,rfl,s2,ha2,hn2,Xu,o5,rfl⟩:=aZ
  refine g_ ?_
  clear g_ G_
  refine⟨_,rfl,fQ rfl (.inl (aQ.of ha2)) (bA ⟨_,rfl,?_⟩)⟩
  refine fV (fun c=>?_) (fun c=>?_)
  ·have c':=of_decide_eq_true c
   rw[zU]at c'
   have wl:=Xu.len pos
   refine aK fun G_ g_=>?_
   obtain⟨a,r,rfl⟩:∃ a r,ahead=a++[r]:=by
    refine⟨ahead.dropLast,ahead.getLast (fun z=>by rw[z]at c';exact absurd c' (by decide)),(List.dropLast_concat_getLast _).symm⟩
   refine g_ ?_
   clear g_ G_
   have hrl:r < rs.length:=by
    have:=(Xu.ok r (by simp)).lt pos
    lia
   rw[fU,jf]at wl
   refine⟨fun σ' H' => ∃(TX Uj:List Nat),TX.length=gone.length+1/\aJ H H'/\H' pa=some (.lst (aC Uj))/\H' pn=some (.lst (aC TX))/\Tr.oG (aD rs) (Pj rs) gs un TX Uj/\∃ o5:Option V,σ'=[some (.ref t),some (pV un),some (.ref pg),some (.ref pa),some (.ref pn),o5],?_,?_⟩
   ·rintro σ' H3 aZ
    refine aK fun G_ g_=>?_
    obtain⟨g2,a2,hl,rest⟩:=aZ
    refine g_ ?_
    clear g_ G_
    exact⟨rs.length - g2.length,by lia,g2,a2,rfl,rest⟩
   refine⟨_,rfl,.inl ⟨rfl,_,aQ.of ha2⟩,pa,_,.int (r:Int),rfl,rfl,ha2,?_,?_⟩
   ·rw[<-iM,fU,jf,Nat.add_sub_cancel,Yn (bT _),Nat.sub_self]
    rfl
   have hn3:(upd H2 pa (.lst (aC (a++[r])).dropLast)) pn=some (.lst (aC gone)):=by
    rw[zQ ne]
    exact hn2
   refine⟨_,rfl,.inl ⟨rfl,_,aQ.of hn3⟩,_,rfl,pn,_,_,rfl,rfl,hn3,zV (by rw[zU];lia),?_⟩
   have s3:aJ H (upd (upd H2 pa (.lst (aC (a++[r])).dropLast)) pn (.lst (aC gone++[.int (r:Int)]))):=dR Zc (dR npa s2 _) _
   have ha3:(upd (upd H2 pa (.lst (aC (a++[r])).dropLast)) pn (.lst (aC gone++[.int (r:Int)]))) pa=some (.lst (aC a)):=by
    rw[zQ (Ne.symm ne),zC,<-iM,List.dropLast_concat]
   have hn4:(upd (upd H2 pa (.lst (aC (a++[r])).dropLast)) pn (.lst (aC gone++[.int (r:Int)]))) pn=some (.lst (aC (gone++[r]))):=by
    rw[zC,iM]
   generalize upd (upd H2 pa (.lst (aC (a++[r])).dropLast)) pn (.lst (aC gone++[.int (r:Int)]))=H3 at s3 ha3 hn4 ⊢
   refine⟨_,rfl,.inl ⟨rfl,_,aQ.of ha3⟩,_,rfl,_,rfl,_,rfl,t,pg,rs,r,gs,rfl,hR.mono (aB.of s3),good,pQ,hrl,hG.mono s3,fun px H4 s4 npx hpx=>?_⟩
   have wk3:=Xu.step
   have wl3:=wk3.len pos
   rw[fU]at wl3
   refine⟨pa,px,_,_,rfl,rfl,s4 _ _ ha3,hpx,zI (by rw[zU,zU];rw[fU]at wl3;lia),gone++[r],a++Tr.next (aD rs) (Pj rs) gs r,by rw[fU];rfl,dR npa (s3.trans s4) _,?_,?_,wk3,_,rfl⟩
   ·rw[zC]
    unfold aC
    rw[kI]
   ·rw[zQ ne]
    exact s4 _ _ hn4
  ·have c':=of_decide_eq_false c
   rw[zU]at c'
   have e:ahead=[]:=List.eq_nil_of_length_eq_zero (by lia)
   subst e
   exact⟨gone,s2,hn2,Xu,_,rfl⟩
 rintro σ' H2 aZ
 refine aK fun G_ g_=>?_
 obtain⟨gone,s2,hn2,Xu,o5,rfl⟩:=aZ
 refine g_ ?_
 clear g_ G_
 have wl:=Xu.len pos
 refine⟨_,rfl,pn,_,rfl,.inl (aQ.of (by rw[hn2];unfold aC;rw[cW])),by rw[bZ];lia,fun p rs' hp perm QQ=>?_⟩
 have nd:gone.Nodup:=by
  have:=Xu.nd
  rw[gF]at this
  exact this
 refine aK fun G_ g_=>?_
 obtain⟨ms,rfl,rise,hpm⟩:=mZ perm QQ nd
 refine g_ ?_
 clear g_ G_
 refine q p ms _ (s2.trans (zF hp _)) (s2.free hp) ?_ ⟨rise,fun k=>(hpm.mem_iff).trans (Xu.done k)⟩
 rw[zC,<-cW]
 rfl
noncomputable def dW(H:Hp)(v:V)(k:List Nat):Prop:=∃ a:Addr,v = .ref a/\H a=some (.tup (aC k))
inductive bF(H:Hp):List V->List (List Nat)->Prop where
 | nil:bF H [] []
 | cons {v:V} {k:List Nat} {vs:List V} {ks:List (List Nat)}:dW H v k->bF H vs ks->bF H (v :: vs) (k :: ks)
theorem dW.mono{H H':Hp}{v:V}{k:List Nat}(x:dW H v k)(s:aB H H'):dW H' v k:=by
 obtain⟨a,e,h⟩:=x
 exact⟨a,e,s _ _ h⟩
theorem bF.mono{H H':Hp}{vs:List V}{ks:List (List Nat)}(x:bF H vs ks)(s:aB H H'):bF H' vs ks:=by
 induction x with
 | nil=>exact .nil
 | cons h _ ih=>exact .cons (h.mono s) ih
theorem bF.length{H:Hp}{vs:List V}{ks:List (List Nat)}(x:bF H vs ks):vs.length=ks.length:=by
 induction x with
 | nil=>rfl
 | cons _ _ ih=>rw[eV,eV,ih]
theorem bF.get{H:Hp}{vs:List V}{ks:List (List Nat)}(x:bF H vs ks):∀ {i:Nat} {k:List Nat},ks[i]? = some k->∃ v,vs[i]? = some v/\dW H v k:=by
 induction x with
 | nil=>intro i k h;simp at h
 | cons h _ ih=>
  intro i k e
  cases i with
  | zero=>
   simp at e
   subst e
   exact⟨_,rfl,h⟩
  | succ i=>exact ih (by simpa using e)
theorem bF.set{H:Hp}{vs:List V}{ks:List (List Nat)}(x:bF H vs ks){v:V}{k:List Nat}(h:dW H v k):∀ i:Nat,bF H (vs.set i v) (ks.set i k):=by
 induction x with
 | nil=>intro i;exact .nil
 | cons h' hs ih=>
  intro i
  cases i with
  | zero=>exact .cons h hs
  | succ i=>exact .cons h' (ih i)
noncomputable def cu(rs:List Rm)(p:Nat):Str:=(rs.map (·.keeps)).getD p ("" : Str)
theorem GX{rs:List Rm}{p:Nat}{r:Rm}(h:rs[p]? = some r):cu rs p=r.keeps:=by
 unfold cu
 rw[kW,cZ,h]
 rfl
noncomputable def ZC(rs:List Rm)(p:Nat):Bool:=decide (kindAt rs p=("plain" : Str))
noncomputable def fL(ds:List Int)(os:List Nat)(r:Nat):List Nat:=os.filter fun o=>Tr.bK ds o r
noncomputable def jr(rs:List Rm)(os:List Nat)(r:Nat):List Nat:=if cu rs r=("near" : Str) then (fL (aD rs) os r).take 1 else (fL (aD rs) os r).filter (ZC rs)
noncomputable def bL(rs:List Rm)(os:List Nat)(ls:List Nat)(ks:List (List Nat)):List (List Nat):=ls.foldl (fun k r=>if cu rs r=("" : Str) then k else k.set r (jr rs os r)) ks
theorem rQ(rs:List Rm)(os:List Nat):∀(ls:List Nat)(ks:List (List Nat)),(bL rs os ls ks).length=ks.length
 | [],_=>rfl
 | r :: ls,ks=>by
  show (bL rs os ls (if cu rs r=("" : Str) then ks else ks.set r (jr rs os r))).length=_
  rw[rQ rs os ls]
  split
  ·rfl
  ·rw[List.length_set]
theorem yZ(rs:List Rm)(os ls:List Nat)(r:Nat)(ks:List (List Nat)):bL rs os (ls++[r]) ks=if cu rs r=("" : Str) then bL rs os ls ks else (bL rs os ls ks).set r (jr rs os r):=by
 unfold bL
 rw[List.foldl_append]
 rfl
noncomputable def Kl:Sp:=fun vs H Q _ => ∃(t pt:Addr)(rs:List Rm)(os:List Nat),vs=[.ref t,.ref pt]/\cV H t rs/\rs.length<=40/\H pt=some (.lst (aC os))/\(∀ o∈os,o < rs.length)/\os.length<=100 ∧
 ∀(p:Addr)(H':Hp),aJ H H'->H' p=some (.tup (aC (os.filter (ZC rs))))->Q (.ref p) H'
noncomputable def Ec:Sp:=fun vs H Q _ => ∃(t sV:Addr)(rs:List Rm)(os:List Nat)(r:Nat),vs=[.ref t,.ref sV,.int (r:Int)]/\cV H t rs/\Tr.Good (aD rs)/\rs.length<=40/\H sV=some (.tup (aC os))/\(∀ o∈os,o < rs.length)/\os.length<=40/\os.Pairwise (· < ·)/\r < rs.length ∧
 ∀(p:Addr)(H':Hp),aJ H H'->H' p=some (.tup (aC (jr rs os r)))->Q (.ref p) H'
noncomputable def yl:Sp:=fun vs H Q _ => ∃(t sV pl pk:Addr)(rs:List Rm)(os ls:List Nat)(kv:List V)(ks:List (List Nat)),vs=[.ref t,.ref sV,.ref pl,.ref pk]/\cV H t rs/\Tr.Good (aD rs)/\rs.length<=40/\H sV=some (.tup (aC os))/\(∀ o∈os,o < rs.length)/\os.length<=40/\os.Pairwise (· < ·)/\H pl=some (.lst (aC ls))/\(∀ l∈ls,l < rs.length)/\H pk=some (.tup kv)/\bF H kv ks/\ks.length=rs.length ∧
 ∀(p:Addr)(uV:List V)(H':Hp),aJ H H'->H' p=some (.tup uV)->bF H' uV (bL rs os ls ks)->Q (.ref p) H'
theorem xq:aH ["rooms","told"] ["rooms","told"] (aA vh):=fO
theorem xu{f:Addr}{fd:FuncData}(F:cz K "plain_ones" "plain_ones" vh f fd)(aM:mg "tuple" = none):aG P w K mg base aY 1 f fd ["rooms","told"] Kl:=by
 refine F.ok xq (fun vs H Q E h=>?_) (fun cdv A outer s H vs Q E hr h=>?_)
 ·refine aK fun G_ g_=>?_
  obtain⟨t,pt,rs,os,rfl,_⟩:=h
  refine g_ ?_
  clear g_ G_
  rfl
 refine aK fun G_ g_=>?_
 obtain⟨t,pt,rs,os,rfl,hR,pQ,Q7,hos,los,q⟩:=h
 refine g_ ?_
 clear g_ G_
 refine⟨_,(zG (zO (yA zX rfl aM iT (zA (yT (aa:=[(0,"rooms")]) rfl (show bI (aA vh) ["rooms","told"] _ _ _ from xO) (yM (pv 1)) (fun _ _ _ _ _ _=>dC (zL yG (yB (r:=fY K) zH (yB (r:=fY K) zH (pv 1) (pv 0) (fun _ _=>rfl)) zB (fun _ _=>rfl)) zP (zR _))) (fun _ _ _ _ _ _=>(pv 0))) zD)))),?_⟩
 refine⟨_,rfl,pt,rfl,⟨_,aQ.of Q7⟩,?_⟩
 refine yS (K:=K) (a:=pt) (xs:=aC os) (fun i acc H'=>H'=H/\acc=aC ((os.take i).filter (ZC rs))) ⟨rfl,rfl⟩ (fun i acc H' ⟨e,_⟩=>by subst e;exact aQ.of Q7) (fun i x acc H' hx ⟨e1,e2⟩=>?_) (fun acc H' ⟨e1,e2⟩ p hp=>?_)
 ·subst e1 e2
  refine aK fun G_ g_=>?_
  obtain⟨hi,rfl⟩:=yR hx
  obtain⟨vs,a,r,ht,hl,hr0,hat,ha⟩:=hR.at (hos _ (kO hi))
  refine g_ ?_
  clear g_ G_
  refine⟨_,rfl,_,rfl,t,vs,_,_,rfl,rfl,aL.of ht,hat,aF (aL.of ha) rfl ⟨rfl,_,rfl,?_⟩⟩
  have ep:ZC rs os[i]=decide (V.str r.kind=V.str ("plain" : Str)):=by
   unfold ZC
   rw[Lq hr0]
   exact decide_eq_decide.mpr ⟨fun z=>by rw[z],fun z=>by injection z⟩
  rw[gQ (fu hi)]
  have ll:=qe (ZC rs) (os.take i)
  rw[gG]at ll
  refine fV (fun c=>?_) (fun c=>?_)
  ·rw[if_pos (ep.trans c),<-iM]
   exact⟨_,rfl,zV (by rw[zU];lia),rfl,rfl⟩
  ·rw[if_neg (by rw[show ZC rs os[i]=false from ep.trans c];exact qX),gF]
   exact⟨rfl,rfl⟩
 subst e1 e2
 rw[uw (by rw[zU];exact bT _)]
 exact⟨p,_,rfl,.inl ⟨aQ.of zC,fun p2 hp2=>q p2 _ ((zF hp _).trans (zF hp2 _)) zC⟩⟩
theorem vX:aH ["rooms","opening","room","inside"] ["rooms","opening","room"] (aA v8):=fO
theorem Iv{n:Nat}{f gg gp:Addr}{fd dg dp:FuncData}(F:cz K "kept_of" "kept_of" v8 f fd)
  (lq:aG P w K mg base aY n gg dg ["rooms","under","opening"] K8.QT) (lY:Binds K dg ["rooms","under","opening"] []) (lO:KI K gg) (lK:mg "goings_out" = some (.ref gg))
  (Dj:aG P w K mg base aY n gp dp ["rooms","told"] Kl) (DQ:Binds K dp ["rooms","told"] []) (CW:KI K gp) (Bx:mg "plain_ones" = some (.ref gp))
  (dU:mg "sorted" = none) (aM:mg "tuple" = none):aG P w K mg base aY (n+1) f fd ["rooms","opening","room"] Ec:=by
 refine F.ok vX (fun vs H Q E h=>?_) (fun cdv A outer s H vs Q E hr h=>?_)
 ·refine aK fun G_ g_=>?_
  obtain⟨t,sV,rs,os,r,rfl,_⟩:=h
  refine g_ ?_
  clear g_ G_
  rfl
 refine aK fun G_ g_=>?_
 obtain⟨t,sV,rs,os,r,rfl,hR,good,pQ,hto,hos,los,inc,hr',q⟩:=h
 refine g_ ?_
 clear g_ G_
 refine⟨_,(zE (zK (i:=3) vX.nd rfl (Or.inl rfl) (zS nu rfl dU PyProof.Rows.boot_sorted (zA (zJ lq hr rfl lK lO lY .nil yE (zA (pv 0) (zA (pv 2) (zA (pv 1) zD)))) zD)))
  (zE (yD (zL yG (yB zH (yB zH (pv 0) (pv 2) (fun _ _=>rfl)) zB (fun _ _=>rfl)) zP (zR _))
  (zG (zO (yA zX rfl aM iT (zA (ir BX (pv 3) lF (lE zB)) zD))))
  zT)
  (zG (zO (zJ Dj hr rfl Bx CW DQ .nil yE (zA (pv 0) (zA (pv 3) zD))))))),?_⟩
 refine aK fun G_ g_=>?_
 obtain⟨vs,a,r0,ht,hl,hr0,hat,ha⟩:=hR.at hr'
 refine g_ ?_
 clear g_ G_
 refine⟨_,rfl,_,rfl,_,rfl,t,sV,rs,some r,os,rfl,hR,good,pQ,fun u e=>(by cases e;exact hr'),hto,hos,los,inc,fun pf H1 s1 npf hpf=>?_⟩
 have eo:K8.jY (aD rs) (some r) os=(fL (aD rs) os r).reverse:=rfl
 have li:=qe (fun o=>Tr.bK (aD rs) o r) os
 have li':(fL (aD rs) os r).length<=os.length:=li
 have ri:(fL (aD rs) os r).Pairwise (· < ·):=inc.filter _
 have mi:∀ o∈fL (aD rs) os r,o < rs.length:=fun o ho=>hos o (mJ.mp ho).1
 unfold jr at q
 generalize fL (aD rs) os r=xs at eo li' ri mi q
 rw[eo]at hpf
 refine⟨pf,_,rfl,.inl (aQ.of (by rw[hpf];unfold aC;rw[cW])),by rw[bZ,List.length_reverse];lia,fun p1 rs' hp1 perm QQ=>?_⟩
 refine aK fun G_ g_=>?_
 obtain⟨ms,rfl,rise,hpm⟩:=mZ perm QQ (by unfold List.Nodup;rw[List.pairwise_reverse];exact ri.imp fun z=>Ne.symm (lu z))
 refine g_ ?_
 clear g_ G_
 obtain rfl:ms=xs:=gK _ _ rise ri fun k=>by rw[hpm.mem_iff,List.mem_reverse]
 rw[<-cW]
 have s2:=s1.trans (zF hp1 (.lst (aC ms)))
 have h2:(upd H1 p1 (.lst (aC ms))) p1=some (.lst (aC ms)):=zC
 change _ at s2
 refine⟨_,rfl,_,rfl,t,vs,_,_,rfl,rfl,aL.of (s2 _ _ ht),hat,aF (aL.of (s2 _ _ ha)) rfl ⟨rfl,_,rfl,?_⟩⟩
 have ek:(cu rs r=("near" : Str)) ↔ V.str r0.keeps=V.str ("near" : Str):=by
  rw[GX hr0]
  exact⟨fun z=>by rw[z],fun z=>by injection z⟩
 refine fV (fun c=>?_) (fun c=>?_)
 ·have c':=ek.mpr (of_decide_eq_true c)
  refine⟨_,rfl,_,rfl,p1,_,rfl,aQ.of h2,fun p2 hp2=>?_⟩
  rw[Gn _ (by decide)]
  have e2:(aC ms).take (1:Int).toNat=aC (ms.take 1):=by
   unfold aC
   rw[List.map_take]
   rfl
  rw[e2]
  refine⟨p2,_,rfl,.inl ⟨aQ.of zC,fun p3 hp3=>?_⟩⟩
  refine q p3 _ ((s2.trans (zF hp2 _)).trans (zF hp3 _)) ?_
  rw[zC,if_pos c']
 ·have c':¬ cu rs r=("near" : Str):=fun z=>of_decide_eq_false c (ek.mp z)
  refine⟨_,rfl,_,rfl,t,p1,rs,ms,rfl,hR.mono (aB.of s2),pQ,h2,mi,by lia,fun p2 H3 s3 hp2=>?_⟩
  refine q p2 H3 (s2.trans s3) ?_
  rw[if_neg c']
  exact hp2
theorem ph:aH ["rooms","opening","left","kept","told","room"] ["rooms","opening","left","kept"] (aA qy):=fO
theorem Iw{n:Nat}{f gk:Addr}{fd dk:FuncData}(F:cz K "keeping" "keeping" qy f fd)
  (Pu:aG P w K mg base aY n gk dk ["rooms","opening","room"] Ec) (Pa:Binds K dk ["rooms","opening","room"] []) (O7:KI K gk) (Nt:mg "kept_of" = some (.ref gk))
  (fK:mg "list" = none) (aM:mg "tuple" = none):aG P w K mg base aY (n+1) f fd ["rooms","opening","left","kept"] yl:=by
 refine F.ok ph (fun vs H Q E h=>?_) (fun cdv A outer s H vs Q E hr h=>?_)
 ·refine aK fun G_ g_=>?_
  obtain⟨t,sV,pl,pk,rs,os,ls,kv,ks,rfl,_⟩:=h
  refine g_ ?_
  clear g_ G_
  rfl
 refine aK fun G_ g_=>?_
 obtain⟨t,sV,pl,pk,rs,os,ls,kv,ks,rfl,hR,good,pQ,hto,hos,los,inc,hpl,hls,TJ,hks,lks,q⟩:=h
 refine g_ ?_
 clear g_ G_
 refine⟨_,(zE (zK (i:=4) ph.nd rfl (Or.inl rfl) (yA cL rfl fK PyProof.Rows.boot_list (zA (pv 3) zD)))
  (zZ (cj PassesOwn.never rfl (yM (pv 2)) (yJ (i:=5) ph.nd rfl (Or.inl rfl))
  (zG (yD (zL mC (yB zH (yB zH (pv 0) (pv 5) (fun _ _=>rfl)) zB (fun _ _=>rfl)) zP (zR _))
  (zG (R1 (zJ Pu hr rfl Nt O7 Pa .nil yE (zA (pv 0) (zA (pv 1) (zA (pv 5) zD)))) (ZD (pv 4) (pv 5) set_list)))
  zT)))
  (zG (zO (yA zX rfl aM iT (zA (pv 4) zD)))))),?_⟩
 refine⟨_,rfl,fQ rfl (.inr (aL.of TJ)) (fun pt Q7=>?_)⟩
 have s1:=zF Q7 (.lst kv)
 refine⟨fun σ' H' => ∃ uV:List V,aJ H H'/\H' pt=some (.lst uV)/\bF H' uV (bL rs os ls ks)/\∃ o5:Option V,σ'=[some (.ref t),some (.ref sV),some (.ref pl),some (.ref pk),some (.ref pt),o5],?_,?_⟩
 ·refine⟨_,rfl,pl,rfl,⟨_,aQ.of (s1 _ _ hpl)⟩,?_⟩
  refine rW (K:=K) (a:=pl) (xs:=aC ls) (fun i σ' H' => ∃ uV:List V,aJ H H'/\H' pt=some (.lst uV)/\bF H' uV (bL rs os (ls.take i) ks)/\∃ o5:Option V,σ'=[some (.ref t),some (.ref sV),some (.ref pl),some (.ref pk),some (.ref pt),o5])
   ⟨kv,s1,zC,hks.mono (aB.of s1),_,rfl⟩ (fun i σ' H' _ ⟨_,s2,_⟩=>aQ.of (s2 _ _ hpl)) ?_ ?_
  ·rintro i x σ' H2 hx aZ
   refine aK fun G_ g_=>?_
   obtain⟨Zt,s2,h2,hk2,o5,rfl⟩:=aZ
   obtain⟨hi,rfl⟩:=yR hx
   have hlt:=hls _ (kO hi)
   obtain⟨vs,a,r0,ht,hl,hr0,hat,ha⟩:=hR.at hlt
   refine g_ ?_
   clear g_ G_
   have lk2:=hk2.length
   rw[rQ]at lk2
   have es:bL rs os (ls.take (i+1)) ks=if cu rs ls[i]=("" : Str) then bL rs os (ls.take i) ks else (bL rs os (ls.take i) ks).set ls[i] (jr rs os ls[i]):=by
    rw[jN,fu hi]
    exact yZ rs os _ _ ks
   refine⟨_,rfl,_,rfl,t,vs,_,_,rfl,rfl,aL.of (s2 _ _ ht),hat,aF (aL.of (s2 _ _ ha)) rfl ⟨rfl,_,rfl,?_⟩⟩
   have ek:cu rs ls[i]=("" : Str) ↔ V.str r0.keeps=V.str ("" : Str):=by
    rw[GX hr0]
    exact⟨fun z=>by rw[z],fun z=>by injection z⟩
   refine fV (fun c=>?_) (fun c=>?_)
   ·have c':¬ cu rs ls[i]=("" : Str):=fun z=>by
     have c:(!decide (V.str r0.keeps=V.str ("" : Str)))=true:=c
     rw[decide_eq_true (ek.mp z)]at c
     cases c
    rw[if_neg c']at es
    refine⟨_,rfl,_,rfl,_,rfl,t,sV,rs,os,ls[i],rfl,hR.mono (aB.of s2),good,pQ,s2 _ _ hto,hos,los,inc,hlt,fun p H3 s3 hp=>?_⟩
    refine⟨_,rfl,_,rfl,pt,_,_,ls[i],rfl,rfl,s3 _ _ h2,?_,?_⟩
    ·unfold YH
     rw[if_pos (by lia),if_pos (by lia)]
     simp
    have kt:aB H3 (upd H3 pt (.lst (Zt.set ls[i] (.ref p)))):=aB.lst (s3 _ _ h2) _
    refine⟨Zt.set ls[i] (.ref p),dR Q7 (s2.trans s3) _,zC,?_,_,rfl⟩
    rw[es]
    exact ((hk2.mono (aB.of s3)).mono kt).set ⟨p,rfl,kt _ _ hp⟩ _
   ·have c':cu rs ls[i]=("" : Str):=by
     have c:(!decide (V.str r0.keeps=V.str ("" : Str)))=false:=c
     rw[Bool.not_eq_false']at c
     exact ek.mpr (of_decide_eq_true c)
    rw[if_pos c']at es
    exact⟨Zt,s2,h2,by rw[es];exact hk2,_,rfl⟩
  ·rintro σ' H2 aZ
   refine aK fun G_ g_=>?_
   obtain⟨Zt,s2,h2,hk2,o5,rfl⟩:=aZ
   refine g_ ?_
   clear g_ G_
   rw[uw (by rw[zU];exact bT _)]at hk2
   exact⟨Zt,s2,h2,hk2,_,rfl⟩
 rintro σ' H2 aZ
 refine aK fun G_ g_=>?_
 obtain⟨Zt,s2,h2,hk2,o5,rfl⟩:=aZ
 refine g_ ?_
 clear g_ G_
 refine⟨_,rfl,pt,_,rfl,.inl ⟨aQ.of h2,fun p hp=>?_⟩⟩
 exact q p Zt _ (s2.trans (zF hp _)) zC (hk2.mono (aB.of (zF hp _)))
end
end jc
namespace HS
open PySem L2 qR sS Dh
theorem rF:∀(a b:List Int),a.Pairwise (· < ·)->b.Pairwise (· < ·)->(∀ k,k∈a ↔ k∈b)->a=b
 | [],[],_,_,_=>rfl
 | [],y :: b,_,_,h=>absurd ((h y).mpr List.mem_cons_self) (by simp)
 | x :: a,[],_,_,h=>absurd ((h x).mp List.mem_cons_self) (by simp)
 | x :: a,y :: b,ha,hb,h=>by
  obtain⟨a1,a2⟩:=List.pairwise_cons.mp ha
  obtain⟨b1,b2⟩:=List.pairwise_cons.mp hb
  have e:x=y:=by
   rcases bY.mp ((h x).mp HX) with e | h1
   ·exact e
   ·rcases bY.mp ((h y).mpr HX) with e | h2
    ·exact e.symm
    ·have:=a1 y h2
     have:=b1 x h1
     lia
  subst e
  congr 1
  refine rF a b a2 b2 fun k=>?_
  have hk:=h k
  rw[bY,bY]at hk
  constructor
  ·intro z
   rcases hk.mp (.inr z) with e | z'
   ·subst e
    have:=a1 k z
    lia
   ·exact z'
  ·intro z
   rcases hk.mpr (.inr z) with e | z'
   ·subst e
    have:=b1 k z
    lia
   ·exact z'
noncomputable def inter(os:List Nat):List Int:=os.map fun j:Nat=>(j:Int)
theorem Cg(os:List Nat):(inter os).map V.int=aC os:=by
 unfold inter aC
 rw[List.map_map]
 rfl
theorem JF(a b:List Nat):aC a++aC b=aC (a++b):=(kI ..).symm
noncomputable def gZ(os:List Nat)(bx:List Int)(ds:List Dg)(ev:Int):List Nat:=os.filter fun r=>(dI (inter os) bx ds (r:Int) ev).isSome
noncomputable def wK(inn:Bool)(dp:List Int)(room:Nat)(Dt:List Nat):Bool:=Dt.any fun o=>if inn=true then Tr.bK dp o room else Tr.bK dp room o
noncomputable def nj(inn:Bool)(dp:List Int)(os:List Nat)(bx:List Int)(ds:List Dg)(ev:Int):List Nat:=
 ((gZ os bx ds ev).filter fun r => !wK inn dp r (gZ os bx ds ev)).map fun r:Nat=>(dI (inter os) bx ds (r:Int) ev).getD 0
noncomputable def qI(od:Str):Bool:=decide (V.str od=V.str ("inner" : Str))
noncomputable def yj:Sp:=fun vs H Q _ => ∃(pc t pl:Addr)(od:Str)(x1 x2 x3 x4 x6:V)(rs:List Rm)(room:Nat)(Dt:List Nat),vs=[.ref pc,.int (room:Int),.ref pl]/\H pc=some (.tup [.str od,x1,x2,x3,x4,.ref t,x6])/\cV H t rs/\Tr.Good (aD rs)/\rs.length<=40/\room < rs.length/\H pl=some (.lst (aC Dt))/\(∀ o∈Dt,o < rs.length)/\Dt.length<=1000 ∧
 ∀ H':Hp,aJ H H'->Q (.bl (wK (qI od) (aD rs) room Dt)) H'
noncomputable def Eg(n:Nat):Sp:=fun vs H Q _ => ∃(pc FN t pd o b:Addr)(od:Str)(os:List Nat)(bx:List Int)(rs:List Rm)(ds:List Dg)(dv:List V)(x1 x2 x3 x4 x:V)(ev:Int),vs=[.ref pc,.ref FN,.int ev]/\H pc=some (.tup [.str od,x1,x2,x3,x4,.ref t,.ref pd])/\cV H t rs/\Tr.Good (aD rs)/\rs.length<=40/\H pd=some (.tup dv)/\Al (Xq H) dv ds/\H FN=some (.tup [.ref o,.ref b,x])/\H o=some (.tup (aC os))/\(∀ o∈os,o < rs.length)/\os.Pairwise (· < ·)/\H b=some (.tup (bx.map V.int))/\(∀ d∈ds,d.g.ok bx.length/\d.g.ht<=n)/\ds.length<=63 ∧
 ∀(p:Addr)(H':Hp),aJ H H'->H p=none->H' p=some (.lst (aC (nj (qI od) (aD rs) os bx ds ev)))->Q (.ref p) H'
section
variable{P:Program}{w:World}{K:bO}{mg:Str->Option Value}{base:Heap}
theorem pL:aH ["chart","room","others","rooms"] ["chart","room","others"] (aA jo):=fO
theorem Ir{n:Nat}{f gl:Addr}{fd dl:FuncData}(F:cz K "is_outdone" "is_outdone" jo f fd)(pI:aG P w K mg base aY n gl dl ["rooms","one","other"] jc.Hv)(pG:Binds K dl ["rooms","one","other"] [])(pA:KI K gl)(ou:mg "lies_in" = some (.ref gl))(Lp:mg "any" = none) :
  aG P w K mg base aY (n+1) f fd ["chart","room","others"] yj:=by
 refine F.ok pL (fun vs H Q E h=>?_) (fun cdv A outer s H vs Q E hr h=>?_)
 ·refine aK fun G_ g_=>?_
  obtain⟨pc,t,pl,od,x1,x2,x3,x4,x6,rs,room,Dt,rfl,_⟩:=h
  refine g_ ?_
  clear g_ G_
  rfl
 refine aK fun G_ g_=>?_
 obtain⟨pc,t,pl,od,x1,x2,x3,x4,x6,rs,room,Dt,rfl,TQ,hR,good,pQ,hroom,hpl,qDW,lots,q⟩:=h
 refine g_ ?_
 clear g_ G_
 refine⟨_,(zE (zK (i:=3) pL.nd rfl (Or.inr rfl) (yB zH (pv 0) zB (fun _ _=>rfl)))
  (zE (yD (zL yG (yB zH (pv 0) zB (fun _ _=>rfl)) zP (zR _))
  (zG (zO (zS (uF rfl) rfl Lp PyProof.Rows.boot_any (zA (yT (aa:=[(3,"rooms"),(1,"room")]) rfl (show bI (aA jo) ["chart","room","others","rooms"] _ _ _ from xO) (yM (pv 2)) (fun _ _ _ _ _ _=>cR) (fun _ _ _ _ _ _=>(zJ pI hr rfl ou pA pG .nil yE (zA (pv 1) (zA (pv 0) (zA (pv 2) zD)))))) zD))))
  zT)
  (zG (zO (zS (uF rfl) rfl Lp PyProof.Rows.boot_any (zA (yT (aa:=[(3,"rooms"),(1,"room")]) rfl (show bI (aA jo) ["chart","room","others","rooms"] _ _ _ from xO) (yM (pv 2)) (fun _ _ _ _ _ _=>cR) (fun _ _ _ _ _ _=>(zJ pI hr rfl ou pA pG .nil yE (zA (pv 1) (zA (pv 2) (zA (pv 0) zD)))))) zD)))))),?_⟩
 refine⟨_,rfl,aF (aL.of TQ) rfl ?_⟩
 refine⟨_,rfl,aF (aL.of TQ) rfl ⟨rfl,_,rfl,?_⟩⟩
 have go:∀(fl:Nat->Bool)(H':Hp)(p:Addr),aJ H H'->(∀ o∈Dt,fl o=if qI od=true then Tr.bK (aD rs) o room else Tr.bK (aD rs) room o)->Q (.bl ((Dt.map fl).any id)) H':=fun fl H' p s' hfl=>by
  have e:(Dt.map fl).any id=wK (qI od) (aD rs) room Dt:=by
   unfold wK
   rw[List.any_map,Bool.eq_iff_iff,List.any_eq_true,List.any_eq_true]
   exact⟨fun ⟨o,a,b⟩=>⟨o,a,(hfl o a) ▸ b⟩,fun ⟨o,a,b⟩=>⟨o,a,show fl o=true from (hfl o a).trans b⟩⟩
  rw[e]
  exact q H' s'
 refine fV (fun c=>?_) (fun c=>?_)
 ·have ci:qI od=true:=c
  refine⟨_,rfl,pl,rfl,⟨_,aQ.of hpl⟩,?_⟩
  refine yS (K:=K) (a:=pl) (xs:=aC Dt) (fun i acc H'=>aJ H H'/\acc=((Dt.take i).map fun o:Nat=>Tr.bK (aD rs) o room).map V.bl) ⟨aJ.refl _,rfl⟩ (fun i acc H' ⟨e,_⟩=>aQ.of (e _ _ hpl)) (fun i x acc H' hx ⟨e1,e2⟩=>?_) (fun acc H' ⟨e1,e2⟩ p hp=>?_)
  ·subst e2
   obtain⟨hi,rfl⟩:=jc.yR hx
   refine⟨_,rfl,_,rfl,_,rfl,t,rs,Dt[i],room,rfl,hR.mono (aB.of e1),good,pQ,qDW _ (kO hi),hroom,fun H2 s2=>⟨zV (by rw[bZ,bZ,gG];lia),e1.trans s2,?_⟩⟩
   rw[jN,fu hi,kI,kI]
   rfl
  ·subst e2
   rw[uw (by rw[zU];exact bT _)]
   exact⟨p,_,rfl,aQ.of zC,go _ _ p (e1.trans (zF hp _)) fun o _=>by rw[if_pos ci]⟩
 ·have ci:qI od=false:=c
  refine⟨_,rfl,pl,rfl,⟨_,aQ.of hpl⟩,?_⟩
  refine yS (K:=K) (a:=pl) (xs:=aC Dt) (fun i acc H'=>aJ H H'/\acc=((Dt.take i).map fun o:Nat=>Tr.bK (aD rs) room o).map V.bl) ⟨aJ.refl _,rfl⟩ (fun i acc H' ⟨e,_⟩=>aQ.of (e _ _ hpl)) (fun i x acc H' hx ⟨e1,e2⟩=>?_) (fun acc H' ⟨e1,e2⟩ p hp=>?_)
  ·subst e2
   obtain⟨hi,rfl⟩:=jc.yR hx
   refine⟨_,rfl,_,rfl,_,rfl,t,rs,room,Dt[i],rfl,hR.mono (aB.of e1),good,pQ,hroom,qDW _ (kO hi),fun H2 s2=>⟨zV (by rw[bZ,bZ,gG];lia),e1.trans s2,?_⟩⟩
   rw[jN,fu hi,kI,kI]
   rfl
  ·subst e2
   rw[uw (by rw[zU];exact bT _)]
   exact⟨p,_,rfl,aQ.of zC,go _ _ p (e1.trans (zF hp _)) fun o _=>by rw[ci];rfl⟩
theorem tH:aH ["chart","stand","event","by_room","answering"] ["chart","stand","event"] (aA rA):=fO
theorem Nk{n m:Nat}{f ga go:Addr}{fd da do':FuncData}(F:cz K "chosen" "chosen" rA f fd)(Pz:aG P w K mg base aY m ga da ["chart","stand","event"] (yo n))(Ph:Binds K da ["chart","stand","event"] [])(OD:KI K ga)(Nx:mg "answers" = some (.ref ga))
  (Dk:aG P w K mg base aY m go do' ["chart","room","others"] yj) (DW:Binds K do' ["chart","room","others"] []) (CZ:KI K go) (By:mg "is_outdone" = some (.ref go)) (dU:mg "sorted" = none) :
  aG P w K mg base aY (m+1) f fd ["chart","stand","event"] (Eg n):=by
 refine F.ok tH (fun vs H Q E h=>?_) (fun cdv A outer s H vs Q E hr h=>?_)
 ·refine aK fun G_ g_=>?_
  obtain⟨pc,FN,t,pd,o,b,od,os,bx,rs,ds,dv,x1,x2,x3,x4,x,ev,rfl,_⟩:=h
  refine g_ ?_
  clear g_ G_
  rfl
 refine aK fun G_ g_=>?_
 obtain⟨pc,FN,t,pd,o,b,od,os,bx,rs,ds,dv,x1,x2,x3,x4,x,ev,rfl,TQ,hR,good,pQ,hpd,hds,hst,ho,hos,inc,hb,hok,l63,q⟩:=h
 refine g_ ?_
 clear g_ G_
 have hu:=Nat.lt_of_le_of_lt (Nat.add_le_add_left (show 1<=64 by decide) _) hr.units
 refine⟨_,(zE (zK (i:=3) tH.nd rfl (Or.inr rfl) (zJ Pz hr rfl Nx OD Ph .nil yE (zA (pv 0) (zA (pv 1) (zA (pv 2) zD)))))
  (zE (zK (i:=4) tH.nd rfl (Or.inr rfl) (zS (Cz rfl) rfl dU PyProof.Rows.boot_sorted (zA (pv 3) zD)))
  (zG (zO (yT (aa:=[(0,"chart"),(4,"answering"),(3,"by_room")]) rfl (show bI (aA rA) ["chart","stand","event","by_room","answering"] _ _ _ from xO) (yM (pv 4)) (fun _ _ _ _ _ _=>dC (dM (cH (zJ Dk hr rfl By CZ DW .nil yE (zA (pv 1) (zA (pv 0) (zA (pv 2) zD))))))) (fun _ _ _ _ _ _=>(W4 hu (pv 3) (pv 0) (fun _ _=>rfl)))))))),?_⟩
 refine⟨_,rfl,_,rfl,_,rfl,pc,FN,pd,o,b,inter os,bx,ds,dv,_,_,_,_,_,_,_,ev,rfl,TQ,hpd,hds,hst,(by rw[Cg];exact ho),hb,hok,by lia,fun pb kvs H1 s1 h1 hv ⟨ks,hks,lks⟩ npb=>?_⟩
 refine⟨_,rfl,pb,kvs,ks,rfl,h1,hks,by lia,fun pq zs Za nd perm QQ=>?_⟩
 have mk:∀ k:Int,k∈ks ↔ (dI (inter os) bx ds k ev).isSome=true:=fun k=>by
  have e1:(dD kvs (Sum.inl k)).isSome=(dI (inter os) bx ds k ev).isSome:=by
   rw[hv k]
   cases dI (inter os) bx ds k ev <;> rfl
  rw[<-e1,<-jh,List.any_eq_true]
  constructor
  ·intro z
   have:(Sum.inl k:Key)∈kvs.map (·.1):=by rw[hks];exact iU.mpr ⟨k,z,rfl⟩
   refine aK fun G_ g_=>?_
   obtain⟨kv,hkv,e⟩:=iU.mp this
   refine g_ ?_
   clear g_ G_
   exact⟨kv,hkv,decide_eq_true e⟩
  ·rintro aZ
   refine aK fun G_ g_=>?_
   obtain⟨kv,hkv,e⟩:=aZ
   refine g_ ?_
   clear g_ G_
   have:(Sum.inl k:Key)∈kvs.map (·.1):=iU.mpr ⟨kv,hkv,of_decide_eq_true e⟩
   rw[hks]at this
   refine aK fun G_ g_=>?_
   obtain⟨j,hj,e⟩:=iU.mp this
   refine g_ ?_
   clear g_ G_
   injection e with e
   exact e ▸ hj
 have ez:zs=inter (gZ os bx ds ev):=by
  refine rF _ _ ((QQ.and (perm.nodup_iff.mpr nd)).imp fun ⟨z1,z2⟩=>by lia) (List.pairwise_map.mpr ((inc.filter _).imp fun z=>by lia)) fun k=>?_
  rw[perm.mem_iff,mk k]
  constructor
  ·intro z
   have hin:inV (.int k) ((inter os).map V.int)=true:=by
    unfold dI at z
    by_cases y:inV (.int k) ((inter os).map V.int)=true
    ·exact y
    ·rw[if_neg y]at z
     cases z
   rw[Cg]at hin
   refine aK fun G_ g_=>?_
   obtain⟨j,hj,rfl⟩:=Lk hin
   refine g_ ?_
   clear g_ G_
   exact iU.mpr ⟨j,mJ.mpr ⟨hj,z⟩,rfl⟩
  ·intro z
   refine aK fun G_ g_=>?_
   obtain⟨j,hj,rfl⟩:=iU.mp z
   refine g_ ?_
   clear g_ G_
   exact (mJ.mp hj).2
 subst ez
 rw[Cg]
 have la:(gZ os bx ds ev).length<=63:=by
  have:=perm.length_eq
  unfold inter at this
  rw[bZ]at this
  lia
 have hA:∀ r∈gZ os bx ds ev,r < rs.length/\(dI (inter os) bx ds (r:Int) ev).isSome=true:=fun r hr'=>⟨hos r (mJ.mp hr').1,(mJ.mp hr').2⟩
 have s2:=s1.trans (zF Za (.lst (aC (gZ os bx ds ev))))
 have h2:upd H1 pq (.lst (aC (gZ os bx ds ev))) pq=some (.lst (aC (gZ os bx ds ev))):=zC
 have hb2:=(zF Za (.lst (aC (gZ os bx ds ev)))) _ _ h1
 generalize upd H1 pq (.lst (aC (gZ os bx ds ev)))=H2 at s2 h2 hb2 ⊢
 refine⟨_,rfl,pq,rfl,⟨_,aQ.of h2⟩,?_⟩
 refine yS (K:=K) (a:=pq) (xs:=aC (gZ os bx ds ev)) (fun i acc H'=>aJ H2 H'/\acc=aC ((((gZ os bx ds ev).take i).filter fun r => !wK (qI od) (aD rs) r (gZ os bx ds ev)).map fun r:Nat=>(dI (inter os) bx ds (r:Int) ev).getD 0)) ⟨aJ.refl _,rfl⟩ (fun i acc H' ⟨e,_⟩=>aQ.of (e _ _ h2)) (fun i y acc H' hy ⟨e1,e2⟩=>?_) (fun acc H' ⟨e1,e2⟩ p hp=>?_)
 ·subst e2
  obtain⟨hi,rfl⟩:=jc.yR hy
  have hm:=hA _ (kO hi)
  have et:=jc.gQ (f:=fun r => !wK (qI od) (aD rs) r (gZ os bx ds ev)) (fu hi)
  generalize (gZ os bx ds ev)[i]=r at hm et
  have lt':(aC ((((gZ os bx ds ev).take i).filter fun r => !wK (qI od) (aD rs) r (gZ os bx ds ev)).map fun r:Nat=>(dI (inter os) bx ds (r:Int) ev).getD 0)).length<=63:=by
   rw[zU,bZ]
   have:=qe (fun r => !wK (qI od) (aD rs) r (gZ os bx ds ev)) ((gZ os bx ds ev).take i)
   rw[gG]at this
   lia
  have s3:=s2.trans e1
  refine⟨_,rfl,_,rfl,_,rfl,pc,t,pq,od,_,_,_,_,_,rs,r,gZ os bx ds ev,rfl,s3 _ _ TQ,hR.mono (aB.of s3),good,pQ,hm.1,e1 _ _ h2,(fun o ho=>(hA o ho).1),by lia,fun H4 s4=>?_⟩
  refine⟨_,rfl,?_⟩
  rw[et]
  refine fV (fun c=>?_) (fun c=>?_)
  ·have c':(!wK (qI od) (aD rs) r (gZ os bx ds ev))=true:=c
   obtain⟨k,hk⟩:=Option.isSome_iff_exists.mp hm.2
   have hv':=hv (r:Int)
   rw[hk]at hv'
   have g:=Dp.k (k:=Sum.inl (r:Int)) ((e1.trans s4) _ _ hb2)
   rw[hv']at g
   refine⟨_,rfl,_,rfl,pb,_,rfl,g,zV (by lia),e1.trans s4,?_⟩
   rw[if_pos c',kI,<-JF]
   show _=_++aC [(dI (inter os) bx ds (r:Int) ev).getD 0]
   rw[hk]
   rfl
  ·have c':¬ (!wK (qI od) (aD rs) r (gZ os bx ds ev))=true:=fun z=>by
    have c:(!wK (qI od) (aD rs) r (gZ os bx ds ev))=false:=c
    rw[c]at z
    cases z
   rw[if_neg c',gF]
   exact⟨e1.trans s4,rfl⟩
 ·subst e2
  rw[uw (by rw[zU];exact bT _)]
  exact q p _ (s2.trans (e1.trans (zF hp _))) ((s2.trans e1).free hp) zC
end
end HS
namespace jc
open PySem L2 qR sS KY
theorem MP(xs:List V){k:Nat}(h:k<=xs.length):qL xs none (some (k:Int))=xs.take k:=by
 unfold qL
 rw[HT.El,HT.v9,List.drop_zero,Nat.sub_zero,Nat.min_eq_left h]
theorem Oz(xs:List V){k:Nat}(h:k+1<=xs.length):qL xs (some ((k:Int)+1)) none=xs.drop (k+1):=by
 have e:(k:Int)+1=((k+1:Nat):Int):=by lia
 unfold qL
 rw[e,HT.El,HT.v9,Nat.min_eq_left h,uw (by rw[List.length_drop];exact bT _)]
theorem Vg{α:Type}{xs:List α}{k:Nat}(v:α)(h:k < xs.length):xs.take k++[v]++xs.drop (k+1)=xs.set k v:=by
 rw[List.set_eq_take_append_cons_drop,if_pos h,List.append_assoc]
 rfl
section
variable{P:Program}{w:World}{K:bO}{mg:Str->Option Value}{base:Heap}
theorem iW:aH ["deed","boxes","sizes","kind","box","number"] ["deed","boxes","sizes"] (aA rB):=fO
theorem Iz{f:Addr}{fd:FuncData}(F:cz K "changed" "changed" rB f fd):aG P w K mg base aY 1 f fd ["deed","boxes","sizes"] ym:=by
 refine F.ok iW (fun vs H Q E h=>?_) (fun cdv A outer s H vs Q E hr h=>?_)
 ·refine aK fun G_ g_=>?_
  obtain⟨vd,tb,ts,d,bx,sz,rfl,_⟩:=h
  refine g_ ?_
  clear g_ G_
  rfl
 refine aK fun G_ g_=>?_
 obtain⟨vd,tb,ts,d,bx,sz,rfl,hd,hb,hs,hok,hlen,h6,hpos,q⟩:=h
 refine g_ ?_
 clear g_ G_
 refine⟨_,(zE (zK (i:=3) iW.nd rfl (Or.inl rfl) (yB zH (pv 0) zB (fun _ _=>rfl)))
  (zE (yD (zL lG (pv 3) (zW (zA zP (zA zP zD))) rfl)
  (zG (zO (pv 1)))
  zT)
  (zE (zK (i:=4) iW.nd rfl (Or.inl rfl) (yB zH (pv 0) zB (fun _ _=>rfl)))
  (zE (zK (i:=5) iW.nd rfl (Or.inl rfl) (yB zH (pv 0) zB (fun _ _=>rfl)))
  (zZ (yD (zL yG (pv 3) zP (zR _))
  (zG (zK (i:=5) iW.nd rfl (Or.inl rfl) (yC zY (yC yF (yB zH (pv 1) (pv 4) (fun _ _=>rfl)) (pv 5)) (yB zH (pv 2) (pv 4) (fun _ _=>rfl)))))
  zT)
  (zG (zO (yC Bq (q9 (yC (jK.or Bq FW) (ir Qg (pv 1) lF (lE (pv 4))) (zW (zA (pv 5) zD)))) (ir Qg (pv 1) (lE (yC yF (pv 4) zB)) lF))))))))),?_⟩
 have two:(∃(a:Addr)(kd:Str)(b n:Int),vd = .ref a/\H a=some (.tup [.str kd,.int b,.int n])/\((kd = "set" /\ d = .set b n) ∨ (kd = "add" /\ d = .add b n))) ∨
   (∃(a:Addr)(kd:Str)(u:V),vd = .ref a/\H a=some (.tup [.str kd,u])/\(kd = "say" ∨ kd = "send")/\d.upd sz bx=bx):=by
  cases hd with
  | say e=>exact .inr ⟨_,_,_,rfl,e,.inl rfl,rfl⟩
  | send e=>exact .inr ⟨_,_,_,rfl,e,.inr rfl,rfl⟩
  | set e=>exact .inl ⟨_,_,_,_,rfl,e,.inl ⟨rfl,rfl⟩⟩
  | add e=>exact .inl ⟨_,_,_,_,rfl,e,.inr ⟨rfl,rfl⟩⟩
 rcases two with ⟨a,kd,b,n,rfl,e,hk⟩ | ⟨a,kd,u,rfl,e,hk,hu⟩
 ·refine⟨_,rfl,aF (aL.of e) rfl ⟨_,rfl,zI (by show 2<=1000;decide),fun p hp=>?_⟩⟩
  have s1:aJ H (upd H p (.tup [.str "set",.str "add"])):=zF hp _
  have e1:=s1 _ _ e
  refine (fQ rfl (.inr (aL.of zC)) ⟨rfl,rfl,_,rfl,lQ (by rcases hk with ⟨rfl,_⟩ | ⟨rfl,_⟩ <;> decide +kernel) ?_⟩)
  refine⟨_,rfl,aF (aL.of e1) rfl ⟨_,rfl,aF (aL.of e1) rfl ?_⟩⟩
  have qHV:0<=b/\b < (bx.length:Int):=by
   rcases hk with ⟨_,rfl⟩ | ⟨_,rfl⟩ <;> exact hok b rfl
  refine aK fun G_ g_=>?_
  obtain⟨hb0,hb1⟩:=qHV
  obtain⟨k,rfl⟩:∃ k:Nat,b=(k:Int):=⟨b.toNat,by lia⟩
  refine g_ ?_
  clear g_ G_
  have hkl:k < bx.length:=by lia
  refine⟨fun σ' H'=>H'=upd H p (.tup [.str "set",.str "add"])/\∃ v:Int,σ'=[some (.ref a),some (.ref tb),some (.ref ts),some (.str kd),some (.int (k:Int)),some (.int v)]/\d.upd sz bx=bx.set k v,?_,?_⟩
  ·refine⟨_,rfl,rfl,_,rfl,?_⟩
   rcases hk with ⟨rfl,rfl⟩ | ⟨rfl,rfl⟩
   ·refine yN (by decide +kernel) ?_
    refine⟨rfl,n,rfl,?_⟩
    show bx.set (k:Int).toNat n=_
    rw[VM]
   ·refine yO ?_
    refine⟨_,rfl,_,rfl,aF (aL.of (s1 _ _ hb)) (xT hb0 hb1) ⟨_,rfl,bA ⟨_,rfl,_,rfl,aF (aL.of (s1 _ _ hs)) (xT hb0 (by lia)) (bA ⟨hpos _ (Xf hb0 (by lia)),?_⟩)⟩⟩⟩
    refine⟨rfl,_,rfl,?_⟩
    show bx.set (k:Int).toNat _=_
    rw[VM]
  rintro σ' H' aZ
  refine aK fun G_ g_=>?_
  obtain⟨rfl,v,rfl,hv⟩:=aZ
  refine g_ ?_
  clear g_ G_
  have hb':=s1 _ _ hb
  refine⟨fun x H' => ∃ t:Addr,x = .ref t/\aJ (upd H p (.tup [.str "set",.str "add"])) H'/\H' t=some (.tup ((bx.take k++[v]).map V.int)),?_,?_⟩
  ·refine⟨_,rfl,_,rfl,_,rfl,tb,_,rfl,aL.of hb',?_,fun p1 hp1=>?_⟩
   ·rw[HT.v9,bZ]
    lia
   have s2:=zF hp1 (.tup (qL (bx.map V.int) none (some (k:Int))))
   refine⟨_,rfl,zI (by show 1<=1000;decide),fun p2 hp2=>?_⟩
   have e1':qL (bx.map V.int) none (some (k:Int))=(bx.take k).map V.int:=by
    rw[MP _ (by rw[bZ];lia),List.map_take]
   have s3:=zF hp2 (.tup [.int v])
   by_cases hk0:k=0
   ·subst hk0
    refine .inr ⟨p1,p2,_,rfl,rfl,aL.of (s3 _ _ (by rw[zC,e1'];rfl)),aL.of zC,?_⟩
    exact⟨p2,rfl,s2.trans s3,by rw[zC];rfl⟩
   ·refine .inl ⟨p1,p2,_,_,rfl,rfl,aL.of (s3 _ _ zC),aL.of zC,?_,?_,fun z=>(by cases z),fun _ p3 hp3=>?_⟩
    ·intro z
     have:=congrArg List.length z
     rw[e1',bZ,gG,List.length_nil]at this
     lia
    ·rw[e1',bZ,gG]
     exact zI (by show _+1<=1000;lia)
    ·refine⟨p3,rfl,(s2.trans s3).trans (zF hp3 _),?_⟩
     rw[zC,e1',kI]
     rfl
  rintro x H2 aZ
  refine aK fun G_ g_=>?_
  obtain⟨t,rfl,s4,ht⟩:=aZ
  refine g_ ?_
  clear g_ G_
  refine⟨_,rfl,_,rfl,bA ⟨_,rfl,tb,_,rfl,aL.of (s4 _ _ hb'),?_,fun p4 hp4=>?_⟩⟩
  ·rw[show ((k:Int)+1)=((k+1:Nat):Int) by lia,HT.v9,bZ]
   lia
  have e2':qL (bx.map V.int) (some ((k:Int)+1)) none=(bx.drop (k+1)).map V.int:=by
   rw[Oz _ (by rw[bZ];lia),List.map_drop]
  have s5:=zF hp4 (.tup (qL (bx.map V.int) (some ((k:Int)+1)) none))
  have all:(bx.take k++[v]).map V.int++(bx.drop (k+1)).map V.int=(d.upd sz bx).map V.int:=by
   rw[<-kI,Vg v hkl,hv]
  refine⟨t,p4,_,_,rfl,rfl,aL.of (s5 _ _ ht),aL.of zC,?_,?_,fun z=>?_,fun _ p5 VG=>?_⟩
  ·intro z
   have:=congrArg List.length z
   simp at this
  ·rw[e2',bZ,bZ,fU,gG,List.length_drop]
   exact zI (by show min k bx.length+1+_<=1000;lia)
  ·refine q t _ ((s1.trans s4).trans s5) ?_
   rw[s5 _ _ ht,<-all]
   rw[e2']at z
   rw[z,gF]
  ·refine q p5 _ (((s1.trans s4).trans s5).trans (zF VG _)) ?_
   rw[zC,e2',all]
 ·refine⟨_,rfl,aF (aL.of e) rfl ⟨_,rfl,zI (by show 2<=1000;decide),fun p hp=>?_⟩⟩
  refine (fQ rfl (.inr (aL.of zC)) ⟨rfl,rfl,_,rfl,Q6 (by rcases hk with rfl | rfl <;> decide +kernel) ?_⟩)
  refine⟨_,rfl,q tb _ (zF hp _) ?_⟩
  rw[hu]
  exact zF hp _ _ _ hb
end
end jc
namespace jc
open PySem L2 qR sS Uk
theorem qCZ:¬ (("most" : Str) = "events"):=by decide +kernel
noncomputable def Ji(m:Nat)(d:Addr):List (Str × V):=cQ "events" (.ref d) (cQ "most" (.int (m:Int)) [])
theorem gP(m:Nat)(d:Addr):(Ji m d).lookup ("events" : Str)=some (.ref d):=by
 unfold Ji
 rw[aO,if_pos rfl]
theorem Oq(m:Nat)(d:Addr):(Ji m d).lookup ("most" : Str)=some (.int (m:Int)):=by
 unfold Ji
 rw[aO,if_neg qCZ,aO,if_pos rfl]
theorem Cp(m:Nat)(d:Addr){x:Str}(h1:¬ x = "events")(h2:¬ x = "most"):(Ji m d).lookup x=none:=by
 unfold Ji
 rw[aO,if_neg h1,aO,if_neg h2]
 all_goals rfl
noncomputable def LL(C:Addr):LA:=fun H p fp m l => ∃ dx d:Addr,fp=[p,d]/\H p=some (.ins C dx (Ji m d))/\H d=some (.lst (l.map V.int))
theorem gq(C:Addr):qFV C (LL C) where
 keep:=by
  rintro H H' p fp m l ⟨dx,d,rfl,h1,h2⟩ k
  exact⟨dx,d,rfl,k p (by simp) _ h1,k d (by simp) _ h2⟩
 there:=by
  rintro H p fp m l ⟨dx,d,rfl,h1,h2⟩ b hb
  rcases bY.mp hb with rfl | hb
  ·rw[h1]
   intro z
   cases z
  ·rw[dJ.mp hb,h2]
   intro z
   cases z
 obj:=by
  rintro H p fp m l ⟨dx,d,rfl,h1,h2⟩
  exact⟨dx,_,h1,Cp _ _ (by decide +kernel) (by decide +kernel),Cp _ _ (by decide +kernel) (by decide +kernel),Cp _ _ (by decide +kernel) (by decide +kernel)⟩
section
variable{P:Program}{w:World}{K:bO}{mg:Str->Option Value}{base:Heap}{C:Addr}
theorem Vj:aH ["self","most"] ["self","most"] (aA Kz):=fO
theorem Wa{f:Addr}{fd:FuncData}(F:cz K "__init__" "Letters.__init__" Kz f fd)(cl:xY K C)(nM:bf K C "most")(nE:bf K C "events"):aG P w K mg base aY 1 f fd ["self","most"] (Hw C (LL C)):=by
 refine F.ok Vj (fun vs H Q E h=>?_) (fun cdv A outer s H vs Q E hr h=>?_)
 ·refine aK fun G_ g_=>?_
  obtain⟨p,dx,m,rfl,_⟩:=h
  refine g_ ?_
  clear g_ G_
  rfl
 refine aK fun G_ g_=>?_
 obtain⟨p,dx,m,rfl,hp,hm,k⟩:=h
 refine g_ ?_
 clear g_ G_
 refine⟨_,(zE (tK (pv 0) (pv 1) rfl) (zG (tK (pv 0) (yK zD) rfl))),?_⟩
 refine⟨_,rfl,_,rfl,p,C,dx,[],rfl,hp,cl,nM,(by show 0 < 1000;decide),Nat.zero_le _,fun d hd=>?_⟩
 have V7:p ≠ d:=fun z=>by
  rw[<-z,zC]at hd
  cases hd
 have hd0:H d=none:=by
  rw[zQ (Ne.symm V7)]at hd
  exact hd
 refine⟨_,rfl,p,C,dx,_,rfl,(by rw[zQ V7];exact zC),cl,nE,(by show 1 < 1000;decide),?_⟩
 refine k [p,d] _ ⟨dx,d,rfl,zC,by rw[zQ (Ne.symm V7),zC];rfl⟩ (fun b hb=>?_) fun b o e hb=>?_
 ·rcases bY.mp hb with rfl | hb
  ·exact .inl rfl
  ·rw[dJ.mp hb]
   exact .inr hd0
 ·rw[zQ hb,zQ (zM e hd0),zQ hb]
  exact e
theorem Z0:aH ["self","event"] ["self","event"] (aA Vk):=fO
theorem ZW{f:Addr}{fd:FuncData}(F:cz K "add" "Letters.add" Vk f fd)(cl:xY K C)(nM:bf K C "most")(nE:bf K C "events")(aP:mg "len" = none):aG P w K mg base aY 1 f fd ["self","event"] (Y5 (LL C)):=by
 refine F.ok Z0 (fun vs H Q E h=>?_) (fun cdv A outer s H vs Q E hr h=>?_)
 ·refine aK fun G_ g_=>?_
  obtain⟨p,fp,m,l,e,rfl,_⟩:=h
  refine g_ ?_
  clear g_ G_
  rfl
 refine aK fun G_ g_=>?_
 obtain⟨p,fp,m,l,e,rfl,⟨dx,d,rfl,h1,h2⟩,hl,hm,k⟩:=h
 refine g_ ?_
 clear g_ G_
 refine⟨_,(zE (yD (zL RK (zS zN rfl aP bV (zA (cI (pv 0) rfl) zD)) (cI (pv 0) rfl) (zR _))
  (zG (zO eE))
  zT)
  (zE (yI (dz jM sy sZ yH (cI (pv 0) rfl) (zA (pv 1) zD)))
  (zG (zO eE)))),?_⟩
 refine⟨_,rfl,p,C,dx,_,_,rfl,h1,cl,nE,gP _ _,fQ rfl (.inl (aQ.of h2)) ⟨_,rfl,p,C,dx,_,_,rfl,h1,cl,nM,Oq _ _,_,_,rfl,rfl,_,rfl,?_⟩⟩
 have V7:p ≠ d:=fH h1 h2 (by intro z;cases z)
 refine pJ (fun c=>?_) (fun c=>?_)
 ·have c':=of_decide_eq_true c
  rw[bZ]at c'
  have c2:¬ l.length < m:=by lia
  have r:=k [p,d] H ⟨dx,d,rfl,h1,by unfold added;rw[if_neg c2];exact h2⟩ ⟨fun b hb=>.inl hb,fun b o eb _=>eb⟩
  rw[decide_eq_false c2]at r
  exact r
 ·have c':¬ ((m:Int)<=(((l.map V.int).length:Nat):Int)):=fun z=>c (decide_eq_true z)
  rw[bZ]at c'
  have c2:l.length < m:=by lia
  refine⟨_,rfl,p,C,dx,_,_,rfl,h1,cl,nE,gP _ _,.inl ⟨rfl,_,aQ.of h2⟩,_,rfl,d,_,_,rfl,rfl,h2,zV (by rw[bZ];lia),?_⟩
  have r:=k [p,d] (upd H d (.lst (l.map V.int++[.int e]))) ⟨dx,d,rfl,by rw[zQ V7];exact h1,by unfold added;rw[if_pos c2,zC,kI];rfl⟩ ⟨fun b hb=>.inl hb,fun b o eb nb=>by
   rw[zQ (fun z:b=d=>nb (by rw[z];simp))]
   exact eb⟩
  rw[decide_eq_true c2]at r
  exact r
theorem IV:aH ["self"] ["self"] (aA qx):=fO
theorem Io{f:Addr}{fd:FuncData}(F:cz K "waiting" "Letters.waiting" qx f fd)(cl:xY K C)(nE:bf K C "events")(fK:mg "list" = none):aG P w K mg base aY 1 f fd ["self"] (yh (LL C)):=by
 refine F.ok IV (fun vs H Q E h=>?_) (fun cdv A outer s H vs Q E hr h=>?_)
 ·refine aK fun G_ g_=>?_
  obtain⟨p,fp,m,l,rfl,_⟩:=h
  refine g_ ?_
  clear g_ G_
  rfl
 refine aK fun G_ g_=>?_
 obtain⟨p,fp,m,l,rfl,⟨dx,d,rfl,h1,h2⟩,hl,hm,k⟩:=h
 refine g_ ?_
 clear g_ G_
 refine⟨_,(zG (zO (yA cL rfl fK PyProof.Rows.boot_list (zA (cI (pv 0) rfl) zD)))),?_⟩
 refine⟨_,rfl,p,C,dx,_,_,rfl,h1,cl,nE,gP _ _,fQ rfl (.inl (aQ.of h2)) (fun q hq=>?_)⟩
 refine k q [p,d] _ ⟨dx,d,rfl,by rw[zQ (zM h1 hq)];exact h1,by rw[zQ (zM h2 hq)];exact h2⟩ ⟨fun b hb=>.inl hb,fun b o eb _=>zF hq _ b o eb⟩ hq (fun z=>?_) zC
 rcases bY.mp z with z | z
 ·exact zM h1 hq z.symm
 ·exact zM h2 hq (dJ.mp z).symm
theorem Qk:aH ["self"] ["self"] (aA Be):=fO
theorem RQ{f:Addr}{fd:FuncData}(F:cz K "taken" "Letters.taken" Be f fd)(cl:xY K C)(nE:bf K C "events")(aP:mg "len" = none):aG P w K mg base aY 1 f fd ["self"] (Kg (LL C)):=by
 refine F.ok Qk (fun vs H Q E h=>?_) (fun cdv A outer s H vs Q E hr h=>?_)
 ·refine aK fun G_ g_=>?_
  obtain⟨p,fp,m,l,rfl,_⟩:=h
  refine g_ ?_
  clear g_ G_
  rfl
 refine aK fun G_ g_=>?_
 obtain⟨p,fp,m,l,rfl,⟨dx,d,rfl,h1,h2⟩,hl,hm,k⟩:=h
 refine g_ ?_
 clear g_ G_
 refine⟨_,(zE (yD (zL yG (zS zN rfl aP bV (zA (cI (pv 0) rfl) zD)) zB (zR _))
  (zG (zO jX))
  zT)
  (zG (zO (dz jM PySem.F.slot_list_pop PySem.F.type_list_pop Rt (cI (pv 0) rfl) (zA zB zD))))),?_⟩
 refine⟨_,rfl,p,C,dx,_,_,rfl,h1,cl,nE,gP _ _,fQ rfl (.inl (aQ.of h2)) ⟨rfl,_,rfl,?_⟩⟩
 have V7:p ≠ d:=fH h1 h2 (by intro z;cases z)
 cases l with
 | nil=>exact Q6 rfl (k [p,d] H ⟨dx,d,rfl,h1,h2⟩ ⟨fun b hb=>.inl hb,fun b o eb _=>eb⟩)
 | cons e l=>
  refine lQ ?_ ?_
  ·rw[bZ]
   refine decide_eq_false fun z=>?_
   injection z with z
   rw[eV]at z
   lia
  refine⟨_,rfl,p,C,dx,_,_,rfl,h1,cl,nE,gP _ _,.inl ⟨rfl,_,aQ.of h2⟩,d,_,0,0,.int e,rfl,rfl,h2,by decide,by decide,?_,rfl,?_⟩
  ·rw[bZ,eV]
   unfold seqIndex?
   simp
  ·exact k [p,d] _ ⟨dx,d,rfl,by rw[zQ V7];exact h1,zC⟩ ⟨fun b hb=>.inl hb,fun b o eb nb=>by
    rw[zQ (fun z:b=d=>nb (by rw[z];simp))]
    exact eb⟩
end
end jc
namespace jc
open PySem L2 qR sS KY Uk
theorem K7{C:Addr}{H:Hp}{p t:Addr}{fp:List Addr}{m:Nat}{l:List Int}{xs:List V}(h:LL C H p fp m l)(ht:H t=some (.tup xs)):t ∉ fp:=by
 obtain⟨dx,d,rfl,h1,h2⟩:=h
 intro z
 rcases bY.mp z with z | z
 ·rw[z,h1]at ht
  cases ht
 ·rw[dJ.mp z,h2]at ht
  cases ht
noncomputable def vQ(L:LA):Sp:=fun vs H Q _ => ∃(vd:V)(tb p:Addr)(d:Dd)(bx sz l:List Int)(fp:List Addr)(m:Nat)(G:Hp),vs=[vd,.ref tb,.ref p]/\aJ G H/\(∀ b∈fp,G b=none)/\uK G vd d/\G tb=some (.tup ((d.upd sz bx).map V.int))/\L H p fp m l/\d.ok bx.length/\bx.length<=6/\l.length<=m/\m<=12 ∧
 ∀(t:Addr)(fp':List Addr)(H':Hp),L H' p fp' m (d.Zo m l)->bR H H' fp fp'->H' t=some (.tup (d.rc sz m bx l).row)->t ∉ fp'->Q (.ref t) H'
section
variable{P:Program}{w:World}{K:bO}{mg:Str->Option Value}{base:Heap}{C:Addr}
theorem uM:aH ["deed","boxes","letters","kind"] ["deed","boxes","letters"] (aA oV):=fO
theorem Fd{n:Nat}{f ga:Addr}{fd da:FuncData}(F:cz K "recorded" "recorded" oV f fd)(cl:xY K C)(mA:Meth K C "add" ga)(qFW:aG P w K mg base aY n ga da ["self","event"] (Y5 (LL C)))(qFH:Binds K da ["self","event"] []) :
  aG P w K mg base aY (n+1) f fd ["deed","boxes","letters"] (vQ (LL C)):=by
 refine F.ok uM (fun vs H Q E h=>?_) (fun cdv A outer s H vs Q E hr h=>?_)
 ·refine aK fun G_ g_=>?_
  obtain⟨vd,tb,p,d,bx,sz,l,fp,m,G,rfl,_⟩:=h
  refine g_ ?_
  clear g_ G_
  rfl
 refine aK fun G_ g_=>?_
 obtain⟨vd,tb,p,d,bx,sz,l,fp,m,G,rfl,sg,ng,hd,hb,hL,hok,h6,hl,hm,k⟩:=h
 refine g_ ?_
 clear g_ G_
 refine⟨_,(zE (zK (i:=3) uM.nd rfl (Or.inl rfl) (yB zH (pv 0) zB (fun _ _=>rfl)))
  (zE (yD (zL yG (pv 3) zP (zR _))
  (zG (zO (zW (zA zP (zA (yB zH (pv 0) zB (fun _ _=>rfl)) zD)))))
  zT)
  (zE (yD (zL yG (pv 3) zP (zR _))
  (zG (zO (zW (zA (FQ (cH (Bl (pv 2) cl mA qFW hr qFH .nil yE (zA (yB zH (pv 0) zB (fun _ _=>rfl)) zD))) zP zP) (zA (yB zH (pv 0) zB (fun _ _=>rfl)) zD)))))
  zT)
  (zG (zO (zW (zA zP (zA (yB zH (pv 0) zB (fun _ _=>rfl)) (zA (yB zH (pv 1) (yB zH (pv 0) zB (fun _ _=>rfl)) (fun _ _=>rfl)) zD))))))))),?_⟩
 have nG:∀ b o,G b=some o->b ∉ fp:=fun b o e z=>by
  rw[ng b z]at e
  cases e
 have fin:∀ t:Addr,H t=none->∀ row:List V,row=(d.rc sz m bx l).row->d.Zo m l=l->Q (.ref t) (upd H t (.tup row)):=fun t ht row e1 e2=>by
  have s1:=zF ht (.tup row)
  refine k t fp _ (by rw[e2];exact (gq C).keep hL fun b _ o e=>s1 b o e) ⟨fun b hb=>.inl hb,fun b o e _=>s1 b o e⟩ (by rw[zC,e1]) (fun z=>(gq C).there hL t z ht)
 have two:(∃(a:Addr)(kd:Str)(b n:Int),vd = .ref a/\G a=some (.tup [.str kd,.int b,.int n])/\(kd = "set" ∨ kd = "add")/\d.box=some b/\d.rc sz m bx l = .put b (at0 (d.upd sz bx) b)/\d.Zo m l=l) ∨
   (∃(a:Addr)(wd:Str),vd = .ref a/\G a=some (.tup [.str "say",.str wd])/\d = .say wd) ∨ (∃(a:Addr)(ev:Int),vd = .ref a/\G a=some (.tup [.str "send",.int ev])/\d = .send ev):=by
  cases hd with
  | say e=>exact .inr (.inl ⟨_,_,rfl,e,rfl⟩)
  | send e=>exact .inr (.inr ⟨_,_,rfl,e,rfl⟩)
  | set e=>exact .inl ⟨_,_,_,_,rfl,e,.inl rfl,rfl,rfl,rfl⟩
  | add e=>exact .inl ⟨_,_,_,_,rfl,e,.inr rfl,rfl,rfl,rfl⟩
 rcases two with ⟨a,kd,b,n',rfl,e,hk,hbx,T8,qHR⟩ | ⟨a,wd,rfl,e,rfl⟩ | ⟨a,ev,rfl,e,rfl⟩
 ·have e':=sg _ _ e
  have hb':=sg _ _ hb
  obtain⟨b0,b1⟩:=hok b hbx
  have ul:=d.Kc sz bx
  refine⟨_,rfl,aF (aL.of e') rfl ?_⟩
  refine⟨_,rfl,rfl,_,rfl,yN (by rcases hk with rfl | rfl <;> decide +kernel) ?_⟩
  refine⟨_,rfl,rfl,_,rfl,yN (by rcases hk with rfl | rfl <;> decide +kernel) ?_⟩
  refine⟨_,rfl,aF (aL.of e') rfl ⟨_,rfl,_,rfl,aF (aL.of e') rfl (aF (aL.of hb') (xT b0 (by lia)) ⟨zI (by show 3<=1000;decide),fun t ht=>?_⟩)⟩⟩
  exact fin t ht _ (by rw[T8];rfl) qHR
 ·have e':=sg _ _ e
  refine⟨_,rfl,aF (aL.of e') rfl ?_⟩
  refine⟨_,rfl,rfl,_,rfl,yO ?_⟩
  exact⟨_,rfl,aF (aL.of e') rfl ⟨zI (by show 2<=1000;decide),fun t ht=>fin t ht _ rfl rfl⟩⟩
 ·have e':=sg _ _ e
  refine aK fun G_ g_=>?_
  obtain⟨dx,fs,ho,n1,n2,n3⟩:=(gq C).obj hL
  refine g_ ?_
  clear g_ G_
  refine⟨_,rfl,aF (aL.of e') rfl ?_⟩
  refine⟨_,rfl,rfl,_,rfl,yN (by decide +kernel) ?_⟩
  refine⟨_,rfl,rfl,_,rfl,yO ?_⟩
  refine⟨_,rfl,p,dx,fs,rfl,ho,n1,_,rfl,aF (aL.of e') rfl ⟨p,fp,m,l,ev,rfl,hL,hl,hm,fun fp' H1 hL1 st=>⟨_,rfl,?_⟩⟩⟩
  have e1:=st.rest _ _ e' (nG _ _ e)
  have fin2:∀ t:Addr,H1 t=none->∀ row:List V,row=((Dd.send ev).rc sz m bx l).row->Q (.ref t) (upd H1 t (.tup row)):=fun t ht row er=>by
   have s1:=zF ht (.tup row)
   refine k t fp' _ ((gq C).keep hL1 fun b _ o e=>s1 b o e) ⟨st.own,fun b o e nb=>s1 b o (st.rest b o e nb)⟩ (by rw[zC,er]) (fun z=>(gq C).there hL1 t z ht)
  refine pJ (fun c=>?_) (fun c=>?_)
  ·refine⟨_,rfl,aF (aL.of e1) rfl ⟨zI (by show 2<=1000;decide),fun t ht=>fin2 t ht _ ?_⟩⟩
   show _=(if l.length < m then Rc.send ev else Rc.lost ev).row
   rw[if_pos (of_decide_eq_true c)]
   rfl
  ·refine⟨_,rfl,aF (aL.of e1) rfl ⟨zI (by show 2<=1000;decide),fun t ht=>fin2 t ht _ ?_⟩⟩
   show _=(if l.length < m then Rc.send ev else Rc.lost ev).row
   rw[if_neg fun z=>c (decide_eq_true z)]
   rfl
theorem qm:aH ["deeds","boxes","sizes","letters","held","record","deed"] ["deeds","boxes","sizes","letters"] (aA LC):=fO
theorem Wd{n:Nat}{f gc gr:Addr}{fd dc dr:FuncData}(F:cz K "done" "done" LC f fd)(Py:aG P w K mg base aY n gc dc ["deed","boxes","sizes"] ym)(Pg:Binds K dc ["deed","boxes","sizes"] [])(O9:KI K gc)(Nv:mg "changed" = some (.ref gc))
  (KJ:aG P w K mg base aY n gr dr ["deed","boxes","letters"] (vQ (LL C))) (Jy:Binds K dr ["deed","boxes","letters"] []) (Ja:KI K gr) (JP:mg "recorded" = some (.ref gr)) :
  aG P w K mg base aY (n+1) f fd ["deeds","boxes","sizes","letters"] (Qe (LL C)):=by
 refine F.ok qm (fun vs H Q E h=>?_) (fun cdv A outer s H vs Q E hr h=>?_)
 ·refine aK fun G_ g_=>?_
  obtain⟨td,tb,ts,p,ds,bx,sz,l,dv,fp,m,G,rfl,_⟩:=h
  refine g_ ?_
  clear g_ G_
  rfl
 refine aK fun G_ g_=>?_
 obtain⟨td,tb,ts,p,ds,bx,sz,l,dv,fp,m,G,rfl,sg,ng,htd,hds,htb,hts,hL,hok,h8,hbs,h6,hpos,hl,hm,q⟩:=h
 refine g_ ?_
 clear g_ G_
 refine⟨_,(zE (zK (i:=4) qm.nd rfl (Or.inl rfl) (pv 1))
  (zE (zK (i:=5) qm.nd rfl (Or.inl rfl) (yK zD))
  (zZ (cj PassesOwn.never rfl (nF (pv 0)) (yJ (i:=6) qm.nd rfl (Or.inl rfl))
  (zE (zK (i:=4) qm.nd rfl (Or.inl rfl) (zJ Py hr rfl Nv O9 Pg .nil yE (zA (pv 6) (zA (pv 4) (zA (pv 2) zD)))))
  (zG (yI (dz jM sy sZ yH (pv 5) (zA (zJ KJ hr rfl JP Ja Jy .nil yE (zA (pv 6) (zA (pv 4) (zA (pv 3) zD)))) zD))))))
  (zG (zO (zW (zA (pv 4) (zA (pv 5) zD)))))))),?_⟩
 have nG:∀ b o,G b=some o->b ∉ fp:=fun b o e z=>by
  rw[ng b z]at e
  cases e
 refine⟨_,rfl,Nat.zero_le _,fun pr hpr=>?_⟩
 have s0:=zF hpr (.lst [])
 have J8:pr ∉ fp:=fun z=>(gq C).there hL pr z hpr
 have nds:=hds.length
 refine⟨fun σ' Hi => ∃(sW:Addr)(cM:List Addr)(rv:List V)(o6:Option V),σ'=[some (.ref td),some (.ref tb),some (.ref ts),some (.ref p),some (.ref sW),some (.ref pr),o6]/\LL C Hi p cM m (w5 m ds l)/\bR H Hi fp cM ∧
   Hi sW=some (.tup ((wA sz ds bx).map V.int))/\sW ∉ cM/\Hi pr=some (.lst rv)/\pr ∉ cM/\jE (xN cM Hi) rv (ug sz m ds bx l),?_,?_⟩
 ·refine⟨_,rfl,td,rfl,⟨_,aL.of (s0 _ _ (sg _ _ htd))⟩,?_⟩
  refine M4 (K:=K) (a:=td) (xs:=dv) (fun i σ' Hi => ∃(sW:Addr)(cM:List Addr)(rv:List V)(o6:Option V),σ'=[some (.ref td),some (.ref tb),some (.ref ts),some (.ref p),some (.ref sW),some (.ref pr),o6]/\LL C Hi p cM m (w5 m (ds.take i) l)/\bR H Hi fp cM ∧
   Hi sW=some (.tup ((wA sz (ds.take i) bx).map V.int))/\sW ∉ cM/\Hi pr=some (.lst rv)/\pr ∉ cM/\jE (xN cM Hi) rv (ug sz m (ds.take i) bx l))
   ⟨tb,fp,[],none,rfl,(gq C).keep hL fun b _ o e=>s0 b o e,⟨fun b hb=>.inl hb,fun b o e _=>s0 b o e⟩,s0 _ _ (sg _ _ htb),nG _ _ htb,zC,J8,.nil⟩ ?_ ?_ ?_
  ·rintro i σ' Hi _ aZ
   refine aK fun G_ g_=>?_
   obtain⟨sW,cM,rv,o6,rfl,_,st,_⟩:=aZ
   refine g_ ?_
   clear g_ G_
   exact aL.of (st.rest _ _ (sg _ _ htd) (nG _ _ htd))
  ·rintro i x σ' Hi hx aZ
   refine aK fun G_ g_=>?_
   obtain⟨sW,cM,rv,o6,rfl,hLi,st,hbi,nbi,Hf,Nq,T8⟩:=aZ
   obtain⟨d,hd,hdi⟩:=hds.get hx
   refine g_ ?_
   clear g_ G_
   have hdm:d∈ds:=Mq hd
   have hil:i < ds.length:=(mH.mp hd).1
   have gi:∀ b o,G b=some o->Hi b=some o/\b ∉ cM:=fun b o e=>by
    refine⟨st.rest b o (sg b o e) (nG b o e),fun z=>?_⟩
    rcases st.own b z with y | y
    ·exact nG b o e y
    ·rw[sg b o e]at y
     cases y
   have lb:=w6 sz (ds.take i) bx
   have ll:=vy (m:=m) (ds.take i) l hl
   refine⟨_,rfl,_,rfl,_,rfl,x,sW,ts,d,_,sz,rfl,hdi.mono (fun b xs e=>(gi b _ e).1),hbi,(gi _ _ hts).1,(by rw[lb];exact hok d hdm),(by rw[lb];exact hbs),(by rw[lb];exact h6),hpos,fun t H1 s1 ht=>?_⟩
   have hL1:=(gq C).keep hLi fun b _ o e=>s1 b o e
   have nt:=K7 hL1 ht
   have hr1:=s1 _ _ Hf
   refine⟨_,rfl,.inl ⟨rfl,_,aQ.of hr1⟩,_,rfl,_,rfl,_,rfl,x,t,p,d,wA sz (ds.take i) bx,sz,w5 m (ds.take i) l,cM,m,xN cM H1,rfl,fun b o e=>(pF e).1,fun b hb=>MT hb,?_,rZ ht nt,hL1,(by rw[lb];exact hok d hdm),(by rw[lb];exact h6),ll,hm,fun t2 xJ H2 hL2 st2 Lx nt2=>?_⟩
   ·exact hdi.mono fun b xs e=>rZ (s1 _ _ (gi b _ e).1) (gi b _ e).2
   have hr2:=st2.rest _ _ hr1 Nq
   have Vc:∀ b o,H1 b=some o->b ∉ cM->H2 b=some o/\b ∉ xJ:=fun b o e nb=>⟨st2.rest b o e nb,fun z=>by
    rcases st2.own b z with y | y
    ·exact nb y
    ·rw[e]at y
     cases y⟩
   have nr2:=(Vc _ _ hr1 Nq).2
   have rl:=T8.length
   rw[rE,gG]at rl
   refine⟨pr,_,_,rfl,rfl,hr2,zV (by lia),?_⟩
   have Dv:ds.take (i+1)=ds.take i++[d]:=by
    rw[jN,hd]
    rfl
   refine⟨t,xJ,rv++[.ref t2],_,rfl,?_,⟨fun b hb=>?_,fun b o e nb=>?_⟩,?_,(Vc _ _ ht nt).2,zC,nr2,?_⟩
   ·rw[Dv,yr]
    refine (gq C).keep hL2 fun b hb o e=>?_
    rw[zQ (fun z:b=pr=>nr2 (by rw[<-z];exact hb))]
    exact e
   ·by_cases z:b∈fp
    ·exact .inl z
    ·rcases st2.own b hb with y | y
     ·exact st.own b y
     ·right
      cases w':H b with
      | none=>rfl
      | some o=>
       have:=s1 _ _ (st.rest b o w' z)
       rw[y]at this
       cases this
   ·have bi:b ∉ cM:=fun z=>by
     rcases st.own b z with y | y
     ·exact nb y
     ·rw[e]at y
      cases y
    rw[zQ (zM e hpr)]
    exact st2.rest b o (s1 _ _ (st.rest b o e nb)) bi
   ·rw[zQ (fH ht hr1 (by intro z;cases z)),Dv,yt]
    exact (Vc _ _ ht nt).1
   ·rw[Dv,yq]
    refine (T8.mono fun b xs e=>?_).snoc (rZ ?_ nt2)
    ·refine aK fun G_ g_=>?_
     obtain⟨e1,e2⟩:=pF e
     obtain⟨e3,e4⟩:=Vc _ _ (s1 _ _ e1) e2
     refine g_ ?_
     clear g_ G_
     refine rZ ?_ e4
     rw[zQ (fH e1 Hf (by intro z;cases z))]
     exact e3
    ·rw[zQ (fH Lx hr2 (by intro z;cases z))]
     exact Lx
  ·rintro σ' Hi aZ
   refine aK fun G_ g_=>?_
   obtain⟨sW,cM,rv,o6,h1,h2,h3,h4,h5,h6',h7,h8'⟩:=aZ
   refine g_ ?_
   clear g_ G_
   rw[nds,List.take_length]at h2 h4 h8'
   exact⟨sW,cM,rv,o6,h1,h2,h3,h4,h5,h6',h7,h8'⟩
 rintro σ' Hi aZ
 refine aK fun G_ g_=>?_
 obtain⟨sW,cM,rv,o6,rfl,hLi,st,hbi,nbi,Hf,Nq,T8⟩:=aZ
 refine g_ ?_
 clear g_ G_
 refine⟨_,rfl,_,rfl,zI (by show 2<=1000;decide),fun t ht=>?_⟩
 have s1:=zF ht (.tup [.ref sW,.ref pr])
 exact q t sW pr rv cM _ ((gq C).keep hLi fun b _ o e=>s1 b o e) ⟨st.own,fun b o e nb=>s1 b o (st.rest b o e nb)⟩ zC (s1 _ _ hbi) nbi (s1 _ _ Hf) hpr (T8.mono fun b xs e=>s1 _ _ (pF e).1)
end
end jc
namespace Ru
open PySem L2 qR sS Dh Uk KY jc
open HS (Al)
inductive En where
 | rc (r:Rc)
 | inn (k:Nat)
 | out (k:Nat)
 | door (k:Nat)
 | thr (k:Nat)
 | take (e:Int)
noncomputable def En.row:En->List V
 | .rc r=>r.row
 | .inn k=>[.str "in",.int (k:Int)]
 | .out k=>[.str "out",.int (k:Int)]
 | .door k=>[.str "door",.int (k:Int)]
 | .thr k=>[.str "through",.int (k:Int)]
 | .take e=>[.str "take",.int e]
noncomputable def fj(H:Hp)(v:V)(e:En):Prop:=∃ a:Addr,v = .ref a/\H a=some (.tup e.row)
theorem fj.mono{H H':Hp}{v:V}{e:En}(x:fj H v e)(k:aB H H'):fj H' v e:=by
 obtain⟨a,h1,h2⟩:=x
 exact⟨a,h1,k _ _ h2⟩
noncomputable def sU(H:Hp)(v:V)(ds:List Dd):Prop:=∃(a:Addr)(dv:List V),v = .ref a/\H a=some (.tup dv)/\gU H dv ds
theorem sU.mono{H H':Hp}{v:V}{ds:List Dd}(x:sU H v ds)(k:aB H H'):sU H' v ds:=by
 obtain⟨a,dv,h1,h2,h3⟩:=x
 exact⟨a,dv,h1,k _ _ h2,h3.mono k⟩
abbrev Sd:=En × List Dd
noncomputable def qQ(H:Hp)(v:V)(s:Sd):Prop:=∃(a am:Addr)(dv:V),v = .ref a/\H a=some (.tup [.ref am,dv])/\H am=some (.tup s.1.row)/\sU H dv s.2
theorem qQ.mono{H H':Hp}{v:V}{s:Sd}(x:qQ H v s)(k:aB H H'):qQ H' v s:=by
 obtain⟨a,am,dv,h1,h2,h3,h4⟩:=x
 exact⟨a,am,dv,h1,k _ _ h2,k _ _ h3,h4.mono k⟩
noncomputable def sstep(sz:List Int)(m:Nat)(s:List Int × List Int × List En)(x:Sd):List Int × List Int × List En:=(wA sz x.2 s.1,w5 m x.2 s.2.1,s.2.2++(x.1 :: (ug sz m x.2 s.1 s.2.1).map En.rc))
noncomputable def cP(sz:List Int)(m:Nat)(ss:List Sd)(bx l:List Int):List Int × List Int × List En:=ss.foldl (sstep sz m) (bx,l,[])
theorem pX(sz:List Int)(m:Nat)(ss:List Sd)(x:Sd)(bx l:List Int):cP sz m (ss++[x]) bx l=sstep sz m (cP sz m ss bx l) x:=by
 unfold cP
 rw[List.foldl_append]
 rfl
theorem uD(sz:List Int)(m:Nat):∀(ss:List Sd)(s:List Int × List Int × List En),(ss.foldl (sstep sz m) s).1.length=s.1.length/\(s.2.1.length<=m->(ss.foldl (sstep sz m) s).2.1.length<=m)
 | [],s=>⟨rfl,fun h=>h⟩
 | x :: ss,s=>by
  have ih:=uD sz m ss (sstep sz m s x)
  rw[List.foldl_cons]
  refine⟨by rw[ih.1];exact w6 sz x.2 s.1,fun h=>ih.2 (vy x.2 s.2.1 h)⟩
theorem vO(sz:List Int)(m:Nat)(ss:List Sd)(bx l:List Int):(cP sz m ss bx l).1.length=bx.length:=(uD sz m ss _).1
theorem Ax{sz:List Int}{m:Nat}{ss:List Sd}{bx l:List Int}(h:l.length<=m):(cP sz m ss bx l).2.1.length<=m:=(uD sz m ss (bx,l,[])).2 h
theorem M5(sz:List Int)(m:Nat):∀(ss:List Sd)(s:List Int × List Int × List En),(∀ x∈ss,x.2.length<=8)->(ss.foldl (sstep sz m) s).2.2.length<=s.2.2.length+9 * ss.length
 | [],s,_=>by simp
 | x :: ss,s,h=>by
  have ih:=M5 sz m ss (sstep sz m s x) fun y hy=>h y (Hh _ hy)
  have hx:=h x (HX ..)
  have e:(sstep sz m s x).2.2.length=s.2.2.length+(1+x.2.length):=by
   show (s.2.2++(x.1 :: (ug sz m x.2 s.1 s.2.1).map En.rc)).length=_
   rw[fU,eV,bZ,rE]
   lia
  rw[List.foldl_cons,eV]
  lia
theorem vN{sz:List Int}{m:Nat}{ss:List Sd}{bx l:List Int}(h:∀ x∈ss,x.2.length<=8):(cP sz m ss bx l).2.2.length<=9 * ss.length:=by
 have:=M5 sz m ss (bx,l,[]) h
 have e:(bx,l,([]:List En)).2.2.length=0:=rfl
 rw[e,Nat.zero_add]at this
 exact this
theorem Z4{H:Hp}{rv:List V}{rs:List Rc}(x:jE H rv rs):Al (fj H) rv (rs.map En.rc):=by
 induction x with
 | nil=>exact .nil
 | cons h _ ih=>exact .cons ⟨_,rfl,h⟩ ih
theorem Al.app{α:Type}{R:V->α->Prop}{vs ws:List V}{rs ss:List α}(x:Al R vs rs)(y:Al R ws ss):Al R (vs++ws) (rs++ss):=by
 induction x with
 | nil=>exact y
 | cons h _ ih=>exact .cons h ih
theorem Al.cast{α:Type}{R:V->α->Prop}{vs ws:List V}{rs:List α}(e:vs=ws)(x:Al R ws rs):Al R vs rs:=by
 rw[e]
 exact x
theorem bR.trans{H H1 H2:Hp}{fp fp1 xJ:List Addr}(a:bR H H1 fp fp1)(b:bR H1 H2 fp1 xJ):bR H H2 fp xJ where
 own:=fun c hc=>by
  by_cases z:c∈fp
  ·exact .inl z
  ·rcases b.own c hc with y | y
   ·exact a.own c y
   ·right
    cases w':H c with
    | none=>rfl
    | some o=>
     have:=a.rest c o w' z
     rw[y]at this
     cases this
 rest:=fun c o e nb=>b.rest c o (a.rest c o e nb) fun z=>by
  rcases a.own c z with y | y
  ·exact nb y
  ·rw[e]at y
   cases y
theorem bR.same{H H':Hp}(fp:List Addr)(s:aJ H H'):bR H H' fp fp:=⟨fun _ h=>.inl h,fun b o e _=>s b o e⟩
theorem bR.apart{H H':Hp}{fp fp':List Addr}(a:bR H H' fp fp'){b:Addr}{o:HO}(e:H b=some o)(n:b ∉ fp):H' b=some o/\b ∉ fp':=⟨a.rest b o e n,fun z=>by
 rcases a.own b z with y | y
 ·exact n y
 ·rw[e]at y
  cases y⟩
theorem bR.keep{C:Addr}{H H':Hp}{p:Addr}{fp fp':List Addr}{m:Nat}{l:List Int}(a:bR H H' fp fp')(h:LL C H p fp m l):aB H H':=fun b xs e=>a.rest b _ e (K7 h e)
theorem bR.upd{H H':Hp}{fp fp':List Addr}(a:bR H H' fp fp'){b:Addr}(n:H b=none)(o:HO):bR H (upd H' b o) fp fp':=⟨a.own,fun c u e nc=>by
 rw[zQ (zM e n)]
 exact a.rest c u e nc⟩
theorem LL.same{C:Addr}{H H':Hp}{p:Addr}{fp:List Addr}{m:Nat}{l:List Int}(h:LL C H p fp m l)(s:aJ H H'):LL C H' p fp m l:=(gq C).keep h fun b _ o e=>s b o e
theorem LL.upd{C:Addr}{H:Hp}{p b:Addr}{fp:List Addr}{m:Nat}{l:List Int}(h:LL C H p fp m l)(n:b ∉ fp)(o:HO):LL C (upd H b o) p fp m l:=(gq C).keep h fun c hc u e=>by
 rw[zQ (fun z:c=b=>n (by rw[<-z];exact hc))]
 exact e
theorem LL.new{C:Addr}{H:Hp}{p b:Addr}{fp:List Addr}{m:Nat}{l:List Int}(h:LL C H p fp m l)(n:H b=none):b ∉ fp:=fun z=>(gq C).there h b z n
noncomputable def Q0(H:Hp)(v:V)(z:Int):Prop:=∃(a:Addr)(n s:V),v = .ref a/\H a=some (.tup [n,.int z,s])
theorem Q0.mono{H H':Hp}{v:V}{z:Int}(x:Q0 H v z)(k:aB H H'):Q0 H' v z:=by
 obtain⟨a,n,s,h1,h2⟩:=x
 exact⟨a,n,s,h1,k _ _ h2⟩
noncomputable def Az:Sp:=fun vs H Q _ => ∃(pc pb:Addr)(x0 x1 x2 x4 x5 x6:V)(bv:List V)(sz:List Int),vs=[.ref pc]/\H pc=some (.tup [x0,x1,x2,.ref pb,x4,x5,x6])/\H pb=some (.tup bv)/\Al (Q0 H) bv sz/\sz.length<=100/\∀(t:Addr)(H':Hp),aJ H H'->H' t=some (.tup (sz.map V.int))->Q (.ref t) H'
noncomputable def Yc(H:Hp)(rs:List Rm)(di dO:Nat->List Dd):Prop:=∀(k:Nat)(r:Rm),rs[k]? = some r->sU H r.ins (di k)/\sU H r.outs (dO k)
theorem Yc.mono{H H':Hp}{rs:List Rm}{di dO:Nat->List Dd}(x:Yc H rs di dO)(k:aB H H'):Yc H' rs di dO:=fun j r h=>⟨(x j r h).1.mono k,(x j r h).2.mono k⟩
noncomputable def jj(f:Nat->En)(ins:Bool):Sp:=fun vs H Q _ => ∃(t pe:Addr)(rs:List Rm)(di dO:Nat->List Dd)(es:List Nat),vs=[.ref t,.ref pe]/\cV H t rs/\Yc H rs di dO/\H pe=some (.lst (aC es))/\(∀ k∈es,k < rs.length)/\es.length<=100/\∀(p:Addr)(sv:List V)(H':Hp),aJ H H'->H p=none->H' p=some (.lst sv)->Al (qQ H') sv (es.map fun k=>(f k,if ins=true then di k else dO k))->Q (.ref p) H'
noncomputable def outs(es:List En):List Nat:=es.filterMap fun e=>match e with
 | .out k=>some k
 | _=>none
noncomputable def QZ:Sp:=fun vs H Q _ => ∃(pr:Addr)(rv:List V)(es:List En),vs=[.ref pr]/\H pr=some (.lst rv)/\Al (fj H) rv es/\es.length<=1000/\∀(p:Addr)(H':Hp),aJ H H'->H p=none->H' p=some (.lst (aC (outs es)))->Q (.ref p) H'
noncomputable def t8(C:Addr):Sp:=fun vs H Q _ => ∃(ps tb ts p:Addr)(sv:List V)(ss:List Sd)(bx sz l:List Int)(fp:List Addr)(m:Nat),vs=[.ref ps,.ref tb,.ref ts,.ref p]/\H ps=some (.lst sv)/\ps ∉ fp/\Al (qQ H) sv ss/\H tb=some (.tup (bx.map V.int))/\H ts=some (.tup (sz.map V.int))/\LL C H p fp m l/\(∀ s∈ss,(∀ d∈s.2,d.ok bx.length)/\s.2.length<=8)/\ss.length<=110/\bx.length=sz.length/\bx.length<=6/\(∀ z∈sz,0 < z)/\l.length<=m/\m<=12 ∧
 ∀(t tb' pr:Addr)(rv:List V)(fp':List Addr)(H':Hp),LL C H' p fp' m (cP sz m ss bx l).2.1->bR H H' fp fp'->H' t=some (.tup [.ref tb',.ref pr])->H' tb'=some (.tup ((cP sz m ss bx l).1.map V.int))->H' pr=some (.lst rv)->H pr=none->pr ∉ fp'->Al (fj H') rv (cP sz m ss bx l).2.2->Q (.ref t) H'
section
variable{P:Program}{w:World}{K:bO}{mg:Str->Option Value}{base:Heap}{C:Addr}
theorem Ei:aH ["chart"] ["chart"] (aA ie):=fO
theorem Fb{f:Addr}{fd:FuncData}(F:cz K "sizes_of" "sizes_of" ie f fd)(aM:mg "tuple" = none):aG P w K mg base aY 1 f fd ["chart"] Az:=by
 refine F.ok Ei (fun vs H Q E h=>?_) (fun cdv A outer s H vs Q E hr h=>?_)
 ·refine aK fun G_ g_=>?_
  obtain⟨pc,pb,x0,x1,x2,x4,x5,x6,bv,sz,rfl,_⟩:=h
  refine g_ ?_
  clear g_ G_
  rfl
 refine aK fun G_ g_=>?_
 obtain⟨pc,pb,x0,x1,x2,x4,x5,x6,bv,sz,rfl,TQ,hpb,hA,hz,q⟩:=h
 refine g_ ?_
 clear g_ G_
 refine⟨_,(zG (zO (yA zX rfl aM iT (zA (yT (aa:=[]) rfl (show bI (aA ie) ["chart"] _ _ _ from xO) (nF (yB zH (pv 0) zB (fun _ _=>rfl))) (fun _ _ _ _ _ _=>cR) (fun _ _ _ _ _ _=>yB (r:=fY K) zH (pv 0) zB (fun _ _=>rfl))) zD)))),?_⟩
 have lb:=hA.length
 refine⟨_,rfl,aF (aL.of TQ) rfl ⟨pb,rfl,⟨_,aL.of hpb⟩,?_⟩⟩
 refine jx (K:=K) (a:=pb) (xs:=bv) (fun i acc H'=>H'=H/\acc=(sz.take i).map V.int) ⟨rfl,rfl⟩ (fun i acc H' z=>by rw[z.1];exact aL.of hpb) ?_ ?_
 ·rintro i x acc H' hx ⟨rfl,rfl⟩
  have hi:i < sz.length:=by
   have:=(mH.mp hx).1
   lia
  have hk:=fu hi
  refine aK fun G_ g_=>?_
  obtain⟨v,hv,a,n,s,rfl,h1⟩:=hA.get hk
  refine g_ ?_
  clear g_ G_
  rw[hv]at hx
  obtain rfl:=kJ hx
  refine⟨_,rfl,aF (aL.of h1) rfl ⟨by rw[bZ,gG,sizeLine_eq];lia,rfl,?_⟩⟩
  rw[jN,hk,kI]
  rfl
 ·rintro acc H' ⟨rfl,rfl⟩ pl hpl
  rw[uw (by lia)]at *
  refine⟨pl,_,rfl,.inl ⟨aQ.of zC,fun p hp=>q p _ ((zF hpl _).trans (zF hp _)) zC⟩⟩
theorem xn:aH ["record"] ["record"] (aA eY):=fO
theorem Qt(e:En):∃(s:Str)(x:V)(r:List V),e.row = .str s :: x :: r/\(decide (V.str s=V.str ("out" : Str))=true->∃ k:Nat,e = .out k/\x = .int (k:Int))/\(decide (V.str s=V.str ("out" : Str))=false->∀ k,e ≠ .out k):=by
 cases e with
 | rc r=>cases r <;> exact⟨_,_,_,rfl,(fun z=>absurd z (by decide +kernel)),fun _ k z=>by cases z⟩
 | inn k=>exact⟨_,_,_,rfl,(fun z=>absurd z (by decide +kernel)),fun _ k z=>by cases z⟩
 | out k=>exact⟨_,_,_,rfl,fun _=>⟨k,rfl,rfl⟩,fun z=>absurd z (by decide +kernel)⟩
 | door k=>exact⟨_,_,_,rfl,(fun z=>absurd z (by decide +kernel)),fun _ k z=>by cases z⟩
 | thr k=>exact⟨_,_,_,rfl,(fun z=>absurd z (by decide +kernel)),fun _ k z=>by cases z⟩
 | take e=>exact⟨_,_,_,rfl,(fun z=>absurd z (by decide +kernel)),fun _ k z=>by cases z⟩
theorem yz(es:List En)(e:En):outs (es++[e])=outs es++(match e with
  | .out k=>[k]
  | _=>[]):=by
 unfold outs
 rw[List.filterMap_append]
 cases e <;> rfl
theorem xr{f:Addr}{fd:FuncData}(F:cz K "rooms_left" "rooms_left" eY f fd):aG P w K mg base aY 1 f fd ["record"] QZ:=by
 refine F.ok xn (fun vs H Q E h=>?_) (fun cdv A outer s H vs Q E hr h=>?_)
 ·refine aK fun G_ g_=>?_
  obtain⟨pr,rv,es,rfl,_⟩:=h
  refine g_ ?_
  clear g_ G_
  rfl
 refine aK fun G_ g_=>?_
 obtain⟨pr,rv,es,rfl,hpr,hA,hz,q⟩:=h
 refine g_ ?_
 clear g_ G_
 refine⟨_,(zG (zO (yT (aa:=[]) rfl (show bI (aA eY) ["record"] _ _ _ from xO) (yM (pv 0)) (fun _ _ _ _ _ _=>dC (zL (r:=rEq) yG (yB (r:=fY K) zH (pv 0) zB (fun _ _=>rfl)) zP (zR _))) (fun _ _ _ _ _ _=>yB (r:=fY K) zH (pv 0) zB (fun _ _=>rfl))))),?_⟩
 have lr:=hA.length
 refine⟨_,rfl,pr,rfl,⟨_,aQ.of hpr⟩,?_⟩
 refine yS (K:=K) (a:=pr) (xs:=rv) (fun i acc H'=>H'=H/\acc.length<=i/\acc=aC (outs (es.take i))) ⟨rfl,bT _,rfl⟩ (fun i acc H' z=>by rw[z.1];exact aQ.of hpr) ?_ ?_
 ·rintro i x acc H' hx aZ
  refine aK fun G_ g_=>?_
  obtain⟨rfl,la,rfl⟩:=aZ
  have hi:i < es.length:=by
   have:=(mH.mp hx).1
   lia
  have hk:=fu hi
  obtain⟨v,hv,a,rfl,h1⟩:=hA.get hk
  refine g_ ?_
  clear g_ G_
  rw[hv]at hx
  obtain rfl:=kJ hx
  have Dv:es.take (i+1)=es.take i++[es[i]]:=by
   rw[jN,hk]
   rfl
  refine aK fun G_ g_=>?_
  obtain⟨s',x',r',e1,e2,e3⟩:=Qt es[i]
  refine g_ ?_
  clear g_ G_
  rw[e1]at h1
  refine⟨_,rfl,a,_,_,V.str s',rfl,rfl,aL.of h1,(yQ (j:=0) (v:=V.str s') rfl),(show Qj (V.str s') (V.str ("out" : Str))=true from rfl),_,rfl,fV (fun c=>?_) (fun c=>?_)⟩
  ·refine aK fun G_ g_=>?_
   obtain⟨k,ek,rfl⟩:=e2 c
   refine g_ ?_
   clear g_ G_
   refine⟨_,rfl,aF (aL.of h1) ((yQ (j:=1) rfl)) ⟨by rw[sizeLine_eq];lia,rfl,by rw[fU,jf];lia,?_⟩⟩
   rw[Dv,yz,ek]
   unfold aC
   rw[kI]
   rfl
  ·refine⟨rfl,by lia,?_⟩
   rw[Dv,yz]
   have e3:=e3 c
   generalize es[i]=e at e3
   cases e with
   | out k=>exact absurd rfl (e3 k)
   | rc r=>rw[gF]
   | inn k=>rw[gF]
   | door k=>rw[gF]
   | thr k=>rw[gF]
   | take k=>rw[gF]
 ·rintro acc H' ⟨rfl,_,rfl⟩ pl hpl
  rw[uw (by lia)]
  exact q pl _ (zF hpl _) hpl zC
theorem Eh:aH ["rooms","entered"] ["rooms","entered"] (aA iZ):=fO
theorem FZ{f:Addr}{fd:FuncData}(F:cz K "steps_in" "steps_in" iZ f fd):aG P w K mg base aY 1 f fd ["rooms","entered"] (jj En.inn true):=by
 refine F.ok Eh (fun vs H Q E h=>?_) (fun cdv A outer s H vs Q E hr h=>?_)
 ·refine aK fun G_ g_=>?_
  obtain⟨t,pe,rs,di,dO,es,rfl,_⟩:=h
  refine g_ ?_
  clear g_ G_
  rfl
 refine aK fun G_ g_=>?_
 obtain⟨t,pe,rs,di,dO,es,rfl,hR,hD,hpe,hlt,hz,q⟩:=h
 refine g_ ?_
 clear g_ G_
 refine⟨_,(zG (zO (yT (aa:=[(0,"rooms")]) rfl (show bI (aA iZ) ["rooms","entered"] _ _ _ from xO) (yM (pv 1)) (fun _ _ _ _ _ _=>cR) (fun _ _ _ _ _ _=>(zW (zA (zW (zA zP (zA (pv 0) zD))) (zA (yB (r:=fY K) zH (yB (r:=fY K) zH (pv 1) (pv 0) (fun _ _=>rfl)) zB (fun _ _=>rfl)) zD))))))),?_⟩
 refine⟨_,rfl,pe,rfl,⟨_,aQ.of hpe⟩,?_⟩
 refine yS (K:=K) (a:=pe) (xs:=aC es) (fun i acc H'=>aJ H H'/\acc.length=i/\Al (qQ H') acc ((es.take i).map fun k=>(En.inn k,di k))) ⟨aJ.refl _,rfl,.nil⟩ (fun i acc H' z=>aQ.of (z.1 _ _ hpe)) ?_ ?_
 ·rintro i x acc H' hx aZ
  refine aK fun G_ g_=>?_
  obtain⟨s1,la,hA⟩:=aZ
  obtain⟨hi,rfl⟩:=yR hx
  refine g_ ?_
  clear g_ G_
  have hk:=fu hi
  have hm:=hlt _ (kO hi)
  generalize es[i]=k at hk hm
  refine aK fun G_ g_=>?_
  obtain⟨vs,a,r,hv,_,hr',hat,ha⟩:=(hR.mono (aB.of s1)).at hm
  refine g_ ?_
  clear g_ G_
  have hd:=(hD k r hr').1
  refine⟨_,rfl,zI (by show 2<=1000;decide),fun p hp=>?_⟩
  have u2:=zF hp (.tup [V.str ("in" : Str),V.int (k:Int)])
  have h2p:upd H' p (.tup [V.str ("in" : Str),V.int (k:Int)]) p=some (.tup (En.inn k).row):=zC
  generalize upd H' p (.tup [V.str ("in" : Str),V.int (k:Int)])=H2 at u2 h2p ⊢
  refine⟨_,rfl,_,rfl,aF (aL.of (u2 _ _ hv)) hat (aF (aL.of (u2 _ _ ha)) rfl ⟨zI (by show 2<=1000;decide),fun p2 hp2=>⟨by rw[sizeLine_eq];lia,s1.trans (u2.trans (zF hp2 _)),by rw[fU,jf,la],?_⟩⟩)⟩
  have u3:=zF hp2 (.tup [V.ref p,r.ins])
  rw[jN,hk,kI]
  exact (hA.mono fun _ _ z=>z.mono (aB.of (u2.trans u3))).snoc ⟨p2,p,r.ins,rfl,zC,u3 _ _ h2p,hd.mono (aB.of (s1.trans (u2.trans u3)))⟩
 ·rintro acc H' ⟨s1,la,hA⟩ pl hpl
  rw[zU]at hA
  rw[uw (bT _)]at hA
  exact q pl acc _ (s1.trans (zF hpl _)) (s1.free hpl) zC (hA.mono fun _ _ z=>z.mono (aB.of (zF hpl _)))
theorem BZ:aH ["rooms","left"] ["rooms","left"] (aA gH):=fO
theorem Bs{f:Addr}{fd:FuncData}(F:cz K "steps_out" "steps_out" gH f fd):aG P w K mg base aY 1 f fd ["rooms","left"] (jj En.out false):=by
 refine F.ok BZ (fun vs H Q E h=>?_) (fun cdv A outer s H vs Q E hr h=>?_)
 ·refine aK fun G_ g_=>?_
  obtain⟨t,pe,rs,di,dO,es,rfl,_⟩:=h
  refine g_ ?_
  clear g_ G_
  rfl
 refine aK fun G_ g_=>?_
 obtain⟨t,pe,rs,di,dO,es,rfl,hR,hD,hpe,hlt,hz,q⟩:=h
 refine g_ ?_
 clear g_ G_
 refine⟨_,(zG (zO (yT (aa:=[(0,"rooms")]) rfl (show bI (aA gH) ["rooms","left"] _ _ _ from xO) (yM (pv 1)) (fun _ _ _ _ _ _=>cR) (fun _ _ _ _ _ _=>(zW (zA (zW (zA zP (zA (pv 0) zD))) (zA (yB (r:=fY K) zH (yB (r:=fY K) zH (pv 1) (pv 0) (fun _ _=>rfl)) zB (fun _ _=>rfl)) zD))))))),?_⟩
 refine⟨_,rfl,pe,rfl,⟨_,aQ.of hpe⟩,?_⟩
 refine yS (K:=K) (a:=pe) (xs:=aC es) (fun i acc H'=>aJ H H'/\acc.length=i/\Al (qQ H') acc ((es.take i).map fun k=>(En.out k,dO k))) ⟨aJ.refl _,rfl,.nil⟩ (fun i acc H' z=>aQ.of (z.1 _ _ hpe)) ?_ ?_
 ·rintro i x acc H' hx aZ
  refine aK fun G_ g_=>?_
  obtain⟨s1,la,hA⟩:=aZ
  obtain⟨hi,rfl⟩:=yR hx
  refine g_ ?_
  clear g_ G_
  have hk:=fu hi
  have hm:=hlt _ (kO hi)
  generalize es[i]=k at hk hm
  refine aK fun G_ g_=>?_
  obtain⟨vs,a,r,hv,_,hr',hat,ha⟩:=(hR.mono (aB.of s1)).at hm
  refine g_ ?_
  clear g_ G_
  have hd:=(hD k r hr').2
  refine⟨_,rfl,zI (by show 2<=1000;decide),fun p hp=>?_⟩
  have u2:=zF hp (.tup [V.str ("out" : Str),V.int (k:Int)])
  have h2p:upd H' p (.tup [V.str ("out" : Str),V.int (k:Int)]) p=some (.tup (En.out k).row):=zC
  generalize upd H' p (.tup [V.str ("out" : Str),V.int (k:Int)])=H2 at u2 h2p ⊢
  refine⟨_,rfl,_,rfl,aF (aL.of (u2 _ _ hv)) hat (aF (aL.of (u2 _ _ ha)) rfl ⟨zI (by show 2<=1000;decide),fun p2 hp2=>⟨by rw[sizeLine_eq];lia,s1.trans (u2.trans (zF hp2 _)),by rw[fU,jf,la],?_⟩⟩)⟩
  have u3:=zF hp2 (.tup [V.ref p,r.outs])
  rw[jN,hk,kI]
  exact (hA.mono fun _ _ z=>z.mono (aB.of (u2.trans u3))).snoc ⟨p2,p,r.outs,rfl,zC,u3 _ _ h2p,hd.mono (aB.of (s1.trans (u2.trans u3)))⟩
 ·rintro acc H' ⟨s1,la,hA⟩ pl hpl
  rw[zU]at hA
  rw[uw (bT _)]at hA
  exact q pl acc _ (s1.trans (zF hpl _)) (s1.free hpl) zC (hA.mono fun _ _ z=>z.mono (aB.of (zF hpl _)))
theorem dj:aH ["steps","boxes","sizes","letters","held","record","mark","deeds","told"] ["steps","boxes","sizes","letters"] (aA oN):=fO
theorem Ip{n:Nat}{f gd:Addr}{fd dd:FuncData}(F:cz K "stepped" "stepped" oN f fd)(qB7:aG P w K mg base aY n gd dd ["deeds","boxes","sizes","letters"] (Qe (LL C)))(qAZ:Binds K dd ["deeds","boxes","sizes","letters"] [])(qA5:KI K gd)(Zk:mg "done" = some (.ref gd)) :
  aG P w K mg base aY (n+1) f fd ["steps","boxes","sizes","letters"] (t8 C):=by
 refine F.ok dj (fun vs H Q E h=>?_) (fun cdv A outer s H vs Q E hr h=>?_)
 ·refine aK fun G_ g_=>?_
  obtain⟨ps,tb,ts,p,sv,ss,bx,sz,l,fp,m,rfl,_⟩:=h
  refine g_ ?_
  clear g_ G_
  rfl
 refine aK fun G_ g_=>?_
 obtain⟨ps,tb,ts,p,sv,ss,bx,sz,l,fp,m,rfl,hps,nps,hA,htb,hts,hL,hok,hss,hbs,h6,hpos,hl,hm,q⟩:=h
 refine g_ ?_
 clear g_ G_
 refine⟨_,(zE (zK (i:=4) dj.nd rfl (Or.inl rfl) (pv 1))
  (zE (zK (i:=5) dj.nd rfl (Or.inl rfl) (yK zD))
  (zZ (cj PassesOwn.never rfl (yM (pv 0)) (Il rfl (il (yJ (i:=6) dj.nd rfl (Or.inl rfl)) (il (yJ (i:=7) dj.nd rfl (Or.inl rfl)) Bk)))
  (zE (zK (i:=8) dj.nd rfl (Or.inl rfl) (zJ qB7 hr rfl Zk qA5 qAZ .nil yE (zA (pv 7) (zA (pv 4) (zA (pv 2) (zA (pv 3) zD))))))
  (zE (zK (i:=4) dj.nd rfl (Or.inl rfl) (yB zH (pv 8) zB (fun _ _=>rfl)))
  (zE (yI (dz jM sy sZ yH (pv 5) (zA (pv 6) zD)))
  (zG (yI (dz jM PySem.F.slot_list_extend PySem.F.type_list_extend iQ (pv 5) (zA (yB zH (pv 8) zB (fun _ _=>rfl)) zD))))))))
  (zG (zO (zW (zA (pv 4) (zA (pv 5) zD)))))))),?_⟩
 have lsv:=hA.length
 refine⟨_,rfl,Nat.zero_le _,fun pr hpr=>?_⟩
 have u0:=zF hpr (.lst [])
 have J8:pr ∉ fp:=LL.new hL hpr
 refine⟨fun σ' Hi => ∃(sW:Addr)(cM:List Addr)(rv:List V)(o6 o7 o8:Option V),σ'=[some (.ref ps),some (.ref tb),some (.ref ts),some (.ref p),some (.ref sW),some (.ref pr),o6,o7,o8]/\LL C Hi p cM m (cP sz m ss bx l).2.1/\bR H Hi fp cM/\Hi sW=some (.tup ((cP sz m ss bx l).1.map V.int))/\Hi pr=some (.lst rv)/\pr ∉ cM/\Al (fj Hi) rv (cP sz m ss bx l).2.2,?_,?_⟩
 ·refine⟨_,rfl,ps,rfl,⟨_,aQ.of (u0 _ _ hps)⟩,?_⟩
  refine rW (K:=K) (a:=ps) (xs:=sv) (fun i σ' Hi => ∃(sW:Addr)(cM:List Addr)(rv:List V)(o6 o7 o8:Option V),σ'=[some (.ref ps),some (.ref tb),some (.ref ts),some (.ref p),some (.ref sW),some (.ref pr),o6,o7,o8]/\LL C Hi p cM m (cP sz m (ss.take i) bx l).2.1/\bR H Hi fp cM/\Hi sW=some (.tup ((cP sz m (ss.take i) bx l).1.map V.int))/\Hi pr=some (.lst rv)/\pr ∉ cM/\Al (fj Hi) rv (cP sz m (ss.take i) bx l).2.2)
   ⟨tb,fp,[],_,_,_,rfl,LL.same hL u0,bR.same fp u0,u0 _ _ htb,zC,J8,.nil⟩ (fun i σ' Hi _ ⟨_,_,_,_,_,_,_,_,st,_⟩=>aQ.of (st.rest _ _ hps nps)) ?_ ?_
  ·rintro i x σ' Hi hx aZ
   refine aK fun G_ g_=>?_
   obtain⟨sW,cM,rv,o6,o7,o8,rfl,hLi,st,hbi,Hf,Nq,T8⟩:=aZ
   have hi:i < ss.length:=by
    have:=(mH.mp hx).1
    lia
   have hk:=fu hi
   have hmem:=kO hi
   have Dv:ss.take (i+1)=ss.take i++[ss[i]]:=by
    rw[jN,hk]
    rfl
   obtain⟨v,hv,a,am,XC,rfl,h1,h2,ad,dv,rfl,h3,h4⟩:=hA.get hk
   refine g_ ?_
   clear g_ G_
   rw[hv]at hx
   obtain rfl:=kJ hx
   have kt:aB H Hi:=bR.keep st hL
   obtain⟨ok1,ok2⟩:=hok _ hmem
   have lb:=vO sz m (ss.take i) bx l
   have ll:=Ax (sz:=sz) (ss:=ss.take i) (bx:=bx) hl
   have les:=vN (sz:=sz) (m:=m) (ss:=ss.take i) (bx:=bx) (l:=l) fun y hy=>(hok y (List.mem_of_mem_take hy)).2
   have SM:=T8.length
   rw[gG]at les
   generalize ss[i]=sd at Dv h2 h4 ok1 ok2
   have gk:aB Hi (xN cM Hi):=fun b xs e=>rZ e (K7 hLi e)
   refine⟨a,_,rfl,aL.of (kt _ _ h1),rfl,_,_,rfl,_,_,rfl,rfl,?_⟩
   refine⟨_,rfl,_,rfl,_,rfl,_,rfl,ad,sW,ts,p,sd.2,_,sz,_,dv,cM,m,xN cM Hi,rfl,fun b o e=>(pF e).1,fun b hb=>MT hb,gk _ _ (kt _ _ h3),h4.mono (kt.trans gk),gk _ _ hbi,gk _ _ (kt _ _ hts),hLi,(by rw[lb];exact ok1),ok2,(by rw[lb];exact hbs),(by rw[lb];exact h6),hpos,ll,hm,fun t tb2 Q3 uf xJ H2 hL2 st2 Lx hb2 nb2 hr2 J7 qDR=>?_⟩
   have hr3:=(bR.apart st2 Hf Nq).1
   have nr3:=(bR.apart st2 Hf Nq).2
   have k2:=bR.keep st2 hLi
   have ne2:Q3 ≠ pr:=fun z=>by
    rw[z,Hf]at J7
    cases J7
   refine⟨_,rfl,aF (aL.of Lx) rfl ?_⟩
   refine⟨_,rfl,.inl ⟨rfl,_,aQ.of hr3⟩,_,rfl,pr,rv,_,rfl,rfl,hr3,(by rw[sizeLine_eq];lia),?_⟩
   have k3:=aB.lst hr3 (.lst (rv++[.ref am]))
   have h3r:upd H2 pr (.lst (rv++[.ref am])) pr=some (.lst (rv++[.ref am])):=zC
   have h3p:upd H2 pr (.lst (rv++[.ref am])) Q3=some (.lst uf):=by
    rw[zQ ne2]
    exact hr2
   have st3:bR H (upd H2 pr (.lst (rv++[.ref am]))) fp xJ:=bR.upd (bR.trans st st2) hpr _
   have hL3:=LL.upd hL2 nr3 (.lst (rv++[.ref am]))
   generalize upd H2 pr (.lst (rv++[.ref am]))=H3 at k3 h3r h3p st3 hL3 ⊢
   have lr2:=qDR.length
   rw[rE]at lr2
   refine⟨_,rfl,.inl ⟨rfl,_,aQ.of h3r⟩,_,rfl,aF (aL.of (k3 _ _ Lx)) rfl ⟨pr,Q3,_,_,rfl,rfl,h3r,h3p,(by rw[fU,jf,sizeLine_eq];lia),?_⟩⟩
   have k4:=aB.lst h3r (.lst (rv++[.ref am]++uf))
   have GZ:=k2.trans (k3.trans k4)
   refine⟨tb2,xJ,_,_,_,_,rfl,?_,bR.upd st3 hpr _,?_,zC,nr3,?_⟩
   ·rw[Dv,pX]
    exact LL.upd hL3 nr3 _
   ·rw[Dv,pX]
    exact (k3.trans k4) _ _ hb2
   ·rw[Dv,pX]
    show Al _ _ ((cP sz m (ss.take i) bx l).2.2++(sd.1 :: _))
    refine Al.cast (show rv++[V.ref am]++uf=rv++(V.ref am :: uf) by rw[List.append_assoc];rfl) ?_
    exact Al.app (T8.mono fun _ _ z=>z.mono GZ) (.cons ⟨am,rfl,GZ _ _ (kt _ _ h2)⟩ (Z4 (qDR.mono (k3.trans k4))))
  ·rintro σ' Hi aZ
   refine aK fun G_ g_=>?_
   obtain⟨sW,cM,rv,o6,o7,o8,z1,z2,z3,z4,z5,z6,z7⟩:=aZ
   refine g_ ?_
   clear g_ G_
   rw[lsv,List.take_length]at z2 z4 z7
   exact⟨sW,cM,rv,o6,o7,o8,z1,z2,z3,z4,z5,z6,z7⟩
 rintro σ' Hi aZ
 refine aK fun G_ g_=>?_
 obtain⟨sW,cM,rv,o6,o7,o8,rfl,hLi,st,hbi,Hf,Nq,T8⟩:=aZ
 refine g_ ?_
 clear g_ G_
 refine⟨_,rfl,_,rfl,zI (by show 2<=1000;decide),fun t ht=>?_⟩
 have u1:=zF ht (.tup [.ref sW,.ref pr])
 exact q t sW pr rv cM _ (LL.same hLi u1) (bR.trans st (bR.same cM u1)) zC (u1 _ _ hbi) (u1 _ _ Hf) hpr Nq (T8.mono fun _ _ z=>z.mono (aB.of u1))
inductive Wy where
 | to (g:Nat)
 | back (g:Nat)
 | stay
noncomputable def Wy.tx:Wy->Str
 | .to _ => "to"
 | .back _ => "back"
 | .stay => "stay"
noncomputable def Wy.gv:Wy->V
 | .to g=>.int (g:Int)
 | .back g=>.int (g:Int)
 | .stay=>.non
noncomputable def Wy.gl:Wy->Nat
 | .to g=>g
 | .back g=>g
 | .stay=>0
structure Dx where
 room:Nat
 ev:Int
 g:Gd
 dd:List Dd
 way:Wy
noncomputable def xX(H:Hp)(v:V)(d:Dx):Prop:=∃(a:Addr)(gv dv:V),v = .ref a/\H a=some (.tup [.int (d.room:Int),.int d.ev,gv,dv,.str d.way.tx,d.way.gv])/\jd H gv d.g/\sU H dv d.dd
theorem xX.mono{H H':Hp}{v:V}{d:Dx}(x:xX H v d)(k:aB H H'):xX H' v d:=by
 obtain⟨a,gv,dv,h1,h2,h3,h4⟩:=x
 exact⟨a,gv,dv,h1,k _ _ h2,h3.mono k,h4.mono k⟩
structure dZ where
 od:Str
 lb:Nat
 tn:Nat
 sz:List Int
 rs:List Rm
 di:Nat->List Dd
 dO:Nat->List Dd
 ds:List Dx
noncomputable def uv(H:Hp)(pc:Addr)(c:dZ):Prop:=∃(pb t pd:Addr)(x4:V)(bv dv:List V),H pc=some (.tup [.str c.od,.int (c.lb:Int),.int (c.tn:Int),.ref pb,x4,.ref t,.ref pd])/\H pb=some (.tup bv)/\Al (Q0 H) bv c.sz/\cV H t c.rs/\Yc H c.rs c.di c.dO/\H pd=some (.tup dv)/\Al (xX H) dv c.ds
theorem uv.mono{H H':Hp}{pc:Addr}{c:dZ}(x:uv H pc c)(k:aB H H'):uv H' pc c:=by
 obtain⟨pb,t,pd,x4,bv,dv,h1,h2,h3,h4,h5,h6,h7⟩:=x
 exact⟨pb,t,pd,x4,bv,dv,k _ _ h1,k _ _ h2,h3.mono fun _ _ z=>z.mono k,h4.mono k,h5.mono k,k _ _ h6,h7.mono fun _ _ z=>z.mono k⟩
structure HR(c:dZ):Prop where
 good:Tr.Good (aD c.rs)
 r40:c.rs.length<=40
 b6:c.sz.length<=6
 pos:∀ z∈c.sz,0 < z
 V9:c.lb<=12
 ins:∀ k:Nat,(∀ d∈c.di k,d.ok c.sz.length)/\(c.di k).length<=8
 outs:∀ k:Nat,(∀ d∈c.dO k,d.ok c.sz.length)/\(c.dO k).length<=8
 d63:c.ds.length<=63
 door:∀ d∈c.ds,d.room < c.rs.length/\d.way.gl < c.rs.length/\(∀ x∈d.dd,x.ok c.sz.length)/\d.dd.length<=8
structure S4 where
 os:List Nat
 bx:List Int
 ks:List (List Nat)
 l:List Int
noncomputable def dH(H:Hp)(ps:Addr)(s:S4):Prop:=∃(po pb pk:Addr)(kv:List V),H ps=some (.tup [.ref po,.ref pb,.ref pk])/\H po=some (.tup (aC s.os))/\H pb=some (.tup (s.bx.map V.int))/\H pk=some (.tup kv)/\bF H kv s.ks
theorem dH.mono{H H':Hp}{ps:Addr}{s:S4}(x:dH H ps s)(k:aB H H'):dH H' ps s:=by
 obtain⟨po,pb,pk,kv,h1,h2,h3,h4,h5⟩:=x
 exact⟨po,pb,pk,kv,k _ _ h1,k _ _ h2,k _ _ h3,k _ _ h4,h5.mono k⟩
structure jO(c:dZ)(s:S4):Prop where
 inc:s.os.Pairwise (· < ·)
 lt:∀ o∈s.os,o < c.rs.length
 Q4:s.os.length<=40
 bx:s.bx.length=c.sz.length
 ks:s.ks.length=c.rs.length
 l:s.l.length<=c.lb
noncomputable def jT(w:Wy)(ks:List (List Nat)):List Nat:=match w with
 | .to g=>[g]
 | .back g=>if ks.getD g []=[] then [g] else ks.getD g []
 | .stay=>[]
noncomputable def tu:Wy->Bool
 | .stay=>true
 | _=>false
noncomputable def qJ(c:dZ)(d:Dx):Option Nat:=Tr.hall (aD c.rs) (K9.isOne c.rs) d.room d.way.gl
noncomputable def bU(c:dZ)(d:Dx)(os:List Nat):List Nat:=if tu d.way=true then [] else K8.jY (aD c.rs) (qJ c d) os
noncomputable def nY(c:dZ)(d:Dx)(os:List Nat)(ks:List (List Nat)):List (List Nat):=if tu d.way=true then ks else bL c.rs os (bU c d os) ks
noncomputable def uI(c:dZ)(d:Dx)(ks:List (List Nat))(ms:List Nat):Prop:=if tu d.way=true then ms=[] else Tr.VL (aD c.rs) (Pj c.rs) (jT d.way ks) (qJ c d) ms
noncomputable def cg(c:dZ)(d:Dx)(os:List Nat):List Nat:=os.filter fun o => !inV (.int (o:Int)) (aC (bU c d os))
noncomputable def iB(c:dZ)(k:Nat)(d:Dx)(os ms:List Nat):List Sd:=[(En.door k,[])]++((bU c d os).map fun r=>(En.out r,c.dO r))++[(En.thr k,d.dd)]++ms.map fun r=>(En.inn r,c.di r)
noncomputable def HB(c:dZ)(k:Nat)(s:S4)(es:List En)(s':S4):Prop:=∃(d:Dx)(ms:List Nat),c.ds[k]? = some d/\uI c d (nY c d s.os s.ks) ms/\s'.os.Perm (cg c d s.os++ms)/\s'.os.Pairwise (· < ·)/\s'.ks=nY c d s.os s.ks/\(s'.bx,s'.l,es)=cP c.sz c.lb (iB c k d s.os ms) s.bx s.l
noncomputable def Mp(c:dZ)(d:Dx)(os:List Nat)(ks:List (List Nat)):Prop:=(∀ g∈jT d.way (nY c d os ks),g < c.rs.length)/\(jT d.way (nY c d os ks)).length<=100/\∀ ms:List Nat,uI c d (nY c d os ks) ms->(cg c d os++ms).Nodup/\(cg c d os++ms).length<=40/\∀ k∈ms,k < c.rs.length
noncomputable def Ko:Sp:=fun vs H Q _ => ∃(pc pk:Addr)(kv:List V)(ks:List (List Nat))(c:dZ)(k:Nat)(d:Dx),vs=[.ref pc,.ref pk,.int (k:Int)]/\uv H pc c/\c.ds[k]? = some d/\H pk=some (.tup kv)/\bF H kv ks/\d.way.gl < ks.length/\(jT d.way ks).length<=100/\∀(p:Addr)(H':Hp),aJ H H'->H p=none->H' p=some (.lst (aC (jT d.way ks)))->Q (.ref p) H'
noncomputable def Ea(C:Addr):Sp:=fun vs H Q _ => ∃(pc ps p:Addr)(c:dZ)(k:Nat)(ik:Int)(s:S4)(fp:List Addr)(d:Dx),vs=[.ref pc,.ref ps,.int ik,.ref p]/\ik=(k:Int)/\uv H pc c/\HR c/\dH H ps s/\jO c s/\c.ds[k]? = some d/\Mp c d s.os s.ks/\LL C H p fp c.lb s.l ∧
 ∀(t ps' pr:Addr)(rv:List V)(s':S4)(es:List En)(fp':List Addr)(H':Hp),HB c k s es s'->LL C H' p fp' c.lb s'.l->bR H H' fp fp'->H' t=some (.tup [.ref ps',.ref pr])->dH H' ps' s'->jO c s'->H' pr=some (.lst rv)->H pr=none->pr ∉ fp'->Al (fj H') rv es->es.length<=1000->Q (.ref t) H'
theorem rP(rs:List Rm)(os:List Nat):∀(ls:List Nat)(ks:List (List Nat)),(bL rs os ls ks).length=ks.length
 | [],ks=>rfl
 | r :: ls,ks=>by
  show (bL rs os ls (if cu rs r=("" : Str) then ks else ks.set r (jr rs os r))).length=_
  rw[rP rs os ls]
  split
  ·rfl
  ·rw[List.length_set]
theorem vC{ds:List Int}{f:Nat->Bool}{a b u:Nat}(h:Tr.hall ds f a b=some u):u < a:=Tr.QF (List.mem_of_find?_eq_some h)
theorem RD(ds:List Int)(un:Option Nat)(os:List Nat):(K8.jY ds un os).length<=os.length:=by
 unfold K8.jY
 rw[List.length_reverse]
 exact qe _ _
theorem mq:aH ["chart","kept","door","way","goal"] ["chart","kept","door"] (aA qz):=fO
theorem Fe{f:Addr}{fd:FuncData}(F:cz K "goals_of" "goals_of" qz f fd)(aP:mg "len" = none)(fK:mg "list" = none):aG P w K mg base aY 1 f fd ["chart","kept","door"] Ko:=by
 refine F.ok mq (fun vs H Q E h=>?_) (fun cdv A outer s H vs Q E hr h=>?_)
 ·refine aK fun G_ g_=>?_
  obtain⟨pc,pk,kv,ks,c,k,d,rfl,_⟩:=h
  refine g_ ?_
  clear g_ G_
  rfl
 refine aK fun G_ g_=>?_
 obtain⟨pc,pk,kv,ks,c,k,d,rfl,⟨pb,t,pd,x4,bv,dv,h1,h2,h3,h4,h5,h6,h7⟩,hd,TJ,hks,hgl,hl,q⟩:=h
 refine g_ ?_
 clear g_ G_
 refine⟨_,(zE (zK (i:=3) mq.nd rfl (Or.inl rfl) (yB zH (yB zH (yB zH (pv 0) zB (fun _ _=>rfl)) (pv 2) (fun _ _=>rfl)) zB (fun _ _=>rfl)))
  (zE (zK (i:=4) mq.nd rfl (Or.inl rfl) (yB zH (yB zH (yB zH (pv 0) zB (fun _ _=>rfl)) (pv 2) (fun _ _=>rfl)) zB (fun _ _=>rfl)))
  (zE (yD (zL yG (pv 3) zP (zR _))
  (zG (zO (yK zD)))
  zT)
  (zE (yD (PW.pt (pw_and (zL yG (pv 3) zP (zR _)) (yP (zL gM (zS zN rfl aP bV (zA (yB zH (pv 1) (pv 4) (fun _ _=>rfl)) zD)) zB (zR _)))))
  (zG (zO (yA cL rfl fK PyProof.Rows.boot_list (zA (yB zH (pv 1) (pv 4) (fun _ _=>rfl)) zD))))
  zT)
  (zG (zO (yK (zA (pv 4) zD)))))))),?_⟩
 refine aK fun G_ g_=>?_
 obtain⟨v,hv,a,gv,XC,rfl,g1,g2,g3⟩:=h7.get hd
 refine g_ ?_
 clear g_ G_
 have hat:=yQ hv
 refine⟨_,rfl,aF (aL.of h1) rfl ⟨_,rfl,aF (aL.of h6) hat (aF (aL.of g1) rfl ?_)⟩⟩
 refine⟨_,rfl,aF (aL.of h1) rfl ⟨_,rfl,aF (aL.of h6) hat (aF (aL.of g1) rfl ?_)⟩⟩
 clear g1 hd
 refine aK fun G_ g_=>?_
 obtain⟨rm,ev,gg,dd,wy⟩:=d
 refine g_ ?_
 clear g_ G_
 cases wy with
 | stay=>exact⟨_,rfl,rfl,_,rfl,Q6 (by show decide (V.str ("stay" : Str)=V.str "stay")=true;decide +kernel) ⟨Nat.zero_le _,fun p hp=>q p _ (zF hp _) hp zC⟩⟩
 | to g=>
  refine⟨_,rfl,rfl,_,rfl,lQ (by show decide (V.str ("to" : Str)=V.str "stay")=false;decide +kernel) ?_⟩
  refine⟨_,rfl,rfl,_,rfl,lQ (by show decide (V.str ("to" : Str)=V.str "back")=false;decide +kernel) ?_⟩
  exact lQ rfl ⟨_,rfl,zI (by show 1<=1000;decide),fun p hp=>q p _ (zF hp _) hp zC⟩
 | back g=>
  have hg:g < ks.length:=hgl
  refine aK fun G_ g_=>?_
  obtain⟨v2,hv2,ak,rfl,hak⟩:=hks.get (fu hg)
  refine g_ ?_
  clear g_ G_
  have qDZ:=yQ hv2
  have eg:ks.getD g []=ks[g]:=by rw[kW,fu hg];rfl
  have q':∀(p:Addr)(H':Hp),aJ H H'->H p=none->H' p=some (.lst (aC (if ks[g]=[] then [g] else ks[g])))->Q (.ref p) H':=fun p H' s1 hp h=>q p H' s1 hp (by
   show H' p=some (.lst (aC (if ks.getD g []=[] then [g] else ks.getD g [])))
   rw[eg]
   exact h)
  refine⟨_,rfl,rfl,_,rfl,lQ (by show decide (V.str ("back" : Str)=V.str "stay")=false;decide +kernel) ?_⟩
  refine⟨_,rfl,rfl,_,rfl,Q6 (by show decide (V.str ("back" : Str)=V.str "back")=true;decide +kernel) ?_⟩
  refine⟨_,rfl,_,rfl,pk,kv,_,_,rfl,rfl,aL.of TJ,qDZ,fQ rfl (.inr (aL.of hak)) (bA ⟨_,rfl,fV (fun z=>?_) (fun z=>?_)⟩)⟩
  ·have z':(0:Int) < ((aC ks[g]).length:Int):=of_decide_eq_true z
   rw[zU]at z'
   have hne:ks[g] ≠ []:=fun e=>by
    rw[e]at z'
    exact absurd z' (by decide)
   rw[if_neg hne]at q'
   exact⟨_,rfl,_,rfl,pk,kv,_,_,rfl,rfl,aL.of TJ,qDZ,fQ rfl (.inr (aL.of hak)) (fun p hp=>q' p _ (zF hp _) hp zC)⟩
  ·have z':¬ (0:Int) < ((aC ks[g]).length:Int):=of_decide_eq_false z
   rw[zU]at z'
   have he:ks[g]=[]:=List.length_eq_zero_iff.mp (by lia)
   rw[if_pos he]at q'
   exact⟨_,rfl,zI (by show 1<=1000;decide),fun p hp=>q' p _ (zF hp _) hp zC⟩
abbrev Bp:Scope:=⟨.function,[("chart",.local),("stand",.local),("door",.local),("letters",.local),("rooms",.local),("parts",.local),("opening",.local),("kept",.local),("left",.cell),("entered",.local),("hall",.local),("through",.local),("steps",.local),("told",.local),("staying",.local),("hall_over",.globalImplicit),("goings_out",.globalImplicit),("keeping",.globalImplicit),("goings_in",.globalImplicit),("goals_of",.globalImplicit),("steps_out",.globalImplicit),("steps_in",.globalImplicit),("stepped",.globalImplicit),("sizes_of",.globalImplicit),("tuple",.globalImplicit),("sorted",.globalImplicit)],false,false,(aA n6).more⟩
theorem NT:aA n6=Bp:=by rfl
theorem bM:aH ["chart","stand","door","letters","rooms","parts","opening","kept","left","entered","hall","through","steps","told","staying"] ["chart","stand","door","letters"] Bp:=fO
theorem Nf{n:Nat}{f g1 g2 g3 g4 g5 g6 g7 g8 g9:Addr}{fd d1 d2 d3 d4 d5 d6 d7 d8 d9:FuncData}(F:cz K "passed" "passed" n6 f fd)
  (HN:aG P w K mg base aY n g1 d1 ["rooms","one","other"] K9.Qd) (Gv:Binds K d1 ["rooms","one","other"] []) (Ge:KI K g1) (GC:mg "hall_over" = some (.ref g1))
  (lq:aG P w K mg base aY n g2 d2 ["rooms","under","opening"] K8.QT) (lY:Binds K d2 ["rooms","under","opening"] []) (lO:KI K g2) (lK:mg "goings_out" = some (.ref g2))
  (Px:aG P w K mg base aY n g3 d3 ["rooms","opening","left","kept"] yl) (Pb:Binds K d3 ["rooms","opening","left","kept"] []) (O8:KI K g3) (Nu:mg "keeping" = some (.ref g3))
  (oK:aG P w K mg base aY n g4 d4 ["rooms","under","goals"] Yy) (oE:Binds K d4 ["rooms","under","goals"] []) (ni:KI K g4) (nU:mg "goings_in" = some (.ref g4))
  (KN:aG P w K mg base aY n g5 d5 ["chart","kept","door"] Ko) (Jz:Binds K d5 ["chart","kept","door"] []) (Jb:KI K g5) (JQ:mg "goals_of" = some (.ref g5))
  (HH:aG P w K mg base aY n g6 d6 ["rooms","left"] (jj En.out false)) (Gs:Binds K d6 ["rooms","left"] []) (Ga:KI K g6) (Fx:mg "steps_out" = some (.ref g6))
  (qT:aG P w K mg base aY n g7 d7 ["rooms","entered"] (jj En.inn true)) (qN:Binds K d7 ["rooms","entered"] []) (qG:KI K g7) (qD:mg "steps_in" = some (.ref g7))
  (uJ:aG P w K mg base aY n g8 d8 ["steps","boxes","sizes","letters"] (t8 C)) (uG:Binds K d8 ["steps","boxes","sizes","letters"] []) (tZ:KI K g8) (tU:mg "stepped" = some (.ref g8))
  (qU:aG P w K mg base aY n g9 d9 ["chart"] Az) (qO:Binds K d9 ["chart"] []) (qH:KI K g9) (qF:mg "sizes_of" = some (.ref g9))
  (aM:mg "tuple" = none) (dU:mg "sorted" = none):aG P w K mg base aY (n+1) f fd ["chart","stand","door","letters"] (Ea C):=by
 refine okS Bp NT F bM (fun vs H Q E h=>?_) (fun cdv A outer s H vs Q E hr h=>?_)
 ·refine aK fun G_ g_=>?_
  obtain⟨pc,ps,p,c,k,ik,s,fp,d,rfl,_⟩:=h
  refine g_ ?_
  clear g_ G_
  rfl
 refine aK fun G_ g_=>?_
 obtain⟨pc,ps,p,c,k,ik,st,fp,d,rfl,rfl,hC,ok,hS,so,hd,mp,hL,q⟩:=h
 refine g_ ?_
 clear g_ G_
 refine⟨_,(zE (zK (i:=4) bM.nd rfl (Or.inl rfl) (yB zH (pv 0) zB (fun _ _=>rfl)))
  (zE (zK (i:=5) bM.nd rfl (Or.inl rfl) (yB zH (yB zH (pv 0) zB (fun _ _=>rfl)) (pv 2) (fun _ _=>rfl)))
  (zE (zK (i:=6) bM.nd rfl (Or.inl rfl) (yB zH (pv 1) zB (fun _ _=>rfl)))
  (zE (zK (i:=7) bM.nd rfl (Or.inl rfl) (yB zH (pv 1) zB (fun _ _=>rfl)))
  (zE (zK (i:=8) bM.nd rfl (Or.inr rfl) (yK zD))
  (zE (zK (i:=9) bM.nd rfl (Or.inl rfl) (yK zD))
  (zZ (yD (zL mC (yB zH (pv 5) zB (fun _ _=>rfl)) zP (zR _))
  (zE (zK (i:=10) bM.nd rfl (Or.inl rfl) (zJ HN hr rfl GC Ge Gv .nil yE (zA (pv 4) (zA (yB zH (pv 5) zB (fun _ _=>rfl)) (zA (yB zH (pv 5) zB (fun _ _=>rfl)) zD)))))
  (zE (zK (i:=8) bM.nd rfl (Or.inr rfl) (zJ lq hr rfl lK lO lY .nil yE (zA (pv 4) (zA (pv 10) (zA (pv 6) zD)))))
  (zE (zK (i:=7) bM.nd rfl (Or.inl rfl) (zJ Px hr rfl Nu O8 Pb .nil yE (zA (pv 4) (zA (pv 6) (zA (pv 8) (zA (pv 7) zD))))))
  (zG (zK (i:=9) bM.nd rfl (Or.inl rfl) (zJ oK hr rfl nU ni oE .nil yE (zA (pv 4) (zA (pv 10) (zA (zJ KN hr rfl JQ Jb Jz .nil yE (zA (pv 0) (zA (pv 7) (zA (pv 2) zD)))) zD)))))))))
  zT)
  (zE (zK (i:=11) bM.nd rfl (Or.inl rfl) (yK (zA (zW (zA (zW (zA zP (zA (pv 2) zD))) (zA (yB zH (pv 5) zB (fun _ _=>rfl)) zD))) zD)))
  (zE (zK (i:=12) bM.nd rfl (Or.inl rfl) (yC Br (yC Br (yC Br (yK (zA (zW (zA (zW (zA zP (zA (pv 2) zD))) (zA (zW zD) zD))) zD)) (zJ HH hr rfl Fx Ga Gs .nil yE (zA (pv 4) (zA (pv 8) zD)))) (pv 11)) (zJ qT hr rfl qD qG qN .nil yE (zA (pv 4) (zA (pv 9) zD)))))
  (zE (zK (i:=13) bM.nd rfl (Or.inl rfl) (zJ uJ hr rfl tU tZ uG .nil yE (zA (pv 12) (zA (yB zH (pv 1) zB (fun _ _=>rfl)) (zA (zJ qU hr rfl qF qH qO .nil yE (zA (pv 0) zD)) (zA (pv 3) zD))))))
  (zE (vA (i:=14) (aa:=[(8,"left")]) rfl bM.nd rfl (Or.inl rfl) (show bI Bp ["chart","stand","door","letters","rooms","parts","opening","kept","left","entered","hall","through","steps","told","staying"] _ _ _ from xO) (nF (pv 6)) (fun _ _ _ _ _ _=>dC (zL (r:=rIn K true) lG (pv 0) (pv 1) rfl)) (fun _ _ _ _ _ _=>(pv 0)))
  (zG (zO (zW (zA (zW (zA (yA zX rfl aM iT (zA (zS nu rfl dU PyProof.Rows.boot_sorted (zA (yC Br (pv 14) (pv 9)) zD)) zD)) (zA (yB zH (pv 13) zB (fun _ _=>rfl)) (zA (pv 7) zD)))) (zA (yB zH (pv 13) zB (fun _ _=>rfl)) zD)))))))))))))))),?_⟩
 refine aK fun G_ g_=>?_
 obtain⟨pb,t,pd,x4,bv,dv,h1,h2,h3,h4,h5,h6,h7⟩:=id hC
 obtain⟨po,V6,pk,kv,e1,e2,e3,e4,e5⟩:=id hS
 obtain⟨v,hv,a,gv,XC,rfl,y1,y2,y3⟩:=h7.get hd
 refine g_ ?_
 clear g_ G_
 have hat:=yQ hv
 have od:=ok.door d (Mq hd)
 refine⟨_,rfl,aF (aL.of h1) rfl ?_⟩
 refine⟨_,rfl,aF (aL.of h1) rfl ⟨_,rfl,aF (aL.of h6) hat ?_⟩⟩
 refine⟨_,rfl,aF (aL.of e1) rfl ?_⟩
 refine⟨_,rfl,aF (aL.of e1) rfl ?_⟩
 refine⟨Nat.zero_le _,fun pl0 qAG=>⟨Nat.zero_le _,fun pe0 qAH=>?_⟩⟩
 have u1:=(zF qAG (.lst [])).trans (zF qAH (.lst []))
 have hl0:(upd (upd H pl0 (.lst [])) pe0 (.lst [])) pl0=some (.lst (aC [])):=zF qAH _ _ _ zC
 have he0:(upd (upd H pl0 (.lst [])) pe0 (.lst [])) pe0=some (.lst (aC [])):=zC
 generalize upd (upd H pl0 (.lst [])) pe0 (.lst [])=H1 at u1 hl0 he0 ⊢
 refine⟨fun σ' H' => ∃(FP pf pe:Addr)(uV:List V)(ms:List Nat)(Fg:Option V),H pf=none/\H pe=none/\aJ H H'/\H' pf=some (.lst (aC (bU c d st.os)))/\H' pe=some (.lst (aC ms))/\uI c d (nY c d st.os st.ks) ms/\H' FP=some (.tup uV)/\bF H' uV (nY c d st.os st.ks)/\σ'=[some (.ref pc),some (.ref ps),some (.int (k:Int)),some (.ref p),some (.ref t),some (.ref a),some (.ref po),some (.ref FP),some (.ref pf),some (.ref pe),Fg,none,none,none,none],?_,?_⟩
 ·refine⟨_,rfl,aF (aL.of (u1 _ _ y1)) rfl ⟨rfl,_,rfl,fV (fun cw=>?_) (fun cw=>?_)⟩⟩
  rotate_left
  ·have hs:tu d.way=true:=by
    cases hw:d.way with
    | stay=>rfl
    | to g=>rw[hw]at cw;exact absurd cw (by show ¬ (!decide (V.str ("to" : Str)=V.str "stay"))=false;decide +kernel)
    | back g=>rw[hw]at cw;exact absurd cw (by show ¬ (!decide (V.str ("back" : Str)=V.str "stay"))=false;decide +kernel)
   have el:bU c d st.os=[]:=if_pos hs
   have ek:nY c d st.os st.ks=st.ks:=if_pos hs
   rw[el,ek]
   exact⟨pk,pl0,pe0,kv,[],_,qAG,(zF qAG _).free qAH,u1,hl0,he0,(show uI c d st.ks [] from (if_pos hs).mpr rfl),u1 _ _ e4,e5.mono (aB.of u1),rfl⟩
  have hs:tu d.way=false:=by
   cases hw:d.way with
   | stay=>rw[hw]at cw;exact absurd cw (by show ¬ (!decide (V.str ("stay" : Str)=V.str "stay"))=true;decide +kernel)
   | to g=>rfl
   | back g=>rfl
  have hs':¬ tu d.way=true:=by rw[hs];decide
  have el:bU c d st.os=K8.jY (aD c.rs) (qJ c d) st.os:=if_neg hs'
  have ek:nY c d st.os st.ks=bL c.rs st.os (bU c d st.os) st.ks:=if_neg hs'
  have egv:d.way.gv = .int ((d.way.gl:Nat):Int):=by
   cases hw:d.way with
   | stay=>rw[hw]at hs;cases hs
   | to g=>rfl
   | back g=>rfl
  rw[egv]at y1
  refine⟨_,rfl,_,rfl,aF (aL.of (u1 _ _ y1)) rfl ⟨_,rfl,aF (aL.of (u1 _ _ y1)) rfl ⟨t,c.rs,d.room,d.way.gl,rfl,h4.mono (aB.of u1),ok.good,ok.r40,od.1,od.2.1,fun H2 s2=>?_⟩⟩⟩
  have s12:=u1.trans s2
  have vC:∀ u,qJ c d=some u->u < c.rs.length:=fun u hu=>by
   have:=vC hu
   have:=od.1
   lia
  refine⟨_,rfl,_,rfl,_,rfl,t,po,c.rs,qJ c d,st.os,rfl,h4.mono (aB.of s12),ok.good,ok.r40,vC,s12 _ _ e2,so.lt,so.Q4,so.inc,fun pf H3 s3 npf hpf=>?_⟩
  rw[<-el]at hpf
  have sX:=s12.trans s3
  have llt:∀ o∈bU c d st.os,o < c.rs.length:=fun o ho=>by
   rw[el]at ho
   have:=List.mem_reverse.mp ho
   exact so.lt o (mJ.mp this).1
  refine⟨_,rfl,_,rfl,_,rfl,_,rfl,t,po,pf,pk,c.rs,st.os,bU c d st.os,kv,st.ks,rfl,h4.mono (aB.of sX),ok.good,ok.r40,sX _ _ e2,so.lt,so.Q4,so.inc,hpf,llt,sX _ _ e4,e5.mono (aB.of sX),so.ks,fun FP uV H4 s4 qDU qDY=>?_⟩
  have Ia:=sX.trans s4
  refine⟨_,rfl,_,rfl,_,rfl,_,rfl,_,rfl,pc,FP,uV,nY c d st.os st.ks,c,k,d,rfl,hC.mono (aB.of Ia),hd,qDU,(by rw[ek];exact qDY),(by rw[ek,rP,so.ks];exact od.2.1),mp.2.1,fun pg H5 s5 npg hpg=>?_⟩
  have Em:=Ia.trans s5
  refine⟨t,pg,c.rs,qJ c d,jT d.way (nY c d st.os st.ks),rfl,h4.mono (aB.of Em),ok.good,ok.r40,vC,⟨hpg,mp.1,mp.2.1⟩,fun pe ms H6 s6 npe hpe hms=>?_⟩
  exact⟨FP,pf,pe,uV,ms,_,s12.free npf,Em.free npe,Em.trans s6,s6 _ _ (s5 _ _ (s4 _ _ hpf)),hpe,(if_neg hs').mpr hms,s6 _ _ (s5 _ _ qDU),(by rw[ek];exact qDY.mono (aB.of (s5.trans s6))),rfl⟩
 rintro σ' H2 aZ
 refine aK fun G_ g_=>?_
 obtain⟨FP,pf,pe,uV,ms,Fg,npf,npe,s2,h2f,h2e,hms,h2k,qHT,rfl⟩:=aZ
 obtain⟨nd,l40,mlt⟩:=mp.2.2 ms hms
 refine g_ ?_
 clear g_ G_
 have lm:ms.length<=40:=by
  rw[fU]at l40
  lia
 have ll:(bU c d st.os).length<=40:=by
  unfold bU
  split
  ·exact Nat.zero_le _
  ·exact Nat.le_trans (RD _ _ _) so.Q4
 have llt:∀ o∈bU c d st.os,o < c.rs.length:=fun o ho=>by
  unfold bU at ho
  split at ho
  ·cases ho
  have:=List.mem_reverse.mp ho
  exact so.lt o (mJ.mp this).1
 -- through
 refine⟨_,rfl,zI (by show 2<=1000;decide),fun p1 hp1=>?_⟩
 have v1:=zF hp1 (.tup [V.str ("through" : Str),V.int (k:Int)])
 have i1:upd H2 p1 (.tup [V.str ("through" : Str),V.int (k:Int)]) p1=some (.tup (En.thr k).row):=zC
 generalize upd H2 p1 (.tup [V.str ("through" : Str),V.int (k:Int)])=H3 at v1 i1 ⊢
 refine⟨_,rfl,aF (aL.of (v1 _ _ (s2 _ _ y1))) rfl ⟨zI (by show 2<=1000;decide),fun p2 hp2=>?_⟩⟩
 have v2:=zF hp2 (.tup [V.ref p1,XC])
 have i2:upd H3 p2 (.tup [V.ref p1,XC]) p2=some (.tup [V.ref p1,XC]):=zC
 generalize upd H3 p2 (.tup [V.ref p1,XC])=H4 at v2 i2 ⊢
 refine⟨zI (by show 1<=1000;decide),fun pth qHB=>?_⟩
 have v3:=zF qHB (.lst [V.ref p2])
 have i3:upd H4 pth (.lst [V.ref p2]) pth=some (.lst [V.ref p2]):=zC
 generalize upd H4 pth (.lst [V.ref p2])=H5 at v3 i3 ⊢
 have s5:=s2.trans (v1.trans (v2.trans v3))
 have at5:Al (qQ H5) [V.ref p2] [(En.thr k,d.dd)]:=.cons ⟨p2,p1,XC,rfl,v3 _ _ i2,v3 _ _ (v2 _ _ i1),y3.mono (aB.of s5)⟩ .nil
 -- the door's own mark
 refine⟨_,rfl,zI (by show 2<=1000;decide),fun q1 hq1=>?_⟩
 have w1:=zF hq1 (.tup [V.str ("door" : Str),V.int (k:Int)])
 have j1:upd H5 q1 (.tup [V.str ("door" : Str),V.int (k:Int)]) q1=some (.tup (En.door k).row):=zC
 generalize upd H5 q1 (.tup [V.str ("door" : Str),V.int (k:Int)])=H6 at w1 j1 ⊢
 refine⟨Nat.zero_le _,fun q2 hq2=>?_⟩
 have w2:=zF hq2 (.tup [])
 have j2:upd H6 q2 (.tup []) q2=some (.tup []):=zC
 generalize upd H6 q2 (.tup [])=H7 at w2 j2 ⊢
 refine⟨zI (by show 2<=1000;decide),fun q3 hq3=>?_⟩
 have w3:=zF hq3 (.tup [V.ref q1,V.ref q2])
 have j3:upd H7 q3 (.tup [V.ref q1,V.ref q2]) q3=some (.tup [V.ref q1,V.ref q2]):=zC
 generalize upd H7 q3 (.tup [V.ref q1,V.ref q2])=H8 at w3 j3 ⊢
 refine⟨zI (by show 1<=1000;decide),fun q4 hq4=>?_⟩
 have w4:=zF hq4 (.lst [V.ref q3])
 have j4:upd H8 q4 (.lst [V.ref q3]) q4=some (.lst [V.ref q3]):=zC
 generalize upd H8 q4 (.lst [V.ref q3])=H9 at w4 j4 ⊢
 have w59:=w1.trans (w2.trans (w3.trans w4))
 have s9:=s5.trans w59
 have at9:Al (qQ H9) [V.ref q3] [(En.door k,([]:List Dd))]:=.cons ⟨q3,q1,V.ref q2,rfl,w4 _ _ j3,w4 _ _ (w3 _ _ (w2 _ _ j1)),q2,[],rfl,w4 _ _ (w3 _ _ j2),.nil⟩ .nil
 have f9:aJ H2 H9:=v1.trans (v2.trans (v3.trans w59))
 refine⟨_,rfl,_,rfl,t,pf,c.rs,c.di,c.dO,bU c d st.os,rfl,h4.mono (aB.of s9),h5.mono (aB.of s9),f9 _ _ h2f,llt,by lia,fun pso Hq HF Eo npso qHG hAo=>?_⟩
 have lo:Hq.length=(bU c d st.os).length:=by
  have:=hAo.length
  rw[bZ]at this
  exact this
 refine⟨q4,pso,_,_,rfl,rfl,Eo _ _ j4,qHG,(by rw[sizeLine_eq,lo];show 1+_<=_;lia),fun c1 hc1=>?_⟩
 have z1:=zF hc1 (.lst ([V.ref q3]++Hq))
 have k1:upd HF c1 (.lst ([V.ref q3]++Hq)) c1=some (.lst ([V.ref q3]++Hq)):=zC
 generalize upd HF c1 (.lst ([V.ref q3]++Hq))=Xk at z1 k1 ⊢
 have f11:aJ H5 Xk:=w59.trans (Eo.trans z1)
 refine⟨_,rfl,c1,pth,_,_,rfl,rfl,k1,f11 _ _ i3,(by rw[sizeLine_eq,fU,lo];show 1+_+1<=_;lia),fun c2 hc2=>?_⟩
 have z2:=zF hc2 (.lst ([V.ref q3]++Hq++[V.ref p2]))
 have k2:upd Xk c2 (.lst ([V.ref q3]++Hq++[V.ref p2])) c2=some (.lst ([V.ref q3]++Hq++[V.ref p2])):=zC
 generalize upd Xk c2 (.lst ([V.ref q3]++Hq++[V.ref p2]))=H12 at z2 k2 ⊢
 have s12:=s9.trans (Eo.trans (z1.trans z2))
 have f12:aJ H2 H12:=f9.trans (Eo.trans (z1.trans z2))
 refine⟨_,rfl,_,rfl,t,pe,c.rs,c.di,c.dO,ms,rfl,h4.mono (aB.of s12),h5.mono (aB.of s12),f12 _ _ h2e,mlt,by lia,fun mK Vb H13 sX ZX qAD vD=>?_⟩
 have li:Vb.length=ms.length:=by
  have:=vD.length
  rw[bZ]at this
  exact this
 refine⟨c2,mK,_,_,rfl,rfl,sX _ _ k2,qAD,(by rw[sizeLine_eq,fU,fU,lo,li];show 1+_+1+_<=_;lia),fun c3 hc3=>?_⟩
 have z3:=zF hc3 (.lst ([V.ref q3]++Hq++[V.ref p2]++Vb))
 have k3:upd H13 c3 (.lst ([V.ref q3]++Hq++[V.ref p2]++Vb)) c3=some (.lst ([V.ref q3]++Hq++[V.ref p2]++Vb)):=zC
 generalize upd H13 c3 (.lst ([V.ref q3]++Hq++[V.ref p2]++Vb))=Yg at z3 k3 ⊢
 have Ia:=s12.trans (sX.trans z3)
 have f14:aJ H2 Yg:=f12.trans (sX.trans z3)
 have qIB:Al (qQ Yg) ([V.ref q3]++Hq++[V.ref p2]++Vb) (iB c k d st.os ms):=by
  have a1:Al (qQ Yg) [V.ref q3] [(En.door k,([]:List Dd))]:=at9.mono fun _ _ z=>z.mono (aB.of (Eo.trans (z1.trans (z2.trans (sX.trans z3)))))
  have a2:Al (qQ Yg) Hq ((bU c d st.os).map fun r=>(En.out r,c.dO r)):=hAo.mono fun _ _ z=>z.mono (aB.of (z1.trans (z2.trans (sX.trans z3))))
  have a3:Al (qQ Yg) [V.ref p2] [(En.thr k,d.dd)]:=at5.mono fun _ _ z=>z.mono (aB.of (f11.trans (z2.trans (sX.trans z3))))
  have a4:Al (qQ Yg) Vb (ms.map fun r=>(En.inn r,c.di r)):=vD.mono fun _ _ z=>z.mono (aB.of z3)
  exact Al.app (Al.app (Al.app a1 a2) a3) a4
 refine⟨_,rfl,_,rfl,aF (aL.of (Ia _ _ e1)) rfl ⟨_,rfl,pc,pb,_,_,_,_,_,_,bv,c.sz,rfl,Ia _ _ h1,Ia _ _ h2,h3.mono (fun _ _ z=>z.mono (aB.of Ia)),(by have:=ok.b6;lia),fun tz H15 Em htz=>?_⟩⟩
 have Vo:=Ia.trans Em
 have qE3:=LL.same hL Vo
 have nc3:c3 ∉ fp:=fun z=>by
  have e0:=(s12.trans sX).free hc3
  exact LL.new hL e0 z
 have lens:(iB c k d st.os ms).length<=110:=by
  unfold iB
  rw[fU,fU,fU,bZ,bZ]
  show 1+_+1+_<=110
  lia
 have RM:∀ s∈iB c k d st.os ms,(∀ d∈s.2,d.ok st.bx.length)/\s.2.length<=8:=fun s hs=>by
  rw[so.bx]
  unfold iB at hs
  rcases gW.mp hs with hs | hs
  ·rcases gW.mp hs with hs | hs
   ·rcases gW.mp hs with hs | hs
    ·rw[dJ.mp hs]
     exact⟨(fun d hd=>by cases hd),Nat.zero_le _⟩
    ·refine aK fun G_ g_=>?_
     obtain⟨r,_,rfl⟩:=iU.mp hs
     refine g_ ?_
     clear g_ G_
     exact ok.outs r
   ·rw[dJ.mp hs]
    exact od.2.2
  ·refine aK fun G_ g_=>?_
   obtain⟨r,_,rfl⟩:=iU.mp hs
   refine g_ ?_
   clear g_ G_
   exact ok.ins r
 refine⟨_,rfl,c3,V6,tz,p,_,_,st.bx,c.sz,st.l,fp,c.lb,rfl,Em _ _ k3,nc3,qIB.mono (fun _ _ z=>z.mono (aB.of Em)),Vo _ _ e3,htz,qE3,RM,lens,so.bx,(by rw[so.bx];exact ok.b6),ok.pos,so.l,ok.V9,fun tt tb' pr rv fp' Ye qI6 Vd htt htb hpr J8 ZZ hes=>?_⟩
 have k16:aB H15 Ye:=bR.keep Vd qE3
 have stA:bR H Ye fp fp':=bR.trans (bR.same fp Vo) Vd
 have kA:aB H Ye:=bR.keep stA hL
 have qGO:Ye pf=some (.lst (aC (bU c d st.os))):=Vd.rest _ _ (Em _ _ (f14 _ _ h2f)) (LL.new hL npf)
 have qGP:Ye pe=some (.lst (aC ms)):=Vd.rest _ _ (Em _ _ (f14 _ _ h2e)) (LL.new hL npe)
 have qGN:Ye FP=some (.tup uV):=k16 _ _ (Em _ _ (f14 _ _ h2k))
 have qH2:=qHT.mono (aB.trans (aB.of (f14.trans Em)) k16)
 refine⟨_,rfl,po,rfl,⟨_,aL.of (kA _ _ e2)⟩,?_⟩
 refine jx (K:=K) (a:=po) (xs:=aC st.os) (fun i acc H'=>H'=Ye/\acc=aC ((st.os.take i).filter fun o => !inV (.int (o:Int)) (aC (bU c d st.os)))) ⟨rfl,rfl⟩ (fun i acc H' z=>by rw[z.1];exact aL.of (kA _ _ e2)) ?_ ?_
 ·rintro i x acc H' hx ⟨rfl,rfl⟩
  obtain⟨hi,rfl⟩:=yR hx
  have hk:=fu hi
  generalize st.os[i]=o at hk
  refine⟨_,rfl,_,rfl,fQ rfl (.inl (aQ.of qGO)) ⟨rfl,zm _,_,rfl,fV (fun z=>?_) (fun z=>?_)⟩⟩
  ·refine⟨_,rfl,?_,rfl,?_⟩
   ·rw[zU,sizeLine_eq]
    have:=qe (fun o:Nat => !inV (.int (o:Int)) (aC (bU c d st.os))) (st.os.take i)
    rw[gG]at this
    have:=so.Q4
    lia
   ·have z2:(!inV (.int (o:Int)) (aC (bU c d st.os)))=true:=z
    rw[gQ hk,if_pos z2]
    unfold aC
    rw[kI]
    rfl
  ·refine⟨rfl,?_⟩
   have z2:(!inV (.int (o:Int)) (aC (bU c d st.os)))=false:=z
   have z':¬ (!inV (.int (o:Int)) (aC (bU c d st.os)))=true:=fun y=>by
    rw[z2]at y
    cases y
   rw[gQ hk,if_neg z',gF]
 rintro acc H17 ⟨rfl,qFC⟩ FN qHD
 have ea:(st.os.take (aC st.os).length).filter (fun o:Nat => !inV (.int (o:Int)) (aC (bU c d st.os)))=cg c d st.os:=by
  rw[zU,uw (bT _)]
  rfl
 rw[ea]at qFC
 subst qFC
 have u17:=zF qHD (.lst (aC (cg c d st.os)))
 have h17:upd H17 FN (.lst (aC (cg c d st.os))) FN=some (.lst (aC (cg c d st.os))):=zC
 generalize upd H17 FN (.lst (aC (cg c d st.os)))=H18 at u17 h17 ⊢
 rw[fU]at l40
 refine⟨_,rfl,_,rfl,FN,pe,_,_,rfl,rfl,h17,u17 _ _ qGP,(by rw[zU,zU,sizeLine_eq];lia),fun W5 qDV=>?_⟩
 have u18:=zF qDV (.lst (aC (cg c d st.os)++aC ms))
 have h18:upd H18 W5 (.lst (aC (cg c d st.os)++aC ms)) W5=some (.lst ((cg c d st.os++ms).map fun j:Nat=>V.int (j:Int))):=by
  rw[zC]
  unfold aC
  rw[kI]
 generalize upd H18 W5 (.lst (aC (cg c d st.os)++aC ms))=H19 at u18 h18 ⊢
 refine⟨W5,(cg c d st.os++ms).map fun j:Nat=>(j:Int),rfl,.inl (aQ.of (by rw[h18,cW])),(by rw[bZ,fU];lia),fun psr rs' qHF perm QQ=>?_⟩
 refine aK fun G_ g_=>?_
 obtain⟨os',rfl,rise,hpm⟩:=mZ perm QQ nd
 refine g_ ?_
 clear g_ G_
 have u19:=zF qHF (.lst ((os'.map fun j:Nat=>(j:Int)).map V.int))
 have h19:upd H19 psr (.lst ((os'.map fun j:Nat=>(j:Int)).map V.int)) psr=some (.lst ((os'.map fun j:Nat=>(j:Int)).map V.int)):=zC
 generalize upd H19 psr (.lst ((os'.map fun j:Nat=>(j:Int)).map V.int))=H20 at u19 h19 ⊢
 refine⟨psr,_,rfl,.inl ⟨aQ.of h19,fun FJ qAC=>?_⟩⟩
 have u20:=zF qAC (.tup ((os'.map fun j:Nat=>(j:Int)).map V.int))
 have h20:upd H20 FJ (.tup ((os'.map fun j:Nat=>(j:Int)).map V.int)) FJ=some (.tup (aC os')):=by
  rw[zC,<-cW]
  rfl
 generalize upd H20 FJ (.tup ((os'.map fun j:Nat=>(j:Int)).map V.int))=H21 at u20 h20 ⊢
 have r21:aJ H17 H21:=u17.trans (u18.trans (u19.trans u20))
 refine⟨_,rfl,aF (aL.of (r21 _ _ htt)) rfl ⟨_,rfl,zI (by show 3<=1000;decide),fun pss qHE=>?_⟩⟩
 have u21:=zF qHE (.tup [V.ref FJ,V.ref tb',V.ref FP])
 have h21:upd H21 pss (.tup [V.ref FJ,V.ref tb',V.ref FP]) pss=some (.tup [V.ref FJ,V.ref tb',V.ref FP]):=zC
 generalize upd H21 pss (.tup [V.ref FJ,V.ref tb',V.ref FP])=H22 at u21 h21 ⊢
 have r22:=r21.trans u21
 refine⟨_,rfl,aF (aL.of (r22 _ _ htt)) rfl ⟨zI (by show 2<=1000;decide),fun pot qHJ=>?_⟩⟩
 have u22:=zF qHJ (.tup [V.ref pss,V.ref pr])
 have r23:=r22.trans u22
 have ksl:(nY c d st.os st.ks).length=c.rs.length:=by
  unfold nY
  split
  ·exact so.ks
  ·rw[rP]
   exact so.ks
 have les:=vN (sz:=c.sz) (m:=c.lb) (bx:=st.bx) (l:=st.l) fun y hy=>(RM y hy).2
 have ko:=hpm.length_eq
 rw[fU]at ko
 refine q pot pss pr rv ⟨os',(cP c.sz c.lb (iB c k d st.os ms) st.bx st.l).1,nY c d st.os st.ks,(cP c.sz c.lb (iB c k d st.os ms) st.bx st.l).2.1⟩ (cP c.sz c.lb (iB c k d st.os ms) st.bx st.l).2.2 fp' _ ⟨d,ms,hd,hms,hpm,rise,rfl,rfl⟩ (LL.same qI6 r23) (bR.trans stA (bR.same fp' r23)) zC
  ⟨FJ,tb',FP,uV,u22 _ _ h21,(u21.trans u22) _ _ h20,r23 _ _ htb,r23 _ _ qGN,qH2.mono (aB.of r23)⟩ ⟨rise,fun o ho=>?_,by show os'.length<=40;lia,by show (cP _ _ _ _ _).1.length=_;rw[vO];exact so.bx,ksl,Ax so.l⟩ (r23 _ _ hpr) (Vo.free J8) ZZ (hes.mono fun _ _ z=>z.mono (aB.of r23)) (by lia)
 rcases gW.mp (hpm.mem_iff.mp ho) with z | z
 ·exact so.lt o (mJ.mp z).1
 ·exact mlt o z
end
end Ru
namespace Ru
open PySem L2 qR sS Dh Uk KY jc
open HS (Al Dg Xq nj qI gZ dI inter)
noncomputable def Dx.dg(d:Dx):Dg:=⟨(d.room:Int),d.ev,d.g⟩
noncomputable def Mg(c:dZ)(s:S4)(ev:Int):List Nat:=nj (qI c.od) (aD c.rs) s.os s.bx (c.ds.map Dx.dg) ev
theorem Td(op bx:List Int)(room ev:Int):∀(ds:List Dg)(b k:Nat),HS.fst op bx room ev ds b=some k->k < b+ds.length
 | [],b,k,h=>by cases h
 | d :: ds,b,k,h=>by
  have h:(if HS.hit op bx room ev d=true then some b else HS.fst op bx room ev ds (b+1))=some k:=h
  rw[eV]
  split at h
  ·have:=kJ h
   lia
  ·have:=Td op bx room ev ds (b+1) k h
   lia
theorem qAU{c:dZ}{s:S4}{ev:Int}{k:Nat}(h:k∈Mg c s ev):k < c.ds.length:=by
 unfold Mg nj at h
 obtain⟨r,hr,rfl⟩:=iU.mp h
 have h1:=(mJ.mp (mJ.mp hr).1).2
 obtain⟨k,hk⟩:=Option.isSome_iff_exists.mp h1
 rw[hk]
 show k < _
 unfold dI at hk
 split at hk
 ·have:=Td _ _ _ _ _ _ _ hk
  rw[bZ]at this
  lia
 ·cases hk
theorem XR(c:dZ)(s:S4)(ev:Int):(Mg c s ev).length<=s.os.length:=by
 unfold Mg nj gZ
 rw[bZ]
 exact Nat.le_trans (qe _ _) (qe _ _)
structure JOk(c:dZ)(J:List Nat->List (List Nat)->Prop):Prop where
 may:∀ os ks,J os ks->∀ d∈c.ds,Mp c d os ks
 pass:∀(k:Nat)(s:S4)(es:List En)(s':S4),J s.os s.ks->HB c k s es s'->J s'.os s'.ks
inductive je(c:dZ)(s:S4):List Nat->List Nat->List En->S4->Prop where
 | nil:je c s [] [] [] s
 | skip {ks lf:List Nat} {es:List En} {s1:S4} {k:Nat} {d:Dx}:je c s ks lf es s1->c.ds[k]? = some d->inV (.int (d.room:Int)) (aC lf)=true->je c s (ks++[k]) lf es s1
 | go {ks lf:List Nat} {es e1:List En} {s1 s2:S4} {k:Nat} {d:Dx}:je c s ks lf es s1->c.ds[k]? = some d->inV (.int (d.room:Int)) (aC lf)=false->HB c k s1 e1 s2->je c s (ks++[k]) (lf++outs e1) (es++e1) s2
noncomputable def Gy(c:dZ)(ev:Int)(s:S4)(es:List En)(s':S4):Prop:=∃(lf:List Nat)(e2:List En),je c s (Mg c s ev) lf e2 s'/\es = .take ev :: e2
structure All(c:dZ)(J:List Nat->List (List Nat)->Prop)(n:Nat):Prop where
 ok:HR c
 j:JOk c J
 g:∀ d∈c.ds,d.g.ok c.sz.length/\d.g.ht<=n
noncomputable def Ht(C:Addr)(n:Nat):Sp:=fun vs H Q _ => ∃(pc ps p:Addr)(c:dZ)(ev:Int)(s:S4)(fp:List Addr)(J:List Nat->List (List Nat)->Prop),vs=[.ref pc,.ref ps,.int ev,.ref p]/\uv H pc c/\All c J n/\dH H ps s/\jO c s/\J s.os s.ks/\LL C H p fp c.lb s.l ∧
 ∀(t ps' pr:Addr)(rv:List V)(s':S4)(es:List En)(fp':List Addr)(H':Hp),Gy c ev s es s'->J s'.os s'.ks->LL C H' p fp' c.lb s'.l->bR H H' fp fp'->H' t=some (.tup [.ref ps',.ref pr])->dH H' ps' s'->jO c s'->H' pr=some (.lst rv)->H pr=none->pr ∉ fp'->Al (fj H') rv es->es.length<=40001->Q (.ref t) H'
theorem dgs{H:Hp}{dv:List V}{ds:List Dx}(x:Al (xX H) dv ds):Al (Xq H) dv (ds.map Dx.dg):=by
 induction x with
 | nil=>exact .nil
 | cons h _ ih=>
  obtain⟨a,gv,XC,h1,h2,h3,h4⟩:=h
  exact .cons ⟨a,gv,_,_,_,h1,h2,h3⟩ ih
theorem W6(es:List En):(outs es).length<=es.length:=List.length_filterMap_le _ _
section
variable{P:Program}{w:World}{K:bO}{mg:Str->Option Value}{base:Heap}{C:Addr}
theorem km:aH ["chart","stand","event","letters","now","record","left","door","told"] ["chart","stand","event","letters"] (aA Bb):=fO
theorem WN{n m:Nat}{f g1 g2 g3:Addr}{fd d1 d2 d3:FuncData}(F:cz K "turn" "turn" Bb f fd)
  (Ut:aG P w K mg base aY m g1 d1 ["chart","stand","event"] (HS.Eg n)) (Ui:Binds K d1 ["chart","stand","event"] []) (Sx:KI K g1) (S9:mg "chosen" = some (.ref g1))
  (Us:aG P w K mg base aY m g2 d2 ["chart","stand","door","letters"] (Ea C)) (Uh:Binds K d2 ["chart","stand","door","letters"] []) (Sw:KI K g2) (S8:mg "passed" = some (.ref g2))
  (Di:aG P w K mg base aY m g3 d3 ["record"] QZ) (DP:Binds K d3 ["record"] []) (CV:KI K g3) (Bw:mg "rooms_left" = some (.ref g3)) :
  aG P w K mg base aY (m+1) f fd ["chart","stand","event","letters"] (Ht C n):=by
 refine F.ok km (fun vs H Q E h=>?_) (fun cdv A outer s H vs Q E hr h=>?_)
 ·refine aK fun G_ g_=>?_
  obtain⟨pc,ps,p,c,ev,s,fp,J,rfl,_⟩:=h
  refine g_ ?_
  clear g_ G_
  rfl
 refine aK fun G_ g_=>?_
 obtain⟨pc,ps,p,c,ev,st,fp,J,rfl,hC,al,hS,so,js,hL,q⟩:=h
 refine g_ ?_
 clear g_ G_
 refine⟨_,(zE (zK (i:=4) km.nd rfl (Or.inl rfl) (pv 1))
  (zE (zK (i:=5) km.nd rfl (Or.inl rfl) (yK (zA (zW (zA zP (zA (pv 2) zD))) zD)))
  (zE (zK (i:=6) km.nd rfl (Or.inl rfl) (yK zD))
  (zZ (cj PassesOwn.never rfl (yM (zJ Ut hr rfl S9 Sx Ui .nil yE (zA (pv 0) (zA (pv 1) (zA (pv 2) zD))))) (yJ (i:=7) km.nd rfl (Or.inl rfl))
  (zG (yD (zL lG (yB zH (yB zH (yB zH (pv 0) zB (fun _ _=>rfl)) (pv 7) (fun _ _=>rfl)) zB (fun _ _=>rfl)) (pv 6) rfl)
  (zE (zK (i:=8) km.nd rfl (Or.inl rfl) (zJ Us hr rfl S8 Sw Uh .nil yE (zA (pv 0) (zA (pv 4) (zA (pv 7) (zA (pv 3) zD))))))
  (zE (zK (i:=4) km.nd rfl (Or.inl rfl) (yB zH (pv 8) zB (fun _ _=>rfl)))
  (zE (yI (dz jM PySem.F.slot_list_extend PySem.F.type_list_extend iQ (pv 5) (zA (yB zH (pv 8) zB (fun _ _=>rfl)) zD)))
  (zG (yI (dz jM PySem.F.slot_list_extend PySem.F.type_list_extend iQ (pv 6) (zA (zJ Di hr rfl Bw CV DP .nil yE (zA (yB zH (pv 8) zB (fun _ _=>rfl)) zD)) zD)))))))
  zT)))
  (zG (zO (zW (zA (pv 4) (zA (pv 5) zD))))))))),?_⟩
 refine⟨_,rfl,_,rfl,zI (by show 2<=1000;decide),fun p1 hp1=>⟨zI (by show 1<=1000;decide),fun pr hpr=>?_⟩⟩
 have u1:=zF hp1 (.tup [V.str ("take" : Str),V.int ev])
 have i1:upd H p1 (.tup [V.str ("take" : Str),V.int ev]) p1=some (.tup (En.take ev).row):=zC
 generalize upd H p1 (.tup [V.str ("take" : Str),V.int ev])=H1 at u1 i1 hpr ⊢
 have J8:H pr=none:=u1.free hpr
 have u2:=zF hpr (.lst [V.ref p1])
 have i2:upd H1 pr (.lst [V.ref p1]) pr=some (.lst [V.ref p1]):=zC
 generalize upd H1 pr (.lst [V.ref p1])=H2 at u2 i2 ⊢
 refine⟨Nat.zero_le _,fun pl hpl=>?_⟩
 have npl:H pl=none:=(u1.trans u2).free hpl
 have qCY:pr ≠ pl:=zM i2 hpl
 have u3:=zF hpl (.lst [])
 have i3:upd H2 pl (.lst []) pl=some (.lst (aC [])):=zC
 generalize upd H2 pl (.lst [])=H3 at u3 i3 ⊢
 have s3:=u1.trans (u2.trans u3)
 refine aK fun G_ g_=>?_
 obtain⟨pb,t,pd,x4,bv,dv,h1,h2,h3,h4,h5,h6,h7⟩:=id hC
 obtain⟨po,V6,pk,kv,e1,e2,e3,e4,e5⟩:=id hS
 refine g_ ?_
 clear g_ G_
 refine⟨fun σ' Hi => ∃(mK:Addr)(cM:List Addr)(rv:List V)(lf:List Nat)(es:List En)(si:S4)(o7 o8:Option V),σ'=[some (.ref pc),some (.ref ps),some (.int ev),some (.ref p),some (.ref mK),some (.ref pr),some (.ref pl),o7,o8]/\bR H Hi fp cM/\LL C Hi p cM c.lb si.l/\dH Hi mK si/\jO c si/\J si.os si.ks/\je c st (Mg c st ev) lf es si/\Hi pr=some (.lst rv)/\pr ∉ cM/\Al (fj Hi) rv (.take ev :: es)/\es.length<=40000,?_,?_⟩
 ·refine⟨_,rfl,_,rfl,_,rfl,pc,ps,t,pd,po,V6,c.od,st.os,st.bx,c.rs,c.ds.map Dx.dg,dv,_,_,_,_,_,ev,rfl,s3 _ _ h1,h4.mono (aB.of s3),al.ok.good,al.ok.r40,s3 _ _ h6,dgs (h7.mono fun _ _ z=>z.mono (aB.of s3)),s3 _ _ e1,s3 _ _ e2,so.lt,so.inc,s3 _ _ e3,fun d hd=>?_,(by rw[bZ];exact al.ok.d63),fun pq H4 s4 Za hpq=>?_⟩
  ·refine aK fun G_ g_=>?_
   obtain⟨x,hx,rfl⟩:=iU.mp hd
   refine g_ ?_
   clear g_ G_
   have:=al.g x hx
   rw[so.bx]
   exact this
  have La:=s3.trans s4
  have qGU:pq ∉ fp:=LL.new hL (s3.free Za)
  have lch:=XR c st ev
  have Q4:=so.Q4
  refine⟨pq,rfl,⟨_,aQ.of hpq⟩,?_⟩
  refine rW (K:=K) (a:=pq) (xs:=aC (Mg c st ev)) (fun i σ' Hi => ∃(mK:Addr)(cM:List Addr)(rv:List V)(lf:List Nat)(es:List En)(si:S4)(o7 o8:Option V),σ'=[some (.ref pc),some (.ref ps),some (.int ev),some (.ref p),some (.ref mK),some (.ref pr),some (.ref pl),o7,o8]/\bR H Hi fp cM/\Hi pq=some (.lst (aC (Mg c st ev)))/\pq ∉ cM/\LL C Hi p cM c.lb si.l/\dH Hi mK si/\jO c si/\J si.os si.ks/\je c st ((Mg c st ev).take i) lf es si/\Hi pr=some (.lst rv)/\pr ∉ cM/\Al (fj Hi) rv (.take ev :: es)/\es.length<=1000 * i/\Hi pl=some (.lst (aC lf))/\pl ∉ cM/\lf.length<=1000 * i)
   ⟨ps,fp,_,[],[],st,_,_,rfl,bR.same fp La,hpq,qGU,LL.same hL La,hS.mono (aB.of La),so,js,.nil,s4 _ _ (u3 _ _ i2),LL.new hL J8,.cons ⟨p1,rfl,s4 _ _ (u3 _ _ (u2 _ _ i1))⟩ .nil,bT _,s4 _ _ i3,LL.new hL npl,bT _⟩ (fun i σ' Hi _ ⟨_,_,_,_,_,_,_,_,_,_,z,_⟩=>aQ.of z) ?_ ?_
  ·rintro i x σ' Hi hx aZ
   refine aK fun G_ g_=>?_
   obtain⟨mK,cM,rv,lf,es,si,o7,o8,rfl,V4,hqi,nqi,hLi,hSi,Ds,ji,DR,Hf,Nq,vD,lei,hli,nli,llf⟩:=aZ
   obtain⟨hi,rfl⟩:=yR hx
   refine g_ ?_
   clear g_ G_
   have hk:=fu hi
   have hkl:=qAU (kO hi)
   have Dv:(Mg c st ev).take (i+1)=(Mg c st ev).take i++[(Mg c st ev)[i]]:=by
    rw[jN,hk]
    rfl
   generalize (Mg c st ev)[i]=k at Dv hkl
   have hd:=fu hkl
   have hdm:=kO hkl
   generalize c.ds[k]=d at hd hdm
   have kt:=bR.keep V4 hL
   refine aK fun G_ g_=>?_
   obtain⟨v,hv,a,gv,XC,rfl,y1,y2,y3⟩:=h7.get hd
   refine g_ ?_
   clear g_ G_
   refine⟨_,rfl,aF (aL.of (kt _ _ h1)) rfl ⟨_,rfl,aF (aL.of (kt _ _ h6)) (yQ hv) (aF (aL.of (kt _ _ y1)) rfl ⟨_,rfl,fQ rfl (.inl (aQ.of hli)) ⟨rfl,zm _,_,rfl,fV (fun z=>?_) (fun z=>?_)⟩⟩)⟩⟩
   ·have z2:inV (.int (d.room:Int)) (aC lf)=false:=by
     have:(!inV (.int (d.room:Int)) (aC lf))=true:=z
     simpa using this
    refine⟨_,rfl,_,rfl,_,rfl,_,rfl,pc,mK,p,c,k,_,si,cM,d,rfl,rfl,hC.mono kt,al.ok,hSi,Ds,hd,al.j.may _ _ ji d hdm,hLi,fun tt ps2 Q3 uf s2 es2 xJ H5 PR hL5 xj htt hS5 so5 qDT J7 ZZ YL le2=>?_⟩
    have k5:=bR.keep xj hLi
    have hr5:=bR.apart xj Hf Nq
    have hl5:=bR.apart xj hli nli
    have hq5:=bR.apart xj hqi nqi
    have qGF:=bR.trans V4 xj
    have qGX:Q3 ≠ pr:=fun z=>by rw[z,Hf]at J7;cases J7
    have nell:Q3 ≠ pl:=fun z=>by rw[z,hli]at J7;cases J7
    have qGY:pq ≠ pr:=fun z=>by
     have a1:=La pr
     rw[<-z]at J8
     have:=s3.free Za
     exact absurd (s4 _ _ (u3 _ _ i2)) (by
      rw[<-z]
      intro y
      have n3:H3 pq=none:=Za
      rw[z,u3 _ _ i2]at n3
      cases n3)
    have qGZ:pq ≠ pl:=fun z=>by
     have n3:H3 pq=none:=Za
     rw[z,i3]at n3
     cases n3
    have lA:=vD.length
    have lA2:=YL.length
    rw[eV]at lA
    refine⟨_,rfl,aF (aL.of htt) rfl ?_⟩
    refine⟨_,rfl,.inl ⟨rfl,_,aQ.of hr5.1⟩,_,rfl,aF (aL.of htt) rfl ⟨pr,Q3,_,_,rfl,rfl,hr5.1,qDT,(by rw[sizeLine_eq];lia),?_⟩⟩
    have k6:=aB.lst hr5.1 (.lst (rv++uf))
    have Mw:bR H (upd H5 pr (.lst (rv++uf))) fp xJ:=bR.upd qGF J8 _
    have hL6:=LL.upd hL5 hr5.2 (.lst (rv++uf))
    have r6:upd H5 pr (.lst (rv++uf)) pr=some (.lst (rv++uf)):=zC
    have r6b:upd H5 pr (.lst (rv++uf)) Q3=some (.lst uf):=by
     rw[zQ qGX]
     exact qDT
    have r6l:upd H5 pr (.lst (rv++uf)) pl=some (.lst (aC lf)):=by
     rw[zQ qCY.symm]
     exact hl5.1
    have r6q:upd H5 pr (.lst (rv++uf)) pq=some (.lst (aC (Mg c st ev))):=by
     rw[zQ qGY]
     exact hq5.1
    generalize upd H5 pr (.lst (rv++uf))=H6 at k6 Mw hL6 r6 r6b r6l r6q ⊢
    refine⟨_,rfl,.inl ⟨rfl,_,aQ.of r6l⟩,_,rfl,aF (aL.of (k6 _ _ htt)) rfl ⟨Q3,uf,es2,rfl,r6b,YL.mono (fun _ _ z=>z.mono k6),le2,fun po7 H7 s7 npo7 qHK=>?_⟩⟩
    have lo:=W6 es2
    refine⟨pl,po7,_,_,rfl,rfl,s7 _ _ r6l,qHK,(by rw[zU,zU,sizeLine_eq];lia),?_⟩
    have k8:=aB.lst (s7 _ _ r6l) (.lst (aC lf++aC (outs es2)))
    have GZ:aB H5 (upd H7 pl (.lst (aC lf++aC (outs es2)))):=k6.trans ((aB.of s7).trans k8)
    refine⟨ps2,xJ,rv++uf,lf++outs es2,es++es2,s2,_,_,rfl,bR.upd (bR.trans Mw (bR.same xJ s7)) npl _,?_,hq5.2,LL.upd (LL.same hL6 s7) hl5.2 _,hS5.mono GZ,so5,al.j.pass k si es2 s2 ji PR,?_,?_,hr5.2,Al.app (vD.mono fun _ _ z=>z.mono (k5.trans GZ)) (YL.mono fun _ _ z=>z.mono GZ),by rw[fU];lia,?_,hl5.2,by rw[fU];lia⟩
    ·rw[zQ qGZ]
     exact s7 _ _ r6q
    ·rw[Dv]
     exact .go DR hd z2 PR
    ·rw[zQ qCY]
     exact s7 _ _ r6
    ·rw[zC]
     unfold aC
     rw[kI]
   ·have z2:inV (.int (d.room:Int)) (aC lf)=true:=by
     have:(!inV (.int (d.room:Int)) (aC lf))=false:=z
     simpa using this
    refine⟨mK,cM,rv,lf,es,si,_,_,rfl,V4,hqi,nqi,hLi,hSi,Ds,ji,?_,Hf,Nq,vD,by lia,hli,nli,by lia⟩
    rw[Dv]
    exact .skip DR hd z2
  ·rintro σ' Hi aZ
   refine aK fun G_ g_=>?_
   obtain⟨mK,cM,rv,lf,es,si,o7,o8,z1,z2,_,_,z3,z4,z5,z6,z7,z8,z9,z10,z11,_⟩:=aZ
   refine g_ ?_
   clear g_ G_
   rw[zU]at z7 z11
   rw[List.take_length]at z7
   exact⟨mK,cM,rv,lf,es,si,o7,o8,z1,z2,z3,z4,z5,z6,z7,z8,z9,z10,by lia⟩
 rintro σ' Hi aZ
 refine aK fun G_ g_=>?_
 obtain⟨mK,cM,rv,lf,es,si,o7,o8,rfl,V4,hLi,hSi,Ds,ji,DR,Hf,Nq,vD,lei⟩:=aZ
 refine g_ ?_
 clear g_ G_
 refine⟨_,rfl,_,rfl,zI (by show 2<=1000;decide),fun tt htt=>?_⟩
 have u9:=zF htt (.tup [V.ref mK,V.ref pr])
 exact q tt mK pr rv si _ cM _ ⟨lf,es,DR,rfl⟩ ji (LL.same hLi u9) (bR.trans V4 (bR.same cM u9)) zC (hSi.mono (aB.of u9)) Ds (u9 _ _ Hf) J8 Nq (vD.mono fun _ _ z=>z.mono (aB.of u9)) (by rw[eV];lia)
end
end Ru
namespace Ru
open PySem L2 qR sS Dh Uk KY jc
open HS (Al)
structure Jw(c:dZ)(os:List Nat)(ks:List (List Nat)):Prop where
 inc:os.Pairwise (· < ·)
 lt:∀ o∈os,o < c.rs.length
 len:ks.length=c.rs.length
 row:∀ r∈ks,(∀ g∈r,g < c.rs.length)/\r.length<=40
theorem O5{rs:List Rm}{os:List Nat}{r g:Nat}(h:g∈jr rs os r):g∈os:=by
 unfold jr fL at h
 split at h
 ·exact (mJ.mp (List.mem_of_mem_take h)).1
 ·exact (mJ.mp (mJ.mp h).1).1
theorem O6(rs:List Rm)(os:List Nat)(r:Nat):(jr rs os r).length<=os.length:=by
 unfold jr fL
 have:=qe (fun o=>Tr.bK (aD rs) o r) os
 split
 ·rw[gG]
  lia
 ·exact Nat.le_trans (qe _ _) this
theorem GR{rs:List Rm}{os:List Nat}:∀(ls:List Nat)(ks:List (List Nat))(r:List Nat),r∈bL rs os ls ks->r∈ks ∨ ∃ x,r=jr rs os x
 | [],ks,r,h=>.inl h
 | x :: ls,ks,r,h=>by
  have h:r∈bL rs os ls (if cu rs x=("" : Str) then ks else ks.set x (jr rs os x)):=h
  rcases GR ls _ r h with h | h
  ·split at h
   ·exact .inl h
   ·rcases List.mem_or_eq_of_mem_set h with h | h
    ·exact .inl h
    ·exact .inr ⟨x,h⟩
  ·exact .inr h
section
variable{c:dZ}{os:List Nat}{ks:List (List Nat)}
theorem Jw.qGR(j:Jw c os ks)(ok:HR c):os.length<=40:=Nat.le_trans (Tr.nO _ _ (Tr.fZ j.inc) j.lt) ok.r40
theorem Jw.kept(j:Jw c os ks)(ok:HR c)(d:Dx):(nY c d os ks).length=c.rs.length/\∀ r∈nY c d os ks,(∀ g∈r,g < c.rs.length)/\r.length<=40:=by
 unfold nY
 split
 ·exact⟨j.len,j.row⟩
 ·refine⟨by rw[rP];exact j.len,fun r hr=>?_⟩
  rcases GR _ _ r hr with h | ⟨x,rfl⟩
  ·exact j.row r h
  ·exact⟨fun g hg=>j.lt g (O5 hg),Nat.le_trans (O6 _ _ _) (j.qGR ok)⟩
theorem TY{n:Nat}(w:Wy)(ks:List (List Nat))(hw:w.gl < n)(hk:∀ r∈ks,(∀ g∈r,g < n)/\r.length<=40):(∀ g∈jT w ks,g < n)/\(jT w ks).length<=100:=by
 cases w with
 | to g=>exact⟨fun x hx=>by rw[dJ.mp hx];exact hw,by show 1<=100;decide⟩
 | stay=>exact⟨(fun x hx=>by cases hx),by show 0<=100;decide⟩
 | back g=>
  show (∀ x∈(if ks.getD g []=[] then [g] else ks.getD g []),x < n)/\(if ks.getD g []=[] then [g] else ks.getD g []).length<=100
  split
  ·exact⟨fun x hx=>by rw[dJ.mp hx];exact hw,by show 1<=100;decide⟩
  ·rename_i z
   by_cases q:g < ks.length
   ·have e:ks.getD g []=ks[g]:=by rw[kW,fu q];rfl
    have:=hk _ (kO q)
    rw[e]
    exact⟨this.1,by lia⟩
   ·exact absurd (by rw[kW,List.getElem?_eq_none (by lia)];rfl) z
theorem vM{d:Dx}{k:Nat}(h:k∈cg c d os):k∈os/\k ∉ bU c d os:=by
 unfold cg at h
 obtain⟨h1,h2⟩:=mJ.mp h
 rw[K8.Wv]at h2
 exact⟨h1,by simpa using h2⟩
theorem Ob{d:Dx}{ms:List Nat}(h:uI c d ks ms){k:Nat}(hk:k∈cg c d os):k ∉ ms:=by
 intro hm
 obtain⟨h1,h2⟩:=vM hk
 unfold uI at h
 split at h
 ·rw[h]at hm
  cases hm
 ·rename_i z
  refine h2 ?_
  unfold bU
  rw[if_neg z]
  unfold K8.jY
  rw[List.mem_reverse,mJ]
  refine⟨h1,?_⟩
  have:=((h.2 k).mp hm).under
  cases hh:qJ c d with
  | none=>rfl
  | some u=>
   rw[hh]at this
   exact this
theorem Sy{d:Dx}{ms:List Nat}(h:uI c d ks ms):ms.Pairwise (· < ·):=by
 unfold uI at h
 split at h
 ·rw[h]
  exact .nil
 ·exact h.1
theorem T4(ok:HR c){d:Dx}{ms:List Nat}(h:uI c d ks ms):∀ k∈ms,k < c.rs.length:=by
 intro k hk
 unfold uI at h
 split at h
 ·rw[h]at hk
  cases hk
 ·have:=((h.2 k).mp hk).lt (by have:=ok.good.pos;lia)
  rw[yV]at this
  exact this
theorem Wu{d:Dx}{a b:List Nat}(h1:uI c d ks a)(h2:uI c d ks b):a=b:=by
 unfold uI at h1 h2
 split at h1
 ·rename_i z
  rw[if_pos z]at h2
  rw[h1,h2]
 ·rename_i z
  rw[if_neg z]at h2
  exact h1.unique h2
theorem wide(ok:HR c):JOk c (Jw c) where
 may:=fun os ks j d hd=>by
  have jk:=j.kept ok d
  have g:=TY d.way _ (ok.door d hd).2.1 jk.2
  refine⟨g.1,g.2,fun ms hms=>?_⟩
  have ml:=T4 ok hms
  have sl:∀ k∈cg c d os,k < c.rs.length:=fun k hk=>j.lt k (vM hk).1
  have nd:(cg c d os++ms).Nodup:=List.nodup_append.mpr ⟨Tr.fZ (j.inc.filter _),Tr.fZ (Sy hms),fun a ha b hb e=>Ob hms ha (by rw[e];exact hb)⟩
  refine⟨nd,Nat.le_trans (Tr.nO _ _ nd fun k hk=>?_) ok.r40,ml⟩
  rcases gW.mp hk with h | h
  ·exact sl k h
  ·exact ml k h
 pass:=fun k s es s' j ⟨d,ms,hd,hms,perm,rise,eks,_⟩=>by
  have jk:=j.kept ok d
  refine⟨rise,fun o ho=>?_,by rw[eks];exact jk.1,by rw[eks];exact jk.2⟩
  rcases gW.mp (perm.mem_iff.mp ho) with h | h
  ·exact j.lt o (vM h).1
  ·exact T4 ok hms o h
theorem RB{k:Nat}{s s1 s2:S4}{e1 e2:List En}(h1:HB c k s e1 s1)(h2:HB c k s e2 s2):e1=e2/\s1=s2:=by
 obtain⟨d,ms,hd,hm,p1,r1,k1,q1⟩:=h1
 obtain⟨d',rM,hd',hm',p2,r2,k2,q2⟩:=h2
 obtain rfl:d=d':=kJ (hd.symm.trans hd')
 obtain rfl:=Wu hm hm'
 have eo:s1.os=s2.os:=gK _ _ r1 r2 fun k=>by rw[p1.mem_iff,p2.mem_iff]
 have eq:=q1.trans q2.symm
 obtain⟨o1,b1,x1,l1⟩:=s1
 obtain⟨o2,b2,x2,l2⟩:=s2
 cases k1
 cases k2
 cases eo
 cases eq
 exact⟨rfl,rfl⟩
theorem Ov{s:S4}{ks lf:List Nat}{es:List En}{s1:S4}(h1:je c s ks lf es s1):∀ {ks' lf':List Nat} {es':List En} {Vn:S4},je c s ks' lf' es' Vn->ks=ks'->lf=lf'/\es=es'/\s1=Vn:=by
 induction h1 with
 | nil=>
  intro ks' lf' es' Vn h2 e
  cases h2 with
  | nil=>exact⟨rfl,rfl,rfl⟩
  | skip h hd hi=>exact absurd e.symm (by simp)
  | go h hd hi hp=>exact absurd e.symm (by simp)
 | @skip ks lf es s1 k d h hd hi ih=>
  intro ks' lf' es' Vn h2 e
  cases h2 with
  | nil=>exact absurd e (by simp)
  | @skip ks2 _ _ _ k2 d2 h' hd' hi'=>
   obtain⟨ea,eb⟩:=List.append_inj' e rfl
   exact ih h' ea
  | @go ks2 lf2 es2 e2 s2 s3 k2 d2 h' hd' hi' hp'=>
   obtain⟨ea,eb⟩:=List.append_inj' e rfl
   obtain⟨rfl,rfl,rfl⟩:=ih h' ea
   cases eb
   obtain rfl:=kJ (hd.symm.trans hd')
   rw[hi]at hi'
   cases hi'
 | @go ks lf es e1 s1 s2 k d h hd hi hp ih=>
  intro ks' lf' es' Vn h2 e
  cases h2 with
  | nil=>exact absurd e (by simp)
  | @skip ks2 _ _ _ k2 d2 h' hd' hi'=>
   obtain⟨ea,eb⟩:=List.append_inj' e rfl
   obtain⟨rfl,rfl,rfl⟩:=ih h' ea
   cases eb
   obtain rfl:=kJ (hd.symm.trans hd')
   rw[hi]at hi'
   cases hi'
  | @go ks2 lf2 es2 e2 s2 s3 k2 d2 h' hd' hi' hp'=>
   obtain⟨ea,eb⟩:=List.append_inj' e rfl
   obtain⟨rfl,rfl,rfl⟩:=ih h' ea
   cases eb
   obtain⟨rfl,rfl⟩:=RB hp hp'
   exact⟨rfl,rfl,rfl⟩
theorem Dz{ev:Int}{s s1 s2:S4}{e1 e2:List En}(h1:Gy c ev s e1 s1)(h2:Gy c ev s e2 s2):e1=e2/\s1=s2:=by
 obtain⟨lf,x,d1,rfl⟩:=h1
 obtain⟨lf',x',d2,rfl⟩:=h2
 obtain⟨_,rfl,rfl⟩:=Ov d1 d2 rfl
 exact⟨rfl,rfl⟩
end
structure Pq(nb:Nat)(H:Hp)(rv:List V)(rs:List Rm)(dis uZ:List (List Dd)):Prop where
 inn:gj H rv rs
 l1:dis.length=rs.length
 l2:uZ.length=rs.length
 dd:Yc H rs (fun k=>dis.getD k []) (fun k=>uZ.getD k [])
 say:∀ k:Nat,((∀ d∈dis.getD k [],d.ok nb)/\(dis.getD k []).length<=8)/\(∀ d∈uZ.getD k [],d.ok nb)/\(uZ.getD k []).length<=8
theorem Pq.mono{nb:Nat}{H H':Hp}{rv:List V}{rs:List Rm}{dis uZ:List (List Dd)}(x:Pq nb H rv rs dis uZ)(k:aB H H'):Pq nb H' rv rs dis uZ:=⟨x.inn.mono k,x.l1,x.l2,x.dd.mono k,x.say⟩
theorem Pq.nil{nb:Nat}(H:Hp):Pq nb H [] [] [] []:=⟨.nil,rfl,rfl,(fun k r h=>by simp at h),fun k=>⟨⟨(fun d h=>by simp at h),by simp⟩,(fun d h=>by simp at h),by simp⟩⟩
theorem getD_snoc{α:Type}(l:List α)(x d:α)(k:Nat):(l++[x]).getD k d=if k < l.length then l.getD k d else if k=l.length then x else d:=by
 rw[kW]
 by_cases h:k < l.length
 ·rw[if_pos h,QC h,kW]
 ·rw[if_neg h]
  by_cases h2:k=l.length
  ·rw[if_pos h2,h2,Yn (bT _),Nat.sub_self]
   rfl
  ·rw[if_neg h2,List.getElem?_eq_none (by rw[fU,jf];lia)]
   rfl
theorem Pq.snoc{nb:Nat}{H:Hp}{rv:List V}{rs:List Rm}{dis uZ:List (List Dd)}(x:Pq nb H rv rs dis uZ){v:V}{r:Rm}{di dO:List Dd}(hr:K5 H v r)(h1:sU H r.ins di)(h2:sU H r.outs dO)
  (s1:(∀ d∈di,d.ok nb)/\di.length<=8) (s2:(∀ d∈dO,d.ok nb)/\dO.length<=8):Pq nb H (rv++[v]) (rs++[r]) (dis++[di]) (uZ++[dO]):=by
 have a1:=x.l1
 have a2:=x.l2
 refine⟨x.inn.snoc hr,by rw[fU,fU,a1];rfl,by rw[fU,fU,a2];rfl,fun k q h=>?_,fun k=>?_⟩
 ·show sU H q.ins ((dis++[di]).getD k [])/\sU H q.outs ((uZ++[dO]).getD k [])
  by_cases z:k < rs.length
  ·rw[QC z]at h
   rw[getD_snoc,getD_snoc,if_pos (show k < dis.length by lia),if_pos (show k < uZ.length by lia)]
   exact x.dd k q h
  ·have hk:=(mH.mp h).1
   rw[fU,jf]at hk
   have z2:k=rs.length:=by lia
   subst z2
   rw[Yn (bT _),Nat.sub_self]at h
   obtain rfl:=kJ h
   rw[getD_snoc,getD_snoc,if_neg (by lia),if_pos (by lia),if_neg (by lia),if_pos (by lia)]
   exact⟨h1,h2⟩
 ·rw[getD_snoc,getD_snoc]
  have xs:=x.say k
  have no:((∀ d∈([]:List Dd),d.ok nb)/\([]:List Dd).length<=8):=⟨(fun d h=>by cases h),by decide⟩
  refine⟨?_,?_⟩
  ·split
   ·exact xs.1
   ·split
    ·exact s1
    ·exact no
  ·split
   ·exact xs.2
   ·split
    ·exact s2
    ·exact no
end Ru
namespace ud
open PySem L2 qR sS Dh KY
theorem vK{zs:List Str}{i:Int}(h0:0<=i)(h1:i < (zs.length:Int)):∃ z∈zs,sY (zs.map V.str) i=some (.str z):=by
 obtain⟨v,hv,e⟩:=jy (xs:=zs.map V.str) (i:=i) h0 (by rw[bZ];exact h1)
 obtain⟨z,hz,rfl⟩:=iU.mp hv
 exact⟨z,hz,e⟩
noncomputable def BJ:Sp:=fun vs H Q _ => ∃ k n:Int,vs=[.int k,.int n]/\∀(z:Str)(H':Hp),aJ H H'->Q (.str z) H'
noncomputable def jV(H:Hp)(ps:Addr)(sz:List Int):Prop:=H ps=some (.lst (sz.map V.int))/\(∀ z∈sz,0 < z)/\sz.length<=6
theorem jV.mono{H H':Hp}{ps:Addr}{sz:List Int}(h:jV H ps sz)(s:aJ H H'):jV H' ps sz:=⟨s _ _ h.1,h.2⟩
noncomputable def Qf:Sp:=fun vs H Q _ => ∃(n e:Int)(ps:Addr)(sz:List Int),vs=[.int n,.ref ps,.int e]/\0<=n/\n < 2147483648/\jV H ps sz/\∀(v:V)(d:Dd)(H':Hp),aJ H H'->uK H' v d->d.ok sz.length->Q v H'
noncomputable def BK(K:bO):Sp:=fun vs H Q _ => ∃(a ps:Addr)(ns sz:List Int)(k salt e:Int),vs=[.ref a,.int k,.int salt,.ref ps,.int e]/\aQ K H a (ns.map V.int)/\ns.length<=63/\(0<=k/\k<=1000)/\(0<=salt/\salt<=100)/\jV H ps sz/\∀(v:V)(ds:List Dd)(H':Hp),aJ H H'->Ru.sU H' v ds->(∀ d∈ds,d.ok sz.length)->ds.length<=8->Q v H'
noncomputable def kj(h:Nat):Sp:=fun vs H Q _ => ∃(n r hi:Int)(nb:Nat),vs=[.int n,.int r,.int (nb:Int),.int hi]/\0 < r/\1<=hi/\hi<=(h:Int)/\∀(v:V)(g:Gd)(H':Hp),aJ H H'->jd H' v g->g.ok nb->(g.ht:Int)<=hi->Q v H'
section
variable{P:Program}{w:World}{K:bO}{mg:Str->Option Value}{base:Heap}
theorem mj:aH ["_law_k","_law_number","_law_rest","_law_at"] ["_law_k","_law_number"] (aA qt):=fO
theorem WT{f:Addr}{fd:FuncData}(F:cz K "_law_name" "_law_name" qt f fd)(aP:mg "len" = none):aG P w K mg base aY 1 f fd ["_law_k","_law_number"] BJ:=by
 refine F.ok mj (fun vs H Q E h=>?_) (fun cdv A outer s H vs Q E hr h=>?_)
 ·refine aK fun G_ g_=>?_
  obtain⟨k,n,rfl,_⟩:=h
  refine g_ ?_
  clear g_ G_
  rfl
 refine aK fun G_ g_=>?_
 obtain⟨k,n,rfl,q⟩:=h
 refine g_ ?_
 clear g_ G_
 refine⟨_,(zE (zK (i:=2) mj.nd rfl (Or.inl rfl) (yB yU (yK (zA zP (zA zP (zA zP (zA zP zD))))) (yC zY (pv 1) zB) (fun _ _=>rfl)))
  (zE (zK (i:=3) mj.nd rfl (Or.inl rfl) (q9 (yC zY (yC yL (pv 1) zB) (yC yF (zS DG rfl aP bV (zA (pv 2) zD)) zB))))
  (zG (zO (yC wL (yC wL (ir Qh (pv 2) lF (lE (pv 3))) (yB qA6 zP (yC zY (pv 0) zB) (fun _ _=>rfl))) (ir Qh (pv 2) (lE (pv 3)) lF)))))),?_⟩
 refine aK fun G_ g_=>?_
 obtain⟨z,hz,hat⟩:=vK (zs:=[("" : Str),"hall","quiet","aaaaaaaaaaa"]) (i:=n % 4) (by lia) (by show _ < (4:Int);lia)
 refine g_ ?_
 clear g_ G_
 have lz:z.length<=11:=by
  simp only[List.mem_cons,List.not_mem_nil,or_false]at hz
  rcases hz with rfl | rfl | rfl | rfl <;> decide +kernel
 have hz':z.length<=sizeLine:=zI (by lia)
 have sl:∀(lo hi:Option Int),(Txt.slice z lo hi).length<=11:=fun lo hi=>Nat.le_trans (Txt.slice_le z lo hi) lz
 refine⟨zI (by show 4<=1000;decide),fun p hp=>⟨_,rfl,bA ⟨(by show (0:Int) < 4;decide),cC (aQ.of zC) hat ?_⟩⟩⟩
 have s1:=zF hp (.lst [V.str "",V.str "hall",V.str "quiet",V.str "aaaaaaaaaaa"])
 refine⟨fun v H'=>aJ H H'/\∃ t:Int,v = .int t,?_,?_⟩
 ·exact⟨_,rfl,bA ⟨⟨by decide,by decide⟩,_,rfl,z,rfl,hz',_,_,rfl,rfl,bA ⟨(by show (0:Int) < (z.length:Int)+1;lia),s1,_,rfl⟩⟩⟩
 rintro _ H2 aZ
 refine aK fun G_ g_=>?_
 obtain⟨s2,t,rfl⟩:=aZ
 obtain⟨c1,_,h1⟩:=jy (xs:=("abcdefghijklmnopqrstuvwxyz" : Str).cps.toList) (i:=k % 26) (by lia) (by show k % 26 < 26;lia)
 refine g_ ?_
 clear g_ G_
 have la:∀ x y:Str,(x++y).length=x.length+y.length:=fun x y=>by
  show (x.cps++y.cps).size=_
  rw[Array.size_append]
  rfl
 have lo:∀ c:Nat,(⟨#[c]⟩:Str).length=1:=fun c=>rfl
 have l1:=sl none (some t)
 have l2:=sl (some t) none
 exact⟨_,rfl,_,rfl,_,rfl,z,rfl,hz',_,rfl,bA ⟨(by show (0:Int) < 26;decide),_,_,c1,rfl,rfl,zI (by decide +kernel),h1,_,_,rfl,rfl,zI (by rw[lo];lia),_,rfl,_,rfl,_,rfl,z,rfl,hz',_,_,rfl,rfl,zI (by rw[la,lo];lia),q _ H2 s2⟩⟩
theorem jP:aH ["_law_number","_law_sizes","_law_events","_law_way","_law_rest","_law_b"] ["_law_number","_law_sizes","_law_events"] (aA qw):=fO
theorem We{f gn:Addr}{fd dn:FuncData}(F:cz K "_law_deed" "_law_deed" qw f fd)(lZ:aG P w K mg base aY 1 gn dn ["_law_k","_law_number"] BJ)(lX:Binds K dn ["_law_k","_law_number"] [])(lM:KI K gn)(lH:mg "_law_name" = some (.ref gn))
  (aP:mg "len" = none):aG P w K mg base aY 2 f fd ["_law_number","_law_sizes","_law_events"] Qf:=by
 refine F.ok jP (fun vs H Q E h=>?_) (fun cdv A outer s H vs Q E hr h=>?_)
 ·refine aK fun G_ g_=>?_
  obtain⟨n,e,ps,sz,rfl,_⟩:=h
  refine g_ ?_
  clear g_ G_
  rfl
 refine aK fun G_ g_=>?_
 obtain⟨n,e,ps,sz,rfl,n0,n1,hsz,q⟩:=h
 refine g_ ?_
 clear g_ G_
 refine⟨_,(zE (zK (i:=3) jP.nd rfl (Or.inl rfl) (yB yU (yK (zA zB (zA zB (zA zB (zA zB (zA zB zD)))))) (yC zY (pv 0) zB) (fun _ _=>rfl)))
  (zE (zK (i:=4) jP.nd rfl (Or.inl rfl) (yC yL (pv 0) zB))
  (zE (yD (bQ (PW.pt (pw_and (zL yG (pv 3) zB (zR _)) (yP (zL gM (pv 2) zB (zR _))))))
  (zG (zO (zW (zA zP (zA (yC zY (pv 4) (pv 2)) zD)))))
  zT)
  (zE (yD (bQ (PW.pt (pw_and (zL yG (pv 3) zB (zR _)) (yP (zL gM (zS zN rfl aP bV (zA (pv 1) zD)) zB (zR _))))))
  (zE (zK (i:=5) jP.nd rfl (Or.inl rfl) (yC zY (pv 4) (zS zN rfl aP bV (zA (pv 1) zD))))
  (zG (zO (zW (zA zP (zA (pv 5) (zA (yC zY (yC yL (pv 4) zB) (yB yU (pv 1) (pv 5) (fun _ _=>rfl))) zD)))))))
  zT)
  (zE (yD (bQ (PW.pt (pw_and (zL yG (pv 3) zB (zR _)) (pw_and (zL gM (zS zN rfl aP bV (zA (pv 1) zD)) zB (zR _)) (yP (zL yG (yC zY (yC yL (pv 4) zB) zB) zB (zR _)))))))
  (zG (zO (zW (zA zP (zA (yC zY (pv 4) (zS zN rfl aP bV (zA (pv 1) zD))) (zA (yC fG (yC yF (yC fG (pv 4) (yC RG zB zB)) (pv 4)) (yC jZ zB (yC fG zB (yC zY (yC yL (pv 4) zB) zB)))) zD))))))
  zT)
  (zE (yD (bQ (PW.pt (pw_and (zL yG (pv 3) zB (zR _)) (yP (zL gM (zS zN rfl aP bV (zA (pv 1) zD)) zB (zR _))))))
  (zG (zO (zW (zA zP (zA (yC zY (pv 4) (zS zN rfl aP bV (zA (pv 1) zD))) (zA (yC jZ (yC zY (yC yL (pv 4) zB) zB) zB) zD))))))
  zT)
  (zE (yD (zL yG (yC zY (pv 4) zB) zB (zR _))
  (zG (zO (zW (zA zP (zA zP zD)))))
  zT)
  (zG (zO (zW (zA zP (zA (zJ lZ hr rfl lH lM lX .nil yE (zA (yC zY (yC yL (pv 4) zB) zB) (zA (yC yL (pv 4) zB) zD))) zD)))))))))))),?_⟩
 obtain⟨v,hat⟩:=Mj (ns:=[0,1,1,2,3]) (i:=n % 5) (by lia) (by show _ < (5:Int);lia)
 have hl:(sz.map V.int).length=sz.length:=bZ _
 refine⟨zI (by show 5<=1000;decide),fun p0 hp0=>⟨_,rfl,bA ⟨(by show (0:Int) < 5;decide),cC (aQ.of zC) hat ?_⟩⟩⟩
 have s1:=zF hp0 (.lst [V.int 0,V.int 1,V.int 1,V.int 2,V.int 3])
 have hz1:=hsz.mono s1
 generalize upd H p0 (.lst [V.int 0,V.int 1,V.int 1,V.int 2,V.int 3])=H1 at s1 hz1 ⊢
 refine⟨_,rfl,bA ⟨⟨by decide,by decide⟩,?_⟩⟩
 have r0:0<=n / 5:=by lia
 have r1:n / 5 < 2147483648:=by lia
 refine⟨fun c H'=>H'=H1/\(c=true->0 < e),?_,?_⟩
 ·refine⟨_,rfl,rfl,_,rfl,?_⟩
  refine fV (fun c=>?_) (fun c=>⟨rfl,fun z=>(by cases z)⟩)
  exact⟨_,rfl,bA ⟨_,rfl,rfl,fun z=>of_decide_eq_true z⟩⟩
 rintro c1 H' ⟨rfl,hc1⟩
 refine fV (fun c=>?_) (fun c=>?_)
 ·have he:=hc1 c
  exact⟨_,rfl,_,rfl,bA ⟨(by show (0:Int) < e;exact he),zI (by show 2<=1000;decide),fun p hp=>q _ (.send _) _ (s1.trans (zF hp _)) (.send zC) (fun b hb=>by cases hb)⟩⟩
 refine⟨fun c H2=>H2=H'/\(c=true->0 < sz.length),?_,?_⟩
 ·exact⟨_,rfl,rfl,_,rfl,fV (fun c=>⟨_,rfl,fQ rfl (.inl (aQ.of hz1.1)) (bA ⟨_,rfl,rfl,fun z=>(by have:=of_decide_eq_true z;rw[hl]at this;lia)⟩)⟩) (fun c=>⟨rfl,fun z=>(by cases z)⟩)⟩
 rintro c2 H2 ⟨rfl,hc2⟩
 refine fV (fun c=>?_) (fun c=>?_)
 ·have he:=hc2 c
  have h0:=pU (n / 5) (show (((sz.map V.int).length:Nat):Int) ≠ 0 by lia)
  have h1:=qZ (n / 5) (show (0:Int) < (((sz.map V.int).length:Nat):Int) by lia)
  refine aK fun G_ g_=>?_
  obtain⟨vz,hvz,qHW⟩:=jy (xs:=sz.map V.int) (i:=n / 5 % (((sz.map V.int).length:Nat):Int)) h0 h1
  obtain⟨z,hzm,rfl⟩:=iU.mp hvz
  refine g_ ?_
  clear g_ G_
  refine⟨_,rfl,_,rfl,fQ rfl (.inl (aQ.of hz1.1)) (bA ⟨(by show (0:Int) < (((sz.map V.int).length:Nat):Int);lia),?_⟩)⟩
  exact⟨_,rfl,_,rfl,bA ⟨⟨by decide,by decide⟩,_,rfl,_,rfl,cC (aQ.of hz1.1) qHW (bA ⟨(by show (0:Int) < z;exact hz1.2.1 z hzm),zI (by show 3<=1000;decide),fun p hp=>q _ (.set _ _) _ (s1.trans (zF hp _)) (.set zC) (fun b hb=>by cases hb;exact⟨pU _ (by lia),by rw[<-hl];exact qZ _ (by lia)⟩)⟩)⟩⟩
 refine⟨fun c H3=>H3=H2/\(c=true->0 < sz.length),?_,?_⟩
 ·refine⟨_,rfl,rfl,_,rfl,fV (fun c=>?_) (fun c=>⟨rfl,fun z=>(by cases z)⟩)⟩
  refine⟨_,rfl,fQ rfl (.inl (aQ.of hz1.1)) (bA ⟨_,rfl,fV (fun c=>?_) (fun c=>⟨rfl,fun z=>(by cases z)⟩)⟩)⟩
  ·have:=of_decide_eq_true c
   rw[hl]at this
   exact⟨_,rfl,bA ⟨⟨by decide,by decide⟩,_,_,rfl,rfl,(by show (0:Int) < 5;decide),rfl,_,rfl,rfl,fun _=>by lia⟩⟩
 rintro c3 H3 ⟨rfl,hc3⟩
 refine fV (fun c=>?_) (fun c=>?_)
 ·have he:=hc3 c
  exact⟨_,rfl,_,rfl,fQ rfl (.inl (aQ.of hz1.1)) (bA ⟨(by show (0:Int) < (((sz.map V.int).length:Nat):Int);lia),_,rfl,bA ⟨⟨by decide,by decide,by decide⟩,_,_,rfl,rfl,.inl ⟨by lia,by lia⟩,_,rfl,bA ⟨_,rfl,bA ⟨⟨by decide,by decide⟩,_,_,rfl,rfl,(by show (0:Int) < 2;decide),_,_,rfl,rfl,.inl ⟨by decide,by decide⟩,_,_,rfl,rfl,bA ⟨.inr ⟨by lia,by lia⟩,zI (by show 3<=1000;decide),fun p hp=>q _ (.add _ _) _ (s1.trans (zF hp _)) (.add zC) (fun b hb=>by cases hb;exact⟨pU _ (by lia),by rw[<-hl];exact qZ _ (by lia)⟩)⟩⟩⟩⟩⟩)⟩
 refine⟨fun c H4=>H4=H3/\(c=true->0 < sz.length),?_,?_⟩
 ·exact⟨_,rfl,rfl,_,rfl,fV (fun c=>⟨_,rfl,fQ rfl (.inl (aQ.of hz1.1)) (bA ⟨_,rfl,rfl,fun z=>(by have:=of_decide_eq_true z;rw[hl]at this;lia)⟩)⟩) (fun c=>⟨rfl,fun z=>(by cases z)⟩)⟩
 rintro c4 H4 ⟨rfl,hc4⟩
 refine fV (fun c=>?_) (fun c=>?_)
 ·have he:=hc4 c
  exact⟨_,rfl,_,rfl,fQ rfl (.inl (aQ.of hz1.1)) (bA ⟨(by show (0:Int) < (((sz.map V.int).length:Nat):Int);lia),_,rfl,bA ⟨⟨by decide,by decide⟩,_,_,rfl,rfl,(by show (0:Int) < 9;decide),_,_,rfl,rfl,zI (by show 3<=1000;decide),fun p hp=>q _ (.add _ _) _ (s1.trans (zF hp _)) (.add zC) (fun b hb=>by cases hb;exact⟨pU _ (by lia),by rw[<-hl];exact qZ _ (by lia)⟩)⟩⟩)⟩
 refine⟨_,rfl,bA ⟨(by show (0:Int) < 2;decide),rfl,_,rfl,fV (fun c=>?_) (fun c=>?_)⟩⟩
 ·exact⟨zI (by show 2<=1000;decide),fun p hp=>q _ (.say _) _ (s1.trans (zF hp _)) (.say zC) (fun b hb=>by cases hb)⟩
 ·exact⟨_,rfl,bA ⟨⟨by decide,by decide⟩,_,_,rfl,rfl,(by show (0:Int) < 3;decide),_,rfl,bA ⟨⟨by decide,by decide⟩,_,_,rfl,fun z H5 s5=>⟨zI (by show 2<=1000;decide),fun p hp=>q _ (.say _) _ ((s1.trans s5).trans (zF hp _)) (.say zC) (fun b hb=>by cases hb)⟩⟩⟩⟩
theorem eX:aH ["_law_script","_law_k","_law_salt","_law_sizes","_law_events","_law_number","_law_many","_law_deeds_here","_law_j"] ["_law_script","_law_k","_law_salt","_law_sizes","_law_events"] (aA oU):=fO
theorem Rf{f gm gd:Addr}{fd dm dd:FuncData}(F:cz K "_law_deeds" "_law_deeds" oU f fd)
  (aW:aG P w K mg base aY 2 gm dm ["_law_script","_law_k","_law_salt"] (kZ K)) (aV:Binds K dm ["_law_script","_law_k","_law_salt"] []) (aU:KI K gm) (aR:mg "_law_mixed" = some (.ref gm))
  (Xm:aG P w K mg base aY 2 gd dd ["_law_number","_law_sizes","_law_events"] Qf) (Xb:Binds K dd ["_law_number","_law_sizes","_law_events"] []) (Wr:KI K gd) (Wl:mg "_law_deed" = some (.ref gd))
  (az:mg "range" = none) (aM:mg "tuple" = none):aG P w K mg base aY 3 f fd ["_law_script","_law_k","_law_salt","_law_sizes","_law_events"] (BK K):=by
 refine F.ok eX (fun vs H Q E h=>?_) (fun cdv A outer s H vs Q E hr h=>?_)
 ·refine aK fun G_ g_=>?_
  obtain⟨a,ps,ns,sz,k,salt,e,rfl,_⟩:=h
  refine g_ ?_
  clear g_ G_
  rfl
 refine aK fun G_ g_=>?_
 obtain⟨a,ps,ns,sz,k,salt,e,rfl,hS,h63,⟨k0,k1⟩,⟨t0,t1⟩,hsz,q⟩:=h
 refine g_ ?_
 clear g_ G_
 refine⟨_,(zE (zK (i:=5) eX.nd rfl (Or.inl rfl) (zJ aW hr rfl aR aU aV .nil yE (zA (pv 0) (zA (pv 1) (zA (pv 2) zD)))))
  (zE (zK (i:=6) eX.nd rfl (Or.inl rfl) (yB yU (yK (zA zB (zA zB (zA zB (zA zB (zA zB (zA zB (zA zB (zA zB zD))))))))) (yC zY (pv 5) zB) (fun _ _=>rfl)))
  (zE (zK (i:=7) eX.nd rfl (Or.inl rfl) (yK zD))
  (zZ (cj PassesOwn.never rfl (cB rfl az (zA (pv 6) zD)) (yJ (i:=8) eX.nd rfl (Or.inl rfl))
  (zG (yI (dz jM sy sZ yH (pv 7) (zA (zJ Xm hr rfl Wl Wr Xb .nil yE (zA (zJ aW hr rfl aR aU aV .nil yE (zA (pv 0) (zA (pv 1) (zA (yC yF (yC yF (pv 2) zB) (pv 8)) zD)))) (zA (pv 3) (zA (pv 4) zD)))) zD)))))
  (zG (zO (yA zX rfl aM iT (zA (pv 7) zD)))))))),?_⟩
 refine⟨_,rfl,_,rfl,_,rfl,a,ns,_,_,rfl,hS,h63,⟨by lia,by lia⟩,⟨by lia,by lia⟩,fun x x0 x1=>?_⟩
 refine aK fun G_ g_=>?_
 obtain⟨m,hm,hat⟩:∃ m:Nat,m<=3/\sY [V.int 0,V.int 0,V.int 1,V.int 1,V.int 1,V.int 2,V.int 2,V.int 3] (x % 8)=some (.int (m:Int)):=by
  obtain⟨o,ho,e⟩:=Fq (os:=[0,0,1,1,1,2,2,3]) (i:=x % 8) (by lia) (by show _ < (8:Int);lia)
  refine⟨o,?_,e⟩
  simp only[List.mem_cons,List.not_mem_nil,or_false]at ho
  lia
 refine g_ ?_
 clear g_ G_
 refine⟨zI (by show 8<=1000;decide),fun p0 hp0=>⟨_,rfl,bA ⟨(by show (0:Int) < 8;decide),cC (aQ.of zC) hat ?_⟩⟩⟩
 have s1:=zF hp0 (.lst [V.int 0,V.int 0,V.int 1,V.int 1,V.int 1,V.int 2,V.int 2,V.int 3])
 generalize upd H p0 (.lst [V.int 0,V.int 0,V.int 1,V.int 1,V.int 1,V.int 2,V.int 2,V.int 3])=H1 at s1 ⊢
 refine⟨Nat.zero_le _,fun pd hpd=>?_⟩
 have V7:H pd=none:=s1.free hpd
 have s2:=s1.trans (zF hpd (.lst []))
 refine⟨fun σ' H' => ∃(xs:List V)(ds:List Dd),aJ H H'/\H' pd=some (.lst xs)/\gU H' xs ds/\(∀ d∈ds,d.ok sz.length)/\ds.length<=8/\∃ o8:Option V,σ'=[some (.ref a),some (.int k),some (.int salt),some (.ref ps),some (.int e),some (.int x),some (.int (m:Int)),some (.ref pd),o8],?_,?_⟩
 ·refine⟨_,rfl,_,rfl,by lia,by lia,?_⟩
  refine cX (fun i σ' H' => ∃(xs:List V)(ds:List Dd),aJ H H'/\H' pd=some (.lst xs)/\gU H' xs ds/\(∀ d∈ds,d.ok sz.length)/\ds.length<=i/\∃ o8:Option V,σ'=[some (.ref a),some (.int k),some (.int salt),some (.ref ps),some (.int e),some (.int x),some (.int (m:Int)),some (.ref pd),o8])
   ⟨[],[],s2,zC,.nil,(fun d h=>by cases h),bT _,_,rfl⟩ ?_ (fun σ' H' ⟨xs,ds,s3,h3,hD,ok,l,r⟩=>⟨xs,ds,s3,h3,hD,ok,by lia,r⟩)
  rintro i σ' H3 hi aZ
  refine aK fun G_ g_=>?_
  obtain⟨xs,ds,s3,h3,hD,ok,lx,o8,rfl⟩:=aZ
  refine g_ ?_
  clear g_ G_
  have lx2:=hD.length
  refine⟨_,rfl,.inl ⟨rfl,_,aQ.of h3⟩,_,rfl,_,rfl,_,rfl,bA ⟨_,rfl,bA ⟨a,ns,_,_,rfl,s3.seq hS,h63,⟨by lia,by lia⟩,⟨by lia,by lia⟩,fun y y0 y1=>?_⟩⟩⟩
  refine⟨_,rfl,_,rfl,y,e,ps,sz,rfl,y0,y1,hsz.mono s3,fun v d H4 s4 hd okd=>?_⟩
  have k5:=aB.lst (s4 _ _ h3) (.lst (xs++[v]))
  refine⟨pd,_,_,rfl,rfl,s4 _ _ h3,zV (by lia),xs++[v],ds++[d],dR V7 (s3.trans s4) _,zC,(hD.mono ((aB.of s4).trans k5)).snoc (hd.mono k5),fun x hx=>?_,by rw[fU,jf];lia,_,rfl⟩
  rcases gW.mp hx with hx | hx
  ·exact ok x hx
  ·rw[dJ.mp hx]
   exact okd
 rintro σ' H3 aZ
 refine aK fun G_ g_=>?_
 obtain⟨xs,ds,s3,h3,hD,ok,l,o8,rfl⟩:=aZ
 refine g_ ?_
 clear g_ G_
 exact⟨_,rfl,pd,_,rfl,.inl ⟨aQ.of h3,fun p hp=>q _ ds _ (s3.trans (zF hp _)) ⟨p,xs,rfl,zC,hD.mono (aB.new hp _)⟩ ok l⟩⟩
theorem lB:aH ["_law_number","_law_rooms_here","_law_boxes","_law_high","_law_way","_law_rest"] ["_law_number","_law_rooms_here","_law_boxes","_law_high"] (aA iK):=fO
theorem RZ{n:Nat}{f:Addr}{fd:FuncData}(F:cz K "_law_guard" "_law_guard" iK f fd)(jF:aG P w K mg base aY n f fd ["_law_number","_law_rooms_here","_law_boxes","_law_high"] (kj n))(cU:Binds K fd ["_law_number","_law_rooms_here","_law_boxes","_law_high"] [])(j5:KI K f)(cT:mg "_law_guard" = some (.ref f)) :
  aG P w K mg base aY (n+1) f fd ["_law_number","_law_rooms_here","_law_boxes","_law_high"] (kj (n+1)):=by
 refine F.ok lB (fun vs H Q E h=>?_) (fun cdv A outer s H vs Q E hr h=>?_)
 ·refine aK fun G_ g_=>?_
  obtain⟨m,r,hi,b,rfl,_⟩:=h
  refine g_ ?_
  clear g_ G_
  rfl
 refine aK fun G_ g_=>?_
 obtain⟨m,r,hi,b,rfl,r0,h1,h2,q⟩:=h
 refine g_ ?_
 clear g_ G_
 refine⟨_,(zE (zK (i:=4) lB.nd rfl (Or.inl rfl) (yC zY (pv 0) zB))
  (zE (zK (i:=5) lB.nd rfl (Or.inl rfl) (yC yL (pv 0) zB))
  (zE (yD (bQ (PW.pt (pw_and (zL gM (pv 3) zB (zR _)) (yP (zL yG (pv 4) zB (zR _))))))
  (zG (zO (zW (zA zP (zA (zJ jF hr rfl cT j5 cU .nil yE (zA (pv 5) (zA (pv 1) (zA (pv 2) (zA (yC jZ (pv 3) zB) zD))))) zD)))))
  zT)
  (zE (yD (bQ (PW.pt (pw_and (zL gM (pv 3) zB (zR _)) (yP (zL yG (pv 4) zB (zR _))))))
  (zG (zO (zW (zA zP (zA (zJ jF hr rfl cT j5 cU .nil yE (zA (pv 5) (zA (pv 1) (zA (pv 2) (zA (yC jZ (pv 3) zB) zD))))) (zA (zJ jF hr rfl cT j5 cU .nil yE (zA (yC yL (pv 5) zB) (zA (pv 1) (zA (pv 2) (zA (yC jZ (pv 3) zB) zD))))) zD))))))
  zT)
  (zE (yD (bQ (PW.pt (pw_and (zL gM (pv 3) zB (zR _)) (yP (zL yG (pv 4) zB (zR _))))))
  (zG (zO (zW (zA zP (zA (zJ jF hr rfl cT j5 cU .nil yE (zA (pv 5) (zA (pv 1) (zA (pv 2) (zA (yC jZ (pv 3) zB) zD))))) (zA (zJ jF hr rfl cT j5 cU .nil yE (zA (yC yL (pv 5) zB) (zA (pv 1) (zA (pv 2) (zA (yC jZ (pv 3) zB) zD))))) zD))))))
  zT)
  (zE (yD (bQ (PW.pt (pw_or (zL yG (pv 4) zB (zR _)) (pw_or1 (zL yG (pv 4) zB (zR _))))))
  (zG (zO (zW (zA zP (zA (yC zY (pv 5) (pv 1)) zD)))))
  zT)
  (zE (yD (bQ (PW.pt (pw_and (zL yG (pv 4) zB (zR _)) (yP (zL gM (pv 2) zB (zR _))))))
  (zG (zO (zW (zA zP (zA (yC zY (pv 5) (pv 2)) (zA (yC zY (yC yL (pv 5) zB) zB) zD))))))
  zT)
  (zE (yD (bQ (PW.pt (pw_and (zL yG (pv 4) zB (zR _)) (yP (zL gM (pv 2) zB (zR _))))))
  (zG (zO (zW (zA zP (zA (yC zY (pv 5) (pv 2)) (zA (yC zY (yC yL (pv 5) zB) zB) zD))))))
  zT)
  (zG (zO (zW (zA zP zD)))))))))))),?_⟩
 refine⟨_,rfl,bA ⟨(by show (0:Int) < 9;decide),?_⟩⟩
 refine⟨_,rfl,bA ⟨⟨by decide,by decide⟩,?_⟩⟩
 refine⟨fun c H'=>H'=H/\(c=true->1 < hi),?_,?_⟩
 ·refine⟨_,rfl,bA ⟨_,rfl,fV (fun c=>?_) (fun c=>⟨rfl,fun z=>(by cases z)⟩)⟩⟩
  exact⟨_,rfl,rfl,_,rfl,rfl,fun _=>of_decide_eq_true c⟩
 rintro c1 H ⟨rfl,hc1⟩
 refine fV (fun c=>?_) (fun c=>?_)
 ·have hh:=hc1 c
  exact⟨_,rfl,_,rfl,_,rfl,_,rfl,bA ⟨_,_,_,_,rfl,r0,by lia,by lia,fun v g H2 s2 hg X4 ght=>⟨zI (by show 2<=1000;decide),fun p hp=>q _ (.neg g) _ (s2.trans (zF hp _)) (.neg zC (hg.mono (aB.new hp _))) X4 (by show ((g.ht+1:Nat):Int)<=hi;lia)⟩⟩⟩
 refine⟨fun c H'=>H'=H/\(c=true->1 < hi),?_,?_⟩
 ·refine⟨_,rfl,bA ⟨_,rfl,fV (fun c=>?_) (fun c=>⟨rfl,fun z=>(by cases z)⟩)⟩⟩
  exact⟨_,rfl,rfl,_,rfl,rfl,fun _=>of_decide_eq_true c⟩
 rintro c2 H ⟨rfl,hc2⟩
 refine fV (fun c=>?_) (fun c=>?_)
 ·have hh:=hc2 c
  exact⟨_,rfl,_,rfl,_,rfl,_,rfl,bA ⟨_,_,_,_,rfl,r0,by lia,by lia,fun v g H2 s2 hg X4 ght=>⟨_,rfl,bA ⟨⟨by decide,by decide⟩,_,rfl,_,rfl,_,rfl,bA ⟨_,_,_,_,rfl,r0,by lia,by lia,fun v3 g3 H3 s3 hg3 qAL qI7=>⟨zI (by show 3<=1000;decide),fun p hp=>q _ (.both g g3) _ ((s2.trans s3).trans (zF hp _)) (.both zC (hg.mono (aB.of (s3.trans (zF hp _)))) (hg3.mono (aB.new hp _))) ⟨X4,qAL⟩ (by show ((1+max g.ht g3.ht:Nat):Int)<=hi;lia)⟩⟩⟩⟩⟩⟩
 refine⟨fun c H'=>H'=H/\(c=true->1 < hi),?_,?_⟩
 ·refine⟨_,rfl,bA ⟨_,rfl,fV (fun c=>?_) (fun c=>⟨rfl,fun z=>(by cases z)⟩)⟩⟩
  exact⟨_,rfl,rfl,_,rfl,rfl,fun _=>of_decide_eq_true c⟩
 rintro c3 H ⟨rfl,hc3⟩
 refine fV (fun c=>?_) (fun c=>?_)
 ·have hh:=hc3 c
  exact⟨_,rfl,_,rfl,_,rfl,_,rfl,bA ⟨_,_,_,_,rfl,r0,by lia,by lia,fun v g H2 s2 hg X4 ght=>⟨_,rfl,bA ⟨⟨by decide,by decide⟩,_,rfl,_,rfl,_,rfl,bA ⟨_,_,_,_,rfl,r0,by lia,by lia,fun v3 g3 H3 s3 hg3 qAL qI7=>⟨zI (by show 3<=1000;decide),fun p hp=>q _ (.either g g3) _ ((s2.trans s3).trans (zF hp _)) (.either zC (hg.mono (aB.of (s3.trans (zF hp _)))) (hg3.mono (aB.new hp _))) ⟨X4,qAL⟩ (by show ((1+max g.ht g3.ht:Nat):Int)<=hi;lia)⟩⟩⟩⟩⟩⟩
 refine⟨fun c H'=>H'=H,?_,?_⟩
 ·exact⟨_,rfl,rfl,_,rfl,fV (fun c=>rfl) (fun c=>⟨_,rfl,rfl,_,rfl,rfl⟩)⟩
 rintro c4 H rfl
 refine fV (fun c=>?_) (fun c=>?_)
 ·exact⟨_,rfl,_,rfl,bA ⟨(by show (0:Int) < r;exact r0),zI (by show 2<=1000;decide),fun p hp=>q _ (.inn _) _ (zF hp _) (.inn zC) trivial (by show (1:Int)<=hi;lia)⟩⟩
 refine⟨fun c H'=>H'=H/\(c=true->0 < (b:Int)),?_,?_⟩
 ·refine⟨_,rfl,rfl,_,rfl,fV (fun c=>⟨_,rfl,bA ⟨_,rfl,rfl,fun z=>of_decide_eq_true z⟩⟩) (fun c=>⟨rfl,fun z=>(by cases z)⟩)⟩
 rintro c5 H ⟨rfl,hc5⟩
 refine fV (fun c=>?_) (fun c=>?_)
 ·have hh:=hc5 c
  exact⟨_,rfl,_,rfl,bA ⟨(by show (0:Int) < (b:Int);exact hh),_,rfl,bA ⟨⟨by decide,by decide⟩,_,_,rfl,rfl,(by show (0:Int) < 4;decide),zI (by show 3<=1000;decide),fun p hp=>q _ (.is _ _) _ (zF hp _) (.is zC) ⟨pU _ (by lia),qZ _ hh⟩ (by show (1:Int)<=hi;lia)⟩⟩⟩
 refine⟨fun c H'=>H'=H/\(c=true->0 < (b:Int)),?_,?_⟩
 ·refine⟨_,rfl,rfl,_,rfl,fV (fun c=>⟨_,rfl,bA ⟨_,rfl,rfl,fun z=>of_decide_eq_true z⟩⟩) (fun c=>⟨rfl,fun z=>(by cases z)⟩)⟩
 rintro c6 H ⟨rfl,hc6⟩
 refine fV (fun c=>?_) (fun c=>?_)
 ·have hh:=hc6 c
  exact⟨_,rfl,_,rfl,bA ⟨(by show (0:Int) < (b:Int);exact hh),_,rfl,bA ⟨⟨by decide,by decide⟩,_,_,rfl,rfl,(by show (0:Int) < 5;decide),zI (by show 3<=1000;decide),fun p hp=>q _ (.under _ _) _ (zF hp _) (.under zC) ⟨pU _ (by lia),qZ _ hh⟩ (by show (1:Int)<=hi;lia)⟩⟩⟩
 exact⟨zI (by show 1<=1000;decide),fun p hp=>q _ .yes _ (zF hp _) (.yes zC) trivial (by show (1:Int)<=hi;lia)⟩
theorem JB{f:Addr}{fd:FuncData}:aG P w K mg base aY 0 f fd ["_law_number","_law_rooms_here","_law_boxes","_law_high"] (kj 0):=by
 have no:∀ vs H Q E,¬ kj 0 vs H Q E:=fun vs H Q E h=>by
  refine aK fun G_ g_=>?_
  obtain⟨m,r,hi,b,_,_,h1,h2,_⟩:=h
  refine g_ ?_
  clear g_ G_
  lia
 exact⟨fun vs H Q E h=>absurd h (no vs H Q E),fun A outer s H args us vs Q E _ _ _ _ h=>absurd h (no vs H Q E)⟩
theorem all_guard{f:Addr}{fd:FuncData}(F:cz K "_law_guard" "_law_guard" iK f fd)(cU:Binds K fd ["_law_number","_law_rooms_here","_law_boxes","_law_high"] [])(cT:mg "_law_guard" = some (.ref f)):∀ n:Nat,aG P w K mg base aY n f fd ["_law_number","_law_rooms_here","_law_boxes","_law_high"] (kj n)
 | 0=>JB
 | n+1=>RZ F (all_guard F cU cT n) cU F.kp cT
theorem CN{ds:List Int}{k:Nat}(h:k < ds.length):sY (ds.map V.int) ((k:Nat):Int)=some (.int (ds.getD k 0)):=by
 refine yQ ?_
 rw[cZ,fu h,kW,fu h]
 rfl
noncomputable def Low(ds:List Int):Prop:=∀ k,k < ds.length->ds.getD k 0<=4
theorem Low.snoc{ds:List Int}{v:Int}(h:Low ds)(hv:v<=4):Low (ds++[v]):=fun k hk=>by
 rw[kW]
 by_cases e:k < ds.length
 ·rw[QC e,<-kW]
  exact h k e
 ·have:k=ds.length:=by
   rw[fU,jf]at hk
   lia
  subst this
  rw[Yn (bT _),Nat.sub_self]
  exact hv
noncomputable def Ef(K:bO):Sp:=fun vs H Q _ => ∃(a:Addr)(ns:List Int)(m:Nat),vs=[.ref a,.int (m:Int)]/\aQ K H a (ns.map V.int)/\ns.length<=63/\1<=m/\m<=12 ∧
 ∀(p:Addr)(ds:List Int)(H':Hp),aJ H H'->H p=none->H' p=some (.lst (ds.map V.int))->Tr.Good ds->Low ds->ds.length=m->Q (.ref p) H'
theorem jW:aH ["_law_script","_law_many","_law_depths_here","_law_k"] ["_law_script","_law_many"] (aA lD):=fO
theorem Nj{f gm:Addr}{fd dm:FuncData}(F:cz K "_law_depths" "_law_depths" lD f fd)(aW:aG P w K mg base aY 2 gm dm ["_law_script","_law_k","_law_salt"] (kZ K))(aV:Binds K dm ["_law_script","_law_k","_law_salt"] [])(aU:KI K gm)(aR:mg "_law_mixed" = some (.ref gm))
  (az:mg "range" = none) (qD7:mg "min" = none):aG P w K mg base aY 3 f fd ["_law_script","_law_many"] (Ef K):=by
 refine F.ok jW (fun vs H Q E h=>?_) (fun cdv A outer s H vs Q E hr h=>?_)
 ·refine aK fun G_ g_=>?_
  obtain⟨a,ns,m,rfl,_⟩:=h
  refine g_ ?_
  clear g_ G_
  rfl
 refine aK fun G_ g_=>?_
 obtain⟨a,ns,m,rfl,hS,h63,m1,m12,q⟩:=h
 refine g_ ?_
 clear g_ G_
 refine⟨_,(zE (zK (i:=2) jW.nd rfl (Or.inl rfl) (yK (zA zB zD)))
  (zZ (cj PassesOwn.never rfl (tM rfl az (zA zB (zA (pv 1) zD))) (yJ (i:=3) jW.nd rfl (Or.inl rfl))
  (zG (yI (dz jM sy sZ yH (pv 2) (zA (yC yF zB (yC zY (zJ aW hr rfl aR aU aV .nil yE (zA (pv 0) (zA (yC yF zB (pv 3)) (zA zB zD)))) (yC yF (zS (PJ rfl) rfl qD7 PyProof.Rows.boot_min (zA (yB yU (pv 2) (yC jZ (pv 3) zB) (fun _ _=>rfl)) (zA zB zD))) zB))) zD)))))
  (zG (zO (pv 2))))),?_⟩
 refine⟨zI (by show 1<=1000;decide),fun pd hpd=>?_⟩
 refine⟨fun σ' H' => ∃ dl:List Int,aJ H H'/\H' pd=some (.lst (dl.map V.int))/\Tr.Good dl/\Low dl/\dl.length=m/\∃ o3:Option V,σ'=[some (.ref a),some (.int (m:Int)),some (.ref pd),o3],?_,?_⟩
 ·refine⟨_,rfl,1,(m:Int),rfl,⟨by decide,by decide,by lia,by lia⟩,?_⟩
  refine cX (fun i σ' H' => ∃ dl:List Int,aJ H H'/\H' pd=some (.lst (dl.map V.int))/\Tr.Good dl/\Low dl/\dl.length=i+1/\∃ o3:Option V,σ'=[some (.ref a),some (.int (m:Int)),some (.ref pd),o3])
   ⟨[0],zF hpd _,zC,.one,(fun k hk=>by (have:k=0:=by simpa using hk);subst this;decide),rfl,none,rfl⟩ ?_ ?_
  ·rintro i σ' H2 hi aZ
   refine aK fun G_ g_=>?_
   obtain⟨dl,s2,h2,good,low,hl,o3,rfl⟩:=aZ
   refine g_ ?_
   clear g_ G_
   have gn:=good.nonneg i (by lia)
   have hat:sY (dl.map V.int) (1+(i:Int) - 1)=some (.int (dl.getD i 0)):=by
    rw[show (1+(i:Int)) - 1=(i:Int) by lia]
    exact CN (by lia)
   refine⟨_,rfl,.inl ⟨rfl,_,aQ.of h2⟩,_,rfl,_,rfl,bA ⟨a,ns,_,_,rfl,s2.seq hS,h63,⟨by lia,by lia⟩,⟨by decide,by decide⟩,fun y y0 y1=>?_⟩⟩
   have tp:0<=(if (3:Int) < dl.getD i 0 then 3 else dl.getD i 0)/\(if (3:Int) < dl.getD i 0 then 3 else dl.getD i 0)<=dl.getD i 0/\(if (3:Int) < dl.getD i 0 then 3 else dl.getD i 0)<=3:=by split <;> lia
   have hy0:=pU y (show (if (3:Int) < dl.getD i 0 then 3 else dl.getD i 0)+1 ≠ 0 by lia)
   have hy1:=qZ y (show 0 < (if (3:Int) < dl.getD i 0 then 3 else dl.getD i 0)+1 by lia)
   refine⟨_,rfl,_,rfl,bA (cC (aQ.of h2) hat ⟨_,_,rfl,bA (bA ⟨(by show (0:Int) < (if (3:Int) < dl.getD i 0 then 3 else dl.getD i 0)+1;lia),_,_,rfl,rfl,pd,_,_,rfl,rfl,h2,zV (by rw[bZ];lia),?_⟩)⟩)⟩
   refine⟨dl++[1+y % ((if (3:Int) < dl.getD i 0 then 3 else dl.getD i 0)+1)],dR hpd s2 _,?_,good.snoc (by lia) (by rw[hl,Nat.add_sub_cancel];lia),low.snoc (by lia),by simp [hl],_,rfl⟩
   rw[zC,kI]
   rfl
  ·rintro σ' H2 aZ
   refine aK fun G_ g_=>?_
   obtain⟨dl,s2,h2,good,low,hl,o3,rfl⟩:=aZ
   refine g_ ?_
   clear g_ G_
   exact⟨dl,s2,h2,good,low,by lia,o3,rfl⟩
 rintro σ' H2 aZ
 refine aK fun G_ g_=>?_
 obtain⟨dl,s2,h2,good,low,hl,o3,rfl⟩:=aZ
 refine g_ ?_
 clear g_ G_
 exact⟨_,rfl,q pd dl H2 s2 hpd h2 good low hl⟩
noncomputable def Kh(K:bO):Sp:=fun vs H Q _ => ∃(a pd ps:Addr)(ns ds sz:List Int)(e:Int),vs=[.ref a,.ref pd,.ref ps,.int e]/\aQ K H a (ns.map V.int)/\ns.length<=63/\H pd=some (.lst (ds.map V.int))/\ds.length<=12/\jV H ps sz ∧
 ∀(t:Addr)(rv:List V)(rs:List Rm)(dis uZ:List (List Dd))(H':Hp),aJ H H'->H' t=some (.tup rv)->Ru.Pq sz.length H' rv rs dis uZ->aD rs=ds->Fit rs->Q (.ref t) H'
theorem au:aH ["_law_script","_law_depths_here","_law_sizes","_law_events","_law_rooms_here","_law_k","_law_number","_law_kind","_law_keeps","_law_lamp","_law_ins","_law_outs"] ["_law_script","_law_depths_here","_law_sizes","_law_events"] (aA Bf):=fO
theorem RT{f gm gn gd gc:Addr}{fd dm dn dd dc:FuncData}(F:cz K "_law_rooms" "_law_rooms" Bf f fd)(aW:aG P w K mg base aY 3 gm dm ["_law_script","_law_k","_law_salt"] (kZ K))(aV:Binds K dm ["_law_script","_law_k","_law_salt"] [])(aU:KI K gm)(aR:mg "_law_mixed" = some (.ref gm))
  (lZ:aG P w K mg base aY 3 gn dn ["_law_k","_law_number"] BJ) (lX:Binds K dn ["_law_k","_law_number"] []) (lM:KI K gn) (lH:mg "_law_name" = some (.ref gn))
  (sO:aG P w K mg base aY 3 gd dd ["_law_script","_law_k","_law_salt","_law_sizes","_law_events"] (BK K)) (sE:Binds K dd ["_law_script","_law_k","_law_salt","_law_sizes","_law_events"] []) (rO:KI K gd) (rN:mg "_law_deeds" = some (.ref gd))
  (jG:aG P w K mg base aY 3 gc dc ["_law_script","_law_k"] (BL K)) (jB:Binds K dc ["_law_script","_law_k"] []) (j6:KI K gc) (iy:mg "_law_cell_at" = some (.ref gc))
  (az:mg "range" = none) (aP:mg "len" = none) (aM:mg "tuple" = none):aG P w K mg base aY 4 f fd ["_law_script","_law_depths_here","_law_sizes","_law_events"] (Kh K):=by
 refine F.ok au (fun vs H Q E h=>?_) (fun cdv A outer s H vs Q E hr h=>?_)
 ·refine aK fun G_ g_=>?_
  obtain⟨a,pd,ps,ns,ds,sz,e,rfl,_⟩:=h
  refine g_ ?_
  clear g_ G_
  rfl
 refine aK fun G_ g_=>?_
 obtain⟨a,pd,ps,ns,ds,sz,e,rfl,hS,h63,hd,pQ,hsz,q⟩:=h
 refine g_ ?_
 clear g_ G_
 refine⟨_,(zE (zK (i:=4) au.nd rfl (Or.inl rfl) (yK zD))
  (zZ (cj PassesOwn.never rfl (cB rfl az (zA (zS zN rfl aP bV (zA (pv 1) zD)) zD)) (yJ (i:=5) au.nd rfl (Or.inl rfl))
  (zE (zK (i:=6) au.nd rfl (Or.inl rfl) (zJ aW hr rfl aR aU aV .nil yE (zA (pv 0) (zA (yC yF zB (pv 5)) (zA zB zD)))))
  (zE (zK (i:=7) au.nd rfl (Or.inl rfl) zP)
  (zE (zK (i:=8) au.nd rfl (Or.inl rfl) zP)
  (zZ (yD (bQ (PW.pt (pw_and (zL nJ (yC yF (pv 5) zB) (zS zN rfl aP bV (zA (pv 1) zD)) (zR _)) (yP (zL gM (yB yU (pv 1) (yC yF (pv 5) zB) (fun _ _=>rfl)) (yB yU (pv 1) (pv 5) (fun _ _=>rfl)) (zR _))))))
  (zE (zK (i:=7) au.nd rfl (Or.inl rfl) (yB yU (yK (zA zP (zA zP (zA zP zD)))) (yC zY (pv 6) zB) (fun _ _=>rfl)))
  (zG (zK (i:=8) au.nd rfl (Or.inl rfl) (yB yU (yK (zA zP (zA zP (zA zP zD)))) (yC zY (yC yL (pv 6) zB) zB) (fun _ _=>rfl)))))
  zT)
  (zZ (yD (bQ (PW.pt (pw_and (zL yG (pv 7) zP (zR _)) (yP (zL yG (pv 8) zP (zR _))))))
  (zG (zK (i:=8) au.nd rfl (Or.inl rfl) zP))
  zT)
  (zE (zK (i:=9) au.nd rfl (Or.inl rfl) zP)
  (zZ (yD (zL yG (yC zY (yC yL (pv 6) zB) zB) zB (zR _))
  (zG (zK (i:=9) au.nd rfl (Or.inl rfl) (zJ lZ hr rfl lH lM lX .nil yE (zA (yC zY (yC yL (pv 6) zB) zB) (zA (yC yL (pv 6) zB) zD)))))
  zT)
  (zE (zK (i:=10) au.nd rfl (Or.inl rfl) (zJ sO hr rfl rN rO sE .nil yE (zA (pv 0) (zA (yC yF zB (pv 5)) (zA zB (zA (pv 2) (zA (pv 3) zD)))))))
  (zE (zK (i:=11) au.nd rfl (Or.inl rfl) (zJ sO hr rfl rN rO sE .nil yE (zA (pv 0) (zA (yC yF zB (pv 5)) (zA zB (zA (pv 2) (zA (pv 3) zD)))))))
  (zG (yI (dz jM sy sZ yH (pv 4) (zA (zW (zA (zJ lZ hr rfl lH lM lX .nil yE (zA (pv 5) (zA (yC zY (zJ jG hr rfl iy j6 jB .nil yE (zA (pv 0) (zA zB zD))) zB) zD))) (zA (pv 7) (zA (yB yU (pv 1) (pv 5) (fun _ _=>rfl)) (zA (pv 8) (zA (pv 9) (zA (pv 10) (zA (pv 11) zD)))))))) zD))))))))))))))
  (zG (zO (yA zX rfl aM iT (zA (pv 4) zD)))))),?_⟩
 have lds:(ds.map V.int).length=ds.length:=bZ _
 refine⟨Nat.zero_le _,fun pr hpr=>?_⟩
 have s1:=zF hpr (.lst [])
 refine⟨fun σ' H' => ∃(vs:List V)(rs:List Rm)(dis uZ:List (List Dd)),aJ H H'/\H' pr=some (.lst vs)/\Ru.Pq sz.length H' vs rs dis uZ/\aD rs=ds/\Fit rs/\∃ o5 o6 o7 o8 o9 Fg Ff:Option V,σ'=[some (.ref a),some (.ref pd),some (.ref ps),some (.int e),some (.ref pr),o5,o6,o7,o8,o9,Fg,Ff],?_,?_⟩
 ·refine⟨_,rfl,fQ rfl (.inl (aQ.of (s1 _ _ hd))) ⟨_,rfl,by lia,by rw[lds];lia,?_⟩⟩
  refine cX (fun i σ' H' => ∃(vs:List V)(rs:List Rm)(dis uZ:List (List Dd)),aJ H H'/\H' pr=some (.lst vs)/\Ru.Pq sz.length H' vs rs dis uZ/\aD rs=ds.take i/\rs.length=i/\(∀(k:Nat)(x:Rm),rs[k]? = some x->if k+1 < ds.length/\ds.getD k 0 < ds.getD (k+1) 0 then (x.kind = "one" ∨ x.kind = "all") else x.kind = "plain") ∧
   ∃ o5 o6 o7 o8 o9 Fg Ff:Option V,σ'=[some (.ref a),some (.ref pd),some (.ref ps),some (.int e),some (.ref pr),o5,o6,o7,o8,o9,Fg,Ff]) ⟨[],[],[],[],s1,zC,Ru.Pq.nil _,rfl,rfl,(fun k x h=>by simp at h),none,none,none,none,none,none,none,rfl⟩ ?_ ?_
  ·rintro i σ' H3 hi aZ
   refine aK fun G_ g_=>?_
   obtain⟨vs,rs,dis,uZ,s3,h3,hI,Ck,hlen,hkd,o5,o6,o7,o8,o9,Fg,Ff,rfl⟩:=aZ
   refine g_ ?_
   clear g_ G_
   have hi':i < ds.length:=by
    simp only[List.length_map,Int.toNat_natCast]at hi
    exact hi
   have hd3:=s3 _ _ hd
   have hat:sY (ds.map V.int) (0+(i:Int))=some (.int (ds.getD i 0)):=by
    rw[Int.zero_add]
    exact CN hi'
   refine⟨_,rfl,_,rfl,bA ⟨a,ns,_,_,rfl,s3.seq hS,h63,⟨by lia,by lia⟩,⟨by decide,by decide⟩,fun x x0 x1=>?_⟩⟩
   refine⟨fun σ' H4=>aJ H3 H4/\∃ kd kp:Str,(if i+1 < ds.length/\ds.getD i 0 < ds.getD (i+1) 0 then (kd = "one" ∨ kd = "all") else kd = "plain")/\σ'=[some (.ref a),some (.ref pd),some (.ref ps),some (.int e),some (.ref pr),some (.int (0+(i:Int))),some (.int x),some (.str kd),some (.str kp),o9,Fg,Ff],?_,?_⟩
   ·refine⟨fun c H4=>H4=H3/\c=decide (i+1 < ds.length/\ds.getD i 0 < ds.getD (i+1) 0),?_,?_⟩
    ·refine⟨_,rfl,bA ⟨_,rfl,fQ rfl (.inl (aQ.of hd3)) (bA ⟨_,rfl,?_⟩)⟩⟩
     refine pJ (fun c=>?_) (fun c=>⟨rfl,?_⟩)
     ·have c':(0:Int)+(i:Int)+1 < (((ds.map V.int).length:Nat):Int):=of_decide_eq_true c
      rw[lds]at c'
      have xF:sY (ds.map V.int) (0+(i:Int)+1)=some (.int (ds.getD (i+1) 0)):=by
       rw[show (0:Int)+(i:Int)+1=((i+1:Nat):Int) by lia]
       exact CN (by lia)
      refine⟨_,rfl,_,rfl,bA (cC (aQ.of hd3) xF ⟨_,rfl,_,rfl,cC (aQ.of hd3) hat (bA ⟨_,rfl,rfl,?_⟩)⟩)⟩
      have e:i+1 < ds.length:=by lia
      simp [e]
     ·have c':¬ (0:Int)+(i:Int)+1 < (((ds.map V.int).length:Nat):Int):=fun z=>c (decide_eq_true z)
      rw[lds]at c'
      have e:¬ i+1 < ds.length:=by lia
      simp [e]
    rintro c H4 ⟨rfl,hc⟩
    refine pJ (fun c1=>?_) (fun c1=>?_)
    ·rw[c1]at hc
     have hc':=of_decide_eq_true hc.symm
     refine aK fun G_ g_=>?_
     obtain⟨kd,hkm,hk1⟩:=vK (zs:=[("one" : Str),"one","all"]) (i:=x % 3) (by lia) (by show _ < (3:Int);lia)
     obtain⟨kp,hpm,hk2⟩:=vK (zs:=[("" : Str),"near","deep"]) (i:=x / 3 % 3) (by lia) (by show _ < (3:Int);lia)
     refine g_ ?_
     clear g_ G_
     refine⟨zI (by show 3<=1000;decide),fun p5 VG=>?_⟩
     have s5:=zF VG (.lst [V.str "one",V.str "one",V.str "all"])
     refine⟨_,rfl,bA ⟨(by show (0:Int) < 3;decide),cC (aQ.of zC) hk1 ?_⟩⟩
     refine⟨zI (by show 3<=1000;decide),fun p6 hp6=>?_⟩
     have s6:=s5.trans (zF hp6 (.lst [V.str "",V.str "near",V.str "deep"]))
     refine⟨_,rfl,_,_,rfl,rfl,⟨by decide,by decide⟩,_,_,rfl,rfl,(by show (0:Int) < 3;decide),p6,_,_,_,rfl,rfl,aQ.of zC,hk2,s6,kd,kp,(by
      rw[if_pos hc']
      simp only[List.mem_cons,List.not_mem_nil,or_false]at hkm
      rcases hkm with h | h | h
      ·exact .inl h
      ·exact .inl h
      ·exact .inr h),rfl⟩
    ·rw[Bool.eq_false_iff.mpr c1]at hc
     have hc':=of_decide_eq_false hc.symm
     exact⟨aJ.refl _,_,_,(by rw[if_neg hc']),rfl⟩
   rintro σ5 H5 aZ
   refine aK fun G_ g_=>?_
   obtain⟨s4,kd,kp0,qHU,rfl⟩:=aZ
   refine g_ ?_
   clear g_ G_
   refine⟨fun σ' H6=>H6=H5/\∃ kp:Str,σ'=[some (.ref a),some (.ref pd),some (.ref ps),some (.int e),some (.ref pr),some (.int (0+(i:Int))),some (.int x),some (.str kd),some (.str kp),o9,Fg,Ff],?_,?_⟩
   ·refine⟨fun c H6=>H6=H5,?_,?_⟩
    ·exact⟨_,rfl,rfl,_,rfl,fV (fun c=>⟨_,rfl,rfl,_,rfl,rfl⟩) (fun c=>rfl)⟩
    rintro c H6 rfl
    exact fV (fun c=>⟨rfl,_,rfl⟩) (fun c=>⟨rfl,_,rfl⟩)
   rintro σ6 H6 aZ
   refine aK fun G_ g_=>?_
   obtain⟨rfl,kp,rfl⟩:=aZ
   refine g_ ?_
   clear g_ G_
   refine⟨fun σ' H7=>aJ H6 H7/\∃ lp:Str,σ'=[some (.ref a),some (.ref pd),some (.ref ps),some (.int e),some (.ref pr),some (.int (0+(i:Int))),some (.int x),some (.str kd),some (.str kp),some (.str lp),Fg,Ff],?_,?_⟩
   ·refine⟨_,rfl,bA ⟨⟨by decide,by decide⟩,_,_,rfl,rfl,(by show (0:Int) < 3;decide),rfl,_,rfl,fV (fun c=>?_) (fun c=>⟨aJ.refl _,_,rfl⟩)⟩⟩
    exact⟨_,rfl,bA ⟨⟨by decide,by decide⟩,_,_,rfl,rfl,(by show (0:Int) < 3;decide),_,rfl,bA ⟨⟨by decide,by decide⟩,_,_,rfl,fun z H7 s7=>⟨s7,z,rfl⟩⟩⟩⟩
   rintro σ7 H7 aZ
   refine aK fun G_ g_=>?_
   obtain⟨s7,lp,rfl⟩:=aZ
   refine g_ ?_
   clear g_ G_
   have s37:=(s3.trans s4).trans s7
   refine⟨_,rfl,_,rfl,bA ⟨_,rfl,_,rfl,a,ps,ns,sz,_,_,_,rfl,s37.seq hS,h63,⟨by lia,by lia⟩,⟨by decide,by decide⟩,hsz.mono s37,fun vi di H8 s8 hdi oki ldi=>?_⟩⟩
   have s38:=s37.trans s8
   refine⟨_,rfl,_,rfl,bA ⟨_,rfl,_,rfl,a,ps,ns,sz,_,_,_,rfl,s38.seq hS,h63,⟨by lia,by lia⟩,⟨by decide,by decide⟩,hsz.mono s38,fun vo dO H9 s9 hdo oko ldo=>?_⟩⟩
   have s39:=s38.trans s9
   have h9:=((s4.trans s7).trans (s8.trans s9)) _ _ h3
   refine⟨_,rfl,.inl ⟨rfl,_,aQ.of h9⟩,_,rfl,_,rfl,a,ns,_,rfl,s39.seq hS,h63,fun cv=>?_⟩
   refine (bA ⟨(by show (0:Int) < 997;decide),_,_,rfl,fun y HF Eo=>?_⟩)
   have t10:=((s4.trans s7).trans (s8.trans s9)).trans Eo
   have h10:=t10 _ _ h3
   refine⟨_,rfl,_,rfl,_,rfl,cC (aQ.of (t10 _ _ hd3)) hat ⟨_,rfl,_,rfl,_,rfl,_,rfl,zI (by show 7<=1000;decide),fun p7 hp7=>?_⟩⟩
   have u3:=zF hp7 (.tup [.str y,.str kd,.int (ds.getD i 0),.str kp,.str lp,vi,vo])
   have h7:=u3 _ _ h10
   have lv:=hI.inn.length
   have kl:=aB.lst h7 (.lst (vs++[.ref p7]))
   refine⟨pr,_,_,rfl,rfl,h7,zV (by lia),vs++[.ref p7],rs++[⟨y,kd,ds.getD i 0,kp,lp,vi,vo⟩],dis++[di],uZ++[dO],dR hpr ((s3.trans t10).trans u3) _,zC,Ru.Pq.snoc (hI.mono ((aB.of (t10.trans u3)).trans kl)) (r:=⟨y,kd,ds.getD i 0,kp,lp,vi,vo⟩) ⟨p7,rfl,kl _ _ zC⟩ (hdi.mono ((aB.of ((s9.trans Eo).trans u3)).trans kl)) (hdo.mono ((aB.of (Eo.trans u3)).trans kl)) ⟨oki,ldi⟩ ⟨oko,ldo⟩,?_,by simp [hlen],fun k x hx=>?_,_,_,_,_,_,_,_,rfl⟩
   ·unfold aD at Ck ⊢
    rw[kI,Ck,jN,fu hi',kW,fu hi']
    rfl
   ·by_cases hk:k < rs.length
    ·rw[QC hk]at hx
     exact hkd k x hx
    ·have hk':k=rs.length:=by
      have:=(mH.mp hx).1
      simp only[List.length_append,List.length_singleton]at this
      lia
     subst hk'
     rw[Yn (bT _)]at hx
     simp at hx
     subst hx
     rw[hlen]
     exact qHU
  ·rintro σ' H3 aZ
   refine aK fun G_ g_=>?_
   obtain⟨vs,rs,dis,uZ,s3,h3,hI,Ck,hlen,hkd,r⟩:=aZ
   refine g_ ?_
   clear g_ G_
   have e:(((ds.map V.int).length:Nat):Int).toNat=ds.length:=by simp
   rw[e]at Ck hlen
   rw[uw (bT _)]at Ck
   refine⟨vs,rs,dis,uZ,s3,h3,hI,Ck,fun k x hx=>?_,r⟩
   rw[Ck,hlen]
   exact hkd k x hx
 rintro σ' H3 aZ
 refine aK fun G_ g_=>?_
 obtain⟨vs,rs,dis,uZ,s3,h3,hI,Ck,hfit,o5,o6,o7,o8,o9,Fg,Ff,rfl⟩:=aZ
 refine g_ ?_
 clear g_ G_
 refine⟨_,rfl,pr,_,rfl,.inl ⟨aQ.of h3,fun t ht=>?_⟩⟩
 exact q t vs rs dis uZ _ (s3.trans (zF ht _)) zC (hI.mono (aB.new ht _)) Ck hfit
end
end ud
namespace ud
open PySem L2 qR sS Dh KY HS
open Ru (Wy Dx xX sU)
noncomputable def gV:Option Int->V
 | none=>.non
 | some j=>.int j
noncomputable def K4(n:Nat)(wy:Str)(g:Option Int):Prop:=(wy=("stay" : Str)/\g=none) ∨ ((wy=("to" : Str) ∨ wy=("back" : Str))/\∃ j:Int,g=some j/\0<=j/\j < (n:Int))
noncomputable def V0(n nb:Nat)(d:Dx):Prop:=d.room < n/\d.way.gl < n/\d.g.ok nb/\d.g.ht<=3/\(∀ x∈d.dd,x.ok nb)/\d.dd.length<=8
theorem K4.wy{n:Nat}{w:Str}{g:Option Int}(h:K4 n w g)(n0:0 < n):∃ y:Wy,y.tx=w/\y.gv=gV g/\y.gl < n:=by
 rcases h with ⟨rfl,rfl⟩ | ⟨h,j,rfl,j0,j1⟩
 ·exact⟨.stay,rfl,rfl,n0⟩
 ·have e:((j.toNat:Nat):Int)=j:=Int.toNat_of_nonneg j0
  rcases h with rfl | rfl
  ·exact⟨.to j.toNat,rfl,by show V.int ((j.toNat:Nat):Int)=V.int j;rw[e],by show j.toNat < n;lia⟩
  ·exact⟨.back j.toNat,rfl,by show V.int ((j.toNat:Nat):Int)=V.int j;rw[e],by show j.toNat < n;lia⟩
noncomputable def Kq(K:bO):Sp:=fun vs H Q _ => ∃(a t ps:Addr)(ns sz:List Int)(rs:List Rm)(m:Nat)(e:Int),vs=[.ref a,.int (m:Int),.ref t,.ref ps,.int e]/\aQ K H a (ns.map V.int)/\ns.length<=63/\m<=12/\cV H t rs/\1<=rs.length/\rs.length<=12/\jV H ps sz/\0<=e ∧
 ∀(p:Addr)(dv:List V)(ds:List Dx)(H':Hp),aJ H H'->H' p=some (.tup dv)->Al (xX H') dv ds->(∀ d∈ds,V0 rs.length sz.length d)->ds.length<=12->Q (.ref p) H'
section
variable{P:Program}{w:World}{K:bO}{mg:Str->Option Value}{base:Heap}
theorem ao:aH ["_law_script","_law_many","_law_rooms_here","_law_sizes","_law_events","_law_doors_here","_law_k","_law_number","_law_goal","_law_way","_law_keepers","_law_guard_here","_law_deeds_here","_law_place"] ["_law_script","_law_many","_law_rooms_here","_law_sizes","_law_events"] (aA jm):=fO
theorem Rb{f gm gg gd:Addr}{fd dm dg dd:FuncData}(F:cz K "_law_doors" "_law_doors" jm f fd)(aW:aG P w K mg base aY 3 gm dm ["_law_script","_law_k","_law_salt"] (kZ K))(aV:Binds K dm ["_law_script","_law_k","_law_salt"] [])(aU:KI K gm)(aR:mg "_law_mixed" = some (.ref gm))
  (jF:aG P w K mg base aY 3 gg dg ["_law_number","_law_rooms_here","_law_boxes","_law_high"] (kj 3)) (cU:Binds K dg ["_law_number","_law_rooms_here","_law_boxes","_law_high"] []) (j5:KI K gg) (cT:mg "_law_guard" = some (.ref gg))
  (sO:aG P w K mg base aY 3 gd dd ["_law_script","_law_k","_law_salt","_law_sizes","_law_events"] (BK K)) (sE:Binds K dd ["_law_script","_law_k","_law_salt","_law_sizes","_law_events"] []) (rO:KI K gd) (rN:mg "_law_deeds" = some (.ref gd))
  (az:mg "range" = none) (aP:mg "len" = none) (aM:mg "tuple" = none) (Fz:mg "int" = none):aG P w K mg base aY 4 f fd ["_law_script","_law_many","_law_rooms_here","_law_sizes","_law_events"] (Kq K):=by
 refine F.ok ao (fun vs H Q E h=>?_) (fun cdv A outer s H vs Q E hr h=>?_)
 ·refine aK fun G_ g_=>?_
  obtain⟨a,t,ps,ns,sz,rs,m,e,rfl,_⟩:=h
  refine g_ ?_
  clear g_ G_
  rfl
 refine aK fun G_ g_=>?_
 obtain⟨a,t,ps,ns,sz,rs,m,e,rfl,hS,h63,m12,hR,l1,V9,hsz,e0,q⟩:=h
 refine g_ ?_
 clear g_ G_
 refine⟨_,(zE (zK (i:=5) ao.nd rfl (Or.inl rfl) (yK zD))
  (zZ (cj PassesOwn.never rfl (cB rfl az (zA (yC fG (pv 1) (yA Af rfl Fz PyProof.Rows.boot_int (zA (iG gM (pv 4) zB (zR _)) zD))) zD)) (yJ (i:=6) ao.nd rfl (Or.inl rfl))
  (zE (zK (i:=7) ao.nd rfl (Or.inl rfl) (zJ aW hr rfl aR aU aV .nil yE (zA (pv 0) (zA (yC yF zB (pv 6)) (zA zB zD)))))
  (zE (zK (i:=8) ao.nd rfl (Or.inl rfl) (yC zY (yC yL (pv 7) zB) (zS zN rfl aP bV (zA (pv 2) zD))))
  (zE (zK (i:=9) ao.nd rfl (Or.inl rfl) (yB yU (yK (zA zP (zA zP (zA zP (zA zP (zA zP zD)))))) (yC zY (pv 7) zB) (fun _ _=>rfl)))
  (zE (vA (i:=10) (aa:=[(2,"_law_rooms_here")]) rfl ao.nd rfl (Or.inl rfl) (show bI (aA jm) ["_law_script","_law_many","_law_rooms_here","_law_sizes","_law_events","_law_doors_here","_law_k","_law_number","_law_goal","_law_way","_law_keepers","_law_guard_here","_law_deeds_here","_law_place"] _ _ _ from xO) (cB rfl az (zA (zS zN rfl aP bV (zA (pv 2) zD)) zD)) (fun _ _ _ _ _ _=>dC (zL mC (yB (r:=fY K) zH (yB (r:=fY K) zH (pv 1) (pv 0) (fun _ _=>rfl)) zB (fun _ _=>rfl)) zP (zR _))) (fun _ _ _ _ _ _=>(pv 0)))
  (zZ (yD (bQ (PW.pt (pw_and (zL yG (pv 9) zP (zR _)) (yP (zL yG (zS zN rfl aP bV (zA (pv 10) zD)) zB (zR _))))))
  (zG (zK (i:=9) ao.nd rfl (Or.inl rfl) zP))
  zT)
  (zZ (yD (zL yG (pv 9) zP (zR _))
  (zG (zK (i:=8) ao.nd rfl (Or.inl rfl) (yB yU (pv 10) (yC zY (pv 8) (zS zN rfl aP bV (zA (pv 10) zD))) (fun _ _=>rfl))))
  zT)
  (zZ (yD (zL yG (pv 9) zP (zR _))
  (zG (zK (i:=8) ao.nd rfl (Or.inl rfl) jX))
  zT)
  (zE (zK (i:=11) ao.nd rfl (Or.inl rfl) (zW (zA zP zD)))
  (zZ (yD (zL yG (yC zY (yC yL (pv 7) zB) zB) zB (zR _))
  (zG (zK (i:=11) ao.nd rfl (Or.inl rfl) (zJ jF hr rfl cT j5 cU .nil yE (zA (zJ aW hr rfl aR aU aV .nil yE (zA (pv 0) (zA (yC yF zB (pv 6)) (zA zB zD)))) (zA (zS zN rfl aP bV (zA (pv 2) zD)) (zA (zS zN rfl aP bV (zA (pv 3) zD)) (zA zB zD)))))))
  zT)
  (zE (zK (i:=12) ao.nd rfl (Or.inl rfl) (zJ sO hr rfl rN rO sE .nil yE (zA (pv 0) (zA (yC yF zB (pv 6)) (zA zB (zA (pv 3) (zA (pv 4) zD)))))))
  (zE (zK (i:=13) ao.nd rfl (Or.inl rfl) (yC zY (zJ aW hr rfl aR aU aV .nil yE (zA (pv 0) (zA (yC yF zB (pv 6)) (zA zB zD)))) (zS zN rfl aP bV (zA (pv 2) zD))))
  (zG (yI (dz jM sy sZ yH (pv 5) (zA (zW (zA (pv 13) (zA (yC zY (zJ aW hr rfl aR aU aV .nil yE (zA (pv 0) (zA (yC yF zB (pv 6)) (zA zB zD)))) (pv 4)) (zA (pv 11) (zA (pv 12) (zA (pv 9) (zA (pv 8) zD))))))) zD))))))))))))))))
  (zG (zO (yA zX rfl aM iT (zA (pv 5) zD)))))),?_⟩
 refine aK fun G_ g_=>?_
 obtain⟨rv,htr,hrs⟩:=hR
 refine g_ ?_
 clear g_ G_
 have SM:=hrs.length
 refine⟨Nat.zero_le _,fun pr hpr=>?_⟩
 have s1:=zF hpr (.lst [])
 refine⟨fun σ' H' => ∃(vs:List V)(ds:List Dx),aJ H H'/\H' pr=some (.lst vs)/\Al (xX H') vs ds/\(∀ d∈ds,V0 rs.length sz.length d)/\ds.length<=12/\∃ o6 o7 o8 o9 Fg Ff Wi Wh:Option V,σ'=[some (.ref a),some (.int (m:Int)),some (.ref t),some (.ref ps),some (.int e),some (.ref pr),o6,o7,o8,o9,Fg,Ff,Wi,Wh],?_,?_⟩
 ·have hN:((m:Int) * (if decide (0 < e)=true then 1 else 0)).toNat<=m/\(0 < ((m:Int) * (if decide (0 < e)=true then 1 else 0)).toNat->0 < e)/\((m:Int) * (if decide (0 < e)=true then 1 else 0))<=12/\0<=((m:Int) * (if decide (0 < e)=true then 1 else 0)):=by
   by_cases c:0 < e
   ·rw[if_pos (decide_eq_true c)]
    exact⟨by lia,fun _=>c,by lia,by lia⟩
   ·rw[if_neg (by rw[decide_eq_false c];exact qX)]
    exact⟨by lia,fun z=>by lia,by lia,by lia⟩
  refine⟨_,rfl,_,rfl,bA (.inr ⟨_,rfl,bA ⟨pP (by lia) (by lia),_,rfl,by lia,?_,?_⟩⟩)⟩
  ·exact Int.lt_of_le_of_lt hN.2.2.1 (by decide)
  refine cX (fun i σ' H' => ∃(vs:List V)(ds:List Dx),aJ H H'/\H' pr=some (.lst vs)/\Al (xX H') vs ds/\(∀ d∈ds,V0 rs.length sz.length d)/\ds.length=i/\∃ o6 o7 o8 o9 Fg Ff Wi Wh:Option V,σ'=[some (.ref a),some (.int (m:Int)),some (.ref t),some (.ref ps),some (.int e),some (.ref pr),o6,o7,o8,o9,Fg,Ff,Wi,Wh])
   ⟨[],[],s1,zC,.nil,(fun d h=>by cases h),rfl,none,none,none,none,none,none,none,none,rfl⟩ ?_ (fun σ' H' ⟨vs,ds,h1,h2,h3,h4,h5,h6⟩=>⟨vs,ds,h1,h2,h3,h4,by have:=hN.1;lia,h6⟩)
  rintro i σ' H3 hi aZ
  refine aK fun G_ g_=>?_
  obtain⟨vs,ds,s3,h3,hA,hfit,hlen,o6,o7,o8,o9,Fg,Ff,Wi,Wh,rfl⟩:=aZ
  refine g_ ?_
  clear g_ G_
  have him:i < 12:=by
   have:=hN.1
   lia
  have ep:0 < e:=hN.2.1 (by lia)
  refine⟨_,rfl,_,rfl,bA ⟨a,ns,_,_,rfl,s3.seq hS,h63,⟨by lia,by lia⟩,⟨by decide,by decide⟩,fun x x0 x1=>?_⟩⟩
  have lp:(0:Int) < ((rv.length:Nat):Int):=by lia
  have g00:=pU (x / 15) (show ((rv.length:Nat):Int) ≠ 0 by lia)
  have g01:=qZ (x / 15) lp
  refine⟨_,rfl,bA ⟨⟨by decide,by decide⟩,_,rfl,fQ rfl (.inr (aL.of (s3 _ _ htr))) (bA ⟨lp,?_⟩)⟩⟩
  refine aK fun G_ g_=>?_
  obtain⟨w0,hw0,qHX⟩:=vK (zs:=[("to" : Str),"to","back","back","stay"]) (i:=x % 5) (by lia) (by show _ < (5:Int);lia)
  refine g_ ?_
  clear g_ G_
  refine⟨zI (by show 5<=1000;decide),fun p5 VG=>⟨_,rfl,bA ⟨(by show (0:Int) < 5;decide),cC (aQ.of zC) qHX ?_⟩⟩⟩
  have s5:=zF VG (.lst [V.str "to",V.str "to",V.str "back",V.str "back",V.str "stay"])
  generalize YJ:upd H3 p5 (.lst [V.str "to",V.str "to",V.str "back",V.str "back",V.str "stay"])=H5 at s5 ⊢
  have Z2:=s3.trans s5
  refine⟨_,rfl,fQ rfl (.inr (aL.of (Z2 _ _ htr))) ⟨_,rfl,by lia,by lia,?_⟩⟩
  refine lV (fun i' acc H'=>H'=H5/\∃ js:List Nat,acc=aC js/\js.length<=i'/\(∀ j∈js,j < rs.length)) ⟨rfl,[],rfl,bT _,fun j z=>by cases z⟩ (fun i' acc H' hi2 ⟨e1,js,e2,e3,e4⟩=>?_) (fun acc H' ⟨e1,js,e2,e3,e4⟩ p2 hp2=>?_)
  ·subst e1 e2
   have hj:i' < rs.length:=by lia
   refine aK fun G_ g_=>?_
   obtain⟨v2,hv2,a2,rfl,ha2⟩:=hrs.get (fu hj)
   refine g_ ?_
   clear g_ G_
   have xF:sY rv (0+(i':Int))=some (.ref a2):=by
    rw[Int.zero_add]
    exact yQ hv2
   refine⟨_,rfl,_,rfl,aF (aL.of (Z2 _ _ htr)) xF (aF (aL.of (Z2 _ _ ha2)) rfl ⟨rfl,_,rfl,?_⟩)⟩
   refine fV (fun c=>?_) (fun c=>⟨rfl,js,rfl,by lia,e4⟩)
   refine⟨_,rfl,zV (by rw[zU];lia),rfl,js++[i'],?_,by simp;lia,fun j z=>?_⟩
   ·rw[<-iM,Int.zero_add]
   ·rcases gW.mp z with z | z
    ·exact e4 j z
    ·rw[dJ.mp z]
     exact hj
  subst e1 e2
  have s6:=zF hp2 (.lst (aC js))
  have h6:upd H' p2 (.lst (aC js)) p2=some (.lst (aC js)):=zC
  generalize hH6:upd H' p2 (.lst (aC js))=H6 at s6 h6 ⊢
  have s36:=Z2.trans s6
  have ln:=zU js
  refine⟨fun σ' H'=>H'=H6/\∃ wy:Str,(wy = "to" ∨ wy = "back" ∨ wy = "stay")/\(wy = "back" -> js ≠ [])/\σ'=[some (.ref a),some (.int (m:Int)),some (.ref t),some (.ref ps),some (.int e),some (.ref pr),some (.int (0+(i:Int))),some (.int x),some (.int (x / 15 % ((rv.length:Nat):Int))),some (.str wy),some (.ref p2),Ff,Wi,Wh],?_,?_⟩
  ·refine⟨fun c H'=>H'=H6/\(c=false->w0 = "back" -> js ≠ []),?_,?_⟩
   ·refine⟨_,rfl,rfl,_,rfl,fV (fun c=>?_) (fun c=>⟨rfl,fun _ z=>?_⟩)⟩
    ·exact⟨_,rfl,p2,_,rfl,.inl (aQ.of h6),rfl,_,rfl,rfl,fun z _ z2=>by
      subst z2
      exact of_decide_eq_false z rfl⟩
    ·exact absurd (by rw[z]) (of_decide_eq_false c)
   rintro c H' ⟨rfl,hc⟩
   refine fV (fun c=>?_) (fun c=>?_)
   ·exact⟨rfl,_,.inl rfl,fun z=>absurd z (by decide),rfl⟩
   ·refine⟨rfl,w0,?_,hc c,rfl⟩
    simp only[List.mem_cons,List.not_mem_nil,or_false]at hw0
    rcases hw0 with h | h | h | h | h
    ·exact .inl h
    ·exact .inl h
    ·exact .inr (.inl h)
    ·exact .inr (.inl h)
    ·exact .inr (.inr h)
  rintro σ7 H7 aZ
  refine aK fun G_ g_=>?_
  obtain⟨rfl,wy,hwy,hne,rfl⟩:=aZ
  refine g_ ?_
  clear g_ G_
  refine⟨fun σ' H'=>H'=H7/\∃ g:Int,0<=g/\g < (rs.length:Int)/\σ'=[some (.ref a),some (.int (m:Int)),some (.ref t),some (.ref ps),some (.int e),some (.ref pr),some (.int (0+(i:Int))),some (.int x),some (.int g),some (.str wy),some (.ref p2),Ff,Wi,Wh],?_,?_⟩
  ·refine⟨_,rfl,rfl,_,rfl,fV (fun c=>?_) (fun c=>⟨rfl,_,g00,by lia,rfl⟩)⟩
   have c':V.str wy=V.str "back" := of_decide_eq_true c
   have wb:wy = "back" := by injection c'
   have ljs:0 < js.length:=List.length_pos_iff.mpr (hne wb)
   refine aK fun G_ g_=>?_
   obtain⟨pk,hpm,TJ⟩:=Fq (os:=js) (i:=(x / 15 % ((rv.length:Nat):Int)) % (((aC js).length:Nat):Int)) (pU _ (by lia)) (by
     have:=qZ (x / 15 % ((rv.length:Nat):Int)) (show (0:Int) < (((aC js).length:Nat):Int) by lia)
     lia)
   refine g_ ?_
   clear g_ G_
   refine⟨_,rfl,_,rfl,_,rfl,fQ rfl (.inl (aQ.of h6)) (bA ⟨(by show (0:Int) < (((aC js).length:Nat):Int);lia),cC (aQ.of h6) TJ ⟨rfl,_,by lia,?_,rfl⟩⟩)⟩
   have:=e4 pk hpm
   lia
  rintro σ8 H8 aZ
  refine aK fun G_ g_=>?_
  obtain⟨rfl,g,g0,g1,rfl⟩:=aZ
  refine g_ ?_
  clear g_ G_
  refine⟨fun σ' H'=>H'=H8/\∃ gv:Option Int,K4 rs.length wy gv/\σ'=[some (.ref a),some (.int (m:Int)),some (.ref t),some (.ref ps),some (.int e),some (.ref pr),some (.int (0+(i:Int))),some (.int x),some (gV gv),some (.str wy),some (.ref p2),Ff,Wi,Wh],?_,?_⟩
  ·refine⟨_,rfl,rfl,_,rfl,fV (fun c=>?_) (fun c=>?_)⟩
   ·have c':V.str wy=V.str "stay" := of_decide_eq_true c
    exact⟨rfl,none,.inl ⟨by injection c',rfl⟩,rfl⟩
   ·refine⟨rfl,some g,.inr ⟨?_,g,rfl,g0,g1⟩,rfl⟩
    rcases hwy with h | h | h
    ·exact .inl h
    ·exact .inr h
    ·exact absurd (by rw[h]) (of_decide_eq_false c)
  rintro σ9 H9 aZ
  refine aK fun G_ g_=>?_
  obtain⟨rfl,gv,hgv,rfl⟩:=aZ
  refine g_ ?_
  clear g_ G_
  refine⟨zI (by show 1<=1000;decide),fun p9 hp9=>?_⟩
  have s9:=zF hp9 (.tup [V.str "yes"])
  have g9:jd (upd H9 p9 (.tup [V.str "yes"])) (.ref p9) .yes:=.yes zC
  generalize hH10:upd H9 p9 (.tup [V.str "yes"])=HF at s9 g9 ⊢
  have s39:=s36.trans s9
  refine⟨fun σ' H'=>aJ HF H'/\∃(gd:V)(g:Gd),jd H' gd g/\g.ok sz.length/\g.ht<=3/\σ'=[some (.ref a),some (.int (m:Int)),some (.ref t),some (.ref ps),some (.int e),some (.ref pr),some (.int (0+(i:Int))),some (.int x),some (gV gv),some (.str wy),some (.ref p2),some gd,Wi,Wh],?_,?_⟩
  ·refine⟨_,rfl,bA ⟨⟨by decide,by decide⟩,_,_,rfl,rfl,(by show (0:Int) < 2;decide),rfl,_,rfl,fV (fun c=>?_) (fun c=>⟨aJ.refl _,_,_,g9,trivial,(by show 1<=3;decide),rfl⟩)⟩⟩
   refine⟨_,rfl,_,rfl,bA ⟨a,ns,_,_,rfl,s39.seq hS,h63,⟨by lia,by lia⟩,⟨by decide,by decide⟩,fun y y0 y1=>?_⟩⟩
   exact⟨_,rfl,fQ rfl (.inr (aL.of (s39 _ _ htr))) ⟨_,rfl,fQ rfl (.inl (aQ.of (hsz.mono s39).1)) ⟨_,_,_,sz.length,(by rw[bZ];rfl),lp,by decide,by decide,fun v g H' s' hg X4 ght=>⟨s',v,g,hg,X4,(by lia),rfl⟩⟩⟩⟩
  rintro σ10 Xk aZ
  refine aK fun G_ g_=>?_
  obtain⟨Eo,gd,gg,hgd,X4,ght,rfl⟩:=aZ
  refine g_ ?_
  clear g_ G_
  have qCF:=s39.trans Eo
  refine⟨_,rfl,_,rfl,bA ⟨_,rfl,_,rfl,a,ps,ns,sz,_,_,_,rfl,qCF.seq hS,h63,⟨by lia,by lia⟩,⟨by decide,by decide⟩,hsz.mono qCF,fun vd dd H12 s12 hdd okd ldd=>?_⟩⟩
  have t12:aJ H3 H12:=(((s5.trans s6).trans s9).trans Eo).trans s12
  have Vm:=s3.trans t12
  have h12:=t12 _ _ h3
  refine⟨_,rfl,_,rfl,bA ⟨a,ns,_,_,rfl,Vm.seq hS,h63,⟨by lia,by lia⟩,⟨by decide,by decide⟩,fun y y0 y1=>?_⟩⟩
  refine⟨_,rfl,fQ rfl (.inr (aL.of (Vm _ _ htr))) (bA ⟨lp,?_⟩)⟩
  refine⟨_,rfl,.inl ⟨rfl,_,aQ.of h12⟩,_,rfl,_,rfl,_,rfl,bA ⟨a,ns,_,_,rfl,Vm.seq hS,h63,⟨by lia,by lia⟩,⟨by decide,by decide⟩,fun ye ye0 ye1=>?_⟩⟩
  refine⟨_,rfl,bA ⟨(by show (0:Int) < e;exact ep),_,rfl,_,rfl,_,rfl,_,rfl,zI (by show 6<=1000;decide),fun Y9 qAI=>?_⟩⟩
  refine aK fun G_ g_=>?_
  obtain⟨wy2,w1,w2,w3⟩:=hgv.wy (show 0 < rs.length by lia)
  refine g_ ?_
  clear g_ G_
  have y2:=pU y (show ((rv.length:Nat):Int) ≠ 0 by lia)
  have y3:=qZ y lp
  have Xv:=zF qAI (.tup [.int (y % ((rv.length:Nat):Int)),.int (ye % e),gd,vd,.str wy,gV gv])
  have i13:upd H12 Y9 (.tup [.int (y % ((rv.length:Nat):Int)),.int (ye % e),gd,vd,.str wy,gV gv]) Y9=some (.tup [.int (((y % ((rv.length:Nat):Int)).toNat:Nat):Int),.int (ye % e),gd,vd,.str wy2.tx,wy2.gv]):=by
   rw[zC,w1,w2,Int.toNat_of_nonneg y2]
  have h13:=Xv _ _ h12
  generalize upd H12 Y9 (.tup [.int (y % ((rv.length:Nat):Int)),.int (ye % e),gd,vd,.str wy,gV gv])=H13 at Xv i13 h13 ⊢
  have lv:=hA.length
  have kl:=aB.lst h13 (.lst (vs++[.ref Y9]))
  refine⟨pr,_,_,rfl,rfl,h13,zV (by lia),vs++[.ref Y9],ds++[⟨(y % ((rv.length:Nat):Int)).toNat,ye % e,gg,dd,wy2⟩],dR hpr (Vm.trans Xv) _,zC,Al.snoc (hA.mono fun _ _ z=>z.mono ((aB.of (t12.trans Xv)).trans kl)) ⟨Y9,gd,vd,rfl,kl _ _ i13,hgd.mono ((aB.of (s12.trans Xv)).trans kl),hdd.mono ((aB.of Xv).trans kl)⟩,fun d hd=>?_,by simp [hlen],_,_,_,_,_,_,_,_,rfl⟩
  rcases gW.mp hd with hd | hd
  ·exact hfit d hd
  ·rw[dJ.mp hd]
   exact⟨by show (y % ((rv.length:Nat):Int)).toNat < rs.length;lia,w3,X4,ght,okd,ldd⟩
 rintro σ' H3 aZ
 refine aK fun G_ g_=>?_
 obtain⟨vs,ds,s3,h3,hA,hfit,hlen,o6,o7,o8,o9,Fg,Ff,Wi,Wh,rfl⟩:=aZ
 refine g_ ?_
 clear g_ G_
 refine⟨_,rfl,pr,_,rfl,.inl ⟨aQ.of h3,fun p hp=>?_⟩⟩
 exact q p vs ds _ (s3.trans (zF hp _)) zC (hA.mono fun _ _ z=>z.mono (aB.new hp _)) hfit hlen
end
end ud
namespace ud
open PySem L2 qR sS Dh KY HS
open Ru (Wy Dx xX sU dZ uv HR Yc)
theorem int_at{zs:List Int}{i:Int}(h0:0<=i)(h1:i < (zs.length:Int)):∃ z∈zs,sY (zs.map V.int) i=some (.int z):=by
 obtain⟨v,hv,e⟩:=jy (xs:=zs.map V.int) (i:=i) h0 (by rw[bZ];exact h1)
 obtain⟨z,hz,rfl⟩:=iU.mp hv
 exact⟨z,hz,e⟩
noncomputable def Ka(H:Hp)(v:V)(z:Int × Int):Prop:=∃(a:Addr)(nm:Str),v = .ref a/\H a=some (.tup [.str nm,.int z.1,.int z.2])
theorem Ka.mono{H H':Hp}{v:V}{r:Int × Int}(x:Ka H v r)(k:aB H H'):Ka H' v r:=by
 obtain⟨a,nm,e,h⟩:=x
 exact⟨a,nm,e,k _ _ h⟩
theorem Yb{H:Hp}{vs:List V}{bs:List (Int × Int)}(x:Al (Ka H) vs bs):Al (Ru.Q0 H) vs (bs.map (·.1)):=by
 induction x with
 | nil=>exact .nil
 | cons h _ ih=>
  obtain⟨a,nm,e,h⟩:=h
  exact .cons ⟨a,_,_,e,h⟩ ih
noncomputable def V2(H:Hp)(p:Addr)(c:dZ)(bs:List (Int × Int))(ne:Nat):Prop:=∃(pb pn t pd:Addr)(bv nv rv dv:List V),H p=some (.tup [.str c.od,.int (c.lb:Int),.int (c.tn:Int),.ref pb,.ref pn,.ref t,.ref pd])/\H pb=some (.tup bv)/\Al (Ka H) bv bs/\H pn=some (.tup nv)/\nv.length=ne/\H t=some (.tup rv)/\gj H rv c.rs/\Yc H c.rs c.di c.dO/\H pd=some (.tup dv)/\Al (xX H) dv c.ds
theorem V2.mono{H H':Hp}{p:Addr}{c:dZ}{bs:List (Int × Int)}{ne:Nat}(x:V2 H p c bs ne)(k:aB H H'):V2 H' p c bs ne:=by
 obtain⟨pb,pn,t,pd,bv,nv,rv,dv,h1,h2,h3,h4,h5,h6,h7,h8,h9,h10⟩:=x
 exact⟨pb,pn,t,pd,bv,nv,rv,dv,k _ _ h1,k _ _ h2,h3.mono fun _ _ z=>z.mono k,k _ _ h4,h5,k _ _ h6,h7.mono k,h8.mono k,k _ _ h9,h10.mono fun _ _ z=>z.mono k⟩
structure xZ(c:dZ)(bs:List (Int × Int)):Prop where
 ok:HR c
 sz:c.sz=bs.map (·.1)
 st:∀ b∈bs,0<=b.2/\b.2 < b.1
 fit:Fit c.rs
 low:Low (aD c.rs)
 l10:c.rs.length<=10
 g:∀ d∈c.ds,d.g.ok c.sz.length/\d.g.ht<=3
 l5:c.lb<=5
 t4:1<=c.tn/\c.tn<=4
theorem V2.ch{H:Hp}{p:Addr}{c:dZ}{bs:List (Int × Int)}{ne:Nat}(x:V2 H p c bs ne)(o:xZ c bs):uv H p c:=by
 obtain⟨pb,pn,t,pd,bv,nv,rv,dv,h1,h2,h3,h4,h5,h6,h7,h8,h9,h10⟩:=x
 exact⟨pb,t,pd,_,bv,dv,h1,h2,by rw[o.sz];exact Yb h3,⟨rv,h6,h7⟩,h8,h9,h10⟩
noncomputable def Kr(K:bO):Sp:=fun vs H Q _ => ∃(a:Addr)(ns:List Int),vs=[.ref a]/\aQ K H a (ns.map V.int)/\ns.length<=63 ∧
 ∀(p:Addr)(c:dZ)(bs:List (Int × Int))(ne:Nat)(H':Hp),aJ H H'->V2 H' p c bs ne->xZ c bs->ne<=8->Q (.ref p) H'
section
variable{P:Program}{w:World}{K:bO}{mg:Str->Option Value}{base:Heap}
abbrev UW:Scope:=⟨.function,[("_law_script",.cell),("_law_many",.local),("_law_events",.local),("_law_boxes",.local),("_law_k",.local),("_law_size",.local),("_law_sizes",.local),("_law_names",.local),("_law_rooms_here",.local),("_law_count",.local),("_law_doors_here",.local),("_law_order",.local),("_law_letters",.local),("_law_turns",.local),("_law_mixed",.globalImplicit),("range",.globalImplicit),("_law_cell_at",.globalImplicit),("_law_name",.globalImplicit),("tuple",.globalImplicit),("_law_rooms",.globalImplicit),("_law_depths",.globalImplicit),("_law_doors",.globalImplicit)],false,false,(aA jn).more⟩
theorem XS:aA jn=UW:=by rfl
theorem aX:aH ["_law_script","_law_many","_law_events","_law_boxes","_law_k","_law_size","_law_sizes","_law_names","_law_rooms_here","_law_count","_law_doors_here","_law_order","_law_letters","_law_turns"] ["_law_script"] UW:=fO
theorem Rg{n:Nat}{f gm gc gn ge gr gd:Addr}{fd dm dc dn de dr dd:FuncData}(F:cz K "_law_chart" "_law_chart" jn f fd)(aW:aG P w K mg base aY n gm dm ["_law_script","_law_k","_law_salt"] (kZ K))(aV:Binds K dm ["_law_script","_law_k","_law_salt"] [])(aU:KI K gm)(aR:mg "_law_mixed" = some (.ref gm))
  (jG:aG P w K mg base aY n gc dc ["_law_script","_law_k"] (BL K)) (jB:Binds K dc ["_law_script","_law_k"] []) (j6:KI K gc) (iy:mg "_law_cell_at" = some (.ref gc))
  (lZ:aG P w K mg base aY n gn dn ["_law_k","_law_number"] BJ) (lX:Binds K dn ["_law_k","_law_number"] []) (lM:KI K gn) (lH:mg "_law_name" = some (.ref gn))
  (Pr:aG P w K mg base aY n ge de ["_law_script","_law_many"] (Ef K)) (PQ:Binds K de ["_law_script","_law_many"] []) (O2:KI K ge) (Nr:mg "_law_depths" = some (.ref ge))
  (Um:aG P w K mg base aY n gr dr ["_law_script","_law_depths_here","_law_sizes","_law_events"] (Kh K)) (Ub:Binds K dr ["_law_script","_law_depths_here","_law_sizes","_law_events"] []) (Sg:KI K gr) (Ry:mg "_law_rooms" = some (.ref gr))
  (Up:aG P w K mg base aY n gd dd ["_law_script","_law_many","_law_rooms_here","_law_sizes","_law_events"] (Kq K)) (Ud:Binds K dd ["_law_script","_law_many","_law_rooms_here","_law_sizes","_law_events"] []) (Sq:KI K gd) (S5:mg "_law_doors" = some (.ref gd))
  (az:mg "range" = none) (aM:mg "tuple" = none):aG P w K mg base aY (n+1) f fd ["_law_script"] (Kr K):=by
 refine okS UW XS F aX (fun vs H Q E h=>?_) (fun cdv A outer s H vs Q E hr h=>?_)
 ·refine aK fun G_ g_=>?_
  obtain⟨a,ns,rfl,_⟩:=h
  refine g_ ?_
  clear g_ G_
  rfl
 refine aK fun G_ g_=>?_
 obtain⟨a,ns,rfl,hS,h63,q⟩:=h
 refine g_ ?_
 clear g_ G_
 refine⟨_,RSs.p (ig (Ew (zK (i:=1) aX.nd rfl (Or.inl rfl) (yC yF zB (yC yL (yC yF (yC fG (yC zY (zJ aW hr rfl aR aU aV .nil yE (zA (pv 0) (zA zB (zA zB zD)))) zB) zB) zB) zB))))
  (ig (Ex (i:=2) aX.nd rfl (Or.inl rfl) (Ez (Ey (Eu zB (Eu zB (Eu zB (Eu zB (Eu zB (Eu zB (Eu zB (Eu (yC yF zB (yC zY (zJ aW hr rfl aR aU aV .nil yE (zA (pv 0) (zA zB (zA zB zD)))) zB)) (wC (vs:=[]) (by rfl))))))))))) (yC zY (zJ aW hr rfl aR aU aV .nil yE (zA (pv 0) (zA zB (zA zB zD)))) zB) (fun _ _=>rfl)))
  (ig (Ew (zK (i:=3) aX.nd rfl (Or.inl rfl) (yK zD)))
  (qCH (Ew (cj PassesOwn.never rfl (cB rfl az (zA (yC zY (zJ aW hr rfl aR aU aV .nil yE (zA (pv 0) (zA zB (zA zB zD)))) (yB yU (yK (zA zB (zA zB (zA zB (zA zB zD))))) (yC zY (zJ aW hr rfl aR aU aV .nil yE (zA (pv 0) (zA zB (zA zB zD)))) zB) (fun _ _=>rfl))) zD)) (yJ (i:=4) aX.nd rfl (Or.inl rfl))
  (zE (zK (i:=5) aX.nd rfl (Or.inl rfl) (yC yF zB (yC zY (zJ aW hr rfl aR aU aV .nil yE (zA (pv 0) (zA zB (zA (yC yF zB (pv 4)) zD)))) zB)))
  (zZ (yD (zL yG (yC zY (zJ aW hr rfl aR aU aV .nil yE (zA (pv 0) (zA zB (zA (yC yF zB (pv 4)) zD)))) zB) zB (zR _))
  (zG (zK (i:=5) aX.nd rfl (Or.inl rfl) (yC yF zB (yC zY (zJ jG hr rfl iy j6 jB .nil yE (zA (pv 0) (zA zB zD))) (yC RG zB zB)))))
  zT)
  (zG (yI (dz jM sy sZ yH (pv 3) (zA (zW (zA (zJ lZ hr rfl lH lM lX .nil yE (zA (pv 4) (zA (yC zY (zJ jG hr rfl iy j6 jB .nil yE (zA (pv 0) (zA zB zD))) zB) zD))) (zA (pv 5) (zA (yC zY (zJ aW hr rfl aR aU aV .nil yE (zA (pv 0) (zA zB (zA (yC yF zB (pv 4)) zD)))) (pv 5)) zD)))) zD))))))))
  (ig (Ew (vA (i:=6) (aa:=[]) rfl aX.nd rfl (Or.inl rfl) (show bI UW ["_law_script","_law_many","_law_events","_law_boxes","_law_k","_law_size","_law_sizes","_law_names","_law_rooms_here","_law_count","_law_doors_here","_law_order","_law_letters","_law_turns"] _ _ _ from xO) (yM (pv 3)) (fun _ _ _ _ _ _=>cR) (fun _ _ _ _ _ _=>(yB (r:=fY K) zH (pv 0) zB (fun _ _=>rfl)))))
  (ig (Ew (zK (i:=7) aX.nd rfl (Or.inl rfl) (yA zX rfl aM iT (zA (yT (aa:=[(0,"_law_script")]) rfl (show bI UW ["_law_script","_law_many","_law_events","_law_boxes","_law_k","_law_size","_law_sizes","_law_names","_law_rooms_here","_law_count","_law_doors_here","_law_order","_law_letters","_law_turns"] _ _ _ from xO) (cB rfl az (zA (pv 2) zD)) (fun _ _ _ _ _ _=>cR) (fun _ _ _ _ _ _=>(zJ lZ hr rfl lH lM lX .nil yE (zA (pv 0) (zA (yC zY (zJ jG hr rfl iy j6 jB .nil yE (zA (pv 1) (zA zB zD))) zB) zD))))) zD))))
  (ig (Ew (zK (i:=8) aX.nd rfl (Or.inl rfl) (zJ Um hr rfl Ry Sg Ub .nil yE (zA (pv 0) (zA (zJ Pr hr rfl Nr O2 PQ .nil yE (zA (pv 0) (zA (pv 1) zD))) (zA (pv 6) (zA (pv 2) zD)))))))
  (ig (Ex (i:=9) aX.nd rfl (Or.inl rfl) (Ez (Ey (wC (vs:=[.int 4,.int 5,.int 6,.int 7,.int 8,.int 9,.int 10,.int 6,.int 7,.int 8,.int 2,.int 0]) (by rfl))) (yC zY (zJ aW hr rfl aR aU aV .nil yE (zA (pv 0) (zA zB (zA zB zD)))) zB) (fun _ _=>rfl)))
  (ig (Ew (zK (i:=10) aX.nd rfl (Or.inl rfl) (zJ Up hr rfl S5 Sq Ud .nil yE (zA (pv 0) (zA (pv 9) (zA (pv 8) (zA (pv 6) (zA (pv 2) zD))))))))
  (ig (Ex (i:=11) aX.nd rfl (Or.inl rfl) (Ez (Ey (wC (vs:=[.str "inner",.str "outer"]) (by rfl))) (yC zY (zJ aW hr rfl aR aU aV .nil yE (zA (pv 0) (zA zB (zA zB zD)))) zB) (fun _ _=>rfl)))
  (ig (Ex (i:=12) aX.nd rfl (Or.inl rfl) (Ez (Ey (wC (vs:=[.int 0,.int 1,.int 2,.int 3,.int 2,.int 4,.int 3,.int 5]) (by rfl))) (yC zY (zJ aW hr rfl aR aU aV .nil yE (zA (pv 0) (zA zB (zA zB zD)))) zB) (fun _ _=>rfl)))
  (ig (Ex (i:=13) aX.nd rfl (Or.inl rfl) (Ez (Ey (wC (vs:=[.int 1,.int 2,.int 3,.int 4,.int 3,.int 4,.int 2,.int 4]) (by rfl))) (yC zY (zJ aW hr rfl aR aU aV .nil yE (zA (pv 0) (zA zB (zA zB zD)))) zB) (fun _ _=>rfl)))
  (qCG (Ew (zO (zW (zA (pv 11) (zA (pv 12) (zA (pv 13) (zA (yA zX rfl aM iT (zA (pv 3) zD)) (zA (pv 7) (zA (pv 8) (zA (pv 10) zD))))))))))))))))))))))),?_⟩
 refine⟨_,rfl,a,ns,_,_,rfl,hS,h63,⟨by decide,by decide⟩,⟨by decide,by decide⟩,fun x x0 x1=>(bA ⟨(by show (0:Int) < 16;decide),_,_,rfl,rfl,pP (by lia) (by lia),_,_,rfl,rfl,bA ⟨⟨by decide,by decide⟩,_,_,rfl,rfl,?_⟩⟩)⟩
 refine aK fun G_ g_=>?_
 obtain⟨m,hm,m1,m10⟩:∃ m:Nat,1+(x % 16 * 9+14) / 16=(m:Int)/\1<=m/\m<=10:=⟨(1+(x % 16 * 9+14) / 16).toNat,by lia,by lia,by lia⟩
 refine g_ ?_
 clear g_ G_
 refine⟨_,rfl,a,ns,_,_,rfl,hS,h63,⟨by decide,by decide⟩,⟨by decide,by decide⟩,fun xe xe0 xe1=>(bA ⟨(by show (0:Int) < 5;decide),_,_,rfl,rfl,zI (by show 8<=1000;decide),fun p1 hp1=>?_⟩)⟩
 have s1:=zF hp1 (.lst [V.int 0,V.int 1,V.int 1,V.int 2,V.int 2,V.int 2,V.int 3,V.int (4+xe % 5)])
 refine⟨_,rfl,a,ns,_,_,rfl,s1.seq hS,h63,⟨by decide,by decide⟩,⟨by decide,by decide⟩,fun x2 x20 x21=>?_⟩
 refine aK fun G_ g_=>?_
 obtain⟨e,he,qI2⟩:=int_at (zs:=[0,1,1,2,2,2,3,4+xe % 5]) (i:=x2 % 8) (by lia) (by show _ < (8:Int);lia)
 refine g_ ?_
 clear g_ G_
 have e03:0<=e/\e<=8:=by
  simp only[List.mem_cons,List.not_mem_nil,or_false]at he
  lia
 refine (bA ⟨(by show (0:Int) < 8;decide),cC (aQ.of zC) qI2 ?_⟩)
 generalize upd H p1 (.lst [V.int 0,V.int 1,V.int 1,V.int 2,V.int 2,V.int 2,V.int 3,V.int (4+xe % 5)])=H1 at s1 ⊢
 refine⟨Nat.zero_le _,fun pb hpb=>?_⟩
 have npb:H pb=none:=s1.free hpb
 have s2:=s1.trans (zF hpb (.lst []))
 refine⟨fun σ' H' => ∃(vs:List V)(sz:List (Int × Int)),aJ H H'/\H' pb=some (.lst vs)/\Al (Ka H') vs sz/\(∀ z∈sz,0<=z.2/\z.2 < z.1)/\sz.length<=6/\∃ o4 o5:Option V,σ'=[some (.ref a),some (.int (1+(x % 16 * 9+14) / 16)),some (.int e),some (.ref pb),o4,o5,none,none,none,none,none,none,none,none],?_,?_⟩
 ·refine⟨_,rfl,a,ns,_,_,rfl,s2.seq hS,h63,⟨by decide,by decide⟩,⟨by decide,by decide⟩,fun x3 x30 x31=>⟨zI (by show 4<=1000;decide),fun pq hpq=>?_⟩⟩
  have s2:=s2.trans (zF hpq (.lst [V.int 3,V.int 3,V.int 3,V.int 7]))
  refine⟨_,rfl,a,ns,_,_,rfl,s2.seq hS,h63,⟨by decide,by decide⟩,⟨by decide,by decide⟩,fun x4 x40 x41=>?_⟩
  refine aK fun G_ g_=>?_
  obtain⟨zq,hzq,qHZ⟩:=int_at (zs:=[3,3,3,7]) (i:=x4 % 4) (by lia) (by show _ < (4:Int);lia)
  refine g_ ?_
  clear g_ G_
  have zq3:3<=zq/\zq<=7:=by
   simp only[List.mem_cons,List.not_mem_nil,or_false]at hzq
   lia
  have x5:=pU x3 (show zq ≠ 0 by lia)
  have x6:=qZ x3 (show 0 < zq by lia)
  refine (bA ⟨(by show (0:Int) < 4;decide),cC (aQ.of zC) qHZ (bA ⟨(by show (0:Int) < zq;lia),_,rfl,by lia,by lia,?_⟩)⟩)
  have ipb:upd (upd H1 pb (.lst [])) pq (.lst [V.int 3,V.int 3,V.int 3,V.int 7]) pb=some (.lst []):=(zF hpq _) _ _ zC
  generalize upd (upd H1 pb (.lst [])) pq (.lst [V.int 3,V.int 3,V.int 3,V.int 7])=H2 at s2 ipb ⊢
  refine cX (fun i σ' H' => ∃(vs:List V)(sz:List (Int × Int)),aJ H H'/\H' pb=some (.lst vs)/\Al (Ka H') vs sz/\(∀ z∈sz,0<=z.2/\z.2 < z.1)/\sz.length=i/\∃ o4 o5:Option V,σ'=[some (.ref a),some (.int (1+(x % 16 * 9+14) / 16)),some (.int e),some (.ref pb),o4,o5,none,none,none,none,none,none,none,none])
   ⟨[],[],s2,ipb,.nil,(fun d h=>by cases h),rfl,none,none,rfl⟩ ?_ (fun σ' H' ⟨vs,sz,h1,h2,h3,h4,h5,h6⟩=>⟨vs,sz,h1,h2,h3,h4,by lia,h6⟩)
  rintro i σ' H3 hi aZ
  refine aK fun G_ g_=>?_
  obtain⟨vs,sz,s3,h3,hA,hpos,hlen,o4,o5,rfl⟩:=aZ
  refine g_ ?_
  clear g_ G_
  have hi3:i < 7:=by lia
  refine⟨_,rfl,_,rfl,bA ⟨a,ns,_,_,rfl,s3.seq hS,h63,⟨by decide,by decide⟩,⟨by lia,by lia⟩,fun y y0 y1=>(bA ⟨(by show (0:Int) < 3;decide),_,_,rfl,rfl,?_⟩)⟩⟩
  refine⟨fun σ' H'=>H'=H3/\∃ z:Int,0 < z/\σ'=[some (.ref a),some (.int (1+(x % 16 * 9+14) / 16)),some (.int e),some (.ref pb),some (.int (0+(i:Int))),some (.int z),none,none,none,none,none,none,none,none],?_,?_⟩
  ·refine⟨_,rfl,_,rfl,bA ⟨a,ns,_,_,rfl,s3.seq hS,h63,⟨by decide,by decide⟩,⟨by lia,by lia⟩,fun y2 y20 y21=>(bA ⟨(by show (0:Int) < 6;decide),rfl,_,rfl,fV (fun c=>?_) (fun c=>⟨rfl,1+y % 3,by lia,rfl⟩)⟩)⟩⟩
   refine⟨_,rfl,a,ns,_,rfl,s3.seq hS,h63,fun v=>(bA ⟨⟨by decide,by decide,by decide⟩,_,_,rfl,rfl,(by show (0:Int) < 10 ^ 30;decide),_,_,rfl,rfl,rfl,1+v % 10 ^ 30,?_,rfl⟩)⟩
   have:=pU v (show (10:Int) ^ 30 ≠ 0 by decide)
   lia
  rintro σ4 H4 aZ
  refine aK fun G_ g_=>?_
  obtain⟨rfl,z,z0,rfl⟩:=aZ
  refine g_ ?_
  clear g_ G_
  refine⟨_,rfl,.inl ⟨rfl,_,aQ.of h3⟩,_,rfl,_,rfl,a,ns,_,rfl,s3.seq hS,h63,fun cv=>(bA ⟨(by show (0:Int) < 991;decide),_,_,rfl,fun nm H5 s5=>?_⟩)⟩
  have Z2:=s3.trans s5
  refine⟨_,rfl,_,rfl,_,rfl,bA ⟨a,ns,_,_,rfl,Z2.seq hS,h63,⟨by decide,by decide⟩,⟨by lia,by lia⟩,fun y3 y30 y31=>?_⟩⟩
  refine⟨_,rfl,bA ⟨(by show (0:Int) < z;exact z0),zI (by show 3<=1000;decide),fun p6 hp6=>?_⟩⟩
  have u6:=zF hp6 (.tup [.str nm,.int z,.int (y3 % z)])
  have h6:=u6 _ _ (s5 _ _ h3)
  have lv:=hA.length
  have kl:=aB.lst h6 (.lst (vs++[.ref p6]))
  refine⟨pb,_,_,rfl,rfl,h6,zV (by lia),vs++[.ref p6],sz++[(z,y3 % z)],dR npb (Z2.trans u6) _,zC,Al.snoc (hA.mono fun _ _ b=>b.mono ((aB.of (s5.trans u6)).trans kl)) ⟨p6,nm,rfl,kl _ _ zC⟩,fun d hd=>?_,by simp [hlen],_,_,rfl⟩
  rcases gW.mp hd with hd | hd
  ·exact hpos d hd
  ·rw[dJ.mp hd]
   exact⟨pU _ (by lia),qZ _ z0⟩
 rintro σ5 H5 aZ
 refine aK fun G_ g_=>?_
 obtain⟨vs,bs,s5,h5,hA,hst,l6,o4,o5,rfl⟩:=aZ
 obtain⟨sz,hsz0⟩:∃ sz:List Int,sz=bs.map (·.1):=⟨_,rfl⟩
 refine g_ ?_
 clear g_ G_
 have lsz:sz.length=bs.length:=by rw[hsz0,bZ]
 have hpos:∀ z∈sz,0 < z:=fun z hz=>by
  rw[hsz0]at hz
  refine aK fun G_ g_=>?_
  obtain⟨b,hb,rfl⟩:=iU.mp hz
  refine g_ ?_
  clear g_ G_
  have:=hst b hb
  lia
 have lv:=hA.length
 refine⟨_,rfl,pb,rfl,⟨_,aQ.of h5⟩,?_⟩
 refine yS (K:=K) (a:=pb) (xs:=vs) (fun i acc H'=>H'=H5/\acc=(sz.take i).map V.int) ⟨rfl,rfl⟩ (fun i acc H' ⟨e,_⟩=>by subst e;exact aQ.of h5) (fun i y acc H' hx ⟨e1,e2⟩=>?_) (fun acc H' ⟨e1,e2⟩ ps hps=>?_)
 ·subst e1 e2
  have hi:i < sz.length:=by
   have:=(mH.mp hx).1
   lia
  have hib:i < bs.length:=by lia
  have erb:=fu hib
  have er:sz[i]? = some (bs[i]).1:=by rw[hsz0,cZ,erb];rfl
  refine aK fun G_ g_=>?_
  obtain⟨v,hv,a2,nm,rfl,ha2⟩:=hA.get erb
  refine g_ ?_
  clear g_ G_
  rw[hv]at hx
  obtain rfl:=kJ hx
  refine⟨_,rfl,aF (aL.of ha2) rfl ⟨zV (by rw[bZ,gG];lia),rfl,?_⟩⟩
  rw[jN,er,kI]
  rfl
 subst e1 e2
 rw[show sz.take vs.length=sz from uw (by lia)]
 have s6:=zF hps (.lst (sz.map V.int))
 have h6:(upd H' ps (.lst (sz.map V.int))) ps=some (.lst (sz.map V.int)):=zC
 generalize upd H' ps (.lst (sz.map V.int))=H6 at s6 h6 ⊢
 have s56:=s5.trans s6
 have hsz:jV H6 ps sz:=⟨h6,hpos,by lia⟩
 refine⟨_,rfl,_,rfl,by lia,by lia,?_⟩
 refine lV (fun i acc H'=>aJ H6 H'/\acc.length=i) ⟨aJ.refl _,rfl⟩ (fun i acc H' hi ⟨e1,e2⟩=>?_) (fun acc Hn ⟨e1,e2⟩ pl hpl=>?_)
 ·refine⟨_,rfl,_,rfl,a,ns,_,rfl,(s56.trans e1).seq hS,h63,fun cv=>(bA ⟨(by show (0:Int) < 983;decide),_,_,rfl,fun z H'' s''=>⟨zV (by lia),e1.trans s'',by simp [e2]⟩⟩)⟩
 have s7:=e1.trans (zF hpl (.lst acc))
 refine⟨pl,_,rfl,.inl ⟨aQ.of zC,fun pn hpn=>?_⟩⟩
 have s8:=s7.trans (zF hpn (.tup acc))
 have h8n:upd (upd Hn pl (.lst acc)) pn (.tup acc) pn=some (.tup acc):=zC
 have qH1:acc.length<=8:=by lia
 generalize upd (upd Hn pl (.lst acc)) pn (.tup acc)=H8 at s8 h8n ⊢
 have s58:=s56.trans s8
 refine⟨_,rfl,_,rfl,_,rfl,a,ns,m,(by show [V.ref a,V.int (1+(x % 16 * 9+14) / 16)]=[V.ref a,V.int (m:Int)];rw[hm]),s58.seq hS,h63,m1,by lia,fun pd dl H9 s9 V7 hpd good low ldl=>?_⟩
 have s59:=s58.trans s9
 refine⟨_,rfl,_,rfl,a,pd,ps,ns,dl,sz,e,rfl,s59.seq hS,h63,hpd,by lia,hsz.mono (s8.trans s9),fun t rv rs dis uZ HF Eo hrv rb edp fit=>?_⟩
 have hR:cV HF t rs:=⟨rv,hrv,rb.inn⟩
 have qCE:=s59.trans Eo
 have ld:=yV rs
 have lr:rs.length=m:=by rw[<-ld,edp,ldl]
 rw[<-edp]at good low
 refine⟨zI (by show 12<=1000;decide),fun p11 qHP=>?_⟩
 have HY:=zF qHP (.lst [V.int 4,V.int 5,V.int 6,V.int 7,V.int 8,V.int 9,V.int 10,V.int 6,V.int 7,V.int 8,V.int 2,V.int 0])
 refine⟨_,rfl,a,ns,_,_,rfl,(qCE.trans HY).seq hS,h63,⟨by decide,by decide⟩,⟨by decide,by decide⟩,fun y2 y20 y21=>?_⟩
 obtain⟨ct,hct,xF⟩:=int_at (zs:=[4,5,6,7,8,9,10,6,7,8,2,0]) (i:=y2 % 12) (by lia) (by show _ < (12:Int);lia)
 refine aK fun G_ g_=>?_
 obtain⟨c,rfl,c12⟩:∃ c:Nat,ct=(c:Int)/\c<=12:=by
  simp only[List.mem_cons,List.not_mem_nil,or_false]at hct
  exact⟨ct.toNat,by omega,by omega⟩
 refine g_ ?_
 clear g_ G_
 refine (bA ⟨(by show (0:Int) < 12;decide),cC (aQ.of zC) xF ?_⟩)
 generalize upd HF p11 (.lst [V.int 4,V.int 5,V.int 6,V.int 7,V.int 8,V.int 9,V.int 10,V.int 6,V.int 7,V.int 8,V.int 2,V.int 0])=Xk at HY ⊢
 have qCD:=qCE.trans HY
 refine⟨_,rfl,_,rfl,_,rfl,_,rfl,_,rfl,a,t,ps,ns,sz,rs,c,e,rfl,qCD.seq hS,h63,c12,hR.mono (aB.of HY),by lia,by lia,hsz.mono (((s8.trans s9).trans Eo).trans HY),e03.1,fun pdo dv ds H12 s12 hdv hDv UG d12=>?_⟩
 have Vl:=qCD.trans s12
 refine⟨zI (by show 2<=1000;decide),fun Y9 qAI=>?_⟩
 have sX:=zF qAI (.lst [V.str "inner",V.str "outer"])
 refine⟨_,rfl,a,ns,_,_,rfl,(Vl.trans sX).seq hS,h63,⟨by decide,by decide⟩,⟨by decide,by decide⟩,fun y3 y30 y31=>?_⟩
 refine aK fun G_ g_=>?_
 obtain⟨od,_,hat3⟩:=vK (zs:=[("inner" : Str),"outer"]) (i:=y3 % 2) (by lia) (by show _ < (2:Int);lia)
 refine g_ ?_
 clear g_ G_
 refine (bA ⟨(by show (0:Int) < 2;decide),cC (aQ.of zC) hat3 ?_⟩)
 generalize upd H12 Y9 (.lst [V.str "inner",V.str "outer"])=H13 at sX ⊢
 refine⟨zI (by show 8<=1000;decide),fun p14 qHO=>?_⟩
 have Ia:=sX.trans (zF qHO (.lst [V.int 0,V.int 1,V.int 2,V.int 3,V.int 2,V.int 4,V.int 3,V.int 5]))
 refine⟨_,rfl,a,ns,_,_,rfl,(Vl.trans Ia).seq hS,h63,⟨by decide,by decide⟩,⟨by decide,by decide⟩,fun y4 y40 y41=>?_⟩
 refine aK fun G_ g_=>?_
 obtain⟨lt,hlt,qI1⟩:=int_at (zs:=[0,1,2,3,2,4,3,5]) (i:=y4 % 8) (by lia) (by show _ < (8:Int);lia)
 refine g_ ?_
 clear g_ G_
 refine (bA ⟨(by show (0:Int) < 8;decide),cC (aQ.of zC) qI1 ?_⟩)
 generalize upd H13 p14 (.lst [V.int 0,V.int 1,V.int 2,V.int 3,V.int 2,V.int 4,V.int 3,V.int 5])=Yg at Ia ⊢
 refine⟨zI (by show 8<=1000;decide),fun p15 qHN=>?_⟩
 have Em:=Ia.trans (zF qHN (.lst [V.int 1,V.int 2,V.int 3,V.int 4,V.int 3,V.int 4,V.int 2,V.int 4]))
 refine⟨_,rfl,a,ns,_,_,rfl,(Vl.trans Em).seq hS,h63,⟨by decide,by decide⟩,⟨by decide,by decide⟩,fun y5 y50 y51=>?_⟩
 refine aK fun G_ g_=>?_
 obtain⟨tn,htn,qI0⟩:=int_at (zs:=[1,2,3,4,3,4,2,4]) (i:=y5 % 8) (by lia) (by show _ < (8:Int);lia)
 refine g_ ?_
 clear g_ G_
 refine (bA ⟨(by show (0:Int) < 8;decide),cC (aQ.of zC) qI0 ?_⟩)
 generalize upd Yg p15 (.lst [V.int 1,V.int 2,V.int 3,V.int 4,V.int 3,V.int 4,V.int 2,V.int 4])=H15 at Em ⊢
 have qC0:aJ H' H15:=((((((s6.trans s8).trans s9).trans Eo).trans HY).trans s12)).trans Em
 refine⟨_,rfl,_,rfl,_,rfl,_,rfl,pb,_,rfl,.inl ⟨aQ.of (qC0 _ _ h5),fun V6 qHM=>?_⟩⟩
 have s16:=zF qHM (.tup vs)
 have i16:upd H15 V6 (.tup vs) V6=some (.tup vs):=zC
 generalize upd H15 V6 (.tup vs)=Ye at s16 i16 ⊢
 refine⟨_,rfl,_,rfl,_,rfl,zI (by show 7<=1000;decide),fun pc TQ=>?_⟩
 refine aK fun G_ g_=>?_
 obtain⟨lb,rfl,lb5⟩:∃ lb:Nat,lt=(lb:Int)/\lb<=5:=by
  simp only[List.mem_cons,List.not_mem_nil,or_false]at hlt
  exact⟨lt.toNat,by lia,by lia⟩
 obtain⟨tm,rfl,tm1,tm4⟩:∃ tm:Nat,tn=(tm:Int)/\1<=tm/\tm<=4:=by
  simp only[List.mem_cons,List.not_mem_nil,or_false]at htn
  exact⟨tn.toNat,by lia,by lia,by lia⟩
 refine g_ ?_
 clear g_ G_
 have s17:=zF TQ (.tup [.str od,.int (lb:Int),.int (tm:Int),.ref V6,.ref pn,.ref t,.ref pdo])
 have LQ:=(Em.trans s16).trans s17
 have LR:=((HY.trans s12)).trans LQ
 refine q pc ⟨od,lb,tm,sz,rs,(fun k=>dis.getD k []),(fun k=>uZ.getD k []),ds⟩ bs acc.length _ (Vl.trans LQ) ⟨V6,pn,t,pdo,vs,acc,rv,dv,zC,s17 _ _ i16,hA.mono (fun _ _ b=>b.mono (aB.of ((qC0.trans s16).trans s17))),((s9.trans Eo).trans LR) _ _ h8n,rfl,LR _ _ hrv,rb.inn.mono (aB.of LR),rb.dd.mono (aB.of LR),LQ _ _ hdv,hDv.mono fun _ _ z=>z.mono (aB.of LQ)⟩ ?_ qH1
 exact⟨⟨good,by show rs.length<=40;lia,by show sz.length<=6;lia,hpos,by show lb<=12;lia,fun k=>(rb.say k).1,fun k=>(rb.say k).2,by show ds.length<=63;lia,fun d hd=>⟨(UG d hd).1,(UG d hd).2.1,(UG d hd).2.2.2.2⟩⟩,hsz0,hst,fit,low,by show rs.length<=10;lia,fun d hd=>⟨(UG d hd).2.2.1,(UG d hd).2.2.2.1⟩,lb5,⟨tm1,tm4⟩⟩
end
end ud
namespace Ru
open PySem L2 qR sS Dh Uk KY jc
open HS (Al)
inductive mQ(c:dZ)(iI:List En)(s0:S4):Nat->List En->S4->Prop where
 | one:mQ c iI s0 1 iI s0
 | more {n:Nat} {es e2:List En} {s s2:S4} {e:Int} {l:List Int}:mQ c iI s0 n es s->n < c.tn->s.l=e :: l->Gy c e ⟨s.os,s.bx,s.ks,l⟩ e2 s2->mQ c iI s0 (n+1) (es++e2) s2
noncomputable def wQ(l:List Int):List En:=l.map fun e=>En.rc (.lost e)
noncomputable def vP(C:Addr)(n:Nat):Sp:=fun vs H Q _ => ∃(pc ps pr p:Addr)(c:dZ)(s:S4)(es:List En)(rv:List V)(fp:List Addr)(J:List Nat->List (List Nat)->Prop),vs=[.ref pc,.ref ps,.ref pr,.ref p]/\uv H pc c/\All c J n/\dH H ps s/\jO c s/\J s.os s.ks/\LL C H p fp c.lb s.l/\H pr=some (.lst rv)/\Al (fj H) rv es/\es.length<=40001/\c.tn<=20 ∧
 ∀(t ps' pw:Addr)(wv:List V)(n':Nat)(es':List En)(s':S4)(fp':List Addr)(H':Hp),mQ c es s n' es' s'->(c.tn<=n' ∨ s'.l=[])->J s'.os s'.ks->jO c s'->bR H H' fp fp'->H' t=some (.tup [.ref ps',.ref pw])->dH H' ps' s'->H' pw=some (.lst wv)->H pw=none->pw ∉ fp'->Al (fj H') wv (es'++wQ s'.l)->wv.length<=1000000->Q (.ref t) H'
theorem dH.tail{H:Hp}{ps:Addr}{s:S4}(x:dH H ps s)(l:List Int):dH H ps ⟨s.os,s.bx,s.ks,l⟩:=x
section
variable{P:Program}{w:World}{K:bO}{mg:Str->Option Value}{base:Heap}{C:Addr}
theorem fW:aH ["chart","stand","record","letters","now","whole","turns","told"] ["chart","stand","record","letters"] (aA my):=fO
theorem Nb{n m:Nat}{f g1 gt gw:Addr}{fd d1 dt dw:FuncData}(F:cz K "rested" "rested" my f fd)(cl:xY K C)
  (mT:Meth K C "taken" gt) (Xn:aG P w K mg base aY m gt dt ["self"] (Kg (LL C))) (Xc:Binds K dt ["self"] [])
  (mW:Meth K C "waiting" gw) (Ar:aG P w K mg base aY m gw dw ["self"] (yh (LL C))) (Ak:Binds K dw ["self"] [])
  (KD:aG P w K mg base aY m g1 d1 ["chart","stand","event","letters"] (Ht C n)) (Jv:Binds K d1 ["chart","stand","event","letters"] []) (JX:KI K g1) (JM:mg "turn" = some (.ref g1))
  (aP:mg "len" = none) (fK:mg "list" = none):aG P w K mg base aY (m+1) f fd ["chart","stand","record","letters"] (vP C n):=by
 refine F.ok fW (fun vs H Q E h=>?_) (fun cdv A outer s H vs Q E hr h=>?_)
 ·refine aK fun G_ g_=>?_
  obtain⟨pc,ps,pr,p,c,s,es,rv,fp,J,rfl,_⟩:=h
  refine g_ ?_
  clear g_ G_
  rfl
 refine aK fun G_ g_=>?_
 obtain⟨pc,ps,pr,p,c,st,iI,V5,fp,J,rfl,hC,al,hS,so,js,hL,hpr,hA,le0,Xz,q⟩:=h
 refine g_ ?_
 clear g_ G_
 refine⟨_,(zE (zK (i:=4) fW.nd rfl (Or.inl rfl) (pv 1))
  (zE (zK (i:=5) fW.nd rfl (Or.inl rfl) (yA cL rfl fK PyProof.Rows.boot_list (zA (pv 2) zD)))
  (zE (zK (i:=6) fW.nd rfl (Or.inl rfl) zB)
  (zZ (rG PassesOwn.never (bQ (PW.pt (pw_and (zL nJ (pv 6) (yB zH (pv 0) zB (fun _ _=>rfl)) (zR _)) (yP (zL gM (zS zN rfl aP bV (zA (wH (pv 3) cl mW Ar hr Ak .nil yE) zD)) zB (zR _))))))
  (zE (zK (i:=7) fW.nd rfl (Or.inl rfl) (zJ KD hr rfl JM JX Jv .nil yE (zA (pv 0) (zA (pv 4) (zA (wH (pv 3) cl mT Xn hr Xc .nil yE) (zA (pv 3) zD))))))
  (zE (zK (i:=4) fW.nd rfl (Or.inl rfl) (yB zH (pv 7) zB (fun _ _=>rfl)))
  (zE (yI (dz jM PySem.F.slot_list_extend PySem.F.type_list_extend iQ (pv 5) (zA (yB zH (pv 7) zB (fun _ _=>rfl)) zD)))
  (zG (Z9 (i:=6) fW.nd rfl (Or.inl rfl) zB qA7))))))
  (zE (yI (dz jM PySem.F.slot_list_extend PySem.F.type_list_extend iQ (pv 5) (zA (yT (aa:=[]) rfl (show bI (aA my) ["chart","stand","record","letters","now","whole","turns","told"] _ _ _ from xO) (yM (wH (pv 3) cl mW Ar hr Ak .nil yE)) (fun _ _ _ _ _ _=>cR) (fun _ _ _ _ _ _=>zW (zA zP (zA (pv 0) zD)))) zD)))
  (zG (zO (zW (zA (pv 4) (zA (pv 5) zD)))))))))),?_⟩
 have lA:=hA.length
 refine⟨_,rfl,_,rfl,fQ rfl (.inl (aQ.of hpr)) (fun pw Du=>?_)⟩
 have u1:=zF Du (.lst V5)
 have i1:upd H pw (.lst V5) pw=some (.lst V5):=zC
 generalize upd H pw (.lst V5)=H1 at u1 i1 ⊢
 refine aK fun G_ g_=>?_
 obtain⟨pb,t,pd,x4,bv,dv,h1,h2,h3,h4,h5,h6,h7⟩:=id hC
 refine g_ ?_
 clear g_ G_
 refine⟨fun σ' Hi => ∃(nt:Nat)(mK:Addr)(cM:List Addr)(rv:List V)(es:List En)(si:S4)(o6 o7:Option V),σ'=[some (.ref pc),some (.ref ps),some (.ref pr),some (.ref p),some (.ref mK),some (.ref pw),o6,o7]/\bR H Hi fp cM/\LL C Hi p cM c.lb si.l/\dH Hi mK si/\jO c si/\J si.os si.ks/\mQ c iI st nt es si/\(c.tn<=nt ∨ si.l=[])/\Hi pw=some (.lst rv)/\pw ∉ cM/\Al (fj Hi) rv es/\es.length<=900000,?_,?_⟩
 ·refine⟨fun ms σ' Hi => ∃(nt:Nat)(mK:Addr)(cM:List Addr)(rv:List V)(es:List En)(si:S4)(o7:Option V),ms=20 - nt/\σ'=[some (.ref pc),some (.ref ps),some (.ref pr),some (.ref p),some (.ref mK),some (.ref pw),some (.int (nt:Int)),o7]/\bR H Hi fp cM/\LL C Hi p cM c.lb si.l/\dH Hi mK si/\jO c si/\J si.os si.ks/\mQ c iI st nt es si/\Hi pw=some (.lst rv)/\pw ∉ cM/\Al (fj Hi) rv es/\es.length<=40001 * nt/\nt<=20,
   ⟨_,1,ps,fp,V5,iI,st,_,rfl,rfl,bR.same fp u1,LL.same hL u1,hS.mono (aB.of u1),so,js,.one,i1,LL.new hL Du,hA.mono fun _ _ z=>z.mono (aB.of u1),by lia,by decide⟩,?_⟩
  rintro ms σ' Hi aZ
  refine aK fun G_ g_=>?_
  obtain⟨nt,mK,cM,rv,es,si,o7,rfl,rfl,V4,hLi,hSi,Ds,ji,RR,hwi,nwi,vD,lei,n20⟩:=aZ
  refine g_ ?_
  clear g_ G_
  have kt:=bR.keep V4 hL
  refine⟨fun b H' => ∃ fp':List Addr,bR Hi H' cM fp'/\LL C H' p fp' c.lb si.l/\(b=true->nt < c.tn/\si.l ≠ [])/\(b=false->c.tn<=nt ∨ si.l=[]),?_,?_⟩
  ·refine⟨_,rfl,_,rfl,aF (aL.of (kt _ _ h1)) rfl (bA ⟨_,rfl,fV (fun z=>?_) (fun z=>?_)⟩)⟩
   ·have z1:=of_decide_eq_true z
    refine aK fun G_ g_=>?_
    obtain⟨dx,fs,ho,n1,n2,n3⟩:=(gq C).obj hLi
    refine g_ ?_
    clear g_ G_
    refine⟨_,rfl,p,dx,fs,rfl,ho,n3,p,cM,c.lb,si.l,rfl,hLi,Ds.l,al.ok.V9,fun qa fp' H' hL' st' nq nqf hqa=>?_⟩
    refine (fQ rfl (.inl (aQ.of hqa)) (bA ⟨_,rfl,fp',st',hL',fun z2=>⟨by lia,fun z3=>?_⟩,fun z2=>.inr ?_⟩))
    ·rw[z3]at z2
     cases z2
    ·have z2:=of_decide_eq_false z2
     rw[bZ]at z2
     exact List.eq_nil_of_length_eq_zero (by lia)
   ·have z1:=of_decide_eq_false z
    exact⟨cM,bR.same cM (aJ.refl _),hLi,(fun z=>by cases z),fun _=>.inl (by lia)⟩
  rintro b H2 aZ
  refine aK fun G_ g_=>?_
  obtain⟨xJ,st2,hL2,ht,hf⟩:=aZ
  refine g_ ?_
  clear g_ G_
  have k2:=bR.keep st2 hLi
  have hw2:=bR.apart st2 hwi nwi
  have qC3:=bR.trans V4 st2
  refine fV (fun z=>?_) (fun z=>?_)
  ·refine aK fun G_ g_=>?_
   obtain⟨lt,ne⟩:=ht z
   obtain⟨e,l',el⟩:∃ e l',si.l=e :: l':=by
    cases hl:si.l with
    | nil=>exact absurd hl ne
    | cons e l'=>exact⟨e,l',rfl⟩
   refine g_ ?_
   clear g_ G_
   refine⟨fun σ' H' => ∃(mK:Addr)(cM:List Addr)(rv:List V)(es:List En)(si:S4)(o7:Option V),σ'=[some (.ref pc),some (.ref ps),some (.ref pr),some (.ref p),some (.ref mK),some (.ref pw),some (.int ((nt+1:Nat):Int)),o7]/\bR H H' fp cM/\LL C H' p cM c.lb si.l/\dH H' mK si/\jO c si/\J si.os si.ks/\mQ c iI st (nt+1) es si/\H' pw=some (.lst rv)/\pw ∉ cM/\Al (fj H') rv es/\es.length<=40001 * (nt+1),?_,?_⟩
   ·rintro σ' H' aZ
    refine aK fun G_ g_=>?_
    obtain⟨mK,cM,rv,es,si,o7,z1,z2,z3,z4,z5,z6,z7,z8,z9,z10,z11⟩:=aZ
    refine g_ ?_
    clear g_ G_
    exact⟨20 - (nt+1),by lia,nt+1,mK,cM,rv,es,si,o7,rfl,z1,z2,z3,z4,z5,z6,z7,z8,z9,z10,z11,by lia⟩
   refine aK fun G_ g_=>?_
   obtain⟨dx,fs,ho,n1,n2,n3⟩:=(gq C).obj hL2
   refine g_ ?_
   clear g_ G_
   refine⟨_,rfl,_,rfl,_,rfl,p,dx,fs,rfl,ho,n2,p,xJ,c.lb,si.l,rfl,hL2,Ds.l,al.ok.V9,fun fp3 H3 hL3 st3=>?_⟩
   have k3:=bR.keep st3 hL2
   have hw3:=bR.apart st3 hw2.1 hw2.2
   have qC2:=bR.trans qC3 st3
   have k03:=bR.keep qC2 hL
   rw[el]at hL3 ⊢
   have ll:=Ds.l
   rw[el,eV]at ll
   refine⟨_,rfl,pc,mK,p,c,e,⟨si.os,si.bx,si.ks,l'⟩,fp3,J,rfl,hC.mono k03,al,(hSi.mono (k2.trans k3)).tail l',⟨Ds.inc,Ds.lt,Ds.Q4,Ds.bx,Ds.ks,by show l'.length<=_;lia⟩,ji,hL3,fun tt ps2 Q3 uf s2 es2 fp4 H4 TR j4 hL4 EY htt hS4 so4 hr4 nr4 nrf4 hA4 le4=>?_⟩
   have k4:=bR.keep EY hL3
   have hw4:=bR.apart EY hw3.1 hw3.2
   have qGG:=bR.trans qC2 EY
   have nerw:Q3 ≠ pw:=fun z=>by rw[z,hw3.1]at nr4;cases nr4
   have lAi:=vD.length
   have lA4:=hA4.length
   refine⟨_,rfl,aF (aL.of htt) rfl ?_⟩
   refine⟨_,rfl,.inl ⟨rfl,_,aQ.of hw4.1⟩,_,rfl,aF (aL.of htt) rfl ⟨pw,Q3,_,_,rfl,rfl,hw4.1,hr4,(by rw[sizeLine_eq];lia),?_⟩⟩
   have k5:=aB.lst hw4.1 (.lst (rv++uf))
   have GZ:=k2.trans (k3.trans (k4.trans k5))
   refine⟨_,rfl,bA ⟨ps2,fp4,rv++uf,es++es2,s2,_,rfl,bR.upd qGG Du _,LL.upd hL4 hw4.2 _,hS4.mono k5,so4,j4,.more RR lt el TR,zC,hw4.2,Al.app (vD.mono fun _ _ z=>z.mono GZ) (hA4.mono fun _ _ z=>z.mono k5),by rw[fU];lia⟩⟩
  ·exact⟨nt,mK,xJ,rv,es,si,_,_,rfl,qC3,hL2,hSi.mono k2,Ds,ji,RR,hf z,hw2.1,hw2.2,vD.mono fun _ _ z=>z.mono k2,by lia⟩
 rintro σ' Hi aZ
 refine aK fun G_ g_=>?_
 obtain⟨nt,mK,cM,rv,es,si,o6,o7,rfl,V4,hLi,hSi,Ds,ji,RR,dn,hwi,nwi,vD,lei⟩:=aZ
 obtain⟨dx,fs,ho,n1,n2,n3⟩:=(gq C).obj hLi
 refine g_ ?_
 clear g_ G_
 refine⟨_,rfl,.inl ⟨rfl,_,aQ.of hwi⟩,_,rfl,p,dx,fs,rfl,ho,n3,p,cM,c.lb,si.l,rfl,hLi,Ds.l,al.ok.V9,fun qa xJ H2 hL2 st2 nq nqf hqa=>?_⟩
 have k2:=bR.keep st2 hLi
 have hw2:=bR.apart st2 hwi nwi
 have newq:qa ≠ pw:=fun z=>by rw[z,hwi]at nq;cases nq
 have V9:=al.ok.V9
 have sil:=Ds.l
 refine⟨qa,rfl,⟨_,aQ.of hqa⟩,?_⟩
 refine yS (K:=K) (a:=qa) (xs:=si.l.map V.int) (fun i acc H'=>aJ H2 H'/\acc.length=i/\Al (fj H') acc (wQ (si.l.take i))) ⟨aJ.refl _,rfl,.nil⟩ (fun i acc H' z=>aQ.of (z.1 _ _ hqa)) ?_ ?_
 ·rintro i x acc H' hx aZ
  refine aK fun G_ g_=>?_
  obtain⟨s1,la,hB⟩:=aZ
  refine g_ ?_
  clear g_ G_
  rw[cZ]at hx
  cases hk:si.l[i]? with
  | none=>rw[hk]at hx;cases hx
  | some e=>
   rw[hk]at hx
   obtain rfl:=kJ hx
   have hi:=(mH.mp hk).1
   refine⟨_,rfl,zI (by show 2<=1000;decide),fun p5 VG=>⟨by rw[sizeLine_eq];lia,s1.trans (zF VG _),by rw[fU,jf,la],?_⟩⟩
   unfold wQ at hB ⊢
   rw[jN,hk,kI]
   exact (hB.mono fun _ _ z=>z.mono (aB.of (zF VG _))).snoc ⟨p5,rfl,zC⟩
 rintro acc H3 ⟨s3,la,hB⟩ pz hpz
 rw[bZ,uw (bT _)]at hB
 rw[bZ]at la
 have u4:=zF hpz (.lst acc)
 have i4:upd H3 pz (.lst acc) pz=some (.lst acc):=zC
 have s4:=s3.trans u4
 have w4:=s4 _ _ hw2.1
 generalize upd H3 pz (.lst acc)=H4 at u4 i4 s4 w4 ⊢
 have lAi:=vD.length
 have nzw:pw ≠ pz:=zM (s3 _ _ hw2.1) hpz
 refine⟨pw,pz,_,_,rfl,rfl,w4,i4,(by rw[sizeLine_eq];lia),?_⟩
 have k5:=aB.lst w4 (.lst (rv++acc))
 have hL5:LL C (upd H4 pw (.lst (rv++acc))) p xJ c.lb si.l:=LL.upd (LL.same hL2 s4) hw2.2 _
 have xj:bR H (upd H4 pw (.lst (rv++acc))) fp xJ:=bR.upd (bR.trans (bR.trans V4 st2) (bR.same xJ s4)) Du _
 have r5:upd H4 pw (.lst (rv++acc)) pw=some (.lst (rv++acc)):=zC
 generalize upd H4 pw (.lst (rv++acc))=H5 at k5 hL5 xj r5 ⊢
 refine⟨_,rfl,_,rfl,zI (by show 2<=1000;decide),fun tt htt=>?_⟩
 have u6:=zF htt (.tup [V.ref mK,V.ref pw])
 have k26:aB H2 (upd H5 tt (.tup [V.ref mK,V.ref pw])):=(aB.of s4).trans (k5.trans (aB.of u6))
 exact q tt mK pw (rv++acc) nt es si xJ _ RR dn ji Ds (bR.trans xj (bR.same xJ u6)) zC (hSi.mono (k2.trans k26)) (u6 _ _ r5) Du hw2.2 (Al.app (vD.mono fun _ _ z=>z.mono (k2.trans k26)) (hB.mono fun _ _ z=>z.mono ((aB.of u4).trans (k5.trans (aB.of u6))))) (by rw[fU];lia)
theorem made{C:Addr}{H H1:Hp}{x dx:Addr}{fp:List Addr}(nx:H x=none)(ndx:H dx=none)(own:∀ b∈fp,b=x ∨ upd (upd H dx (.own x)) x (.ins C dx []) b=none)(rest:∀ b o,upd (upd H dx (.own x)) x (.ins C dx []) b=some o->b ≠ x->H1 b=some o):aJ H H1/\∀ b∈fp,H b=none:=by
 refine⟨fun b o e=>?_,fun b hb=>?_⟩
 ·have nb:b ≠ x:=zM e nx
  refine rest b o ?_ nb
  rw[zQ nb,zQ (zM e ndx)]
  exact e
 ·rcases own b hb with z | z
  ·rw[z]
   exact nx
  ·by_cases y:b=x
   ·rw[y]
    exact nx
   ·rw[zQ y]at z
    by_cases y2:b=dx
    ·rw[y2]
     exact ndx
    ·rw[zQ y2]at z
     exact z
theorem Ep{H:Hp}{p:Addr}(h:H p=some (.tup [])):∀ k:Nat,bF H (List.replicate k [V.ref p]).flatten (List.replicate k [])
 | 0=>.nil
 | k+1=>.cons ⟨p,rfl,h⟩ (Ep h k)
noncomputable def t7(c:dZ)(bs:List (Int × Int))(ms:List Nat):S4:=⟨ms,(cP c.sz c.lb (ms.map fun r=>(En.inn r,c.di r)) (bs.map (·.2)) []).1,List.replicate c.rs.length [],(cP c.sz c.lb (ms.map fun r=>(En.inn r,c.di r)) (bs.map (·.2)) []).2.1⟩
noncomputable def Hs(c:dZ)(bs:List (Int × Int))(ms:List Nat):List En:=(cP c.sz c.lb (ms.map fun r=>(En.inn r,c.di r)) (bs.map (·.2)) []).2.2
noncomputable def V3(c:dZ)(bs:List (Int × Int))(es:List En)(s:S4):Prop:=∃(ms:List Nat)(n:Nat)(e1:List En),Tr.VL (aD c.rs) (Pj c.rs) [] none ms/\mQ c (Hs c bs ms) (t7 c bs ms) n e1 s/\(c.tn<=n ∨ s.l=[])/\es=e1++wQ s.l
theorem Ld{c:dZ}{iI:List En}{s0:S4}:∀ {n:Nat} {e1:List En} {s1:S4},mQ c iI s0 n e1 s1->∀ {e2:List En} {s2:S4},mQ c iI s0 n e2 s2->e1=e2/\s1=s2:=by
 intro n e1 s1 h1
 induction h1 with
 | one=>
  intro e2 s2 h2
  generalize hm:1=m at h2
  cases h2 with
  | one=>exact⟨rfl,rfl⟩
  | @more n _ _ _ _ _ _ h _ _ _=>
   have:n=0:=by lia
   subst this
   exact absurd h (by
    intro z
    generalize hz:(0:Nat)=q at z
    cases z with
    | one=>lia
    | more=>lia)
 | @more n es e2' s s2' e l h lt el tr ih=>
  intro e2 s2 h2
  generalize hm:n+1=m at h2
  cases h2 with
  | one=>
   have:n=0:=by lia
   subst this
   exact absurd h (by
    intro z
    generalize hz:(0:Nat)=q at z
    cases z with
    | one=>lia
    | more=>lia)
  | @more n' es' e3 s' s3 e' l' h' lt' el' tr'=>
   obtain rfl:n=n':=by lia
   obtain⟨rfl,rfl⟩:=ih h'
   rw[el]at el'
   injection el' with a b
   subst a
   subst b
   obtain⟨rfl,rfl⟩:=Dz tr tr'
   exact⟨rfl,rfl⟩
theorem Lb{c:dZ}{iI:List En}{s0:S4}{n:Nat}{e1:List En}{s1:S4}(h:mQ c iI s0 n e1 s1):1<=n:=by
 cases h with
 | one=>exact bT _
 | more=>lia
theorem Qs{c:dZ}{iI:List En}{s0:S4}:∀ {n:Nat} {e1:List En} {s1:S4},mQ c iI s0 n e1 s1->∀ m:Nat,1<=m->m < n->∃ e2 s2,mQ c iI s0 m e2 s2/\m < c.tn/\s2.l ≠ []:=by
 intro n e1 s1 h1
 induction h1 with
 | one=>
  intro m m1 m2
  lia
 | @more n es e2' s s2' e l h lt el tr ih=>
  intro m m1 m2
  by_cases z:m < n
  ·exact ih m m1 z
  ·have:m=n:=by lia
   subst this
   exact⟨es,s,h,lt,by rw[el];simp⟩
theorem Le{c:dZ}{iI:List En}{s0 s1 s2:S4}{n m:Nat}{e1 e2:List En}(h1:mQ c iI s0 n e1 s1)(h2:mQ c iI s0 m e2 s2)(d1:c.tn<=n ∨ s1.l=[])(d2:c.tn<=m ∨ s2.l=[]):e1=e2/\s1=s2:=by
 have p1:=Lb h1
 have p2:=Lb h2
 have key:∀ {n m:Nat} {e1:List En} {s1:S4} {e2:List En} {s2:S4},mQ c iI s0 n e1 s1->mQ c iI s0 m e2 s2->1<=n->(c.tn<=n ∨ s1.l=[])->¬ n < m:=fun {n m e1 s1 e2 s2} h1 h2 p1 d1 z=>by
  obtain⟨e3,s3,h3,a,b⟩:=Qs h2 n p1 z
  obtain⟨_,rfl⟩:=Ld h1 h3
  rcases d1 with y | y
  ·lia
  ·exact b y
 have:n=m:=by
  have a:=key h1 h2 p1 d1
  have b:=key h2 h1 p2 d2
  lia
 subst this
 exact Ld h1 h2
theorem DK{c:dZ}{bs:List (Int × Int)}{e1 e2:List En}{s1 s2:S4}(h1:V3 c bs e1 s1)(h2:V3 c bs e2 s2):e1=e2/\s1=s2:=by
 obtain⟨ms,n,x,i1,r1,d1,rfl⟩:=h1
 obtain⟨rM,n',x',i2,r2,d2,rfl⟩:=h2
 obtain rfl:=i1.unique i2
 obtain⟨rfl,rfl⟩:=Le r1 r2 d1 d2
 exact⟨rfl,rfl⟩
noncomputable def bc(es:List En):List Str:=es.filterMap fun e=>match e with
 | .rc (.say w)=>some w
 | _=>none
theorem yp(es:List En)(e:En):bc (es++[e])=bc es++(match e with | .rc (.say w)=>[w] | _=>[]):=by
 unfold bc
 rw[List.filterMap_append]
 congr 1
 cases e with
 | rc r=>cases r <;> rfl
 | _=>rfl
theorem My(e:En):∃(s':Str)(x':V)(r':List V),e.row = .str s' :: x' :: r'/\(decide (V.str s'=V.str ("say" : Str))=true->∃ w,e = .rc (.say w)/\x' = .str w)/\(decide (V.str s'=V.str ("say" : Str))=false->∀ w,e ≠ .rc (.say w)):=by
 have no:∀ {s':Str},¬ s' = "say" -> decide (V.str s'=V.str ("say" : Str))=true->False:=fun h z=>h (by
  have:=of_decide_eq_true z
  injection this)
 cases e with
 | rc r=>
  cases r with
  | say w=>exact⟨"say",_,_,rfl,fun _=>⟨w,rfl,rfl⟩,fun z=>absurd rfl (of_decide_eq_false z)⟩
  | put a b=>exact⟨"put",_,_,rfl,fun z=>(no (by decide +kernel) z).elim,fun _ w z=>by cases z⟩
  | send a=>exact⟨"send",_,_,rfl,fun z=>(no (by decide +kernel) z).elim,fun _ w z=>by cases z⟩
  | lost a=>exact⟨"lost",_,_,rfl,fun z=>(no (by decide +kernel) z).elim,fun _ w z=>by cases z⟩
 | inn k=>exact⟨"in",_,_,rfl,fun z=>(no (by decide +kernel) z).elim,fun _ w z=>by cases z⟩
 | out k=>exact⟨"out",_,_,rfl,fun z=>(no (by decide +kernel) z).elim,fun _ w z=>by cases z⟩
 | door k=>exact⟨"door",_,_,rfl,fun z=>(no (by decide +kernel) z).elim,fun _ w z=>by cases z⟩
 | thr k=>exact⟨"through",_,_,rfl,fun z=>(no (by decide +kernel) z).elim,fun _ w z=>by cases z⟩
 | take k=>exact⟨"take",_,_,rfl,fun z=>(no (by decide +kernel) z).elim,fun _ w z=>by cases z⟩
theorem Ad{K:bO}{H:Hp}{pr:Addr}{rv:List V}{es:List En}(hpr:H pr=some (.lst rv))(hA:Al (fj H) rv es)(hz:es.length<=2000000){cs:St}{tc:TT}{te:TE}{Z:List V->Hp->Prop}
  (h1:∀(a:Addr)(s':Str)(x':V)(r':List V),H a=some (.tup (.str s' :: x' :: r'))->∀ Zb:Bool->Hp->Prop,Zb (decide (V.str s'=V.str ("say" : Str))) H->tc (some (.ref a) :: cs) H Zb)
  (h2:∀(a:Addr)(s':Str)(x':V)(r':List V),H a=some (.tup (.str s' :: x' :: r'))->∀ Zv:V->Hp->Prop,Zv x' H->te (some (.ref a) :: cs) H Zv)
  (h3:Z ((bc es).map V.str) H):kY (Itl K pr) cs tc te H Z:=by
 have lr:=hA.length
 refine yS (K:=K) (a:=pr) (xs:=rv) (fun i acc H'=>H'=H/\acc.length<=i/\acc=(bc (es.take i)).map V.str) ⟨rfl,bT _,rfl⟩ (fun i acc H' z=>by rw[z.1];exact aQ.of hpr) ?_ ?_
 ·rintro i x acc H' hx ⟨rfl,la,rfl⟩
  have hi:i < es.length:=by
   have:=(mH.mp hx).1
   lia
  have hk:=fu hi
  obtain⟨v,hv,a,rfl,ha⟩:=hA.get hk
  rw[hv]at hx
  obtain rfl:=kJ hx
  have Dv:es.take (i+1)=es.take i++[es[i]]:=by
   rw[jN,hk]
   rfl
  obtain⟨s',x',r',e1,e2,e3⟩:=My es[i]
  rw[e1]at ha
  refine h1 a s' x' r' ha _ ?_
  cases c:decide (V.str s'=V.str ("say" : Str)) with
  | true=>
   obtain⟨w,ew,rfl⟩:=e2 c
   refine Q6 rfl (h2 a s' _ r' ha _ ⟨by rw[sizeLine_eq];lia,rfl,by rw[fU,jf];lia,?_⟩)
   rw[Dv,yp,ew,kI]
   rfl
  | false=>
   refine lQ rfl ⟨rfl,by lia,?_⟩
   rw[Dv,yp]
   have e3:=e3 c
   generalize es[i]=e at e3
   cases e with
   | rc r=>
    cases r with
    | say w=>exact absurd rfl (e3 w)
    | put a b=>rw[gF]
    | send a=>rw[gF]
    | lost a=>rw[gF]
   | inn k=>rw[gF]
   | out k=>rw[gF]
   | door k=>rw[gF]
   | thr k=>rw[gF]
   | take k=>rw[gF]
 ·rintro acc H' ⟨rfl,_,rfl⟩
  rw[uw (by lia)]
  exact h3
noncomputable def Hu:Sp:=fun vs H Q _ => ∃(pr:Addr)(rv:List V)(es:List En),vs=[.ref pr]/\H pr=some (.lst rv)/\Al (fj H) rv es/\es.length<=2000000/\∀(p:Addr)(H':Hp),aJ H H'->H p=none->H' p=some (.lst ((bc es).map V.str))->Q (.ref p) H'
noncomputable def BP(n:Nat):Sp:=fun vs H Q _ => ∃(pc:Addr)(c:dZ)(bs:List (Int × Int))(ne:Nat),vs=[.ref pc]/\ud.V2 H pc c bs ne/\ud.xZ c bs/\3<=n ∧
 ∀(t ps pw:Addr)(wv:List V)(es:List En)(s:S4)(H':Hp),V3 c bs es s->Jw c s.os s.ks->jO c s->aJ H H'->H' t=some (.tup [.ref ps,.ref pw])->dH H' ps s->H' pw=some (.lst wv)->H pw=none->Al (fj H') wv es->es.length<=1000000->Q (.ref t) H'
theorem Vi:aH ["record"] ["record"] (aA vZ):=fO
theorem WR{f:Addr}{fd:FuncData}(F:cz K "said" "said" vZ f fd):aG P w K mg base aY 1 f fd ["record"] Hu:=by
 refine F.ok Vi (fun vs H Q E h=>?_) (fun cdv A outer s H vs Q E hr h=>?_)
 ·refine aK fun G_ g_=>?_
  obtain⟨pr,rv,es,rfl,_⟩:=h
  refine g_ ?_
  clear g_ G_
  rfl
 refine aK fun G_ g_=>?_
 obtain⟨pr,rv,es,rfl,hpr,hA,hz,q⟩:=h
 refine g_ ?_
 clear g_ G_
 refine⟨_,(zG (zO (yT (aa:=[]) rfl (show bI (aA vZ) ["record"] _ _ _ from xO) (yM (pv 0)) (fun _ _ _ _ _ _=>dC (zL (r:=rEq) yG (yB (r:=fY K) zH (pv 0) zB (fun _ _=>rfl)) zP (zR _))) (fun _ _ _ _ _ _=>yB (r:=fY K) zH (pv 0) zB (fun _ _=>rfl))))),?_⟩
 refine⟨_,rfl,pr,rfl,⟨_,aQ.of hpr⟩,?_⟩
 refine Ad hpr hA hz (fun a s' x' r' ha Zb hz=>?_) (fun a s' x' r' ha Zv hz=>?_) (fun pl hpl=>q pl _ (zF hpl _) hpl zC)
 ·exact⟨_,rfl,a,_,_,V.str s',rfl,rfl,aL.of ha,(yQ (j:=0) (v:=V.str s') rfl),(show Qj (V.str s') (V.str ("say" : Str))=true from rfl),_,rfl,hz⟩
 ·exact⟨_,rfl,aF (aL.of ha) ((yQ (j:=1) rfl)) hz⟩
theorem iY:aH ["chart","rooms","letters","entered","starts","told","stand"] ["chart"] (aA qp):=fO
theorem Rh{n m:Nat}{f gi g1 g2 g3 g4 g5:Addr}{fd di d1 d2 d3 d4 d5:FuncData}(F:cz K "begun" "begun" qp f fd)(Mk':Mk K C gi)
  (qW:aG P w K mg base aY m gi di ["self","most"] (Hw C (LL C))) (qP:Binds K di ["self","most"] []) (tW:mg "Letters" = some (.ref C))
  (oK:aG P w K mg base aY (m+1) g1 d1 ["rooms","under","goals"] Yy) (oE:Binds K d1 ["rooms","under","goals"] []) (ni:KI K g1) (nU:mg "goings_in" = some (.ref g1))
  (uJ:aG P w K mg base aY (m+1) g2 d2 ["steps","boxes","sizes","letters"] (t8 C)) (uG:Binds K d2 ["steps","boxes","sizes","letters"] []) (tZ:KI K g2) (tU:mg "stepped" = some (.ref g2))
  (qT:aG P w K mg base aY (m+1) g3 d3 ["rooms","entered"] (jj En.inn true)) (qN:Binds K d3 ["rooms","entered"] []) (qG:KI K g3) (qD:mg "steps_in" = some (.ref g3))
  (qU:aG P w K mg base aY (m+1) g4 d4 ["chart"] Az) (qO:Binds K d4 ["chart"] []) (qH:KI K g4) (qF:mg "sizes_of" = some (.ref g4))
  (xW:aG P w K mg base aY (m+1) g5 d5 ["chart","stand","record","letters"] (vP C n)) (xR:Binds K d5 ["chart","stand","record","letters"] []) (wg:KI K g5) (wO:mg "rested" = some (.ref g5))
  (aM:mg "tuple" = none) (aP:mg "len" = none):aG P w K mg base aY (m+2) f fd ["chart"] (BP n):=by
 refine F.ok iY (fun vs H Q E h=>?_) (fun cdv A outer s H vs Q E hr h=>?_)
 ·refine aK fun G_ g_=>?_
  obtain⟨pc,c,bs,ne,rfl,_⟩:=h
  refine g_ ?_
  clear g_ G_
  rfl
 refine aK fun G_ g_=>?_
 obtain⟨pc,c,bs,ne,rfl,hX,ok,n3,q⟩:=h
 refine g_ ?_
 clear g_ G_
 refine⟨_,(zE (zK (i:=1) iY.nd rfl (Or.inl rfl) (yB zH (pv 0) zB (fun _ _=>rfl)))
  (zE (zK (i:=2) iY.nd rfl (Or.inl rfl) (Bm Mk' qW hr rfl tW qP .nil yE (zA (yB zH (pv 0) zB (fun _ _=>rfl)) zD)))
  (zE (zK (i:=3) iY.nd rfl (Or.inl rfl) (zJ oK hr rfl nU ni oE .nil yE (zA (pv 1) (zA jX (zA (yK zD) zD)))))
  (zE (zK (i:=4) iY.nd rfl (Or.inl rfl) (yA zX rfl aM iT (zA (yT (aa:=[]) rfl (show bI (aA qp) ["chart","rooms","letters","entered","starts","told","stand"] _ _ _ from xO) (nF (yB zH (pv 0) zB (fun _ _=>rfl))) (fun _ _ _ _ _ _=>cR) (fun _ _ _ _ _ _=>(yB (r:=fY K) zH (pv 0) zB (fun _ _=>rfl)))) zD)))
  (zE (zK (i:=5) iY.nd rfl (Or.inl rfl) (zJ uJ hr rfl tU tZ uG .nil yE (zA (zJ qT hr rfl qD qG qN .nil yE (zA (pv 1) (zA (pv 3) zD))) (zA (pv 4) (zA (zJ qU hr rfl qF qH qO .nil yE (zA (pv 0) zD)) (zA (pv 2) zD))))))
  (zE (zK (i:=6) iY.nd rfl (Or.inl rfl) (zW (zA (yA zX rfl aM iT (zA (pv 3) zD)) (zA (yB zH (pv 5) zB (fun _ _=>rfl)) (zA (q9 (yC W7 (zW (zA (zW zD) zD)) (zS zN rfl aP bV (zA (pv 1) zD)))) zD)))))
  (zG (zO (zJ xW hr rfl wO wg xR .nil yE (zA (pv 0) (zA (pv 6) (zA (yB zH (pv 5) zB (fun _ _=>rfl)) (zA (pv 2) zD))))))))))))),?_⟩
 refine aK fun G_ g_=>?_
 obtain⟨pb,pn,t,pd,bv,nv,rv,dv,h1,h2,h3,h4,h5,h6,h7,h8,h9,h10⟩:=id hX
 refine g_ ?_
 clear g_ G_
 have hC:=hX.ch ok
 have SM:=h7.length
 have lbv:=h3.length
 have good:=ok.ok.good
 have npos:=good.pos
 have ld:=yV c.rs
 have l10:=ok.l10
 have b6:=ok.ok.b6
 have lsz:c.sz.length=bs.length:=by rw[ok.sz,bZ]
 refine⟨_,rfl,aF (aL.of h1) rfl ?_⟩
 refine⟨_,rfl,aF (aL.of h1) rfl (fun x dx nx ndx qD0=>⟨x,dx,c.lb,rfl,zC,ok.ok.V9,fun fp H1 hL1 own rest=>⟨rfl,?_⟩⟩)⟩
 obtain⟨s1,nfp⟩:=made nx ndx own rest
 clear own rest
 refine⟨_,rfl,Nat.zero_le _,fun pg hpg=>?_⟩
 have u2:=zF hpg (.lst [])
 have i2:upd H1 pg (.lst []) pg=some (.lst (aC [])):=zC
 generalize upd H1 pg (.lst [])=H2 at u2 i2 ⊢
 have s2:=s1.trans u2
 refine⟨t,pg,c.rs,none,[],rfl,⟨rv,s2 _ _ h6,h7.mono (aB.of s2)⟩,good,ok.ok.r40,(fun u hu=>by cases hu),⟨i2,(fun g hg=>by cases hg),by decide⟩,fun pe ms H3 u3 npe hpe hms=>?_⟩
 have s3:=s2.trans u3
 have mlt:∀ k∈ms,k < c.rs.length:=fun k hk=>by
  have:=hms.lt npos k hk
  lia
 have ml:ms.length<=10:=by
  have:=hms.len npos
  lia
 refine⟨_,rfl,aF (aL.of (s3 _ _ h1)) rfl ⟨pb,rfl,⟨_,aL.of (s3 _ _ h2)⟩,?_⟩⟩
 refine jx (K:=K) (a:=pb) (xs:=bv) (fun i acc H'=>H'=H3/\acc=((bs.map (·.2)).take i).map V.int) ⟨rfl,rfl⟩ (fun i acc H' z=>by rw[z.1];exact aL.of (s3 _ _ h2)) ?_ ?_
 ·rintro i y acc H' hy ⟨rfl,rfl⟩
  have hi:i < bs.length:=by
   have:=(mH.mp hy).1
   lia
  have er:=fu hi
  refine aK fun G_ g_=>?_
  obtain⟨v,hv,a,nm,rfl,ha⟩:=h3.get er
  refine g_ ?_
  clear g_ G_
  rw[hv]at hy
  obtain rfl:=kJ hy
  refine⟨_,rfl,aF (aL.of (s3 _ _ ha)) rfl ⟨zV (by rw[bZ,gG,bZ];lia),rfl,?_⟩⟩
  rw[jN,cZ,er,kI]
  rfl
 rintro acc H' ⟨rfl,rfl⟩ pl4 qHL
 rw[show (bs.map (·.2)).take bv.length=bs.map (·.2) from uw (by rw[bZ];lia)]
 have u4:=zF qHL (.lst ((bs.map (·.2)).map V.int))
 have i4:upd H' pl4 (.lst ((bs.map (·.2)).map V.int)) pl4=some (.lst ((bs.map (·.2)).map V.int)):=zC
 generalize upd H' pl4 (.lst ((bs.map (·.2)).map V.int))=H4 at u4 i4 ⊢
 refine⟨pl4,_,rfl,.inl ⟨aQ.of i4,fun ptb qHC=>?_⟩⟩
 have u5:=zF qHC (.tup ((bs.map (·.2)).map V.int))
 have i5:upd H4 ptb (.tup ((bs.map (·.2)).map V.int)) ptb=some (.tup ((bs.map (·.2)).map V.int)):=zC
 generalize upd H4 ptb (.tup ((bs.map (·.2)).map V.int))=H5 at u5 i5 ⊢
 have Yq:=u4.trans u5
 have s5:=s3.trans Yq
 refine⟨_,rfl,_,rfl,t,pe,c.rs,c.di,c.dO,ms,rfl,⟨rv,s5 _ _ h6,h7.mono (aB.of s5)⟩,h8.mono (aB.of s5),Yq _ _ hpe,mlt,by lia,fun mK Vb H6 u6 ZX qAD vD=>?_⟩
 have s6:=s5.trans u6
 have vD:Al (qQ H6) Vb (ms.map fun r=>(En.inn r,c.di r)):=vD
 refine⟨_,rfl,_,rfl,pc,pb,_,_,_,_,_,_,bv,c.sz,rfl,s6 _ _ h1,s6 _ _ h2,(by rw[ok.sz];exact ud.Yb (h3.mono fun _ _ z=>z.mono (aB.of s6))),(by lia),fun tz H7 u7 htz=>?_⟩
 have s17:aJ H1 H7:=u2.trans (u3.trans (Yq.trans (u6.trans u7)))
 have s7:=s1.trans s17
 have hL7:=LL.same hL1 s17
 have qGT:mK ∉ fp:=fun z=>by
  have e0:H mK=none:=s5.free ZX
  exact LL.new hL1 ((u2.trans (u3.trans Yq)).free ZX) z
 have RM:∀ s∈ms.map (fun r=>(En.inn r,c.di r)),(∀ d∈s.2,d.ok (bs.map (·.2)).length)/\s.2.length<=8:=fun s hs=>by
  refine aK fun G_ g_=>?_
  obtain⟨r,_,rfl⟩:=iU.mp hs
  refine g_ ?_
  clear g_ G_
  rw[bZ,<-lsz]
  exact ok.ok.ins r
 refine⟨_,rfl,mK,ptb,tz,x,_,_,bs.map (·.2),c.sz,[],fp,c.lb,rfl,u7 _ _ qAD,qGT,vD.mono (fun _ _ z=>z.mono (aB.of u7)),(u6.trans u7) _ _ i5,htz,hL7,RM,(by rw[bZ];lia),(by rw[bZ];lia),(by rw[bZ];lia),ok.ok.pos,Nat.zero_le _,ok.ok.V9,fun tt tb' pr rv8 fp8 H8 hL8 st8 htt htb hpr J8 ZZ hes=>?_⟩
 have toS:∀ {Hx:Hp} {fpx:List Addr},bR H7 Hx fp fpx->aJ H Hx:=fun st b o e=>st.rest b o (s7 b o e) fun z=>by
  rw[nfp b z]at e
  cases e
 have s8:=toS st8
 have pe8:H8 pe=some (.lst (aC ms)):=st8.rest _ _ ((Yq.trans (u6.trans u7)) _ _ hpe) (LL.new hL1 (u2.free npe))
 refine⟨_,rfl,pe,_,rfl,.inl ⟨aQ.of pe8,fun FJ qAC=>?_⟩⟩
 have u9:=zF qAC (.tup (aC ms))
 have i9:upd H8 FJ (.tup (aC ms)) FJ=some (.tup (aC ms)):=zC
 generalize upd H8 FJ (.tup (aC ms))=H9 at u9 i9 ⊢
 refine⟨_,rfl,aF (aL.of (u9 _ _ htt)) rfl ?_⟩
 refine⟨fun v H' => ∃(pk:Addr)(kv:List V),v = .ref pk/\aJ H9 H'/\H' pk=some (.tup kv)/\bF H' kv (List.replicate c.rs.length []),?_,?_⟩
 ·refine⟨Nat.zero_le _,fun q1 hq1=>⟨zI (by show 1<=1000;decide),fun q2 hq2=>?_⟩⟩
  have w1:=zF hq1 (.tup [])
  have j1:upd H9 q1 (.tup []) q1=some (.tup []):=zC
  generalize upd H9 q1 (.tup [])=Ha at w1 j1 hq2 ⊢
  have w2:=zF hq2 (.tup [V.ref q1])
  have j2:upd Ha q2 (.tup [V.ref q1]) q2=some (.tup [V.ref q1]):=zC
  generalize upd Ha q2 (.tup [V.ref q1])=Hb at w2 j2 ⊢
  refine⟨_,rfl,fQ rfl (.inr (aL.of ((s8.trans (u9.trans (w1.trans w2))) _ _ h6))) ⟨q2,_,[V.ref q1],rfl,rfl,aL.of j2,by simp,by lia,?_,fun k1=>?_,fun k2 p3 hp3=>?_⟩⟩
  ·show ((1:Nat):Int) * (rv.length:Int)<=_
   rw[sizeLine_eq]
   lia
  ·refine⟨q2,_,rfl,w1.trans w2,j2,?_⟩
   have e1:c.rs.length=1:=by lia
   rw[e1]
   exact .cons ⟨q1,rfl,w2 _ _ j1⟩ .nil
  ·have w3:=zF hp3 (.tup (List.replicate (rv.length:Int).toNat [V.ref q1]).flatten)
   have j3:upd Hb p3 (.tup (List.replicate (rv.length:Int).toNat [V.ref q1]).flatten) p3=some (.tup (List.replicate (rv.length:Int).toNat [V.ref q1]).flatten):=zC
   generalize upd Hb p3 (.tup (List.replicate (rv.length:Int).toNat [V.ref q1]).flatten)=Hc at w3 j3 ⊢
   refine⟨p3,_,rfl,w1.trans (w2.trans w3),j3,?_⟩
   rw[VM,SM]
   exact Ep ((w2.trans w3) _ _ j1) _
 rintro _ HF aZ
 refine aK fun G_ g_=>?_
 obtain⟨pk,kv,rfl,u10,TJ,hkv⟩:=aZ
 refine g_ ?_
 clear g_ G_
 refine⟨zI (by show 3<=1000;decide),fun ps hps=>?_⟩
 have Yr:=zF hps (.tup [V.ref FJ,V.ref tb',V.ref pk])
 have i11:upd HF ps (.tup [V.ref FJ,V.ref tb',V.ref pk]) ps=some (.tup [V.ref FJ,V.ref tb',V.ref pk]):=zC
 generalize upd HF ps (.tup [V.ref FJ,V.ref tb',V.ref pk])=Xk at Yr i11 ⊢
 have Ms:=u9.trans (u10.trans Yr)
 have qC1:bR H7 Xk fp fp8:=bR.trans st8 (bR.same fp8 Ms)
 have HY:=toS qC1
 have hSd:dH Xk ps (t7 c bs ms):=⟨FJ,tb',pk,kv,i11,(u10.trans Yr) _ _ i9,Ms _ _ htb,Yr _ _ TJ,hkv.mono (aB.of Yr)⟩
 have les:=vN (sz:=c.sz) (m:=c.lb) (bx:=bs.map (·.2)) (l:=[]) fun y hy=>(RM y hy).2
 rw[bZ]at les
 have sok:jO c (t7 c bs ms):=⟨hms.1,mlt,by show ms.length<=40;lia,by show (cP _ _ _ _ _).1.length=_;rw[vO,bZ,lsz],List.length_replicate,Ax (Nat.zero_le _)⟩
 have jw:Jw c (t7 c bs ms).os (t7 c bs ms).ks:=⟨hms.1,mlt,List.length_replicate,fun r hr=>by
  rw[List.eq_of_mem_replicate hr]
  exact⟨(fun g hg=>by cases hg),by decide⟩⟩
 refine⟨_,rfl,_,rfl,_,rfl,aF (aL.of (Ms _ _ htt)) rfl ⟨_,rfl,pc,ps,pr,x,c,t7 c bs ms,Hs c bs ms,rv8,fp8,Jw c,rfl,hC.mono (aB.of HY),⟨ok.ok,wide ok.ok,fun d hd=>⟨(ok.g d hd).1,Nat.le_trans (ok.g d hd).2 n3⟩⟩,hSd,sok,jw,LL.same hL8 Ms,Ms _ _ hpr,hes.mono (fun _ _ z=>z.mono (aB.of Ms)),(by unfold Hs;lia),(by have:=ok.t4;lia),fun tr ps' pw wv n' es' s' fp' H' RR dn j' so' st' htr hS' Du npw npf hA' lw=>?_⟩⟩
 exact q tr ps' pw wv _ s' H' ⟨ms,n',es',hms,RR,dn,rfl⟩ j' so' (toS (bR.trans qC1 st')) htr hS' Du (HY.free npw) hA' (by rw[<-hA'.length];exact lw)
noncomputable def HW(c:dZ)(ev:Int)(s:S4)(es:List En)(s':S4):Prop:=∃(e1 e2:List En)(s1:S4)(n:Nat),Gy c ev s e1 s1/\mQ c e1 s1 n e2 s'/\(c.tn<=n ∨ s'.l=[])/\es=e2++wQ s'.l
theorem Ml{c:dZ}{ev:Int}{s s1 s2:S4}{e1 e2:List En}(h1:HW c ev s e1 s1)(h2:HW c ev s e2 s2):e1=e2/\s1=s2:=by
 obtain⟨a1,b1,t1,n1,x1,y1,z1,rfl⟩:=h1
 obtain⟨a2,b2,t2,n2,x2,y2,z2,rfl⟩:=h2
 obtain⟨rfl,rfl⟩:=Dz x1 x2
 obtain⟨rfl,rfl⟩:=Le y1 y2 z1 z2
 exact⟨rfl,rfl⟩
noncomputable def BV(n:Nat):Sp:=fun vs H Q _ => ∃(pc ps:Addr)(c:dZ)(ev:Int)(s:S4),vs=[.ref pc,.ref ps,.int ev]/\uv H pc c/\All c (Jw c) n/\dH H ps s/\jO c s/\Jw c s.os s.ks/\s.l=[]/\c.tn<=20 ∧
 ∀(t ps' pw:Addr)(wv:List V)(es':List En)(s':S4)(H':Hp),HW c ev s es' s'->Jw c s'.os s'.ks->jO c s'->aJ H H'->H' t=some (.tup [.ref ps',.ref pw])->dH H' ps' s'->H' pw=some (.lst wv)->H pw=none->Al (fj H') wv es'->wv.length<=1000000->Q (.ref t) H'
theorem vY:aH ["chart","stand","event","letters","told"] ["chart","stand","event"] (aA uy):=fO
theorem Ri{n m:Nat}{f g1 g2 gi:Addr}{fd d1 d2 di:FuncData}(F:cz K "after" "after" uy f fd)(cl:xY K C)(Mk':Mk K C gi)
  (qW:aG P w K mg base aY m gi di ["self","most"] (Hw C (LL C))) (qP:Binds K di ["self","most"] []) (tW:mg "Letters" = some (.ref C))
  (KD:aG P w K mg base aY (m+1) g1 d1 ["chart","stand","event","letters"] (Ht C n)) (Jv:Binds K d1 ["chart","stand","event","letters"] []) (JX:KI K g1) (JM:mg "turn" = some (.ref g1))
  (xW:aG P w K mg base aY (m+1) g2 d2 ["chart","stand","record","letters"] (vP C n)) (xR:Binds K d2 ["chart","stand","record","letters"] []) (wg:KI K g2) (wO:mg "rested" = some (.ref g2)) :
  aG P w K mg base aY (m+2) f fd ["chart","stand","event"] (BV n):=by
 refine F.ok vY (fun vs H Q E h=>?_) (fun cdv A outer s H vs Q E hr h=>?_)
 ·refine aK fun G_ g_=>?_
  obtain⟨pc,ps,c,ev,s,rfl,_⟩:=h
  refine g_ ?_
  clear g_ G_
  rfl
 refine aK fun G_ g_=>?_
 obtain⟨pc,ps,c,ev,st,rfl,hC,al,hS,so,js,l0,Xz,q⟩:=h
 refine g_ ?_
 clear g_ G_
 refine⟨_,(zE (zK (i:=3) vY.nd rfl (Or.inl rfl) (Bm Mk' qW hr rfl tW qP .nil yE (zA (yB zH (pv 0) zB (fun _ _=>rfl)) zD)))
  (zE (zK (i:=4) vY.nd rfl (Or.inl rfl) (zJ KD hr rfl JM JX Jv .nil yE (zA (pv 0) (zA (pv 1) (zA (pv 2) (zA (pv 3) zD))))))
  (zG (zO (zJ xW hr rfl wO wg xR .nil yE (zA (pv 0) (zA (yB zH (pv 4) zB (fun _ _=>rfl)) (zA (yB zH (pv 4) zB (fun _ _=>rfl)) (zA (pv 3) zD))))))))),?_⟩
 refine aK fun G_ g_=>?_
 obtain⟨pb,t,pd,x4,bv,dv,h1,h2,h3,h4,h5,h6,h7⟩:=id hC
 refine g_ ?_
 clear g_ G_
 refine⟨_,rfl,aF (aL.of h1) rfl (fun x dx nx ndx qD0=>?_)⟩
 refine⟨x,dx,c.lb,rfl,zC,al.ok.V9,fun fp H1 hL1 own rest=>⟨rfl,?_⟩⟩
 obtain⟨s1,nfp⟩:=made nx ndx own rest
 have toS:∀ {H':Hp} {fp':List Addr},bR H1 H' fp fp'->aJ H H':=fun st b o e=>st.rest b o (s1 b o e) fun z=>by
  rw[nfp b z]at e
  cases e
 refine⟨_,rfl,_,rfl,_,rfl,_,rfl,pc,ps,x,c,ev,st,fp,Jw c,rfl,hC.mono (aB.of s1),al,hS.mono (aB.of s1),so,js,(by rw[l0];exact hL1),fun tt ps2 pr rv s2 es xJ H2 TR j2 hL2 st2 htt hS2 so2 hr2 nr2 nrf2 YL le2=>?_⟩
 have k2:=bR.keep st2 hL1
 refine⟨_,rfl,_,rfl,aF (aL.of htt) rfl ⟨_,rfl,aF (aL.of htt) rfl ⟨_,rfl,pc,ps2,pr,x,c,s2,es,rv,xJ,Jw c,rfl,hC.mono ((aB.of s1).trans k2),al,hS2,so2,j2,hL2,hr2,YL,le2,Xz,fun t3 ps3 pw wv n' es' s' fp3 H3 RR dn j3 so3 st3 ht3 hS3 hw3 nw3 nwf3 hA3 lw=>?_⟩⟩⟩
 have qGE:=bR.trans st2 st3
 exact q t3 ps3 pw wv _ s' H3 ⟨es,es',s2,n',TR,RR,dn,rfl⟩ j3 so3 (toS qGE) ht3 hS3 hw3 ((toS st2).free nw3) hA3 lw
end
end Ru
namespace Ao
open PySem L2 qR sS Dh Uk KY jc Ru
open HS (Al)
abbrev KS:=List Key ⊕ List (List Key)
noncomputable def T3:bz (List KS) 3:=(bz.sw (fun i=>decide (i < 2)) (bz.leaf.tup.up 2 (by decide)) bz.leaf.tup.tup).tup
theorem le3:3<=8:=by decide
noncomputable def cG(s:S4):List KS:=[.inl (s.os.map fun n:Nat=>(.inl (n:Int):Key)),.inl (s.bx.map fun n:Int=>(.inl n:Key)),.inr (s.ks.map fun r:List Nat=>r.map fun n:Nat=>(.inl (n:Int):Key))]
theorem Ci:∀ {a b:List Nat},a.map (fun n:Nat=>(.inl (n:Int):Key))=b.map (fun n:Nat=>(.inl (n:Int):Key))->a=b
 | [],[],_=>rfl
 | [],_ :: _,h=>by cases h
 | _ :: _,[],h=>by cases h
 | x :: a,y :: b,h=>by
  rw[List.map_cons,List.map_cons,List.cons.injEq]at h
  obtain⟨h1,h2⟩:=h
  have h3:(x:Int)=y:=Sum.inl.inj h1
  rw[Ci h2,show x=y by lia]
theorem Ls:∀ {a b:List Int},a.map (fun n:Int=>(.inl n:Key))=b.map (fun n:Int=>(.inl n:Key))->a=b
 | [],[],_=>rfl
 | [],_ :: _,h=>by cases h
 | _ :: _,[],h=>by cases h
 | x :: a,y :: b,h=>by
  rw[List.map_cons,List.map_cons,List.cons.injEq]at h
  rw[Ls h.2,show x=y from Sum.inl.inj h.1]
theorem Gh:∀ {a b:List (List Nat)},a.map (fun r:List Nat=>r.map fun n:Nat=>(.inl (n:Int):Key))=b.map (fun r:List Nat=>r.map fun n:Nat=>(.inl (n:Int):Key))->a=b
 | [],[],_=>rfl
 | [],_ :: _,h=>by cases h
 | _ :: _,[],h=>by cases h
 | x :: a,y :: b,h=>by
  rw[List.map_cons,List.map_cons,List.cons.injEq]at h
  rw[Gh h.2,Ci h.1]
noncomputable def nl(s:S4):S4:=⟨s.os,s.bx,s.ks,[]⟩
theorem wZ{s t:S4}(h:cG s=cG t):nl s=nl t:=by
 unfold cG at h
 simp only[List.cons.injEq,Sum.inl.injEq,Sum.inr.injEq,and_true]at h
 obtain⟨h1,h2,h3⟩:=h
 unfold nl
 rw[Ci h1,Ls h2,Gh h3]
theorem wu(H:Hp):∀(i:Nat)(xs:List Nat),ur bz.leaf H i (xs.map fun n:Nat=>(.inl (n:Int):Key)) (aC xs)
 | _,[]=>.nil
 | i,_ :: xs=>.cons rfl (wu H (i+1) xs)
theorem Gg(H:Hp):∀(i:Nat)(xs:List Int),ur bz.leaf H i (xs.map fun n:Int=>(.inl n:Key)) (xs.map V.int)
 | _,[]=>.nil
 | i,_ :: xs=>.cons rfl (Gg H (i+1) xs)
theorem T7{H:Hp}{kv:List V}{ks:List (List Nat)}(x:bF H kv ks):∀ i:Nat,ur bz.leaf.tup H i (ks.map fun r:List Nat=>r.map fun n:Nat=>(.inl (n:Int):Key)) kv:=by
 induction x with
 | nil=>exact fun _=>.nil
 | cons h _ ih=>
  intro i
  obtain⟨a,rfl,ha⟩:=h
  exact .cons ⟨a,_,rfl,ha,wu H 0 _⟩ (ih (i+1))
theorem qA8{H:Hp}{ps:Addr}{s:S4}(x:dH H ps s):T3.inn 0 H (cG s) (.ref ps):=by
 obtain⟨po,pb,pk,kv,h1,h2,h3,h4,h5⟩:=x
 exact⟨ps,_,rfl,h1,.cons ⟨rfl,po,_,rfl,h2,wu H 0 _⟩ (.cons ⟨rfl,pb,_,rfl,h3,Gg H 0 _⟩ (.cons ⟨rfl,pk,kv,rfl,h4,T7 h5 0⟩ .nil))⟩
abbrev Fs:=List (S4 × List Nat)
noncomputable def rowOf(fs:Fs)(s:S4):Option Nat:=fs.findIdx? fun x=>decide (cG x.1=cG s)
noncomputable def nums:Nat->Fs->List (List KS × V)
 | _,[]=>[]
 | i,x :: fs=>(cG x.1,.int (i:Int)) :: nums (i+1) fs
theorem Dw(s:S4):∀(i:Nat)(fs:Fs),dD (nums i fs) (cG s)=(rowOf fs s).map fun j=>V.int ((i+j:Nat):Int)
 | _,[]=>rfl
 | i,x :: fs=>by
  unfold nums rowOf
  rw[List.findIdx?_cons]
  by_cases h:cG x.1=cG s
  ·rw[c7 (p:=(cG x.1,V.int (i:Int))) h,decide_eq_true h]
   rfl
  ·rw[cA (p:=(cG x.1,V.int (i:Int))) h,decide_eq_false h,Dw s (i+1) fs]
   unfold rowOf
   rw[if_neg (by decide),Option.map_map]
   congr 1
   funext j
   show V.int ((i+1+j:Nat):Int)=V.int ((i+(j+1):Nat):Int)
   rw[show i+1+j=i+(j+1) by lia]
theorem zc(x:S4 × List Nat):∀(i:Nat)(fs:Fs),nums i (fs++[x])=nums i fs++[(cG x.1,V.int ((i+fs.length:Nat):Int))]
 | _,[]=>rfl
 | i,y :: fs=>by
  show (cG y.1,V.int (i:Int)) :: nums (i+1) (fs++[x])=(cG y.1,V.int (i:Int)) :: (nums (i+1) fs++_)
  rw[zc x (i+1) fs,eV,show i+1+fs.length=i+(fs.length+1) by lia]
theorem Fj:∀(i:Nat)(fs:Fs),(nums i fs).length=fs.length
 | _,[]=>rfl
 | i,x :: fs=>by
  show (nums (i+1) fs).length+1=fs.length+1
  rw[Fj (i+1) fs]
theorem wB{fs:Fs}{s:S4}{i:Nat}(h:rowOf fs s=some i):∃ t p,fs[i]? = some (t,p)/\nl t=nl s:=by
 unfold rowOf at h
 rw[List.findIdx?_eq_some_iff_getElem]at h
 obtain⟨hi,h1,_⟩:=h
 exact⟨fs[i].1,fs[i].2,by rw[fu hi],wZ (of_decide_eq_true h1)⟩
theorem Qu{fs:Fs}{s:S4}{i:Nat}(h:rowOf fs s=some i):i < fs.length:=by
 obtain⟨t,p,h1,_⟩:=wB h
 exact (mH.mp h1).1
theorem Ig{fs:Fs}{s:S4}(h:rowOf fs s=none):∀ x∈fs,nl x.1 ≠ nl s:=by
 unfold rowOf at h
 rw[List.findIdx?_eq_none_iff]at h
 intro x hx e
 have:=of_decide_eq_false (h x hx)
 apply this
 unfold cG
 have e1:x.1.os=s.os:=show (nl x.1).os=(nl s).os by rw[e]
 have e2:x.1.bx=s.bx:=show (nl x.1).bx=(nl s).bx by rw[e]
 have e3:x.1.ks=s.ks:=show (nl x.1).ks=(nl s).ks by rw[e]
 rw[e1,e2,e3]
noncomputable def uo(fs:Fs)(s:S4)(p:List Nat):Fs:=match rowOf fs s with
 | some _=>fs
 | none=>fs++[(s,p)]
noncomputable def xU(fs:Fs)(s:S4):Nat:=match rowOf fs s with
 | some i=>i
 | none=>fs.length
theorem cY{fs:Fs}{s:S4}{p:List Nat}{i:Nat}(h:rowOf fs s=some i):uo fs s p=fs/\xU fs s=i:=by
 unfold uo xU
 rw[h]
 exact⟨rfl,rfl⟩
theorem cD{fs:Fs}{s:S4}{p:List Nat}(h:rowOf fs s=none):uo fs s p=fs++[(s,p)]/\xU fs s=fs.length:=by
 unfold uo xU
 rw[h]
 exact⟨rfl,rfl⟩
theorem sI(fs:Fs)(s:S4)(p:List Nat):∃ more,uo fs s p=fs++more/\more.length<=1:=by
 cases h:rowOf fs s with
 | some i=>exact⟨[],by rw[(cY h).1,gF],Nat.zero_le _⟩
 | none=>exact⟨[(s,p)],(cD h).1,bT _⟩
inductive bH(c:dZ)(ne:Nat)(s0:S4):Nat->Fs->List (List En × Nat)->Prop where
 | nil:bH c ne s0 0 [(nl s0,[])] []
 | cell {i:Nat} {fs:Fs} {ms:List (List En × Nat)} {s s':S4} {p:List Nat} {es:List En}:bH c ne s0 i fs ms->0 < ne->fs[i / ne]? = some (s,p)->HW c ((i % ne:Nat):Int) s es s' →
   bH c ne s0 (i+1) (uo fs (nl s') (p++[i % ne])) (ms++[(es,xU fs (nl s'))])
section
variable{c:dZ}{ne:Nat}{s0:S4}
theorem j9{i:Nat}{fs:Fs}{ms:List (List En × Nat)}(h:bH c ne s0 i fs ms):ms.length=i:=by
 induction h with
 | nil=>rfl
 | cell _ _ _ _ ih=>rw[fU,ih];rfl
theorem Ol{i:Nat}{fs:Fs}{ms:List (List En × Nat)}(h:bH c ne s0 i fs ms):∀ x∈fs,x.2.length<=i:=by
 induction h with
 | nil=>
  intro x hx
  rw[dJ.mp hx]
  exact bT _
 | @cell i fs ms s s' p es h h0 h1 h2 ih=>
  intro x hx
  have h3:=ih _ (Mq h1)
  cases e:rowOf fs (nl s') with
  | some j=>
   rw[(cY e).1]at hx
   have:=ih x hx
   lia
  | none=>
   rw[(cD e).1]at hx
   rcases gW.mp hx with hx | hx
   ·have:=ih x hx
    lia
   ·rw[dJ.mp hx,fU,jf]
    simp only at h3
    lia
theorem vG{i:Nat}{fs:Fs}{ms:List (List En × Nat)}(h:bH c ne s0 i fs ms):∀ x∈fs,x.1.l=[]:=by
 induction h with
 | nil=>
  intro x hx
  rw[dJ.mp hx]
  rfl
 | @cell i fs ms s s' p es h h0 h1 h2 ih=>
  intro x hx
  cases e:rowOf fs (nl s') with
  | some j=>
   rw[(cY e).1]at hx
   exact ih x hx
  | none=>
   rw[(cD e).1]at hx
   rcases gW.mp hx with hx | hx
   ·exact ih x hx
   ·rw[dJ.mp hx]
    rfl
theorem Jh{i:Nat}{fs:Fs}{ms:List (List En × Nat)}(h:bH c ne s0 i fs ms):(fs.map (·.1)).Nodup:=by
 induction h with
 | nil=>exact List.nodup_cons.mpr ⟨by simp,List.nodup_nil⟩
 | @cell i fs ms s s' p es h h0 h1 h2 ih=>
  cases e:rowOf fs (nl s') with
  | some j=>rw[(cY e).1];exact ih
  | none=>
   rw[(cD e).1,kI,List.nodup_append]
   refine⟨ih,by simp,fun x hx y hy=>?_⟩
   rw[List.map_cons,List.map_nil,dJ]at hy
   subst hy
   obtain⟨z,hz,rfl⟩:=iU.mp hx
   intro k
   exact Ig e z hz (by rw[k] <;> rfl)
theorem gO{i:Nat}{fs:Fs}{ms:List (List En × Nat)}(h:bH c ne s0 i fs ms):∀ {fs':Fs} {rM:List (List En × Nat)},bH c ne s0 i fs' rM->fs=fs'/\ms=rM:=by
 induction h with
 | nil=>
  intro fs' rM h'
  generalize hz:(0:Nat)=z at h'
  cases h' with
  | nil=>exact⟨rfl,rfl⟩
  | cell=>lia
 | @cell i fs ms s s' p es h h0 h1 h2 ih=>
  intro fs' rM h'
  generalize hz:i+1=z at h'
  cases h' with
  | nil=>lia
  | @cell j jt rK t t' q es2 g g0 g1 g2=>
   obtain rfl:i=j:=by lia
   obtain⟨rfl,rfl⟩:=ih g
   rw[h1]at g1
   obtain⟨rfl,rfl⟩:=Prod.mk.inj (kJ g1)
   obtain⟨rfl,rfl⟩:=Ml h2 g2
   exact⟨rfl,rfl⟩
theorem pB{i:Nat}{fs:Fs}{ms:List (List En × Nat)}(h:bH c ne s0 i fs ms):∀ j,j<=i->∃ fs' rM more rK,bH c ne s0 j fs' rM/\fs=fs'++more/\ms=rM++rK/\(j < i->∃ x,fs'[j / ne]? = some x):=by
 induction h with
 | nil=>
  intro j hj
  obtain rfl:j=0:=by lia
  exact⟨_,_,[],[],.nil,by simp,rfl,fun z=>absurd z (Nat.lt_irrefl _)⟩
 | @cell i fs ms s s' p es h h0 h1 h2 ih=>
  intro j hj
  by_cases e:j=i+1
  ·subst e
   exact⟨_,_,[],[],.cell h h0 h1 h2,by simp,by simp,fun z=>absurd z (Nat.lt_irrefl _)⟩
  ·obtain⟨fs',rM,more,rK,g1,g2,g3,g4⟩:=ih j (by lia)
   obtain⟨m2,e2,_⟩:=sI fs (nl s') (p++[i % ne])
   refine⟨fs',rM,more++m2,rK++[(es,xU fs (nl s'))],g1,by rw[e2,g2,List.append_assoc],by rw[g3,List.append_assoc],fun _=>?_⟩
   by_cases k:j < i
   ·exact g4 k
   ·obtain rfl:j=i:=by lia
    obtain⟨rfl,_⟩:=gO h g1
    exact⟨_,h1⟩
theorem xK{n m:Nat}{fs fs':Fs}{ms rM:List (List En × Nat)}(h:bH c ne s0 (n * ne) fs ms)(e:fs.length=n)(h':bH c ne s0 m fs' rM):m<=n * ne:=by
 by_cases k:m<=n * ne
 ·exact k
 ·obtain⟨f2,m2,more,rK,g1,g2,g3,g4⟩:=pB h' (n * ne) (by lia)
  obtain⟨rfl,rfl⟩:=gO h g1
  obtain⟨x,hx⟩:=g4 (by lia)
  have hne:0 < ne:=by
   cases h' with
   | nil=>lia
   | cell _ q _ _=>exact q
  rw[Nat.mul_div_cancel _ hne]at hx
  have:=(mH.mp hx).1
  lia
end
theorem Yp{H:Hp}{a:Addr}{o:HO}(h:H a=some o):upd H a o=H:=funext fun b=>by
 by_cases z:b=a
 ·rw[z,zC,h]
 ·exact zQ z
noncomputable def Gz(H:Hp)(v:V)(s:S4):Prop:=∃ q:Addr,v = .ref q/\dH H q s
noncomputable def Pn(H:Hp)(v:V)(p:List Nat):Prop:=∃ q:Addr,v = .ref q/\H q=some (.tup (aC p))
theorem Gz.mono{H H':Hp}{v:V}{s:S4}(x:Gz H v s)(k:aB H H'):Gz H' v s:=by
 obtain⟨q,e,h⟩:=x
 exact⟨q,e,h.mono k⟩
theorem Pn.mono{H H':Hp}{v:V}{p:List Nat}(x:Pn H v p)(k:aB H H'):Pn H' v p:=by
 obtain⟨q,e,h⟩:=x
 exact⟨q,e,k _ _ h⟩
noncomputable def Q8(m:Int)(as ap an:Addr):List (Str × V):=cQ "numbers" (.ref an) (cQ "paths" (.ref ap) (cQ "stands" (.ref as) (cQ "most" (.int m) [])))
theorem Ti(m:Int)(as ap an:Addr):(Q8 m as ap an).lookup ("numbers" : Str)=some (.ref an):=by
 unfold Q8
 rw[aO,if_pos rfl]
theorem Th(m:Int)(as ap an:Addr):(Q8 m as ap an).lookup ("paths" : Str)=some (.ref ap):=by
 unfold Q8
 rw[aO,if_neg (by decide +kernel),aO,if_pos rfl]
theorem Ac(m:Int)(as ap an:Addr):(Q8 m as ap an).lookup ("stands" : Str)=some (.ref as):=by
 unfold Q8
 rw[aO,if_neg (by decide +kernel),aO,if_neg (by decide +kernel),aO,if_pos rfl]
theorem qE5(m:Int)(as ap an:Addr):(Q8 m as ap an).lookup ("most" : Str)=some (.int m):=by
 unfold Q8
 rw[aO,if_neg (by decide +kernel),aO,if_neg (by decide +kernel),aO,if_neg (by decide +kernel),aO,if_pos rfl]
theorem YQ(m:Int)(as ap an:Addr):(Q8 m as ap an).lookup ("row_of" : Str)=none:=by
 unfold Q8
 rw[aO,if_neg (by decide +kernel),aO,if_neg (by decide +kernel),aO,if_neg (by decide +kernel),aO,if_neg (by decide +kernel)]
 all_goals rfl
structure FD(P:Program)(w:World)(C:Addr)(H:Hp)(p as ap an:Addr)(m:Int)(fs:Fs):Prop where
 ins:∃ dx,H p=some (.ins C dx (Q8 m as ap an))
 sts:∃ sv,H as=some (.lst sv)/\Al (Gz H) sv (fs.map (·.1))
 pts:∃ pv,H ap=some (.lst pv)/\Al (Pn H) pv (fs.map (·.2))
 num:DN P w T3 le3 H an (nums 0 fs)
 ne:as ≠ ap
theorem Cr{P:Program}{w:World}{K:Type} [DecidableEq K] {d:Nat} {F:bz K d} {le:d<=8} {H:Hp} {a:Addr} {kvs:List (K × V)} (x:DN P w F le H a kvs):∃ φ,H a=some (.ext φ):=by
 obtain⟨xs,_,h,_⟩:=x
 exact⟨_,h⟩
section
variable{PP:Program}{w:World}{C:Addr}{H H':Hp}{p as ap an:Addr}{m:Int}{fs:Fs}
theorem FD.mono(x:FD PP w C H p as ap an m fs)(s:aJ H H'):FD PP w C H' p as ap an m fs:=by
 obtain⟨⟨dx,h1⟩,⟨sv,h2,h3⟩,⟨pv,h4,h5⟩,h6,h7⟩:=x
 have k:=aB.of s
 obtain⟨φ,h8⟩:=Cr h6
 exact⟨⟨dx,s _ _ h1⟩,⟨sv,s _ _ h2,h3.mono fun _ _ z=>z.mono k⟩,⟨pv,s _ _ h4,h5.mono fun _ _ z=>z.mono k⟩,h6.mono (fun b xs z=>s _ _ z) (by rw[h8];exact s _ _ h8),h7⟩
theorem FD.tup(x:FD PP w C H p as ap an m fs){b:Addr}{xs:List V}(h:H b=some (.tup xs)):b ∉ [as,ap,an]:=by
 obtain⟨_,⟨sv,h2,_⟩,⟨pv,h4,_⟩,h6,_⟩:=x
 obtain⟨φ,h8⟩:=Cr h6
 intro z
 rcases bY.mp z with rfl | z
 ·rw[h]at h2;cases h2
 ·rcases bY.mp z with rfl | z
  ·rw[h]at h4;cases h4
  ·rw[dJ.mp z,h8]at h;cases h
theorem FD.keep(x:FD PP w C H p as ap an m fs)(s:bR H H' [as,ap,an] [as,ap,an]):aB H H':=fun b xs h=>s.rest b _ h (x.tup h)
theorem FD.there(x:FD PP w C H p as ap an m fs):∀ b∈[as,ap,an],H b ≠ none:=by
 obtain⟨_,⟨sv,h2,_⟩,⟨pv,h4,_⟩,h6,_⟩:=x
 obtain⟨φ,h8⟩:=Cr h6
 intro b hb
 rcases bY.mp hb with rfl | hb
 ·rw[h2];exact nofun
 ·rcases bY.mp hb with rfl | hb
  ·rw[h4];exact nofun
  ·rw[dJ.mp hb,h8];exact nofun
end
noncomputable def QR(C:Addr):Sp:=fun vs H Q _ => ∃(e a:Addr)(xs:List V),vs=[.ref e,.ref a]/\H e=some (uh e C none)/\H a=some (.lst xs) ∧
 ∀(la dx:Addr),H la=none->H dx=none->la ≠ dx->la ≠ e->dx ≠ e->Q .non (upd (upd (upd H la (.lst xs)) dx (.xd [("ways",.ref la)])) e (uh e C (some dx)))
noncomputable def Y4(P:Program)(w:World)(C:Addr):Sp:=fun vs H Q _ => ∃(p dx:Addr)(m:Int),vs=[.ref p,.int m]/\H p=some (.ins C dx []) ∧
 ∀(as ap an:Addr)(H':Hp),FD P w C H' p as ap an m []->H as=none->H ap=none->H an=none->(∀ b o,H b=some o->b ≠ p->H' b=some o)->Q .non H'
noncomputable def QS(P:Program)(w:World)(C CT:Addr):Sp:=fun vs H Q E => ∃(p ps pt as ap an:Addr)(m:Int)(fs:Fs)(s:S4)(path:List Nat),vs=[.ref p,.ref ps,.ref pt]/\FD P w C H p as ap an m fs/\dH H ps s/\H pt=some (.tup (aC path))/\fs.length<=1000 ∧
 (∀ i,rowOf fs s=some i->Q (.int (i:Int)) H) ∧
 (rowOf fs s=none->(fs.length:Int) < m->∀ H',FD P w C H' p as ap an m (fs++[(s,path)])->bR H H' [as,ap,an] [as,ap,an]->Q (.int (fs.length:Int)) H') ∧
 (rowOf fs s=none->m<=(fs.length:Int)->∀(dx pl:Addr)(pv:List V)(H':Hp),bR H H' [as,ap,an] [as,ap,an]->H dx=none->H pl=none->H' dx=some (.xd [("ways",.ref pl)])->H' pl=some (.lst pv)->Al (Pn H') pv ((fs++[(s,path)]).map (·.2))->E (.ref CT) (some dx) H')
section
variable{P:Program}{w:World}{K:bO}{mg:Str->Option Value}{base:Heap}{C CT CE:Addr}
theorem Vh:aH ["self","ways"] ["self","ways"] (aA eZ):=fO
theorem WQ{f:Addr}{fd:FuncData}(F:cz K "__init__" "TooWide.__init__" eZ f fd)(hC:qK K C f=true)(q:Xp K C "ways")(GF:mg "NestError" = some (.ref CE))
  (hsp:PySem.W.specialIn K (.ref CE) "__getattribute__" = some (some (.builtin "type.__getattribute__"))) (hrd:PySem.W.readsIn K CE (.type "type")=true) (hf:PySem.W.findCls K (.ref CE) (.type "type") "__init__" = some (.val (.builtin "ValueError.__init__")))
  (fK:mg "list" = none):aG P w K mg base aY 1 f fd ["self","ways"] (QR C):=by
 refine F.ok Vh (fun vs H Q E h=>?_) (fun cdv A outer s H vs Q E hr h=>?_)
 ·refine aK fun G_ g_=>?_
  obtain⟨e,a,xs,rfl,_⟩:=h
  refine g_ ?_
  clear g_ G_
  rfl
 refine aK fun G_ g_=>?_
 obtain⟨e,a,xs,rfl,he,ha,k⟩:=h
 refine g_ ?_
 clear g_ G_
 refine⟨_,(zE (Vx rfl GF hsp hrd hf (zA (pv 0) (zA zP zD)))
  (zG (Vv (pv 0) (yA cL rfl fK PyProof.Rows.boot_list (zA (pv 1) zD)) rfl))),?_⟩
 refine⟨_,rfl,e,C,f,none,_,rfl,(by rw[sizeLine_eq];decide),hC,he,?_⟩
 rw[Yp he]
 refine⟨_,rfl,fQ rfl (.inl (aQ.of ha)) (fun la hla=>?_)⟩
 have hle:la ≠ e:=Ne.symm (zM he hla)
 refine⟨_,rfl,e,C,rfl,(by rw[zQ (Ne.symm hle)];exact he),q,fun dx hdx hde=>?_⟩
 have hld:la ≠ dx:=fun z=>by rw[<-z,zC]at hdx;cases hdx
 rw[zQ (Ne.symm hld)]at hdx
 exact k la dx hla hdx hld hle hde
theorem Yz:aH ["self","most"] ["self","most"] (aA iD):=fO
theorem ZS{f:Addr}{fd:FuncData}(F:cz K "__init__" "Finds.__init__" iD f fd)(cl:xY K C)(nM:bf K C "most")(nS:bf K C "stands")(nP:bf K C "paths")(nN:bf K C "numbers") :
  aG P w K mg base aY 1 f fd ["self","most"] (Y4 P w C):=by
 refine F.ok Yz (fun vs H Q E h=>?_) (fun cdv A outer s H vs Q E hr h=>?_)
 ·refine aK fun G_ g_=>?_
  obtain⟨p,dx,m,rfl,_⟩:=h
  refine g_ ?_
  clear g_ G_
  rfl
 refine aK fun G_ g_=>?_
 obtain⟨p,dx,m,rfl,hp,k⟩:=h
 refine g_ ?_
 clear g_ G_
 refine⟨_,(zE (tK (pv 0) (pv 1) rfl) (zE (tK (pv 0) (yK zD) rfl) (zE (tK (pv 0) (yK zD) rfl) (zG (tK (pv 0) (W2 T3 le3) rfl))))),?_⟩
 refine⟨_,rfl,_,rfl,p,C,dx,[],rfl,hp,cl,nM,(by show 0 < 1000;decide),?_⟩
 generalize hH1:upd H p (.ins C dx (cQ "most" (.int m) []))=H1
 have p1:H1 p=some (.ins C dx (cQ "most" (.int m) [])):=by rw[<-hH1];exact zC
 have r1:∀ b,b ≠ p->H1 b=H b:=fun b z=>by rw[<-hH1];exact zQ z
 refine⟨Nat.zero_le _,fun as has=>?_⟩
 have Ln:p ≠ as:=zM p1 has
 refine⟨_,rfl,p,C,dx,_,rfl,(by rw[zQ Ln];exact p1),cl,nS,(by show 1 < 1000;decide),?_⟩
 generalize hH2:upd (upd H1 as (.lst [])) p (.ins C dx (cQ "stands" (.ref as) (cQ "most" (.int m) [])))=H2
 have p2:H2 p=some (.ins C dx (cQ "stands" (.ref as) (cQ "most" (.int m) []))):=by rw[<-hH2];exact zC
 have s2:H2 as=some (.lst []):=by rw[<-hH2,zQ (Ne.symm Ln)];exact zC
 have r2:∀ b,b ≠ p->b ≠ as->H2 b=H1 b:=fun b z1 z2=>by rw[<-hH2,zQ z1,zQ z2]
 refine⟨Nat.zero_le _,fun ap hap=>?_⟩
 have Q5:p ≠ ap:=zM p2 hap
 have nsp:as ≠ ap:=zM s2 hap
 refine⟨_,rfl,p,C,dx,_,rfl,(by rw[zQ Q5];exact p2),cl,nP,(by show 2 < 1000;decide),?_⟩
 generalize VH:upd (upd H2 ap (.lst [])) p (.ins C dx (cQ "paths" (.ref ap) (cQ "stands" (.ref as) (cQ "most" (.int m) []))))=H3
 have p3:H3 p=some (.ins C dx (cQ "paths" (.ref ap) (cQ "stands" (.ref as) (cQ "most" (.int m) [])))):=by rw[<-VH];exact zC
 have a3:H3 ap=some (.lst []):=by rw[<-VH,zQ (Ne.symm Q5)];exact zC
 have r3:∀ b,b ≠ p->b ≠ ap->H3 b=H2 b:=fun b z1 z2=>by rw[<-VH,zQ z1,zQ z2]
 have s3:H3 as=some (.lst []):=(r3 as (Ne.symm Ln) nsp).trans s2
 intro an H4 han e4 dn4
 have nan:p ≠ an:=zM p3 han
 have nsn:as ≠ an:=zM s3 han
 have Zc:ap ≠ an:=zM a3 han
 have r4:∀ b,b ≠ an->H4 b=H3 b:=fun b z=>by rw[e4];exact zQ z
 refine⟨_,rfl,p,C,dx,_,rfl,(by rw[r4 p nan];exact p3),cl,nN,(by show 3 < 1000;decide),?_⟩
 generalize YJ:upd H4 p (.ins C dx (cQ "numbers" (.ref an) (cQ "paths" (.ref ap) (cQ "stands" (.ref as) (cQ "most" (.int m) [])))))=H5
 have p5:H5 p=some (.ins C dx (Q8 m as ap an)):=by rw[<-YJ];exact zC
 have r5:∀ b,b ≠ p->H5 b=H4 b:=fun b z=>by rw[<-YJ];exact zQ z
 have k5:∀ b o,H b=some o->b ≠ p->H5 b=some o:=fun b o e z=>by
  have e1:=(r1 b z).trans e
  have z1:=zM e1 has
  have e2:=(r2 b z z1).trans e1
  have z2:=zM e2 hap
  have e3:=(r3 b z z2).trans e2
  have z3:=zM e3 han
  exact (r5 b z).trans ((r4 b z3).trans e3)
 have kt:∀ b xs,H4 b=some (.tup xs)->H5 b=some (.tup xs):=fun b xs e=>(r5 b (fun z=>by rw[z,r4 p nan,p3]at e;cases e)).trans e
 refine k as ap an H5 ⟨⟨dx,p5⟩,⟨[],?_,.nil⟩,⟨[],?_,.nil⟩,dn4.mono kt (r5 an (Ne.symm nan)),nsp⟩ ?_ ?_ ?_ k5
 ·exact (r5 as (Ne.symm Ln)).trans ((r4 as nsn).trans s3)
 ·exact (r5 ap (Ne.symm Q5)).trans ((r4 ap Zc).trans a3)
 ·exact (r1 as (Ne.symm Ln)).symm.trans has
 ·exact (r1 ap (Ne.symm Q5)).symm.trans ((r2 ap (Ne.symm Q5) (Ne.symm nsp)).symm.trans hap)
 ·exact (r1 an (Ne.symm nan)).symm.trans ((r2 an (Ne.symm nan) (Ne.symm nsn)).symm.trans ((r3 an (Ne.symm nan) (Ne.symm Zc)).symm.trans han))
theorem Ql:aH ["self","stand","path","row"] ["self","stand","path"] (aA fB):=fO
theorem ZP{n:Nat}{f gi:Addr}{fd di:FuncData}(F:cz K "row_of" "Finds.row_of" fB f fd)(cl:xY K C)(nM:bf K C "most")(nS:bf K C "stands")(nP:bf K C "paths")(nN:bf K C "numbers")
  (hT:qK K CT gi=true) (kT:KI K CT) (tV:mg "TooWide" = some (.ref CT)) (qW:aG P w K mg base (qY P w) n gi di ["self","ways"] (QR CT)) (qP:Binds K di ["self","ways"] []) (aP:mg "len" = none) :
  aG P w K mg base (qY P w) (n+2) f fd ["self","stand","path"] (QS P w C CT):=by
 refine F.okX Ql (fun vs H Q E h=>?_) (fun cdv A outer s H vs Q E hr h=>?_)
 ·refine aK fun G_ g_=>?_
  obtain⟨p,ps,pt,as,ap,an,m,fs,s,path,rfl,_⟩:=h
  refine g_ ?_
  clear g_ G_
  rfl
 refine aK fun G_ g_=>?_
 obtain⟨p,ps,pt,as,ap,an,m,fs,st,path,rfl,hF,hS,Q7,l1,q1,q2,q3⟩:=h
 refine g_ ?_
 clear g_ G_
 refine⟨_,(zE (yD (Qy (ZJ hr.units T3 le3 (pv 1) (cI (pv 0) rfl))) (zG (zO (W3 hr.units T3 le3 (cI (pv 0) rfl) (pv 1) (fun _ _=>rfl)))) zT)
  (zE (zK (i:=3) Ql.nd rfl (Or.inl rfl) (zS zN rfl aP bV (zA (cI (pv 0) rfl) zD)))
  (zE (Vu hr.units T3 le3 (cI (pv 0) rfl) (pv 1) (pv 3) rfl)
  (zE (yI (dz jM sy sZ yH (cI (pv 0) rfl) (zA (pv 1) zD)))
  (zE (yI (dz jM sy sZ yH (cI (pv 0) rfl) (zA (pv 2) zD)))
  (zE (yD (zL RK (pv 3) (cI (pv 0) rfl) (zR _)) (zG (NB qAN rfl rfl tV hT kT qW hr qP .nil (zA (cI (pv 0) rfl) zD))) zT)
  (zG (zO (pv 3))))))))),?_⟩
 refine aK fun G_ g_=>?_
 obtain⟨⟨dx,h1⟩,⟨sv,h2,h3⟩,⟨Z7,h4,h5⟩,h6,h7⟩:=id hF
 refine g_ ?_
 clear g_ G_
 have ik:=qA8 hS
 have hv:=Dw st 0 fs
 refine⟨_,rfl,_,rfl,p,C,dx,_,_,rfl,h1,cl,nN,Ti _ _ _ _,an,ps,_,cG st,rfl,rfl,h6,ik,_,rfl,?_⟩
 rw[hv]
 cases hrow:rowOf fs st with
 | some i=>
  rw[hrow]at hv
  have hv':dD (nums 0 fs) (cG st)=some (.int (i:Int)):=by
   rw[hv]
   show some (V.int ((0+i:Nat):Int))=_
   rw[Nat.zero_add]
  refine pJ (fun _=>?_) (fun z=>absurd rfl z)
  exact⟨_,rfl,p,C,dx,_,_,rfl,h1,cl,nN,Ti _ _ _ _,_,rfl,an,ps,_,cG st,_,rfl,rfl,h6,ik,hv',q1 i hrow⟩
 | none=>
  rw[hrow]at hv
  refine pJ (fun z=>(by cases z)) (fun _=>?_)
  have ls:=h3.length
  have lp:=h5.length
  rw[bZ]at ls lp
  refine⟨_,rfl,p,C,dx,_,_,rfl,h1,cl,nS,Ac _ _ _ _,fQ rfl (.inl (aQ.of h2)) ?_⟩
  rw[ls]
  obtain⟨φ,h8⟩:=Cr h6
  have nsn:as ≠ an:=fH h2 h8 nofun
  have Zc:ap ≠ an:=fH h4 h8 nofun
  have npi:p ≠ an:=fH h1 h8 nofun
  refine⟨_,rfl,_,rfl,p,C,dx,_,_,rfl,h1,cl,nN,Ti _ _ _ _,_,rfl,an,ps,_,cG st,rfl,rfl,h6,ik,zV (by rw[Fj];lia),hv,fun o ho dn1=>?_⟩
  obtain⟨ψ,rfl⟩:=ho
  generalize hH1:upd H an (.ext ψ)=H1 at dn1 ⊢
  have r1:∀ b,b ≠ an->H1 b=H b:=fun b z=>by rw[<-hH1];exact zQ z
  have n1:H1 an=some (.ext ψ):=by rw[<-hH1];exact zC
  have p1:=(r1 p npi).trans h1
  refine⟨_,rfl,p,C,dx,_,_,rfl,p1,cl,nS,Ac _ _ _ _,.inl ⟨rfl,_,aQ.of ((r1 as nsn).trans h2)⟩,_,rfl,as,_,_,rfl,rfl,(r1 as nsn).trans h2,zV (by lia),?_⟩
  have nps:p ≠ as:=fH h1 h2 nofun
  have npp:p ≠ ap:=fH h1 h4 nofun
  generalize hH2:upd H1 as (.lst (sv++[.ref ps]))=H2
  have r2:∀ b,b ≠ as->H2 b=H1 b:=fun b z=>by rw[<-hH2];exact zQ z
  have s2:H2 as=some (.lst (sv++[.ref ps])):=by rw[<-hH2];exact zC
  have p2:=(r2 p nps).trans p1
  have a2:H2 ap=some (.lst Z7):=(r2 ap (Ne.symm h7)).trans ((r1 ap Zc).trans h4)
  refine⟨_,rfl,p,C,dx,_,_,rfl,p2,cl,nP,Th _ _ _ _,.inl ⟨rfl,_,aQ.of a2⟩,_,rfl,ap,_,_,rfl,rfl,a2,zV (by lia),?_⟩
  generalize VH:upd H2 ap (.lst (Z7++[.ref pt]))=H3
  have r3:∀ b,b ≠ ap->H3 b=H2 b:=fun b z=>by rw[<-VH];exact zQ z
  have p3:=(r3 p npp).trans p2
  have a3:H3 ap=some (.lst (Z7++[.ref pt])):=by rw[<-VH];exact zC
  have s3:H3 as=some (.lst (sv++[.ref ps])):=(r3 as h7).trans s2
  have n3:H3 an=some (.ext ψ):=(r3 an (Ne.symm Zc)).trans ((r2 an (Ne.symm nsn)).trans n1)
  have st3:bR H H3 [as,ap,an] [as,ap,an]:=⟨fun b hb=>.inl hb,fun b o e nb=>by
   rw[r3 b (fun z=>nb (by rw[z];simp)),r2 b (fun z=>nb (by rw[z];simp)),r1 b (fun z=>nb (by rw[z];simp))]
   exact e⟩
  have kt:=hF.keep st3
  have kt1:∀ b xs,H1 b=some (.tup xs)->H3 b=some (.tup xs):=fun b xs e=>by
   have z1:b ≠ an:=fun z=>by rw[z,n1]at e;cases e
   rw[r1 b z1]at e
   exact kt b xs e
  have F3:FD P w C H3 p as ap an m (fs++[(st,path)]):=by
   refine⟨⟨dx,p3⟩,⟨_,s3,?_⟩,⟨_,a3,?_⟩,?_,h7⟩
   ·rw[kI]
    exact (h3.mono fun _ _ z=>z.mono kt).snoc ⟨ps,rfl,hS.mono kt⟩
   ·rw[kI]
    exact (h5.mono fun _ _ z=>z.mono kt).snoc ⟨pt,rfl,kt _ _ Q7⟩
   ·rw[zc,Nat.zero_add]
    exact dn1.mono kt1 (by rw[n3,n1])
  refine⟨_,rfl,_,rfl,p,C,dx,_,_,rfl,p3,cl,nM,qE5 _ _ _ _,_,_,rfl,rfl,_,rfl,?_⟩
  refine pJ (fun z=>?_) (fun z=>?_)
  ·have z':=of_decide_eq_true z
   refine⟨_,rfl,p,C,dx,_,_,rfl,p3,cl,nP,Th _ _ _ _,(zI (by show 1<=1000;decide)),fun e he=>?_⟩
   refine⟨e,ap,_,rfl,zC,(by rw[zQ (zM a3 he)];exact a3),fun la ld hla hld n1 n2 n3=>⟨rfl,some ld,zC,?_⟩⟩
   rw[zQ n2]at hla
   rw[zQ n3]at hld
   generalize YJ:upd (upd H3 la (.lst (Z7++[.ref pt]))) ld (.xd [("ways",.ref la)])=H5
   have e5:del (upd (upd (upd (upd H3 e (uh e CT none)) la (.lst (Z7++[.ref pt]))) ld (.xd [("ways",.ref la)])) e (uh e CT (some ld))) e=H5:=by
    rw[<-YJ]
    funext b
    by_cases zb:b=e
    ·subst zb
     rw[rY,zQ (Ne.symm n3),zQ (Ne.symm n2),he]
    ·rw[lU zb,zQ zb]
     by_cases y1:b=ld
     ·subst y1
      rw[zC,zC]
     ·rw[zQ y1,zQ y1]
      by_cases y2:b=la
      ·subst y2
       rw[zC,zC]
      ·rw[zQ y2,zQ y2,zQ zb]
   rw[e5]
   have s5:aJ H3 H5:=fun b o eb=>by rw[<-YJ,zQ (zM eb hld),zQ (zM eb hla)];exact eb
   have YB:∀ b,H3 b=none->H b=none:=fun b e=>by
    cases hb:H b with
    | none=>rfl
    | some o=>
     by_cases y:b∈[as,ap,an]
     ·exact absurd e (F3.there b y)
     ·rw[st3.rest b o hb y]at e;cases e
   refine q3 hrow z' ld la (Z7++[.ref pt]) H5 ⟨fun b hb=>.inl hb,fun b o eb nb=>s5 b o (st3.rest b o eb nb)⟩ (YB ld hld) (YB la hla) (by rw[<-YJ];exact zC) (by rw[<-YJ,zQ n1];exact zC) ?_
   rw[kI]
   exact (h5.mono fun _ _ y=>(y.mono kt).mono (aB.of s5)).snoc ⟨pt,rfl,s5 _ _ (kt _ _ Q7)⟩
  ·have z':¬ m<=(fs.length:Int):=fun y=>z (decide_eq_true y)
   exact⟨_,rfl,q2 hrow (by lia) H3 F3 st3⟩
end
noncomputable def dG(rs:List Rm)(os:List Nat):List Str:=(os.map fun o=>(rs.map (·.wW)).getD o ("" : Str)).filter fun z => !decide (z=("" : Str))
noncomputable def Km:Sp:=fun vs H Q _ => ∃(t sV:Addr)(rs:List Rm)(os:List Nat),vs=[.ref t,.ref sV]/\cV H t rs/\H sV=some (.tup (aC os))/\(∀ o∈os,o < rs.length)/\os.length<=40/\rs.length<=40 ∧
 ∀(p:Addr)(H':Hp),aJ H H'->H' p=some (.tup ((dG rs os).map V.str))->Q (.ref p) H'
theorem CP{rs:List Rm}{os:List Nat}{i o:Nat}{r:Rm}(h:os[i]? = some o)(hr:rs[o]? = some r):dG rs (os.take (i+1))=dG rs (os.take i)++(if (!decide (r.wW=("" : Str)))=true then [r.wW] else []):=by
 unfold dG
 rw[jN,h,kI,List.filter_append]
 congr 1
 show [(rs.map (·.wW)).getD o ("" : Str)].filter _=_
 rw[show (rs.map (·.wW)).getD o ("" : Str)=r.wW by
  rw[kW,cZ,hr]
  rfl]
 rw[List.filter_cons]
 split <;> rfl
theorem uU(rs:List Rm)(os:List Nat):(dG rs os).length<=os.length:=by
 unfold dG
 refine Nat.le_trans (qe _ _) ?_
 rw[bZ]
 exact bT _
theorem XD(a b:Str):decide (V.str a=V.str b)=decide (a=b):=decide_eq_decide.mpr ⟨fun h=>by injection h,fun h=>by rw[h]⟩
noncomputable def Wide(CT:Addr)(fp:List Addr)(H:Hp)(E:XK)(ps:List (List Nat)):Prop:=∀(dx pl:Addr)(pv:List V)(H':Hp),bR H H' fp fp->H dx=none->H pl=none->H' dx=some (.xd [("ways",.ref pl)])->H' pl=some (.lst pv)->Al (Pn H') pv ps->E (.ref CT) (some dx) H'
noncomputable def yc(H:Hp)(v:V)(m:List En × Nat):Prop:=∃(a aw:Addr),v = .ref a/\H a=some (.tup [.ref aw,.int (m.2:Int)])/\H aw=some (.tup ((bc m.1).map V.str))
theorem yc.mono{H H':Hp}{v:V}{m:List En × Nat}(x:yc H v m)(k:aB H H'):yc H' v m:=by
 obtain⟨a,aw,h1,h2,h3⟩:=x
 exact⟨a,aw,h1,k _ _ h2,k _ _ h3⟩
noncomputable def QX(P:Program)(w:World)(C CT:Addr)(n:Nat):Sp:=fun vs H Q E => ∃(pc p as ap an:Addr)(r e:Nat)(m:Int)(c:dZ)(fs:Fs)(s:S4)(path:List Nat),vs=[.ref pc,.ref p,.int (r:Int),.int (e:Int)]/\uv H pc c/\All c (Jw c) n/\c.tn<=20 ∧
 FD P w C H p as ap an m fs/\fs.length<=1000/\fs[r]? = some (s,path)/\jO c s/\Jw c s.os s.ks/\s.l=[]/\path.length<=100000 ∧
 ∀(es:List En)(s':S4),HW c (e:Int) s es s'->jO c s'->Jw c s'.os s'.ks →
  (((uo fs (nl s') (path++[e])).length:Int)<=m ∨ uo fs (nl s') (path++[e])=fs->∀(v:V)(H':Hp),yc H' v (es,xU fs (nl s'))->FD P w C H' p as ap an m (uo fs (nl s') (path++[e]))->bR H H' [as,ap,an] [as,ap,an]->Q v H') ∧
  (rowOf fs (nl s')=none->m<=(fs.length:Int)->Wide CT [as,ap,an] H E ((fs++[(nl s',path++[e])]).map (·.2)))
section
variable{P:Program}{w:World}{K:bO}{mg:Str->Option Value}{base:Heap}{C CT:Addr}
theorem Qm:aH ["rooms","opening"] ["rooms","opening"] (aA vm):=fO
theorem RW{f:Addr}{fd:FuncData}(F:cz K "lamps" "lamps" vm f fd)(aM:mg "tuple" = none):aG P w K mg base aY 1 f fd ["rooms","opening"] Km:=by
 refine F.ok Qm (fun vs H Q E h=>?_) (fun cdv A outer s H vs Q E hr h=>?_)
 ·refine aK fun G_ g_=>?_
  obtain⟨t,sV,rs,os,rfl,_⟩:=h
  refine g_ ?_
  clear g_ G_
  rfl
 refine aK fun G_ g_=>?_
 obtain⟨t,sV,rs,os,rfl,hR,hto,hos,los,pQ,q⟩:=h
 refine g_ ?_
 clear g_ G_
 refine⟨_,(zG (zO (yA zX rfl aM iT (zA (yT (aa:=[(0,"rooms")]) rfl (show bI (aA vm) ["rooms","opening"] _ _ _ from xO) (nF (pv 1)) (fun _ _ _ _ _ _=>dC (zL mC (yB (r:=fY K) zH (yB (r:=fY K) zH (pv 1) (pv 0) (fun _ _=>rfl)) zB (fun _ _=>rfl)) zP (zR _))) (fun _ _ _ _ _ _=>(yB (r:=fY K) zH (yB (r:=fY K) zH (pv 1) (pv 0) (fun _ _=>rfl)) zB (fun _ _=>rfl)))) zD)))),?_⟩
 refine⟨_,rfl,sV,rfl,⟨_,aL.of hto⟩,?_⟩
 refine jx (K:=K) (a:=sV) (xs:=aC os) (fun i acc H'=>H'=H/\acc=(dG rs (os.take i)).map V.str) ⟨rfl,rfl⟩ (fun i acc H' ⟨e,_⟩=>by subst e;exact aL.of hto) (fun i x acc H' hx ⟨e1,e2⟩=>?_) (fun acc H' ⟨e1,e2⟩ p hp=>?_)
 ·subst e1 e2
  have hi:i < os.length:=by
   have:=(mH.mp hx).1
   rw[zU]at this
   exact this
  have eo:=fu hi
  obtain rfl:x = .int ((os[i]:Nat):Int):=by
   unfold aC at hx
   rw[cZ,eo]at hx
   exact (kJ hx).symm
  refine aK fun G_ g_=>?_
  obtain⟨vs,a,r,ht,hl,hr0,hat,ha⟩:=hR.at (hos _ (kO hi))
  refine g_ ?_
  clear g_ G_
  have ll:=uU rs (os.take i)
  rw[gG]at ll
  have sc:=CP eo hr0
  refine⟨_,rfl,_,rfl,t,vs,_,_,rfl,rfl,aL.of ht,hat,aF (aL.of ha) rfl ⟨rfl,_,rfl,?_⟩⟩
  refine fV (fun c=>?_) (fun c=>?_)
  ·rw[XD]at c
   rw[if_pos c]at sc
   refine⟨_,rfl,_,rfl,t,vs,_,_,rfl,rfl,aL.of ht,hat,aF (aL.of ha) rfl ⟨zV (by rw[bZ];lia),rfl,?_⟩⟩
   rw[sc,kI]
   rfl
  ·rw[XD]at c
   rw[if_neg (by rw[c];decide),gF]at sc
   exact⟨rfl,by rw[sc]⟩
 subst e1 e2
 rw[uw (by rw[zU];exact bT _)]
 refine⟨p,_,rfl,.inl ⟨aQ.of zC,fun p2 hp2=>?_⟩⟩
 exact q p2 _ ((zF hp _).trans (zF hp2 _)) zC
theorem Kv:aH ["chart","finds","row","event","told"] ["chart","finds","row","event"] (aA Bc):=fO
theorem WW{n m':Nat}{f g1 g2 g3:Addr}{fd d1 d2 d3:FuncData}(F:cz K "move" "move" Bc f fd)(cl:xY K C)(nS:bf K C "stands")(nP:bf K C "paths")(mR:Meth K C "row_of" g3)
  (Dn:aG P w K mg base aY m' g1 d1 ["chart","stand","event"] (BV n)) (De:Binds K d1 ["chart","stand","event"] []) (Ce:KI K g1) (CK:mg "after" = some (.ref g1))
  (KH:aG P w K mg base aY m' g2 d2 ["record"] Hu) (Jx:Binds K d2 ["record"] []) (JZ:KI K g2) (JN:mg "said" = some (.ref g2))
  (Ur:aG P w K mg base (qY P w) m' g3 d3 ["self","stand","path"] (QS P w C CT)) (Ug:Binds K d3 ["self","stand","path"] [])
  (aM:mg "tuple" = none):aG P w K mg base (qY P w) (m'+1) f fd ["chart","finds","row","event"] (QX P w C CT n):=by
 refine F.okX Kv (fun vs H Q E h=>?_) (fun cdv A outer s H vs Q E hr h=>?_)
 ·refine aK fun G_ g_=>?_
  obtain⟨pc,p,as,ap,an,r,e,m,c,fs,s,path,rfl,_⟩:=h
  refine g_ ?_
  clear g_ G_
  rfl
 refine aK fun G_ g_=>?_
 obtain⟨pc,p,as,ap,an,r,e,m,c,fs,st,path,rfl,hC,al,Xz,hF,l1,hr0,so,js,l0,lp,q⟩:=h
 refine g_ ?_
 clear g_ G_
 refine⟨_,(zE (zK (i:=4) Kv.nd rfl (Or.inl rfl) (zJ Dn hr rfl CK Ce De .nil yE (zA (pv 0) (zA (yB yU (cI (pv 1) rfl) (pv 2) (fun _ _=>rfl)) (zA (pv 3) zD)))))
  (zG (zO (zW (zA (yA zX rfl aM iT (zA (zJ KH hr rfl JN JZ Jx .nil yE (zA (yB zH (pv 4) zB (fun _ _=>rfl)) zD)) zD))
   (zA (Bl (pv 1) cl mR Ur hr Ug .nil (Y8 fun _ _ _ z=>z) (zA (yB zH (pv 4) zB (fun _ _=>rfl)) (zA (q9 (yC (jK.or Bq FW) (yB yU (cI (pv 1) rfl) (pv 2) (fun _ _=>rfl)) (zW (zA (pv 3) zD)))) zD))) zD)))))),?_⟩
 refine aK fun G_ g_=>?_
 obtain⟨⟨dx,h1⟩,⟨sv,h2,h3⟩,⟨Z7,h4,h5⟩,h6,h7⟩:=id hF
 obtain⟨v0,hv0,q0,rfl,hq0⟩:=h3.get (k:=r) (r:=st) (by rw[cZ,hr0];rfl)
 obtain⟨v1,hv1,q1,rfl,hq1⟩:=h5.get (k:=r) (r:=path) (by rw[cZ,hr0];rfl)
 refine g_ ?_
 clear g_ G_
 refine⟨_,rfl,_,rfl,p,C,dx,_,_,rfl,h1,cl,nS,Ac _ _ _ _,_,rfl,cC (aQ.of h2) (yQ hv0) ⟨_,rfl,pc,q0,c,(e:Int),st,rfl,hC,al,hq0,so,js,l0,Xz,fun t ps' pw wv es s' H1 AR j' so' s1 ht hS' Du npw hA lw=>?_⟩⟩
 obtain⟨k1,k2⟩:=q es s' AR so' j'
 have F1:=hF.mono s1
 have leS:es.length<=2000000:=by rw[<-hA.length];lia
 refine⟨_,rfl,aF (aL.of ht) rfl ⟨pw,wv,es,rfl,Du,hA,leS,fun Ik H2 s2 npl Jd=>?_⟩⟩
 refine⟨Ik,_,rfl,.inl ⟨aQ.of Jd,fun tw htw=>?_⟩⟩
 have s3:=zF htw (.tup ((bc es).map V.str))
 have i3:upd H2 tw (.tup ((bc es).map V.str)) tw=some (.tup ((bc es).map V.str)):=zC
 generalize upd H2 tw (.tup ((bc es).map V.str))=H3 at s3 i3 ⊢
 have sX:=s2.trans s3
 have Hd:=s1.trans sX
 have F3:=hF.mono Hd
 refine⟨_,rfl,p,dx,_,rfl,Hd _ _ h1,YQ _ _ _ _,_,rfl,aF (aL.of (sX _ _ ht)) rfl ?_⟩
 refine⟨fun v H' => ∃ q:Addr,v = .ref q/\aJ H3 H'/\H' q=some (.tup (aC (path++[e]))),?_,?_⟩
 ·refine⟨_,rfl,p,C,dx,_,_,rfl,Hd _ _ h1,cl,nP,Th _ _ _ _,_,rfl,cC (aQ.of (Hd _ _ h4)) (yQ hv1) ⟨_,rfl,(zI (by show 1<=1000;decide)),fun pe hpe=>?_⟩⟩
  have s4:=zF hpe (.tup [V.int (e:Int)])
  have i4:upd H3 pe (.tup [V.int (e:Int)]) pe=some (.tup [V.int (e:Int)]):=zC
  generalize upd H3 pe (.tup [V.int (e:Int)])=H4 at s4 i4 ⊢
  have hq4:=s4 _ _ (Hd _ _ hq1)
  cases path with
  | nil=>exact .inr ⟨q1,pe,_,rfl,rfl,aL.of hq4,aL.of i4,pe,rfl,s4,i4⟩
  | cons x path=>
   refine .inl ⟨q1,pe,_,_,rfl,rfl,aL.of hq4,aL.of i4,(by intro z;cases z),?_,(fun z=>by cases z),fun _ p5 VG=>?_⟩
   ·rw[sizeLine_eq,zU]
    simp only[List.length_cons,List.length_nil]at lp ⊢
    lia
   ·exact⟨p5,rfl,s4.trans (zF VG _),by rw[zC];unfold aC;rw[kI];rfl⟩
 rintro _ H4 aZ
 refine aK fun G_ g_=>?_
 obtain⟨pq,rfl,s4,hpq⟩:=aZ
 refine g_ ?_
 clear g_ G_
 have Ia:=sX.trans s4
 have La:=s1.trans Ia
 have F4:=hF.mono La
 refine⟨p,ps',pq,as,ap,an,m,fs,nl s',path++[e],rfl,F4,(dH.tail hS' []).mono (aB.of Ia),hpq,l1,fun i hi=>?_,fun hn hlt H5 F5 xj=>?_,fun hn hle dx2 pl pv H5 xj z1 z2 z3 z4 z5=>?_⟩
 ·obtain⟨e1,e2⟩:=cY (p:=path++[e]) hi
  refine⟨zI (by show 2<=1000;decide),fun pt Q7=>?_⟩
  have s5:=zF Q7 (.tup [V.ref tw,V.int (i:Int)])
  refine k1 (.inr e1) _ _ ⟨pt,tw,rfl,by rw[e2];exact zC,s5 _ _ (s4 _ _ i3)⟩ (by rw[e1];exact F4.mono s5) ⟨fun b hb=>.inl hb,fun b o eb _=>s5 _ _ (La _ _ eb)⟩
 ·obtain⟨e1,e2⟩:=cD (p:=path++[e]) hn
  refine⟨zI (by show 2<=1000;decide),fun pt Q7=>?_⟩
  have s5:=zF Q7 (.tup [V.ref tw,V.int (fs.length:Int)])
  have tw5:H5 tw=some (.tup ((bc es).map V.str)):=F4.keep xj _ _ (s4 _ _ i3)
  refine k1 (.inl (by rw[e1,fU,jf];lia)) _ _ ⟨pt,tw,rfl,by rw[e2];exact zC,s5 _ _ tw5⟩ (by rw[e1];exact F5.mono s5) ⟨fun b hb=>.inl hb,fun b o eb nb=>s5 _ _ (xj.rest b o (La _ _ eb) nb)⟩
 ·exact k2 hn hle dx2 pl pv H5 ⟨fun b hb=>.inl hb,fun b o eb nb=>xj.rest b o (La _ _ eb) nb⟩ (La.free z1) (La.free z2) z3 z4 z5
noncomputable def dW(H:Hp)(v:V)(x:List Str × List (List En × Nat)):Prop:=∃(a al am:Addr)(mv:List V),v = .ref a/\H a=some (.tup [.ref al,.ref am])/\H al=some (.tup (x.1.map V.str))/\H am=some (.tup mv)/\Al (yc H) mv x.2
theorem dW.mono{H H':Hp}{v:V}{x:List Str × List (List En × Nat)}(y:dW H v x)(k:aB H H'):dW H' v x:=by
 obtain⟨a,al,am,mv,h1,h2,h3,h4,h5⟩:=y
 exact⟨a,al,am,mv,h1,k _ _ h2,k _ _ h3,k _ _ h4,h5.mono fun _ _ z=>z.mono k⟩
noncomputable def rowAt(c:dZ)(ne:Nat)(fs:Fs)(ms:List (List En × Nat))(k:Nat):List Str × List (List En × Nat):=(dG c.rs (fs[k]?.elim [] (·.1.os)),(ms.drop (k * ne)).take ne)
noncomputable def rowsOf(c:dZ)(ne:Nat)(fs:Fs)(ms:List (List En × Nat))(n:Nat):List (List Str × List (List En × Nat)):=(List.range n).map (rowAt c ne fs ms)
theorem N7{c:dZ}{ne k:Nat}{fs more:Fs}{ms rK:List (List En × Nat)}(h1:k < fs.length)(h2:(k+1) * ne<=ms.length):rowAt c ne (fs++more) (ms++rK) k=rowAt c ne fs ms k:=by
 unfold rowAt
 rw[QC h1]
 rw[Nat.add_mul,Nat.one_mul]at h2
 congr 1
 rw[List.drop_append_of_le_length (by lia),List.take_append_of_le_length (by rw[List.length_drop];lia)]
theorem Ie{c:dZ}{ne n:Nat}{fs more:Fs}{ms rK:List (List En × Nat)}(h1:n<=fs.length)(h2:n * ne<=ms.length):rowsOf c ne (fs++more) (ms++rK) n=rowsOf c ne fs ms n:=by
 unfold rowsOf
 refine List.map_congr_left fun k hk=>?_
 have hk:=List.mem_range.mp hk
 exact N7 (by lia) (Nat.le_trans (Nat.mul_le_mul_right _ hk) h2)
theorem Es{c:dZ}{ne n:Nat}{fs:Fs}{ms:List (List En × Nat)}:rowsOf c ne fs ms (n+1)=rowsOf c ne fs ms n++[rowAt c ne fs ms n]:=by
 unfold rowsOf
 rw[List.range_succ,kI]
 rfl
noncomputable def pR(c:dZ)(fs:Fs):Prop:=∀ x∈fs,jO c x.1/\Jw c x.1.os x.1.ks
theorem Ku{c:dZ}{s:S4}(h:jO c s):jO c (nl s):=⟨h.inc,h.lt,h.Q4,h.bx,h.ks,Nat.zero_le _⟩
theorem pR.add{c:dZ}{fs:Fs}{s:S4}{p:List Nat}(h:pR c fs)(h1:jO c s)(h2:Jw c s.os s.ks):pR c (uo fs (nl s) p):=by
 cases e:rowOf fs (nl s) with
 | some i=>rw[(cY e).1];exact h
 | none=>
  rw[(cD e).1]
  intro x hx
  rcases gW.mp hx with hx | hx
  ·exact h x hx
  ·rw[dJ.mp hx]
   exact⟨Ku h1,h2⟩
noncomputable def Hy(CT:Addr)(n:Nat):Sp:=fun vs H Q E => ∃(pc:Addr)(m:Nat)(c:dZ)(bs:List (Int × Int))(ne:Nat),vs=[.ref pc,.int (m:Int)]/\ud.V2 H pc c bs ne/\ud.xZ c bs/\3<=n/\1<=m/\m<=300/\ne<=8 ∧
 ∀(iI:List En)(s0:S4),V3 c bs iI s0->iI.length<=1000000 →
  (∀(N:Nat)(fs:Fs)(ms:List (List En × Nat))(t tw pr as:Addr)(rv sv:List V)(H':Hp),bH c ne s0 (N * ne) fs ms->fs.length=N->N<=m->pR c fs->H' t=some (.tup [.ref tw,.ref pr,.ref as])->H' tw=some (.tup ((bc iI).map V.str)) →
   H' pr=some (.lst rv)->Al (dW H') rv (rowsOf c ne fs ms N)->H' as=some (.lst sv)->Al (Gz H') sv (fs.map (·.1))->aJ H H'->H pr=none->H as=none->pr ≠ as->Q (.ref t) H') ∧
  (∀(i:Nat)(fs:Fs)(ms:List (List En × Nat)),bH c ne s0 i fs ms->fs.length=m+1->Wide CT [] H E (fs.map (·.2)))
theorem oM:aH ["chart","most","finds","told","rows","row","moves"] ["chart","most"] (aA vf):=fO
theorem Wc{n m':Nat}{f gi g1 g2 g3 g4 g5:Addr}{fd di d1 d2 d3 d4 d5:FuncData}(F:cz K "flat" "flat" vf f fd)(cl:xY K C)(nS:bf K C "stands")(mR:Meth K C "row_of" g3)(MkF:Mk K C gi)
  (qW:aG P w K mg base aY m' gi di ["self","most"] (Y4 P w C)) (qP:Binds K di ["self","most"] []) (Wo:mg "Finds" = some (.ref C))
  (Dl:aG P w K mg base aY (m'+1) g1 d1 ["chart"] (BP n)) (DX:Binds K d1 ["chart"] []) (Ca:KI K g1) (CG:mg "begun" = some (.ref g1))
  (KH:aG P w K mg base aY (m'+1) g2 d2 ["record"] Hu) (Jx:Binds K d2 ["record"] []) (JZ:KI K g2) (JN:mg "said" = some (.ref g2))
  (Ur:aG P w K mg base (qY P w) (m'+1) g3 d3 ["self","stand","path"] (QS P w C CT)) (Ug:Binds K d3 ["self","stand","path"] [])
  (qB5:aG P w K mg base (qY P w) (m'+1) g4 d4 ["chart","finds","row","event"] (QX P w C CT n)) (qAX:Binds K d4 ["chart","finds","row","event"] []) (qA3:KI K g4) (Zi:mg "move" = some (.ref g4))
  (Xo:aG P w K mg base aY (m'+1) g5 d5 ["rooms","opening"] Km) (Xd:Binds K d5 ["rooms","opening"] []) (Wt:KI K g5) (Wn:mg "lamps" = some (.ref g5))
  (aP:mg "len" = none) (az:mg "range" = none) (aM:mg "tuple" = none):aG P w K mg base (qY P w) (m'+2) f fd ["chart","most"] (Hy CT n):=by
 refine F.okX oM (fun vs H Q E h=>?_) (fun cdv A outer s H vs Q E hr h=>?_)
 ·refine aK fun G_ g_=>?_
  obtain⟨pc,m,c,bs,ne,rfl,_⟩:=h
  refine g_ ?_
  clear g_ G_
  rfl
 refine aK fun G_ g_=>?_
 obtain⟨pc,m,c,bs,ne,rfl,hX,ok,n3,m1,qDB,V8,q⟩:=h
 refine g_ ?_
 clear g_ G_
 refine⟨_,(zE (zK (i:=2) oM.nd rfl (Or.inr rfl) (Bm MkF qW hr rfl Wo qP .nil yE (zA (pv 1) zD)))
  (zE (zK (i:=3) oM.nd rfl (Or.inl rfl) (zJ Dl hr rfl CG Ca DX .nil yE (zA (pv 0) zD)))
  (zE (yI (Bl (pv 2) cl mR Ur hr Ug .nil (Y8 fun _ _ _ z=>z) (zA (yB zH (pv 3) zB (fun _ _=>rfl)) (zA (zW zD) zD))))
  (zE (zK (i:=4) oM.nd rfl (Or.inl rfl) (yK zD))
  (zZ (Z8 (qCO fun _ _ _ z=>z) (rG (X7 rfl rfl) (zL nJ (zS zN rfl aP bV (zA (pv 4) zD)) (zS zN rfl aP bV (zA (cI (pv 2) rfl) zD)) (zR _))
  (zE (zK (i:=5) oM.nd rfl (Or.inr rfl) (zS zN rfl aP bV (zA (pv 4) zD)))
  (zE (R0 (i:=6) (aa:=[(0,"chart"),(2,"finds"),(5,"row")]) (ZK fun _ _ _ z=>z) rfl oM.nd rfl (Or.inl rfl) (show bI (aA vf) ["chart","most","finds","told","rows","row","moves"] _ _ _ from xO)
    (cB rfl az (zA (zS zN rfl aP bV (zA (yB zH (pv 0) zB (fun _ _=>rfl)) zD)) zD)) (fun _ _ _ _ _ _=>cR) (fun _ _ _ _ _ _ hp=>zJ (E:=E) qB5 hr rfl Zi qA3 qAX .nil hp (zA (pv 1) (zA (pv 2) (zA (pv 3) (zA (pv 0) zD))))))
  (zG (yI (dz jM sy sZ yH (pv 4) (zA (zW (zA (zJ Xo hr rfl Wn Wt Xd .nil yE (zA (yB zH (pv 0) zB (fun _ _=>rfl)) (zA (yB zH (yB yU (cI (pv 2) rfl) (pv 5) (fun _ _=>rfl)) zB (fun _ _=>rfl)) zD)))
    (zA (yA zX rfl aM iT (zA (pv 6) zD)) zD))) zD))))))))
  (zG (zO (zW (zA (yA zX rfl aM iT (zA (zJ KH hr rfl JN JZ Jx .nil yE (zA (yB zH (pv 3) zB (fun _ _=>rfl)) zD)) zD)) (zA (pv 4) (zA (cI (pv 2) rfl) zD))))))))))),?_⟩
 refine aK fun G_ g_=>?_
 obtain⟨pb,pn,t0,pd,bv,nv,V5,dv,h1,h2,h3,h4,h5,h6,h7,h8,h9,h10⟩:=id hX
 refine g_ ?_
 clear g_ G_
 refine⟨_,rfl,fun x dx nx ndx qD0=>⟨x,dx,(m:Int),rfl,zC,fun as ap an H1 F1 Ln Q5 nan keep=>⟨rfl,?_⟩⟩⟩
 have s1:aJ H H1:=fun b o e=>by
  have z1:b ≠ x:=zM e nx
  have z2:b ≠ dx:=zM e ndx
  exact keep b o (by rw[zQ z1,zQ z2];exact e) z1
 have un:∀ b,upd (upd H dx (.own x)) x (.ins C dx []) b=none->H b=none:=fun b e=>by
  cases hb:H b with
  | none=>rfl
  | some o=>
   rw[zQ (zM hb nx),zQ (zM hb ndx),hb]at e
   cases e
 have Ln:=un as Ln
 have Q5:=un ap Q5
 have nan:=un an nan
 clear keep un
 refine⟨_,rfl,pc,c,bs,ne,rfl,hX.mono (aB.of s1),ok,n3,fun t ps pw wv iI s0 H2 BR j0 so0 s2 ht hS0 Du npw hA le0=>?_⟩
 refine aK fun G_ g_=>?_
 obtain⟨qa,qb⟩:=q iI s0 BR le0
 have s02:=s1.trans s2
 have F2:=F1.mono s2
 obtain⟨⟨dx',hx2⟩,_⟩:=id F2
 refine g_ ?_
 clear g_ G_
 refine⟨_,rfl,x,dx',_,rfl,hx2,YQ _ _ _ _,_,rfl,aF (aL.of ht) rfl ⟨Nat.zero_le _,fun pe hpe=>?_⟩⟩
 have s3:=zF hpe (.tup [])
 have i3:upd H2 pe (.tup []) pe=some (.tup (aC [])):=zC
 generalize upd H2 pe (.tup [])=H3 at s3 i3 ⊢
 have Hd:=s02.trans s3
 refine⟨x,ps,pe,as,ap,an,(m:Int),[],nl s0,[],rfl,F2.mono s3,(dH.tail hS0 []).mono (aB.of s3),i3,Nat.zero_le _,(fun i z=>by cases z),fun _ _ H4 F4 EY=>?_,fun _ z=>absurd z (by show ¬ ((m:Int)<=((0:Nat):Int));lia)⟩
 have La:aJ H H4:=fun b o e=>EY.rest b o (Hd b o e) fun z=>by
  rcases bY.mp z with z | z
  ·rw[z,Ln]at e;cases e
  ·rcases bY.mp z with z | z
   ·rw[z,Q5]at e;cases e
   ·rw[dJ.mp z,nan]at e;cases e
 have nfp:∀ {b:Addr} {o:HO},H2 b=some o->H1 b=none->b ∉ [as,ap,an]:=fun e e1 z=>(F1.there _ z) e1
 have ht4:H4 t=some (.tup [.ref ps,.ref pw]):=(F2.mono s3).keep EY _ _ (s3 _ _ ht)
 have qAB:H4 pw=some (.lst wv):=EY.rest _ _ (s3 _ _ Du) (nfp Du npw)
 have hA4:Al (fj H4) wv iI:=hA.mono fun _ _ z=>(z.mono (aB.of s3)).mono ((F2.mono s3).keep EY)
 refine⟨Nat.zero_le _,fun pr hpr=>?_⟩
 have s5:=zF hpr (.lst [])
 have i5:upd H4 pr (.lst []) pr=some (.lst []):=zC
 generalize upd H4 pr (.lst [])=H5 at s5 i5 ⊢
 have J8:H pr=none:=La.free hpr
 have prf:pr ∉ [as,ap,an]:=fun z=>F4.there _ z hpr
 have s05:=La.trans s5
 have hC5:∀ {Hi:Hp},aJ H Hi->uv Hi pc c:=fun z=>(hX.ch ok).mono (aB.of z)
 have alc:All c (Jw c) n:=⟨ok.ok,wide ok.ok,fun d hd=>⟨(ok.g d hd).1,Nat.le_trans (ok.g d hd).2 n3⟩⟩
 have Xz:c.tn<=20:=by have:=ok.t4;lia
 refine⟨fun σ' Hi => ∃(N:Nat)(fs:Fs)(ms:List (List En × Nat))(rv:List V)(o5 o6:Option V),σ'=[some (.ref pc),some (.int (m:Int)),some (.ref x),some (.ref t),some (.ref pr),o5,o6]/\bH c ne s0 (N * ne) fs ms/\fs.length=N/\N<=m/\pR c fs/\FD P w C Hi x as ap an (m:Int) fs/\aJ H Hi/\Hi t=some (.tup [.ref ps,.ref pw])/\Hi pw=some (.lst wv)/\Al (fj Hi) wv iI/\Hi pr=some (.lst rv)/\Al (dW Hi) rv (rowsOf c ne fs ms N),?_,?_⟩
 ·refine⟨fun μ σ' Hi => ∃(r:Nat)(fs:Fs)(ms:List (List En × Nat))(rv:List V)(o5 o6:Option V),μ=m - r/\σ'=[some (.ref pc),some (.int (m:Int)),some (.ref x),some (.ref t),some (.ref pr),o5,o6]/\bH c ne s0 (r * ne) fs ms/\r<=fs.length/\fs.length<=m/\pR c fs/\FD P w C Hi x as ap an (m:Int) fs/\aJ H Hi/\Hi t=some (.tup [.ref ps,.ref pw])/\Hi pw=some (.lst wv)/\Al (fj Hi) wv iI/\Hi pr=some (.lst rv)/\Al (dW Hi) rv (rowsOf c ne fs ms r),
   ⟨_,0,[(nl s0,[])],[],[],none,none,rfl,rfl,by rw[Nat.zero_mul];exact .nil,Nat.zero_le _,m1,fun y hy=>by rw[dJ.mp hy];exact⟨Ku so0,j0⟩,F4.mono s5,s05,s5 _ _ ht4,s5 _ _ qAB,hA4.mono fun _ _ z=>z.mono (aB.of s5),i5,.nil⟩,?_⟩
  rintro μ σ' Hi aZ
  refine aK fun G_ g_=>?_
  obtain⟨r,fs,ms,rv,o5,o6,rfl,rfl,FR,rl,flm,Xg,Fi,si,hti,Ww,vD,Od,hRi⟩:=aZ
  refine g_ ?_
  clear g_ G_
  have SM:=hRi.length
  unfold rowsOf at SM
  rw[bZ,List.length_range]at SM
  refine aK fun G_ g_=>?_
  obtain⟨⟨dxi,hxi⟩,⟨sv,hsv,qH8⟩,_⟩:=id Fi
  refine g_ ?_
  clear g_ G_
  have lsv:=qH8.length
  rw[bZ]at lsv
  refine⟨_,rfl,fQ rfl (.inl (aQ.of Od)) ⟨_,rfl,x,C,dxi,_,_,rfl,hxi,cl,nS,Ac _ _ _ _,fQ rfl (.inl (aQ.of hsv)) (bA ⟨_,rfl,?_⟩)⟩⟩
  rw[SM,lsv]
  refine fV (fun z=>?_) (fun z=>?_)
  ·have z:=of_decide_eq_true z
   have rlt:r < fs.length:=by lia
   refine⟨fun σ2 H2 => ∃(jt:Fs)(rK:List (List En × Nat))(uf:List V)(o5 o6:Option V),σ2=[some (.ref pc),some (.int (m:Int)),some (.ref x),some (.ref t),some (.ref pr),o5,o6]/\bH c ne s0 ((r+1) * ne) jt rK/\r+1<=jt.length/\jt.length<=m/\pR c jt/\FD P w C H2 x as ap an (m:Int) jt/\aJ H H2/\H2 t=some (.tup [.ref ps,.ref pw])/\H2 pw=some (.lst wv)/\Al (fj H2) wv iI/\H2 pr=some (.lst uf)/\Al (dW H2) uf (rowsOf c ne jt rK (r+1)),?_,?_⟩
   ·rintro σ2 H2 aZ
    refine aK fun G_ g_=>?_
    obtain⟨jt,rK,uf,p5,p6,y1,y2,y3,y4,y5⟩:=aZ
    refine g_ ?_
    clear g_ G_
    exact⟨m - (r+1),by lia,r+1,jt,rK,uf,p5,p6,rfl,y1,y2,y3,y4,y5⟩
   refine⟨_,rfl,fQ rfl (.inl (aQ.of Od)) ?_⟩
   rw[SM]
   refine aK fun G_ g_=>?_
   obtain⟨⟨sr,yw⟩,hsr⟩:∃ y,fs[r]? = some y:=⟨_,fu rlt⟩
   refine g_ ?_
   clear g_ G_
   have WM:=Xg _ (Mq hsr)
   have l0r:=vG FR _ (Mq hsr)
   have lms:=j9 FR
   have rne:r * ne<=2400:=Nat.le_trans (Nat.mul_le_mul (Nat.le_of_lt (show r < 300 by lia)) V8) (by decide)
   refine⟨_,rfl,aF (aL.of (si _ _ h1)) rfl (fQ rfl (.inr (aL.of (si _ _ h4))) ⟨_,rfl,?_⟩)⟩
   rw[h5]
   refine⟨by lia,by lia,?_⟩
   refine lV (lo:=0) (n:=ne) (fun i acc H' => ∃(jt more:Fs)(rK mm:List (List En × Nat)),bH c ne s0 (r * ne+i) jt rK/\jt=fs++more/\rK=ms++mm/\jt.length<=m/\pR c jt/\FD P w C H' x as ap an (m:Int) jt/\bR Hi H' [as,ap,an] [as,ap,an]/\Al (yc H') acc mm)
    ⟨fs,[],ms,[],FR,by simp,by simp,flm,Xg,Fi,bR.same _ (aJ.refl _),.nil⟩ ?_ ?_
   ·rintro i acc H' hi aZ
    refine aK fun G_ g_=>?_
    obtain⟨jt,more,rK,mm,Uv,e1,e2,fl2,qB0,F2,st2,hM2⟩:=aZ
    refine g_ ?_
    clear g_ G_
    have lm2:=j9 Uv
    have Oc:jt[r]? = some (sr,yw):=by rw[e1,QC rlt];exact hsr
    have hdiv:(r * ne+i) / ne=r:=by
     rw[Nat.mul_comm,Nat.mul_add_div (by lia),Nat.div_eq_of_lt hi,Nat.add_zero]
    have hmod:(r * ne+i) % ne=i:=by
     rw[Nat.mul_comm,Nat.mul_add_mod,Nat.mod_eq_of_lt hi]
    have sH:aJ H H':=fun b o e=>st2.rest b o (si b o e) fun z=>by
     rcases bY.mp z with z | z
     ·rw[z,Ln]at e;cases e
     ·rcases bY.mp z with z | z
      ·rw[z,Q5]at e;cases e
      ·rw[dJ.mp z,nan]at e;cases e
    refine⟨_,rfl,_,rfl,_,rfl,_,rfl,pc,x,as,ap,an,r,i,(m:Int),c,jt,sr,yw,(by rw[Int.zero_add];rfl),hC5 sH,alc,Xz,F2,by lia,Oc,WM.1,WM.2,l0r,?_,fun es s' AR so' j'=>⟨fun hle v H3 hv F3 st3=>?_,fun hn hle=>?_⟩⟩
    ·have:=Ol FR _ (Mq hsr)
     simp only at this
     lia
    ·have Yj:=bH.cell Uv (by lia) (by rw[hdiv];exact Oc) (by rw[hmod];exact AR)
     rw[hmod]at Yj
     refine aK fun G_ g_=>?_
     obtain⟨m3,em3,_⟩:=sI jt (nl s') (yw++[i])
     refine g_ ?_
     clear g_ G_
     refine⟨zI (by rw[hM2.length];(have:rK.length=ms.length+mm.length:=by rw[e2,fU]);lia),_,more++m3,_,mm++[(es,xU jt (nl s'))],Yj,by rw[em3,e1,List.append_assoc],by rw[e2,List.append_assoc],?_,qB0.add so' j',F3,bR.trans st2 st3,(hM2.mono fun _ _ z=>z.mono (F2.keep st3)).snoc hv⟩
     rcases hle with hle | hle
     ·lia
     ·rw[hle];exact fl2
    ·have Yj:=bH.cell Uv (by lia) (by rw[hdiv];exact Oc) (by rw[hmod];exact AR)
     rw[hmod,(cD (p:=yw++[i]) hn).1]at Yj
     have:=qb _ _ _ Yj (by rw[fU,jf];lia)
     intro dx2 pl pv H3 st3 z1 z2 z3 z4 z5
     exact this dx2 pl pv H3 ⟨(fun b hb=>by cases hb),fun b o e _=>by
      refine st3.rest b o (sH b o e) fun z=>?_
      rcases bY.mp z with z | z
      ·rw[z,Ln]at e;cases e
      ·rcases bY.mp z with z | z
       ·rw[z,Q5]at e;cases e
       ·rw[dJ.mp z,nan]at e;cases e⟩ (sH.free z1) (sH.free z2) z3 z4 z5
   rintro acc H' ⟨jt,more,rK,mm,Uv,e1,e2,fl2,qB0,F2,st2,hM2⟩ pl hpl
   have lm2:=j9 Uv
   have lmm:mm.length=ne:=by
    rw[e2,fU]at lm2
    lia
   have s6:=zF hpl (.lst acc)
   have i6:upd H' pl (.lst acc) pl=some (.lst acc):=zC
   generalize upd H' pl (.lst acc)=H6 at s6 i6 ⊢
   have F6:=F2.mono s6
   have Mw:bR Hi H6 [as,ap,an] [as,ap,an]:=bR.trans st2 (bR.same _ s6)
   have k6:=Fi.keep Mw
   have sH6:aJ H H6:=fun b o e=>Mw.rest b o (si b o e) fun z=>by
    rcases bY.mp z with z | z
    ·rw[z,Ln]at e;cases e
    ·rcases bY.mp z with z | z
     ·rw[z,Q5]at e;cases e
     ·rw[dJ.mp z,nan]at e;cases e
   refine aK fun G_ g_=>?_
   obtain⟨⟨dx6,hx6⟩,⟨sv6,qH7,qDQ⟩,_⟩:=id F6
   have Oc:jt[r]? = some (sr,yw):=by rw[e1,QC rlt];exact hsr
   obtain⟨v6,hv6,q6,rfl,po6,pb6,pk6,kv6,hq6,ho6,_⟩:=qDQ.get (k:=r) (r:=sr) (by rw[cZ,Oc];rfl)
   refine g_ ?_
   clear g_ G_
   have qDS:H6 pr=some (.lst rv):=Mw.rest _ _ Od prf
   refine⟨_,rfl,.inl ⟨rfl,_,aQ.of qDS⟩,_,rfl,aF (aL.of (sH6 _ _ h1)) rfl ⟨_,rfl,x,C,dx6,_,_,rfl,hx6,cl,nS,Ac _ _ _ _,_,rfl,cC (aQ.of qH7) (yQ hv6) (aF (aL.of hq6) rfl ⟨t0,po6,c.rs,sr.os,rfl,⟨V5,sH6 _ _ h6,h7.mono (aB.of sH6)⟩,ho6,WM.1.lt,WM.1.Q4,ok.ok.r40,fun tl H7 s7 htl=>?_⟩)⟩⟩
   have i7:=s7 _ _ i6
   refine⟨_,rfl,pl,_,rfl,.inl ⟨aQ.of i7,fun tm htm=>?_⟩⟩
   have s8:=zF htm (.tup acc)
   have i8:upd H7 tm (.tup acc) tm=some (.tup acc):=zC
   generalize upd H7 tm (.tup acc)=H8 at s8 i8 ⊢
   refine⟨zI (by show 2<=1000;decide),fun tr htr=>?_⟩
   have s9:=zF htr (.tup [V.ref tl,V.ref tm])
   have i9:upd H8 tr (.tup [V.ref tl,V.ref tm]) tr=some (.tup [V.ref tl,V.ref tm]):=zC
   generalize upd H8 tr (.tup [V.ref tl,V.ref tm])=H9 at s9 i9 ⊢
   have s69:=s7.trans (s8.trans s9)
   have qAE:H9 pr=some (.lst rv):=s69 _ _ qDS
   refine⟨pr,_,_,rfl,rfl,qAE,zI (by lia),?_⟩
   generalize hHa:upd H9 pr (.lst (rv++[.ref tr]))=Ha
   have ra:∀ b,b ≠ pr->Ha b=H9 b:=fun b z=>by rw[<-hHa];exact zQ z
   have pa:Ha pr=some (.lst (rv++[.ref tr])):=by rw[<-hHa];exact zC
   have ka:aB H9 Ha:=fun b xs e=>(ra b (fun z=>by rw[z,qAE]at e;cases e)).trans e
   have k69:=(aB.of s69).trans ka
   have k0a:aB Hi Ha:=k6.trans k69
   have sa:aJ H Ha:=fun b o e=>(ra b (fun z=>by rw[z,J8]at e;cases e)).trans ((sH6.trans s69) _ _ e)
   have Fa:FD P w C Ha x as ap an (m:Int) jt:=by
    refine aK fun G_ g_=>?_
    obtain⟨⟨dx9,y1⟩,⟨sv9,y2,y3⟩,⟨pv9,y4,y5⟩,y6,y7⟩:=F6.mono s69
    refine g_ ?_
    clear g_ G_
    have z1:as ≠ pr:=fun z=>prf (by rw[<-z];simp)
    have z2:ap ≠ pr:=fun z=>prf (by rw[<-z];simp)
    have z3:an ≠ pr:=fun z=>prf (by rw[<-z];simp)
    exact⟨⟨dx9,(ra x (fH y1 qAE nofun)).trans y1⟩,⟨sv9,(ra as z1).trans y2,y3.mono fun _ _ z=>z.mono ka⟩,⟨pv9,(ra ap z2).trans y4,y5.mono fun _ _ z=>z.mono ka⟩,y6.mono (fun b xs e=>ka b xs e) (ra an z3),y7⟩
   have qH9:pw ∉ [as,ap,an]:=nfp Du npw
   have npp:pw ≠ pr:=fun z=>by rw[z,hpr]at qAB;cases qAB
   refine⟨jt,rK,rv++[.ref tr],_,_,rfl,(by rw[Nat.add_mul,Nat.one_mul];exact Uv),(by rw[e1,fU];lia),fl2,qB0,Fa,sa,k0a _ _ hti,(ra pw npp).trans (s69 _ _ (Mw.rest _ _ Ww qH9)),vD.mono fun _ _ z=>z.mono k0a,pa,?_⟩
   rw[Es,e1,e2,Ie rl (by lia)]
   refine (hRi.mono fun _ _ z=>z.mono k0a).snoc ⟨tr,tl,tm,acc,rfl,ka _ _ i9,?_,(aB.of s9).trans ka _ _ i8,?_⟩
   ·have hl:(fs++more)[r]? = some (sr,yw):=by rw[<-e1];exact Oc
    unfold rowAt
    rw[hl]
    exact ((aB.of (s8.trans s9)).trans ka) _ _ htl
   ·unfold rowAt
    show Al (yc Ha) acc (((ms++mm).drop (r * ne)).take ne)
    rw[<-lms,List.drop_left,uw (by lia)]
    exact hM2.mono fun _ _ z=>(z.mono (aB.of s6)).mono k69
  ·have z:=of_decide_eq_false z
   exact⟨r,fs,ms,rv,o5,o6,rfl,FR,by lia,by lia,Xg,Fi,si,hti,Ww,vD,Od,hRi⟩
 rintro _ Hi aZ
 refine aK fun G_ g_=>?_
 obtain⟨N,fs,ms,rv,o5,o6,rfl,FR,fl,Nm,Xg,Fi,si,hti,Ww,vD,Od,hRi⟩:=aZ
 refine g_ ?_
 clear g_ G_
 refine⟨_,rfl,aF (aL.of hti) rfl ⟨pw,wv,iI,rfl,Ww,vD,by lia,fun pl H6 s6 npl hpl=>?_⟩⟩
 refine⟨pl,_,rfl,.inl ⟨aQ.of hpl,fun tw htw=>?_⟩⟩
 have s7:=zF htw (.tup ((bc iI).map V.str))
 have i7:upd H6 tw (.tup ((bc iI).map V.str)) tw=some (.tup ((bc iI).map V.str)):=zC
 generalize upd H6 tw (.tup ((bc iI).map V.str))=H7 at s7 i7 ⊢
 have s67:=s6.trans s7
 refine aK fun G_ g_=>?_
 obtain⟨⟨dx7,hx7⟩,⟨sv7,qH6,qDP⟩,_⟩:=id (Fi.mono s67)
 refine g_ ?_
 clear g_ G_
 refine⟨_,rfl,_,rfl,x,C,dx7,_,_,rfl,hx7,cl,nS,Ac _ _ _ _,zI (by show 3<=1000;decide),fun tr htr=>?_⟩
 have s8:=zF htr (.tup [V.ref tw,V.ref pr,V.ref as])
 exact qa N fs ms tr tw pr as rv sv7 _ FR fl Nm Xg zC (s8 _ _ i7) ((s67.trans s8) _ _ Od) (hRi.mono fun _ _ z=>z.mono (aB.of (s67.trans s8))) (s8 _ _ qH6) (qDP.mono fun _ _ z=>z.mono (aB.of s8)) (si.trans (s67.trans s8)) J8 Ln (fun z=>prf (by rw[z];simp))
end
theorem N5{fs more:Fs}{s:S4}{j:Nat}(h:rowOf fs s=some j):rowOf (fs++more) s=some j:=by
 unfold rowOf at h ⊢
 rw[List.findIdx?_append,h]
 rfl
theorem N6(fs:Fs)(s:S4)(p:List Nat):rowOf (uo fs s p) s=some (xU fs s):=by
 cases h:rowOf fs s with
 | some i=>rw[(cY h).1,(cY (p:=p) h).2];exact h
 | none=>
  rw[(cD h).1,(cD (p:=p) h).2]
  unfold rowOf at h ⊢
  rw[List.findIdx?_append,h]
  simp
theorem Ws(s:S4):cG (nl s)=cG s:=rfl
section
variable{c:dZ}{ne:Nat}{s0:S4}
theorem Oo{i:Nat}{fs:Fs}{ms:List (List En × Nat)}(h:bH c ne s0 i fs ms):∀ k,k < i->∃ s p es s' j,fs[k / ne]? = some (s,p)/\HW c ((k % ne:Nat):Int) s es s'/\ms[k]? = some (es,j)/\rowOf fs s'=some j:=by
 induction h with
 | nil=>intro k hk;lia
 | @cell i fs ms s s' p es h h0 h1 h2 ih=>
  intro k hk
  obtain⟨more,em,_⟩:=sI fs (nl s') (p++[i % ne])
  have lm:=j9 h
  by_cases e:k=i
  ·subst e
   refine⟨s,p,es,s',_,?_,h2,?_,N6 fs (nl s') _⟩
   ·rw[em,QC (mH.mp h1).1];exact h1
   ·rw[List.getElem?_append_right (by lia),lm];simp
  ·obtain⟨a,b,d,f,j,g1,g2,g3,g4⟩:=ih k (by lia)
   refine⟨a,b,d,f,j,?_,g2,?_,?_⟩
   ·rw[em,QC (mH.mp g1).1];exact g1
   ·rw[QC (by lia)];exact g3
   ·rw[em];exact N5 g4
theorem Rk{c:dZ}{ne:Nat}{s0:S4}{N i m:Nat}{fs fs':Fs}{ms rM:List (List En × Nat)}(h:bH c ne s0 (N * ne) fs ms)(e:fs.length=N)(l:N<=m)(h':bH c ne s0 i fs' rM)(e':fs'.length=m+1):False:=by
 have hi:=xK h e h'
 obtain⟨f2,m2,more,rK,g1,g2,g3,_⟩:=pB h i hi
 obtain⟨rfl,rfl⟩:=gO h' g1
 have:=congrArg List.length g2
 rw[fU]at this
 lia
theorem Qn{c:dZ}{ne:Nat}{s0:S4}{N N':Nat}{fs fs':Fs}{ms rM:List (List En × Nat)}(h:bH c ne s0 (N * ne) fs ms)(e:fs.length=N)(h':bH c ne s0 (N' * ne) fs' rM)(e':fs'.length=N'):N=N'/\fs=fs'/\ms=rM:=by
 have a:=xK h e h'
 have b:=xK h' e' h
 have z:N * ne=N' * ne:=by lia
 obtain⟨rfl,rfl⟩:=gO (z ▸ h) h'
 exact⟨by lia,rfl,rfl⟩
theorem fold_zero{c:dZ}{ne:Nat}{s0:S4}{i:Nat}{fs:Fs}{ms:List (List En × Nat)}(h:bH c ne s0 i fs ms):∃ tl,fs=(nl s0,[]) :: tl:=by
 induction h with
 | nil=>exact⟨[],rfl⟩
 | @cell i fs ms s s' p es h h0 h1 h2 ih=>
  obtain⟨tl,rfl⟩:=ih
  obtain⟨more,em,_⟩:=sI ((nl s0,[]) :: tl) (nl s') (p++[i % ne])
  exact⟨tl++more,by rw[em];rfl⟩
theorem Oj{M i:Nat}{fs fs':Fs}{ms rM:List (List En × Nat)}(h:bH c ne s0 M fs ms)(h':bH c ne s0 i fs' rM)(hi:i < M):∃ es j jt rK,ms[i]? = some (es,j)/\bH c ne s0 (i+1) jt rK/\((j < fs'.length/\jt.length=fs'.length) ∨ (j=fs'.length/\jt.length=fs'.length+1)):=by
 obtain⟨f2,m2,more,mm,g1,g2,g3,_⟩:=pB h (i+1) hi
 obtain⟨f3,m3,s,s',p,es,k1,k2,k3,k4,rfl,rfl⟩:∃ f3 m3 s s' p es,bH c ne s0 i f3 m3/\0 < ne/\f3[i / ne]? = some (s,p)/\HW c ((i % ne:Nat):Int) s es s'/\f2=uo f3 (nl s') (p++[i % ne])/\m2=m3++[(es,xU f3 (nl s'))]:=by
  cases g1 with
  | cell a b c d=>exact⟨_,_,_,_,_,_,a,b,c,d,rfl,rfl⟩
 obtain⟨rfl,rfl⟩:=gO k1 h'
 have lm:=j9 k1
 refine⟨es,xU f3 (nl s'),_,_,?_,g1,?_⟩
 ·rw[g3,List.append_assoc,Yn (by lia),lm,Nat.sub_self]
  rfl
 ·cases hr:rowOf f3 (nl s') with
  | some j=>
   rw[(cY (p:=p++[i % ne]) hr).1,(cY (p:=p++[i % ne]) hr).2]
   exact .inl ⟨Qu hr,rfl⟩
  | none=>
   rw[(cD (p:=p++[i % ne]) hr).1,(cD (p:=p++[i % ne]) hr).2,fU]
   exact .inr ⟨rfl,rfl⟩
theorem X6{N k:Nat}{fs fs':Fs}{ms rM:List (List En × Nat)}(h:bH c ne s0 (N * ne) fs ms)(hl:fs.length=N)(h':bH c ne s0 (k * ne) fs' rM)(hk:k < N):k < fs'.length:=by
 by_cases z:ne=0
 ·subst z
  rw[Nat.mul_zero]at h h'
  obtain⟨rfl,rfl⟩:=gO h h'
  lia
 ·have:(k+1) * ne<=N * ne:=Nat.mul_le_mul_right _ hk
  rw[Nat.add_mul,Nat.one_mul]at this
  obtain⟨f2,m2,more,mm,g1,g2,g3,g4⟩:=pB h (k * ne) (by lia)
  obtain⟨rfl,rfl⟩:=gO g1 h'
  obtain⟨x,hx⟩:=g4 (by lia)
  rw[Nat.mul_div_cancel _ (by lia)]at hx
  exact (mH.mp hx).1
theorem Om{i:Nat}{fs:Fs}{ms:List (List En × Nat)}(h:bH c ne s0 i fs ms){j k:Nat}{x y:S4 × List Nat}(hj:fs[j]? = some x)(hk:fs[k]? = some y)(hne:j ≠ k):cG x.1 ≠ cG y.1:=fun e=>by
 have nd:=Jh h
 have lx:=vG h x (Mq hj)
 have ly:=vG h y (Mq hk)
 have e2:=wZ e
 have ex:nl x.1=x.1:=by
  unfold nl
  rw[<-lx]
 have ey:nl y.1=y.1:=by
  unfold nl
  rw[<-ly]
 rw[ex,ey]at e2
 have hj':=(mH.mp hj).1
 have hk':=(mH.mp hk).1
 have a1:(fs.map (·.1))[j]? = (fs.map (·.1))[k]?:=by rw[cZ,cZ,hj,hk];show some x.1=some y.1;rw[e2]
 exact hne ((List.getElem?_inj (by rw[bZ];exact hj') nd).mp a1)
end
theorem Mh{ne k e:Nat}{ms:List (List En × Nat)}(he:e < ne):((ms.drop (k * ne)).take ne)[e]? = ms[k * ne+e]?:=by
 rw[List.getElem?_take,if_pos he,List.getElem?_drop]
theorem qCN{P:Program}{w:World}{X:Cx}:Passes (qY P w) X E0:=fun _ _ _ _ _ _ _ h=>by
 obtain⟨_,_,_,_,_,_,_,_,_,_,_,_,_,_,_,h⟩:=h
 exact h.elim
section
variable{K:bO}{H:Hp}
theorem M8{a b:Addr}{as:List Nat}(ha:H a=some (.tup (aC as)))(hb:H b=some (.tup (aC as))):Dq K H 1 (.ref a) (.ref b):=
 .tup (aL.of ha) (aL.of hb) rfl fun j x y h1 h2=>by
  rw[h1]at h2
  cases h2
  unfold aC at h1
  rw[cZ]at h1
  obtain⟨n,_,rfl⟩:=Option.map_eq_some_iff.mp h1
  exact .flat rfl
theorem XH{a b:Addr}{as:List Int}(ha:H a=some (.tup (as.map V.int)))(hb:H b=some (.tup (as.map V.int))):Dq K H 1 (.ref a) (.ref b):=
 .tup (aL.of ha) (aL.of hb) rfl fun j x y h1 h2=>by
  rw[h1]at h2
  cases h2
  rw[cZ]at h1
  obtain⟨n,_,rfl⟩:=Option.map_eq_some_iff.mp h1
  exact .flat rfl
theorem M7{a b:Addr}{as:List Str}(ha:H a=some (.tup (as.map V.str)))(hb:H b=some (.tup (as.map V.str))):Dq K H 1 (.ref a) (.ref b):=
 .tup (aL.of ha) (aL.of hb) rfl fun j x y h1 h2=>by
  rw[h1]at h2
  cases h2
  rw[cZ]at h1
  obtain⟨n,_,rfl⟩:=Option.map_eq_some_iff.mp h1
  exact .flat rfl
theorem _root_.L2.Dq.up{n m:Nat}{x y:V}(d:Dq K H n x y)(le:n<=m):Dq K H m x y:=by
 induction d generalizing m with
 | flat f=>exact .flat f
 | same=>exact .same
 | tup h1 h2 h3 _ ih=>
  obtain⟨k,rfl⟩:∃ k,m=k+1:=⟨m - 1,by lia⟩
  exact .tup h1 h2 h3 fun j x y a b=>ih j x y a b (by lia)
 | lst h1 h2 h3 _ ih=>
  obtain⟨k,rfl⟩:∃ k,m=k+1:=⟨m - 1,by lia⟩
  exact .lst h1 h2 h3 fun j x y a b=>ih j x y a b (by lia)
theorem oX{kv:List V}{ks:List (List Nat)}(h:bF H kv ks):∀(j:Nat)(x:V),kv[j]? = some x->∃(a:Addr)(r:List Nat),x = .ref a/\ks[j]? = some r/\H a=some (.tup (aC r)):=by
 induction h with
 | nil=>intro j x hx;cases hx
 | cons h _ ih=>
  intro j x hx
  cases j with
  | zero=>
   cases hx
   obtain⟨a,rfl,ha⟩:=h
   exact⟨a,_,rfl,rfl,ha⟩
  | succ j=>exact ih j x hx
theorem jq{kv:List V}{ks:List (List Nat)}(h:bF H kv ks):kv.length=ks.length:=by
 induction h with
 | nil=>rfl
 | cons _ _ ih=>rw[eV,eV,ih]
theorem XF{a b:Addr}{kv uV:List V}{ks:List (List Nat)}(ha:H a=some (.tup kv))(hb:H b=some (.tup uV))(h:bF H kv ks)(h':bF H uV ks):Dq K H 2 (.ref a) (.ref b):=
 .tup (aL.of ha) (aL.of hb) (by rw[jq h,jq h']) fun j x y h1 h2=>by
  obtain⟨p,r,rfl,e1,hp⟩:=oX h j x h1
  obtain⟨q,r',rfl,e2,hq⟩:=oX h' j y h2
  rw[e1]at e2
  cases e2
  exact M8 hp hq
theorem qCV{s t:S4}(e:cG s=cG t):s.os=t.os/\s.bx=t.bx/\s.ks=t.ks:=by
 have:=wZ e
 unfold nl at this
 injection this with e1 e2 e3
 exact⟨e1,e2,e3⟩
theorem vV{a b:Addr}{s t:S4}(h:dH H a s)(h':dH H b t)(e:cG s=cG t):∃ xs ys,H a=some (.tup xs)/\H b=some (.tup ys)/\xs.length=ys.length/\∀(j:Nat)(x y:V),xs[j]? = some x->ys[j]? = some y->Dq K H 2 x y:=by
 obtain⟨po,pb,pk,kv,h1,h2,h3,h4,h5⟩:=h
 obtain⟨po',pb',FP,uV,h1',h2',h3',h4',h5'⟩:=h'
 obtain⟨e1,e2,e3⟩:=qCV e
 rw[e1]at h2
 rw[e2]at h3
 rw[e3]at h5
 refine⟨_,_,h1,h1',rfl,fun j x y hx hy=>?_⟩
 match j,hx,hy with
 | 0,hx,hy=>cases hx;cases hy;exact (M8 h2 h2').up (by decide)
 | 1,hx,hy=>cases hx;cases hy;exact (XH h3 h3').up (by decide)
 | 2,hx,hy=>cases hx;cases hy;exact XF h4 h4' h5 h5'
 | j+3,hx,hy=>cases hx
theorem qFE{a b:Addr}{s t:S4}(h:dH H a s)(h':dH H b t)(e:cG s=cG t):Dq K H 3 (.ref a) (.ref b):=by
 obtain⟨xs,ys,h1,h2,h3,h4⟩:=vV (K:=K) h h' e
 exact .tup (aL.of h1) (aL.of h2) h3 h4
theorem Cu{α:Type} [DecidableEq α] {n:Nat} {a b:Addr} {xs ys:List V} {as bs:List α} (ha:H a=some (.tup xs)) (hb:H b=some (.tup ys)) (la:xs.length=as.length) (lb:ys.length=bs.length)
  (he:∀(j:Nat)(x y:V)(p q:α),xs[j]? = some x->ys[j]? = some y->as[j]? = some p->bs[j]? = some q->Dc K H n x y (decide (p=q))) (hs:a=b->as=bs):Dc K H (n+1) (.ref a) (.ref b) (decide (as=bs)):=by
 by_cases e:a=b
 ·have:=hs e
  subst e
  rw[decide_eq_true this]
  exact .like .same
 ·have:=Dc.tup (K:=K) (H:=H) (n:=n) (e:=fun j=>decide (as[j]? = bs[j]?)) e (aL.of ha) (aL.of hb) fun j x y hx hy=>by
   have h1:=(mH.mp hx).1
   have h2:=(mH.mp hy).1
   have e1:as[j]? = some as[j]:=fu (by lia)
   have e2:bs[j]? = some bs[j]:=fu (by lia)
   have:=he j x y _ _ hx hy e1 e2
   rw[e1,e2]
   rw[show decide (some as[j]=some bs[j])=decide (as[j]=bs[j]) from decide_eq_decide.mpr ⟨fun z=>kJ z,fun z=>by rw[z]⟩]
   exact this
  rw[la,lb,Xh]at this
  exact this
theorem UL{n:Nat}(x y:Int):Dc K H n (.int x) (.int y) (decide (x=y)):=by
 have:=Dc.flat (K:=K) (H:=H) (n:=n) (x:=.int x) (y:=.int y) rfl rfl
 rw[show Ot (.int x) (.int y)=decide (x=y) by
  show (x == y)=_
  by_cases e:x=y
  ·subst e;simp
  ·rw[decide_eq_false e];simpa using e]at this
 exact this
theorem oh:∀ {as bs:List Nat},aC as=aC bs->as=bs
 | [],[],_=>rfl
 | [],_ :: _,h=>by cases h
 | _ :: _,[],h=>by cases h
 | x :: a,y :: b,h=>by
  unfold aC at h
  rw[List.map_cons,List.map_cons,List.cons.injEq]at h
  have h3:(x:Int)=y:=V.int.inj h.1
  rw[oh (as:=a) (bs:=b) h.2,show x=y by lia]
theorem wj:∀ {as bs:List Int},as.map V.int=bs.map V.int->as=bs
 | [],[],_=>rfl
 | [],_ :: _,h=>by cases h
 | _ :: _,[],h=>by cases h
 | x :: a,y :: b,h=>by
  rw[List.map_cons,List.map_cons,List.cons.injEq]at h
  rw[wj (as:=a) (bs:=b) h.2,V.int.inj h.1]
theorem MN{a b:Addr}{as bs:List Nat}(ha:H a=some (.tup (aC as)))(hb:H b=some (.tup (aC bs))):Dc K H 1 (.ref a) (.ref b) (decide (as=bs)):=
 Cu ha hb (zU _) (zU _) (fun j x y p q hx hy hp hq=>by
  unfold aC at hx hy
  rw[cZ,hp]at hx
  rw[cZ,hq]at hy
  cases hx
  cases hy
  have:=UL (K:=K) (H:=H) (n:=0) (p:Int) (q:Int)
  rw[show decide ((p:Int)=(q:Int))=decide (p=q) from decide_eq_decide.mpr ⟨fun z=>by lia,fun z=>by lia⟩]at this
  exact this) (fun e=>by
  subst e
  rw[ha]at hb
  injection hb with hb
  injection hb with hb
  exact oh hb)
theorem XN{a b:Addr}{as bs:List Int}(ha:H a=some (.tup (as.map V.int)))(hb:H b=some (.tup (bs.map V.int))):Dc K H 1 (.ref a) (.ref b) (decide (as=bs)):=
 Cu ha hb (bZ _) (bZ _) (fun j x y p q hx hy hp hq=>by
  rw[cZ,hp]at hx
  rw[cZ,hq]at hy
  cases hx
  cases hy
  exact UL p q) (fun e=>by
  subst e
  rw[ha]at hb
  injection hb with hb
  injection hb with hb
  exact wj hb)
theorem Er{kv:List V}{ks ks':List (List Nat)}(h:bF H kv ks)(h':bF H kv ks'):ks=ks':=by
 apply List.ext_getElem?
 intro j
 have l1:=jq h
 have l2:=jq h'
 by_cases c:j < kv.length
 ·obtain⟨a,r,e,e1,h1⟩:=oX h j _ (fu c)
  obtain⟨b,r',e',e2,h2⟩:=oX h' j _ (fu c)
  rw[e]at e'
  cases e'
  rw[h1]at h2
  injection h2 with h2
  injection h2 with h2
  rw[e1,e2,oh h2]
 ·rw[List.getElem?_eq_none (by lia),List.getElem?_eq_none (by lia)]
theorem XM{a b:Addr}{kv uV:List V}{ks ks':List (List Nat)}(ha:H a=some (.tup kv))(hb:H b=some (.tup uV))(h:bF H kv ks)(h':bF H uV ks'):Dc K H 2 (.ref a) (.ref b) (decide (ks=ks')):=
 Cu ha hb (jq h) (jq h') (fun j x y p q hx hy hp hq=>by
  obtain⟨a,r,rfl,e1,h1⟩:=oX h j _ hx
  obtain⟨b,r',rfl,e2,h2⟩:=oX h' j _ hy
  rw[hp]at e1
  rw[hq]at e2
  cases e1
  cases e2
  exact MN h1 h2) (fun e=>by
  subst e
  rw[ha]at hb
  injection hb with hb
  injection hb with hb
  subst hb
  exact Er h h')
theorem qFG{a b:Addr}{s t:S4}(h:dH H a s)(h':dH H b t)(e:cG s ≠ cG t):Dc K H 3 (.ref a) (.ref b) false:=by
 have ne:a ≠ b:=fun z=>by
  subst z
  obtain⟨po,pb,pk,kv,h1,h2,h3,h4,h5⟩:=h
  obtain⟨po',pb',FP,uV,h1',h2',h3',h4',h5'⟩:=h'
  rw[h1]at h1'
  cases h1'
  rw[h2]at h2'
  rw[h3]at h3'
  rw[h4]at h4'
  injection h2' with h2'
  injection h2' with h2'
  injection h3' with h3'
  injection h3' with h3'
  injection h4' with h4'
  injection h4' with h4'
  subst h4'
  refine e ?_
  unfold cG
  rw[oh h2',wj h3',Er h5 h5']
 obtain⟨po,pb,pk,kv,h1,h2,h3,h4,h5⟩:=h
 obtain⟨po',pb',FP,uV,h1',h2',h3',h4',h5'⟩:=h'
 have dcu:∀ {n m:Nat} {x y:V} {b:Bool},Dc K H n x y b->n<=m->Dc K H m x y b:=by
  intro n m x y b d
  induction d generalizing m with
  | flat f g=>exact fun _=>.flat f g
  | like d=>exact fun le=>.like (d.up le)
  | tup h1 h2 h3 _ ih=>
   intro le
   obtain⟨k,rfl⟩:∃ k,m=k+1:=⟨m - 1,by lia⟩
   exact .tup h1 h2 h3 fun j x y a b=>ih j x y a b (by lia)
 have:=Dc.tup (K:=K) (H:=H) (n:=2) (e:=fun j=>if j=0 then decide (s.os=t.os) else if j=1 then decide (s.bx=t.bx) else decide (s.ks=t.ks)) ne (aL.of h1) (aL.of h1') fun j x y hx hy=>by
  match j,hx,hy with
  | 0,hx,hy=>cases hx;cases hy;exact dcu (MN h2 h2') (by decide)
  | 1,hx,hy=>cases hx;cases hy;exact dcu (XN h3 h3') (by decide)
  | 2,hx,hy=>cases hx;cases hy;exact XM h4 h4' h5 h5'
  | j+3,hx,hy=>cases hx
 rw[show ((List.range (min [V.ref po,V.ref pb,V.ref pk].length [V.ref po',V.ref pb',V.ref FP].length)).all (fun j=>if j=0 then decide (s.os=t.os) else if j=1 then decide (s.bx=t.bx) else decide (s.ks=t.ks)) && [V.ref po,V.ref pb,V.ref pk].length == [V.ref po',V.ref pb',V.ref FP].length)=false by
  rw[Bool.eq_false_iff]
  intro z
  have z:=(Bool.and_eq_true_iff.mp z).1
  rw[List.all_eq_true]at z
  refine e ?_
  have a0:=of_decide_eq_true (z 0 (by show 0∈List.range 3;decide))
  have a1:=of_decide_eq_true (z 1 (by show 1∈List.range 3;decide))
  have a2:=of_decide_eq_true (z 2 (by show 2∈List.range 3;decide))
  unfold cG
  rw[a0,a1,a2]]at this
 exact this
end
noncomputable def qC4:Sp:=fun vs H Q _ => ∃ n:Int,vs=[.int n]/\Q (.bl true) H
noncomputable def Ay:Sp:=fun vs H Q _ => ∃(pw:Addr)(wv:List V)(es:List En),vs=[.ref pw]/\H pw=some (.lst wv)/\Al (fj H) wv es/\es.length<=2000000/\∀(t:Addr)(H':Hp),aJ H H'->H' t=some (.tup ((bc es).map V.str))->Q (.ref t) H'
noncomputable def ux:Sp:=fun vs H Q _ => ∃(a b:Addr)(xs:List Str),vs=[.ref a,.ref b]/\H a=some (.tup (xs.map V.str))/\H b=some (.tup (xs.map V.str))/\xs.length<=2000000/\Q (.bl true) H
noncomputable def qC6(n:Nat):Sp:=fun vs H Q _ => ∃(pc ps as:Addr)(e j:Nat)(v:V)(c:dZ)(bs:List (Int × Int))(ne:Nat)(s s' t:S4)(es:List En)(fs:Fs)(sv:List V)(p:List Nat),vs=[.ref pc,.ref ps,.int (e:Int),v,.ref as]/\ud.V2 H pc c bs ne/\ud.xZ c bs/\3<=n/\dH H ps s/\jO c s/\Jw c s.os s.ks/\s.l=[] ∧
 yc H v (es,j)/\HW c (e:Int) s es s'/\H as=some (.lst sv)/\Al (Gz H) sv (fs.map (·.1))/\fs[j]? = some (t,p)/\cG t=cG s'/\∀ H',aJ H H'->Q (.bl true) H'
noncomputable def qC5(n:Nat):Sp:=fun vs H Q _ => ∃(pc ps as:Addr)(v:V)(c:dZ)(bs:List (Int × Int))(ne N k:Nat)(s s0:S4)(p:List Nat)(fs:Fs)(ms:List (List En × Nat))(sv:List V),vs=[.ref pc,v,.ref ps,.ref as]/\ud.V2 H pc c bs ne/\ud.xZ c bs/\3<=n/\ne<=8/\bH c ne s0 (N * ne) fs ms/\fs.length=N/\N<=300/\pR c fs ∧
 fs[k]? = some (s,p)/\dW H v (rowAt c ne fs ms k)/\dH H ps s/\H as=some (.lst sv)/\Al (Gz H) sv (fs.map (·.1))/\∀ H',aJ H H'->Q (.bl true) H'
noncomputable def Y0:Sp:=fun vs H Q _ => ∃(pr:Addr)(rv:List V)(c:dZ)(ne N:Nat)(s0:S4)(fs:Fs)(ms:List (List En × Nat)),vs=[.ref pr]/\H pr=some (.lst rv)/\Al (dW H) rv (rowsOf c ne fs ms N)/\bH c ne s0 (N * ne) fs ms/\fs.length=N/\N<=300/\ne<=8/\Q (.bl true) H
noncomputable def Kp(n:Nat):Sp:=fun vs H Q _ => ∃(pc:Addr)(m:Nat)(c:dZ)(bs:List (Int × Int))(ne:Nat),vs=[.ref pc,.int (m:Int)]/\ud.V2 H pc c bs ne/\ud.xZ c bs/\3<=n/\1<=m/\m<=300/\ne<=8 ∧
 ∀(iI:List En)(s0:S4),V3 c bs iI s0->iI.length<=1000000 →
  (∀(N:Nat)(fs:Fs)(ms:List (List En × Nat))(t tw pr as:Addr)(rv sv:List V)(H':Hp),bH c ne s0 (N * ne) fs ms->fs.length=N->N<=m->pR c fs->H' t=some (.tup [.ref tw,.ref pr,.ref as])->H' tw=some (.tup ((bc iI).map V.str)) →
   H' pr=some (.lst rv)->Al (dW H') rv (rowsOf c ne fs ms N)->H' as=some (.lst sv)->Al (Gz H') sv (fs.map (·.1))->aJ H H'->H pr=none->H as=none->pr ≠ as->Q (.ref t) H') ∧
  (∀ H',Q .non H')
section
variable{P:Program}{w:World}{K:bO}{mg:Str->Option Value}{base:Heap}{C CT:Addr}
theorem vW:aH ["_law_found_here"] ["_law_found_here"] (aA Bd):=fO
theorem qCQ{f:Addr}{fd:FuncData}(F:cz K "_law_whole" "_law_whole" Bd f fd)(aq:mg "isinstance" = none)(Fz:mg "int" = none)(Zm:mg "bool" = none):aG P w K mg base aY 1 f fd ["_law_found_here"] qC4:=by
 refine F.ok vW (fun vs H Q E h=>?_) (fun cdv A outer s H vs Q E hr h=>?_)
 ·refine aK fun G_ g_=>?_
  obtain⟨n,rfl,_⟩:=h
  refine g_ ?_
  clear g_ G_
  rfl
 refine aK fun G_ g_=>?_
 obtain⟨n,rfl,q⟩:=h
 refine g_ ?_
 clear g_ G_
 refine⟨_,(zG (zO (Bo (zS bW rfl aq xg (zA (pv 0) (zA (gA (v:=.ty "int") rfl Fz PyProof.Rows.boot_int rfl) zD))) (wG (R6 (zS bW rfl aq xg (zA (pv 0) (zA (gA (v:=.ty "bool") rfl Zm PyProof.Rows.boot_bool rfl) zD)))))))),?_⟩
 refine⟨_,rfl,_,"int",_,true,rfl,.int n,Zw K,_,rfl,Q6 rfl ?_⟩
 exact⟨_,rfl,_,"bool",_,false,rfl,.int n,Zx K,_,rfl,q⟩
theorem Ba:aH ["_law_record"] ["_law_record"] (aA jl):=fO
theorem RN{f:Addr}{fd:FuncData}(F:cz K "_law_words" "_law_words" jl f fd)(aM:mg "tuple" = none):aG P w K mg base aY 1 f fd ["_law_record"] Ay:=by
 refine F.ok Ba (fun vs H Q E h=>?_) (fun cdv A outer s H vs Q E hr h=>?_)
 ·refine aK fun G_ g_=>?_
  obtain⟨pw,wv,es,rfl,_⟩:=h
  refine g_ ?_
  clear g_ G_
  rfl
 refine aK fun G_ g_=>?_
 obtain⟨pw,wv,es,rfl,Du,hA,le,q⟩:=h
 refine g_ ?_
 clear g_ G_
 refine⟨_,(zG (zO (yA zX rfl aM iT (zA (yT (aa:=[]) rfl (show bI (aA jl) ["_law_record"] _ _ _ from xO) (yM (pv 0)) (fun _ _ _ _ _ _=>dC (zL (r:=rEq) yG (yB (r:=fY K) zH (pv 0) zB (fun _ _=>rfl)) zP (zR _))) (fun _ _ _ _ _ _=>(yB (r:=fY K) zH (pv 0) zB (fun _ _=>rfl)))) zD)))),?_⟩
 refine⟨_,rfl,pw,rfl,⟨_,aQ.of Du⟩,?_⟩
 refine Ad Du hA le (fun a s' x' r' ha Zb hz=>?_) (fun a s' x' r' ha Zv hz=>?_) (fun pl hpl=>?_)
 ·exact⟨_,rfl,a,_,_,V.str s',rfl,rfl,aL.of ha,(yQ (j:=0) (v:=V.str s') rfl),(show Qj (V.str s') (V.str ("say" : Str))=true from rfl),_,rfl,hz⟩
 ·exact⟨_,rfl,aF (aL.of ha) ((yQ (j:=1) rfl)) hz⟩
 ·exact⟨pl,_,rfl,.inl ⟨aQ.of zC,fun p2 hp2=>q p2 _ ((zF hpl _).trans (zF hp2 _)) zC⟩⟩
theorem qj:aH ["_law_found_here","_law_due","_law_k"] ["_law_found_here","_law_due"] (aA oO):=fO
theorem RP{f:Addr}{fd:FuncData}(F:cz K "_law_texts" "_law_texts" oO f fd)(aP:mg "len" = none)(az:mg "range" = none)(aq:mg "isinstance" = none)(aM:mg "tuple" = none)(qD6:mg "str" = none):aG P w K mg base aY 1 f fd ["_law_found_here","_law_due"] ux:=by
 refine F.ok qj (fun vs H Q E h=>?_) (fun cdv A outer s H vs Q E hr h=>?_)
 ·refine aK fun G_ g_=>?_
  obtain⟨a,b,xs,rfl,_⟩:=h
  refine g_ ?_
  clear g_ G_
  rfl
 refine aK fun G_ g_=>?_
 obtain⟨a,b,xs,rfl,ha,hb,le,q⟩:=h
 refine g_ ?_
 clear g_ G_
 refine⟨_,(zE (yD (bQ (PW.pt (pw_or (dM (cH (zS bW rfl aq xg (zA (pv 0) (zA (gA (v:=.ty "tuple") rfl aM iT rfl) zD))))) (pw_or1 (zL mC (zS zN rfl aP bV (zA (pv 0) zD)) (zS zN rfl aP bV (zA (pv 1) zD)) (zR _))))))
  (zG (zO eE))
  zT)
  (zZ (cj PassesOwn.never rfl (cB rfl az (zA (zS zN rfl aP bV (zA (pv 1) zD)) zD)) (yJ (i:=2) qj.nd rfl (Or.inl rfl))
  (zG (yD (bQ (PW.pt (pw_or (dM (cH (zS bW rfl aq xg (zA (yB zH (pv 0) (pv 2) (fun _ _=>rfl)) (zA (gA (v:=.ty "str") rfl qD6 PyProof.Rows.boot_str rfl) zD))))) (pw_or1 (zL mC (yB zH (pv 0) (pv 2) (fun _ _=>rfl)) (yB zH (pv 1) (pv 2) (fun _ _=>rfl)) (zR _))))))
  (zG (zO eE))
  zT)))
  (zG (zO eE)))),?_⟩
 refine⟨fun c' H'=>H=H'/\c'=false,⟨_,rfl,_,"tuple",_,true,rfl,.tup ha,by rfl,_,rfl,lQ rfl ⟨_,rfl,fQ rfl (.inr (aL.of ha)) ⟨_,rfl,fQ rfl (.inr (aL.of hb)) ⟨rfl,_,rfl,rfl,by simp⟩⟩⟩⟩,?_⟩
 rintro c' _ ⟨rfl,rfl⟩
 refine lQ rfl ?_
 refine⟨fun σ' H'=>H=H',?_,?_⟩
 ·refine⟨_,rfl,fQ rfl (.inr (aL.of hb)) ⟨_,rfl,by lia,by rw[bZ];lia,?_⟩⟩
  refine cX (lo:=0) (fun i σ' H'=>H=H'/\∃ o:Option V,σ'=[some (.ref a),some (.ref b),o]) ⟨rfl,_,rfl⟩ ?_ (fun σ' H' z=>z.1)
  rintro i σ' _ hi aZ
  refine aK fun G_ g_=>?_
  obtain⟨rfl,o,rfl⟩:=aZ
  refine g_ ?_
  clear g_ G_
  rw[bZ]at hi
  have hi:i < xs.length:=by lia
  have ei:(xs.map V.str)[i]? = some (.str xs[i]):=by rw[cZ,fu hi];rfl
  have hat:sY (xs.map V.str) (0+(i:Int))=some (.str xs[i]):=by rw[Int.zero_add];exact yQ ei
  refine⟨fun c' H'=>H=H'/\c'=false,⟨_,rfl,_,rfl,aF (aL.of ha) hat ⟨_,"str",_,true,rfl,.str _,by rfl,_,rfl,lQ rfl ⟨_,rfl,_,rfl,aF (aL.of ha) hat ⟨_,rfl,_,rfl,aF (aL.of hb) hat ⟨rfl,_,rfl,rfl,by simp⟩⟩⟩⟩⟩,?_⟩
  rintro c' _ ⟨rfl,rfl⟩
  exact lQ rfl ⟨rfl,_,rfl⟩
 ·rintro _ _ rfl
  exact q
theorem uN:aH ["_law_chart_here","_law_stand","_law_event","_law_move_here","_law_stands","_law_run"] ["_law_chart_here","_law_stand","_law_event","_law_move_here","_law_stands"] (aA qu):=fO
theorem qCS{n m':Nat}{f g1 g2 g3 g4:Addr}{fd d1 d2 d3 d4:FuncData}(F:cz K "_law_move" "_law_move" qu f fd)
  (Ul:aG P w K mg base aY m' g1 d1 ["_law_found_here"] qC4) (Ua:Binds K d1 ["_law_found_here"] []) (SX:KI K g1) (Rx:mg "_law_whole" = some (.ref g1))
  (Dn:aG P w K mg base aY m' g2 d2 ["chart","stand","event"] (BV n)) (De:Binds K d2 ["chart","stand","event"] []) (Ce:KI K g2) (CK:mg "after" = some (.ref g2))
  (oJ:aG P w K mg base aY m' g3 d3 ["_law_found_here","_law_due"] ux) (oA:Binds K d3 ["_law_found_here","_law_due"] []) (nZ:KI K g3) (nR:mg "_law_texts" = some (.ref g3))
  (xV:aG P w K mg base aY m' g4 d4 ["_law_record"] Ay) (xQ:Binds K d4 ["_law_record"] []) (wX:KI K g4) (wM:mg "_law_words" = some (.ref g4))
  (aP:mg "len" = none) (aq:mg "isinstance" = none) (aM:mg "tuple" = none):aG P w K mg base aY (m'+1) f fd ["_law_chart_here","_law_stand","_law_event","_law_move_here","_law_stands"] (qC6 n):=by
 refine F.ok uN (fun vs H Q E h=>?_) (fun cdv A outer s H vs Q E hr h=>?_)
 ·refine aK fun G_ g_=>?_
  obtain⟨pc,ps,as,e,j,v,c,bs,ne,s,s',t,es,fs,sv,p,rfl,_⟩:=h
  refine g_ ?_
  clear g_ G_
  rfl
 refine aK fun G_ g_=>?_
 obtain⟨pc,ps,as,e,j,v,c,bs,ne,s,s',t,es,fs,sv,p,rfl,hX,ok,n3,hS,so,js,l0,⟨a,aw,rfl,ha,haw⟩,AR,has,hA,hj,hk,q⟩:=h
 refine g_ ?_
 clear g_ G_
 refine⟨_,(zE (yD (bQ (PW.pt (pw_or (dM (cH (zS bW rfl aq xg (zA (pv 3) (zA (gA (v:=.ty "tuple") rfl aM iT rfl) zD))))) (pw_or1 (zL mC (zS zN rfl aP bV (zA (pv 3) zD)) zB (zR _))))))
  (zG (zO eE))
  zT)
  (zE (yD (bQ (PW.pt (pw_or (dM (cH (zJ Ul hr rfl Rx SX Ua .nil yE (zA (yB zH (pv 3) zB (fun _ _=>rfl)) zD)))) (pw_or1 (dM (Qz RJ nJ zB (yB zH (pv 3) zB (fun _ _=>rfl)) (zS zN rfl aP bV (zA (pv 4) zD))))))))
  (zG (zO eE))
  zT)
  (zE (zK (i:=5) uN.nd rfl (Or.inl rfl) (zJ Dn hr rfl CK Ce De .nil yE (zA (pv 0) (zA (pv 1) (zA (pv 2) zD)))))
  (zG (zO (q9 (Bo (zJ oJ hr rfl nR nZ oA .nil yE (zA (yB zH (pv 3) zB (fun _ _=>rfl)) (zA (zJ xV hr rfl wM wX xQ .nil yE (zA (yB zH (pv 5) zB (fun _ _=>rfl)) zD)) zD))) (wG (iG (WK hr.units) (yB yU (pv 4) (yB zH (pv 3) zB (fun _ _=>rfl)) (fun _ _=>rfl)) (yB zH (pv 5) zB (fun _ _=>rfl)) (zR _)))))))))),?_⟩
 have alc:All c (Jw c) n:=⟨ok.ok,wide ok.ok,fun d hd=>⟨(ok.g d hd).1,Nat.le_trans (ok.g d hd).2 n3⟩⟩
 have Xz:c.tn<=20:=by have:=ok.t4;lia
 have lA:=hA.length
 rw[bZ]at lA
 have hjl:=(mH.mp hj).1
 refine⟨fun c' H'=>H=H'/\c'=false,⟨_,rfl,_,"tuple",_,true,rfl,.tup ha,by rfl,_,rfl,lQ rfl ⟨_,rfl,fQ rfl (.inr (aL.of ha)) ⟨rfl,_,rfl,rfl,rfl⟩⟩⟩,?_⟩
 rintro c' _ ⟨rfl,rfl⟩
 refine lQ rfl ?_
 refine⟨fun c' H'=>H=H'/\c'=false,⟨_,rfl,a,_,_,V.int (j:Int),rfl,rfl,aL.of ha,rfl,(j:Int),rfl,_,rfl,lQ rfl ⟨_,rfl,a,_,_,V.int (j:Int),rfl,rfl,aL.of ha,rfl,0,(j:Int),(sv.length:Int),rfl,rfl,⟨_,rfl,as,sv,rfl,.inl (aQ.of has),rfl,rfl⟩,_,rfl,rfl,?_⟩⟩,?_⟩
 ·show (!(decide ((0:Int)<=(j:Int)) && decide ((j:Int) < (sv.length:Int))))=false
  rw[decide_eq_true (show (0:Int)<=(j:Int) by lia),decide_eq_true (show (j:Int) < (sv.length:Int) by lia)]
  rfl
 rintro c' _ ⟨rfl,rfl⟩
 refine lQ rfl ?_
 refine⟨_,rfl,_,rfl,_,rfl,pc,ps,c,(e:Int),s,rfl,hX.ch ok,alc,hS,so,js,l0,Xz,fun tt ps' pw wv es2 s2 H3 AR2 j' so' s3 ht hS' Du npw hW lw=>?_⟩
 obtain⟨rfl,rfl⟩:=Ml AR AR2
 have lW:=hW.length
 refine⟨fun v H'=>v = .bl true/\aJ H H',?_,?_⟩
 ·refine⟨_,rfl,a,_,_,V.ref aw,rfl,rfl,aL.of (s3 _ _ ha),rfl,_,rfl,tt,_,_,V.ref pw,rfl,rfl,aL.of ht,rfl,pw,wv,es,rfl,Du,hW,by lia,fun tw H4 s4 htw=>?_⟩
  have ls:(bc es).length<=es.length:=List.length_filterMap_le _ _
  have s34:=s3.trans s4
  refine⟨aw,tw,bc es,rfl,s34 _ _ haw,htw,by lia,_,rfl,Q6 rfl ?_⟩
  refine aK fun G_ g_=>?_
  obtain⟨v,hv,at_,rfl,hat⟩:=hA.get (k:=j) (r:=t) (by rw[cZ,hj];rfl)
  obtain⟨xs,ys,e1,e2,e3,e4⟩:=vV (K:=K) (hat.mono (aB.of s34)) (hS'.mono (aB.of s4)) hk
  refine g_ ?_
  clear g_ G_
  exact⟨_,rfl,_,rfl,a,_,_,V.int (j:Int),rfl,rfl,aL.of (s34 _ _ ha),rfl,cC (aQ.of (s34 _ _ has)) (yQ hv) ⟨_,rfl,tt,_,_,V.ref ps',rfl,rfl,aL.of (s4 _ _ ht),rfl,at_,ps',xs,ys,2,rfl,rfl,aL.of e1,aL.of e2,e3,e4,by decide,rfl,s34⟩⟩
 ·rintro _ H5 ⟨rfl,s5⟩
  exact q H5 s5
noncomputable def bB(rs:List Rm)(os:List Nat):List Str:=os.map fun o=>(rs.map (·.wW)).getD o ("" : Str)
theorem GQ(rs:List Rm)(os:List Nat):dG rs os=(bB rs os).filter fun z => !decide (z=("" : Str)):=rfl
theorem yX{rs:List Rm}{os:List Nat}{i o:Nat}{r:Rm}(h:os[i]? = some o)(hr:rs[o]? = some r):bB rs (os.take (i+1))=bB rs (os.take i)++[r.wW]:=by
 unfold bB
 rw[jN,h,kI]
 congr 1
 show [(rs.map (·.wW)).getD o ("" : Str)]=_
 rw[kW,cZ,hr]
 rfl
theorem pZ:aH ["_law_chart_here","_law_row_here","_law_stand","_law_stands","_law_due","_law_event"] ["_law_chart_here","_law_row_here","_law_stand","_law_stands"] (aA Mz):=fO
theorem qCR{n m':Nat}{f g1 g2:Addr}{fd d1 d2:FuncData}(F:cz K "_law_row" "_law_row" Mz f fd)
  (oJ:aG P w K mg base aY m' g1 d1 ["_law_found_here","_law_due"] ux) (oA:Binds K d1 ["_law_found_here","_law_due"] []) (nZ:KI K g1) (nR:mg "_law_texts" = some (.ref g1))
  (Xl:aG P w K mg base aY m' g2 d2 ["_law_chart_here","_law_stand","_law_event","_law_move_here","_law_stands"] (qC6 n)) (Xa:Binds K d2 ["_law_chart_here","_law_stand","_law_event","_law_move_here","_law_stands"] []) (Wq:KI K g2) (Wk:mg "_law_move" = some (.ref g2))
  (aP:mg "len" = none) (az:mg "range" = none) (aq:mg "isinstance" = none) (aM:mg "tuple" = none):aG P w K mg base aY (m'+1) f fd ["_law_chart_here","_law_row_here","_law_stand","_law_stands"] (qC5 n):=by
 refine F.ok pZ (fun vs H Q E h=>?_) (fun cdv A outer s H vs Q E hr h=>?_)
 ·refine aK fun G_ g_=>?_
  obtain⟨pc,ps,as,v,c,bs,ne,N,k,s,s0,p,fs,ms,sv,rfl,_⟩:=h
  refine g_ ?_
  clear g_ G_
  rfl
 refine aK fun G_ g_=>?_
 obtain⟨pc,ps,as,v,c,bs,ne,N,k,s,s0,p,fs,ms,sv,rfl,hX,ok,n3,V8,FR,fl,qIE,Xg,hk,⟨a,al,am,mv,rfl,ha,hal,ham,hM⟩,hS,has,hA,q⟩:=h
 refine g_ ?_
 clear g_ G_
 refine⟨_,(zE (yD (bQ (PW.pt (pw_or (dM (cH (zS bW rfl aq xg (zA (pv 1) (zA (gA (v:=.ty "tuple") rfl aM iT rfl) zD))))) (pw_or (zL mC (zS zN rfl aP bV (zA (pv 1) zD)) zB (zR _)) (pw_or1 (dM (cH (zS bW rfl aq xg (zA (yB zH (pv 1) zB (fun _ _=>rfl)) (zA (gA (v:=.ty "tuple") rfl aM iT rfl) zD))))))))))
  (zG (zO eE))
  zT)
  (zE (vA (i:=4) (aa:=[(0,"_law_chart_here")]) rfl pZ.nd rfl (Or.inl rfl) (show bI (aA Mz) ["_law_chart_here","_law_row_here","_law_stand","_law_stands","_law_due","_law_event"] _ _ _ from xO) (nF (yB zH (pv 2) zB (fun _ _=>rfl))) (fun _ _ _ _ _ _=>cR) (fun _ _ _ _ _ _=>(yB (r:=fY K) zH (yB (r:=fY K) zH (yB (r:=fY K) zH (pv 1) zB (fun _ _=>rfl)) (pv 0) (fun _ _=>rfl)) zB (fun _ _=>rfl))))
  (zE (yD (bQ (PW.pt (pw_or (dM (cH (zJ oJ hr rfl nR nZ oA .nil yE (zA (yB zH (pv 1) zB (fun _ _=>rfl)) (zA (yA zX rfl aM iT (zA (yT (aa:=[]) rfl (show bI (aA Mz) ["_law_chart_here","_law_row_here","_law_stand","_law_stands","_law_due","_law_event"] _ _ _ from xO) (yM (pv 4)) (fun _ _ _ _ _ _=>dC (zL mC (pv 0) zP (zR _))) (fun _ _ _ _ _ _=>(pv 0))) zD)) zD))))) (pw_or1 (zL mC (zS zN rfl aP bV (zA (yB zH (pv 1) zB (fun _ _=>rfl)) zD)) (zS zN rfl aP bV (zA (yB zH (pv 0) zB (fun _ _=>rfl)) zD)) (zR _))))))
  (zG (zO eE))
  zT)
  (zZ (cj PassesOwn.never rfl (cB rfl az (zA (zS zN rfl aP bV (zA (yB zH (pv 0) zB (fun _ _=>rfl)) zD)) zD)) (yJ (i:=5) pZ.nd rfl (Or.inl rfl))
  (zG (yD (dM (cH (zJ Xl hr rfl Wk Wq Xa .nil yE (zA (pv 0) (zA (pv 2) (zA (pv 5) (zA (yB zH (yB zH (pv 1) zB (fun _ _=>rfl)) (pv 5) (fun _ _=>rfl)) (zA (pv 3) zD))))))))
  (zG (zO eE))
  zT)))
  (zG (zO eE)))))),?_⟩
 refine aK fun G_ g_=>?_
 obtain⟨pb,pn,t0,pd0,bv,nv,V5,dv0,h1,h2,h3,h4,h5,h6,h7,h8,h9,h10⟩:=id hX
 refine g_ ?_
 clear g_ G_
 have hR:cV H t0 c.rs:=⟨V5,h6,h7⟩
 have hkN:=(mH.mp hk).1
 have RM:=Xg _ (Mq hk)
 have l0:=vG FR _ (Mq hk)
 simp only at RM l0
 refine aK fun G_ g_=>?_
 obtain⟨po,V6,pk,kv,g1,g2,g3,g4,g5⟩:=id hS
 refine g_ ?_
 clear g_ G_
 have r40:=ok.ok.r40
 have Q4:=RM.1.Q4
 have lmm:mv.length=ne:=by
  rw[hM.length]
  show ((ms.drop (k * ne)).take ne).length=ne
  rw[gG,List.length_drop,j9 FR]
  have:(k+1) * ne<=N * ne:=Nat.mul_le_mul_right _ (by lia)
  rw[Nat.add_mul,Nat.one_mul]at this
  lia
 have e1:(rowAt c ne fs ms k).1=dG c.rs s.os:=by
  unfold rowAt
  rw[hk]
  rfl
 rw[e1]at hal
 refine⟨fun c' H'=>H=H'/\c'=false,⟨_,rfl,_,"tuple",_,true,rfl,.tup ha,by rfl,_,rfl,lQ rfl ⟨_,rfl,fQ rfl (.inr (aL.of ha)) ⟨rfl,_,rfl,lQ rfl ⟨_,rfl,a,_,_,V.ref am,rfl,rfl,aL.of ha,rfl,_,"tuple",_,true,rfl,.tup ham,by rfl,_,rfl,rfl,rfl⟩⟩⟩⟩,?_⟩
 rintro c' _ ⟨rfl,rfl⟩
 refine lQ rfl ?_
 refine⟨_,rfl,ps,_,_,V.ref po,rfl,rfl,aL.of g1,rfl,po,rfl,⟨_,aL.of g2⟩,?_⟩
 refine jx (K:=K) (a:=po) (xs:=aC s.os) (fun i acc H'=>H'=H/\acc=(bB c.rs (s.os.take i)).map V.str) ⟨rfl,rfl⟩ (fun i acc H' ⟨e,_⟩=>by subst e;exact aL.of g2) (fun i x acc H' hx ⟨e1,e2⟩=>?_) (fun acc H' ⟨e1,e2⟩ pl hpl=>?_)
 ·subst e1 e2
  have hi:i < s.os.length:=by
   have:=(mH.mp hx).1
   rw[zU]at this
   exact this
  have eo:=fu hi
  obtain rfl:x = .int ((s.os[i]:Nat):Int):=by
   unfold aC at hx
   rw[cZ,eo]at hx
   exact (kJ hx).symm
  refine aK fun G_ g_=>?_
  obtain⟨vs,ar,r,ht,hl,hr0,hat,har⟩:=hR.at (RM.1.lt _ (kO hi))
  refine g_ ?_
  clear g_ G_
  have sc:=yX eo hr0
  refine⟨_,rfl,pc,_,_,V.ref t0,rfl,rfl,aL.of h1,rfl,_,rfl,t0,vs,_,_,rfl,rfl,aL.of ht,hat,aF (aL.of har) rfl ⟨zV (by unfold bB;rw[bZ,bZ,gG];lia),rfl,?_⟩⟩
  rw[sc,kI]
  rfl
 subst e1 e2
 rw[uw (by rw[zU];exact bT _)]
 have s1:=zF hpl (.lst ((bB c.rs s.os).map V.str))
 have i1:upd H' pl (.lst ((bB c.rs s.os).map V.str)) pl=some (.lst ((bB c.rs s.os).map V.str)):=zC
 generalize upd H' pl (.lst ((bB c.rs s.os).map V.str))=H1 at s1 i1 ⊢
 refine⟨fun c' H2=>aJ H1 H2/\c'=false,?_,?_⟩
 ·refine⟨_,rfl,a,_,_,V.ref al,rfl,rfl,aL.of (s1 _ _ ha),rfl,_,rfl,pl,rfl,⟨_,aQ.of i1⟩,?_⟩
  have lla:(bB c.rs s.os).length<=40:=by unfold bB;rw[bZ];exact Q4
  refine yS (K:=K) (a:=pl) (xs:=(bB c.rs s.os).map V.str) (fun i acc H'=>H'=H1/\acc=(((bB c.rs s.os).take i).filter fun z => !decide (z=("" : Str))).map V.str) ⟨rfl,rfl⟩ (fun i acc H' ⟨e,_⟩=>by subst e;exact aQ.of i1) (fun i x acc H' hx ⟨e1,e2⟩=>?_) (fun acc H2 ⟨e1,e2⟩ p2 hp2=>?_)
  ·subst e1 e2
   have hi:i < (bB c.rs s.os).length:=by
    have:=(mH.mp hx).1
    rw[bZ]at this
    exact this
   have eo:=fu hi
   rw[cZ,eo]at hx
   obtain rfl:=(kJ hx).symm
   have sc:((bB c.rs s.os).take (i+1)).filter (fun z => !decide (z=("" : Str)))=((bB c.rs s.os).take i).filter (fun z => !decide (z=("" : Str)))++(if (!decide ((bB c.rs s.os)[i]=("" : Str)))=true then [(bB c.rs s.os)[i]] else []):=by
    rw[jN,eo,List.filter_append]
    congr 1
    show [(bB c.rs s.os)[i]].filter _=_
    rw[List.filter_cons]
    split <;> rfl
   refine⟨_,rfl,rfl,_,rfl,fV (fun cc=>?_) (fun cc=>?_)⟩
   ·rw[XD]at cc
    rw[if_pos cc]at sc
    refine⟨_,rfl,zV ?_,rfl,?_⟩
    ·rw[bZ]
     have:=qe (fun z => !decide (z=("" : Str))) ((bB c.rs s.os).take i)
     rw[gG]at this
     lia
    ·rw[sc,kI]
     rfl
   ·rw[XD]at cc
    rw[if_neg (by rw[cc];decide),gF]at sc
    exact⟨rfl,by rw[sc]⟩
  subst e1 e2
  rw[uw (by rw[bZ];exact bT _),<-GQ]
  refine⟨p2,_,rfl,.inl ⟨aQ.of zC,fun p3 hp3=>?_⟩⟩
  have s3:=(zF hp2 (.lst ((dG c.rs s.os).map V.str))).trans (zF hp3 (.tup ((dG c.rs s.os).map V.str)))
  have sX:=s1.trans s3
  have ll:=uU c.rs s.os
  refine⟨al,p3,dG c.rs s.os,rfl,sX _ _ hal,zC,by lia,_,rfl,lQ rfl ?_⟩
  refine⟨_,rfl,a,_,_,V.ref am,rfl,rfl,aL.of (sX _ _ ha),rfl,fQ rfl (.inr (aL.of (sX _ _ ham))) ⟨_,rfl,aF (aL.of (sX _ _ h1)) rfl (fQ rfl (.inr (aL.of (sX _ _ h4))) ⟨rfl,_,rfl,s3,?_⟩)⟩⟩
  rw[lmm,h5]
  simp
 rintro c' H2 ⟨s2,rfl⟩
 refine lQ rfl ?_
 have s12:=s1.trans s2
 refine⟨fun σ' H3=>aJ H' H3,?_,?_⟩
 ·refine⟨_,rfl,aF (aL.of (s12 _ _ h1)) rfl (fQ rfl (.inr (aL.of (s12 _ _ h4))) ⟨_,rfl,?_⟩)⟩
  rw[h5]
  refine⟨by lia,by lia,?_⟩
  refine cX (lo:=0) (n:=ne) (fun i σ' H3=>aJ H' H3/\∃ o:Option V,σ'=[some (.ref pc),some (.ref a),some (.ref ps),some (.ref as),some (.ref pl),o]) ⟨s12,_,rfl⟩ ?_ (fun σ' H' z=>z.1)
  rintro e σ' H3 he aZ
  refine aK fun G_ g_=>?_
  obtain⟨Hd,o,rfl⟩:=aZ
  have hcell:k * ne+e < N * ne:=by
   have:(k+1) * ne<=N * ne:=Nat.mul_le_mul_right _ (by lia)
   rw[Nat.add_mul,Nat.one_mul]at this
   lia
  obtain⟨Vn,p1',es1,Z3,j,f1,f2,f3,f4⟩:=Oo FR _ hcell
  refine g_ ?_
  clear g_ G_
  rw[show (k * ne+e) / ne=k by rw[Nat.mul_comm,Nat.mul_add_div (by lia),Nat.div_eq_of_lt he,Nat.add_zero],hk]at f1
  rw[show (k * ne+e) % ne=e by rw[Nat.mul_comm,Nat.mul_add_mod,Nat.mod_eq_of_lt he]]at f2
  cases f1
  refine aK fun G_ g_=>?_
  obtain⟨t,pt,f5,f6⟩:=wB f4
  have hkey:cG t=cG Z3:=by
   have:cG (nl t)=cG (nl Z3):=by rw[f6]
   exact this
  obtain⟨v,hv,hmv⟩:=hM.get (k:=e) (r:=(es1,j)) (by show ((ms.drop (k * ne)).take ne)[e]? = _;rw[Mh he];exact f3)
  refine g_ ?_
  clear g_ G_
  refine⟨_,rfl,_,rfl,_,rfl,_,rfl,a,_,_,V.ref am,rfl,rfl,aL.of (Hd _ _ ha),rfl,_,rfl,aF (aL.of (Hd _ _ ham)) ((by rw[Int.zero_add];exact yQ hv)) ⟨_,rfl,pc,ps,as,e,j,v,c,bs,ne,s,Z3,t,es1,fs,sv,pt,(by rw[Int.zero_add];rfl),hX.mono (aB.of Hd),ok,n3,hS.mono (aB.of Hd),RM.1,RM.2,l0,hmv.mono (aB.of Hd),f2,Hd _ _ has,hA.mono (fun _ _ z=>z.mono (aB.of Hd)),f5,hkey,fun H4 s4=>?_⟩⟩
  exact⟨_,rfl,lQ rfl ⟨Hd.trans s4,_,rfl⟩⟩
 ·rintro _ H3 s3
  exact q H3 s3
theorem dB:aH ["_law_rows","_law_told","_law_k","_law_move_here"] ["_law_rows"] (aA jQ):=fO
theorem ZQ{f:Addr}{fd:FuncData}(F:cz K "_law_ordered" "_law_ordered" jQ f fd)(aP:mg "len" = none)(az:mg "range" = none):aG P w K mg base aY 1 f fd ["_law_rows"] Y0:=by
 refine F.ok dB (fun vs H Q E h=>?_) (fun cdv A outer s H vs Q E hr h=>?_)
 ·refine aK fun G_ g_=>?_
  obtain⟨pr,rv,c,ne,N,s0,fs,ms,rfl,_⟩:=h
  refine g_ ?_
  clear g_ G_
  rfl
 refine aK fun G_ g_=>?_
 obtain⟨pr,rv,c,ne,N,s0,fs,ms,rfl,hpr,hA,FR,fl,qIE,V8,q⟩:=h
 refine g_ ?_
 clear g_ G_
 refine⟨_,(zE (zK (i:=1) dB.nd rfl (Or.inl rfl) zB)
  (zZ (cj PassesOwn.never rfl (cB rfl az (zA (zS zN rfl aP bV (zA (pv 0) zD)) zD)) (yJ (i:=2) dB.nd rfl (Or.inl rfl))
  (zE (yD (zL RK (pv 2) (pv 1) (zR _))
  (zG (zO eE))
  zT)
  (zG (cj PassesOwn.never rfl (nF (yB zH (yB yU (pv 0) (pv 2) (fun _ _=>rfl)) zB (fun _ _=>rfl))) (yJ (i:=3) dB.nd rfl (Or.inl rfl))
  (zE (yD (zL gM (yB zH (pv 3) zB (fun _ _=>rfl)) (pv 1) (zR _))
  (zG (zO eE))
  zT)
  (zG (yD (zL yG (yB zH (pv 3) zB (fun _ _=>rfl)) (pv 1) (zR _))
  (zG (zK (i:=1) dB.nd rfl (Or.inl rfl) (yC yF (pv 1) zB)))
  zT)))))))
  (zG (zO (iG yG (pv 1) (zS zN rfl aP bV (zA (pv 0) zD)) (zR _)))))),?_⟩
 have lA:rv.length=N:=by
  rw[hA.length]
  unfold rowsOf
  rw[bZ,List.length_range]
 refine⟨fun σ' H'=>H=H'/\∃ o2 o3:Option V,σ'=[some (.ref pr),some (.int (N:Int)),o2,o3],?_,?_⟩
 ·refine⟨_,rfl,fQ rfl (.inl (aQ.of hpr)) ⟨_,rfl,by lia,by lia,?_⟩⟩
  refine cX (lo:=0) (fun k σ' H'=>H=H'/\∃(fs':Fs)(rM:List (List En × Nat))(o2 o3:Option V),σ'=[some (.ref pr),some (.int (fs'.length:Int)),o2,o3]/\bH c ne s0 (k * ne) fs' rM)
   ⟨rfl,[(nl s0,[])],[],_,_,rfl,by rw[Nat.zero_mul];exact .nil⟩ ?_ ?_
  ·rintro k σ' _ hk aZ
   refine aK fun G_ g_=>?_
   obtain⟨rfl,fs',rM,o2,o3,rfl,FR'⟩:=aZ
   refine g_ ?_
   clear g_ G_
   have hkN:k < N:=by lia
   have hin:=X6 FR fl FR' hkN
   refine⟨_,rfl,_,rfl,bA ⟨_,rfl,lQ (decide_eq_false (by show ¬ ((fs'.length:Int)<=0+(k:Int));lia)) ?_⟩⟩
   refine aK fun G_ g_=>?_
   obtain⟨v,hv,a,al,am,mv,rfl,ha,hal,ham,hM⟩:=hA.get (k:=k) (r:=rowAt c ne fs ms k) (by unfold rowsOf;rw[cZ,qB9 hkN];rfl)
   refine g_ ?_
   clear g_ G_
   have hat:sY rv (0+(k:Int))=some (.ref a):=by rw[Int.zero_add];exact yQ hv
   have lmm:mv.length=ne:=by
    rw[hM.length]
    show ((ms.drop (k * ne)).take ne).length=ne
    rw[gG,List.length_drop,j9 FR]
    have:(k+1) * ne<=N * ne:=Nat.mul_le_mul_right _ (by lia)
    rw[Nat.add_mul,Nat.one_mul]at this
    lia
   refine⟨_,rfl,_,rfl,cC (aQ.of hpr) hat ⟨a,_,_,V.ref am,rfl,rfl,aL.of ha,rfl,am,rfl,⟨_,aL.of ham⟩,?_⟩⟩
   refine M4 (K:=K) (a:=am) (xs:=mv) (fun e σ2 H'=>H=H'/\∃(jt:Fs)(rK:List (List En × Nat))(o3:Option V),σ2=[some (.ref pr),some (.int (jt.length:Int)),some (.int (0+(k:Int))),o3]/\bH c ne s0 (k * ne+e) jt rK)
    ⟨rfl,fs',rM,_,rfl,FR'⟩ (fun i σ' H' _ ⟨e,_⟩=>by rw[<-e];exact aL.of ham) ?_ ?_
   ·rintro e x σ2 _ hx aZ
    refine aK fun G_ g_=>?_
    obtain⟨rfl,jt,rK,o3,rfl,Uv⟩:=aZ
    have he:e < ne:=by
     have:=(mH.mp hx).1
     lia
    have hcell:k * ne+e < N * ne:=by
     have:(k+1) * ne<=N * ne:=Nat.mul_le_mul_right _ (by lia)
     rw[Nat.add_mul,Nat.one_mul]at this
     lia
    obtain⟨es,j,fs3,ms3,hm,Yj,hj⟩:=Oj FR Uv hcell
    obtain⟨v,hv',b,bw,rfl,hb,hbw⟩:=hM.get (k:=e) (r:=(es,j)) (by show ((ms.drop (k * ne)).take ne)[e]? = _;rw[Mh he];exact hm)
    refine g_ ?_
    clear g_ G_
    rw[hv']at hx
    obtain rfl:=kJ hx
    refine⟨_,rfl,b,_,_,V.int (j:Int),rfl,rfl,aL.of hb,rfl,_,rfl,bA ⟨_,rfl,lQ (decide_eq_false (by show ¬ ((jt.length:Int) < (j:Int));lia)) ?_⟩⟩
    refine⟨_,rfl,b,_,_,V.int (j:Int),rfl,rfl,aL.of hb,rfl,_,rfl,rfl,_,rfl,fV (fun z=>?_) (fun z=>?_)⟩
    ·have z:V.int (j:Int)=V.int (jt.length:Int):=of_decide_eq_true z
     have z:(j:Int)=jt.length:=V.int.inj z
     have:fs3.length=jt.length+1:=by lia
     refine⟨_,rfl,bA ⟨rfl,fs3,ms3,some (.ref b),?_,Yj⟩⟩
     rw[this]
     rfl
    ·have z:V.int (j:Int) ≠ V.int (jt.length:Int):=of_decide_eq_false z
     have z:j ≠ jt.length:=fun y=>z (by rw[y])
     have:fs3.length=jt.length:=by lia
     exact⟨rfl,fs3,ms3,some (.ref b),by rw[this];rfl,Yj⟩
   ·rintro σ2 _ aZ
    refine aK fun G_ g_=>?_
    obtain⟨rfl,jt,rK,o3,rfl,Uv⟩:=aZ
    refine g_ ?_
    clear g_ G_
    rw[lmm]at Uv
    exact⟨rfl,jt,rK,_,_,rfl,by rw[Nat.add_mul,Nat.one_mul];exact Uv⟩
  ·rintro σ' _ aZ
   refine aK fun G_ g_=>?_
   obtain⟨rfl,fs',rM,o2,o3,rfl,FR'⟩:=aZ
   refine g_ ?_
   clear g_ G_
   rw[show (rv.length:Int).toNat=N by lia]at FR'
   obtain⟨rfl,rfl⟩:=gO FR FR'
   exact⟨rfl,_,_,by rw[fl]⟩
 ·rintro _ _ aZ
  refine aK fun G_ g_=>?_
  obtain⟨rfl,o2,o3,rfl⟩:=aZ
  refine g_ ?_
  clear g_ G_
  refine⟨_,rfl,_,rfl,fQ rfl (.inl (aQ.of hpr)) ⟨rfl,?_⟩⟩
  rw[lA,decide_eq_true rfl]
  exact q
theorem ql:aH ["_law_chart_here","_law_most","_law_found_here"] ["_law_chart_here","_law_most"] (aA oR):=fO
theorem Ra{n m':Nat}{f g1:Addr}{fd d1:FuncData}(F:cz K "_law_found" "_law_found" oR f fd)
  (KQ:aG P w K mg base (qY P w) m' g1 d1 ["chart","most"] (Hy CT n)) (K1:Binds K d1 ["chart","most"] []) (k_flat:KI K g1) (JR:mg "flat" = some (.ref g1))
  (tV:mg "TooWide" = some (.ref CT)) (Mr:PySem.W.exmOne K (.ref CT) (.ref CT)=some true):aG P w K mg base aY (m'+1) f fd ["_law_chart_here","_law_most"] (Kp n):=by
 refine F.ok ql (fun vs H Q E h=>?_) (fun cdv A outer s H vs Q E hr h=>?_)
 ·refine aK fun G_ g_=>?_
  obtain⟨pc,m,c,bs,ne,rfl,_⟩:=h
  refine g_ ?_
  clear g_ G_
  rfl
 refine aK fun G_ g_=>?_
 obtain⟨pc,m,c,bs,ne,rfl,hX,ok,n3,m1,qDB,V8,q⟩:=h
 refine g_ ?_
 clear g_ G_
 refine⟨_,(zE (Vt (Vs (i:=2) ql.nd rfl (Or.inl rfl) (R4 KQ hr rfl JR k_flat K1 .nil (zA (pv 0) (zA (pv 1) zD)))) rfl tV
   (fun _=>(zG (zO jX)))
  zT)
  (zG (zO (pv 2)))),?_⟩
 refine⟨_,rfl,_,rfl,pc,m,c,bs,ne,rfl,hX,ok,n3,m1,qDB,V8,fun iI s0 BR le0=>⟨fun N fs ms t tw pr as rv sv H' a1 a2 a3 a4 a5 a6 a7 a8 a9 a10 a11 a12 a13 a14=>?_,fun i fs ms FR fl dx pl pv H2 st z1 z2 z3 z4 z5=>⟨Mr,?_⟩⟩⟩
 ·exact⟨_,rfl,(q iI s0 BR le0).1 N fs ms t tw pr as rv sv H' a1 a2 a3 a4 a5 a6 a7 a8 a9 a10 a11 a12 a13 a14⟩
 ·exact (q iI s0 BR le0).2 H2
end
section
variable{K:bO}{H:Hp}
theorem qFF{x y:V}{m:List En × Nat}(h:yc H x m)(h':yc H y m):Dq K H 2 x y:=by
 obtain⟨a,aw,rfl,h1,h2⟩:=h
 obtain⟨b,bw,rfl,h1',h2'⟩:=h'
 refine .tup (aL.of h1) (aL.of h1') rfl fun j x y hx hy=>?_
 match j,hx,hy with
 | 0,hx,hy=>cases hx;cases hy;exact M7 h2 h2'
 | 1,hx,hy=>cases hx;cases hy;exact .flat rfl
 | j+2,hx,hy=>cases hx
theorem qAP{x y:V}{m:List Str × List (List En × Nat)}(h:dW H x m)(h':dW H y m):Dq K H 4 x y:=by
 obtain⟨a,al,am,mv,rfl,h1,h2,h3,h4⟩:=h
 obtain⟨b,bl,bm,mv',rfl,h1',h2',h3',h4'⟩:=h'
 refine .tup (aL.of h1) (aL.of h1') rfl fun j x y hx hy=>?_
 match j,hx,hy with
 | 0,hx,hy=>cases hx;cases hy;exact (M7 h2 h2').up (by decide)
 | 1,hx,hy=>
  cases hx
  cases hy
  refine .tup (aL.of h3) (aL.of h3') (by rw[h4.length,h4'.length]) fun j x y hx hy=>?_
  have l1:=(mH.mp hx).1
  have e:=fu (l:=m.2) (i:=j) (by rw[<-h4.length];exact l1)
  obtain⟨v,hv,z⟩:=h4.get e
  obtain⟨v',hv',z'⟩:=h4'.get e
  rw[hv]at hx
  rw[hv']at hy
  cases hx
  cases hy
  exact qFF z z'
 | j+2,hx,hy=>cases hx
end
noncomputable def Qa(K:bO):Sp:=fun vs H Q _ => ∃(a:Addr)(ns:List Int),vs=[.ref a]/\aQ K H a (ns.map V.int)/\ns.length<=63/\∀ H',Q (.bl true) H'
section
variable{P:Program}{w:World}{K:bO}{mg:Str->Option Value}{base:Heap}{C CT:Addr}
theorem iV:aH ["_law_script","_law_chart_here","_law_most","_law_found_here","_law_said_first","_law_rows","_law_stands","_law_run","_law_k","_law_kept","_law_again"] ["_law_script"] (aA uO):=fO
theorem ZR{m':Nat}{f g1 g2 g3 g4 g5 g6 g7 g8 g9:Addr}{fd d1 d2 d3 d4 d5 d6 d7 d8 d9:FuncData}(F:cz K "law" "law" uO f fd)
  (Uq:aG P w K mg base aY m' g1 d1 ["_law_script"] (ud.Kr K)) (Ue:Binds K d1 ["_law_script"] []) (Ss:KI K g1) (S6:mg "_law_chart" = some (.ref g1))
  (aW:aG P w K mg base aY m' g2 d2 ["_law_script","_law_k","_law_salt"] (kZ K)) (aV:Binds K d2 ["_law_script","_law_k","_law_salt"] []) (aU:KI K g2) (aR:mg "_law_mixed" = some (.ref g2))
  (Uo:aG P w K mg base aY m' g3 d3 ["_law_chart_here","_law_most"] (Kp 3)) (Uc:Binds K d3 ["_law_chart_here","_law_most"] []) (Sh:KI K g3) (Rz:mg "_law_found" = some (.ref g3))
  (KQ:aG P w K mg base (qY P w) m' g4 d4 ["chart","most"] (Hy CT 3)) (K1:Binds K d4 ["chart","most"] []) (k_flat:KI K g4) (JR:mg "flat" = some (.ref g4))
  (Dl:aG P w K mg base aY m' g5 d5 ["chart"] (BP 3)) (DX:Binds K d5 ["chart"] []) (Ca:KI K g5) (CG:mg "begun" = some (.ref g5))
  (oJ:aG P w K mg base aY m' g6 d6 ["_law_found_here","_law_due"] ux) (oA:Binds K d6 ["_law_found_here","_law_due"] []) (nZ:KI K g6) (nR:mg "_law_texts" = some (.ref g6))
  (xV:aG P w K mg base aY m' g7 d7 ["_law_record"] Ay) (xQ:Binds K d7 ["_law_record"] []) (wX:KI K g7) (wM:mg "_law_words" = some (.ref g7))
  (qB4:aG P w K mg base aY m' g8 d8 ["_law_chart_here","_law_row_here","_law_stand","_law_stands"] (qC5 3)) (qAV:Binds K d8 ["_law_chart_here","_law_row_here","_law_stand","_law_stands"] []) (Zu:KI K g8) (Zf:mg "_law_row" = some (.ref g8))
  (KC:aG P w K mg base aY m' g9 d9 ["_law_rows"] Y0) (Ju:Binds K d9 ["_law_rows"] []) (JV:KI K g9) (JG:mg "_law_ordered" = some (.ref g9))
  (aP:mg "len" = none) (az:mg "range" = none) (aq:mg "isinstance" = none) (aM:mg "tuple" = none) (fK:mg "list" = none) (Fz:mg "int" = none):aG P w K mg base aY (m'+1) f fd ["_law_script"] (Qa K):=by
 refine F.ok iV (fun vs H Q E h=>?_) (fun cdv A outer s H vs Q E hr h=>?_)
 ·refine aK fun G_ g_=>?_
  obtain⟨a,ns,rfl,_⟩:=h
  refine g_ ?_
  clear g_ G_
  rfl
 refine aK fun G_ g_=>?_
 obtain⟨a,ns,rfl,hS,h63,q⟩:=h
 refine g_ ?_
 clear g_ G_
 refine⟨_,(zE (zK (i:=1) iV.nd rfl (Or.inl rfl) (zJ Uq hr rfl S6 Ss Ue .nil yE (zA (pv 0) zD)))
  (zE (zK (i:=2) iV.nd rfl (Or.inl rfl) (yC jZ (yC yF zB (yC zY (zJ aW hr rfl aR aU aV .nil yE (zA (pv 0) (zA zB (zA zB zD)))) zB)) (yC fG zB (yA Af rfl Fz PyProof.Rows.boot_int (zA (iG gM (zS zN rfl aP bV (zA (yB zH (pv 1) zB (fun _ _=>rfl)) zD)) zB (zR _)) zD)))))
  (zE (zK (i:=3) iV.nd rfl (Or.inl rfl) (zJ Uo hr rfl Rz Sh Uc .nil yE (zA (pv 1) (zA (pv 2) zD))))
  (zE (yD (zL Im (pv 3) jX (zR _))
  (zG (zO eE))
  zT)
  (zE (yD (bQ (PW.pt (pw_or (dM (cH (zS bW rfl aq xg (zA (pv 3) (zA (gA (v:=.ty "tuple") rfl aM iT rfl) zD))))) (pw_or1 (zL mC (zS zN rfl aP bV (zA (pv 3) zD)) zB (zR _))))))
  (zG (zO eE))
  zT)
  (zE (R1 (pv 3) (Il rfl (il (yJ (i:=4) iV.nd rfl (Or.inl rfl)) (il (yJ (i:=5) iV.nd rfl (Or.inl rfl)) (il (yJ (i:=6) iV.nd rfl (Or.inl rfl)) Bk)))))
  (zE (yD (bQ (PW.pt (pw_or (dM (cH (zS bW rfl aq xg (zA (pv 5) (zA (gA (v:=.ty "list") rfl fK PyProof.Rows.boot_list rfl) zD))))) (pw_or (dM (cH (zS bW rfl aq xg (zA (pv 6) (zA (gA (v:=.ty "list") rfl fK PyProof.Rows.boot_list rfl) zD))))) (pw_or (zL mC (zS zN rfl aP bV (zA (pv 5) zD)) (zS zN rfl aP bV (zA (pv 6) zD)) (zR _)) (pw_or1 (zL gM (zS zN rfl aP bV (zA (pv 5) zD)) (pv 2) (zR _))))))))
  (zG (zO eE))
  zT)
  (zE (zK (i:=7) iV.nd rfl (Or.inl rfl) (zJ Dl hr rfl CG Ca DX .nil yE (zA (pv 1) zD)))
  (zE (yD (bQ (PW.pt (pw_or (zL yG (zS zN rfl aP bV (zA (pv 5) zD)) zB (zR _)) (pw_or (zL (W9 hr.units) (yB yU (pv 6) zB (fun _ _=>rfl)) (yB zH (pv 7) zB (fun _ _=>rfl)) (zR _)) (pw_or1 (dM (cH (zJ oJ hr rfl nR nZ oA .nil yE (zA (pv 4) (zA (zJ xV hr rfl wM wX xQ .nil yE (zA (yB zH (pv 7) zB (fun _ _=>rfl)) zD)) zD))))))))))
  (zG (zO eE))
  zT)
  (zZ (cj PassesOwn.never rfl (cB rfl az (zA (zS zN rfl aP bV (zA (pv 5) zD)) zD)) (yJ (i:=8) iV.nd rfl (Or.inl rfl))
  (zG (yD (bQ (PW.pt (pw_or (zL (WD hr.units) (yB yU (pv 6) (pv 8) (fun _ _=>rfl)) (ir BX (pv 6) lF (lE (pv 8))) rfl) (pw_or1 (dM (cH (zJ qB4 hr rfl Zf Zu qAV .nil yE (zA (pv 1) (zA (yB yU (pv 5) (pv 8) (fun _ _=>rfl)) (zA (yB yU (pv 6) (pv 8) (fun _ _=>rfl)) (zA (pv 6) zD)))))))))))
  (zG (zO eE))
  zT)))
  (zE (yD (dM (cH (zJ KC hr rfl JG JV Ju .nil yE (zA (pv 5) zD))))
  (zG (zO eE))
  zT)
  (zE (zK (i:=9) iV.nd rfl (Or.inl rfl) (zW (zA (yA cL rfl fK PyProof.Rows.boot_list (zA (pv 5) zD)) (zA (yA cL rfl fK PyProof.Rows.boot_list (zA (pv 6) zD)) zD))))
  (zE (yI (R9 jM PySem.F.slot_list_clear PySem.F.type_list_clear Rw (pv 5)))
  (zE (yI (dz jM sy sZ yH (pv 6) (zA (yB yU (pv 6) zB (fun _ _=>rfl)) zD)))
  (zE (zK (i:=10) iV.nd rfl (Or.inl rfl) (zJ KQ hr rfl JR k_flat K1 .nil qCN (zA (pv 1) (zA (pv 2) zD))))
  (zG (zO (q9 (Bo (iG (Li hr.units) (yB zH (pv 10) zB (fun _ _=>rfl)) (yB zH (pv 9) zB (fun _ _=>rfl)) (zR _)) (wG (iG (Li hr.units) (yB zH (pv 10) zB (fun _ _=>rfl)) (yB zH (pv 9) zB (fun _ _=>rfl)) (zR _)))))))))))))))))))))),?_⟩
 refine⟨_,rfl,a,ns,rfl,hS,h63,fun pc c bs ne H1 s1 hX ok V8=>?_⟩
 refine aK fun G_ g_=>?_
 obtain⟨pb,pn,t0,pd0,bv,nv,V5,dv0,h1,h2,h3,h4,h5,h6,h7,h8,h9,h10⟩:=id hX
 refine g_ ?_
 clear g_ G_
 have hb:0<=(if decide ((3:Int) < ((nv.length:Nat):Int))=true then (1:Int) else 0)/\(if decide ((3:Int) < ((nv.length:Nat):Int))=true then (1:Int) else 0)<=1:=by
  split <;> decide
 refine⟨_,rfl,a,ns,5,6,rfl,s1.seq hS,h63,⟨by decide,by decide⟩,⟨by decide,by decide⟩,fun y y0 y1=>(bA ⟨(by show (0:Int) < 4;decide),_,_,rfl,rfl,_,rfl,aF (aL.of h1) rfl (fQ rfl (.inr (aL.of h4)) (bA (.inr ⟨_,rfl,bA ⟨pP (by decide) (by lia),_,_,rfl,rfl,?_⟩⟩)))⟩)⟩
 refine aK fun G_ g_=>?_
 obtain⟨m,em,m1,m8⟩:∃ m:Nat,5+y % 4 - 3 * (if decide ((3:Int) < ((nv.length:Nat):Int))=true then (1:Int) else 0)=(m:Int)/\1<=m/\m<=8:=by
  generalize (if decide ((3:Int) < ((nv.length:Nat):Int))=true then (1:Int) else 0)=b at hb
  exact⟨(5+y % 4 - 3 * b).toNat,by lia,by lia,by lia⟩
 refine g_ ?_
 clear g_ G_
 refine⟨_,rfl,_,rfl,pc,m,c,bs,ne,(by show [V.ref pc,V.int (5+y % 4 - 3 * (if decide ((3:Int) < ((nv.length:Nat):Int))=true then (1:Int) else 0))]++[]=_;rw[em];rfl),hX,ok,bT _,m1,by lia,V8,fun iI s0 BR le0=>⟨fun N fs ms t tw pr as rv sv H2 FR fl Nm Xg ht htw hpr hRw has hSt s2 J8 Ln qCT=>?_,fun H'=>⟨_,rfl,rfl,_,rfl,Q6 rfl (q _)⟩⟩⟩
 have SM:rv.length=N:=by
  rw[hRw.length]
  unfold rowsOf
  rw[bZ,List.length_range]
 have lsv:sv.length=N:=by rw[hSt.length,bZ,fl]
 have N0:0 < N:=by
  obtain⟨tl,e⟩:=fold_zero FR
  rw[e,eV]at fl
  lia
 refine⟨_,rfl,rfl,_,rfl,lQ rfl ?_⟩
 refine⟨fun c' H'=>H2=H'/\c'=false,⟨_,rfl,_,"tuple",_,true,rfl,.tup ht,by rfl,_,rfl,lQ rfl ⟨_,rfl,fQ rfl (.inr (aL.of ht)) ⟨rfl,_,rfl,rfl,rfl⟩⟩⟩,?_⟩
 rintro c' _ ⟨rfl,rfl⟩
 refine lQ rfl ?_
 refine⟨_,rfl,t,_,rfl,aL.of ht,rfl,_,_,rfl,_,_,rfl,_,_,rfl,rfl,?_⟩
 refine⟨fun c' H'=>H2=H'/\c'=false,⟨_,rfl,_,"list",_,true,rfl,.lst hpr,by rfl,_,rfl,lQ rfl ⟨_,rfl,_,"list",_,true,rfl,.lst has,by rfl,_,rfl,lQ rfl ⟨_,rfl,fQ rfl (.inl (aQ.of hpr)) ⟨_,rfl,fQ rfl (.inl (aQ.of has)) ⟨rfl,_,rfl,lQ (by rw[SM,lsv];simp) ⟨_,rfl,fQ rfl (.inl (aQ.of hpr)) ⟨_,rfl,bA ⟨_,rfl,rfl,?_⟩⟩⟩⟩⟩⟩⟩⟩,?_⟩
 ·refine decide_eq_false ?_
  show ¬ ((5+y % 4 - 3 * (if decide ((3:Int) < ((nv.length:Nat):Int))=true then (1:Int) else 0)) < ((rv.length:Nat):Int))
  rw[em]
  lia
 rintro c' _ ⟨rfl,rfl⟩
 refine lQ rfl ?_
 refine⟨_,rfl,pc,c,bs,ne,rfl,hX.mono (aB.of s2),ok,bT _,fun tb psb pwb wvb esb sb H3 BRb jb sob s3 htb hSb qHA npwb hAb leb=>?_⟩
 refine aK fun G_ g_=>?_
 obtain⟨rfl,rfl⟩:=DK BR BRb
 have sX:=s2.trans s3
 have qHH:=s3 _ _ hpr
 have qI4:=s3 _ _ has
 have qI5:=hSt.mono fun _ _ z=>z.mono (aB.of s3)
 obtain⟨tl,efs⟩:=fold_zero FR
 obtain⟨v0,hv0,a0,rfl,ha0⟩:=qI5.get (k:=0) (r:=nl s0) (by rw[efs];rfl)
 obtain⟨xs0,ys0,z1,z2,z3,z4⟩:=vV (K:=K) ha0 hSb (Ws s0)
 refine g_ ?_
 clear g_ G_
 have ls:(bc iI).length<=iI.length:=List.length_filterMap_le _ _
 refine⟨fun c' H'=>aJ H3 H'/\c'=false,⟨_,rfl,fQ rfl (.inl (aQ.of qHH)) ⟨rfl,_,rfl,lQ (decide_eq_false (by rw[SM];intro z;have:=V.int.inj z;lia)) ⟨_,rfl,cC (aQ.of qI4) (yQ (j:=0) hv0) ⟨_,rfl,tb,_,_,V.ref psb,rfl,rfl,aL.of htb,rfl,a0,psb,xs0,ys0,2,rfl,rfl,aL.of z1,aL.of z2,z3,z4,by decide,_,rfl,lQ rfl ⟨_,rfl,_,rfl,tb,_,_,V.ref pwb,rfl,rfl,aL.of htb,rfl,pwb,wvb,iI,rfl,qHA,hAb,by lia,fun tx H4 s4 htx=>⟨tw,tx,bc iI,rfl,(s3.trans s4) _ _ htw,htx,by lia,_,rfl,s4,rfl⟩⟩⟩⟩⟩⟩,?_⟩
 rintro c' H4 ⟨s4,rfl⟩
 refine lQ rfl ?_
 have s24:=s3.trans s4
 refine⟨fun σ' H'=>aJ H2 H'/\∃ o8:Option V,σ'=[some (.ref a),some (.ref pc),some (.int (5+y % 4 - 3 * (if decide ((3:Int) < ((nv.length:Nat):Int))=true then (1:Int) else 0))),some (.ref t),some (.ref tw),some (.ref pr),some (.ref as),some (.ref tb),o8,none,none],?_,?_⟩
 ·refine⟨_,rfl,fQ rfl (.inl (aQ.of (s24 _ _ hpr))) ⟨_,rfl,by lia,by lia,?_⟩⟩
  refine cX (lo:=0) (fun k σ' H'=>aJ H2 H'/\∃ o8:Option V,σ'=[some (.ref a),some (.ref pc),some (.int (5+y % 4 - 3 * (if decide ((3:Int) < ((nv.length:Nat):Int))=true then (1:Int) else 0))),some (.ref t),some (.ref tw),some (.ref pr),some (.ref as),some (.ref tb),o8,none,none])
   ⟨s24,_,rfl⟩ ?_ (fun _ _ z=>z)
  rintro k σ' H5 hk aZ
  refine aK fun G_ g_=>?_
  obtain⟨s5,o8,rfl⟩:=aZ
  have hkN:k < N:=by lia
  have Em:=s2.trans s5
  have Cm:=s5 _ _ has
  have Oi:=hSt.mono fun _ _ z=>z.mono (aB.of s5)
  obtain⟨⟨sk,pk⟩,hfk⟩:∃ x,fs[k]? = some x:=⟨_,fu (by lia)⟩
  obtain⟨vk,hvk,ak,rfl,hak⟩:=Oi.get (k:=k) (r:=sk) (by rw[cZ,hfk];rfl)
  have hat:sY sv (0+(k:Int))=some (.ref ak):=by rw[Int.zero_add];exact yQ hvk
  obtain⟨vr,hvr,hrow⟩:=hRw.get (k:=k) (r:=rowAt c ne fs ms k) (by unfold rowsOf;rw[cZ,qB9 hkN];rfl)
  refine g_ ?_
  clear g_ G_
  have qHY:sY rv (0+(k:Int))=some vr:=by rw[Int.zero_add];exact yQ hvr
  refine⟨fun c' H'=>aJ H5 H'/\c'=false,?_,?_⟩
  ·refine⟨_,rfl,_,rfl,cC (aQ.of Cm) hat ⟨_,rfl,_,rfl,_,rfl,as,sv,rfl,aQ.of Cm,fun pz hpz=>?_⟩⟩
   rw[Int.zero_add,MP sv (by lia)]
   have s6:=zF hpz (.lst (sv.take k))
   have i6:upd H5 pz (.lst (sv.take k)) pz=some (.lst (sv.take k)):=zC
   generalize upd H5 pz (.lst (sv.take k))=H6 at s6 i6 ⊢
   refine⟨pz,_,3,rfl,aQ.of i6,by decide,fun z hz=>?_,_,rfl,lQ rfl ?_⟩
   ·refine aK fun G_ g_=>?_
    obtain⟨j,hj,e⟩:=List.mem_iff_getElem.mp hz
    refine g_ ?_
    clear g_ G_
    rw[gG]at hj
    have hjk:j < k:=by lia
    have ez:sv[j]? = some z:=by
     rw[List.getElem_take]at e
     rw[fu (by lia),e]
    refine aK fun G_ g_=>?_
    obtain⟨⟨sj,pj⟩,hfj⟩:∃ x,fs[j]? = some x:=⟨_,fu (by lia)⟩
    obtain⟨vj,hvj,aj,rfl,haj⟩:=Oi.get (k:=j) (r:=sj) (by rw[cZ,hfj];rfl)
    refine g_ ?_
    clear g_ G_
    rw[ez]at hvj
    obtain rfl:=kJ hvj
    exact qFG (haj.mono (aB.of s6)) (hak.mono (aB.of s6)) (Om FR hfj hfk (by lia))
   ·have s56:=s5.trans s6
    refine⟨_,rfl,_,rfl,_,rfl,cC (aQ.of (s56 _ _ hpr)) ((by rw[<-Int.zero_add (k:Int)];exact qHY)) ⟨_,rfl,_,rfl,cC (aQ.of (s6 _ _ Cm)) ((by rw[<-Int.zero_add (k:Int)];exact hat)) ⟨_,rfl,pc,ak,as,vr,c,bs,ne,N,k,sk,s0,pk,fs,ms,sv,rfl,hX.mono (aB.of (s2.trans s56)),ok,bT _,V8,FR,fl,by lia,Xg,hfk,hrow.mono (aB.of s56),hak.mono (aB.of s6),s6 _ _ Cm,Oi.mono (fun _ _ z=>z.mono (aB.of s6)),fun H7 s7=>⟨_,rfl,s6.trans s7,rfl⟩⟩⟩⟩
  ·rintro c' H7 ⟨s7,rfl⟩
   exact lQ rfl ⟨s5.trans s7,_,rfl⟩
 rintro _ H5 aZ
 refine aK fun G_ g_=>?_
 obtain⟨s5,o8,rfl⟩:=aZ
 refine g_ ?_
 clear g_ G_
 have T9:=s5 _ _ hpr
 have Cm:=s5 _ _ has
 have qE1:=hRw.mono fun _ _ z=>dW.mono z (aB.of s5)
 have Oi:=hSt.mono fun _ _ z=>z.mono (aB.of s5)
 refine⟨_,rfl,pr,rv,c,ne,N,s0,fs,ms,rfl,T9,qE1,FR,fl,by lia,V8,_,rfl,lQ rfl ?_⟩
 refine⟨_,rfl,fQ rfl (.inl (aQ.of T9)) (fun NP TF=>?_)⟩
 have s6:=zF TF (.lst rv)
 have i6:upd H5 NP (.lst rv) NP=some (.lst rv):=zC
 generalize upd H5 NP (.lst rv)=H6 at s6 i6 ⊢
 refine⟨_,rfl,fQ rfl (.inl (aQ.of (s6 _ _ Cm))) (fun Ik Jd=>⟨zI (by show 2<=1000;decide),fun pk TJ=>?_⟩)⟩
 have s7:=zF Jd (.lst sv)
 have i7:upd H6 Ik (.lst sv) Ik=some (.lst sv):=zC
 generalize upd H6 Ik (.lst sv)=H7 at s7 i7 TJ ⊢
 have s8:=zF TJ (.tup [V.ref NP,V.ref Ik])
 have i8:upd H7 pk (.tup [V.ref NP,V.ref Ik]) pk=some (.tup [V.ref NP,V.ref Ik]):=zC
 generalize upd H7 pk (.tup [V.ref NP,V.ref Ik])=H8 at s8 i8 ⊢
 have s58:=s6.trans (s7.trans s8)
 have qAF:=s58 _ _ T9
 have qI3:=s58 _ _ Cm
 have i18:=s8 _ _ (s7 _ _ i6)
 have i28:=s8 _ _ i7
 have n1:NP ≠ pr:=fun z=>by rw[z,T9]at TF;cases TF
 have n2:Ik ≠ pr:=fun z=>by rw[z,s6 _ _ T9]at Jd;cases Jd
 have n3:NP ≠ as:=fun z=>by rw[z,Cm]at TF;cases TF
 have n4:Ik ≠ as:=fun z=>by rw[z,s6 _ _ Cm]at Jd;cases Jd
 refine⟨_,rfl,.inl ⟨rfl,_,aQ.of qAF⟩,pr,_,rfl,rfl,qAF,?_⟩
 have k9:=aB.lst qAF (.lst [])
 have r9:∀ b,b ≠ pr->upd H8 pr (.lst []) b=H8 b:=fun b z=>zQ z
 generalize upd H8 pr (.lst [])=H9 at k9 r9 ⊢
 have X3:H9 as=some (.lst sv):=by rw[r9 _ (Ne.symm qCT)];exact qI3
 refine aK fun G_ g_=>?_
 obtain⟨v5,hv5,a5,rfl,ha5⟩:=Oi.get (k:=0) (r:=nl s0) (by rw[efs];rfl)
 refine g_ ?_
 clear g_ G_
 refine⟨_,rfl,.inl ⟨rfl,_,aQ.of X3⟩,_,rfl,cC (aQ.of X3) (yQ (j:=0) hv5) ⟨as,_,_,rfl,rfl,X3,zV (by lia),?_⟩⟩
 have k10:=aB.lst X3 (.lst (sv++[.ref a5]))
 have r10:∀ b,b ≠ as->upd H9 as (.lst (sv++[.ref a5])) b=H9 b:=fun b z=>zQ z
 generalize upd H9 as (.lst (sv++[.ref a5]))=HF at k10 r10 ⊢
 have qDD:aB H5 HF:=((aB.of s58).trans k9).trans k10
 have qH4:aB H2 HF:=(aB.of s5).trans qDD
 have j1:HF NP=some (.lst rv):=by rw[r10 _ n3,r9 _ n1];exact i18
 have j2:HF Ik=some (.lst sv):=by rw[r10 _ n4,r9 _ n2];exact i28
 have j3:HF pk=some (.tup [V.ref NP,V.ref Ik]):=(k9.trans k10) _ _ i8
 refine⟨_,rfl,_,rfl,pc,m,c,bs,ne,(by show [V.ref pc,V.int (5+y % 4 - 3 * (if decide ((3:Int) < ((nv.length:Nat):Int))=true then (1:Int) else 0))]++[]=_;rw[em];rfl),(hX.mono (aB.of s2)).mono qH4,ok,bT _,m1,by lia,V8,fun es0' s0' BR' le0'=>⟨fun N' fs' rM t' tw' pr' as' rv' sv' Xk FR' Jj Nm' aok' ht' htw' qHI qAK Je qAJ HY _ _ _=>?_,fun i fs' rM FR' Jj=>?_⟩⟩
 ·refine aK fun G_ g_=>?_
  obtain⟨rfl,rfl⟩:=DK BR BR'
  obtain⟨rfl,rfl,rfl⟩:=Qn FR fl FR' Jj
  refine g_ ?_
  clear g_ G_
  have qDC:=qDD.trans (aB.of HY)
  have qE2:=qE1.mono fun _ _ z=>dW.mono z qDC
  have qE0:=Oi.mono fun _ _ z=>z.mono qDC
  refine⟨fun v H'=>v = .bl true,?_,?_⟩
  ·refine⟨_,rfl,t',_,_,V.ref pr',rfl,rfl,aL.of ht',rfl,_,rfl,pk,_,_,V.ref NP,rfl,rfl,aL.of (HY _ _ j3),rfl,pr',NP,rv',rv,4,rfl,rfl,aQ.of qHI,aQ.of (HY _ _ j1),by rw[qAK.length,hRw.length],fun j x z hx hz=>?_,by decide,_,rfl,Q6 rfl ?_⟩
   ·have l1:=(mH.mp hx).1
    have e:=fu (l:=rowsOf c ne fs ms N) (i:=j) (by rw[<-qAK.length];exact l1)
    refine aK fun G_ g_=>?_
    obtain⟨u,hu,zu⟩:=qAK.get e
    obtain⟨u',hu',zu'⟩:=qE2.get e
    refine g_ ?_
    clear g_ G_
    rw[hu]at hx
    rw[hu']at hz
    cases hx
    cases hz
    exact qAP zu zu'
   ·refine⟨_,rfl,t',_,_,V.ref as',rfl,rfl,aL.of ht',rfl,_,rfl,pk,_,_,V.ref Ik,rfl,rfl,aL.of (HY _ _ j3),rfl,as',Ik,sv',sv,3,rfl,rfl,aQ.of Je,aQ.of (HY _ _ j2),by rw[qAJ.length,hSt.length],fun j x z hx hz=>?_,by decide,rfl⟩
    have l1:=(mH.mp hx).1
    have e:=fu (l:=fs.map (·.1)) (i:=j) (by rw[<-qAJ.length];exact l1)
    refine aK fun G_ g_=>?_
    obtain⟨u,hu,b1,rfl,zu⟩:=qAJ.get e
    obtain⟨u',hu',b2,rfl,zu'⟩:=qE0.get e
    refine g_ ?_
    clear g_ G_
    rw[hu]at hx
    rw[hu']at hz
    cases hx
    cases hz
    exact qFE zu zu' rfl
  ·rintro v H' rfl
   exact q _
 ·obtain⟨rfl,rfl⟩:=DK BR BR'
  exact (Rk FR fl Nm FR' Jj).elim
end
end Ao
namespace L2
open PySem
theorem aG.cx{P:Program}{w:World}{K:bO}{mg:Str->Option Value}{base:Heap}{CX:KZ}{k:Nat}{f:Addr}{fd:FuncData}{ps:List Str}{sp:Sp}(F:aG P w K mg base aY k f fd ps sp):aG P w K mg base CX k f fd ps sp:=
 ⟨F.len,fun A outer s H args us vs Q E r e b v h=>codeAny_mono (F.run A outer s H args us vs Q E r e b v h) fun res s' z=>by
  cases res with
  | error e=>exact z.elim
  | ok f=>cases f <;> exact z⟩
end L2
namespace Ao
open PySem L2 qR sS Dh Uk KY jc Ru
section
variable{P:Program}{w:World}{K:bO}{mg:Str->Option Value}{base:Heap}
theorem Nh{f:Addr}{fd:FuncData}(F:cz K "holds" "holds" nA f fd)(dY:Binds K fd ["guard","opening","boxes"] [])(dX:mg "holds" = some (.ref f)):aG P w K mg base aY 3 f fd ["guard","opening","boxes"] (K02.kh 3):=by
 exact K02.An F dY dX 3
theorem Ni{f:Addr}{fd:FuncData}(F:cz K "_law_guard" "_law_guard" iK f fd)(cU:Binds K fd ["_law_number","_law_rooms_here","_law_boxes","_law_high"] [])(cT:mg "_law_guard" = some (.ref f)):aG P w K mg base aY 3 f fd ["_law_number","_law_rooms_here","_law_boxes","_law_high"] (ud.kj 3):=by
 exact ud.all_guard F cU cT 3
end
end Ao
namespace Ao
open PySem L2 qR sS Dh Uk KY Ru
theorem xM(P:Params):qK (KO P) 44 41=true:=by kernel_rfl
theorem Jm(P:Params):Xp (KO P) 44 "ways" := ⟨by kernel_rfl,by kernel_rfl,by kernel_rfl,by kernel_rfl⟩
set_option maxHeartbeats 0 in
theorem law_ok{w:World}{mg:Str->Option Value}{h base:Heap}(X:(KO w.params).In h)(G:h.Ns mainGlobals mg):aG PW w (KO w.params) mg base aY 12 440 X8 ["_law_script"] (Qa (KO w.params)):=by
 have ap {CX:KZ} {k:Nat} {f:Addr} {fd:FuncData} {ps:List Str} {sp:Sp} (h:aG PW w (KO w.params) mg base CX k f fd ps sp):=h
 have mo {x:Str} {a:Addr} (h:NS x a):=PySem.W.mg_of X G (h w.params)
 have mz {x:Str} (h:NZ x):=PySem.W.mg_none_of X G (h w.params)
 have F1:=u1 w.params
 have b1:=F1.binds (ps:=["_law_script","_law_k"]) fun _ _ _ _ _ _=>mL fun _ _=>rfl
 have m1:=mo a1
 have k1:=F1.kp
 have F2:=u2 w.params
 have b2:=F2.binds (ps:=["_law_script","_law_k","_law_salt"]) fun _ _ _ _ _ _=>lL fun _ _ _=>rfl
 have m2:=mo a2
 have k2:=F2.kp
 have F3:=u3 w.params
 have b3:=F3.binds (ps:=["guard","opening","boxes"]) fun _ _ _ _ _ _=>lL fun _ _ _=>rfl
 have m3:=mo a3
 have k3:=F3.kp
 have F4:=u4 w.params
 have b4:=F4.binds (ps:=["chart","stand","event"]) fun _ _ _ _ _ _=>lL fun _ _ _=>rfl
 have m4:=mo a4
 have k4:=F4.kp
 have F5:=u5 w.params
 have b5:=F5.binds (ps:=["rooms","room"]) fun _ _ _ _ _ _=>mL fun _ _=>rfl
 have m5:=mo a5
 have k5:=F5.kp
 have F6:=u6 w.params
 have b6:=F6.binds (ps:=["rooms","room"]) fun _ _ _ _ _ _=>mL fun _ _=>rfl
 have m6:=mo a6
 have k6:=F6.kp
 have F7:=u7 w.params
 have b7:=F7.binds (ps:=["rooms","one","other"]) fun _ _ _ _ _ _=>lL fun _ _ _=>rfl
 have m7:=mo a7
 have k7:=F7.kp
 have F8:=u8 w.params
 have b8:=F8.binds (ps:=["rooms","one","other"]) fun _ _ _ _ _ _=>lL fun _ _ _=>rfl
 have m8:=mo a8
 have k8:=F8.kp
 have F9:=u9 w.params
 have b9:=F9.binds (ps:=["rooms","room"]) fun _ _ _ _ _ _=>mL fun _ _=>rfl
 have m9:=mo a9
 have k9:=F9.kp
 have F10:=u10 w.params
 have b10:=F10.binds (ps:=["rooms","room","goals"]) fun _ _ _ _ _ _=>lL fun _ _ _=>rfl
 have m10:=mo a10
 have k10:=F10.kp
 have F11:=Yr w.params
 have b11:=F11.binds (ps:=["rooms","room","goals"]) fun _ _ _ _ _ _=>lL fun _ _ _=>rfl
 have m11:=mo a11
 have k11:=F11.kp
 have F12:=u12 w.params
 have b12:=F12.binds (ps:=["rooms","under","goals"]) fun _ _ _ _ _ _=>lL fun _ _ _=>rfl
 have m12:=mo a12
 have k12:=F12.kp
 have F13:=Xv w.params
 have b13:=F13.binds (ps:=["rooms","under","opening"]) fun _ _ _ _ _ _=>lL fun _ _ _=>rfl
 have m13:=mo a13
 have k13:=F13.kp
 have F14:=u14 w.params
 have b14:=F14.binds (ps:=["rooms","told"]) fun _ _ _ _ _ _=>mL fun _ _=>rfl
 have m14:=mo a14
 have k14:=F14.kp
 have F15:=u15 w.params
 have b15:=F15.binds (ps:=["rooms","opening","room"]) fun _ _ _ _ _ _=>lL fun _ _ _=>rfl
 have m15:=mo a15
 have k15:=F15.kp
 have F16:=u16 w.params
 have b16:=F16.binds (ps:=["rooms","opening","left","kept"]) fun _ _ _ _ _ _=>wU fun _ _ _ _=>rfl
 have m16:=mo a16
 have k16:=F16.kp
 have F17:=u17 w.params
 have b17:=F17.binds (ps:=["chart","room","others"]) fun _ _ _ _ _ _=>lL fun _ _ _=>rfl
 have m17:=mo a17
 have k17:=F17.kp
 have F18:=u18 w.params
 have b18:=F18.binds (ps:=["chart","stand","event"]) fun _ _ _ _ _ _=>lL fun _ _ _=>rfl
 have m18:=mo a18
 have k18:=F18.kp
 have F19:=u19 w.params
 have b19:=F19.binds (ps:=["deed","boxes","sizes"]) fun _ _ _ _ _ _=>lL fun _ _ _=>rfl
 have m19:=mo a19
 have k19:=F19.kp
 have F20:=u20 w.params
 have b20:=F20.binds (ps:=["deed","boxes","letters"]) fun _ _ _ _ _ _=>lL fun _ _ _=>rfl
 have m20:=mo a20
 have k20:=F20.kp
 have F21:=u21 w.params
 have b21:=F21.binds (ps:=["deeds","boxes","sizes","letters"]) fun _ _ _ _ _ _=>wU fun _ _ _ _=>rfl
 have m21:=mo a21
 have k21:=F21.kp
 have F22:=u22 w.params
 have b22:=F22.binds (ps:=["chart"]) fun _ _ _ _ _ _=>wV fun _=>rfl
 have m22:=mo a22
 have k22:=F22.kp
 have F23:=u23 w.params
 have b23:=F23.binds (ps:=["record"]) fun _ _ _ _ _ _=>wV fun _=>rfl
 have m23:=mo a23
 have k23:=F23.kp
 have F24:=u24 w.params
 have b24:=F24.binds (ps:=["rooms","entered"]) fun _ _ _ _ _ _=>mL fun _ _=>rfl
 have m24:=mo a24
 have k24:=F24.kp
 have F25:=u25 w.params
 have b25:=F25.binds (ps:=["rooms","left"]) fun _ _ _ _ _ _=>mL fun _ _=>rfl
 have m25:=mo a25
 have k25:=F25.kp
 have F26:=u26 w.params
 have b26:=F26.binds (ps:=["steps","boxes","sizes","letters"]) fun _ _ _ _ _ _=>wU fun _ _ _ _=>rfl
 have m26:=mo a26
 have k26:=F26.kp
 have F27:=u27 w.params
 have b27:=F27.binds (ps:=["chart","kept","door"]) fun _ _ _ _ _ _=>lL fun _ _ _=>rfl
 have m27:=mo a27
 have k27:=F27.kp
 have F28:=u28 w.params
 have b28:=F28.binds (ps:=["chart","stand","door","letters"]) fun _ _ _ _ _ _=>wU fun _ _ _ _=>rfl
 have m28:=mo a28
 have k28:=F28.kp
 have F29:=u29 w.params
 have b29:=F29.binds (ps:=["chart","stand","event","letters"]) fun _ _ _ _ _ _=>wU fun _ _ _ _=>rfl
 have m29:=mo a29
 have k29:=F29.kp
 have F30:=u30 w.params
 have b30:=F30.binds (ps:=["chart","stand","record","letters"]) fun _ _ _ _ _ _=>wU fun _ _ _ _=>rfl
 have m30:=mo a30
 have k30:=F30.kp
 have F31:=u31 w.params
 have b31:=F31.binds (ps:=["chart"]) fun _ _ _ _ _ _=>wV fun _=>rfl
 have m31:=mo a31
 have VD:=F31.kp
 have F32:=u32 w.params
 have b32:=F32.binds (ps:=["chart","stand","event"]) fun _ _ _ _ _ _=>lL fun _ _ _=>rfl
 have m32:=mo a32
 have k32:=F32.kp
 have F33:=u33 w.params
 have b33:=F33.binds (ps:=["record"]) fun _ _ _ _ _ _=>wV fun _=>rfl
 have m33:=mo a33
 have k33:=F33.kp
 have F34:=u34 w.params
 have b34:=F34.binds (ps:=["rooms","opening"]) fun _ _ _ _ _ _=>mL fun _ _=>rfl
 have m34:=mo a34
 have k34:=F34.kp
 have F35:=Yq w.params
 have b35:=F35.binds (ps:=["chart","finds","row","event"]) fun _ _ _ _ _ _=>wU fun _ _ _ _=>rfl
 have m35:=mo a35
 have k35:=F35.kp
 have F36:=u36 w.params
 have b36:=F36.binds (ps:=["chart","most"]) fun _ _ _ _ _ _=>mL fun _ _=>rfl
 have m36:=mo a36
 have k36:=F36.kp
 have F37:=u37 w.params
 have b37:=F37.binds (ps:=["_law_k","_law_number"]) fun _ _ _ _ _ _=>mL fun _ _=>rfl
 have m37:=mo a37
 have k37:=F37.kp
 have F38:=u38 w.params
 have b38:=F38.binds (ps:=["_law_number","_law_sizes","_law_events"]) fun _ _ _ _ _ _=>lL fun _ _ _=>rfl
 have m38:=mo a38
 have k38:=F38.kp
 have F39:=u39 w.params
 have b39:=F39.binds (ps:=["_law_script","_law_k","_law_salt","_law_sizes","_law_events"]) fun _ _ _ _ _ _=>Zq fun _ _ _ _ _=>rfl
 have m39:=mo a39
 have k39:=F39.kp
 have F40:=u40 w.params
 have b40:=F40.binds (ps:=["_law_number","_law_rooms_here","_law_boxes","_law_high"]) fun _ _ _ _ _ _=>wU fun _ _ _ _=>rfl
 have m40:=mo a40
 have k40:=F40.kp
 have F41:=u41 w.params
 have b41:=F41.binds (ps:=["_law_script","_law_many"]) fun _ _ _ _ _ _=>mL fun _ _=>rfl
 have m41:=mo a41
 have k41:=F41.kp
 have F42:=u42 w.params
 have b42:=F42.binds (ps:=["_law_script","_law_depths_here","_law_sizes","_law_events"]) fun _ _ _ _ _ _=>wU fun _ _ _ _=>rfl
 have m42:=mo a42
 have k42:=F42.kp
 have F43:=u43 w.params
 have b43:=F43.binds (ps:=["_law_script","_law_many","_law_rooms_here","_law_sizes","_law_events"]) fun _ _ _ _ _ _=>Zq fun _ _ _ _ _=>rfl
 have m43:=mo a43
 have k43:=F43.kp
 have F44:=u44 w.params
 have b44:=F44.binds (ps:=["_law_script"]) fun _ _ _ _ _ _=>wV fun _=>rfl
 have m44:=mo a44
 have k44:=F44.kp
 have F45:=u45 w.params
 have b45:=F45.binds (ps:=["_law_found_here"]) fun _ _ _ _ _ _=>wV fun _=>rfl
 have m45:=mo a45
 have k45:=F45.kp
 have F46:=u46 w.params
 have b46:=F46.binds (ps:=["_law_record"]) fun _ _ _ _ _ _=>wV fun _=>rfl
 have m46:=mo a46
 have k46:=F46.kp
 have F47:=u47 w.params
 have b47:=F47.binds (ps:=["_law_found_here","_law_due"]) fun _ _ _ _ _ _=>mL fun _ _=>rfl
 have m47:=mo a47
 have k47:=F47.kp
 have F48:=u48 w.params
 have b48:=F48.binds (ps:=["_law_chart_here","_law_stand","_law_event","_law_move_here","_law_stands"]) fun _ _ _ _ _ _=>Zq fun _ _ _ _ _=>rfl
 have m48:=mo a48
 have k48:=F48.kp
 have F49:=u49 w.params
 have b49:=F49.binds (ps:=["_law_chart_here","_law_row_here","_law_stand","_law_stands"]) fun _ _ _ _ _ _=>wU fun _ _ _ _=>rfl
 have m49:=mo a49
 have k49:=F49.kp
 have F50:=u50 w.params
 have b50:=F50.binds (ps:=["_law_rows"]) fun _ _ _ _ _ _=>wV fun _=>rfl
 have m50:=mo a50
 have k50:=F50.kp
 have F51:=u51 w.params
 have b51:=F51.binds (ps:=["_law_chart_here","_law_most"]) fun _ _ _ _ _ _=>mL fun _ _=>rfl
 have m51:=mo a51
 have k51:=F51.kp
 have F52:=u52 w.params
 have Ym:=qBG w.params
 have YZ:=Ym.binds (ps:=["self","most"]) fun _ _ _ _ _ _=>mL fun _ _=>rfl
 have qFU:Mk (KO w.params) 141 117:=⟨(qD5 w.params).1,qFS w.params,qDL w.params,(qD5 w.params).2⟩
 have Uz:=qBF w.params
 have qFM:=Uz.binds (ps:=["self","event"]) fun _ _ _ _ _ _=>mL fun _ _=>rfl
 have qDA:Meth (KO w.params) 141 "add" 124:=⟨qFR w.params,qDK w.params,Uz.kp⟩
 have Uy:=qBE w.params
 have qFL:=Uy.binds (ps:=["self"]) fun _ _ _ _ _ _=>wV fun _=>rfl
 have qD9:Meth (KO w.params) 141 "taken" 131:=⟨qFQ w.params,qDJ w.params,Uy.kp⟩
 have Ux:=qBD w.params
 have qFK:=Ux.binds (ps:=["self"]) fun _ _ _ _ _ _=>wV fun _=>rfl
 have qD8:Meth (KO w.params) 141 "waiting" 138:=⟨qFP w.params,qDI w.params,Ux.kp⟩
 have Yl:=qBC w.params
 have qFJ:=Yl.binds (ps:=["self","most"]) fun _ _ _ _ _ _=>mL fun _ _=>rfl
 have qIF:Mk (KO w.params) 306 296:=⟨(qD4 w.params).1,qFO w.params,qDH w.params,(qD4 w.params).2⟩
 have Uw:=qBB w.params
 have YX:=Uw.binds (ps:=["self","stand","path"]) fun _ _ _ _ _ _=>lL fun _ _ _=>rfl
 have YF:Meth (KO w.params) 306 "row_of" 303:=⟨qFN w.params,qDG w.params,Uw.kp⟩
 have Yk:=qBA w.params
 have qFI:=Yk.binds (ps:=["self","ways"]) fun _ _ _ _ _ _=>mL fun _ _=>rfl
 have Cy:=Cy w.params
 have mC0:=mo aC0
 have oZ:=oZ w.params
 have eG:=eG w.params
 have PB:=PB w.params
 have mC1:=mo aC1
 have oY:=oY w.params
 have eF:=eF w.params
 have iu:=iu w.params
 have iH:=iH w.params
 have mC2:=mo aC2
 have mC3:=mo aC3
 have eO:=mz z1
 have qD3:=mz z2
 have qD2:=mz z3
 have dF:=mz z4
 have tR:=mz z5
 have bh:=mz z6
 have fJ:=mz z7
 have Rr:=mz z8
 have Zd:=mz z9
 have nQ:=mz z10
 have YC:=mz z11
 have Ft:=mz z12
 have qD1:=mz z13
 have Yi:=ap (jc.Wa Ym Cy oZ eG)
 have qG1:=ap (jc.ZW Uz Cy oZ eG eO)
 have qG0:=ap (jc.RQ Uy Cy eG eO)
 have qFZ:=ap (jc.Io Ux Cy eG tR)
 have qFX:=ap (WQ Yk (xM w.params) (Jm w.params) mC3 (fE1 w.params) (fE2 w.params) (fE3 w.params) tR)
 have qFY:=ap (ZS Yl PB oY eF iu iH)
 have Yh:=ap (ZP Uw PB oY eF iu iH (xM w.params) (Jo w.params) mC2 qFX.cx qFI eO)
 have G1:=ap (Wf F1 eO)
 have G2:=ap (RV F2 G1 b1 k1 m1 eO qD3)
 have G3:=ap (Nh F3 b3 m3)
 have G4:=ap (HS.J0 F4 G3 b3 k3 m3 Ft)
 have G5:=ap (jc.ZV F5 dF eO)
 have G6:=ap (jc.Ng F6 dF)
 have G7:=ap (jc.WX F7 G5 b5 k5 m5)
 have G8:=ap (jc.Wb F8 (G6.mono (show 1<=2 by decide)) b6 k6 m6 G7 b7 k7 m7)
 have G9:=ap (jc.WY F9 G5 b5 k5 m5 dF)
 have G10:=ap (jc.yW F10 G5 b5 k5 m5 YC)
 have G11:=ap (jc.Iu F11 G9 b9 k9 m9 G10 b10 k10 m10)
 have G12:=ap (jc.Bt F12 G11 b11 k11 m11 eO nQ)
 have G13:=ap (jc.xx F13 G5 b5 k5 m5 nQ)
 have G14:=ap (jc.xu F14 bh)
 have G15:=ap (jc.Iv F15 G13 b13 k13 m13 (G14.mono (show 1<=2 by decide)) b14 k14 m14 nQ bh)
 have G16:=ap (jc.Iw F16 G15 b15 k15 m15 tR bh)
 have G17:=ap (HS.Ir F17 G7 b7 k7 m7 YC)
 have G18:=ap (HS.Nk F18 G4 b4 k4 m4 (G17.mono (show 3<=4 by decide)) b17 k17 m17 nQ)
 have G19:=ap (jc.Iz F19)
 have G20:=ap (jc.Fd F20 Cy qDA qG1 qFM)
 have G21:=ap (jc.Wd F21 (G19.mono (show 1<=2 by decide)) b19 k19 m19 G20 b20 k20 m20)
 have G22:=ap (Ru.Fb F22 bh)
 have G23:=ap (Ru.xr F23)
 have G24:=ap (Ru.FZ F24)
 have G25:=ap (Ru.Bs F25)
 have G26:=ap (Ru.Ip F26 G21 b21 k21 m21)
 have G27:=ap (Ru.Fe F27 eO tR)
 have G28:=ap (Ru.Nf F28 (G8.mono (show 3<=4 by decide)) b8 k8 m8 (G13.mono (show 2<=4 by decide)) b13 k13 m13 G16 b16 k16 m16 G12 b12 k12 m12 (G27.mono (show 1<=4 by decide)) b27 k27 m27 (G25.mono (show 1<=4 by decide)) b25 k25 m25 (G24.mono (show 1<=4 by decide)) b24 k24 m24 G26 b26 k26 m26 (G22.mono (show 1<=4 by decide)) b22 k22 m22 bh nQ)
 have G29:=ap (Ru.WN F29 G18 b18 k18 m18 G28 b28 k28 m28 (G23.mono (show 1<=5 by decide)) b23 k23 m23)
 have G30:=ap (Ru.Nb F30 Cy qD9 (qG0.mono (show 1<=6 by decide)) qFL qD8 (qFZ.mono (show 1<=6 by decide)) qFK G29 b29 k29 m29 eO tR)
 have G31:=ap (Ru.Rh F31 qFU (Yi.mono (show 1<=6 by decide)) YZ mC0 (G12.mono (show 4<=7 by decide)) b12 k12 m12 (G26.mono (show 4<=7 by decide)) b26 k26 m26 (G24.mono (show 1<=7 by decide)) b24 k24 m24 (G22.mono (show 1<=7 by decide)) b22 k22 m22 G30 b30 k30 m30 bh eO)
 have G32:=ap (Ru.Ri F32 Cy qFU (Yi.mono (show 1<=6 by decide)) YZ mC0 (G29.mono (show 6<=7 by decide)) b29 k29 m29 G30 b30 k30 m30)
 have G33:=ap (Ru.WR F33)
 have G34:=ap (RW F34 bh)
 have G35:=ap (WW F35 PB eF iu YF G32 b32 k32 m32 (G33.mono (show 1<=8 by decide)) b33 k33 m33 (Yh.mono (show 3<=8 by decide)) YX bh)
 have G36:=ap (Wc F36 PB eF YF qIF (qFY.mono (show 1<=8 by decide)) qFJ mC1 (G31.mono (show 8<=9 by decide)) b31 VD m31 (G33.mono (show 1<=9 by decide)) b33 k33 m33 (Yh.mono (show 3<=9 by decide)) YX G35 b35 k35 m35 (G34.mono (show 1<=9 by decide)) b34 k34 m34 eO dF bh)
 have G37:=ap (ud.WT F37 eO)
 have G38:=ap (ud.We F38 G37 b37 k37 m37 eO)
 have G39:=ap (ud.Rf F39 G2 b2 k2 m2 G38 b38 k38 m38 dF bh)
 have G40:=ap (Ni F40 b40 m40)
 have G41:=ap (ud.Nj F41 G2 b2 k2 m2 dF qD2)
 have G42:=ap (ud.RT F42 (G2.mono (show 2<=3 by decide)) b2 k2 m2 (G37.mono (show 1<=3 by decide)) b37 k37 m37 G39 b39 k39 m39 (G1.mono (show 1<=3 by decide)) b1 k1 m1 dF eO bh)
 have G43:=ap (ud.Rb F43 (G2.mono (show 2<=3 by decide)) b2 k2 m2 G40 b40 k40 m40 G39 b39 k39 m39 dF eO bh Rr)
 have G44:=ap (ud.Rg F44 (G2.mono (show 2<=4 by decide)) b2 k2 m2 (G1.mono (show 1<=4 by decide)) b1 k1 m1 (G37.mono (show 1<=4 by decide)) b37 k37 m37 (G41.mono (show 3<=4 by decide)) b41 k41 m41 G42 b42 k42 m42 G43 b43 k43 m43 dF bh)
 have G45:=ap (qCQ F45 fJ Rr Zd)
 have G46:=ap (RN F46 bh)
 have G47:=ap (RP F47 eO dF fJ bh qD1)
 have G48:=ap (qCS F48 (G45.mono (show 1<=8 by decide)) b45 k45 m45 G32 b32 k32 m32 (G47.mono (show 1<=8 by decide)) b47 k47 m47 (G46.mono (show 1<=8 by decide)) b46 k46 m46 eO fJ bh)
 have G49:=ap (qCR F49 (G47.mono (show 1<=9 by decide)) b47 k47 m47 G48 b48 k48 m48 eO dF fJ bh)
 have G50:=ap (ZQ F50 eO dF)
 have G51:=ap (Ra F51 G36 b36 k36 m36 mC2 (Jl w.params))
 exact ZR (m':=11) F52 (G44.mono (show 5<=11 by decide)) b44 k44 m44 (G2.mono (show 2<=11 by decide)) b2 k2 m2 G51 b51 k51 m51 (G36.mono (show 10<=11 by decide)) b36 k36 m36 (G31.mono (show 8<=11 by decide)) b31 VD m31 (G47.mono (show 1<=11 by decide)) b47 k47 m47 (G46.mono (show 1<=11 by decide)) b46 k46 m46 (G49.mono (show 10<=11 by decide)) b49 k49 m49 (G50.mono (show 1<=11 by decide)) b50 k50 m50 eO dF fJ bh tR Rr
theorem walk:PySem.W.WalkO QV LS (PySem.W.XL QV []) HK.says PySem.Challenge.rw_nesthall_k32_tables_of_runs.row.toRowW Jt [] (fun f vs=>PySem.call f vs):=by
 refine L2.VP (l:=PySem.Challenge.rw_nesthall_k32_tables_of_runs) (n:=63) (k:=12) (x := "_law_script") (K:=KO) (CX:=fun _=>aY) (sp:=fun w=>Qa (KO w.params)) rfl (by decide) rfl ⟨rfl,by decide,by decide⟩ (fun w h Y=>Y) ?_ (fun _ _ a ns hl _ hS=>⟨a,ns,rfl,hS,hl,fun _=>rfl⟩) fun _ _ _ _ _ z=>z
 intro w mg fa h KX G hmg
 have e:=hmg.symm.trans (PySem.W.mg_of KX G (a52 w.params))
 cases e
 exact⟨X8,fun s v=>.of_eq rfl,fun base _ _=>law_ok KX G⟩
end Ao
open PySem PySem.W PyProof.Rows
set_option maxRecDepth 100000 in
set_option maxHeartbeats 0 in
theorem PySem.Challenge.cw_nesthall_k32_tables_of_runs_holds : PySem.Challenge.rw_nesthall_k32_tables_of_runs.Holds := by
 refine holds_law Ao.said fun said=>?_
 refine PySem.W.holds_open (r:=PySem.Challenge.rw_nesthall_k32_tables_of_runs.row) Ao.left Ao.HK.of Ao.HK.keeps
  (fun s e=>xl_of s (Bool.and_eq_true_iff.mp e).1) XL.keeps Ao.hdef Ao.hthe Ao.hkw
  (fun s e=>recFacts_of (Bool.and_eq_true_iff.mp e).2) rfl said Ao.hok Ao.hbare ?hw Ao.walk
 case hw=>w_witness2
